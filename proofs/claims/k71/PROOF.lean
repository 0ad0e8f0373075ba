import PyProof.Rows.All
import Wide.All
import OpenK.AllK
import Wide.FinOn
import Lean
import PyProof.EqAt
import PyProof.EqKinds
import PyProof.TupleCall
import PyProof.CompFree
import PyProof.P3Eq
import PyProof.Draws
import PyProof.EnumMake
import PyProof.WalksMore
import PyProof.StrLawsIn
import KE.KDictOf
import PyProof.ZipIter
import PyProof.WalkInts
import PyProof.SeqI3
import KE.KIntText
import PyProof.AutoListH
import PyProof.Rows.SortShellK
import PyProof.Rows.SortStr
import KE.KDictSum
import PyProof.CollectIter
import PyProof.TupleOfGen
import PyProof.ListRange
import KE.KRevIter
import PyProof.CollectWalk
import PyProof.ListNew
import KE.KItemsList
import KE.KDictList
import PyProof.DictTruth
import PyProof.DictWalks
import PyProof.Rows.StrMeet
import PyProof.StrLawsRepr
import PyProof.ExcClass2
import PyProof.ExcBaseAll.ValueError
import PyProof.InstStore
import PyProof.InstStoreFacts
import PyProof.StationsW
import PyProof.ExcArgsOwn
import PyProof.ExcAttrAll.ValueError
import PyProof.FString
import PyProof.FitsInt
import PyProof.PureStr
import PyProof.Rows.FactsFmt
import OpenK.KRaise
import PyProof.RulesAs
import PyProof.RulesDel
import KE.KMinKey
import PyProof.Rows.CallKwBuiltin
import PyProof.Rows.CountFlat
import PySem.Challenge.RW_breakwords_k71_texts_refused
namespace PySem.W.Fast
def tw13665070857020989387:=0
def tw8563544776154261267:=0
def tw5715332700334276383:=0
def tw16123457052314755365:=0
def tw17896154684674659438:=0
def tw12138359843039054242:=0
def tw14733899156330032512:=0
def tw2057609490112358956:=0
def tw7508768825160294459:=0
def tw8996588368870573815:=0
def tw8697505200710565227:=0
def tw10957413746606255347:=0
def tw6550492594726038226:=0
def tw13702581691426952749:=0
def tw8547626182034212477:=0
def tw2161277897585303288:=0
def tw3626437655739869616:=0
def tw13226151792441318215:=0
def tw8270378367988187584:=0
def tw16160081298356218399:=0
def tw7596801892200422066:=0
def tw10145376516864090665:=0
def tw12020393951187578101:=0
def tw1343143937609759650:=0
def tw4083387024324887674:=0
def tw14940246360140161485:=0
def tw7359456205857704313:=0
def tw8063064977979834929:=0
def tw16377640506545572927:=0
def tw7531851281221661384:=0
def tw10695405683410175222:=0
def tw9256126158761463018:=0
def tw6538312265065616645:=0
def tw18058273813058514904:=0
def tw2579947192438510462:=0
def tw7140139253808995198:=0
def tw5930395196543909366:=0
def tw7661724956179304401:=0
def tw9068345189897211780:=0
def tw14136885461525616750:=0
def tw12626085128083863816:=0
def tw14131389254709179457:=0
def tw7833610465914231833:=0
def tw3334613960294123570:=0
def tw2101343609217671744:=0
def tw10225679964967659244:=0
def tw13183840737804344116:=0
def tw13623006174085891061:=0
def tw10217566619298593265:=0
def tw2737975877216850772:=0
def tw12218646034504596875:=0
def tw2986303120056518098:=0
def tw1816232340013482346:=0
def tw7562422773060583281:=0
def tw1539093615625078832:=0
def tw6979473970097915758:=0
def tw11289960240024765825:=0
def tw6207445550147231005:=0
def tw2951553545700300574:=0
def tw3753912259528246179:=0
def tw12957048279185300849:=0
def tw1583563189843831695:=0
def tw16567753205537394659:=0
def tw18212986543764425853:=0
def tw12378748079704573551:=0
def tw17595256496839649892:=0
def tw5691578227086163912:=0
def tw4613676517570399582:=0
def tw12220108757984591574:=0
def tw16752957538924669131:=0
def tw6331156584977021062:=0
def tw16922257217493800570:=0
def tw8336574239659243221:=0
def tw4271965117591929486:=0
def tw8997882149885413976:=0
def tw14962091123582833907:=0
def tw678640918503645964:=0
def tw3431336650616867203:=0
def tw15091815939274797241:=0
def tw1675585777408715654:=0
def tw2573802593774426753:=0
def tw6661722806935309884:=0
def tw13911577622955829919:=0
def tw4784363142960485750:=0
def tw11627009790900249645:=0
def tw13954272700051270326:=0
def tw13593802713912870441:=0
def tw207486417134533385:=0
def tw4467932700466440819:=0
def tw14848585935621537406:=0
def tw11100915846130169484:=0
def tw2639919826344284313:=0
def tw17570809921003750229:=0
def tw8631293882826417418:=0
def tw199123632514864527:=0
def tw13169205969486830290:=0
def tw5358851573648325771:=0
def tw11679991714279229240:=0
def tw10764857327384217264:=0
def tw1245879471421001196:=0
def tw18249438755261140181:=0
def tw843483144970069975:=0
def tw12868774394820134697:=0
def tw1132020551908148700:=0
def tw11618071640650262315:=0
def tw3729227051762856956:=0
def tw7017644646643158111:=0
def tw12117023767645253187:=0
def tw54518195799402390:=0
def tw17412366869232835404:=0
def tw5870802097319381374:=0
def tw14117944399092262750:=0
def tw6752902109560848360:=0
def tw12465219373913881830:=0
def tw17607554904766379460:=0
def tw11779013792983997843:=0
def tw4276732409958736426:=0
def tw9699011513582845432:=0
def tw11504719379519757512:=0
def tw17401380130395370794:=0
def tw11697782799703522594:=0
def tw7431082766989286051:=0
def tw1550417335767945086:=0
def tw18178784172324559745:=0
def tw1111126485257942357:=0
def tw10146906310334542671:=0
def tw7575770456530387221:=0
def tw3622054378656825456:=0
def tw8388235625488789114:=0
def tw17694592178607390167:=0
def tw17248415722213907647:=0
def tw10575246170138470526:=0
def tw15139953065574979694:=0
def tw4980368241715617708:=0
def tw12949240521596597442:=0
def tw4144777740019714244:=0
def tw9220795666627823851:=0
def tw6149968471797075465:=0
def tw4171021483363195472:=0
def tw2615366711293632113:=0
def tw3021253258503243223:=0
def tw13908106907280536847:=0
def tw6460819348125483504:=0
def tw14753307409431712308:=0
def tw17626966070836932604:=0
def tw15271676812157710649:=0
def tw11018239364167697168:=0
def tw3399572422352466322:=0
def tw3081680908125713083:=0
def tw7623333688273236895:=0
def tw1665414169749616809:=0
def tw15053981655541918586:=0
def tw7723992105528133927:=0
def tw1126368665908624184:=0
def tw14707760128208460404:=0
def tw4954165165895008298:=0
def tw17394513289709930695:=0
def tw7958015400578836638:=0
def tw3170676853650392782:=0
def tw5729621821577663552:=0
def tw17246140700508721027:=0
def tw16446508375829609789:=0
def tw14905036126357390288:=0
def tw13936212731216182939:=0
def tw10654514000031780021:=0
def tw2828679469182108949:=0
def tw12627732322174759432:=0
def tw615055458821247218:=0
def tw7844951921155037263:=0
def tw859513159136222881:=0
def tw18405100785556923657:=0
def tw13428356740392758361:=0
def tw1658127901988741600:=0
def tw11382054975994386134:=0
def tw14614768052190822517:=0
def tw4799356582589890842:=0
def tw10974622623818901295:=0
def tw10159700762773849639:=0
def tw8065920316771711089:=0
def tw1709485221024302952:=0
def tw12547003667737565597:=0
def tw11051255786728136214:=0
def tw2086985113806227082:=0
def tw9190286735038596376:=0
def tw10275704666591776080:=0
def tw9396557073698874065:=0
def tw16335409255931792871:=0
def tw9181644448848271782:=0
def tw4590575453732947999:=0
def tw6913366248893098849:=0
def tw16093831575163744301:=0
def tw8691785210636141826:=0
def tw2476556393805514207:=0
def tw9626454703927201483:=0
def tw484609875231238966:=0
def tw12336070666056545107:=0
def tw7358230069037499550:=0
def tw16628143223255680160:=0
def tw3337078505603714864:=0
def tw5983427178397790672:=0
def tw7337174811771037643:=0
def tw17856172960947838052:=0
def tw8562822447793729151:=0
def tw18368452191191913240:=0
def tw16151834451845926855:=0
def tw768329261344042975:=0
def tw445771645654214493:=0
def tw13693218966588598221:=0
def tw13956899647392486366:=0
def tw3944405531976372798:=0
def tw11556299594715507815:=0
def tw243137885292842150:=0
def tw2306616532449761130:=0
def tw10979155995364849460:=0
def tw2512480962190955505:=0
def tw4542105497586229551:=0
def tw7066150948628629132:=0
def tw17734224233936561744:=0
def tw7194999362643029371:=0
def tw3163937864969800001:=0
def tw14801005492419860755:=0
def tw643552593749806003:=0
def tw4547376489150444174:=0
def tw2924774772146312307:=0
def tw9633984305573706772:=0
def tw15432693568773477721:=0
def tw4294799224543625363:=0
def tw11866253131171840198:=0
def tw10889662834044568699:=0
def tw6405718451878891616:=0
def tw3233073852335750718:=0
def tw15456888058919678336:=0
def tw11258676761433004304:=0
def tw8140733967103861495:=0
def tw1953042486611348682:=0
def tw14484206752311096431:=0
def tw12923826123058640938:=0
def tw18065336226121190487:=0
def tw12382510378025117568:=0
def tw7542918046294992803:=0
def tw8818672516726662758:=0
def tw453726292159856414:=0
def tw14810572401940646797:=0
def tw8603204286012961342:=0
def tw7932883274928586230:=0
def tw11923162384772164606:=0
def tw8571807286899861797:=0
def tw10317985323009731599:=0
def tw9708613348210731344:=0
def tw10621536719177592114:=0
def tw14595067090190863460:=0
def tw17978626852062236012:=0
def tw938954939232516477:=0
def tw1369819992387009968:=0
def tw1262020555730787436:=0
def tw17724441791927007619:=0
def tw3549449210468525344:=0
def tw17889665939507999976:=0
def tw10795980107051295481:=0
def tw10479659091454678739:=0
def tw5337839978655965548:=0
def tw9164351417729930384:=0
def tw7003233424201063549:=0
def tw5085763727920559539:=0
def tw7531348058996580064:=0
def tw15951255082220648479:=0
def tw10711240999022821374:=0
def tw10608825259513318771:=0
def tw10635785301053339131:=0
end PySem.W.Fast
set_option Elab.async false
set_option linter.all false
set_option maxRecDepth 100000
namespace L2
open PySem PySem.Spec PyProof.Rows
abbrev Key:=Sum Int Str
def keyIs:Key→Value→Bool
 | .inl k,v=>Value.isInt k v
 | .inr x,v=>Value.isStrOf x v
def keyH (w:World):Key→Int
 | .inl k=>hashInt k
 | .inr x=>hashStr w x
theorem za_:∀{k:Key} {v:Value},keyIs k v=true→(∃ i t,k=Sum.inl i∧v=Value.int i t)∨(∃ x t,k=Sum.inr x∧v=Value.str x t)
 | .inl i,v,h=>by
  obtain⟨t,e⟩:=Value.isInt_shape (k:=i) (v:=v) h
  exact .inl ⟨i,t,rfl,e⟩
 | .inr x,v,h=>by
  obtain⟨t,e⟩:=Value.isStrOf_shape (x:=x) (v:=v) h
  exact .inr ⟨x,t,rfl,e⟩
theorem keyIs_int (i:Int) (t:Tok):keyIs (.inl i) (.int i t)=true:=by simp[keyIs,Value.isInt]
theorem keyIs_str (x:Str) (t:Tok):keyIs (.inr x) (.str x t)=true:=by simp[keyIs,Value.isStrOf]
theorem key_ll (a b:Int):decide ((Sum.inl a:Key)=Sum.inl b)=(a == b):=by
 by_cases e:a=b
 ·subst e;simp
 ·have h:¬ (Sum.inl a:Key)=Sum.inl b:=fun q=>e (Sum.inl.inj q)
  rw[decide_eq_false h]
  exact(beq_eq_false_iff_ne.mpr e).symm
theorem key_rr (a b:Str):decide ((Sum.inr a:Key)=Sum.inr b)=decide (a=b):=by
 by_cases e:a=b
 ·subst e;simp
 ·have h:¬ (Sum.inr a:Key)=Sum.inr b:=fun q=>e (Sum.inr.inj q)
  rw[decide_eq_false h,decide_eq_false e]
theorem key_lr (a:Int) (b:Str):decide ((Sum.inl a:Key)=Sum.inr b)=false:=decide_eq_false (fun q=>nomatch q)
theorem key_rl (a:Str) (b:Int):decide ((Sum.inr a:Key)=Sum.inl b)=false:=decide_eq_false (fun q=>nomatch q)
def zc_ (prog:Program) (w:World):PySem.KeyKind prog w Key where
 is:=keyIs
 hash:=keyH w
 inj:=fun v a b ha hb=>by
  rcases za_ ha with ⟨i,t,rfl,rfl⟩ | ⟨x,t,rfl,rfl⟩
  ·rcases za_ hb with ⟨j,u,rfl,e⟩ | ⟨y,u,rfl,e⟩
   ·injection e with e1 _;rw[e1]
   ·exact nomatch e
  ·rcases za_ hb with ⟨j,u,rfl,e⟩ | ⟨y,u,rfl,e⟩
   ·exact nomatch e
   ·injection e with e1 _;rw[e1]
 byValue:=fun k v h=>by
  rcases za_ h with ⟨i,t,rfl,rfl⟩ | ⟨x,t,rfl,rfl⟩ <;> rfl
 pyHash:=fun hv h=>by
  rcases za_ hv with ⟨i,t,rfl,rfl⟩ | ⟨x,t,rfl,rfl⟩
  ·exact wpAny_pyHash_int h
  ·exact wpAny_pyHash_str h
 eqBool:=fun hu hv h=>by
  rcases za_ hu with ⟨i,t,rfl,rfl⟩ | ⟨x,t,rfl,rfl⟩
  ·rcases za_ hv with ⟨j,u,rfl,rfl⟩ | ⟨y,u,rfl,rfl⟩
   ·rw[key_ll] at h;exact wpAny_eqBool_int h
   ·rw[key_lr] at h;exact SeqAt.EqAt.int_str i t y u _ _ _ _ h
  ·rcases za_ hv with ⟨j,u,rfl,rfl⟩ | ⟨y,u,rfl,rfl⟩
   ·rw[key_rl] at h;exact SeqAt.EqAt.str_int x t j u _ _ _ _ h
   ·rw[key_rr] at h;exact wpAny_eqBool_str h
 «strs»:=fun k x t v h=>by
  rcases za_ h with ⟨i,u,rfl,e⟩ | ⟨y,u,rfl,e⟩
  ·exact nomatch e
  ·injection e with e1 _
   subst e1
   cases v <;> rfl
theorem mixKind_int (prog:Program) (w:World) (i:Int) (t:Tok):(zc_ prog w).is (.inl i) (.int i t)=true:=keyIs_int i t
theorem mixKind_str (prog:Program) (w:World) (x:Str) (t:Tok):(zc_ prog w).is (.inr x) (.str x t)=true:=keyIs_str x t
end L2
namespace L2
open PySem PySem.Spec PyProof.Rows
inductive V where
 | non | bl (b:Bool) | int (i:Int) | str (x:Str) | byt (b:Array UInt8) | flt (b:UInt64) | ref (a:Addr) | ty (n:String)
 deriving DecidableEq
def RelV:V→Value→Prop
 | .non,u=>u=Value.none
 | .bl b,u=>u=Value.bool b
 | .int i,u=>∃ t,u=Value.int i t
 | .str x,u=>∃ t,u=Value.str x t
 | .byt b,u=>∃ t,u=Value.bytes b t
 | .flt b,u=>∃ t,u=Value.float b t
 | .ref a,u=>u=Value.ref a
 | .ty n,u=>u=Value.type n
abbrev Vals:List V→List Value→Prop:=Paired RelV
theorem Vals.length {xs:List V} {us:List Value} (r:Vals xs us):xs.length=us.length:=Paired.length r
theorem Vals.get:∀{xs:List V} {us:List Value} {i:Nat} {x:V},Vals xs us→xs[i]?=some x→∃ u,us[i]?=some u∧RelV x u
 | _,_,_,_,.nil,e=>by simp at e
 | _,_,0,_,.cons r _,e=>by simp at e;subst e;exact⟨_,rfl,r⟩
 | _,_,i+1,x,.cons _ t,e=>by
  obtain⟨u,h1,h2⟩:=Vals.get (i:=i) (x:=x) t (by simpa using e)
  exact⟨u,by simpa using h1,h2⟩
theorem Vals.set {x:V} {u:Value} (r:RelV x u):∀{xs:List V} {us:List Value} (i:Nat),Vals xs us→Vals (xs.set i x) (us.set i u)
 | _,_,_,.nil=>.nil
 | _,_,0,.cons _ t=>.cons r t
 | _,_,i+1,.cons q t=>.cons q (Vals.set r i t)
theorem Vals.append:∀{xs ys:List V} {us ws:List Value},Vals xs us→Vals ys ws→Vals (xs++ys) (us++ws)
 | _,_,_,_,.nil,s=>s
 | _,_,_,_,.cons r t,s=>.cons r (Vals.append t s)
theorem Vals.take:∀{xs:List V} {us:List Value} (n:Nat),Vals xs us→Vals (xs.take n) (us.take n)
 | _,_,0,_=>.nil
 | _,_,_+1,.nil=>.nil
 | _,_,n+1,.cons r t=>.cons r (Vals.take n t)
theorem Vals.drop:∀{xs:List V} {us:List Value} (n:Nat),Vals xs us→Vals (xs.drop n) (us.drop n)
 | _,_,0,r=>r
 | _,_,_+1,.nil=>.nil
 | _,_,n+1,.cons _ t=>Vals.drop n t
def RelO:Option V→Option Value→Prop
 | some v,some u=>RelV v u
 | none,none=>True
 | _,_=>False
def KV {κ:Type}:List (κ×V)→List (κ×Value)→Prop:=Paired fun(p:κ×V) (q:κ×Value)=>p.1=q.1∧RelV p.2 q.2
def kV:Key→V
 | .inl i=>.int i
 | .inr x=>.str x
inductive HO where
 | lst (xs:List V)
 | tup (xs:List V)
 | dK (kvs:List (Key×V)) | dT (kvs:List (List Key×V))
 | set (S:Int→Bool) (n:Nat)
 | ins (C dx:Addr) (fs:List (Str×V))
 | own (x:Addr)
 | xd (fs:List (Str×V))
 | met (f x:Addr)
 | rng (lo hi:Int)
 | frz (o:Obj) (u:HO)
 | tbl (ps:Array Value)
 | ext (φ:Heap→Prop)
abbrev Hp:=Addr→Option HO
def upd (H:Hp) (a:Addr) (o:HO):Hp:=fun b=>if b=a then some o else H b
theorem jb_ {H:Hp} {a:Addr} {o:HO}:upd H a o a=some o:=by unfold upd;rw[if_pos rfl]
theorem jd_ {H:Hp} {a b:Addr} {o:HO} (h:b≠a):upd H a o b=H b:=by unfold upd;rw[if_neg h]
theorem upd_upd {H:Hp} {a:Addr} {o u:HO}:upd (upd H a o) a u=upd H a u:=by
 funext b;unfold upd;split <;> rfl
theorem ne_of {H:Hp} {a b:Addr} {o u:HO} (h:H a=some o) (h':H b=some u) (d:o≠u):a≠b:=by
 intro e;subst e;rw[h] at h';exact d (Option.some.inj h')
theorem je_ {H:Hp} {a b:Addr} {o:HO} (h:H a=some o) (h':H b=none):a≠b:=by
 intro e;subst e;rw[h] at h';cases h'
section
variable (P:Program) (w:World)
def ObjOk (H:Hp) (h:Heap) (a:Addr):HO→Prop
 | .lst xs=>xs.length≤sizeLine∧∃(its:List Value) (n:Nat),Vals xs its∧h.get? a=some { cls:=.type "list",data:=.seq its.toArray n }
 | .tup xs=>xs.length≤sizeLine∧∃ its:List Value,Vals xs its∧IsTup h a its.toArray
 | .dK kvs=>kvs.length≤sizeLine∧(a == sysModules)=false∧∃ vs,KV kvs vs∧h.DictOf (zc_ P w) a vs
 | .dT kvs=>kvs.length≤sizeLine∧(a == sysModules)=false∧∃ xs:List (List Key×Addr×Value),
   Paired (fun(p:List Key×V) (q:List Key×Addr×Value)=>p.1=q.1∧H q.2.1=some (.tup (p.1.map kV))∧RelV p.2 q.2.2) kvs xs ∧
   ∃ o es ep,h.get? a=some o∧o.ExactDict∧o.data=.dict es ep∧es.toList=xs.map (entryOfKey (tupleKind (zc_ P w)))∧(xs.map (·.1)).Nodup
 | .set S n=>h.SetOf (intKind P w) a S n
 | .ins C dx fs=>H dx=some (.own a)∧fs.length≤1000∧dx≠a∧h.get? a=some (PySem.W.instObj C dx) ∧
   ∃ mA,h.Ns1 dx mA∧(∀ f,RelO (fs.lookup f) (mA f))∧PySem.Within mA (fs.map (·.1))
 | .own _=>∃ o,h.get? a=some o
 | .xd fs=>∃ mA,h.Ns1 a mA∧∀ f,RelO (fs.lookup f) (mA f)
 | .rng lo hi=>∃ t u v,h.get? a=some { cls:=.type "range",data:=.fields #[.int lo t,.int hi u,.int 1 v] }
 | .frz o u=>h.get? a=some o∧ObjOk H h a u
 | .tbl ps=>h.get? a=some { cls:=.none,data:=.fields ps }
 | .met f x=>h.get? a=some (PySem.W.methodObj (.ref f) (.ref x))
 | .ext φ=>φ h∧(∃ o,h.get? a=some o)∧∀ h1 h2:Heap,φ h1→(∀ o,h1.get? a=some o→h2.get? a=some o)→φ h2
def HOk (H:Hp) (h:Heap):Prop:=∀ a o,H a=some o→ObjOk P w H h a o
end
section
variable {P:Program} {w:World} {H H':Hp} {h h':Heap} {a:Addr} {o:HO}
theorem ObjOk.lt (x:ObjOk P w H h a o):a < h.objs.size:=by
 cases o with
 | lst xs=>obtain⟨_,_,_,_,e⟩:=x;exact Heap.lt_size e
 | tup xs=>obtain⟨_,_,_,p⟩:=x;exact p.lt
 | dK kvs=>obtain⟨_,_,_,_,o,_,_,e,_⟩:=x;exact Heap.lt_size e
 | dT kvs=>obtain⟨_,_,_,_,o,_,_,e,_⟩:=x;exact Heap.lt_size e
 | set S n=>obtain⟨o,_,_,_,e,_⟩:=x;exact Heap.lt_size e
 | ins C dx fs=>obtain⟨_,_,_,e,_⟩:=x;exact Heap.lt_size e
 | own y=>obtain⟨_,e⟩:=x;exact Heap.lt_size e
 | xd fs=>obtain⟨_,⟨_,_,_,e,_⟩,_⟩:=x;exact Heap.lt_size e
 | rng lo hi=>obtain⟨_,_,_,e⟩:=x;exact Heap.lt_size e
 | frz ob u=>obtain⟨e,_⟩:=x;exact Heap.lt_size e
 | tbl ps=>exact Heap.lt_size (show h.get? a=some _ from x)
 | met f y=>exact Heap.lt_size (show h.get? a=some _ from x)
 | ext φ=>obtain⟨_,⟨_,e⟩,_⟩:=x;exact Heap.lt_size e
theorem Paired.mapP {α β:Type} {F G:α→β→Prop}:∀{l₁:List α} {l₂:List β},Paired F l₁ l₂→(∀ a b,F a b→G a b)→Paired G l₁ l₂
 | _,_,.nil,_=>.nil
 | _,_,.cons r t,f=>.cons (f _ _ r) (Paired.mapP t f)
theorem ObjOk.stay (x:ObjOk P w H h a o) (k:∀ b u,(b=a∨H b=some (.own a))→h.get? b=some u→h'.get? b=some u)
  (ho:∀ b,H b=some (.own a)→H' b=some (.own a)) (ht:∀ b xs,H b=some (.tup xs)→H' b=some (.tup xs)):ObjOk P w H' h' a o:=by
 induction o with
 | lst xs=>obtain⟨z,its,n,r,e⟩:=x;exact⟨z,its,n,r,k _ _ (.inl rfl) e⟩
 | tup xs=>obtain⟨z,its,r,ob,e,c⟩:=x;exact⟨z,its,r,ob,k _ _ (.inl rfl) e,c⟩
 | dK kvs=>obtain⟨z,y,vs,r,ob,es,ep,e,c⟩:=x;exact⟨z,y,vs,r,ob,es,ep,k _ _ (.inl rfl) e,c⟩
 | dT kvs =>
  obtain⟨z,y,xs,r,ob,es,ep,e,c⟩:=x
  exact⟨z,y,xs,Paired.mapP r fun p q z=>⟨z.1,ht _ _ z.2.1,z.2.2⟩,ob,es,ep,k _ _ (.inl rfl) e,c⟩
 | set S n=>obtain⟨ob,es,ep,t,e,c⟩:=x;exact⟨ob,es,ep,t,k _ _ (.inl rfl) e,c⟩
 | ins C dx fs =>
  obtain⟨d,z,ne,e,mA,⟨od,es,ep,e2,c⟩,r⟩:=x
  exact⟨ho _ d,z,ne,k _ _ (.inl rfl) e,mA,⟨od,es,ep,k _ _ (.inr d) e2,c⟩,r⟩
 | own y=>obtain⟨ob,e⟩:=x;exact⟨ob,k _ _ (.inl rfl) e⟩
 | xd fs=>obtain⟨mA,⟨od,es,ep,e,c⟩,r⟩:=x;exact⟨mA,⟨od,es,ep,k _ _ (.inl rfl) e,c⟩,r⟩
 | rng lo hi=>obtain⟨t,u,v,e⟩:=x;exact⟨t,u,v,k _ _ (.inl rfl) e⟩
 | frz ob u ih=>obtain⟨e,q⟩:=x;exact⟨k _ _ (.inl rfl) e,ih q⟩
 | tbl ps =>
  have e:h.get? a=some { cls:=.none,data:=.fields ps }:=x
  show h'.get? a=some { cls:=.none,data:=.fields ps }
  exact k a _ (.inl rfl) e
 | met f y =>
  have e:h.get? a=some (PySem.W.methodObj (.ref f) (.ref y)):=x
  show h'.get? a=some (PySem.W.methodObj (.ref f) (.ref y))
  exact k a _ (.inl rfl) e
 | ext φ=>obtain⟨p,⟨o,e⟩,st⟩:=x;exact⟨st _ _ p fun o q=>k _ _ (.inl rfl) q,⟨o,k _ _ (.inl rfl) e⟩,st⟩
theorem HOk.lt (x:HOk P w H h) (e:H a=some o):a < h.objs.size:=(x a o e).lt
theorem HOk.fresh (x:HOk P w H h) (e:h.objs.size≤a):H a=none:=by
 cases q:H a with
 | none=>rfl
 | some u=>exact absurd (Nat.lt_of_lt_of_le (x.lt q) e) (Nat.lt_irrefl _)
theorem HOk.kept (x:HOk P w H h) (k:∀ b u,h.get? b=some u→h'.get? b=some u):HOk P w H h':=fun a o e =>
 (x a o e).stay (fun b u _ q=>k b u q) (fun _ q=>q) fun _ _ q=>q
theorem HOk.laid (x:HOk P w H h) (k:∀ b u,h.get? b=some u→h'.get? b=some u) (hp:h.objs.size≤a) (new:ObjOk P w (upd H a o) h' a o):HOk P w (upd H a o) h':=fun b u e=>by
 have hn:=x.fresh hp
 by_cases hb:b=a
 ·subst hb;rw[jb_] at e;cases e;exact new
 ·rw[jd_ hb] at e
  exact(x b u e).stay (fun c v _ q=>k c v q) (fun c q=>by rw[jd_ (je_ q hn)];exact q) fun c xs q=>by rw[jd_ (je_ q hn)];exact q
end
def Rd (H:Hp) (a:Addr) (u:HO):Prop:=H a=some u∨∃ o,H a=some (.frz o u)
theorem Rd.ok {P:Program} {w:World} {H:Hp} {h:Heap} {a:Addr} {u:HO} (r:Rd H a u) (x:HOk P w H h):ObjOk P w H h a u:=by
 rcases r with r | ⟨o,r⟩
 ·exact x a u r
 ·obtain⟨_,q⟩:=x a _ r
  exact q
def Mut:Option HO→Prop
 | some (.lst _)=>True
 | some (.dK _)=>True
 | some (.dT _)=>True
 | some (.set _ _)=>True
 | some (.ins _ _ _)=>True
 | some (.ext _)=>True
 | _=>False
section
variable {P:Program} {w:World} {H:Hp} {h h':Heap} {x e:Addr} {o':HO}
theorem HOk.write (ok:HOk P w H h) (mu:Mut (H x)) (he:e=x∨H e=some (.own x)) (k:∀ b u,b≠e→h.get? b=some u→h'.get? b=some u) (heo:∃ u,h'.get? e=some u)
  (new:ObjOk P w (upd H x o') h' x o'):HOk P w (upd H x o') h':=fun b u q=>by
 have nown:∀ c y,H c=some (.own y)→c≠x:=fun c y r z=>by subst z;rw[r] at mu;exact mu
 have ntup:∀ c xs,H c=some (.tup xs)→c≠x:=fun c xs r z=>by subst z;rw[r] at mu;exact mu
 by_cases hb:b=x
 ·subst hb;rw[jb_] at q;cases q;exact new
 ·rw[jd_ hb] at q
  by_cases hbe:b=e
  ·have q':H b=some (.own x):=by
    rcases he with z | z
    ·exact absurd (hbe.trans z) hb
    ·rw[hbe];exact z
   rw[q] at q';cases q'
   obtain⟨v,hv⟩:=heo
   exact⟨v,by rw[hbe];exact hv⟩
  ·refine(ok b u q).stay (fun c v hc r=>k c v ?_ r) (fun c r=>by rw[jd_ (nown c b r)];exact r) fun c xs r=>by rw[jd_ (ntup c xs r)];exact r
   rcases hc with rfl | hc
   ·exact hbe
   ·rintro rfl
    rcases he with z | z
    ·exact nown c b hc z
    ·rw[hc] at z;cases z;exact hb rfl
end
structure Un (fs ex:List Addr) (H H':Hp) (h h':Heap):Prop where
 keep:∀ b o,h.get? b=some o→H b=none→b∉fs→b∉ex→h'.get? b=some o
 slot:∀ b o,h.get? b=some o→H b=none→b∈fs→b∉ex→∃ sl,h'.get? b=some { o with slots:=sl }
 free:∀ b o,h.get? b=some o→H b=none→b∉ex→H' b=none
 there:∀ b o,h.get? b=some o→b∉ex→∃ o',h'.get? b=some o'
 tups:∀ b xs,H b=some (.tup xs)→H' b=some (.tup xs)
 frzs:∀ b o u,H b=some (.frz o u)→H' b=some (.frz o u)
 tbls:∀ b ps,H b=some (.tbl ps)→∃ more,H' b=some (.tbl (ps++more))
section
variable {fs fs' ex ex':List Addr} {H H1 H2:Hp} {h h1 h2 h':Heap} {a x e:Addr} {o:HO}
theorem Un.any (u:Un fs ex H H1 h h1) {b:Addr} {ob:Obj} (q:h.get? b=some ob) (n:H b=none) (hx:b∉ex):∃ sl,h1.get? b=some { ob with slots:=sl }:=by
 by_cases hb:b∈fs
 ·exact u.slot b ob q n hb hx
 ·exact⟨ob.slots,u.keep b ob q n hb hx⟩
theorem Un.trans (a:Un fs ex H H1 h h1) (b:Un fs ex H1 H2 h1 h2):Un fs ex H H2 h h2 where
 keep:=fun c ob q n hc hx=>b.keep c ob (a.keep c ob q n hc hx) (a.free c ob q n hx) hc hx
 slot:=fun c ob q n hc hx=>by
  obtain⟨sl,e1⟩:=a.slot c ob q n hc hx
  obtain⟨sl',e2⟩:=b.slot c _ e1 (a.free c ob q n hx) hc hx
  exact⟨sl',e2⟩
 free:=fun c ob q n hx=>by
  obtain⟨o',e1⟩:=a.there c ob q hx
  exact b.free c o' e1 (a.free c ob q n hx) hx
 there:=fun c ob q hx=>by
  obtain⟨o',e1⟩:=a.there c ob q hx
  exact b.there c o' e1 hx
 tups:=fun c xs q=>b.tups c xs (a.tups c xs q)
 frzs:=fun c ob xs q=>b.frzs c ob xs (a.frzs c ob xs q)
 tbls:=fun c ps q=>by
  obtain⟨m1,e1⟩:=a.tbls c ps q
  obtain⟨m2,e2⟩:=b.tbls c _ e1
  exact⟨m1++m2,by rw[e2,Array.append_assoc]⟩
theorem Un.kept (k:∀ b u,h.get? b=some u→h'.get? b=some u):Un fs ex H H h h' :=
 ⟨fun b ob q _ _ _=>k b ob q,fun b ob q _ _ _=>⟨ob.slots,k b ob q⟩,fun _ _ _ n _=>n,fun b ob q _=>⟨ob,k b ob q⟩,fun _ _ q=>q,fun _ _ _ q=>q,fun _ ps q=>⟨#[],by rw[q];simp⟩⟩
theorem Un.refl:Un fs ex H H h h:=Un.kept fun _ _ q=>q
theorem Un.laid (k:∀ b u,h.get? b=some u→h'.get? b=some u) (hp:h.objs.size≤a) (hn:H a=none):Un fs ex H (upd H a o) h h' where
 keep:=fun b u q _ _ _=>k b u q
 slot:=fun b u q _ _ _=>⟨u.slots,k b u q⟩
 free:=fun b u q n _=>by rw[jd_ (Nat.ne_of_lt (Nat.lt_of_lt_of_le (Heap.lt_size q) hp))];exact n
 there:=fun b u q _=>⟨u,k b u q⟩
 tups:=fun b xs q=>by rw[jd_ (je_ q hn)];exact q
 frzs:=fun b u xs q=>by rw[jd_ (je_ q hn)];exact q
 tbls:=fun b ps q=>⟨#[],by rw[jd_ (je_ q hn),q];simp⟩
theorem Un.write (mu:Mut (H x)) (he:e=x∨H e=some (.own x)) (k:∀ b u,b≠e→h.get? b=some u→h'.get? b=some u) (heo:∃ u,h'.get? e=some u):Un fs ex H (upd H x o) h h':=by
 have hx:∀ b,H b=none→b≠x:=fun b n z=>by subst z;rw[n] at mu;exact mu
 have hb:∀ b,H b=none→b≠e:=fun b n z=>by
  subst z
  rcases he with r | r
  ·exact hx b n r
  ·rw[n] at r;cases r
 have hm:∀ b u,H b=some u→¬ Mut (some u)→b≠x:=fun b u q nm z=>by subst z;rw[q] at mu;exact nm mu
 refine⟨fun b u q n _ _=>k b u (hb b n) q,fun b u q n _ _=>⟨u.slots,k b u (hb b n) q⟩,fun b u q n _=>by rw[jd_ (hx b n)];exact n,fun b u q _=>?_,
  fun b xs q=>by rw[jd_ (hm b _ q fun z=>z)];exact q,fun b u xs q=>by rw[jd_ (hm b _ q fun z=>z)];exact q,fun b ps q=>⟨#[],by rw[jd_ (hm b _ q fun z=>z),q];simp⟩⟩
 by_cases hbe:b=e
 ·subst hbe;exact heo
 ·exact⟨u,k b u hbe q⟩
theorem Un.mono (u:Un fs ex H H1 h h1) (hs:∀ b∈fs,b∈fs') (hx:∀ b∈ex,b∈ex'):Un fs' ex' H H1 h h1 :=
 ⟨fun b ob q n hb he=>u.keep b ob q n (fun z=>hb (hs b z)) fun z=>he (hx b z),fun _ _ q n _ he=>u.any q n fun z=>he (hx _ z),fun b ob q n he=>u.free b ob q n fun z=>he (hx b z),fun b ob q he=>u.there b ob q fun z=>he (hx b z),u.tups,u.frzs,u.tbls⟩
end
def trk (h:Heap) (H:Hp):List Addr:=(List.range h.objs.size).filter fun a=>(H a).isSome
def hidT (h:Heap) (H:Hp):Heap:=PySem.W.hideAll h (trk h H)
theorem hidT_size (h:Heap) (H:Hp):(hidT h H).objs.size=h.objs.size:=PySem.W.hideAll_size _ _
theorem hidT_get {h:Heap} {H:Hp} {b:Addr} {o:Obj} (e:h.get? b=some o) (n:H b=none):(hidT h H).get? b=some o :=
 PySem.W.hideAll_get _ e fun hm=>by
  have q:(H b).isSome=true:=(List.mem_filter.mp hm).2
  rw[n] at q;simp at q
theorem of_hidT {h:Heap} {H:Hp} {b:Addr} {o:Obj} (e:(hidT h H).get? b=some o):h.get? b=some o∧H b=none:=by
 have e':h.get? b=some o:=PySem.W.of_hideAll (trk h H) e
 refine⟨e',?_⟩
 cases q:H b with
 | none=>rfl
 | some x =>
  have hm:b∈trk h H:=List.mem_filter.mpr ⟨List.mem_range.mpr (Heap.lt_size e'),by simp[q]⟩
  have z:(hidT h H).get? b=none:=PySem.W.hideAll_none (trk h H) hm
  rw[z] at e;cases e
end L2
namespace L2
open PySem PySem.Spec PyProof.Rows
structure Mod (K:PySem.W.Frag) (mg:Str→Option Value) (base:Heap):Prop where
 kin:K.In base
 glob:base.Ns mainGlobals mg
 blt:∃ mb,base.Ns builtinsNs mb∧∀ x:Str,x≠"__name__"→mb x=bootBuiltins x
 nolimit:base.NoLimit
structure Cx where
 prog:Program
 w:World
 K:PySem.W.Frag
 mg:Str→Option Value
 base:Heap
 A:Around
 N:List Str
 s₀:Shared
 H₀:Hp
 env:Env
 outer:List Env
 stack:List Env
 ex:List Addr
 fn:Str→Bool
 calm:Bool
 pn:List (Addr×Obj)
 xe:Value→Shared→Prop
def frs (l:List Env):List Addr:=l.filterMap (·.frame)
abbrev Cx.fs (X:Cx):List Addr:=frs X.outer
def Vis (sc:Scope) (x:Str):Prop:=sc.names.lookup x=some .local∨sc.names.lookup x=some .cell∨sc.names.lookup x=some .free
def Loc (sc:Scope) (x:Str):Prop:=sc.names.lookup x=some .local∨sc.names.lookup x=some .cell
def Look (env:Env) (h:Heap) (m:Str→Option Value) (x:Str) (u:Value):Prop :=
 (env.kindOf x=some .local∧m x=some u)∨((env.kindOf x=some .cell∨env.kindOf x=some .free)∧∃ c,env.cells.lookup x=some c∧h.IsCell c (some u))
structure Cx.Ok (X:Cx):Prop where
 mod:Mod X.K X.mg X.base
 kind:X.env.scope.kind=.function
 glob:X.env.globals=mainGlobals
 blt:X.env.builtins=builtinsNs
 above:X.s₀.heap.objs.size≤X.env.locals
 inj:∀ x y c,X.env.cells.lookup x=some c→X.env.cells.lookup y=some c→x=y
 has:∀ x,(X.env.kindOf x=some .cell∨X.env.kindOf x=some .free)→∃ c,X.env.cells.lookup x=some c
 cab:∀ x c,X.fn x=true→X.env.cells.lookup x=some c→X.s₀.heap.objs.size≤c
 hd:X.calm=true→X.A.handled=none
 frames:X.A.frames=some X.stack
 stk:X.stack=X.outer∨(X.stack=X.env::X.outer∧X.env.frame=some X.env.locals)
 exf:∀ b∈X.ex,b≠X.env.locals∧∀ x c,X.env.cells.lookup x=some c→c≠b
 bs:∀ b o,X.base.get? b=some o→X.s₀.heap.get? b=some o∧X.H₀ b=none
 bsz:X.base.objs.size≤X.s₀.heap.objs.size
 noex:∀ b o,X.base.get? b=some o→b∉X.ex
 exfs:∀ b∈X.ex,b∉X.fs
 funs:X.s₀.heap.FunFrames X.base X.outer
 frf:∀ b∈X.fs,X.H₀ b=none
structure Inv (X:Cx) (pins:List (Addr×Obj)) (σ:List (Option V)) (H:Hp) (s:Shared):Prop where
 ok:X.Ok
 os:s.os=X.s₀.os
 bare:AllBare s.gens
 base:Un X.fs X.ex X.H₀ H X.s₀.heap s.heap
 loc:∃ m,s.heap.Ns X.env.locals m∧∀(i:Nat) (x:Str) (v:V),X.N[i]?=some x→σ[i]?=some (some v)→Vis X.env.scope x→∃ u,RelV v u∧Look X.env s.heap m x u
 cell:∀ x c,X.env.cells.lookup x=some c→∃ v,s.heap.IsCell c v
 free:H X.env.locals=none
 freeC:∀ x c,X.env.cells.lookup x=some c→H c=none
 pin:∀ p∈X.pn++pins,s.heap.get? p.1=some p.2∧H p.1=none∧p.1≠X.env.locals∧p.1∉X.fs∧∀ v,p.2.data≠.cell v
 hok:HOk X.prog X.w H s.heap
 len:σ.length=X.N.length
section
variable {X:Cx} {pins:List (Addr×Obj)} {σ:List (Option V)} {H H':Hp} {s:Shared} {h':Heap}
theorem Cx.Ok.nofr (ok:X.Ok) {b:Addr} {o:Obj} (e:X.base.get? b=some o):b∉X.fs:=fun hb=>by
 have:=(ok.funs.mem hb).1
 rw[e] at this;cases this
theorem Inv.bs (I:Inv X pins σ H s):∀ b o,X.base.get? b=some o→s.heap.get? b=some o∧H b=none:=fun b o e =>
 ⟨I.base.keep b o (I.ok.bs b o e).1 (I.ok.bs b o e).2 (I.ok.nofr e) (I.ok.noex b o e),I.base.free b o (I.ok.bs b o e).1 (I.ok.bs b o e).2 (I.ok.noex b o e)⟩
theorem Inv.bk (I:Inv X pins σ H s):∀ b o,X.base.get? b=some o→s.heap.get? b=some o:=fun b o e=>(I.bs b o e).1
theorem Inv.mod (I:Inv X pins σ H s):Mod X.K X.mg X.base:=I.ok.mod
theorem Inv.kIn (I:Inv X pins σ H s):X.K.In s.heap:=I.ok.mod.kin.keeps I.bk
theorem Inv.lt (I:Inv X pins σ H s):X.env.locals < s.heap.objs.size:=let ⟨_,hn,_⟩:=I.loc;hn.lt
theorem Inv.sz (I:Inv X pins σ H s):X.s₀.heap.objs.size≤s.heap.objs.size:=Nat.le_trans I.ok.above (Nat.le_of_lt I.lt)
theorem Inv.nofs (I:Inv X pins σ H s) {a:Addr} (h:s.heap.objs.size≤a):a∉X.fs:=fun hb=>by
 obtain⟨_,o,ho,_⟩:=I.ok.funs.mem hb
 exact absurd (Nat.lt_of_lt_of_le (Heap.lt_size ho) (Nat.le_trans I.sz h)) (Nat.lt_irrefl _)
theorem Inv.cne (I:Inv X pins σ H s):∀ x c,X.env.cells.lookup x=some c→c≠X.env.locals:=fun x c e z=>by
 obtain⟨v,o,ho,hd⟩:=I.cell x c e
 obtain⟨m,⟨o',es,ep,ho',hd',_⟩,_⟩:=I.loc
 rw[z,ho'] at ho;cases ho;rw[hd'] at hd;cases hd
theorem Inv.funs (I:Inv X pins σ H s):s.heap.FunFrames X.base X.outer:=by
 have all:∀(l:List Env),(∀ b∈frs l,b∈X.fs)→X.s₀.heap.FunFrames X.base l→s.heap.FunFrames X.base l:=by
  intro l
  induction l with
  | nil=>intro _ _;trivial
  | cons env r ih =>
   intro hs hl
   obtain⟨hk,⟨L,o,hf,hn,ho,hd⟩,hr⟩:=hl
   have hL:L∈X.fs:=hs L (by unfold frs;rw[List.filterMap_cons,hf];exact List.mem_cons_self)
   obtain⟨sl,e⟩:=I.base.slot L o ho (I.ok.frf L hL) hL fun z=>I.ok.exfs L z hL
   exact⟨hk,⟨L,_,hf,hn,e,hd⟩,ih (fun b hb=>hs b (by unfold frs;rw[List.filterMap_cons,hf];exact List.mem_cons_of_mem _ hb)) hr⟩
 exact all X.outer (fun _ hb=>hb) I.ok.funs
theorem Inv.stack (I:Inv X pins σ H s):s.heap.FunFrames X.base X.stack:=by
 rcases I.ok.stk with e | ⟨e,hf⟩
 ·rw[e];exact I.funs
 ·rw[e]
  obtain⟨m,hn,_⟩:=I.loc
  refine .cons (by rw[I.ok.kind];decide) hf hn ?_ I.funs
  exact Heap.get?_none_of_le (Nat.le_trans I.ok.bsz I.ok.above)
theorem Inv.stkSub (I:Inv X pins σ H s):∀ b∈frs X.stack,b∈X.env.locals::X.fs:=fun b hb=>by
 rcases I.ok.stk with e | ⟨e,hf⟩
 ·rw[e] at hb;exact List.mem_cons_of_mem _ hb
 ·rw[e] at hb
  unfold frs at hb
  rw[List.filterMap_cons,hf] at hb
  exact hb
theorem Inv.stkFree (I:Inv X pins σ H s):∀ b∈frs X.stack,H b=none:=fun b hb=>by
 rcases List.mem_cons.mp (I.stkSub b hb) with e | hb
 ·rw[e];exact I.free
 ·obtain⟨_,o,ho,_⟩:=I.ok.funs.mem hb
  exact I.base.free b o ho (I.ok.frf b hb) fun z=>I.ok.exfs b z hb
theorem Inv.step {g':Array GenState} {t':Nat} {d':Drawn} {ch:List Addr} (I:Inv X pins σ H s)
  (hch:∀ b∈ch,(b∈X.ex∨X.s₀.heap.objs.size≤b)∧b≠X.env.locals∧(∀ x c,X.env.cells.lookup x=some c→c≠b)∧∀ p∈X.pn++pins,p.1≠b)
  (keep:∀ b o,b≠X.env.locals→b∉X.fs→b∉ch→s.heap.get? b=some o→H b=none→h'.get? b=some o)
  (slot:∀ b o,b≠X.env.locals→b∈X.fs→b∉ch→s.heap.get? b=some o→H b=none→∃ sl,h'.get? b=some { o with slots:=sl }) (free:∀ b o,b∉ch→s.heap.get? b=some o→H b=none→H' b=none)
  (there:∀ b o,b∉ch→s.heap.get? b=some o→∃ o',h'.get? b=some o')
  (tups:∀ b xs,H b=some (.tup xs)→H' b=some (.tup xs)) (frzs:∀ b o u,H b=some (.frz o u)→H' b=some (.frz o u)) (tbls:∀ b ps,H b=some (.tbl ps)→∃ more,H' b=some (.tbl (ps++more)))
  (ns:∀ m,s.heap.Ns X.env.locals m→h'.Ns X.env.locals m) (hok:HOk X.prog X.w H' h') (hg:AllBare g') :
  Inv X pins σ H' { s with heap:=h',gens:=g',drawn:=d',toks:=t' }:=by
 have neL:∀ b o,X.s₀.heap.get? b=some o→b≠X.env.locals:=fun b o e=>Nat.ne_of_lt (Nat.lt_of_lt_of_le (Heap.lt_size e) I.ok.above)
 have neC:∀ b o,X.s₀.heap.get? b=some o→b∉X.ex→b∉ch:=fun b o e hx hb=>by
  rcases (hch b hb).1 with z | z
  ·exact hx z
  ·exact absurd (Nat.lt_of_lt_of_le (Heap.lt_size e) z) (Nat.lt_irrefl _)
 have cellK:∀ x c,X.env.cells.lookup x=some c→∀ v,s.heap.IsCell c v→h'.IsCell c v:=fun x c e v ⟨o,ho,hd⟩=>by
  have nch:c∉ch:=fun z=>(hch c z).2.2.1 x c e rfl
  by_cases hc:c∈X.fs
  ·obtain⟨sl,q⟩:=slot c o (I.cne x c e) hc nch ho (I.freeC x c e)
   exact⟨_,q,hd⟩
  ·exact⟨o,keep c o (I.cne x c e) hc nch ho (I.freeC x c e),hd⟩
 refine⟨I.ok,I.os,hg,⟨fun b o e n hb hx=>?_,fun b o e n hb hx=>?_,fun b o e n hx=>?_,fun b o e hx=>?_,fun b xs e=>tups b xs (I.base.tups b xs e),fun b o xs e=>frzs b o xs (I.base.frzs b o xs e),fun b ps e=>?_⟩,?_,fun x c e=>?_,?_,fun x c e=>?_,fun p hp=>?_,hok,I.len⟩
 ·exact keep b o (neL b o e) hb (neC b o e hx) (I.base.keep b o e n hb hx) (I.base.free b o e n hx)
 ·obtain⟨sl,e1⟩:=I.base.slot b o e n hb hx
  obtain⟨sl',e2⟩:=slot b _ (neL b o e) hb (neC b o e hx) e1 (I.base.free b o e n hx)
  exact⟨sl',e2⟩
 ·obtain⟨o',e1⟩:=I.base.there b o e hx
  exact free b o' (neC b o e hx) e1 (I.base.free b o e n hx)
 ·obtain⟨o',e1⟩:=I.base.there b o e hx
  exact there b o' (neC b o e hx) e1
 ·obtain⟨m1,e1⟩:=I.base.tbls b ps e
  obtain⟨m2,e2⟩:=tbls b _ e1
  exact⟨m1++m2,by rw[e2,Array.append_assoc]⟩
 ·obtain⟨m,hn,hl⟩:=I.loc
  refine⟨m,ns m hn,fun i x v e1 e2 e3=>?_⟩
  obtain⟨u,r,l⟩:=hl i x v e1 e2 e3
  refine⟨u,r,?_⟩
  rcases l with l | ⟨k,c,e,z⟩
  ·exact .inl l
  ·exact .inr ⟨k,c,e,cellK x c e _ z⟩
 ·obtain⟨v,z⟩:=I.cell x c e
  exact⟨v,cellK x c e v z⟩
 ·obtain⟨m,⟨o,_,_,ho,_⟩,_⟩:=I.loc
  exact free _ o (fun z=>(hch _ z).2.1 rfl) ho I.free
 ·obtain⟨v,o,ho,hd⟩:=I.cell x c e
  exact free c o (fun z=>(hch c z).2.2.1 x c e rfl) ho (I.freeC x c e)
 ·obtain⟨e,n,ne,nf,d⟩:=I.pin p hp
  have nch:p.1∉ch:=fun z=>(hch p.1 z).2.2.2 p hp rfl
  exact⟨keep p.1 p.2 ne nf nch e n,free p.1 p.2 nch e n,ne,nf,d⟩
theorem Inv.un {t':Nat} (I:Inv X pins σ H s) (u:Un X.fs [] H H' s.heap h') (hok:HOk X.prog X.w H' h'):Inv X pins σ H' { s with heap:=h',toks:=t' }:=by
 obtain⟨m,⟨o,es,ep,ho,r⟩,_⟩:=id I.loc
 obtain⟨sl,hL⟩:=u.any ho I.free (by simp)
 exact I.step (g':=s.gens) (d':=s.drawn) (ch:=[]) (fun _ z=>nomatch z) (fun b o _ hb _ e n=>u.keep b o e n hb (by simp)) (fun b o _ hb _ e n=>u.slot b o e n hb (by simp)) (fun b o _ e n=>u.free b o e n (by simp)) (fun b o _ e=>u.there b o e (by simp)) u.tups u.frzs u.tbls (fun m' hm=>by
  obtain⟨o',es',ep',ho',r'⟩:=hm
  rw[ho] at ho';cases ho'
  exact⟨_,es',ep',hL,r'⟩) hok I.bare
theorem Inv.call {g':Array GenState} {t':Nat} {d':Drawn} {ch:List Addr} (I:Inv X pins σ H s) (u:Un (frs X.stack) ch H H' s.heap h') (hok:HOk X.prog X.w H' h') (hg:AllBare g')
  (hch:∀ b∈ch,(b∈X.ex∨X.s₀.heap.objs.size≤b)∧b≠X.env.locals∧(∀ x c,X.env.cells.lookup x=some c→c≠b)∧∀ p∈X.pn++pins,p.1≠b) :
  Inv X pins σ H' { s with heap:=h',gens:=g',drawn:=d',toks:=t' }:=by
 obtain⟨m,⟨o,es,ep,ho,r⟩,_⟩:=id I.loc
 obtain⟨sl,hL⟩:=u.any ho I.free fun z=>(hch _ z).2.1 rfl
 exact I.step (ch:=ch) hch (fun b o hL hb hc e n=>u.keep b o e n (fun z=>(List.mem_cons.mp (I.stkSub b z)).elim hL hb) hc) (fun b o _ _ hc e n=>u.any e n hc) (fun b o hc e n=>u.free b o e n hc) (fun b o hc e=>u.there b o e hc) u.tups u.frzs u.tbls (fun m' hm=>by
  obtain⟨o',es',ep',ho',r'⟩:=hm
  rw[ho] at ho';cases ho'
  exact⟨_,es',ep',hL,r'⟩) hok hg
theorem Inv.turned {t':Nat} {it:Addr} (I:Inv X pins σ H s) (k:∀ b o,b≠it→s.heap.get? b=some o→h'.get? b=some o) (hn:H it=none) (hL:it≠X.env.locals)
  (h1:it∈X.ex∨X.s₀.heap.objs.size≤it) (h2:∀ x c,X.env.cells.lookup x=some c→c≠it) (h3:∀ p∈X.pn++pins,p.1≠it):Inv X pins σ H { s with heap:=h',toks:=t' }:=by
 have nit:∀ b u,H b=some u→b≠it:=fun b u e z=>by rw[z,hn] at e;cases e
 refine I.step (g':=s.gens) (d':=s.drawn) (ch:=[it]) (fun b hb=>?_) (fun b o _ _ hc e _=>k b o (fun z=>hc (by simp[z])) e) (fun b o _ _ hc e _=>⟨o.slots,k b o (fun z=>hc (by simp[z])) e⟩) (fun _ _ _ _ n=>n)
  (fun b o hc e=>⟨o,k b o (fun z=>hc (by simp[z])) e⟩) (fun _ _ e=>e) (fun _ _ _ e=>e) (fun b ps e=>⟨#[],by rw[e];simp⟩) (fun m hm=>?_) (fun b u e=>?_) I.bare
 ·have e:b=it:=by simpa using hb
  subst e
  exact⟨h1,hL,h2,h3⟩
 ·obtain⟨o,es,ep,ho,r⟩:=hm
  exact⟨o,es,ep,k _ o (Ne.symm hL) ho,r⟩
 ·refine(I.hok b u e).stay (fun c v hc q=>k c v ?_ q) (fun _ q=>q) fun _ _ q=>q
  rcases hc with z | z
  ·rw[z];exact nit b u e
  ·exact nit c _ z
theorem Inv.tok (I:Inv X pins σ H s) (t:Nat):Inv X pins σ H { s with toks:=t }:=I.un (h':=s.heap) (t':=t) Un.refl I.hok
theorem Inv.kept {t':Nat} (I:Inv X pins σ H s) (k:∀ b u,s.heap.get? b=some u→h'.get? b=some u):Inv X pins σ H { s with heap:=h',toks:=t' }:=I.un (Un.kept k) (I.hok.kept k)
theorem Inv.laid {a:Addr} {o:HO} {t':Nat} (I:Inv X pins σ H s) (k:∀ b u,s.heap.get? b=some u→h'.get? b=some u) (hp:s.heap.objs.size≤a) (new:ObjOk X.prog X.w (upd H a o) h' a o) :
  Inv X pins σ (upd H a o) { s with heap:=h',toks:=t' }:=I.un (Un.laid k hp (I.hok.fresh hp)) (I.hok.laid k hp new)
theorem Inv.write {x e:Addr} {o:HO} {t':Nat} (I:Inv X pins σ H s) (mu:Mut (H x)) (he:e=x∨H e=some (.own x)) (k:∀ b u,b≠e→s.heap.get? b=some u→h'.get? b=some u) (heo:∃ u,h'.get? e=some u)
  (new:ObjOk X.prog X.w (upd H x o) h' x o):Inv X pins σ (upd H x o) { s with heap:=h',toks:=t' }:=I.un (Un.write mu he k heo) (I.hok.write mu he k heo new)
theorem Inv.pins_of {pins':List (Addr×Obj)} (I:Inv X pins σ H s) (h:∀ p∈pins',s.heap.get? p.1=some p.2∧H p.1=none∧p.1≠X.env.locals∧p.1∉X.fs∧∀ v,p.2.data≠.cell v):Inv X pins' σ H s :=
 ⟨I.ok,I.os,I.bare,I.base,I.loc,I.cell,I.free,I.freeC,fun p hp=>(List.mem_append.mp hp).elim (fun z=>I.pin p (List.mem_append_left _ z)) (h p),I.hok,I.len⟩
theorem nodup_ix {N:List Str} (hN:N.Nodup) {i j:Nat} {x:Str} (a:N[i]?=some x) (b:N[j]?=some x):i=j:=by
 obtain⟨h1,e1⟩:=List.getElem?_eq_some_iff.mp a
 obtain⟨h2,e2⟩:=List.getElem?_eq_some_iff.mp b
 exact(List.getElem_inj hN).mp (e1.trans e2.symm)
theorem store_ok2 {M:Model} {A:Around} {E:Value→Shared→Prop} {i:Nat} {x:Str} {v:V} {u:Value} {Q:Unit→Shared→Prop} (I:Inv X pins σ H s) (hN:X.N.Nodup) (hi:X.N[i]?=some x) (hx:Loc X.env.scope x) (r:RelV v u)
  (h:∀ s',Inv X pins (σ.set i (some v)) H s'→(∃ a,Heap.SameBut a s.heap s'.heap∧(a=X.env.locals∨X.env.cells.lookup x=some a))→Q () s') (hf:X.fn x=true∨X.env.scope.names.lookup x=some .local:=by first | exact .inl rfl | exact .inr rfl | assumption):wpAny M A (storeName X.env x u) Q E s:=by
 obtain⟨m,hn,hl⟩:=id I.loc
 have hcls:(X.env.scope.kind == .class || (X.env.scope.kind == .module&&X.env.locals != X.env.globals))=false:=by rw[I.ok.kind];rfl
 have hiσ:i < σ.length:=by rw[I.len];exact(List.getElem?_eq_some_iff.mp hi).1
 have cne:=I.cne
 have tracked:∀{a:Addr} {h':Heap},(∃ o,s.heap.get? a=some o∧H a=none)→Heap.SameBut a s.heap h'→HOk X.prog X.w H h':=fun{a h'} ha hs b ob e=>by
  obtain⟨_,_,hfree⟩:=ha
  refine(I.hok b ob e).stay (fun c w' hc q=>(hs.2 c ?_).trans q) (fun _ q=>q) fun _ _ q=>q
  rintro rfl
  rcases hc with rfl | hc
  ·rw[hfree] at e;cases e
  ·rw[hfree] at hc;cases hc
 rcases hx with hk | hk
 ·refine wpAny_storeName_local hk hn (fun h' hn' hs=>?_) hcls
  obtain⟨oL,_,_,hoL,_⟩:=id hn
  refine h _ ⟨I.ok,I.os,I.bare,⟨fun b o e n hb hx=>?_,fun b o e n hb hx=>?_,I.base.free,fun b o e hx=>?_,I.base.tups,I.base.frzs,I.base.tbls⟩,⟨_,hn',fun j y v' e1 e2 e3=>?_⟩,fun y c e=>?_,I.free,I.freeC,fun p hp=>?_,tracked ⟨oL,hoL,I.free⟩ hs,by simpa using I.len⟩ ⟨_,hs,.inl rfl⟩
  ·exact(hs.2 b (Nat.ne_of_lt (Nat.lt_of_lt_of_le (Heap.lt_size e) I.ok.above))).trans (I.base.keep b o e n hb hx)
  ·obtain⟨sl,e1⟩:=I.base.slot b o e n hb hx
   exact⟨sl,(hs.2 b (Nat.ne_of_lt (Nat.lt_of_lt_of_le (Heap.lt_size e) I.ok.above))).trans e1⟩
  ·obtain⟨o',e1⟩:=I.base.there b o e hx
   exact⟨o',(hs.2 b (Nat.ne_of_lt (Nat.lt_of_lt_of_le (Heap.lt_size e) I.ok.above))).trans e1⟩
  ·by_cases hj:j=i
   ·subst hj
    rw[hi] at e1;cases e1
    rw[List.getElem?_set_self hiσ] at e2
    cases e2
    exact⟨u,r,.inl ⟨hk,by simp⟩⟩
   ·rw[List.getElem?_set_ne (Ne.symm hj)] at e2
    obtain⟨u',r',q⟩:=hl j y v' e1 e2 e3
    refine⟨u',r',?_⟩
    rcases q with ⟨k,e⟩ | ⟨k,c,e,z⟩
    ·refine .inl ⟨k,?_⟩
     have:y≠x:=fun e=>hj (nodup_ix hN e1 (e▸hi))
     simp[this,e]
    ·exact .inr ⟨k,c,e,z.sameBut hs (cne y c e)⟩
  ·obtain⟨w',z⟩:=I.cell y c e
   exact⟨w',z.sameBut hs (cne y c e)⟩
  ·obtain⟨e,n,ne,nf,d⟩:=I.pin p hp
   exact⟨(hs.2 p.1 ne).trans e,n,ne,nf,d⟩
 ·have hfn:X.fn x=true:=by
   rcases hf with z | z
   ·exact z
   ·rw[z] at hk;cases hk
  obtain⟨c,hc⟩:=I.ok.has x (.inl hk)
  obtain⟨w',z⟩:=I.cell x c hc
  refine wpAny_storeName_cell I.ok.kind hk hc z (fun h' hc' hs=>?_)
  obtain⟨oc,hoc,hocd⟩:=id z
  refine h { s with heap:=h' } ⟨I.ok,I.os,I.bare,⟨fun b o e n hb hx=>?_,fun b o e n hb hx=>?_,I.base.free,fun b o e hx=>?_,I.base.tups,I.base.frzs,I.base.tbls⟩,⟨m,hn.sameBut hs (Ne.symm (cne x c hc)),fun j y v' e1 e2 e3=>?_⟩,fun y c' e=>?_,I.free,I.freeC,fun p hp=>?_,tracked ⟨oc,hoc,I.freeC x c hc⟩ hs,by simpa using I.len⟩ ⟨c,hs,.inr hc⟩
  ·exact(hs.2 b (Nat.ne_of_lt (Nat.lt_of_lt_of_le (Heap.lt_size e) (I.ok.cab x c hfn hc)))).trans (I.base.keep b o e n hb hx)
  ·obtain⟨sl,e1⟩:=I.base.slot b o e n hb hx
   exact⟨sl,(hs.2 b (Nat.ne_of_lt (Nat.lt_of_lt_of_le (Heap.lt_size e) (I.ok.cab x c hfn hc)))).trans e1⟩
  ·obtain⟨o',e1⟩:=I.base.there b o e hx
   exact⟨o',(hs.2 b (Nat.ne_of_lt (Nat.lt_of_lt_of_le (Heap.lt_size e) (I.ok.cab x c hfn hc)))).trans e1⟩
  ·by_cases hj:j=i
   ·subst hj
    rw[hi] at e1;cases e1
    rw[List.getElem?_set_self hiσ] at e2
    cases e2
    exact⟨u,r,.inr ⟨.inl hk,c,hc,hc'⟩⟩
   ·rw[List.getElem?_set_ne (Ne.symm hj)] at e2
    obtain⟨u',r',q⟩:=hl j y v' e1 e2 e3
    refine⟨u',r',?_⟩
    rcases q with q | ⟨k,c',e,z'⟩
    ·exact .inl q
    ·refine .inr ⟨k,c',e,z'.sameBut hs ?_⟩
     rintro rfl
     exact hj (nodup_ix hN e1 (I.ok.inj _ _ _ e hc▸hi))
  ·by_cases hcc:c'=c
   ·subst hcc;exact⟨_,hc'⟩
   ·obtain⟨w2,z2⟩:=I.cell y c' e
    exact⟨w2,z2.sameBut hs hcc⟩
  ·obtain⟨e,n,ne,nf,d⟩:=I.pin p hp
   refine⟨(hs.2 p.1 ?_).trans e,n,ne,nf,d⟩
   intro q
   rw[q,hoc] at e
   have q':oc=p.2:=Option.some.inj e
   exact d w' (by rw[← q'];exact hocd)
theorem store_ok {M:Model} {A:Around} {E:Value→Shared→Prop} {i:Nat} {x:Str} {v:V} {u:Value} {Q:Unit→Shared→Prop} (I:Inv X pins σ H s) (hN:X.N.Nodup) (hi:X.N[i]?=some x) (hx:Loc X.env.scope x) (r:RelV v u)
  (h:∀ s',Inv X pins (σ.set i (some v)) H s'→Q () s') (hf:X.fn x=true∨X.env.scope.names.lookup x=some .local:=by first | exact .inl rfl | exact .inr rfl | assumption):wpAny M A (storeName X.env x u) Q E s :=
 store_ok2 I hN hi hx r (fun s' I' _=>h s' I') hf
theorem Inv.call' {s':Shared} {ch:List Addr} (I:Inv X pins σ H s) (ho:s'.os=s.os) (u:Un (frs X.stack) ch H H' s.heap s'.heap) (hok:HOk X.prog X.w H' s'.heap) (hg:AllBare s'.gens)
  (hch:∀ b∈ch,(b∈X.ex∨X.s₀.heap.objs.size≤b)∧b≠X.env.locals∧(∀ x c,X.env.cells.lookup x=some c→c≠b)∧∀ p∈X.pn++pins,p.1≠b):Inv X pins σ H' s':=by
 obtain⟨h',g',d',t',o'⟩:=s'
 have e:o'=s.os:=ho
 subst e
 exact I.call (g':=g') (t':=t') (d':=d') u hok hg hch
end
abbrev XK:=Value→Option Addr→Hp→Prop
abbrev St:=List (Option V)
abbrev VK:=V→Hp→Prop
abbrev TE:=St→Hp→VK→Prop
abbrev TT:=St→Hp→(Bool→Hp→Prop)→Prop
abbrev TA:=St→Hp→(List V→Hp→Prop)→Prop
structure Ends where
 nx:St→Hp→Prop
 rt:VK
 bk:St→Hp→Prop:=fun _ _=>False
 ct:St→Hp→Prop:=fun _ _=>False
abbrev TS:=Ends→St→Hp→Prop
def EP (X:Cx) (pins:List (Addr×Obj)) (σ:St) (Q:VK) (u:Value) (s':Shared):Prop:=∃ v H',Inv X pins σ H' s'∧RelV v u∧Q v H'
def TP (X:Cx) (pins:List (Addr×Obj)) (σ:St) (Q:Bool→Hp→Prop) (b:Bool) (s':Shared):Prop:=∃ H',Inv X pins σ H' s'∧Q b H'
def AP (X:Cx) (pins:List (Addr×Obj)) (σ:St) (Q:List V→Hp→Prop) (us:List Value) (s':Shared):Prop:=∃ vs H',Inv X pins σ H' s'∧Vals vs us∧Q vs H'
def SP (X:Cx) (pins:List (Addr×Obj)) (D:Ends) (f:Flow) (s':Shared):Prop :=
 match f with
 | .next=>∃ σ' H',Inv X pins σ' H' s'∧D.nx σ' H'
 | .brk=>∃ σ' H',Inv X pins σ' H' s'∧D.bk σ' H'
 | .cont=>∃ σ' H',Inv X pins σ' H' s'∧D.ct σ' H'
 | .ret u=>∃ v σ' H',Inv X pins σ' H' s'∧RelV v u∧D.rt v H'
def PE (X:Cx) (e:Expr) (t:TE):Prop :=
 ∀(pins:List (Addr×Obj)) (s:Shared) (σ:St) (H:Hp) (Q:VK),Inv X pins σ H s→t σ H Q→wpAny (model X.prog X.w) X.A (eval e X.env) (EP X pins σ Q) X.xe s
def PT (X:Cx) (e:Expr) (t:TT):Prop :=
 ∀(pins:List (Addr×Obj)) (s:Shared) (σ:St) (H:Hp) (Q:Bool→Hp→Prop),Inv X pins σ H s→t σ H Q→wpAny (model X.prog X.w) X.A (isTrue e X.env (eval e X.env)) (TP X pins σ Q) X.xe s
def PW (X:Cx) (e:Expr) (t:TT):Prop :=
 ∀(whole:Sem Value) (pins:List (Addr×Obj)) (s:Shared) (σ:St) (H:Hp) (Q:Bool→Hp→Prop),Inv X pins σ H s→t σ H Q→wpAny (model X.prog X.w) X.A (isTrue e X.env whole) (TP X pins σ Q) X.xe s
theorem PW.pt {X:Cx} {e:Expr} {t:TT} (h:PW X e t):PT X e t:=h _
def PA (X:Cx) (es:List Expr) (t:TA):Prop :=
 ∀(pos:Pos) (pins:List (Addr×Obj)) (s:Shared) (σ:St) (H:Hp) (Q:List V→Hp→Prop),Inv X pins σ H s→t σ H Q→wpAny (model X.prog X.w) X.A (spliced (backTo pos (starEach es X.env))) (AP X pins σ Q) X.xe s
def PS (X:Cx) (st:Stmt) (t:TS):Prop :=
 ∀(pins:List (Addr×Obj)) (s:Shared) (σ:St) (H:Hp) (D:Ends),Inv X pins σ H s→t D σ H→wpAny (model X.prog X.w) X.A (exec st X.env) (SP X pins D) X.xe s
def PSs (X:Cx) (st:List Stmt) (t:TS):Prop :=
 ∀(pins:List (Addr×Obj)) (s:Shared) (σ:St) (H:Hp) (D:Ends),Inv X pins σ H s→t D σ H→wpAny (model X.prog X.w) X.A (execs st X.env) (SP X pins D) X.xe s
theorem thn {α:Type} {t:Sem α} {Q Q':α→Shared→Prop} {M:Model} {A:Around} {E:Value→Shared→Prop} {s:Shared} (h:wpAny M A t Q E s) (hQ:∀ a s,Q a s→Q' a s):wpAny M A t Q' E s:=wpAny_mono h hQ fun _ _ x=>x
end L2
namespace L2
open PySem PySem.Spec PyProof.Rows
section
variable {X:Cx}
theorem bin {a b:Expr} {ta tb:TE} (ha:PE X a ta) (hb:PE X b tb) {pins:List (Addr×Obj)} {s:Shared} {σ:St} {H:Hp} {R:V→V→Hp→Prop} (I:Inv X pins σ H s) (h:ta σ H fun x H1=>tb σ H1 fun y H2=>R x y H2)
  {α:Type} {Q:α→Shared→Prop} {f:Value→Value→Sem α}
  (hf:∀ v u s2 x y H2,Inv X pins σ H2 s2→RelV x v→RelV y u→R x y H2→wpAny (model X.prog X.w) X.A (f v u) Q X.xe s2) :
  wpAny (model X.prog X.w) X.A (eval a X.env) (fun v s₁=>wpAny (model X.prog X.w) X.A (eval b X.env) (fun u s₂=>wpAny (model X.prog X.w) X.A (f v u) Q X.xe s₂) X.xe s₁) X.xe s:=by
 refine thn (ha pins s σ H _ I h) fun v s1 ⟨x,H1,I1,r1,q1⟩=>?_
 refine thn (hb pins s1 σ H1 _ I1 q1) fun u s2 ⟨y,H2,I2,r2,q2⟩=>?_
 exact hf v u s2 x y H2 I2 r1 r2 q2
def tVar (i:Nat):TE:=fun σ H Q=>∃ v,σ[i]?=some (some v)∧Q v H
def tC (v:V):TE:=fun _ H Q=>Q v H
theorem pe_var {i:Nat} {x:Str} {pos:Pos} (hN:X.N[i]?=some x) (hv:Vis X.env.scope x) (hd:(x == ("__debug__":Str))=false:=by decide) (hcd:(x == ("__classdict__":Str))=false:=by decide):PE X (.Name x pos) (tVar i):=by
 intro pins s σ H Q I h
 obtain⟨v,e,h⟩:=h
 obtain⟨m,hn,hl⟩:=I.loc
 obtain⟨u,r,l⟩:=hl i x v hN e hv
 have fin:EP X pins σ Q u s:=⟨v,H,I,r,h⟩
 rcases l with ⟨hk,hm⟩ | ⟨hk,c,hc,hcell⟩
 ·exact wpAny_Name (wpAny_loadName_local I.ok.kind hk hn hm fin) hd
 ·rcases hk with hk | hk
  ·exact wpAny_Name (wpAny_loadName_cell I.ok.kind hk hc hcell fin) hd
  ·exact wpAny_Name (wpAny_loadName_free I.ok.kind hk hc hcell fin hcd) hd
theorem pe_int {i j pos}:PE X (.Constant (.int i) j pos) (tC (.int i)):=fun _ _ _ H _ I h=>wpAny_Constant_int ⟨.int i,H,I.tok _,⟨_,rfl⟩,h⟩
theorem pe_bl {b j pos}:PE X (.Constant (.bool b) j pos) (tC (.bl b)):=fun _ _ _ H _ I h=>Constant_bool ⟨.bl b,H,I,rfl,h⟩
theorem pe_non {j pos}:PE X (.Constant .none j pos) (tC .non):=fun _ _ _ H _ I h=>Constant_none ⟨.non,H,I,rfl,h⟩
theorem pe_str {x j pos}:PE X (.Constant (.str x) j pos) (tC (.str x)):=fun _ _ _ H _ I h=>Calls.Constant_str ⟨.str x,H,I.tok _,⟨_,rfl⟩,h⟩
def Gl (X:Cx) (x:Str):Prop:=X.env.kindOf x=some .globalImplicit
theorem ld_glob {E:Value→Shared→Prop} {pins:List (Addr×Obj)} {s:Shared} {σ:St} {H:Hp} {x:Str} {u:Value} {pos:Pos} {Q:Value→Shared→Prop} (I:Inv X pins σ H s) (hg:Gl X x) (hm:X.mg x=some u) (h:Q u s)
  (hd:(x == ("__debug__":Str))=false:=by decide):wpAny (model X.prog X.w) X.A (eval (.Name x pos) X.env) Q E s :=
 Calls.Name_function_global I.ok.kind hg (Calls.loadGlobal_global (by rw[I.ok.glob];exact I.mod.glob.keeps I.bk) hm h) hd
theorem ld_blt {E:Value→Shared→Prop} {pins:List (Addr×Obj)} {s:Shared} {σ:St} {H:Hp} {x:Str} {u:Value} {pos:Pos} {Q:Value→Shared→Prop} (I:Inv X pins σ H s) (hg:Gl X x) (hm:X.mg x=none) (hv:bootBuiltins x=some u) (h:Q u s)
  (hn:x≠"__name__":=by decide) (hd:(x == ("__debug__":Str))=false:=by decide):wpAny (model X.prog X.w) X.A (eval (.Name x pos) X.env) Q E s:=by
 obtain⟨mb,h1,h2⟩:=I.mod.blt
 exact Calls.Name_function_global I.ok.kind hg (Calls.loadGlobal_builtin (by rw[I.ok.glob];exact I.mod.glob.keeps I.bk) hm (by rw[I.ok.blt];exact h1.keeps I.bk) ((h2 x hn).trans hv) h) hd
theorem pe_glob {x:Str} {v:V} {u:Value} {pos:Pos} (hg:Gl X x) (hm:X.mg x=some u) (r:RelV v u) (hd:(x == ("__debug__":Str))=false:=by decide):PE X (.Name x pos) (tC v) :=
 fun _ _ _ H _ I h=>ld_glob I hg hm ⟨v,H,I,r,h⟩ hd
theorem pe_bltn {x:Str} {v:V} {u:Value} {pos:Pos} (hg:Gl X x) (hm:X.mg x=none) (hv:bootBuiltins x=some u) (r:RelV v u) (hn:x≠"__name__":=by decide) (hd:(x == ("__debug__":Str))=false:=by decide):PE X (.Name x pos) (tC v) :=
 fun _ _ _ H _ I h=>ld_blt I hg hm hv ⟨v,H,I,r,h⟩ hn hd
variable {a b:Expr} {ta tb:TE} {pos:Pos}
def PC (X:Cx) (op:CmpOp) (a b:Expr) (t:TE):Prop :=
 ∀(pins:List (Addr×Obj)) (s:Shared) (σ:St) (H:Hp) (Q:VK),Inv X pins σ H s→t σ H Q →
  wpAny (model X.prog X.w) X.A (eval a X.env) (fun v s₁=>wpAny (model X.prog X.w) X.A (eval b X.env) (fun u s₂=>wpAny (model X.prog X.w) X.A (compareOp op v u) (EP X pins σ Q) X.xe s₂) X.xe s₁) X.xe s
def tB (t:TE):TT:=fun σ H Q=>t σ H fun x H1=>∃ c,x=.bl c∧Q c H1
theorem pt_cmp {op:CmpOp} {t:TE} (h:PC X op a b t) (h1:behindInMarks op b=false:=by first | exact nobehind _ (by decide) (by decide) | rfl):PT X (.Compare a [op] [b] pos) (tB t):=by
 intro pins s σ H Q I hw
 refine wpAny_isTrue_Compare1 (thn (h pins s σ H _ I hw) fun v s1 h1=>thn h1 fun u s2 h2=>thn h2 fun c s3 ⟨x,H1,I1,r1,q1⟩=>?_) h1
 obtain⟨d,rfl,q⟩:=q1
 cases r1
 exact wpAny_truthy_bool ⟨H1,I1,q⟩
variable {tA tB':TT} {rest:List Expr}
def tAnd (t u:TT):TT:=fun σ H Q=>t σ H fun c H1=>if c=true then u σ H1 Q else Q false H1
def tOr (t u:TT):TT:=fun σ H Q=>t σ H fun c H1=>if c=true then Q true H1 else u σ H1 Q
def tNot (t:TT):TT:=fun σ H Q=>t σ H fun c H1=>Q (!c) H1
theorem pw_and1 (ha:PT X a tA):PW X (.BoolOp .And [a] pos) tA:=by
 intro wh pins s σ H Q I h
 refine isTrue_and (thn (ha pins s σ H Q I h) fun c s1 e=>?_)
 cases c with
 | true=>exact isTrue_and_nil e
 | false=>exact e
theorem pw_or1 (ha:PT X a tA):PW X (.BoolOp .Or [a] pos) tA:=by
 intro wh pins s σ H Q I h
 refine isTrue_or (thn (ha pins s σ H Q I h) fun c s1 e=>?_)
 cases c with
 | false=>exact isTrue_or_nil e
 | true=>exact e
theorem pw_and (ha:PT X a tA) (hb:PW X (.BoolOp .And (b::rest) pos) tB'):PW X (.BoolOp .And (a::b::rest) pos) (tAnd tA tB'):=by
 intro wh pins s σ H Q I h
 refine isTrue_and (thn (ha pins s σ H _ I h) fun c s1 ⟨H1,I1,q1⟩=>?_)
 cases c with
 | true=>exact hb wh pins s1 σ H1 Q I1 q1
 | false=>exact⟨H1,I1,q1⟩
theorem pw_or (ha:PT X a tA) (hb:PW X (.BoolOp .Or (b::rest) pos) tB'):PW X (.BoolOp .Or (a::b::rest) pos) (tOr tA tB'):=by
 intro wh pins s σ H Q I h
 refine isTrue_or (thn (ha pins s σ H _ I h) fun c s1 ⟨H1,I1,q1⟩=>?_)
 cases c with
 | true=>exact⟨H1,I1,q1⟩
 | false=>exact hb wh pins s1 σ H1 Q I1 q1
theorem pt_not (ha:PT X a tA):PT X (.UnaryOp .Not a pos) (tNot tA):=by
 intro pins s σ H Q I h
 exact isTrue_not (ha pins s σ H (fun c H1=>Q (!c) H1) I h)
def tAndV (ta tb:TE):TE:=fun σ H Q=>ta σ H fun x H1=>∃ c,x=.bl c∧if c=true then tb σ H1 Q else Q (.bl false) H1
theorem pe_one {op} {t:TE} (h:PE X a t):PE X (.BoolOp op [a] pos) t:=fun pins s σ H Q I hw=>BoolOp_one (h pins s σ H Q I hw)
theorem pe_and (ha:PE X a ta) (hb:PE X (.BoolOp .And (b::rest) pos) tb):PE X (.BoolOp .And (a::b::rest) pos) (tAndV ta tb):=by
 intro pins s σ H Q I h
 refine BoolOp_and (thn (ha pins s σ H _ I h) fun v s1 ⟨x,H1,I1,r1,q1⟩=>?_)
 obtain⟨c,rfl,q1⟩:=q1
 cases r1
 refine wpAny_truthy_bool ?_
 cases c with
 | true=>exact hb pins s1 σ H1 Q I1 q1
 | false=>exact⟨.bl false,H1,I1,rfl,q1⟩
def tIf (t:TT) (ta tb:TE):TE:=fun σ H Q=>t σ H fun c H1=>if c=true then ta σ H1 Q else tb σ H1 Q
theorem pe_ifExp {c:Expr} (hc:PT X c tA) (ha:PE X a ta) (hb:PE X b tb):PE X (.IfExp c a b pos) (tIf tA ta tb):=by
 intro pins s σ H Q I h
 refine wpAny_IfExp (thn (hc pins s σ H _ I h) fun d s1 ⟨H1,I1,q1⟩=>?_)
 cases d with
 | true=>exact ha pins s1 σ H1 Q I1 q1
 | false=>exact hb pins s1 σ H1 Q I1 q1
end
end L2
namespace L2
open PySem PySem.Spec PyProof.Rows
def SqL (K:PySem.W.Frag) (H:Hp) (a:Addr) (xs:List V):Prop :=
 Rd H a (.lst xs) ∨
  ∃(o:Obj) (its:Array Value) (n:Nat),K.lookup a=some o∧o.cls=.type "list"∧o.dict=none∧o.data=.seq its n∧its.size≤sizeLine∧Vals xs its.toList
def SqT (K:PySem.W.Frag) (H:Hp) (a:Addr) (xs:List V):Prop :=
 Rd H a (.tup xs) ∨
  ∃(o:Obj) (its:Array Value) (n:Nat),K.lookup a=some o∧o.cls=.type "tuple"∧o.data=.seq its n∧its.size≤sizeLine∧Vals xs its.toList
def absV:Value→Option V
 | .none=>some .non
 | .bool b=>some (.bl b)
 | .int i _=>some (.int i)
 | .str x _=>some (.str x)
 | .bytes b _=>some (.byt b)
 | .float b _=>some (.flt b)
 | .ref a=>some (.ref a)
 | .type n=>some (.ty n)
 | _=>none
theorem RelV.abs {x:V} {u:Value} (r:RelV x u):absV u=some x:=by
 cases x with
 | non=>cases r;rfl
 | bl _=>cases r;rfl
 | int _=>obtain⟨t,rfl⟩:=r;rfl
 | str _=>obtain⟨t,rfl⟩:=r;rfl
 | byt _=>obtain⟨t,rfl⟩:=r;rfl
 | flt _=>obtain⟨t,rfl⟩:=r;rfl
 | ref _=>cases r;rfl
 | ty _=>cases r;rfl
theorem RelV.inj {x y:V} {u:Value} (r:RelV x u) (q:RelV y u):x=y:=Option.some.inj (r.abs.symm.trans q.abs)
theorem Vals.inj:∀{xs ys:List V} {us:List Value},Vals xs us→Vals ys us→xs=ys
 | _,_,_,.nil,.nil=>rfl
 | _,_,_,.cons r t,.cons r' t'=>by rw[r.inj r',Vals.inj t t']
section
variable {X:Cx} {pins:List (Addr×Obj)} {σ:St} {H:Hp} {s:Shared} {a:Addr} {xs ys:List V}
theorem SqL.of {K:PySem.W.Frag} (h:H a=some (.lst xs)):SqL K H a xs:=.inl (.inl h)
theorem SqT.of {K:PySem.W.Frag} (h:H a=some (.tup xs)):SqT K H a xs:=.inl (.inl h)
theorem Inv.list (I:Inv X pins σ H s) (h:SqL X.K H a xs):∃ its:List Value,Vals xs its∧PlainL s.heap a its.toArray∧xs.length≤sizeLine:=by
 rcases h with h | ⟨o,its,n,hk,hc,hd,hs,hz,r⟩
 ·obtain⟨z,its,n,r,e⟩:=h.ok I.hok
  exact⟨its,r,⟨_,n,e,rfl,rfl,rfl⟩,z⟩
 ·refine⟨its.toList,r,⟨o,n,I.kIn a o hk,hc,hd,by simpa using hs⟩,?_⟩
  have e:=r.length
  simp only[Array.length_toList] at e
  omega
theorem Inv.tuple (I:Inv X pins σ H s) (h:SqT X.K H a xs):∃ its:List Value,Vals xs its∧IsTup s.heap a its.toArray∧xs.length≤sizeLine:=by
 rcases h with h | ⟨o,its,n,hk,hc,hs,hz,r⟩
 ·obtain⟨z,its,r,p⟩:=h.ok I.hok
  exact⟨its,r,p,z⟩
 ·refine⟨its.toList,r,⟨o,I.kIn a o hk,hc,n,by simpa using hs⟩,?_⟩
  have e:=r.length
  simp only[Array.length_toList] at e
  omega
theorem Inv.list_inj (I:Inv X pins σ H s) (h:SqL X.K H a xs) (h':SqL X.K H a ys):xs=ys:=by
 obtain⟨its,r,⟨o,n,e,_,_,d⟩,_⟩:=I.list h
 obtain⟨its',r',⟨o',n',e',_,_,d'⟩,_⟩:=I.list h'
 rw[e] at e';cases e'
 rw[d] at d'
 injection d' with d1 _
 have:its=its':=by simpa using congrArg Array.toList d1
 subst this
 exact r.inj r'
theorem Inv.tuple_inj (I:Inv X pins σ H s) (h:SqT X.K H a xs) (h':SqT X.K H a ys):xs=ys:=by
 obtain⟨its,r,⟨o,e,_,n,d⟩,_⟩:=I.tuple h
 obtain⟨its',r',⟨o',e',_,n',d'⟩,_⟩:=I.tuple h'
 rw[e] at e';cases e'
 rw[d] at d'
 injection d' with d1 _
 have:its=its':=by simpa using congrArg Array.toList d1
 subst this
 exact r.inj r'
end
abbrev Cx.wish (X:Cx) (E:Value→Shared→Prop):Cx:={ X with xe:=E }
abbrev Cx.nox (X:Cx):Cx:=X.wish fun _ _=>False
theorem Cx.Ok.wish {X:Cx} (ok:X.Ok) (E:Value→Shared→Prop):(X.wish E).Ok :=
 ⟨ok.mod,ok.kind,ok.glob,ok.blt,ok.above,ok.inj,ok.has,ok.cab,ok.hd,ok.frames,ok.stk,ok.exf,ok.bs,ok.bsz,ok.noex,ok.exfs,ok.funs,ok.frf⟩
theorem Cx.Ok.unwish {X:Cx} {E:Value→Shared→Prop} (ok:(X.wish E).Ok):X.Ok :=
 ⟨ok.mod,ok.kind,ok.glob,ok.blt,ok.above,ok.inj,ok.has,ok.cab,ok.hd,ok.frames,ok.stk,ok.exf,ok.bs,ok.bsz,ok.noex,ok.exfs,ok.funs,ok.frf⟩
section
variable {X:Cx} {pins:List (Addr×Obj)} {σ:St} {H:Hp} {s:Shared} {E:Value→Shared→Prop}
theorem Inv.wish (I:Inv X pins σ H s) (E:Value→Shared→Prop):Inv (X.wish E) pins σ H s:=⟨I.ok.wish E,I.os,I.bare,I.base,I.loc,I.cell,I.free,I.freeC,I.pin,I.hok,I.len⟩
theorem Inv.unwish (I:Inv (X.wish E) pins σ H s):Inv X pins σ H s:=⟨I.ok.unwish,I.os,I.bare,I.base,I.loc,I.cell,I.free,I.freeC,I.pin,I.hok,I.len⟩
theorem SP.unwish {D:Ends} {f:Flow} {s':Shared} (h:SP (X.wish E) pins D f s'):SP X pins D f s':=by
 cases f with
 | next=>obtain⟨σ',H',I,q⟩:=h;exact⟨σ',H',I.unwish,q⟩
 | brk=>obtain⟨σ',H',I,q⟩:=h;exact⟨σ',H',I.unwish,q⟩
 | cont=>obtain⟨σ',H',I,q⟩:=h;exact⟨σ',H',I.unwish,q⟩
 | ret u=>obtain⟨v,σ',H',I,r,q⟩:=h;exact⟨v,σ',H',I.unwish,r,q⟩
theorem PSs.nox {st:List Stmt} {t:TS} (h:PSs X.nox st t):PSs X st t:=fun pins s σ H D I hw =>
 wpAny_mono (h pins s σ H D (I.wish _) hw) (fun _ _ q=>q.unwish) fun _ _ z=>False.elim z
end
section
variable {X:Cx} {st:Stmt} {rest:List Stmt} {t u:TS} {e:Expr} {te:TE} {pos:Pos}
def tNext:TS:=fun D σ H=>D.nx σ H
def tSeq (t u:TS):TS:=fun D σ H=>t { D with nx:=u D } σ H
theorem ju_:PSs X [] tNext:=fun _ _ σ H _ I h=>wpAny_execs_nil ⟨σ,H,I,h⟩
theorem jc_ (h1:PS X st t) (h2:PSs X rest u):PSs X (st::rest) (tSeq t u):=by
 intro pins s σ H D I h
 refine wpAny_execs_cons (thn (h1 pins s σ H { D with nx:=u D } I h) fun f s1 q=>?_)
 cases f with
 | next =>
  obtain⟨σ',H',I',q⟩:=q
  exact h2 pins s1 σ' H' D I' q
 | ret v=>exact q
 | brk=>exact q
 | cont=>exact q
theorem jh_ (h1:PS X st t):PSs X [st] t:=by
 intro pins s σ H D I h
 refine wpAny_execs_cons (thn (h1 pins s σ H D I h) fun f s1 q=>?_)
 cases f with
 | next=>exact wpAny_execs_nil q
 | ret v=>exact q
 | brk=>exact q
 | cont=>exact q
theorem Inv.quiet {pins:List (Addr×Obj)} {σ:St} {H:Hp} {s:Shared} (I:Inv X pins σ H s):interactive X.env=false:=by simp[interactive,I.ok.kind]
def tDrop (te:TE):TS:=fun D σ H=>te σ H fun _ H1=>D.nx σ H1
theorem ps_expr (he:PE X e te) (hs:swapsWith e none pos.line X.env=pure false:=by rfl):PS X (.Expr e pos) (tDrop te):=by
 intro pins s σ H D I h
 exact wpAny_Expr_any (thn (he pins s σ H _ I h) fun v s1 ⟨x,H1,I1,r1,q1⟩=>⟨σ,H1,I1,q1⟩) I.quiet hs
def tRet (te:TE):TS:=fun D σ H=>te σ H D.rt
theorem jo_ (he:PE X e te):PS X (.Return (some e) pos) (tRet te):=by
 intro pins s σ H D I h
 exact wpAny_Return_some (thn (he pins s σ H _ I h) fun v s1 ⟨x,H1,I1,r1,q1⟩=>⟨x,σ,H1,I1,r1,q1⟩)
def tIfS (c:TT) (t u:TS):TS:=fun D σ H=>c σ H fun b H1=>if b=true then t D σ H1 else u D σ H1
theorem j6_ {c:Expr} {a b:List Stmt} {tc:TT} (hc:PT X c tc) (ha:PSs X a t) (hb:PSs X b u):PS X (.If c a b pos) (tIfS tc t u):=by
 intro pins s σ H D I h
 refine wpAny_If (thn (hc pins s σ H _ I h) fun d s1 ⟨H1,I1,q1⟩=>?_)
 cases d with
 | true=>exact ha pins s1 σ H1 D I1 q1
 | false=>exact hb pins s1 σ H1 D I1 q1
def tNever:TS:=fun _ _ _=>False
theorem ps_never:PS X st tNever:=fun _ _ _ _ _ _ h=>h.elim
end
abbrev TG:=V→St→Hp→(St→Hp→Prop)→Prop
abbrev TGs:=List V→St→Hp→(St→Hp→Prop)→Prop
def PG (X:Cx) (target:Expr) (t:TG):Prop :=
 ∀(pins:List (Addr×Obj)) (s:Shared) (σ:St) (H:Hp) (v:V) (u:Value) (Q:St→Hp→Prop),Inv X pins σ H s→RelV v u→t v σ H Q →
  wpAny (model X.prog X.w) X.A (assign target X.env u) (fun _ s'=>∃ σ' H',Inv X pins σ' H' s'∧Q σ' H') X.xe s
def PGs (X:Cx) (ts:List Expr) (t:TGs):Prop :=
 ∀(pins:List (Addr×Obj)) (s:Shared) (σ:St) (H:Hp) (vs:List V) (us:List Value) (Q:St→Hp→Prop),Inv X pins σ H s→Vals vs us→t vs σ H Q →
  wpAny (model X.prog X.w) X.A (assignInOrder ((assignEach ts X.env).map (·.2)) us) (fun _ s'=>∃ σ' H',Inv X pins σ' H' s'∧Q σ' H') X.xe s
abbrev TSet:=V→V→V→Hp→(Hp→Prop)→Prop
def PSet (X:Cx) (t:TSet):Prop :=
 ∀(pins:List (Addr×Obj)) (s:Shared) (σ:St) (H:Hp) (o i v:V) (ov iv u:Value) (Q:Hp→Prop),Inv X pins σ H s→RelV o ov→RelV i iv→RelV v u→t o i v H Q →
  wpAny (model X.prog X.w) X.A (setItem ov iv u) (fun _ s'=>∃ H',Inv X pins σ H' s'∧Q H') X.xe s
section
variable {X:Cx} {pos:Pos}
def gName (i:Nat):TG:=fun v σ H Q=>Q (σ.set i (some v)) H
theorem jq_ {i:Nat} {x:Str} (hN:X.N.Nodup) (hi:X.N[i]?=some x) (hx:Loc X.env.scope x) (hf:X.fn x=true∨X.env.scope.names.lookup x=some .local:=by first | exact .inl rfl | exact .inr rfl | assumption):PG X (.Name x pos) (gName i):=by
 intro pins s σ H v u Q I r h
 exact wpAny_assign_Name (store_ok I hN hi hx r (fun s' I'=>⟨_,H,I',h⟩) hf)
def gNil:TGs:=fun vs σ H Q=>vs=[]∧Q σ H
def gCons (t:TG) (u:TGs):TGs:=fun vs σ H Q=>∃ v r,vs=v::r∧t v σ H fun σ' H'=>u r σ' H' Q
theorem pgs_nil:PGs X [] gNil:=by
 intro pins s σ H vs us Q I r h
 obtain⟨e,h⟩:=h
 subst e
 cases r
 exact assignInOrder_nil ⟨σ,H,I,h⟩
theorem zb_ {e:Expr} {es:List Expr} {t:TG} {u:TGs} (h1:PG X e t) (h2:PGs X es u)
  (hs:(assignEach (e::es) X.env).map (·.2)=assign e X.env::(assignEach es X.env).map (·.2):=by rfl):PGs X (e::es) (gCons t u):=by
 intro pins s σ H vs us Q I r h
 obtain⟨v,vr,e1,h⟩:=h
 subst e1
 cases r with
 | cons r rr =>
  rw[hs]
  refine assignInOrder_cons (thn (h1 pins s σ H _ _ _ I r h) fun _ s1 ⟨σ1,H1,I1,q1⟩=>?_)
  exact h2 pins s1 σ1 H1 _ _ Q I1 rr q1
def gTup (K:PySem.W.Frag) (n:Nat) (t:TGs):TG:=fun v σ H Q=>∃ a xs,v=.ref a∧SqT K H a xs∧xs.length=n∧t xs σ H Q
theorem pg_tup {es:List Expr} {k:Nat} {t:TGs} {n:Nat} (hc:X.calm=true) (h:PGs X es t)
  (hn:(assignEach es X.env).length=n:=by rfl) (hst:(assignEach es X.env).findIdx? (·.1)=none:=by rfl):PG X (.Tuple es k pos) (gTup X.K n t):=by
 intro pins s σ H v u Q I r hw
 obtain⟨a,xs,e1,hq,hl,hw⟩:=hw
 subst e1
 cases r
 obtain⟨its,rv,ht,hz⟩:=I.tuple hq
 refine assign_Tuple_tuple (I.ok.hd hc) ht (by simp[hn,← hl,rv.length]) hst fun h' hx=>?_
 have I1:Inv X pins σ H { s with heap:=h' }:=I.kept (t':=s.toks) fun b o e=>hx b o (Nat.ne_of_lt (Heap.lt_size e)) e
 exact h pins _ σ H xs _ Q I1 (by simpa using rv) hw
def gSub (to ti:TE) (t:TSet):TG:=fun v σ H Q=>to σ H fun o H1=>ti σ H1 fun i H2=>t o i v H2 fun H3=>Q σ H3
theorem pg_sub {o i:Expr} {to ti:TE} {t:TSet} (ho:PE X o to) (hi:PE X i ti) (hs:PSet X t)
  (ha:∀ v,assign (.Subscript o i pos) X.env v=(do
   let ov ← holding [v] (eval o X.env)
   let iv ← holding [v,ov] (eval i X.env)
   standAt pos
   holding [v,ov,iv] (setItem ov iv v)
   release [v,ov,iv] []):=by intro _;rfl):PG X (.Subscript o i pos) (gSub to ti t):=by
 intro pins s σ H v u Q I r h
 rw[ha]
 refine wpAny_bind (wpAny_holding (thn (ho pins s σ H _ I h) fun ov s1 ⟨x,H1,I1,r1,q1⟩=>?_))
 refine wpAny_bind (wpAny_holding (thn (hi pins s1 σ H1 _ I1 q1) fun iv s2 ⟨y,H2,I2,r2,q2⟩=>?_))
 refine wpAny_bind (wpAny_standAt (wpAny_bind (wpAny_holding (thn (hs pins s2 σ H2 x y v ov iv u _ I2 r1 r2 r q2) fun _ s3 ⟨H3,I3,q3⟩=>?_))))
 exact wpAny_release ⟨σ,H3,I3,q3⟩
def tAsg (te:TE) (g:TG):TS:=fun D σ H=>te σ H fun x H1=>g x σ H1 D.nx
theorem ps_asg {tg e:Expr} {te:TE} {g:TG} (he:PE X e te) (hg:PG X tg g) (hs:swapsWithSole [tg] e pos.line X.env=pure false:=by rfl) (hw:swappedStores [tg] e X.env=pure none:=by rfl)
  (h1:(assignEach [tg] X.env).map (·.2)=[assign tg X.env]:=by rfl):PS X (.Assign [tg] e pos) (tAsg te g):=by
 intro pins s σ H D I h
 refine wpAny_Assign_stores (thn (he pins s σ H _ I h) fun v s1 ⟨x,H1,I1,r1,q1⟩=>?_) hs hw
 rw[h1]
 exact thn (hg pins s1 σ H1 x v _ I1 r1 q1) fun _ s2 q=>q
theorem jj_ {i:Nat} {x:Str} {e:Expr} {te:TE} {pos':Pos} (hN:X.N.Nodup) (hi:X.N[i]?=some x) (hx:Loc X.env.scope x) (he:PE X e te) (hs:swapsWith e (some (.Name x pos')) pos.line X.env=pure false:=by rfl) (hf:X.fn x=true∨X.env.scope.names.lookup x=some .local:=by first | exact .inl rfl | exact .inr rfl | assumption) :
  PS X (.Assign [.Name x pos'] e pos) (tAsg te (gName i)):=by
 intro pins s σ H D I h
 refine wpAny_Assign_Name (thn (he pins s σ H _ I h) fun v s1 ⟨y,H1,I1,r1,q1⟩=>?_) hs
 exact store_ok I1 hN hi hx r1 (fun s2 I2=>⟨_,H1,I2,q1⟩) hf
end
section
variable {X:Cx} {pos:Pos}
def tWhile (c:TT) (tb:TS):TS:=fun D σ H=>∃ W:Nat→St→Hp→Prop,(∃ m,W m σ H)∧∀ m σ H,W m σ H →
 c σ H fun b H1=>if b=true then ∃ N:St→Hp→Prop,(∀ σ' H',N σ' H'→∃ m',m' < m∧W m' σ' H')∧tb { D with nx:=N,ct:=N,bk:=D.nx } σ H1 else D.nx σ H1
theorem ps_while {c:Expr} {body:List Stmt} {tc:TT} {tb:TS} (hp:PassesOwn (model X.prog X.w) X.A X.env X.xe) (hc:PT X c tc) (hb:PSs X body tb):PS X (.While c body [] pos) (tWhile tc tb):=by
 intro pins s σ H D I h
 obtain⟨W,⟨m0,w0⟩,turn⟩:=h
 refine wpAny_While (codeAny_whileLoop (fun n s'=>∃ σ' H',Inv X pins σ' H' s'∧W n σ' H') ?_ m0 ⟨σ,H,I,w0⟩)
 rintro n s1 ⟨σ1,H1,I1,w1⟩
 refine wpAny_passesOwn hp (thn (hc pins s1 σ1 H1 _ I1 (turn n σ1 H1 w1)) fun b s2 ⟨H2,I2,q2⟩=>?_)
 cases b with
 | true =>
  obtain⟨N,hN,q2⟩:=q2
  rw[if_pos rfl]
  refine wpAny_passesOwn hp (thn (hb pins s2 σ1 H2 _ I2 q2) fun f s3 q3=>?_)
  cases f with
  | next =>
   obtain⟨σ3,H3,I3,n3⟩:=q3
   obtain⟨m',hm,w3⟩:=hN σ3 H3 n3
   exact⟨m',hm,σ3,H3,I3,w3⟩
  | cont =>
   obtain⟨σ3,H3,I3,n3⟩:=q3
   obtain⟨m',hm,w3⟩:=hN σ3 H3 n3
   exact⟨m',hm,σ3,H3,I3,w3⟩
  | brk=>exact q3
  | ret v=>exact q3
 | false =>
  rw[if_neg Bool.false_ne_true]
  exact wpAny_execs_nil ⟨σ1,H2,I2,q2⟩
end
structure It where
 go:Nat→Hp→Prop
 yld:Nat→Hp→V→Hp→Prop
 stop:Nat→Hp→Prop
def FpOk (X:Cx) (pins:List (Addr×Obj)) (H:Hp) (b:Addr):Prop :=
 H b=none∧b≠X.env.locals∧b∉X.fs∧(b∈X.ex∨X.s₀.heap.objs.size≤b)∧(∀ x c,X.env.cells.lookup x=some c→c≠b)∧∀ p∈X.pn++pins,p.1≠b
theorem Inv.fpOk {X:Cx} {pins:List (Addr×Obj)} {σ:St} {H H':Hp} {s:Shared} {b:Addr} (I:Inv X pins σ H s) (hb:s.heap.objs.size≤b) (hn:H' b=none):FpOk X pins H' b:=by
 refine⟨hn,Nat.ne_of_gt (Nat.lt_of_lt_of_le I.lt hb),I.nofs hb,.inr (Nat.le_trans I.sz hb),fun x c e z=>?_,fun p hp z=>?_⟩
 ·obtain⟨v,q⟩:=I.cell x c e
  exact absurd (Nat.lt_of_lt_of_le q.lt (by rw[z];exact hb)) (Nat.lt_irrefl _)
 ·exact absurd (Nat.lt_of_lt_of_le (Heap.lt_size (I.pin p hp).1) (by rw[z];exact hb)) (Nat.lt_irrefl _)
structure Turn (P:Program) (w:World) (K:PySem.W.Frag) (tg:Expr) (J:It) (fp:List Addr) (it:Addr) (tn:Nat→Heap→Prop):Prop where
 mem:it∈fp
 obj:∀ i h,tn i h→∀ b∈fp,∃ o,h.get? b=some o∧∀ v,o.data≠.cell v
 keep:∀ i h h',tn i h→(∀ b∈fp,∀ o,h.get? b=some o→h'.get? b=some o)→tn i h'
 item:∀(X:Cx),X.prog=P→X.w=w→X.K=K→X.calm=true→∀(i:Nat) (pins:List (Addr×Obj)) (s:Shared) (σ:St) (H:Hp) (E:Value→Shared→Prop),Inv X pins σ H s→(∀ b∈fp,FpOk X pins H b)→tn i s.heap→J.go i H →
  wpAny (model P w) X.A (pyNext (.ref it)) (fun r s1=>∃ u,r=some u ∧
   wpAny (model P w) X.A (letOwnedTupleGo tg (.ref it) u) (fun _ s2=>∃ x H',Inv X pins σ H' s2∧RelV x u∧J.yld i H x H'∧tn (i+1) s2.heap∧∀ b∈fp,H' b=none) E s1) E s
 done:∀(X:Cx),X.prog=P→X.w=w→X.K=K→X.calm=true→∀(i:Nat) (pins:List (Addr×Obj)) (s:Shared) (σ:St) (H:Hp) (E:Value→Shared→Prop),Inv X pins σ H s→(∀ b∈fp,FpOk X pins H b)→tn i s.heap→J.stop i H →
  wpAny (model P w) X.A (pyNext (.ref it)) (fun r s1=>r=none∧Inv X pins σ H s1) E s
 self:∀(A:Around) (i:Nat) (s:Shared) (Q:Value→Shared→Prop) (E:Value→Shared→Prop),tn i s.heap→Q (.ref it) s→wpAny (model P w) A (pyIter (.ref it)) Q E s
abbrev TI:=St→Hp→(It→Hp→Prop)→Prop
def PIE (X:Cx) (pins:List (Addr×Obj)) (σ:St) (tg:Expr) (R:It→Hp→Prop) (itv:Value) (s2:Shared):Prop :=
 ∃(it:Addr) (fp:List Addr) (tn:Nat→Heap→Prop) (J:It) (H':Hp),itv=.ref it∧Inv X pins σ H' s2∧Turn X.prog X.w X.K tg J fp it tn∧tn 0 s2.heap∧(∀ b∈fp,FpOk X pins H' b)∧R J H'
def PI (X:Cx) (tg iter:Expr) (wi:TI):Prop :=
 ∀(pins:List (Addr×Obj)) (s:Shared) (σ:St) (H:Hp) (R:It→Hp→Prop),Inv X pins σ H s→wi σ H R →
  wpAny (model X.prog X.w) X.A (eval iter X.env) (fun v s1=>wpAny (model X.prog X.w) X.A (pyIter v) (PIE X pins σ tg R) X.xe s1) X.xe s
theorem go_of {M:Model} {A:Around} {E:Value→Shared→Prop} {s:Shared} {tg:Expr} {it:Addr} {u:Value} {o:Obj} {n:String} {vs:Array Value} {Q:Unit→Shared→Prop} (ho:s.heap.get? it=some o) (hc:o.cls=.type n) (hd:o.data=.fields vs)
  (hn:["enumerate","zip","dict_itemiterator","dict_reverseitemiterator","odict_iterator","itertools.zip_longest","itertools.pairwise"].contains n=false) (hQ:Q () s):wpAny M A (letOwnedTupleGo tg (.ref it) u) Q E s:=by
 unfold letOwnedTupleGo
 cases tg <;> first
  | exact wpAny_pure hQ
  | (cases u <;> first
    | exact wpAny_pure hQ
    | (refine wpAny_bind (wpAny_load ho ?_)
       rw[hc,hd]
       show wpAny M A (if (["enumerate","zip","dict_itemiterator","dict_reverseitemiterator","odict_iterator","itertools.zip_longest","itertools.pairwise"].contains n&&vs[0]? == some (rawInt _))=true then _ else _) Q E s
       rw[if_neg (by intro h;rw[hn,Bool.false_and] at h;cases h)]
       exact wpAny_pure hQ))
def Itl (K:PySem.W.Frag) (a:Addr):It :=
 ⟨fun i H=>∃ xs x,SqL K H a xs∧xs[i]?=some x,fun i H x H'=>H'=H∧∀ xs,SqL K H a xs→xs[i]?=some x,fun i H=>∃ xs,SqL K H a xs∧xs.length≤i⟩
def Itt (K:PySem.W.Frag) (a:Addr):It :=
 ⟨fun i H=>∃ xs x,SqT K H a xs∧xs[i]?=some x,fun i H x H'=>H'=H∧∀ xs,SqT K H a xs→xs[i]?=some x,fun i H=>∃ xs,SqT K H a xs∧xs.length≤i⟩
def Itr (lo:Int) (n:Nat):It:=⟨fun i _=>i < n,fun i H x H'=>H'=H∧x=.int (lo+i),fun i _=>n≤i⟩
theorem turn_list {P:Program} {w:World} {K:PySem.W.Frag} {tg:Expr} (a it:Addr):Turn P w K tg (Itl K a) [it] it (fun i h=>h.IsListIter it a i) where
 mem:=by simp
 obj:=fun i h st b hb=>by
  have e:b=it:=by simpa using hb
  subst e
  obtain⟨o,e,c,d⟩:=st
  exact⟨o,e,fun v z=>by rw[d] at z;cases z⟩
 keep:=fun i h h' st k=>st.at fun o e=>k it (by simp) o e
 item:=by
  intro X hP hw hK hc i pins s σ H E I hf st hg
  subst hP hw hK
  obtain⟨xs,x,hq,hx⟩:=hg
  obtain⟨its,rv,p,hz⟩:=I.list hq
  obtain⟨u,hu,ru⟩:=rv.get hx
  obtain⟨f0,f1,f2,f3,f4,f5⟩:=hf it (by simp)
  refine wpAny_pyNext_list_item st p.isList (x:=u) (by simpa using hu) fun h' st' sb=>?_
  have I1:Inv X pins σ H { s with heap:=h' }:=I.turned (t':=s.toks) (fun b o hb e=>(sb.2 b hb).trans e) f0 f1 f3 f4 f5
  obtain⟨o,e,c,d⟩:=id st'
  exact⟨u,rfl,go_of (s:={ s with heap:=h' }) e c d (by decide) ⟨x,H,I1,ru,⟨rfl,fun ys hy=>by rw[I.list_inj hy hq];exact hx⟩,st',fun b hb=>(hf b hb).1⟩⟩
 done:=by
  intro X hP hw hK hc i pins s σ H E I hf st hg
  subst hP hw hK
  obtain⟨xs,hq,hx⟩:=hg
  obtain⟨its,rv,p,hz⟩:=I.list hq
  obtain⟨f0,f1,f2,f3,f4,f5⟩:=hf it (by simp)
  have hl:=rv.length
  exact wpAny_pyNext_list_end (I.ok.hd hc) st p.isList (by simp;omega) fun h' eb=>⟨rfl,I.turned (t':=s.toks) (fun b o hb e=>eb b o hb e) f0 f1 f3 f4 f5⟩
 self:=fun _ _ _ _ _ st h=>wpAny_pyIter_listiter st h
theorem turn_tuple {P:Program} {w:World} {K:PySem.W.Frag} {tg:Expr} (a it:Addr):Turn P w K tg (Itt K a) [it] it (fun i h=>h.IsTupleIter it a i) where
 mem:=by simp
 obj:=fun i h st b hb=>by
  have e:b=it:=by simpa using hb
  subst e
  obtain⟨o,e,c,d⟩:=st
  exact⟨o,e,fun v z=>by rw[d] at z;cases z⟩
 keep:=fun i h h' st k=>st.at fun o e=>k it (by simp) o e
 item:=by
  intro X hP hw hK hc i pins s σ H E I hf st hg
  subst hP hw hK
  obtain⟨xs,x,hq,hx⟩:=hg
  obtain⟨its,rv,p,hz⟩:=I.tuple hq
  obtain⟨u,hu,ru⟩:=rv.get hx
  obtain⟨f0,f1,f2,f3,f4,f5⟩:=hf it (by simp)
  refine wpAny_pyNext_tuple_item st (show s.heap.IsTuple a its.toArray from p) (x:=u) (by simpa using hu) fun h' st' sb=>?_
  have I1:Inv X pins σ H { s with heap:=h' }:=I.turned (t':=s.toks) (fun b o hb e=>(sb.2 b hb).trans e) f0 f1 f3 f4 f5
  obtain⟨o,e,c,d⟩:=id st'
  exact⟨u,rfl,go_of (s:={ s with heap:=h' }) e c d (by decide) ⟨x,H,I1,ru,⟨rfl,fun ys hy=>by rw[I.tuple_inj hy hq];exact hx⟩,st',fun b hb=>(hf b hb).1⟩⟩
 done:=by
  intro X hP hw hK hc i pins s σ H E I hf st hg
  subst hP hw hK
  obtain⟨xs,hq,hx⟩:=hg
  obtain⟨its,rv,p,hz⟩:=I.tuple hq
  obtain⟨f0,f1,f2,f3,f4,f5⟩:=hf it (by simp)
  have hl:=rv.length
  exact wpAny_pyNext_tuple_end (I.ok.hd hc) st (show s.heap.IsTuple a its.toArray from p) (by simp;omega) fun h' eb=>⟨rfl,I.turned (t':=s.toks) (fun b o hb e=>eb b o hb e) f0 f1 f3 f4 f5⟩
 self:=fun _ _ _ _ _ st h=>wpAny_pyIter_tupleiter st h
theorem turn_range {P:Program} {w:World} {K:PySem.W.Frag} {tg:Expr} (it:Addr) (lo:Int) (n:Nat):Turn P w K tg (Itr lo n) [it] it (fun i h=>IsRangeIter h it (lo+(i:Nat) * 1) ((n:Int) - (i:Nat)) 1) where
 mem:=by simp
 obj:=fun i h st b hb=>by
  have e:b=it:=by simpa using hb
  subst e
  exact⟨_,st,fun v z=>by
   have z':Data.fields _=Data.cell v:=z
   cases z'⟩
 keep:=fun i h h' st k=>k it (by simp) _ st
 item:=by
  intro X hP hw hK hc i pins s σ H E I hf st hg
  subst hP hw hK
  obtain⟨f0,f1,f2,f3,f4,f5⟩:=hf it (by simp)
  have W:=Walks.range (prog:=X.prog) (w:=X.w) (I.ok.hd hc) it lo 1 n
  refine W.item i s _ _ hg st fun v h' tk hv st' kk=>?_
  obtain⟨t,rfl⟩:=hv
  have I1:Inv X pins σ H { s with heap:=h',toks:=tk }:=I.turned (fun b o hb e=>kk b o (by simpa using hb) e) f0 f1 f3 f4 f5
  refine⟨_,rfl,go_of (s:={ s with heap:=h',toks:=tk }) (n:="range_iterator") st' rfl rfl (by decide) ⟨.int (lo+i),H,I1,⟨t,?_⟩,⟨rfl,rfl⟩,st',fun b hb=>(hf b hb).1⟩⟩
  rw[Int.mul_one]
 done:=by
  intro X hP hw hK hc i pins s σ H E I hf st hg
  subst hP hw hK
  obtain⟨f0,f1,f2,f3,f4,f5⟩:=hf it (by simp)
  exact wpAny_pyNext_range_end (I.ok.hd hc) st (by have:n≤i:=hg;omega) fun h' eb=>⟨rfl,I.turned (t':=s.toks) (fun b o hb e=>eb b o hb e) f0 f1 f3 f4 f5⟩
 self:=fun _ _ _ _ _ st h=>wpAny_pyIter_rangeiter st h
end L2
namespace L2
open PySem PySem.Spec PyProof.Rows
section
variable {X:Cx} {tg:Expr}
theorem range_it {pins:List (Addr×Obj)} {σ:St} {H:Hp} {s:Shared} {R:It→Hp→Prop} {E:Value→Shared→Prop} {lo hi:Int} {t u v:Tok} {tk:Nat} (I:Inv X pins σ H s) (h1:-(2 ^ 62)≤lo) (h2:lo < 2 ^ 62) (h3:-(2 ^ 62)≤hi) (h4:hi < 2 ^ 62)
  (q:R (Itr lo (hi - lo).toNat) H):wpAny (model X.prog X.w) X.A (pyIter (.ref s.heap.objs.size)) (PIE X pins σ tg R) E { s with heap:=s.heap.push { cls:=.type "range",data:=.fields #[.int lo t,.int hi u,.int 1 v] },toks:=tk }:=by
 refine wpAny_pyIter_range (IsRange.new ..) (small_one h1 h2 h3 h4) ?_
 have I1:Inv X pins σ H { s with heap:=s.heap.push { cls:=.type "range",data:=.fields #[.int lo t,.int hi u,.int 1 v] },toks:=tk }:=I.kept fun b o e=>Heap.get?_push_of_some _ e
 refine⟨(s.heap.push { cls:=.type "range",data:=.fields #[.int lo t,.int hi u,.int 1 v] }).objs.size,[(s.heap.push { cls:=.type "range",data:=.fields #[.int lo t,.int hi u,.int 1 v] }).objs.size],_,_,H,rfl,
  I1.kept (t':=tk) fun b o e=>Heap.get?_push_of_some _ e,turn_range _ lo (hi - lo).toNat,?_,fun b hb=>?_,q⟩
 ·have e1:lo+((0:Nat):Int) * 1=lo:=by simp
  have e2:(((hi - lo).toNat:Nat):Int) - ((0:Nat):Int)=Builtin.Range.rangeSize lo hi 1:=by rw[rangeSize_one];split <;> omega
  show IsRangeIter _ _ (lo+((0:Nat):Int) * 1) ((((hi - lo).toNat:Nat):Int) - ((0:Nat):Int)) 1
  rw[e1,e2]
  exact Heap.get?_push_size _ rfl
 ·have e:b=(s.heap.push { cls:=.type "range",data:=.fields #[.int lo t,.int hi u,.int 1 v] }).objs.size:=by simpa using hb
  subst e
  exact I1.fpOk (Nat.le_refl _) (I1.hok.fresh (Nat.le_refl _))
def iRng1 (ta:TA):TI:=fun σ H R=>ta σ H fun vs H1=>∃ j:Int,vs=[.int j]∧-(2 ^ 62)≤j∧j < 2 ^ 62∧R (Itr 0 j.toNat) H1
def iRng2 (ta:TA):TI:=fun σ H R=>ta σ H fun vs H1=>∃ i j:Int,vs=[.int i,.int j]∧(-(2 ^ 62)≤i∧i < 2 ^ 62∧-(2 ^ 62)≤j∧j < 2 ^ 62)∧R (Itr i (j - i).toNat) H1
theorem pi_range1 {a:Expr} {ta:TA} {p pos:Pos} (hg:Gl X "range") (hm:X.mg "range"=none) (ha:PA X [a] ta) (hs:starEach [a] X.env=[(false,eval a X.env)]:=by rfl):PI X tg (.Call (.Name "range" p) [a] [] pos) (iRng1 ta):=by
 intro pins s σ H R I h
 refine Call_ (ld_blt I hg hm boot_range (PyProof.Rows.callWith_type1 (thn (ha pos pins s σ H _ I h) fun us s1 ⟨vs,H1,I1,r1,q1⟩=>?_) hs rfl))
 obtain⟨j,e,q1,q2,q⟩:=q1
 subst e
 cases r1 with
 | cons r rr =>
  cases rr
  obtain⟨t,rfl⟩:=r
  exact call_range_1 (range_it I1 (by omega) (by omega) q1 q2 (by simpa using q))
theorem pi_range2 {a b:Expr} {ta:TA} {p pos:Pos} (hg:Gl X "range") (hm:X.mg "range"=none) (ha:PA X [a,b] ta) (hs:starEach [a,b] X.env=[(false,eval a X.env),(false,eval b X.env)]:=by rfl) (hs2:starEach [b] X.env=[(false,eval b X.env)]:=by rfl) :
  PI X tg (.Call (.Name "range" p) [a,b] [] pos) (iRng2 ta):=by
 intro pins s σ H R I h
 refine Call_ (ld_blt I hg hm boot_range (PyProof.Rows.callWith_type1 (thn (ha pos pins s σ H _ I h) fun us s1 ⟨vs,H1,I1,r1,q1⟩=>?_) (by rw[hs,hs2]) (by rw[hs2];rfl)))
 obtain⟨i,j,e,⟨q1,q2,q3,q4⟩,q⟩:=q1
 subst e
 cases r1 with
 | cons r rr =>
  cases rr with
  | cons r' rr =>
   cases rr
   obtain⟨t,rfl⟩:=r
   obtain⟨t',rfl⟩:=r'
   exact call_range_2 (range_it I1 q1 q2 q3 q4 q)
def tFor (wi:TI) (g:TG) (tb:TS):TS:=fun D σ H=>wi σ H fun J H1=>∃ W:Nat→Nat→St→Hp→Prop,(∃ m,W 0 m σ H1)∧∀ i m σ H,W i m σ H →
 (J.stop i H∧D.nx σ H)∨(J.go i H∧∃ N:St→Hp→Prop,(∀ σ' H',N σ' H'→∃ m',m' < m∧W (i+1) m' σ' H')∧∀ x H',J.yld i H x H'→g x σ H' fun σ2 H2=>tb { D with nx:=N,ct:=N,bk:=D.nx } σ2 H2)
def pinsAt (fp:List Addr) (h:Heap):List (Addr×Obj):=fp.filterMap fun b=>(h.get? b).map fun o=>(b,o)
theorem mem_pinsAt {fp:List Addr} {h:Heap} {b:Addr} {o:Obj} (hb:b∈fp) (e:h.get? b=some o):(b,o)∈pinsAt fp h:=List.mem_filterMap.mpr ⟨b,hb,by rw[e];rfl⟩
theorem of_pinsAt {fp:List Addr} {h:Heap} {p:Addr×Obj} (hp:p∈pinsAt fp h):p.1∈fp∧h.get? p.1=some p.2:=by
 obtain⟨b,hb,e⟩:=List.mem_filterMap.mp hp
 cases q:h.get? b with
 | none=>rw[q] at e;cases e
 | some o =>
  rw[q] at e
  have e':(b,o)=p:=Option.some.inj e
  subst e'
  exact⟨hb,q⟩
theorem Inv.pinned {pins:List (Addr×Obj)} {σ:St} {H:Hp} {s:Shared} {fp:List Addr} (I:Inv X pins σ H s) (hf:∀ b∈fp,FpOk X pins H b) (ho:∀ b∈fp,∃ o,s.heap.get? b=some o∧∀ v,o.data≠.cell v):Inv X (pins++pinsAt fp s.heap) σ H s :=
 I.pins_of fun p hp=>(List.mem_append.mp hp).elim (fun z=>I.pin p (List.mem_append_right _ z)) fun z=>by
  obtain⟨hb,e⟩:=of_pinsAt z
  obtain⟨f0,f1,f2,_⟩:=hf p.1 hb
  obtain⟨o,e',d⟩:=ho p.1 hb
  rw[e] at e';cases e'
  exact⟨e,f0,f1,f2,d⟩
theorem Inv.unpinned {pins pl:List (Addr×Obj)} {σ:St} {H:Hp} {s:Shared} (I:Inv X (pins++pl) σ H s):Inv X pins σ H s:=I.pins_of fun p hp=>I.pin p (List.mem_append_right _ (List.mem_append_left _ hp))
theorem ps_for {iter:Expr} {body:List Stmt} {wi:TI} {g:TG} {tb:TS} {pos:Pos} (hp:PassesOwn (model X.prog X.w) X.A X.env X.xe) (hc:X.calm=true) (hi:PI X tg iter wi) (hg:PG X tg g) (hb:PSs X body tb)
  (hs:∀ x,foldedSetIterable iter X.env x=pure x:=by intro _;rfl):PS X (.For tg iter body [] pos) (tFor wi g tb):=by
 intro pins s σ H D I h
 refine wpAny_For (thn (hi pins s σ H _ I h) fun v s1 h1=>thn h1 fun itv s2 h2=>?_) hs
 obtain⟨it,fp,tn,J,H2,e,I2,T,st2,f2,W,⟨m0,w0⟩,turn⟩:=h2
 subst e
 -- what stays true of the iterator's objects through the loop
 have stat:∀{H':Hp},(∀ b∈fp,H' b=none)→∀ b∈fp,FpOk X pins H' b:=fun hn b hb=>⟨hn b hb,(f2 b hb).2⟩
 refine codeAny_forLoop_any (fun n s'=>∃ i σ' H',Inv X pins σ' H' s'∧tn i s'.heap∧(∀ b∈fp,H' b=none)∧W i n σ' H') ?_ m0 ⟨0,σ,H2,I2,st2,fun b hb=>(f2 b hb).1,w0⟩
 rintro n s3 ⟨i,σ3,H3,I3,st3,fr3,w3⟩
 rcases turn i n σ3 H3 w3 with ⟨stop,qn⟩ | ⟨go,N,hN,step⟩
 ·refine wpAny_passesOwn hp (thn (T.done X rfl rfl rfl hc i pins s3 σ3 H3 X.xe I3 (stat fr3) st3 stop) fun r s4 ⟨hr,I4⟩=>?_)
  subst hr
  exact wpAny_execs_nil ⟨σ3,H3,I4,qn⟩
 ·refine wpAny_passesOwn hp (thn (T.item X rfl rfl rfl hc i pins s3 σ3 H3 X.xe I3 (stat fr3) st3 go) fun r s4 ⟨u,hr,h4⟩=>?_)
  subst hr
  refine wpAny_passesOwn hp (thn h4 fun _ s5 ⟨x,H5,I5,r5,y5,st5,fr5⟩=>?_)
  have I5':=I5.pinned (stat fr5) (T.obj _ _ st5)
  refine wpAny_passesOwn hp (thn (hg _ s5 σ3 H5 x u _ I5' r5 (step x H5 y5)) fun _ s6 ⟨σ6,H6,I6,q6⟩=>?_)
  refine wpAny_passesOwn hp (thn (hb _ s6 σ6 H6 _ I6 q6) fun f s7 q7=>?_)
  have again:∀{σ7:St} {H7:Hp},Inv X (pins++pinsAt fp s5.heap) σ7 H7 s7→N σ7 H7→∃ m,m < n∧∃ i σ' H',Inv X pins σ' H' s7∧tn i s7.heap∧(∀ b∈fp,H' b=none)∧W i m σ' H':=fun{σ7 H7} I7 n7=>by
   obtain⟨m',hm,w7⟩:=hN σ7 H7 n7
   refine⟨m',hm,i+1,σ7,H7,I7.unpinned,T.keep _ _ _ st5 fun b hb o e=>(I7.pin (b,o) (List.mem_append_right _ (List.mem_append_right _ (mem_pinsAt hb e)))).1,fun b hb=>?_,w7⟩
   obtain⟨o,e,d⟩:=T.obj _ _ st5 b hb
   exact(I7.pin (b,o) (List.mem_append_right _ (List.mem_append_right _ (mem_pinsAt hb e)))).2.1
  cases f with
  | next=>obtain⟨σ7,H7,I7,n7⟩:=q7;exact again I7 n7
  | cont=>obtain⟨σ7,H7,I7,n7⟩:=q7;exact again I7 n7
  | brk=>obtain⟨σ7,H7,I7,q7⟩:=q7;exact⟨σ7,H7,I7.unpinned,q7⟩
  | ret v=>obtain⟨x7,σ7,H7,I7,r7,q7⟩:=q7;exact⟨x7,σ7,H7,I7.unpinned,r7,q7⟩
end
theorem for_list {K:PySem.W.Frag} {a:Addr} {xs:List V} {g:TG} {tb:TS} {D:Ends} {σ:St} {H:Hp} (Pv:Nat→St→Hp→Prop) (h0:Pv 0 σ H) (hl:∀ i σ H,i≤xs.length→Pv i σ H→SqL K H a xs)
  (hs:∀ i x σ H,xs[i]?=some x→Pv i σ H→g x σ H fun σ2 H2=>tb { D with nx:=Pv (i+1),ct:=Pv (i+1),bk:=D.nx } σ2 H2) (hd:∀ σ H,Pv xs.length σ H→D.nx σ H) :
  ∃ W:Nat→Nat→St→Hp→Prop,(∃ m,W 0 m σ H)∧∀ i m σ H,W i m σ H →
   ((Itl K a).stop i H∧D.nx σ H)∨((Itl K a).go i H∧∃ N:St→Hp→Prop,(∀ σ' H',N σ' H'→∃ m',m' < m∧W (i+1) m' σ' H')∧∀ x H',(Itl K a).yld i H x H'→g x σ H' fun σ2 H2=>tb { D with nx:=N,ct:=N,bk:=D.nx } σ2 H2):=by
 refine⟨fun i m σ H=>m=xs.length - i∧i≤xs.length∧Pv i σ H,⟨xs.length,by simp,Nat.zero_le _,h0⟩,?_⟩
 rintro i m σ H ⟨rfl,hi,p⟩
 have q:=hl i σ H hi p
 by_cases hlt:i < xs.length
 ·refine .inr ⟨⟨xs,xs[i],q,by simp[hlt]⟩,Pv (i+1),fun σ' H' p'=>⟨xs.length - (i+1),by omega,rfl,hlt,p'⟩,fun x H' y=>?_⟩
  obtain⟨e,y⟩:=y
  subst e
  exact hs i x σ _ (y xs q) p
 ·have e:i=xs.length:=by omega
  subst e
  exact .inl ⟨⟨xs,q,Nat.le_refl _⟩,hd σ H p⟩
theorem for_range {lo:Int} {n:Nat} {g:TG} {tb:TS} {D:Ends} {σ:St} {H:Hp} (Pv:Nat→St→Hp→Prop) (h0:Pv 0 σ H)
  (hs:∀ i σ H,i < n→Pv i σ H→g (.int (lo+i)) σ H fun σ2 H2=>tb { D with nx:=Pv (i+1),ct:=Pv (i+1),bk:=D.nx } σ2 H2) (hd:∀ σ H,Pv n σ H→D.nx σ H) :
  ∃ W:Nat→Nat→St→Hp→Prop,(∃ m,W 0 m σ H)∧∀ i m σ H,W i m σ H →
   ((Itr lo n).stop i H∧D.nx σ H)∨((Itr lo n).go i H∧∃ N:St→Hp→Prop,(∀ σ' H',N σ' H'→∃ m',m' < m∧W (i+1) m' σ' H')∧∀ x H',(Itr lo n).yld i H x H'→g x σ H' fun σ2 H2=>tb { D with nx:=N,ct:=N,bk:=D.nx } σ2 H2):=by
 refine⟨fun i m σ H=>m=n - i∧i≤n∧Pv i σ H,⟨n,by simp,Nat.zero_le _,h0⟩,?_⟩
 rintro i m σ H ⟨rfl,hi,p⟩
 by_cases hlt:i < n
 ·refine .inr ⟨hlt,Pv (i+1),fun σ' H' p'=>⟨n - (i+1),by omega,rfl,hlt,p'⟩,fun x H' y=>?_⟩
  obtain⟨e,y⟩:=y
  subst e y
  exact hs i σ _ hlt p
 ·have e:i=n:=by omega
  subst e
  exact .inl ⟨Nat.le_refl _,hd σ H p⟩
end L2
namespace L2
open PySem PySem.Spec PyProof.Rows
abbrev R2:=V→V→Hp→VK→Prop
def OpR (X:Cx) (f:Value→Value→Sem Value) (r:R2):Prop :=
 ∀(pins:List (Addr×Obj)) (s:Shared) (σ:St) (H:Hp) (x y:V) (v u:Value) (Q:VK),Inv X pins σ H s→RelV x v→RelV y u→r x y H Q →
  wpAny (model X.prog X.w) X.A (f v u) (EP X pins σ Q) X.xe s
def UnR (X:Cx) (f:Value→Sem Value) (r:V→Hp→VK→Prop):Prop :=
 ∀(pins:List (Addr×Obj)) (s:Shared) (σ:St) (H:Hp) (x:V) (v:Value) (Q:VK),Inv X pins σ H s→RelV x v→r x H Q →
  wpAny (model X.prog X.w) X.A (f v) (EP X pins σ Q) X.xe s
def CallR (X:Cx) (f:Value) (r:List V→Hp→VK→Prop):Prop :=
 ∀(pins:List (Addr×Obj)) (s:Shared) (σ:St) (H:Hp) (xs:List V) (us:List Value) (Q:VK),Inv X pins σ H s→Vals xs us→r xs H Q →
  wpAny (model X.prog X.w) X.A (call f us) (EP X pins σ Q) X.xe s
def TruR (X:Cx) (r:V→Hp→(Bool→Hp→Prop)→Prop):Prop :=
 ∀(pins:List (Addr×Obj)) (s:Shared) (σ:St) (H:Hp) (x:V) (v:Value) (Q:Bool→Hp→Prop),Inv X pins σ H s→RelV x v→r x H Q →
  wpAny (model X.prog X.w) X.A (truthy v) (TP X pins σ Q) X.xe s
def tOp (r:R2) (ta tb:TE):TE:=fun σ H Q=>ta σ H fun x H1=>tb σ H1 fun y H2=>r x y H2 Q
def tUn (r:V→Hp→VK→Prop) (ta:TE):TE:=fun σ H Q=>ta σ H fun x H1=>r x H1 Q
def rI (C:Int→Int→Prop) (g:Int→Int→V):R2:=fun x y H Q=>∃ i j,x=.int i∧y=.int j∧C i j∧Q (g i j) H
def rI0 (g:Int→Int→V):R2:=fun x y H Q=>∃ i j,x=.int i∧y=.int j∧Q (g i j) H
def rU (g:Int→V):V→Hp→VK→Prop:=fun x H Q=>∃ i,x=.int i∧Q (g i) H
section
variable {X:Cx} {a b c:Expr} {ta tb tc:TE} {pos:Pos}
theorem binT (ha:PE X a ta) (hb:PE X b tb) {pins:List (Addr×Obj)} {s:Shared} {σ:St} {H:Hp} {R:V→V→Hp→Prop} (I:Inv X pins σ H s)
  (h:ta σ H fun x H1=>tb σ H1 fun y H2=>R x y H2) {Q:Value→Shared→Prop} {f:Value→Value→Sem Value}
  (hf:∀ v u s2 x y H2,Inv X pins σ H2 s2→RelV x v→RelV y u→R x y H2→wpAny (model X.prog X.w) X.A (f v u) Q X.xe s2) :
  wpAny (model X.prog X.w) X.A (eval a X.env) (fun v s₁=>wpAny (model X.prog X.w) X.A (eval b X.env) (fun u s₂=>wpAny (model X.prog X.w) X.A (f v u) Q X.xe s₂) X.xe s₁) X.xe s:=by
 refine thn (ha pins s σ H _ I h) fun v s1 ⟨x,H1,I1,r1,q1⟩=>?_
 refine thn (hb pins s1 σ H1 _ I1 q1) fun u s2 ⟨y,H2,I2,r2,q2⟩=>?_
 exact hf v u s2 x y H2 I2 r1 r2 q2
theorem jp_ {op:Operator} {r:R2} (ho:OpR X (binaryOp op) r) (ha:PE X a ta) (hb:PE X b tb):PE X (.BinOp a op b pos) (tOp r ta tb):=by
 intro pins s σ H Q I h
 exact wpAny_BinOp (binT ha hb I h fun v u s2 x y H2 I2 rx ry q=>ho pins s2 σ H2 x y v u Q I2 rx ry q)
theorem pe_un {op:UnaryOp} {r:V→Hp→VK→Prop} (ho:UnR X (unaryOp op) r) (ha:PE X a ta):PE X (.UnaryOp op a pos) (tUn r ta):=by
 intro pins s σ H Q I h
 exact UnaryOp_ (thn (ha pins s σ H _ I h) fun v s1 ⟨x,H1,I1,r1,q1⟩=>ho pins s1 σ H1 x v Q I1 r1 q1)
theorem opI {f:Value→Value→Sem Value} {C:Int→Int→Prop} {g:Int→Int→Int}
  (rule:∀(i j:Int) (t u:Tok) (s:Shared) (Q:Value→Shared→Prop) (E:Value→Shared→Prop),C i j→Q (.int (g i j) s.toks) { s with toks:=s.toks+1 }→wpAny (model X.prog X.w) X.A (f (.int i t) (.int j u)) Q E s) :
  OpR X f (rI C fun i j=>.int (g i j)):=by
 intro pins s σ H x y v u Q I rx ry h
 obtain⟨i,j,rfl,rfl,hc,q⟩:=h
 obtain⟨t,rfl⟩:=rx
 obtain⟨t',rfl⟩:=ry
 exact rule i j t t' s _ _ hc ⟨.int (g i j),H,I.tok _,⟨_,rfl⟩,q⟩
theorem opI0 {f:Value→Value→Sem Value} {g:Int→Int→Int}
  (rule:∀(i j:Int) (t u:Tok) (s:Shared) (Q:Value→Shared→Prop) (E:Value→Shared→Prop),Q (.int (g i j) s.toks) { s with toks:=s.toks+1 }→wpAny (model X.prog X.w) X.A (f (.int i t) (.int j u)) Q E s) :
  OpR X f (rI0 fun i j=>.int (g i j)):=by
 intro pins s σ H x y v u Q I rx ry h
 obtain⟨i,j,rfl,rfl,q⟩:=h
 obtain⟨t,rfl⟩:=rx
 obtain⟨t',rfl⟩:=ry
 exact rule i j t t' s _ _ ⟨.int (g i j),H,I.tok _,⟨_,rfl⟩,q⟩
theorem opB0 {f:Value→Value→Sem Value} {g:Int→Int→Bool}
  (rule:∀(i j:Int) (t u:Tok) (s:Shared) (Q:Value→Shared→Prop) (E:Value→Shared→Prop),Q (.bool (g i j)) s→wpAny (model X.prog X.w) X.A (f (.int i t) (.int j u)) Q E s) :
  OpR X f (rI0 fun i j=>.bl (g i j)):=by
 intro pins s σ H x y v u Q I rx ry h
 obtain⟨i,j,rfl,rfl,q⟩:=h
 obtain⟨t,rfl⟩:=rx
 obtain⟨t',rfl⟩:=ry
 exact rule i j t t' s _ _ ⟨.bl (g i j),H,I,rfl,q⟩
def CDiv (i j:Int):Prop:=0 < j∧j < 1073741824
def CPow (i j:Int):Prop:=0≤j∧j≤1000000∧i.natAbs < 2 ^ 64
def CMul (i j:Int):Prop:=(-(2 ^ 64) < i∧i < 2 ^ 64)∨(-(2 ^ 64) < j∧j < 2 ^ 64)
theorem CMul.ok {i j:Int} (h:CMul i j):IntMulOk i j:=by
 rcases h with ⟨h1,h2⟩ | ⟨h1,h2⟩
 ·exact .of_left (intBits_le_64 h1 h2)
 ·exact .of_right (intBits_le_64 h1 h2)
theorem op_add:OpR X (binaryOp .Add) (rI0 fun i j=>.int (i+j)):=opI0 fun _ _ _ _ _ _ _ q=>add_int q
theorem op_sub:OpR X (binaryOp .Sub) (rI0 fun i j=>.int (i - j)):=opI0 fun _ _ _ _ _ _ _ q=>sub_int q
theorem op_mul:OpR X (binaryOp .Mult) (rI CMul fun i j=>.int (i * j)):=opI fun _ _ _ _ _ _ _ hc q=>mul_int q hc.ok
theorem op_fdiv:OpR X (binaryOp .FloorDiv) (rI CDiv fun i j=>.int (i / j)):=opI fun i j _ _ _ _ _ hc q=>by
 have h1:(0:Int) < j:=hc.1
 have h2:j < 1073741824:=hc.2
 exact floordiv_int (by omega) (by rw[Int.fdiv_eq_ediv_of_nonneg i (by omega)];exact q) (.inl (PyProof.noPylong_small (by omega)))
theorem op_mod:OpR X (binaryOp .Mod) (rI (fun _ j=>0 < j) fun i j=>.int (i % j)):=opI fun i j _ _ _ _ _ hc q=>by
 have h1:(0:Int) < j:=hc
 exact mod_int' (by omega) (by rw[Int.fmod_eq_emod_of_nonneg i (by omega)];exact q)
theorem op_pow:OpR X (binaryOp .Pow) (rI CPow fun i j=>.int (i ^ j.toNat)):=opI fun _ _ _ _ _ _ _ hc q=>pow_int_small hc.1 hc.2.1 hc.2.2 q
theorem unI {f:Value→Sem Value} {g:Int→Int}
  (rule:∀(i:Int) (t:Tok) (s:Shared) (Q:Value→Shared→Prop) (E:Value→Shared→Prop),Q (.int (g i) s.toks) { s with toks:=s.toks+1 }→wpAny (model X.prog X.w) X.A (f (.int i t)) Q E s) :
  UnR X f (rU fun i=>.int (g i)):=by
 intro pins s σ H x v Q I rx h
 obtain⟨i,rfl,q⟩:=h
 obtain⟨t,rfl⟩:=rx
 exact rule i t s _ _ ⟨.int (g i),H,I.tok _,⟨_,rfl⟩,q⟩
theorem un_neg:UnR X (unaryOp .USub) (rU fun i=>.int (-i)):=unI fun _ _ _ _ _ q=>neg_int q
end
def scal:V→V→Bool
 | .non,.non=>true | .non,.int _=>true | .int _,.non=>true | .non,.bl _=>true | .bl _,.non=>true | .non,.str _=>true | .str _,.non=>true
 | .int _,.int _=>true | .bl _,.bl _=>true | .str _,.str _=>true | .byt _,.byt _=>true
 | .int _,.str _=>true | .str _,.int _=>true | .bl _,.str _=>true | .str _,.bl _=>true
 | _,_=>false
def rEq:R2:=fun x y H Q=>scal x y=true∧Q (.bl (decide (x=y))) H
def rNe:R2:=fun x y H Q=>scal x y=true∧Q (.bl (!decide (x=y))) H
theorem dec_int {i j:Int}:decide (V.int i=V.int j)=(i == j):=by
 rw[Bool.eq_iff_iff]
 simp
theorem dec_bl {i j:Bool}:decide (V.bl i=V.bl j)=(i == j):=by
 rw[Bool.eq_iff_iff]
 simp
theorem dec_str {i j:Str}:decide (V.str i=V.str j)=(i == j):=by
 rw[Bool.eq_iff_iff]
 simp
theorem dec_byt {i j:Array UInt8}:decide (V.byt i=V.byt j)=(i.toList == j.toList):=by
 rw[Bool.eq_iff_iff]
 cases i
 cases j
 simp
section
variable {X:Cx} {a b c:Expr} {ta tb tc:TE} {pos:Pos}
theorem j5_ {pins:List (Addr×Obj)} {σ:St} {H:Hp} {s:Shared} {Q:VK} {k k':Bool} (I:Inv X pins σ H s) (q:Q (.bl k) H) (e:k=k'):EP X pins σ Q (.bool k') s:=by
 subst e
 exact⟨.bl k,H,I,rfl,q⟩
theorem op_eq:OpR X (compareOp .Eq) rEq:=by
 intro pins s σ H x y v u Q I rx ry h
 obtain⟨hs,q⟩:=h
 cases x with
 | non =>
  cases rx
  cases y with
  | non=>cases ry;exact PySem.EqNone.eq_none_none (j5_ I q (by simp))
  | bl j=>cases ry;exact PySem.EqNone.eq_none_bool (j5_ I q (by simp))
  | int j=>obtain⟨t',rfl⟩:=ry;exact PySem.EqNone.eq_none_int (j5_ I q (by simp))
  | str j=>obtain⟨t',rfl⟩:=ry;exact PySem.EqNone.eq_none_str (j5_ I q (by simp))
  | _=>exact absurd (show false=true from hs) Bool.false_ne_true
 | bl i =>
  cases rx
  cases y with
  | non=>cases ry;exact PySem.EqNone.eq_bool_none (j5_ I q (by simp))
  | bl j=>cases ry;exact eq_bool (j5_ I q dec_bl)
  | str j=>obtain⟨t',rfl⟩:=ry;exact PySem.EqMixed.eq_bool_str (j5_ I q (by simp))
  | _=>exact absurd (show false=true from hs) Bool.false_ne_true
 | int i =>
  obtain⟨t,rfl⟩:=rx
  cases y with
  | non=>cases ry;exact PySem.EqNone.eq_int_none (j5_ I q (by simp))
  | int j=>obtain⟨t',rfl⟩:=ry;exact eq_int (j5_ I q dec_int)
  | str j=>obtain⟨t',rfl⟩:=ry;exact PySem.EqMixed.eq_int_str (j5_ I q (by simp))
  | _=>exact absurd (show false=true from hs) Bool.false_ne_true
 | str i =>
  obtain⟨t,rfl⟩:=rx
  cases y with
  | non=>cases ry;exact PySem.EqNone.eq_str_none (j5_ I q (by simp))
  | bl j=>cases ry;exact PySem.EqMixed.eq_str_bool (j5_ I q (by simp))
  | int j=>obtain⟨t',rfl⟩:=ry;exact PySem.EqMixed.eq_str_int (j5_ I q (by simp))
  | str j=>obtain⟨t',rfl⟩:=ry;exact eq_str (j5_ I q dec_str)
  | _=>exact absurd (show false=true from hs) Bool.false_ne_true
 | byt i =>
  obtain⟨t,rfl⟩:=rx
  cases y with
  | byt j=>obtain⟨t',rfl⟩:=ry;exact PySem.W.eq_bytes (j5_ I q dec_byt)
  | _=>exact absurd (show false=true from hs) Bool.false_ne_true
 | _=>cases y <;> exact absurd (show false=true from hs) Bool.false_ne_true
theorem op_ne:OpR X (compareOp .NotEq) rNe:=by
 intro pins s σ H x y v u Q I rx ry h
 obtain⟨hs,q⟩:=h
 cases x with
 | non =>
  cases rx
  cases y with
  | non=>cases ry;exact PySem.EqNone.ne_none_none (j5_ I q (by simp))
  | bl j=>cases ry;exact PySem.EqNone.ne_none_bool (j5_ I q (by simp))
  | int j=>obtain⟨t',rfl⟩:=ry;exact PySem.EqNone.ne_none_int (j5_ I q (by simp))
  | str j=>obtain⟨t',rfl⟩:=ry;exact PySem.EqNone.ne_none_str (j5_ I q (by simp))
  | _=>exact absurd (show false=true from hs) Bool.false_ne_true
 | bl i =>
  cases rx
  cases y with
  | non=>cases ry;exact PySem.EqNone.ne_bool_none (j5_ I q (by simp))
  | bl j=>cases ry;exact ne_bool (j5_ I q (congrArg not dec_bl))
  | str j=>obtain⟨t',rfl⟩:=ry;exact PySem.EqMixed.ne_bool_str (j5_ I q (by simp))
  | _=>exact absurd (show false=true from hs) Bool.false_ne_true
 | int i =>
  obtain⟨t,rfl⟩:=rx
  cases y with
  | non=>cases ry;exact PySem.EqNone.ne_int_none (j5_ I q (by simp))
  | int j=>obtain⟨t',rfl⟩:=ry;exact ne_int (j5_ I q (congrArg not dec_int))
  | str j=>obtain⟨t',rfl⟩:=ry;exact PySem.EqMixed.ne_int_str (j5_ I q (by simp))
  | _=>exact absurd (show false=true from hs) Bool.false_ne_true
 | str i =>
  obtain⟨t,rfl⟩:=rx
  cases y with
  | non=>cases ry;exact PySem.EqNone.ne_str_none (j5_ I q (by simp))
  | bl j=>cases ry;exact PySem.EqMixed.ne_str_bool (j5_ I q (by simp))
  | int j=>obtain⟨t',rfl⟩:=ry;exact PySem.EqMixed.ne_str_int (j5_ I q (by simp))
  | str j=>obtain⟨t',rfl⟩:=ry;exact ne_str (j5_ I q (congrArg not dec_str))
  | _=>exact absurd (show false=true from hs) Bool.false_ne_true
 | byt i =>
  obtain⟨t,rfl⟩:=rx
  cases y with
  | byt j=>obtain⟨t',rfl⟩:=ry;exact PySem.W.ne_bytes (j5_ I q (congrArg not dec_byt))
  | _=>exact absurd (show false=true from hs) Bool.false_ne_true
 | _=>cases y <;> exact absurd (show false=true from hs) Bool.false_ne_true
theorem op_lt:OpR X (compareOp .Lt) (rI0 fun i j=>.bl (decide (i < j))):=opB0 fun _ _ _ _ _ _ _ q=>lt_int q
theorem op_le:OpR X (compareOp .LtE) (rI0 fun i j=>.bl (decide (i≤j))):=opB0 fun _ _ _ _ _ _ _ q=>le_int q
theorem op_gt:OpR X (compareOp .Gt) (rI0 fun i j=>.bl (decide (j < i))):=opB0 fun _ _ _ _ _ _ _ q=>gt_int q
theorem op_in_str:OpR X (compareOp .In) (fun x y H Q=>∃ i j,x=.str i∧y=.str j∧Q (.bl (!(Builtin.Str.occurrences j i 0 j.length 1).isEmpty)) H):=by
 intro pins s σ H x y v u Q I rx ry h
 obtain⟨i,j,rfl,rfl,q⟩:=h
 obtain⟨t,rfl⟩:=rx
 obtain⟨t',rfl⟩:=ry
 exact in_str (j5_ I q rfl)
theorem op_isN:OpR X (compareOp .Is) (fun x y H Q=>y=.non∧Q (.bl (decide (x=.non))) H):=by
 intro pins s σ H x y v u Q I rx ry h
 obtain⟨rfl,q⟩:=h
 cases ry
 refine is_none_gen (j5_ I q ?_)
 cases x <;> first
  | (cases rx;rfl)
  | (obtain⟨t,rfl⟩:=rx;rfl)
theorem op_notin_str:OpR X (compareOp .NotIn) (fun x y H Q=>∃ i j,x=.str i∧y=.str j∧Q (.bl (!(!(Builtin.Str.occurrences j i 0 j.length 1).isEmpty))) H):=by
 intro pins s σ H x y v u Q I rx ry h
 obtain⟨i,j,rfl,rfl,q⟩:=h
 obtain⟨t,rfl⟩:=rx
 obtain⟨t',rfl⟩:=ry
 exact notIn_str (j5_ I q rfl)
theorem jy_ (b:Expr) {op:CmpOp} (h:op≠.In:=by decide) (h2:op≠.NotIn:=by decide):behindInMarks op b=false:=by
 have e1:(op == CmpOp.In)=false:=by cases op <;> first | rfl | exact absurd rfl h
 have e2:(op == CmpOp.NotIn)=false:=by cases op <;> first | rfl | exact absurd rfl h2
 cases b <;> simp[behindInMarks,e1,e2]
theorem pe_cmpR {op:CmpOp} {r:R2} (ho:OpR X (compareOp op) r) (ha:PE X a ta) (hb:PE X b tb) (hm:behindInMarks op b=false):PE X (.Compare a [op] [b] pos) (tOp r ta tb):=by
 intro pins s σ H Q I h
 exact wpAny_Compare1 (binT ha hb I h fun v u s2 x y H2 I2 rx ry q=>ho pins s2 σ H2 x y v u Q I2 rx ry q) hm
def tTest (t:TE):TT:=fun σ H Q=>t σ H fun x H'=>∃ k,x=.bl k∧Q k H'
theorem jr_ {op:CmpOp} {r:R2} (ho:OpR X (compareOp op) r) (ha:PE X a ta) (hb:PE X b tb) (hm:behindInMarks op b=false):PT X (.Compare a [op] [b] pos) (tTest (tOp r ta tb)):=by
 intro pins s σ H Q I h
 refine wpAny_isTrue_Compare1 (thn (ha pins s σ H _ I h) fun v s1 ⟨x,H1,I1,r1,q1⟩=>thn (hb pins s1 σ H1 _ I1 q1) fun u s2 ⟨y,H2,I2,r2,q2⟩ =>
  thn (ho pins s2 σ H2 x y v u _ I2 r1 r2 q2) fun c s3 ⟨z,H3,I3,r3,k,e,q3⟩=>?_) hm
 subst e
 cases r3
 exact wpAny_truthy_bool ⟨H3,I3,q3⟩
def tChain (r r':R2) (ta tb tc:TE):TE:=fun σ H Q=>ta σ H fun x H1=>tb σ H1 fun y H2=>r x y H2 fun z H3=>∃ k,z=.bl k ∧
 (if k=true then tc σ H3 fun w' H4=>r' y w' H4 Q else Q (.bl false) H3)
theorem pt_chain {op op':CmpOp} {r r':R2} (ho:OpR X (compareOp op) r) (ho':OpR X (compareOp op') r') (ha:PE X a ta) (hb:PE X b tb) (hc:PE X c tc)
  (hm:lastMarks [op,op'] [b,c]=false:=by with_unfolding_all rfl):PT X (.Compare a [op,op'] [b,c] pos) (tTest (tChain r r' ta tb tc)):=by
 intro pins s σ H Q I h
 refine isTrue_chain (thn (ha pins s σ H _ I h) fun v s1 ⟨x,H1,I1,r1,q1⟩=>test_link (thn (hb pins s1 σ H1 _ I1 q1) fun u s2 ⟨y,H2,I2,r2,q2⟩ =>
  thn (ho pins s2 σ H2 x y v u _ I2 r1 r2 q2) fun d s3 ⟨z,H3,I3,r3,k,e,q3⟩=>?_)) hm
 subst e
 cases r3
 refine wpAny_truthy_bool ?_
 cases k with
 | false =>
  obtain⟨k',e',q'⟩:=q3
  cases e'
  exact ite_ff ⟨H3,I3,q'⟩
 | true =>
  refine ite_tt (test_last (thn (hc pins s3 σ H3 _ I3 q3) fun w' s4 ⟨z',H4,I4,r4,q4⟩=>thn (ho' pins s4 σ H4 y z' u w' _ I4 r2 r4 q4) fun d' s5 ⟨z2,H5,I5,r5,k2,e2,q5⟩=>?_))
  subst e2
  cases r5
  exact wpAny_truthy_bool ⟨H5,I5,q5⟩
def TruV (K:PySem.W.Frag) (x:V) (H:Hp) (k:Bool):Prop :=
 match x with
 | .non=>k=false
 | .bl b=>k=b
 | .int i=>k=(i != 0)
 | .str y=>y.length≤sizeLine∧k=((y.length:Int) != 0)
 | .byt y=>y.size≤sizeLine∧k=((y.size:Int) != 0)
 | .ref p=>(∃ xs,SqL K H p xs∧k=!xs.isEmpty)∨(∃ xs,SqT K H p xs∧k=!xs.isEmpty)∨∃ kvs,H p=some (.dK kvs)∧k=!kvs.isEmpty
 | _=>False
theorem isEmpty_kv {κ:Type} {kvs:List (κ×V)} {vs:List (κ×Value)} (r:KV kvs vs):(!vs.isEmpty)=!kvs.isEmpty:=by
 cases r <;> rfl
theorem isEmpty_of {xs:List V} {its:List Value} (r:Vals xs its):(!its.toArray.isEmpty)=!xs.isEmpty:=by
 cases r <;> simp
theorem line63:(sizeLine:Nat) < 2 ^ 63:=by rw[sizeLine_eq];decide
theorem tru_ok:TruR X (fun x H Q=>∃ k,TruV X.K x H k∧Q k H):=by
 intro pins s σ H x v Q I rx h
 obtain⟨k,e,q⟩:=h
 have hl:=line63
 have hs:sizeLine=16777216:=sizeLine_eq
 cases x with
 | non =>
  cases rx
  have e':k=false:=e
  subst e'
  exact truthy_none ⟨H,I,q⟩
 | bl b =>
  cases rx
  have e':k=b:=e
  subst e'
  exact wpAny_truthy_bool ⟨H,I,q⟩
 | int i =>
  obtain⟨t,rfl⟩:=rx
  have e':k=(i != 0):=e
  subst e'
  exact PySem.P.truthy_int ⟨H,I,q⟩
 | str y =>
  obtain⟨t,rfl⟩:=rx
  obtain⟨hy,e'⟩:y.length≤sizeLine∧k=((y.length:Int) != 0):=e
  subst e'
  exact PySem.P.truthy_str (by omega) ⟨H,I.tok _,q⟩
 | byt y =>
  obtain⟨t,rfl⟩:=rx
  obtain⟨hy,e'⟩:y.size≤sizeLine∧k=((y.size:Int) != 0):=e
  subst e'
  exact PySem.W.truthy_bytes (by omega) ⟨H,I.tok _,q⟩
 | ref p =>
  cases rx
  have e':(∃ xs,SqL X.K H p xs∧k=!xs.isEmpty)∨(∃ xs,SqT X.K H p xs∧k=!xs.isEmpty)∨∃ kvs,H p=some (.dK kvs)∧k=!kvs.isEmpty:=e
  rcases e' with ⟨xs,hx,e'⟩ | ⟨xs,hx,e'⟩ | ⟨kvs,hx,e'⟩
  ·subst e'
   obtain⟨its,r,pl,hz⟩:=I.list hx
   have hlen:=r.length
   exact wpAny_truthy_list pl.isList (by simp only[List.size_toArray];omega) ⟨H,I.tok _,by rw[isEmpty_of r];exact q⟩
  ·subst e'
   obtain⟨its,r,pl,hz⟩:=I.tuple hx
   have hlen:=r.length
   exact truthy_tuple pl (by simp only[List.size_toArray];omega) ⟨H,I.tok _,by rw[isEmpty_of r];exact q⟩
  ·subst e'
   obtain⟨hz,hS,vs,r,m⟩:kvs.length≤sizeLine∧(p == sysModules)=false∧∃ vs,KV kvs vs∧s.heap.DictOf (zc_ X.prog X.w) p vs:=I.hok p _ hx
   have hlen:kvs.length=vs.length:=Paired.length r
   exact wpAny_truthy_dict hS m (by omega) ⟨H,I.tok _,by rw[isEmpty_kv r];exact q⟩
 | _=>exact(show False from e).elim
theorem op_add_str:OpR X (binaryOp .Add) (fun x y H Q=>∃ i j,x=.str i∧y=.str j∧i.length+j.length≤sizeLine∧Q (.str (i++j)) H):=by
 intro pins s σ H x y v u Q I rx ry h
 obtain⟨i,j,rfl,rfl,hz,q⟩:=h
 obtain⟨t,rfl⟩:=rx
 obtain⟨t',rfl⟩:=ry
 exact add_str (fun t' tk=>⟨.str (i++j),H,I.tok _,⟨_,rfl⟩,q⟩) hz
theorem vals1 {x:V} {us:List Value} (r:Vals [x] us):∃ u,us=[u]∧RelV x u:=by
 cases r with
 | cons r1 r2=>cases r2;exact⟨_,rfl,r1⟩
theorem vals2 {x y:V} {us:List Value} (r:Vals [x,y] us):∃ u w',us=[u,w']∧RelV x u∧RelV y w':=by
 cases r with
 | cons r1 r2 =>
  cases r2 with
  | cons r3 r4=>cases r4;exact⟨_,_,rfl,r1,r3⟩
theorem call_abs:CallR X (.builtin "abs") (fun xs H Q=>∃ i,xs=[.int i]∧Q (.int (if i < 0 then -i else i)) H):=by
 intro pins s σ H xs us Q I r h
 obtain⟨i,rfl,q⟩:=h
 obtain⟨u,rfl,t,rfl⟩:=vals1 r
 exact call_abs_int fun u tk=>⟨.int (if i < 0 then -i else i),H,I.tok _,⟨_,rfl⟩,q⟩
theorem call_max2 (hc:X.calm=true):CallR X (.builtin "max") (fun xs H Q=>∃ i j,xs=[.int i,.int j]∧Q (.int (if j > i then j else i)) H):=by
 intro pins s σ H xs us Q I r h
 obtain⟨i,j,rfl,q⟩:=h
 obtain⟨u,w',rfl,⟨t,rfl⟩,⟨t',rfl⟩⟩:=vals2 r
 refine max_two_ints (I.ok.hd hc) fun h' tk k=>⟨_,H,I.kept k,?_,q⟩
 by_cases hj:j > i
 ·rw[if_pos hj,if_pos hj];exact⟨_,rfl⟩
 ·rw[if_neg hj,if_neg hj];exact⟨_,rfl⟩
end
end L2
namespace L2
open PySem PySem.Spec PyProof.Rows
structure ObjM (h:Heap) (x dx C:Addr) (mA:Str→Option Value):Prop where
 obj:h.get? x=some (PySem.W.instObj C dx)
 ns:h.Ns1 dx mA
 ne:dx≠x
theorem lookIn_ns {h:Heap} {dx:Addr} {mA:Str→Option Value} (n:h.Ns1 dx mA):∃ od,h.get? dx=some od∧∀ name,PySem.W.lookIn name od=some (mA name):=by
 obtain⟨o,es,ep,ho,hd,hk,_,hm⟩:=n
 refine⟨o,ho,fun name=>?_⟩
 have e:=hm name
 unfold nsFind findBy at e
 rw[← Array.find?_toList] at e
 unfold PySem.W.lookIn
 rw[hd]
 dsimp only
 split
 ·rename_i y q
  rw[q] at e
  exact congrArg some e
 ·rename_i q
  rw[q] at e
  have a:es.toList.any (·.refKey)=false:=by
   rw[List.any_eq_false]
   intro y hy
   obtain⟨z,t,hkey⟩:=hk y (Array.mem_toList_iff.mp hy)
   simp[DictEntry.refKey,hkey]
  have a':¬ es.toList.any (·.refKey)=true:=by rw[a];exact Bool.false_ne_true
  rw[if_neg a']
  exact congrArg some e
theorem ObjM.look {h:Heap} {x dx C:Addr} {mA:Str→Option Value} (I:ObjM h x dx C mA):∃ od,PySem.W.InstAt h x (PySem.W.instObj C dx) C (some od)∧∀ name,PySem.W.lookIn name od=some (mA name) :=
 let ⟨od,ho,hl⟩:=lookIn_ns I.ns
 ⟨od,⟨I.obj,rfl,rfl,ho⟩,hl⟩
section
variable {prog:Program} {w:World} {A:Around} {E:Value→Shared→Prop} {s:Shared} {K:PySem.W.Frag} {x dx C f:Addr} {mA:Str→Option Value} {name:Str} {v:Value}
theorem get_map {expr:Bool} {Q:Value→Shared→Prop} (X:K.In s.heap) (I:ObjM s.heap x dx C mA) (hg:PySem.W.plainGet K C name=true) (hh:PySem.W.hasDictIn K C=true)
  (ha:PySem.W.findIn K (.ref C) name=some none) (hv:mA name=some v) (hv':PySem.W.handedIn v=true) (h:Q v { s with toks:=s.toks+1 }) :
  wpAny (model prog w) A (getAttr (.ref x) name expr) Q E s:=by
 obtain⟨od,J,hl⟩:=I.look
 exact PySem.W.get_value X J (PySem.W.plainGet_of hg).1 (PySem.W.findObj_own hh ha rfl (by rw[hl,hv])) hv' h
theorem get_meth {pl:Sem Bool} {Q:Value×List Value→Shared→Prop} (X:K.In s.heap) (I:ObjM s.heap x dx C mA) (hg:PySem.W.plainGet K C name=true)
  (hf:PySem.W.findIn K (.ref C) name=some (some (.ref f))) (ht:PySem.W.isFn K (.ref f)=true) (hv:mA name=none) (h:Q (.ref f,[.ref x]) s) :
  wpAny (model prog w) A (getMethod (.ref x) name pl) Q E s:=by
 obtain⟨od,J,hl⟩:=I.look
 exact PySem.W.method_fn X J (PySem.W.plainGet_of hg).1 (PySem.W.plainGet_of hg).2 hf (beq_iff_eq.mp ht) (by show (PySem.W.lookIn name od).map (·.isSome)=some false;rw[hl,hv];rfl) h
theorem set_map {ns:List Str} {Q:Unit→Shared→Prop} (X:K.In s.heap) (I:ObjM s.heap x dx C mA)
  (hs:PySem.W.findIn K (.ref C) "__setattr__"=some (some (.builtin "object.__setattr__"))) (hp:PySem.W.plainOver K C=true) (ht:PySem.W.takerIn K C name=some none) (hh:PySem.W.hasDictIn K C=true)
  (hw:PySem.Within mA ns) (hsz:ns.length≤sizeLine)
  (h:∀ h',ObjM h' x dx C (fun y=>if y=name then some v else mA y)→Heap.SameBut dx s.heap h'→Q () { s with heap:=h',toks:=s.toks+2 }) :
  wpAny (model prog w) A (setAttr (.ref x) name v) Q E s:=by
 obtain⟨od,J,hl⟩:=I.look
 refine PySem.W.set_plain X J hs (PySem.W.osa_open (s:={ s with toks:=s.toks+1 }) (r:=none) X J hp ht fun b=>?_)
 obtain⟨cd,hc,hd'⟩:=PySem.W.any_some hh
 have hx:s.heap.get? x=some ⟨.ref C,some dx,.plain,#[]⟩:=I.obj
 refine wpAny_bind (wpAny_pure (wpAny_bind (wpAny_bind (wpAny_loadPart hx (wpAny_bind (PySem.W.Looks.here (s:={ s with toks:=s.toks+1 }) (PySem.W.looks_clsIn X hc) ?_))))))
 rw[hd']
 refine wpAny_pure (a:=some dx) (wpAny_bind (wpAny_pure (wpAny_bind ?_)))
 refine wpAny_nsSet1 (s:={ s with toks:=s.toks+1 }) I.ns fun h' hn2 hs2=>?_
 obtain⟨oD,esD,epD,hoD,hdD,hcD⟩:=hn2.count (PySem.Within.cons name v hw)
 refine wpAny_bind (wpAny_lookBehind hoD (by rw[hdD];exact pastItsLine_dict (Nat.le_trans hcD (by rw[List.length_cons];omega))) ?_)
 exact wpAny_pure (h _ ⟨(hs2.2 _ (Ne.symm I.ne)).trans I.obj,hn2,I.ne⟩ hs2)
theorem make_map {R:Result→Shared→Prop} {vs:List Value} {kw:List (Str×Value)} (X:K.In s.heap) (hm:PySem.W.makesIn K C=true)
  (hi:PySem.W.findIn K (.ref C) "__init__"=some (some (.ref f))) (hf:PySem.W.typeIn K (.ref f)=some (.type "function"))
  (h:codeAny (model prog w) (A.under (.builtin "type.__call__" ⟨.ref C::vs,kw⟩)) (.call (.ref f) ⟨.ref (s.heap.objs.size+1)::vs,kw⟩) (PySem.W.InitBack (s.heap.objs.size+1) R)
   { s with heap:=(s.heap.push PySem.W.emptyDict).push (PySem.W.instObj C s.heap.objs.size) }) :
  codeAny (model prog w) A (.call (.ref C) ⟨vs,kw⟩) R s:=by
 obtain⟨hh,g,d,t,os⟩:=s
 exact PySem.W.make_core (PySem.W.makes_of X hm) (PySem.W.looks_findIn X hi) (fun self=>PySem.W.bind_fn X self hf) (.inl rfl) h
end
def putF (f:Str) (v:V):List (Str×V)→List (Str×V)
 | []=>[(f,v)]
 | (g,x)::r=>if g=f then (g,v)::r else (g,x)::putF f v r
theorem lookup_putF (f g:Str) (v:V):∀ fs:List (Str×V),(putF f v fs).lookup g=if g=f then some v else fs.lookup g
 | []=>by
  show List.lookup g [(f,v)]=_
  by_cases h:g=f
  ·have hb:(g == f)=true:=beq_iff_eq.mpr h
   simp only[List.lookup,hb,if_pos h]
  ·have hb:(g == f)=false:=beq_eq_false_iff_ne.mpr h
   simp only[List.lookup,hb,if_neg h]
 | (k,x)::r=>by
  have ih:=lookup_putF f g v r
  rw[show putF f v ((k,x)::r)=(if k=f then (k,v)::r else (k,x)::putF f v r) from rfl]
  by_cases hk:k=f
  ·rw[if_pos hk]
   by_cases h:g=k
   ·have hb:(g == k)=true:=beq_iff_eq.mpr h
    simp only[List.lookup,hb,if_pos (h.trans hk)]
   ·have hb:(g == k)=false:=beq_eq_false_iff_ne.mpr h
    simp only[List.lookup,hb,if_neg (fun e:g=f=>h (e.trans hk.symm))]
  ·rw[if_neg hk]
   by_cases h:g=k
   ·have hb:(g == k)=true:=beq_iff_eq.mpr h
    simp only[List.lookup,hb,if_neg (fun e:g=f=>hk (h.symm.trans e))]
   ·have hb:(g == k)=false:=beq_eq_false_iff_ne.mpr h
    simp only[List.lookup,hb]
    exact ih
theorem keys_putF (f:Str) (v:V):∀ fs:List (Str×V),f∈(putF f v fs).map (·.1)∧∀ g,g∈fs.map (·.1)→g∈(putF f v fs).map (·.1)
 | []=>⟨by simp[putF],fun g h=>by simp at h⟩
 | (k,x)::r=>by
  obtain⟨i1,i2⟩:=keys_putF f v r
  rw[show putF f v ((k,x)::r)=(if k=f then (k,v)::r else (k,x)::putF f v r) from rfl]
  by_cases hk:k=f
  ·rw[if_pos hk]
   subst hk
   exact⟨by simp,fun g h=>by simpa using h⟩
  ·rw[if_neg hk]
   refine⟨?_,fun g h=>?_⟩
   ·rw[List.map_cons]
    exact List.mem_cons_of_mem _ i1
   ·rw[List.map_cons] at h ⊢
    rcases List.mem_cons.mp h with e | e
    ·exact List.mem_cons.mpr (.inl e)
    ·exact List.mem_cons_of_mem _ (i2 g e)
theorem length_putF (f:Str) (v:V):∀ fs:List (Str×V),(putF f v fs).length≤fs.length+1
 | []=>by simp[putF]
 | (k,x)::r=>by
  have ih:=length_putF f v r
  rw[show putF f v ((k,x)::r)=(if k=f then (k,v)::r else (k,x)::putF f v r) from rfl]
  by_cases hk:k=f
  ·rw[if_pos hk,List.length_cons,List.length_cons];omega
  ·rw[if_neg hk,List.length_cons,List.length_cons];omega
theorem RelO.some_of {v:V} {o:Option Value} (r:RelO (some v) o):∃ u,o=some u∧RelV v u:=by
 cases o with
 | none=>exact(show False from r).elim
 | some u=>exact⟨u,rfl,r⟩
theorem RelO.none_of {o:Option Value} (r:RelO none o):o=none:=by
 cases o with
 | none=>rfl
 | some u=>exact(show False from r).elim
theorem handed_of {v:V} {u:Value} (r:RelV v u):PySem.W.handedIn u=true:=by
 cases v with
 | non=>cases (show u=Value.none from r);rfl
 | bl b=>cases (show u=Value.bool b from r);rfl
 | int i=>obtain⟨t,e⟩:=(show ∃ t,u=Value.int i t from r);cases e;rfl
 | str x=>obtain⟨t,e⟩:=(show ∃ t,u=Value.str x t from r);cases e;rfl
 | byt b=>obtain⟨t,e⟩:=(show ∃ t,u=Value.bytes b t from r);cases e;rfl
 | flt b=>obtain⟨t,e⟩:=(show ∃ t,u=Value.float b t from r);cases e;rfl
 | ref a=>cases (show u=Value.ref a from r);rfl
 | ty n=>cases (show u=Value.type n from r);rfl
section
variable {P:Program} {w:World} {H H':Hp} {h h':Heap} {a C dx:Addr} {fs fs':List (Str×V)}
theorem ins_get (hok:HOk P w H h) (e:H a=some (.ins C dx fs)):∃ mA,ObjM h a dx C mA∧(∀ f,RelO (fs.lookup f) (mA f))∧PySem.Within mA (fs.map (·.1))∧fs.length≤1000∧H dx=some (.own a):=by
 obtain⟨d,z,ne,ob,mA,n,r,q⟩:=(show ObjOk P w H h a (.ins C dx fs) from hok a _ e)
 exact⟨mA,⟨ob,n,ne⟩,r,q,z,d⟩
end
structure Cls (K:PySem.W.Frag) (C:Addr):Prop where
 pg:PySem.W.plainGet K C Str.empty=true
 hd:PySem.W.hasDictIn K C=true
 po:PySem.W.plainOver K C=true
 sa:PySem.W.findIn K (.ref C) "__setattr__"=some (some (.builtin "object.__setattr__"))
theorem Cls.get {K:PySem.W.Frag} {C:Addr} (c:Cls K C) (f:Str):PySem.W.plainGet K C f=true:=c.pg
def NoAttr (K:PySem.W.Frag) (C:Addr) (f:Str):Prop:=PySem.W.findIn K (.ref C) f=some none
theorem NoAttr.taker {K:PySem.W.Frag} {C:Addr} {f:Str} (n:NoAttr K C f):PySem.W.takerIn K C f=some none:=by
 unfold PySem.W.takerIn
 rw[show PySem.W.findIn K (.ref C) f=some none from n]
 rfl
structure Con (K:PySem.W.Frag) (C:Addr) (f:Str) (v:V) (u:Value):Prop where
 at_:PySem.W.findIn K (.ref C) f=some (some u)
 rel:RelV v u
 get:PySem.W.specialIn K u "__get__"=some none
 cp:PySem.W.copiedNames.contains f=false
structure Meth (K:PySem.W.Frag) (C:Addr) (m:Str) (f:Addr):Prop where
 at_:PySem.W.findIn K (.ref C) m=some (some (.ref f))
 fn:PySem.W.isFn K (.ref f)=true
 kp:PySem.W.keepIn K (.ref f)=true
section
variable {X:Cx} {pins:List (Addr×Obj)} {σ:St} {H:Hp} {s:Shared} {a C dx:Addr} {fs:List (Str×V)} {f:Str} {v:V} {A:Around} {E:Value→Shared→Prop}
theorem getattr_ok {b:Bool} {Q:Value→Shared→Prop} (I:Inv X pins σ H s) (e:H a=some (.ins C dx fs)) (c:Cls X.K C) (n:NoAttr X.K C f) (l:fs.lookup f=some v)
  (h:∀ u s',Inv X pins σ H s'→RelV v u→Q u s'):wpAny (model X.prog X.w) A (getAttr (.ref a) f b) Q E s:=by
 obtain⟨mA,O,r,_,_,_⟩:=ins_get I.hok e
 obtain⟨u,hu,ru⟩:=RelO.some_of (v:=v) (o:=mA f) (by rw[← l];exact r f)
 exact get_map I.kIn O (c.get f) c.hd n hu (handed_of ru) (h u _ (I.tok _) ru)
theorem getmeth_ok {m:Str} {g:Addr} {pl:Sem Bool} {Q:Value×List Value→Shared→Prop} (I:Inv X pins σ H s) (e:H a=some (.ins C dx fs)) (c:Cls X.K C) (k:Meth X.K C m g) (l:fs.lookup m=none)
  (h:Q (.ref g,[.ref a]) s):wpAny (model X.prog X.w) A (getMethod (.ref a) m pl) Q E s:=by
 obtain⟨mA,O,r,_,_,_⟩:=ins_get I.hok e
 have hn:mA m=none:=RelO.none_of (by rw[← l];exact r m)
 exact get_meth I.kIn O (c.get m) k.at_ k.fn hn h
theorem setattr_ok {y:V} {u:Value} {Q:Unit→Shared→Prop} (I:Inv X pins σ H s) (e:H a=some (.ins C dx fs)) (c:Cls X.K C) (n:NoAttr X.K C f) (hl:fs.length < 1000) (ry:RelV y u)
  (h:∀ s',Inv X pins σ (upd H a (.ins C dx (putF f y fs))) s'→Q () s'):wpAny (model X.prog X.w) A (setAttr (.ref a) f u) Q E s:=by
 obtain⟨mA,O,r,wi,_,ho⟩:=ins_get I.hok e
 have hz:(fs.map (·.1)).length≤sizeLine:=by rw[List.length_map,sizeLine_eq];omega
 refine set_map I.kIn O c.sa c.po n.taker c.hd wi hz fun h' O' sb=>h _ ?_
 have hd:∃ o,h'.get? dx=some o:=let ⟨o,_,_,e',_⟩:=O'.ns;⟨o,e'⟩
 refine I.write (x:=a) (e:=dx) (by rw[e];exact True.intro) (.inr ho) (fun b q hb z=>(sb.2 b hb).trans z) hd ?_
 refine⟨by rw[jd_ O.ne];exact ho,?_,O.ne,O'.obj,_,O'.ns,fun g=>?_,fun g hg=>?_⟩
 ·have:=length_putF f y fs;omega
 ·show RelO ((putF f y fs).lookup g) (if g=f then some u else mA g)
  rw[lookup_putF]
  by_cases q:g=f
  ·rw[if_pos q,if_pos q];exact ry
  ·rw[if_neg q,if_neg q];exact r g
 ·by_cases q:g=f
  ·rw[q];exact(keys_putF f y fs).1
  ·refine(keys_putF f y fs).2 g (wi g fun z=>hg ?_)
   show (if g=f then some u else mA g)=none
   rw[if_neg q];exact z
theorem Inv.made (I:Inv X pins σ H s):Inv X pins σ (upd (upd H s.heap.objs.size (.own (s.heap.objs.size+1))) (s.heap.objs.size+1) (.ins C s.heap.objs.size []))
  { s with heap:=(s.heap.push PySem.W.emptyDict).push (PySem.W.instObj C s.heap.objs.size) }:=by
 have e1:(s.heap.push PySem.W.emptyDict).get? s.heap.objs.size=some PySem.W.emptyDict:=Heap.get?_push_size s.heap rfl
 have e2:((s.heap.push PySem.W.emptyDict).push (PySem.W.instObj C s.heap.objs.size)).get? (s.heap.objs.size+1)=some (PySem.W.instObj C s.heap.objs.size):=by
  have:=Heap.get?_push_size (s.heap.push PySem.W.emptyDict) (o:=PySem.W.instObj C s.heap.objs.size) rfl
  rwa [Heap.size_push] at this
 have e3:(s.heap.push PySem.W.emptyDict).Ns s.heap.objs.size (fun _=>none):=⟨PySem.W.emptyDict,#[],_,e1,rfl,(fun e he=>absurd he (by simp)),fun _=>rfl⟩
 have I1:=I.laid (a:=s.heap.objs.size) (o:=.own (s.heap.objs.size+1)) (h':=s.heap.push PySem.W.emptyDict) (t':=s.toks) (fun b u q=>Heap.get?_push_of_some _ q) (Nat.le_refl _) ⟨_,e1⟩
 refine I1.laid (a:=s.heap.objs.size+1) (o:=.ins C s.heap.objs.size []) (t':=s.toks) (fun b u q=>Heap.get?_push_of_some _ q) (Nat.le_of_eq (Heap.size_push _ _)) ?_
 have ne:s.heap.objs.size≠s.heap.objs.size+1:=Nat.ne_of_lt (Nat.lt_succ_self _)
 refine⟨by rw[jd_ ne,jb_],Nat.zero_le _,ne,e2,fun _=>none,(Heap.Ns1.of_empty e3).at fun o q=>Heap.get?_push_of_some _ q,fun _=>True.intro,fun y hy=>absurd rfl hy⟩
theorem attr_of {prog:Program} {w:World} {env:Env} {e:Expr} {f:Str} {pos:Pos} {s:Shared} {Q:Value→Shared→Prop} (hb:attributeBase e f env (eval e env)=eval e env)
  (h:wpAny (model prog w) A (eval e env) (fun o s₁=>wpAny (model prog w) A (getAttr o f true) Q E s₁) E s):wpAny (model prog w) A (eval (.Attribute e f pos) env) Q E s :=
 Attribute_any_ h (by rw[arm_eval_Attribute,hb])
end
def tFld (K:PySem.W.Frag) (ta:TE) (f:Str):TE:=fun σ H Q=>ta σ H fun x H1=>∃ a C dx fs v,x=.ref a∧H1 a=some (.ins C dx fs)∧Cls K C∧NoAttr K C f∧fs.lookup f=some v∧Q v H1
def sFld (K:PySem.W.Frag) (ta tv:TE) (f:Str):TS:=fun D σ H=>tv σ H fun y H1=>ta σ H1 fun x H2=>∃ a C dx fs,x=.ref a∧H2 a=some (.ins C dx fs)∧Cls K C∧NoAttr K C f∧fs.length < 1000 ∧
 D.nx σ (upd H2 a (.ins C dx (putF f y fs)))
section
variable {X:Cx} {o e value:Expr} {f:Str} {pos pos' tpos:Pos} {ta tv:TE}
theorem pe_fld (he:PE X e ta) (hb:attributeBase e f X.env (eval e X.env)=eval e X.env):PE X (.Attribute e f pos) (tFld X.K ta f):=by
 intro pins s σ H Q I h
 refine attr_of hb (thn (he pins s σ H _ I h) fun u s1 ⟨x,H1,I1,rx,a,C,dx,fs,v,ex,ea,c,n,l,q⟩=>?_)
 subst ex
 obtain rfl:u=Value.ref a:=rx
 exact getattr_ok I1 ea c n l fun u' s2 I2 ru=>⟨v,H1,I2,ru,q⟩
theorem ps_fld (ha:PE X o ta) (hv:PE X value tv) (hs:swapsWith value (some (.Attribute o f pos')) pos.line X.env=pure false):PS X (.Assign [.Attribute o f pos'] value pos) (sFld X.K ta tv f):=by
 intro pins s σ H D I h
 refine plainObj_wpAny_Assign_Attribute (thn (hv pins s σ H _ I h) fun u s1 ⟨y,H1,I1,ry,q⟩=>thn (ha pins s1 σ H1 _ I1 q) fun ov s2 ⟨x,H2,I2,rx,a,C,dx,fs,ex,ea,c,n,l,q2⟩=>?_) hs
 subst ex
 obtain rfl:ov=Value.ref a:=rx
 exact setattr_ok I2 ea c n l ry fun s3 I3=>⟨σ,_,I3,q2⟩
theorem methcall_of {pl:Sem Bool} {m:Str} {apos:Pos} {args:List Expr} {pins:List (Addr×Obj)} {s:Shared} {σ:St} {H:Hp} {Q:Value→Shared→Prop} {te:TE} (he:PE X e te) (I:Inv X pins σ H s)
  (h:te σ H fun x H1=>∃ a C dx fs g,x=.ref a∧H1 a=some (.ins C dx fs)∧Cls X.K C∧Meth X.K C m g∧fs.lookup m=none ∧
   ∀ s1,Inv X pins σ H1 s1→wpAny (model X.prog X.w) X.A (callWith pos (.ref g) [.ref a] (backTo pos (starEach args X.env)) (backToKw pos (keywordEach [] X.env))) Q X.xe s1)
  (ht:eval (.Call (.Attribute e m apos) args [] pos) X.env=(do
   let ov ← eval e X.env
   standAt apos.atName
   let (f,first) ← holding [ov] (getMethod ov m pl)
   callWith pos f first (backTo pos (starEach args X.env)) (backToKw pos (keywordEach [] X.env)))) :
  wpAny (model X.prog X.w) X.A (eval (.Call (.Attribute e m apos) args [] pos) X.env) Q X.xe s:=by
 refine PySem.W.methodCall_KW (pl:=pl) (thn (he pins s σ H _ I h) fun u s1 ⟨x,H1,I1,rx,a,C,dx,fs,g,ex,ea,c,k,l,q⟩=>?_) ht
 subst ex
 obtain rfl:u=Value.ref a:=rx
 exact getmeth_ok I1 ea c k l (q s1 I1)
end
section
variable {X:Cx} {pins:List (Addr×Obj)} {σ:St} {H:Hp} {s:Shared} {A:Around} {E:Value→Shared→Prop} {Q:Value→Shared→Prop} {c:Value} {b:Bool}
inductive TyOf (K:PySem.W.Frag) (H:Hp):V→Value→Prop where
 | non:TyOf K H .non (.type "NoneType")
 | bl (x:Bool):TyOf K H (.bl x) (.type "bool")
 | int (i:Int):TyOf K H (.int i) (.type "int")
 | str (x:Str):TyOf K H (.str x) (.type "str")
 | flt (x:UInt64):TyOf K H (.flt x) (.type "float")
 | lst {a:Addr} {xs:List V} (e:H a=some (.lst xs)):TyOf K H (.ref a) (.type "list")
 | frz {a:Addr} {o:Obj} {xs:List V} (e:H a=some (.frz o (.lst xs))):TyOf K H (.ref a) (.type "list")
 | tup {a:Addr} {xs:List V} (e:H a=some (.tup xs)):TyOf K H (.ref a) (.type "tuple")
 | dK {a:Addr} {kvs:List (Key×V)} (e:H a=some (.dK kvs)):TyOf K H (.ref a) (.type "dict")
 | dT {a:Addr} {kvs:List (List Key×V)} (e:H a=some (.dT kvs)):TyOf K H (.ref a) (.type "dict")
 | ins {a C dx:Addr} {fs:List (Str×V)} (e:H a=some (.ins C dx fs)) (cl:Cls K C) (ha:PySem.W.findIn K (.ref C) "__class__"=some (some (.builtin "object.__class__")))
   (hn:PySem.W.specialIn K (.builtin "object.__class__") "__get__"=some (some (.builtin "getset_descriptor.__get__"))) (htk:PySem.W.takesIn K (.builtin "object.__class__")=some true)
   (hm:PySem.W.mroIn K C (.type "object")=some true):TyOf K H (.ref a) (.ref C)
end
end L2
namespace L2
open PySem PySem.Spec PyProof.Rows
structure Room (k:Nat) (A:Around):Prop where
 hd:A.handled=none
 dp:A.depth+3 * k+5 < recursionLimit
 un:A.units+16 * k+200 < cLine
theorem Room.mono {j k:Nat} {A:Around} (r:Room k A) (h:j≤k):Room j A:=⟨r.hd,by have:=r.dp;omega,by have:=r.un;omega⟩
theorem Room.deeper {k:Nat} {A:Around} (r:Room (k+1) A) (env:Env):Room k (A.deeper env) :=
 ⟨r.hd,by have:=r.dp;show A.depth+1+3 * k+5 < _;omega,by have:=r.un;show A.units+3+16 * k+200 < _;omega⟩
theorem make_depth {A:Around} {C:Addr} {us:List Value} {kw:List (Str×Value)}:(A.under (.builtin "type.__call__" ⟨.ref C::us,kw⟩)).depth=A.depth+1:=by
 first | rfl | simp[Around.under,Code.weight,Code.isCreation,Code.isGuard,Code.isCaller,Code.frames,Code.isFrame,guardIds]
theorem make_units {A:Around} {C:Addr} {us:List Value} {kw:List (Str×Value)}:(A.under (.builtin "type.__call__" ⟨.ref C::us,kw⟩)).units=A.units+1:=by
 first | rfl | simp[Around.under,Code.cUnits,Code.frames,Code.isFrame]
theorem Room.make {k:Nat} {A:Around} (r:Room (k+1) A) (C:Addr) (us:List Value) (kw:List (Str×Value)):Room k (A.under (.builtin "type.__call__" ⟨.ref C::us,kw⟩)) :=
 ⟨r.hd,by have:=r.dp;rw[make_depth];omega,by have:=r.un;rw[make_units];omega⟩
theorem Room.depth {k:Nat} {A:Around} (r:Room k A):A.depth < recursionLimit:=by have:=r.dp;omega
theorem Room.units {k:Nat} {A:Around} (r:Room k A):A.units+64 < cLine:=by have:=r.un;omega
def tNil:TA:=fun _ H Q=>Q [] H
def tCons (ta:TE) (tr:TA):TA:=fun σ H Q=>ta σ H fun x H1=>tr σ H1 fun xs H2=>Q (x::xs) H2
section
variable {X:Cx} {e:Expr} {es:List Expr} {te:TE} {t:TA} {pos:Pos}
theorem pa_nil:PA X [] tNil:=fun _ _ _ _ H Q I h=>Calls.spliced_nil ⟨[],H,I,.nil,h⟩
theorem ja_ (ha:PE X e te) (hr:PA X es t) (hs:starEach (e::es) X.env=(false,eval e X.env)::starEach es X.env:=by rfl):PA X (e::es) (tCons te t):=by
 intro pos pins s σ H Q I h
 rw[hs]
 show wpAny _ _ (spliced ((false,eval e X.env)::backTo pos (starEach es X.env))) _ _ s
 refine Calls.spliced_cons (thn (ha pins s σ H _ I h) fun u s1 ⟨x,H1,I1,r1,q1⟩=>?_)
 exact thn (hr pos pins s1 σ H1 _ I1 q1) fun us s2 ⟨xs,H2,I2,r2,q2⟩=>⟨x::xs,H2,I2,.cons r1 r2,q2⟩
def tTup (t:TA):TE:=fun σ H Q=>t σ H fun xs H1=>xs.length≤sizeLine∧∀ p,H1 p=none→Q (.ref p) (upd H1 p (.tup xs))
def tLst (t:TA):TE:=fun σ H Q=>t σ H fun xs H1=>xs.length≤sizeLine∧∀ p,H1 p=none→Q (.ref p) (upd H1 p (.lst xs))
theorem pe_tup {x1} (h:PA X es t):PE X (.Tuple es x1 pos) (tTup t):=by
 intro pins s σ H Q I hq
 refine wpAny_Tuple_spliced (thn (h pos pins s σ H _ I hq) fun us s1 ⟨xs,H1,I1,r,z,q⟩=>⟨by rw[← r.length];exact z,?_⟩)
 have hf:H1 s1.heap.objs.size=none:=I1.hok.fresh (Nat.le_refl _)
 refine⟨.ref s1.heap.objs.size,upd H1 s1.heap.objs.size (.tup xs),I1.laid (t':=s1.toks) (fun b u e=>Heap.get?_push_of_some _ e) (Nat.le_refl _) ?_,rfl,q _ hf⟩
 exact⟨z,us,r,⟨_,Heap.get?_push_size _ rfl,rfl,_,rfl⟩⟩
theorem j9_ (h:PA X es t):PE X (.List es pos) (tLst t):=by
 intro pins s σ H Q I hq
 refine wpAny_List_spliced (thn (h pos pins s σ H _ I hq) fun us s1 ⟨xs,H1,I1,r,z,q⟩=>⟨by rw[← r.length];exact z,?_⟩)
 have hf:H1 s1.heap.objs.size=none:=I1.hok.fresh (Nat.le_refl _)
 refine⟨.ref s1.heap.objs.size,upd H1 s1.heap.objs.size (.lst xs),I1.laid (t':=s1.toks) (fun b u e=>Heap.get?_push_of_some _ e) (Nat.le_refl _) ?_,rfl,q _ hf⟩
 exact⟨z,us,0,r,Heap.get?_push_size _ rfl⟩
end
abbrev Sp:=List V→Hp→VK→XK→Prop
abbrev CXT:=List Env→Hp→Shared→XK→Value→Shared→Prop
structure Env0 (P:Program) (w:World) (K:PySem.W.Frag) (mg:Str→Option Value) (base:Heap) (A:Around) (outer:List Env) (s:Shared) (H:Hp):Prop where
 frames:A.frames=some outer
 mod:Mod K mg base
 bs:∀ b o,base.get? b=some o→s.heap.get? b=some o∧H b=none
 bsz:base.objs.size≤s.heap.objs.size
 funs:s.heap.FunFrames base outer
 frf:∀ b∈frs outer,H b=none
 hok:HOk P w H s.heap
 bare:AllBare s.gens
def CE (outer:List Env) (P:Program) (w:World) (H:Hp) (s:Shared) (Q:VK) (u:Value) (s':Shared):Prop :=
 ∃ v H',s'.os=s.os∧AllBare s'.gens∧Un (frs outer) [] H H' s.heap s'.heap∧HOk P w H' s'.heap∧RelV v u∧Q v H'
def CR (CX:CXT) (outer:List Env) (P:Program) (w:World) (H:Hp) (s:Shared) (Q:VK) (E:XK) (r:Result) (s':Shared):Prop :=
 match r with
 | .ok (.ret u)=>CE outer P w H s Q u s'
 | .ok _=>False
 | .error e=>CX outer H s E e s'
structure FnOk (P:Program) (w:World) (K:PySem.W.Frag) (mg:Str→Option Value) (base:Heap) (CX:CXT) (k:Nat) (f:Addr) (fd:FuncData) (ps:List Str) (sp:Sp):Prop where
 len:∀ vs H Q E,sp vs H Q E→vs.length=ps.length
 run:∀(A:Around) (outer:List Env) (s:Shared) (H:Hp) (args:Args) (us:List Value) (vs:List V) (Q:VK) (E:XK),Room k A→Env0 P w K mg base A outer s H→BindsTo s fd args (ps.zip us)→Vals vs us→sp vs H Q E →
  codeAny (model P w) A (.call (.ref f) args) (CR CX outer P w H s Q E) s
theorem Env0.make {P:Program} {w:World} {K:PySem.W.Frag} {mg:Str→Option Value} {base:Heap} {A:Around} {outer:List Env} {s:Shared} {H:Hp} (e:Env0 P w K mg base A outer s H) (C:Addr) (us:List Value) (kw:List (Str×Value)) :
  Env0 P w K mg base (A.under (.builtin "type.__call__" ⟨.ref C::us,kw⟩)) outer s H:=⟨by first | exact e.frames | (simpa [Around.under,Code.envs,Code.isFrame,pushEnvs] using e.frames),e.mod,e.bs,e.bsz,e.funs,e.frf,e.hok,e.bare⟩
section
variable {X:Cx} {pins:List (Addr×Obj)} {σ:St} {H:Hp} {s s':Shared}
theorem Inv.env0 (I:Inv X pins σ H s):Env0 X.prog X.w X.K X.mg X.base X.A X.stack s H :=
 ⟨I.ok.frames,I.ok.mod,I.bs,Nat.le_trans I.ok.bsz I.sz,I.stack,I.stkFree,I.hok,I.bare⟩
theorem Inv.after {Q:VK} {u:Value} (I:Inv X pins σ H s) (h:CE X.stack X.prog X.w H s Q u s'):EP X pins σ Q u s':=by
 obtain⟨v,H',os,bare,un,hok,r,q⟩:=h
 obtain⟨hh,g,d,t,os'⟩:=s'
 obtain rfl:os'=s.os:=os
 exact⟨v,H',I.call (h':=hh) (g':=g) (d':=d) (t':=t) (ch:=[]) un hok bare (fun b z=>absurd z (by simp)),r,q⟩
end
def tCall (sp:Sp) (dvs:List V) (E:XK) (t:TA):TE:=fun σ H Q=>t σ H fun vs H1=>sp (vs++dvs) H1 Q E
def tMeth (C:Addr) (m:Str) (sp:Sp) (dvs:List V) (E:XK) (ta:TE) (t:TA):TE:=fun σ H Q=>ta σ H fun x H1=>∃ a dx fs,x=.ref a∧H1 a=some (.ins C dx fs)∧fs.lookup m=none ∧
 t σ H1 fun vs H2=>sp (x::(vs++dvs)) H2 Q E
def tMake (C:Addr) (sp:Sp) (dvs:List V) (E:XK) (t:TA):TE:=fun σ H Q=>t σ H fun vs H1=>∀ x dx,H1 x=none→H1 dx=none→dx≠x →
 sp (.ref x::(vs++dvs)) (upd (upd H1 dx (.own x)) x (.ins C dx [])) (fun v H2=>v=.non∧Q (.ref x) H2) E
def Binds (K:PySem.W.Frag) (fd:FuncData) (ps:List Str) (ds:List Value):Prop :=
 ∀(s:Shared) (us:List Value),K.In s.heap→(us++ds).length=ps.length→BindsTo s fd ⟨us,[]⟩ (ps.zip (us++ds))
theorem Binds.all {K:PySem.W.Frag} {fd:FuncData} {ps:List Str} (h:∀ us:List Value,us.length=ps.length→bindArgs fd ⟨us,[]⟩=pure (ps.zip us)):Binds K fd ps []:=fun s us _ hl=>by
 rw[List.append_nil] at hl ⊢
 exact .of_eq (h us hl)
def Passes (CX:CXT) (X:Cx) (E:XK):Prop:=∀(pins:List (Addr×Obj)) (σ:St) (H:Hp) (s:Shared) (e:Value) (s':Shared),Inv X pins σ H s→CX X.stack H s E e s'→X.xe e s'
section
variable {X:Cx} {CX:CXT} {k:Nat} {f C:Addr} {fd:FuncData} {ps:List Str} {sp:Sp} {dvs:List V} {ds:List Value} {E:XK} {x m:Str} {p pos apos:Pos} {e o:Expr} {es:List Expr} {ta:TE} {t:TA}
theorem run_fn {pins:List (Addr×Obj)} {σ:St} {H:Hp} {s:Shared} {Q:VK} {us:List Value} {vs:List V} (F:FnOk X.prog X.w X.K X.mg X.base CX k f fd ps sp) (hr:Room k X.A) (hb:Binds X.K fd ps ds) (hd:Vals dvs ds) (hx:Passes CX X E)
  (I:Inv X pins σ H s) (r:Vals vs us) (h:sp (vs++dvs) H Q E):wpAny (model X.prog X.w) X.A (call (.ref f) us) (EP X pins σ Q) X.xe s:=by
 have r2:Vals (vs++dvs) (us++ds):=r.append hd
 have hl:(us++ds).length=ps.length:=by rw[← r2.length];exact F.len _ _ _ _ h
 refine wpAny_call (codeAny_mono (F.run X.A X.stack s H ⟨us,[]⟩ (us++ds) (vs++dvs) Q E hr I.env0 (hb s us I.kIn hl) r2 h) fun r s' hq=>?_)
 cases r with
 | error e=>exact hx pins σ H s e s' I hq
 | ok fl =>
  cases fl with
  | ret u=>exact I.after hq
  | next=>exact False.elim hq
  | brk=>exact False.elim hq
  | cont=>exact False.elim hq
theorem pe_call (F:FnOk X.prog X.w X.K X.mg X.base CX k f fd ps sp) (hr:Room k X.A) (hg:Gl X x) (hm:X.mg x=some (.ref f)) (hk:PySem.W.keepIn X.K (.ref f)=true) (hb:Binds X.K fd ps ds) (hd:Vals dvs ds) (hx:Passes CX X E)
  (ha:PA X (e::es) t) (hdb:(x == ("__debug__":Str))=false:=by decide) (he:starEach (e::es) X.env=(false,eval e X.env)::starEach es X.env:=by rfl) (hpl:(backTo pos (starEach es X.env)).any (·.1)=false:=by rfl) :
  PE X (.Call (.Name x p) (e::es) [] pos) (tCall sp dvs E t):=by
 intro pins s σ H Q I h
 refine wpAny_Call_Name_kw (ld_glob I hg hm ?_ hdb)
 refine PySem.W.callWith_K (h₀:=X.base) I.ok.mod.kin hk (thn (ha pos pins s σ H _ I h) fun us s1 ⟨vs,H1,I1,r,q⟩=>⟨I1.kIn,?_⟩) he hpl
 exact run_fn F hr hb hd hx I1 r q
theorem pe_meth {pl:Sem Bool} (he:PE X o ta) (c:Cls X.K C) (hm:Meth X.K C m f) (F:FnOk X.prog X.w X.K X.mg X.base CX k f fd ps sp) (hr:Room k X.A) (hb:Binds X.K fd ps ds) (hd:Vals dvs ds) (hx:Passes CX X E) (ha:PA X (e::es) t)
  (hst:starEach (e::es) X.env=(false,eval e X.env)::starEach es X.env:=by rfl) (hpl:(backTo pos (starEach es X.env)).any (·.1)=false:=by rfl)
  (ht:eval (.Call (.Attribute o m apos) (e::es) [] pos) X.env=(do
   let ov ← eval o X.env
   standAt apos.atName
   let (f,first) ← holding [ov] (getMethod ov m pl)
   callWith pos f first (backTo pos (starEach (e::es) X.env)) (backToKw pos (keywordEach [] X.env))):=by rfl) :
  PE X (.Call (.Attribute o m apos) (e::es) [] pos) (tMeth C m sp dvs E ta t):=by
 intro pins s σ H Q I h
 refine PySem.W.methodCall_KW (pl:=pl) (thn (he pins s σ H _ I h) fun u s1 ⟨x,H1,I1,rx,a,dx,fs,ex,ea,l,q⟩=>?_) ht
 subst ex
 obtain rfl:u=Value.ref a:=rx
 refine getmeth_ok I1 ea c hm l ?_
 refine PySem.W.callWith_K (first:=[.ref a]) (h₀:=X.base) I.ok.mod.kin hm.kp (thn (ha pos pins s1 σ H1 _ I1 q) fun us s2 ⟨vs,H2,I2,r,q2⟩=>⟨I2.kIn,?_⟩) hst hpl
 exact run_fn (us:=.ref a::us) (vs:=.ref a::vs) F hr hb hd hx I2 (.cons rfl r) q2
theorem pe_meth0 {pl:Sem Bool} (he:PE X o ta) (c:Cls X.K C) (hm:Meth X.K C m f) (F:FnOk X.prog X.w X.K X.mg X.base CX k f fd ps sp) (hr:Room k X.A) (hb:Binds X.K fd ps ds) (hd:Vals dvs ds) (hx:Passes CX X E)
  (ht:eval (.Call (.Attribute o m apos) [] [] pos) X.env=(do
   let ov ← eval o X.env
   standAt apos.atName
   let (f,first) ← holding [ov] (getMethod ov m pl)
   callWith pos f first (backTo pos (starEach [] X.env)) (backToKw pos (keywordEach [] X.env))):=by rfl) :
  PE X (.Call (.Attribute o m apos) [] [] pos) (tMeth C m sp dvs E ta tNil):=by
 intro pins s σ H Q I h
 refine PySem.W.methodCall_KW (pl:=pl) (thn (he pins s σ H _ I h) fun u s1 ⟨x,H1,I1,rx,a,dx,fs,ex,ea,l,q⟩=>?_) ht
 subst ex
 obtain rfl:u=Value.ref a:=rx
 refine getmeth_ok I1 ea c hm l ?_
 exact PySem.W.callWith_K0 (first:=[.ref a]) I1.kIn hm.kp (run_fn (us:=[.ref a]) (vs:=[.ref a]) F hr hb hd hx I1 (.cons rfl .nil) q)
structure Mk (K:PySem.W.Frag) (C f:Addr):Prop where
 makes:PySem.W.makesIn K C=true
 init:PySem.W.findIn K (.ref C) "__init__"=some (some (.ref f))
 fn:PySem.W.isFn K (.ref f)=true
 kp:PySem.W.keepIn K (.ref C)=true
theorem run_make {pins:List (Addr×Obj)} {σ:St} {H:Hp} {s:Shared} {Q:VK} {us:List Value} {vs:List V} (M:Mk X.K C f) (F:FnOk X.prog X.w X.K X.mg X.base CX k f fd ps sp) (hr:Room (k+1) X.A) (hb:Binds X.K fd ps ds) (hd:Vals dvs ds)
  (hx:Passes CX X E) (I:Inv X pins σ H s) (r:Vals vs us)
  (h:∀ x dx,H x=none→H dx=none→dx≠x→sp (.ref x::(vs++dvs)) (upd (upd H dx (.own x)) x (.ins C dx [])) (fun v H2=>v=.non∧Q (.ref x) H2) E) :
  wpAny (model X.prog X.w) X.A (call (.ref C) us) (EP X pins σ Q) X.xe s:=by
 have hq:=h (s.heap.objs.size+1) s.heap.objs.size (I.hok.fresh (Nat.le_succ _)) (I.hok.fresh (Nat.le_refl _)) (Nat.ne_of_lt (Nat.lt_succ_self _))
 have I2:=Inv.made (C:=C) I
 have r2:Vals (V.ref (s.heap.objs.size+1)::(vs++dvs)) (Value.ref (s.heap.objs.size+1)::(us++ds)):=.cons rfl (r.append hd)
 have hl:(Value.ref (s.heap.objs.size+1)::us++ds).length=ps.length:=by
  have e:=r2.length
  rw[F.len _ _ _ _ hq] at e
  exact e.symm
 refine wpAny_call (make_map (f:=f) I.kIn M.makes M.init (beq_iff_eq.mp M.fn) (codeAny_mono (F.run _ X.stack _ _ ⟨Value.ref (s.heap.objs.size+1)::us,[]⟩ (Value.ref (s.heap.objs.size+1)::(us++ds)) _ _ E (hr.make C us [])
  (I2.env0.make C us []) (hb _ (Value.ref (s.heap.objs.size+1)::us) I2.kIn hl) r2 hq) fun r s' hq'=>?_))
 cases r with
 | error e=>exact hx pins σ _ _ e s' I2 hq'
 | ok fl =>
  cases fl with
  | ret u =>
   obtain⟨v,H',I3,rv,ev,q3⟩:=I2.after hq'
   subst ev
   exact⟨rv,⟨V.ref (s.heap.objs.size+1),H',I3,rfl,q3⟩⟩
  | next=>exact False.elim hq'
  | brk=>exact False.elim hq'
  | cont=>exact False.elim hq'
theorem pe_make (M:Mk X.K C f) (F:FnOk X.prog X.w X.K X.mg X.base CX k f fd ps sp) (hr:Room (k+1) X.A) (hg:Gl X x) (hm:X.mg x=some (.ref C)) (hb:Binds X.K fd ps ds) (hd:Vals dvs ds) (hx:Passes CX X E)
  (ha:PA X (e::es) t) (hdb:(x == ("__debug__":Str))=false:=by decide) (he:starEach (e::es) X.env=(false,eval e X.env)::starEach es X.env:=by rfl) (hpl:(backTo pos (starEach es X.env)).any (·.1)=false:=by rfl) :
  PE X (.Call (.Name x p) (e::es) [] pos) (tMake C sp dvs E t):=by
 intro pins s σ H Q I h
 refine wpAny_Call_Name_kw (ld_glob I hg hm ?_ hdb)
 refine PySem.W.callWith_K (h₀:=X.base) I.ok.mod.kin M.kp (thn (ha pos pins s σ H _ I h) fun us s1 ⟨vs,H1,I1,r,q⟩=>⟨I1.kIn,?_⟩) he hpl
 exact run_make M F hr hb hd hx I1 r q
theorem pe_make0 (M:Mk X.K C f) (F:FnOk X.prog X.w X.K X.mg X.base CX k f fd ps sp) (hr:Room (k+1) X.A) (hg:Gl X x) (hm:X.mg x=some (.ref C)) (hb:Binds X.K fd ps ds) (hd:Vals dvs ds) (hx:Passes CX X E)
  (hdb:(x == ("__debug__":Str))=false:=by decide):PE X (.Call (.Name x p) [] [] pos) (tMake C sp dvs E tNil):=by
 intro pins s σ H Q I h
 refine wpAny_Call_Name_kw (ld_glob I hg hm ?_ hdb)
 exact PySem.W.callWith_K0 I.kIn M.kp (run_make (us:=[]) M F hr hb hd hx I .nil h)
end
section
variable {X:Cx} {CX:CXT} {k:Nat} {f C:Addr} {fd:FuncData} {ps ks:List Str} {sp:Sp} {E:XK} {x m:Str} {p pos apos kpos:Pos} {e o:Expr} {es:List Expr} {kws:List Keyword} {te ta:TE} {t tk:TA} {nm:Option Str}
structure KBinds (K:PySem.W.Frag) (fd:FuncData) (ps ks:List Str) (g:List Value→List Value→List Value) (gV:List V→List V→List V):Prop where
 to:∀(s:Shared) (us ws:List Value),K.In s.heap→(g us ws).length=ps.length→BindsTo s fd ⟨us,ks.zip ws⟩ (ps.zip (g us ws))
 rel:∀{vs:List V} {us:List Value} {zs:List V} {ws:List Value},Vals vs us→Vals zs ws→Vals (gV vs zs) (g us ws)
variable {g:List Value→List Value→List Value} {gV:List V→List V→List V}
end
structure FnScope (N P:List Str) (sc:Scope):Prop where
 kind:sc.kind=.function
 co:sc.isCoroutine=false
 gen:sc.isGenerator=false
 nd:N.Nodup
 pre:N.take P.length=P
 par:∀ x∈P,sc.names.lookup x=some .local∨sc.names.lookup x=some .cell
 nofree:∀ y∈sc.names,y.2≠.free
theorem bindL_out {kindOf:Str→Option NameKind} {x:Str}:∀{binds:List (Str×Value)} {m:Str→Option Value},(∀ v,(x,v)∉binds)→bindL kindOf binds m x=m x
 | [],_,_=>rfl
 | (n,v)::r,m,h=>by
  unfold bindL
  rw[bindL_out fun w hw=>h w (List.mem_cons_of_mem _ hw)]
  split
  ·have:x≠n:=by rintro rfl;exact h v List.mem_cons_self
   simp[this]
  ·rfl
theorem bindC_out {kindOf:Str→Option NameKind} {x:Str}:∀{binds:List (Str×Value)} {m:Str→Option Value},(∀ v,(x,v)∉binds)→bindC kindOf binds m x=m x
 | [],_,_=>rfl
 | (n,v)::r,m,h=>by
  unfold bindC
  rw[bindC_out fun w hw=>h w (List.mem_cons_of_mem _ hw)]
  split
  ·rfl
  ·have:x≠n:=by rintro rfl;exact h v List.mem_cons_self
   simp[this]
theorem bindL_get {kindOf:Str→Option NameKind} {x:Str} {v:Value}:∀{P:List Str} {vs:List Value} {i:Nat} {m:Str→Option Value},P.Nodup→P[i]?=some x→vs[i]?=some v→kindOf x=some .local →
  bindL kindOf (P.zip vs) m x=some v
 | [],_,_,_,_,h,_,_=>by simp at h
 | _::_,[],_,_,_,_,h,_=>by simp at h
 | p::P,w::vs,0,m,nd,h1,h2,hk=>by
  simp at h1 h2;subst h1;subst h2
  show bindL kindOf ((p,w)::P.zip vs) m p=_
  unfold bindL
  rw[bindL_out fun v hv=>(List.nodup_cons.mp nd).1 (List.of_mem_zip hv).1,if_pos hk]
  simp
 | p::P,w::vs,i+1,m,nd,h1,h2,hk=>by
  show bindL kindOf ((p,w)::P.zip vs) m x=_
  unfold bindL
  exact bindL_get (i:=i) (List.nodup_cons.mp nd).2 (by simpa using h1) (by simpa using h2) hk
theorem bindC_get {kindOf:Str→Option NameKind} {x:Str} {v:Value}:∀{P:List Str} {vs:List Value} {i:Nat} {m:Str→Option Value},P.Nodup→P[i]?=some x→vs[i]?=some v→kindOf x≠some .local →
  bindC kindOf (P.zip vs) m x=some v
 | [],_,_,_,_,h,_,_=>by simp at h
 | _::_,[],_,_,_,_,h,_=>by simp at h
 | p::P,w::vs,0,m,nd,h1,h2,hk=>by
  simp at h1 h2;subst h1;subst h2
  show bindC kindOf ((p,w)::P.zip vs) m p=_
  unfold bindC
  rw[bindC_out fun v hv=>(List.nodup_cons.mp nd).1 (List.of_mem_zip hv).1,if_neg hk]
  simp
 | p::P,w::vs,i+1,m,nd,h1,h2,hk=>by
  show bindC kindOf ((p,w)::P.zip vs) m x=_
  unfold bindC
  exact bindC_get (i:=i) (List.nodup_cons.mp nd).2 (by simpa using h1) (by simpa using h2) hk
def jz_ (N:List Str) (vs:List V):St:=vs.map some++List.replicate (N.length - vs.length) none
def cxOf (CX:CXT) (P:Program) (w:World) (K:PySem.W.Frag) (mg:Str→Option Value) (base:Heap) (N:List Str) (qual:Str) (scope:Scope) (f:Addr) (cd:Value) (A:Around) (outer:List Env) (s:Shared) (H:Hp) (E:XK):Cx where
 prog:=P
 w:=w
 K:=K
 mg:=mg
 base:=base
 A:=A.deeper (envOfC qual scope s.heap.objs.size f cd)
 N:=N
 s₀:=s
 H₀:=H
 env:=envOfC qual scope s.heap.objs.size f cd
 outer:=outer
 stack:=envOfC qual scope s.heap.objs.size f cd::outer
 ex:=[]
 calm:=true
 fn:=fun _=>true
 pn:=[]
 xe:=fun e s'=>wpAny (model P w) (A.deeper (envOfC qual scope s.heap.objs.size f cd)) (leaving (envOfC qual scope s.heap.objs.size f cd) e) (fun _ s''=>CX outer H s E e s'') (fun e' s''=>CX outer H s E e' s'') s'
theorem cell_has {sc:Scope} {n:Nat} {x:Str} (h:sc.names.lookup x=some .cell):∃ c,(cellsFrom n sc.names []).lookup x=some c:=by
 have q:=PySem.W.cellsFrom_some sc.names n [] (.inl h)
 exact Option.isSome_iff_exists.mp q
theorem inv_start {CX:CXT} {P:Program} {w:World} {K:PySem.W.Frag} {mg:Str→Option Value} {base:Heap} {N ps:List Str} {qual:Str} {scope:Scope} {f:Addr} {cd:Value} {A:Around} {outer:List Env} {s s1:Shared} {H:Hp} {E:XK} {us:List Value} {vs:List V}
  (S:FnScope N ps scope) (hd:A.handled=none) (e0:Env0 P w K mg base A outer s H) (hl:vs.length=ps.length) (r:Vals vs us)
  (x:InCallC s s.heap.objs.size (bindL (envOfC qual scope s.heap.objs.size f cd).kindOf (ps.zip us) fun _=>none) (cellsFrom (s.heap.objs.size+1) scope.names []) (bindC (envOfC qual scope s.heap.objs.size f cd).kindOf (ps.zip us) fun _=>none) s1) :
  Inv (cxOf CX P w K mg base N qual scope f cd A outer s H E) [] (jz_ N vs) H s1:=by
 have hpl:ps.length≤N.length:=by have:=congrArg List.length S.pre;rw[List.length_take] at this;omega
 obtain⟨h1,tk,rfl,hk⟩:=x.done
 have noA:∀ b:Addr,b∉(cxOf CX P w K mg base N qual scope f cd A outer s H E).ex:=fun b z=>absurd (show b∈([]:List Addr) from z) (by simp)
 refine⟨⟨e0.mod,S.kind,rfl,rfl,Nat.le_refl _,fun y z c h1 h2=>?_,fun y hy=>?_,fun y c _ h=>?_,fun _=>hd,Around.frames_deeper e0.frames,.inr ⟨rfl,rfl⟩,fun b z=>absurd z (noA b),e0.bs,e0.bsz,fun b _ _=>noA b,fun b z=>absurd z (noA b),e0.funs,e0.frf⟩,
  rfl,e0.bare,Un.kept hk,⟨_,x.toInCall.ns,fun i y v h1 h2 h3=>?_⟩,fun y c h=>⟨_,x.cell y c h⟩,e0.hok.fresh (Nat.le_refl _),fun y c h=>?_,fun p hp=>absurd (show p∈([]:List (Addr×Obj)) from hp) (by simp),e0.hok.kept hk,?_⟩
 ·exact name_of_addr x.apart (PySem.mem_of_lookup h1) (PySem.mem_of_lookup h2)
 ·have hy:scope.names.lookup y=some .cell∨scope.names.lookup y=some .free:=hy
  rcases hy with hy | hy
  ·exact cell_has hy
  ·exact absurd rfl (S.nofree _ (PySem.mem_of_lookup hy))
 ·exact Nat.le_of_lt (x.above y c (PySem.mem_of_lookup h))
 ·have hi:i < vs.length:=by
   unfold jz_ at h2
   by_cases hi:i < vs.length
   ·exact hi
   ·rw[List.getElem?_append_right (by simpa using hi)] at h2
    rw[List.getElem?_replicate] at h2
    split at h2 <;> cases h2
  have ha:vs[i]?=some v:=by
   unfold jz_ at h2
   rw[List.getElem?_append_left (by simpa using hi),List.getElem?_map] at h2
   cases e:vs[i]? with
   | none=>rw[e] at h2;cases h2
   | some a=>rw[e] at h2;cases h2;rfl
  obtain⟨u,hu,rv⟩:=r.get ha
  have hp:ps[i]?=some y:=by
   rw[← S.pre,List.getElem?_take_of_lt (by omega)];exact h1
  have ndP:ps.Nodup:=by rw[← S.pre];exact S.nd.sublist (List.take_sublist _ _)
  refine⟨u,rv,?_⟩
  rcases S.par y (List.mem_of_getElem? hp) with k | k
  ·exact .inl ⟨k,bindL_get ndP hp hu k⟩
  ·obtain⟨c,e⟩:=cell_has (n:=s.heap.objs.size+1) k
   refine .inr ⟨.inl k,c,e,?_⟩
   have q:=x.cell y c e
   rw[bindC_get ndP hp hu (by show scope.names.lookup y≠_;rw[k];decide)] at q
   exact q
 ·exact e0.hok.fresh (Nat.le_of_lt (x.above y c (PySem.mem_of_lookup h)))
 ·unfold jz_
  show _=N.length
  rw[List.length_append,List.length_map,List.length_replicate]
  omega
theorem fn_of {CX:CXT} {P:Program} {w:World} {K:PySem.W.Frag} {mg:Str→Option Value} {base:Heap} {k:Nat} {f:Addr} {name qual:Str} {params:Arguments} {body:List Stmt} {scope:Scope} {dV kV doc pm cdv ct oc:Value} {an od:Option Addr}
  {osl:Array (Option Value)} {N ps:List Str} {sp:Sp} (lk:K.lookup f=some ⟨oc,od,.func (PySem.W.fnOf name qual params body scope dV kV doc pm an cdv ct),osl⟩) (hcd:PySem.W.codeIn K cdv qual=true) (S:FnScope N ps scope)
  (len:∀ vs H Q E,sp vs H Q E→vs.length=ps.length)
  (hbody:∀(A:Around) (outer:List Env) (s:Shared) (H:Hp) (vs:List V) (Q:VK) (E:XK),Room k (A.deeper (envOfC qual scope s.heap.objs.size f cdv))→sp vs H Q E →
   ∃ t,PSs (cxOf CX P w K mg base N qual scope f cdv A outer s H E) body t∧t { nx:=fun _ H'=>Q .non H',rt:=Q } (jz_ N vs) H) :
  FnOk P w K mg base CX (k+1) f (PySem.W.fnOf name qual params body scope dV kV doc pm an cdv ct) ps sp:=by
 refine⟨len,fun A outer s H args us vs Q E hr e0 hb r hsp=>?_⟩
 have hl:=len _ _ _ _ hsp
 have KX:K.In s.heap:=e0.mod.kin.keeps fun b o e=>(e0.bs b o e).1
 have lim:s.heap.NoLimit:=e0.mod.nolimit.keeps fun b o e=>(e0.bs b o e).1
 have hkind:∀ y∈ps.zip us,scope.names.lookup y.1=some .local∨(scope.names.lookup y.1=some .cell∧((cellsFrom (s.heap.objs.size+1) scope.names []).lookup y.1).isSome=true):=fun⟨n,v⟩ hy=>by
  rcases S.par n (List.of_mem_zip hy).1 with q | q
  ·exact .inl q
  ·exact .inr ⟨q,PySem.W.cellsFrom_some _ _ _ (.inl q)⟩
 refine codeAny_call_function hr.depth (KX _ _ lk) rfl S.co S.gen rfl (PySem.W.codeRec_of KX hcd) (hb _ _ _ _ ?_)
 refine wpAny_newFunctionEnv_cells S.kind hkind fun env he s1 x=>?_
 subst he
 refine⟨lim.keeps x.toInCall.keep,codeAny_func ?_⟩
 obtain⟨t,ht,hq⟩:=hbody A outer s H vs Q E (hr.deeper _) hsp
 have I:Inv (cxOf CX P w K mg base N qual scope f cdv A outer s H E) [] (jz_ N vs) H s1:=inv_start S hr.hd e0 hl r x
 refine wpAny_mono (ht [] s1 (jz_ N vs) H _ I hq) (fun fl s' hs=>?_) fun e s' hs=>hs
 have fin:∀{σ':St} {H':Hp} {v:V} {u:Value},Inv (cxOf CX P w K mg base N qual scope f cdv A outer s H E) [] σ' H' s'→RelV v u→Q v H'→CE outer P w H s Q u s' :=
  fun{σ' H' v u} J rv q=>⟨v,H',J.os,J.bare,J.base,J.hok,rv,q⟩
 cases fl with
 | ret u =>
  obtain⟨v,σ',H',J,rv,q⟩:=hs
  exact fin J rv q
 | next =>
  obtain⟨σ',H',J,q⟩:=hs
  exact fin (v:=V.non) (u:=Value.none) J rfl q
 | brk =>
  obtain⟨_,_,_,q⟩:=hs
  exact False.elim q
 | cont =>
  obtain⟨_,_,_,q⟩:=hs
  exact False.elim q
end L2
namespace L2
open PySem PySem.Spec PyProof.Rows
section
variable {X:Cx} {x:Str} {p pos:Pos} {e:Expr} {es:List Expr} {t:TA} {id T:String} {r:List V→Hp→VK→Prop}
def tCB (r:List V→Hp→VK→Prop) (t:TA):TE:=fun σ H Q=>t σ H fun vs H1=>r vs H1 Q
theorem jk_ (hc:CallR X (.builtin id) r) (hg:Gl X x) (hm:X.mg x=none) (hv:bootBuiltins x=some (.builtin id)) (ha:PA X (e::es) t) (hn:x≠"__name__":=by decide) (hdb:(x == ("__debug__":Str))=false:=by decide)
  (he:starEach (e::es) X.env=(false,eval e X.env)::starEach es X.env:=by rfl) (hpl:(backTo pos (starEach es X.env)).any (·.1)=false:=by rfl):PE X (.Call (.Name x p) (e::es) [] pos) (tCB r t):=by
 intro pins s σ H Q I h
 refine wpAny_Call_Name_kw (ld_blt I hg hm hv ?_ hn hdb)
 exact PyProof.Rows.callWith_builtin1 (thn (ha pos pins s σ H _ I h) fun us s1 ⟨vs,H1,I1,r1,q1⟩=>hc pins s1 σ H1 vs us Q I1 r1 q1) he hpl
theorem pe_callTy (hc:CallR X (.type T) r) (hg:Gl X x) (hm:X.mg x=none) (hv:bootBuiltins x=some (.type T)) (ha:PA X (e::es) t) (hn:x≠"__name__":=by decide) (hdb:(x == ("__debug__":Str))=false:=by decide)
  (he:starEach (e::es) X.env=(false,eval e X.env)::starEach es X.env:=by rfl) (hpl:(backTo pos (starEach es X.env)).any (·.1)=false:=by rfl):PE X (.Call (.Name x p) (e::es) [] pos) (tCB r t):=by
 intro pins s σ H Q I h
 refine wpAny_Call_Name_kw (ld_blt I hg hm hv ?_ hn hdb)
 exact PyProof.Rows.callWith_type1 (thn (ha pos pins s σ H _ I h) fun us s1 ⟨vs,H1,I1,r1,q1⟩=>hc pins s1 σ H1 vs us Q I1 r1 q1) he hpl
end
end L2
namespace HT
open PySem PyProof.Rows
section
open PySem.SeqAt
open PySem.AutoSeq1 (wpAny_loadPart')
open PySem.MeetsSeq PySem.MeetsSeq2 PySem.MeetsSeq3
end
section
variable {prog:Program} {w:World} {A:Around} {E:Value→Shared→Prop} {s:Shared}
theorem cat_tup {t b:Addr} {vs ws:List Value} {Q:Value→Shared→Prop} (ht:IsTup s.heap t vs.toArray) (hb:IsTup s.heap b ws.toArray) (hv:vs≠[])
  (h1:ws=[]→Q (.ref t) s) (h2:ws≠[]→Q (.ref s.heap.objs.size) { s with heap:=s.heap.push { cls:=.type "tuple",data:=.seq (vs++ws).toArray } })
  (hsz:vs.length+ws.length≤sizeLine):wpAny (model prog w) A (binaryOp .Add (.ref t) (.ref b)) Q E s:=by
 obtain⟨⟨cls,dd,data,sl⟩,ho,hc,n,hd⟩:=id ht
 obtain⟨⟨cls2,dd2,data2,sl2⟩,ho2,hc2,n2,hd2⟩:=id hb
 simp only at hc hd hc2 hd2
 subst hc hd hc2 hd2
 have e:vs.toArray++ws.toArray=(vs++ws).toArray:=by simp
 by_cases hw:ws=[]
 ·exact concat_meets ⟨_,ho,rfl⟩ ⟨_,ho2,rfl⟩ noFill_tuple_add seq_tuple_add PySem.F.slot_tuple_add PySem.F.entry_tuple_add (PySem.F.args_tuple_add_2 _ _)
   (tuple_addW1 t b vs.toArray ws.toArray n n2 dd dd2 sl sl2 (by simpa using hv) (by simp[hw])) ⟨ho,ho2,h1 hw⟩
 ·refine concat_meets ⟨_,ho,rfl⟩ ⟨_,ho2,rfl⟩ noFill_tuple_add seq_tuple_add PySem.F.slot_tuple_add PySem.F.entry_tuple_add (PySem.F.args_tuple_add_2 _ _)
   (tuple_addW2 t b vs.toArray ws.toArray n n2 dd dd2 sl sl2 (by simpa using hv) (by simpa using hw) (by rw[List.size_toArray,List.size_toArray];exact hsz)) ⟨ho,ho2,?_⟩
  rw[e]
  exact h2 hw
def sIx (n d:Nat):Option Int→Nat
 | none=>d
 | some v=>if v < 0 then (v+(n:Int)).toNat else min v.toNat n
theorem sIx_le (n d:Nat) (hd:d≤n) (o:Option Int):sIx n d o≤n:=by
 cases o with
 | none=>exact hd
 | some v =>
  show (if v < 0 then (v+(n:Int)).toNat else min v.toNat n)≤n
  by_cases hv:v < 0
  ·rw[if_pos hv];omega
  ·rw[if_neg hv];exact Nat.min_le_right _ _
theorem clip_eq (v:Int) (n d:Nat):(if v < 0 then max (v+(n:Int)) 0 else min v (n:Int))=((sIx n d (some v):Nat):Int):=by
 show (if v < 0 then max (v+(n:Int)) 0 else min v (n:Int))=(((if v < 0 then (v+(n:Int)).toNat else min v.toNat n):Nat):Int)
 by_cases hv:v < 0
 ·simp only[if_pos hv];omega
 ·simp only[if_neg hv];omega
theorem adjust_gen (lo hi:Option Int) (n:Nat):Builtin.Slice.sliceAdjust lo hi 1 (n:Int)=(((sIx n 0 lo:Nat):Int),((sIx n n hi:Nat):Int)):=by
 have h1:¬ ((1:Int) < 0):=by omega
 unfold Builtin.Slice.sliceAdjust
 simp only[h1,if_false]
 refine Prod.ext ?_ ?_
 ·cases lo with
  | none=>rfl
  | some v=>exact clip_eq v n 0
 ·cases hi with
  | none=>rfl
  | some v=>exact clip_eq v n n
theorem places_gen (i j:Nat):Builtin.Slice.slicePlaces (i:Int) (j:Int) 1=j - i:=by
 unfold Builtin.Slice.slicePlaces
 have h1:(1:Int) > 0:=by omega
 simp only[h1,if_true,Int.ediv_one]
 split <;> omega
theorem slicePart_ {v:Value} {o:Option Int} {Q:Option Int→Shared→Prop} (p:IsPart v o) (h:Q o s):wpAny (model prog w) A (Builtin.Slice.slicePartIndex v) Q E s:=by
 cases p with
 | none=>exact slicePart_none h
 | int i t=>exact slicePart_int h
theorem sliceApplied_gen {sl:Addr} {vl vu:Value} {lo hi:Option Int} {n:Nat} {Q:Int×Int×Nat→Shared→Prop} (hs:s.heap.IsSliceOf sl vl vu .none) (pl:IsPart vl lo) (pu:IsPart vu hi)
  (h:Q (((sIx n 0 lo:Nat):Int),1,sIx n n hi - sIx n 0 lo) s):wpAny (model prog w) A (Builtin.Slice.sliceApplied (.ref sl) (pure (n:Int))) Q E s:=by
 obtain⟨os,hos,hcs,hds⟩:=id hs
 unfold Builtin.Slice.sliceApplied Builtin.Slice.sliceFields
 refine wpAny_bind (wpAny_bind (wpAny_field hos hds (x:=vl) rfl (wpAny_bind (wpAny_field hos hds (x:=vu) rfl (wpAny_bind (wpAny_field hos hds (x:=.none) rfl (wpAny_pure ?_)))))))
 refine wpAny_bind (slicePart_none ?_)
 show wpAny _ _ (if ((1:Int) == 0)=true then _ else _) _ _ s
 rw[if_neg (by decide)]
 refine wpAny_bind (slicePart_ pl (wpAny_bind (slicePart_ pu (wpAny_bind (wpAny_pure ?_)))))
 show wpAny _ _ (match Builtin.Slice.sliceAdjust lo hi 1 (n:Int) with | (lo,hi)=>pure (lo,(1:Int),Builtin.Slice.slicePlaces lo hi 1)) _ _ s
 rw[adjust_gen lo hi n]
 show wpAny _ _ (pure (((sIx n 0 lo:Nat):Int),(1:Int),Builtin.Slice.slicePlaces ((sIx n 0 lo:Nat):Int) ((sIx n n hi:Nat):Int) 1)) _ _ s
 rw[places_gen]
 exact wpAny_pure h
theorem pick_gen (xs:Array Value) (i k:Nat):((List.range k).filterMap fun(m:Nat)=>xs[((i:Int)+(m:Int) * 1).toNat]?).toArray=((xs.toList.drop i).take k).toArray:=by
 have e:(fun(m:Nat)=>xs[((i:Int)+(m:Int) * 1).toNat]?)=fun m=>xs[i+m]?:=by
  funext m
  have:((i:Int)+(m:Int) * 1).toNat=i+m:=by omega
  rw[this]
 rw[e]
 have:=pick_run xs i k
 rw[List.filterMap_map] at this
 have e2:((fun x=>xs[x]?)∘fun x=>i+x)=fun m=>xs[i+m]?:=rfl
 rw[e2] at this
 rw[this]
theorem getItem_tuple_cut {t sl:Addr} {items:Array Value} {vl vu:Value} {lo hi:Option Int} {Q:Value→Shared→Prop} (ht:IsTup s.heap t items) (hs:s.heap.IsSliceOf sl vl vu .none) (pl:IsPart vl lo) (pu:IsPart vu hi)
  (hw:¬ (sIx items.size 0 lo=0∧sIx items.size items.size hi=items.size))
  (h:Q (.ref s.heap.objs.size) { s with heap:=s.heap.push { cls:=.type "tuple",data:=.seq ((items.toList.drop (sIx items.size 0 lo)).take (sIx items.size items.size hi - sIx items.size 0 lo)).toArray } })
  (hsz:items.size≤sizeLine):wpAny (model prog w) A (getItem (.ref t) (.ref sl)) Q E s:=by
 have htake:sizeOk (.seq ((items.toList.drop (sIx items.size 0 lo)).take (sIx items.size items.size hi - sIx items.size 0 lo)).toArray):=by
  show ((items.toList.drop (sIx items.size 0 lo)).take (sIx items.size items.size hi - sIx items.size 0 lo)).toArray.size≤sizeLine
  rw[List.size_toArray,List.length_take,List.length_drop,Array.length_toList]
  omega
 have hj:sIx items.size items.size hi≤items.size:=sIx_le _ _ (Nat.le_refl _) hi
 obtain⟨os,hos,hcs,hds⟩:=id hs
 have hTs:s.TypeIs (.ref sl) "slice":=⟨os,hos,hcs⟩
 unfold getItem
 try with_reducible refine wpAny_holding ?_
 first | refine wpAny_bind (wpAny_pure ?_) | skip
 refine wpAny_bind (wpAny_sequenceKey ht.typeIs (by decide) ?_)
 refine wpAny_bind (wpAny_callSpecial?_slot (name:=Str.ofString "__getitem__") ht.typeIs PyProof.Rows.slot_tuple_getitem
  (wpAny_call_entry PyProof.Rows.slot_tuple_getitem ht.typeIs entry_tuple_getitem ?_ (args_tuple_getitem _ _)))
 show wpAny _ _ (Builtin.Tuple.tupleItemsOf (.ref t) >>= _) _ _ s
 refine wpAny_bind (tupleItemsOf_ ht ?_)
 refine wpAny_bind (wpAny_typeOf hTs ?_)
 rw[if_pos (by decide)]
 refine wpAny_bind (sliceApplied_gen hs pl pu ?_)
 have hno:¬ ((((sIx items.size 0 lo:Nat):Int) == 0&&(1:Int) == 1&&(sIx items.size items.size hi - sIx items.size 0 lo) == items.size)=true):=by
  intro q
  rw[Bool.and_eq_true,Bool.and_eq_true] at q
  have q1:((sIx items.size 0 lo:Nat):Int)=0:=eq_of_beq q.1.1
  have q2:sIx items.size items.size hi - sIx items.size 0 lo=items.size:=eq_of_beq q.2
  exact hw ⟨by omega,by omega⟩
 show wpAny _ _ (if (((sIx items.size 0 lo:Nat):Int) == 0&&(1:Int) == 1&&(sIx items.size items.size hi - sIx items.size 0 lo) == items.size)=true then _ else _) _ _ s
 rw[if_neg hno,pick_gen]
 first
  | exact wpAny_bind (m:=Builtin.Tuple.tupleExact _) (wpAny_newObj_type (wpAny_pure ⟨_,rfl,wpAny_pure h⟩) htake)
  | exact wpAny_bind (m:=Builtin.Tuple.tupleExact _) (wpAny_newObj_type (wpAny_bind (wpAny_pure (wpAny_pure ⟨_,rfl,wpAny_pure h⟩))) htake)
  | exact wpAny_bind (wpAny_bind (m:=Builtin.Tuple.tupleExact _) (wpAny_newObj_type (wpAny_pure (wpAny_pure ⟨_,rfl,wpAny_pure h⟩)) htake))
  | exact wpAny_bind (wpAny_bind (m:=Builtin.Tuple.tupleExact _) (wpAny_newObj_type (wpAny_pure ⟨_,rfl,wpAny_pure h⟩) htake))
end
end HT
namespace L2
open PySem PySem.Spec PyProof.Rows
abbrev TO:=St→Hp→(Option Int→Hp→Prop)→Prop
def PO (X:Cx) (e:Option Expr) (t:TO):Prop :=
 ∀(pins:List (Addr×Obj)) (s:Shared) (σ:St) (H:Hp) (Q:Option Int→Hp→Prop),Inv X pins σ H s→t σ H Q →
  wpAny (model X.prog X.w) X.A (evalPart e X.env) (fun u s'=>∃ o H',Inv X pins σ H' s'∧IsPart u o∧Q o H') X.xe s
def tNoPart:TO:=fun _ H Q=>Q none H
def tPart (t:TE):TO:=fun σ H Q=>t σ H fun x H1=>∃ i,x=.int i∧Q (some i) H1
section
variable {X:Cx} {e:Expr} {te:TE} {lo hi:Option Expr} {tl th:TO} {pos p2:Pos}
theorem j1_:PO X none tNoPart:=by
 intro pins s σ H Q I h
 rw[evalPart_none]
 exact wpAny_pure ⟨none,H,I,.none,h⟩
theorem jv_ (h:PE X e te):PO X (some e) (tPart te):=by
 intro pins s σ H Q I hw
 rw[evalPart_some]
 refine thn (h pins s σ H _ I hw) fun u s1 ⟨x,H1,I1,r1,q1⟩=>?_
 obtain⟨i,rfl,q⟩:=q1
 obtain⟨t,rfl⟩:=r1
 exact⟨some i,H1,I1,.int i t,q⟩
def SlR (X:Cx) (r:V→Option Int→Option Int→Hp→VK→Prop):Prop :=
 ∀(pins:List (Addr×Obj)) (s:Shared) (σ:St) (H:Hp) (x:V) (v vl vu:Value) (lo hi:Option Int) (sl:Addr) (Q:VK),Inv X pins σ H s→RelV x v→s.heap.IsSliceOf sl vl vu .none→IsPart vl lo→IsPart vu hi→r x lo hi H Q →
  ∃ T id,typeLookup (.type T) "__getitem__"=pure (some (.builtin id))∧s.TypeIs v T∧wpAny (model X.prog X.w) X.A (getItem v (.ref sl)) (EP X pins σ Q) X.xe s
def tSl (r:V→Option Int→Option Int→Hp→VK→Prop) (te:TE) (tl th:TO):TE:=fun σ H Q=>te σ H fun x H1=>tl σ H1 fun l H2=>th σ H2 fun u H3=>r x l u H3 Q
theorem js_ {r:V→Option Int→Option Int→Hp→VK→Prop} (hr:SlR X r) (he:PE X e te) (hl:PO X lo tl) (hu:PO X hi th):PE X (.Subscript e (.Slice lo hi none p2) pos) (tSl r te tl th):=by
 intro pins s σ H Q I h
 refine Subscript_ (thn (he pins s σ H _ I h) fun v s1 ⟨x,H1,I1,r1,q1⟩=>?_)
 refine wpAny_Slice (thn (hl pins s1 σ H1 _ I1 q1) fun vl s2 ⟨l,H2,I2,pl,q2⟩=>thn (hu pins s2 σ H2 _ I2 q2) fun vu s3 ⟨u,H3,I3,pu,q3⟩=>?_)
 rw[evalPart_none]
 refine wpAny_pure ?_
 have I4:Inv X pins σ H3 { s3 with heap:=s3.heap.push { cls:=.type "slice",data:=.fields #[vl,vu,.none] } }:=I3.kept (t':=s3.toks) fun b ob q=>Heap.get?_push_of_some _ q
 obtain⟨T,id,hT,ht,hg⟩:=hr pins { s3 with heap:=s3.heap.push { cls:=.type "slice",data:=.fields #[vl,vu,.none] } } σ H3 x v vl vu l u s3.heap.objs.size Q I4 r1 (Heap.IsSliceOf.new ..) pl pu q3
 show wpAny (model X.prog X.w) X.A (subscriptTail e (.Slice lo hi none p2) v (.ref s3.heap.objs.size)) (EP X pins σ Q) X.xe { s3 with heap:=s3.heap.push { cls:=.type "slice",data:=.fields #[vl,vu,.none] } }
 exact tail_any (ops:=[.ref s3.heap.objs.size,v]) ht hT hg (by with_unfolding_all rfl)
def cutV (xs:List V) (lo hi:Option Int):List V:=(xs.drop (HT.sIx xs.length 0 lo)).take (HT.sIx xs.length xs.length hi - HT.sIx xs.length 0 lo)
theorem cutV_length (xs:List V) (lo hi:Option Int):(cutV xs lo hi).length≤xs.length:=by
 unfold cutV
 rw[List.length_take,List.length_drop]
 omega
def rSlT (K:PySem.W.Frag):V→Option Int→Option Int→Hp→VK→Prop:=fun x lo hi H Q=>∃ a xs,x=.ref a∧SqT K H a xs ∧
 ¬ (HT.sIx xs.length 0 lo=0∧HT.sIx xs.length xs.length hi=xs.length)∧∀ p,H p=none→Q (.ref p) (upd H p (.tup (cutV xs lo hi)))
theorem sl_tup:SlR X (rSlT X.K):=by
 intro pins s σ H x v vl vu lo hi sl Q I rx hs pl pu h
 obtain⟨a,xs,rfl,hx,hw,q⟩:=h
 cases rx
 obtain⟨its,r,ht,hz⟩:=I.tuple hx
 have hlen:its.toArray.size=xs.length:=by rw[List.size_toArray];exact r.length.symm
 refine⟨"tuple",_,PyProof.Rows.slot_tuple_getitem.lookup,ht.typeIs,?_⟩
 refine HT.getItem_tuple_cut ht hs pl pu (by rw[hlen];exact hw) ?_ (by rw[hlen];exact hz)
 rw[hlen]
 refine⟨.ref s.heap.objs.size,_,I.laid (t':=s.toks) (o:=.tup (cutV xs lo hi)) (fun b ob q=>Heap.get?_push_of_some _ q) (Nat.le_refl _) ?_,rfl,q _ (I.hok.fresh (Nat.le_refl _))⟩
 exact⟨Nat.le_trans (cutV_length xs lo hi) hz,_,(r.drop (HT.sIx xs.length 0 lo)).take (HT.sIx xs.length xs.length hi - HT.sIx xs.length 0 lo),IsTup.new _ _⟩
def rCatT (K:PySem.W.Frag):R2:=fun x y H Q=>∃ a b xs ys,x=.ref a∧y=.ref b∧SqT K H a xs∧SqT K H b ys∧xs≠[]∧xs.length+ys.length≤sizeLine ∧
 (ys=[]→Q (.ref a) H)∧(ys≠[]→∀ p,H p=none→Q (.ref p) (upd H p (.tup (xs++ys))))
theorem Vals.nil_iff {xs:List V} {us:List Value} (r:Vals xs us):us=[]↔xs=[]:=by
 cases r with
 | nil=>simp
 | cons _ _=>simp
theorem op_catT:OpR X (binaryOp .Add) (rCatT X.K):=by
 intro pins s σ H x y v u Q I rx ry h
 obtain⟨a,b,xs,ys,rfl,rfl,ha,hb,hx,hz,q1,q2⟩:=h
 cases rx
 cases ry
 obtain⟨its,r1,p1,_⟩:=I.tuple ha
 obtain⟨its2,r2,p2,_⟩:=I.tuple hb
 refine HT.cat_tup p1 p2 (fun z=>hx (r1.nil_iff.mp z)) (fun z=>⟨.ref a,H,I,rfl,q1 (r2.nil_iff.mp z)⟩) (fun z=>?_) (by rw[← r1.length,← r2.length];exact hz)
 refine⟨.ref s.heap.objs.size,_,I.laid (t':=s.toks) (o:=.tup (xs++ys)) (fun b ob q=>Heap.get?_push_of_some _ q) (Nat.le_refl _) ?_,rfl,q2 (fun w=>z (r2.nil_iff.mpr w)) _ (I.hok.fresh (Nat.le_refl _))⟩
 exact⟨by rw[List.length_append];exact hz,_,r1.append r2,IsTup.new _ _⟩
end
end L2
namespace L2
open PySem PySem.Spec PyProof.Rows
def ixN (n:Nat) (i:Int):Option Nat:=if 0≤i then (if i < n then some i.toNat else none) else if -(n:Int)≤i then some (i+n).toNat else none
def atI {α:Type} (xs:List α) (i:Int):Option α:=(ixN xs.length i).bind fun j=>xs[j]?
theorem ixN_seq {n:Nat} {i:Int} {j:Nat} (h:ixN n i=some j):seqIndex? i n=some j∧j < n∧-(n:Int)≤i∧i < n:=by
 unfold ixN at h
 by_cases h0:0≤i
 ·rw[if_pos h0] at h
  by_cases h1:i < n
  ·rw[if_pos h1] at h
   have e:i.toNat=j:=Option.some.inj h
   exact⟨by rw[seqIndex_of h0 h1,e],by omega,by omega,h1⟩
  ·rw[if_neg h1] at h;cases h
 ·rw[if_neg h0] at h
  by_cases h1:-(n:Int)≤i
  ·rw[if_pos h1] at h
   have e:(i+n).toNat=j:=Option.some.inj h
   exact⟨by rw[seqIndex_neg (by omega) h1,e],by omega,h1,by omega⟩
  ·rw[if_neg h1] at h;cases h
theorem atI_get {α:Type} {xs:List α} {i:Int} {v:α} (h:atI xs i=some v):∃ j,seqIndex? i xs.length=some j∧xs[j]?=some v∧j < xs.length∧-(xs.length:Int)≤i∧i < xs.length:=by
 unfold atI at h
 cases e:ixN xs.length i with
 | none=>rw[e] at h;cases h
 | some j =>
  rw[e] at h
  obtain⟨h1,h2,h3,h4⟩:=ixN_seq e
  exact⟨j,h1,h,h2,h3,h4⟩
theorem atI_nat {α:Type} {xs:List α} {j:Nat} {v:α} (h:xs[j]?=some v):atI xs (j:Int)=some v:=by
 have hj:j < xs.length:=(List.getElem?_eq_some_iff.mp h).1
 have e:ixN xs.length (j:Int)=some j:=by
  unfold ixN
  rw[if_pos (by omega),if_pos (by omega)];simp
 unfold atI;rw[e];exact h
def PlainIx (b:Expr):Prop:=∀ o i,subscripted b false o i=operate [o,i] (getItem o i)
def IxR (X:Cx) (r:R2):Prop :=
 ∀(value slice:Expr) (pins:List (Addr×Obj)) (s:Shared) (σ:St) (H:Hp) (x y:V) (v u:Value) (Q:VK),Inv X pins σ H s→RelV x v→RelV y u→r x y H Q →
  subscripted slice false v u=operate [v,u] (getItem v u)→wpAny (model X.prog X.w) X.A (subscriptTail value slice v u) (EP X pins σ Q) X.xe s
def MtR (X:Cx) (id:String) (r:V→List V→Hp→VK→Prop):Prop :=
 ∀(pins:List (Addr×Obj)) (s:Shared) (σ:St) (H:Hp) (x:V) (xs:List V) (v:Value) (us:List Value) (Q:VK),Inv X pins σ H s→RelV x v→Vals xs us→r x xs H Q →
  wpAny (model X.prog X.w) X.A (call (.builtin id) (v::us)) (EP X pins σ Q) X.xe s
section
variable {X:Cx} {a b:Expr} {ta tb:TE} {pos:Pos}
theorem j2_ {r:R2} (hr:IxR X r) (ha:PE X a ta) (hb:PE X b tb) (hs:PlainIx b):PE X (.Subscript a b pos) (tOp r ta tb):=by
 intro pins s σ H Q I h
 exact Subscript_ (binT ha hb I h fun v u s2 x y H2 I2 rx ry q=>hr a b pins s2 σ H2 x y v u Q I2 rx ry q (hs _ _))
def rIxL (K:PySem.W.Frag):R2:=fun x y H Q=>∃ p xs i v,x=.ref p∧y=.int i∧SqL K H p xs∧atI xs i=some v∧Q v H
def rIxT (K:PySem.W.Frag):R2:=fun x y H Q=>∃ p xs i v,x=.ref p∧y=.int i∧SqT K H p xs∧atI xs i=some v∧Q v H
def rIxS:R2:=fun x y H Q=>∃ z i c,x=.str z∧y=.int i∧z.length≤sizeLine∧atI z.cps.toList i=some c∧Q (.str ⟨#[c]⟩) H
theorem ix_list:IxR X (rIxL X.K):=by
 intro value slice pins s σ H x y v u Q I rx ry h hs
 obtain⟨p,xs,i,z,rfl,rfl,hq,he,q⟩:=h
 cases rx
 obtain⟨t,rfl⟩:=ry
 obtain⟨its,r,pl,hz⟩:=I.list hq
 obtain⟨j,h1,h2,h3,h4,h5⟩:=atI_get he
 obtain⟨w,ew,rw'⟩:=r.get h2
 have hl:=r.length
 have hn:=line63
 have fin:EP X pins σ Q w s:=⟨z,H,I,rw',q⟩
 by_cases h0:0≤i
 ·have hj:i.toNat=j:=by
   rw[seqIndex_of h0 h5] at h1
   exact Option.some.inj h1
  exact item_listR pl.isList h0 (by omega) (by rw[hj];simpa using ew) fin hs
 ·have hj:(i+(its.toArray.size:Int)).toNat=j:=by
   rw[seqIndex_neg (by omega) h4] at h1
   rw[List.size_toArray,← hl]
   exact Option.some.inj h1
  exact subscriptTail_builtinR (x:=w) pl.isList.typeIs slot_list_getitem.lookup
   (wpAny_getItem_list_neg (Q:=fun r s'=>r=w∧EP X pins σ Q r s') pl.isList (by omega) (by rw[List.size_toArray] <;> omega) (by omega) (by rw[hj];simpa using ew) ⟨rfl,fin⟩) hs
theorem ix_tup:IxR X (rIxT X.K):=by
 intro value slice pins s σ H x y v u Q I rx ry h hs
 obtain⟨p,xs,i,z,rfl,rfl,hq,he,q⟩:=h
 cases rx
 obtain⟨t,rfl⟩:=ry
 obtain⟨its,r,pl,hz⟩:=I.tuple hq
 obtain⟨j,h1,h2,h3,h4,h5⟩:=atI_get he
 obtain⟨w,ew,rw'⟩:=r.get h2
 have hl:=r.length
 have hn:=line63
 have fin:EP X pins σ Q w s:=⟨z,H,I,rw',q⟩
 exact subscriptTail_builtinR (x:=w) pl.typeIs slot_tuple_getitem.lookup
  (getItem_tuple (j:=j) (Q:=fun r s'=>r=w∧EP X pins σ Q r s') pl (by omega) (by omega) (by rw[List.size_toArray,← hl];exact h1) (by simpa using ew) ⟨rfl,fin⟩) hs
theorem ix_str:IxR X rIxS:=by
 intro value slice pins s σ H x y v u Q I rx ry h hs
 obtain⟨z,i,c,rfl,rfl,hz,he,q⟩:=h
 obtain⟨t,rfl⟩:=rx
 obtain⟨t',rfl⟩:=ry
 obtain⟨j,h1,h2,h3,h4,h5⟩:=atI_get he
 have hl:z.cps.toList.length=z.length:=by simp[Str.length]
 rw[hl] at h1 h4 h5
 have hn:=line63
 exact tail_any (typeIs_str s z t) slot_str_getitem.lookup (getItem_str (c:=c) (by
  have e1:decide (i < -(2 ^ 63:Int))=false:=decide_eq_false (by omega)
  have e2:decide (i≥2 ^ 63)=false:=decide_eq_false (by omega)
  rw[e1,e2,Bool.or_false]) (by rw[h1];simpa using h2) ⟨.str ⟨#[c]⟩,H,I.tok _,⟨_,rfl⟩,q⟩) hs
theorem mapSeq_set (its:List Value) (n j:Nat) (u:Value):Obj.mapSeq (·.setIfInBounds j u) { cls:=.type "list",data:=.seq its.toArray n }={ cls:=.type "list",data:=.seq (its.set j u).toArray n }:=by
 simp[Obj.mapSeq]
theorem Inv.lst {pins:List (Addr×Obj)} {σ:St} {H:Hp} {s:Shared} {p:Addr} {xs:List V} (I:Inv X pins σ H s) (h:H p=some (.lst xs)) :
  ∃(its:List Value) (n:Nat),Vals xs its∧s.heap.get? p=some { cls:=.type "list",data:=.seq its.toArray n }∧xs.length≤sizeLine:=by
 obtain⟨z,its,n,r,e⟩:=I.hok p _ h
 exact⟨its,n,r,e,z⟩
theorem Inv.lstUpd {pins:List (Addr×Obj)} {σ:St} {H:Hp} {s:Shared} {p:Addr} {xs ys:List V} {its its':List Value} {n n':Nat} {f:Obj→Obj} (I:Inv X pins σ H s) (h:H p=some (.lst xs))
  (ho:s.heap.get? p=some { cls:=.type "list",data:=.seq its.toArray n }) (hf:f { cls:=.type "list",data:=.seq its.toArray n }={ cls:=.type "list",data:=.seq its'.toArray n' }) (r:Vals ys its') (hz:ys.length≤sizeLine) (t:Nat) :
  Inv X pins σ (upd H p (.lst ys)) { s with heap:=s.heap.update p f,toks:=t }:=by
 have e:(s.heap.update p f).get? p=some { cls:=.type "list",data:=.seq its'.toArray n' }:=by
  rw[Heap.get?_update_self f ho (by rw[hf] <;> rfl),hf]
 refine I.write (x:=p) (e:=p) (by rw[h];trivial) (.inl rfl) (fun b u hb q=>(Heap.get?_update_other _ _ (Ne.symm hb)).trans q) ⟨_,e⟩ ?_
 exact⟨hz,its',n',r,e⟩
def rSetL:V→V→V→Hp→(Hp→Prop)→Prop:=fun o i v H Q=>∃ p xs k j,o=.ref p∧i=.int k∧H p=some (.lst xs)∧ixN xs.length k=some j∧Q (upd H p (.lst (xs.set j v)))
theorem set_list:PSet X rSetL:=by
 intro pins s σ H o i v ov iv u Q I ro ri rv h
 obtain⟨p,xs,k,j,rfl,rfl,hp,hj,q⟩:=h
 cases ro
 obtain⟨t,rfl⟩:=ri
 obtain⟨its,n,r,ho,hz⟩:=I.lst hp
 obtain⟨h1,h2,h3,h4⟩:=ixN_seq hj
 have hl:=r.length
 have hn:=line63
 have I':Inv X pins σ (upd H p (.lst (xs.set j v))) { s with heap:=s.heap.update p (Obj.mapSeq (·.setIfInBounds j u)) } :=
  I.lstUpd hp ho (mapSeq_set its n j u) (r.set rv j) (by rw[List.length_set];exact hz) s.toks
 by_cases h0:0≤k
 ·have hk:k.toNat=j:=by
   rw[seqIndex_of h0 h4] at h1
   exact Option.some.inj h1
  exact PySem.W.ki_setAt ho h0 (by omega) (by rw[List.size_toArray,← hl];exact h4) (by rw[hk];exact⟨_,I',q⟩)
 ·have hk:(k+(its.toArray.size:Int)).toNat=j:=by
   rw[seqIndex_neg (by omega) h3] at h1
   rw[List.size_toArray,← hl]
   exact Option.some.inj h1
  exact PySem.W.ki_setBack ho (by omega) (by rw[List.size_toArray,← hl];exact h3) (by omega) (by rw[hk];exact⟨_,I',q⟩)
theorem slice_bounds (lo hi:Option Int) (n:Nat):(sliceBounds lo hi none n).1=((HT.sIx n 0 lo:Nat):Int)∧(sliceBounds lo hi none n).2.1=((HT.sIx n n hi:Nat):Int)∧(sliceBounds lo hi none n).2.2=1:=by
 refine⟨?_,?_,rfl⟩
 ·cases lo with
  | none=>simp[sliceBounds,HT.sIx]
  | some i =>
   simp only[sliceBounds,HT.sIx,Option.getD_none,show (1:Int) > 0 by decide,if_true]
   by_cases h:i < 0
   ·simp only[h,if_true] <;> omega
   ·simp only[h,if_false] <;> omega
 ·cases hi with
  | none=>simp[sliceBounds,HT.sIx]
  | some i =>
   simp only[sliceBounds,HT.sIx,Option.getD_none,show (1:Int) > 0 by decide,if_true]
   by_cases h:i < 0
   ·simp only[h,if_true] <;> omega
   ·simp only[h,if_false] <;> omega
theorem slicePick_cut (its:List Value) (lo hi:Option Int):slicePick its.toArray lo hi none=((its.drop (HT.sIx its.length 0 lo)).take (HT.sIx its.length its.length hi - HT.sIx its.length 0 lo)).toArray:=by
 obtain⟨h1,h2,h3⟩:=slice_bounds lo hi its.toArray.size
 unfold slicePick
 rw[h1,h2,h3]
 simp only[sliceRange_one,pick_run,List.size_toArray] <;> rfl
def rSlL (K:PySem.W.Frag):V→Option Int→Option Int→Hp→VK→Prop:=fun x lo hi H Q=>∃ a xs,x=.ref a∧SqL K H a xs∧∀ p,H p=none→Q (.ref p) (upd H p (.lst (cutV xs lo hi)))
theorem sl_list:SlR X (rSlL X.K):=by
 intro pins s σ H x v vl vu lo hi sl Q I rx hs pl pu h
 obtain⟨a,xs,rfl,hx,q⟩:=h
 cases rx
 obtain⟨its,r,ht,hz⟩:=I.list hx
 have hlen:=r.length
 refine⟨"list",_,slot_list_getitem.lookup,ht.isList.typeIs,?_⟩
 refine wpAny_getItem_list_slice ht.isList hs pl pu .none (by simp) ?_ (by rw[List.size_toArray] <;> omega)
 rw[slicePick_cut,← hlen]
 refine⟨.ref s.heap.objs.size,_,I.laid (t':=s.toks) (o:=.lst (cutV xs lo hi)) (fun b ob q=>Heap.get?_push_of_some _ q) (Nat.le_refl _) ?_,rfl,q _ (I.hok.fresh (Nat.le_refl _))⟩
 exact⟨Nat.le_trans (cutV_length xs lo hi) hz,_,0,(r.drop (HT.sIx xs.length 0 lo)).take (HT.sIx xs.length xs.length hi - HT.sIx xs.length 0 lo),Heap.get?_push_size _ rfl⟩
def flatV:V→Bool
 | .non=>true
 | .bl _=>true
 | .int _=>true
 | .str _=>true
 | _=>false
def eqV:V→V→Bool
 | .non,.non=>true
 | .bl a,.bl b=>a == b
 | .bl a,.int b=>(if a then 1 else 0) == b
 | .int a,.bl b=>a == (if b then 1 else 0)
 | .int a,.int b=>a == b
 | .str a,.str b=>a == b
 | _,_=>false
theorem eqAt_V {A:Around} {s:Shared} {y x:V} {u v:Value} (ry:RelV y u) (rx:RelV x v) (fy:flatV y=true) (fx:flatV x=true):SeqAt.EqAt A s u v (eqV y x):=by
 cases y with
 | non =>
  cases ry
  cases x with
  | non=>cases rx;exact SeqAt.EqAt.same _
  | bl b=>cases rx;exact SeqAt.EqAt.none_bool b
  | int b=>obtain⟨t,rfl⟩:=rx;exact SeqAt.EqAt.none_int b t
  | str b=>obtain⟨t,rfl⟩:=rx;exact SeqAt.EqAt.none_str b t
  | _=>exact absurd (show false=true from fx) Bool.false_ne_true
 | bl a =>
  cases ry
  cases x with
  | non=>cases rx;exact SeqAt.EqAt.bool_none a
  | bl b=>cases rx;exact SeqAt.EqAt.bool_bool a b
  | int b=>obtain⟨t,rfl⟩:=rx;exact SeqAt.EqAt.bool_int a b t
  | str b=>obtain⟨t,rfl⟩:=rx;exact SeqAt.EqAt.bool_str a b t
  | _=>exact absurd (show false=true from fx) Bool.false_ne_true
 | int a =>
  obtain⟨t',rfl⟩:=ry
  cases x with
  | non=>cases rx;exact SeqAt.EqAt.int_none a t'
  | bl b=>cases rx;exact SeqAt.EqAt.int_bool a t' b
  | int b=>obtain⟨t,rfl⟩:=rx;exact SeqAt.EqAt.int_int a t' b t
  | str b=>obtain⟨t,rfl⟩:=rx;exact SeqAt.EqAt.int_str a t' b t
  | _=>exact absurd (show false=true from fx) Bool.false_ne_true
 | str a =>
  obtain⟨t',rfl⟩:=ry
  cases x with
  | non=>cases rx;exact SeqAt.EqAt.str_none a t'
  | bl b=>cases rx;exact SeqAt.EqAt.str_bool a t' b
  | int b=>obtain⟨t,rfl⟩:=rx;exact SeqAt.EqAt.str_int a t' b t
  | str b=>obtain⟨t,rfl⟩:=rx;exact SeqAt.EqAt.str_str a t' b t
  | _=>exact absurd (show false=true from fx) Bool.false_ne_true
 | _=>exact absurd (show false=true from fy) Bool.false_ne_true
def eqU (x:V) (u:Value):Bool:=match u with
 | .none=>eqV .non x
 | .bool b=>eqV (.bl b) x
 | .int i _=>eqV (.int i) x
 | .str z _=>eqV (.str z) x
 | _=>false
theorem eqU_of {x y:V} {u:Value} (r:RelV y u) (f:flatV y=true):eqU x u=eqV y x:=by
 cases y with
 | non=>cases r;rfl
 | bl b=>cases r;rfl
 | int i=>obtain⟨t,rfl⟩:=r;rfl
 | str z=>obtain⟨t,rfl⟩:=r;rfl
 | _=>exact absurd (show false=true from f) Bool.false_ne_true
theorem any_eqU {x:V}:∀{xs:List V} {us:List Value},Vals xs us→xs.all flatV=true→us.any (eqU x)=xs.any fun y=>eqV y x
 | _,_,.nil,_=>rfl
 | y::xs,u::us,.cons r t,f=>by
  rw[List.all_cons,Bool.and_eq_true] at f
  rw[List.any_cons,List.any_cons,eqU_of r f.1,any_eqU t f.2]
theorem mem_eqAt {A:Around} {s:Shared} {x:V} {v:Value} (rx:RelV x v) (fx:flatV x=true):∀{xs:List V} {us:List Value},Vals xs us→xs.all flatV=true→∀ u∈us,SeqAt.EqAt A s u v (eqU x u)
 | _,_,.nil,_=>fun u hu=>by cases hu
 | y::xs,u::us,.cons r t,f=>fun u' hu=>by
  rw[List.all_cons,Bool.and_eq_true] at f
  rcases List.mem_cons.mp hu with rfl | hu
  ·rw[eqU_of r f.1];exact eqAt_V r rx f.1 fx
  ·exact mem_eqAt rx fx t f.2 u' hu
def inV (x:V) (xs:List V):Bool:=xs.any fun y=>eqV y x
def rIn (K:PySem.W.Frag) (neg:Bool):R2:=fun x y H Q=>∃ p xs,y=.ref p∧(SqL K H p xs∨SqT K H p xs)∧flatV x=true∧xs.all flatV=true∧Q (.bl (if neg then !inV x xs else inV x xs)) H
theorem op_in_seq:OpR X (compareOp .In) (rIn X.K false):=by
 intro pins s σ H x y v u Q I rx ry h
 obtain⟨p,xs,rfl,hq,fx,fs,q⟩:=h
 cases ry
 rcases hq with hq | hq
 ·obtain⟨its,r,pl,hz⟩:=I.list hq
  refine SeqAt.in_listAt (eqU x) pl.isList (fun w hw=>mem_eqAt rx fx r fs w (by simpa using hw)) ⟨.bl _,H,I,rfl,?_⟩
  rw[show its.toArray.any (eqU x)=its.any (eqU x) by simp,any_eqU r fs]
  exact q
 ·obtain⟨its,r,pl,hz⟩:=I.tuple hq
  refine SeqAt.in_tupleAt (eqU x) pl (fun w hw=>mem_eqAt rx fx r fs w (by simpa using hw)) ⟨.bl _,H,I,rfl,?_⟩
  rw[show its.toArray.any (eqU x)=its.any (eqU x) by simp,any_eqU r fs]
  exact q
theorem op_notIn_seq:OpR X (compareOp .NotIn) (rIn X.K true):=by
 intro pins s σ H x y v u Q I rx ry h
 obtain⟨p,xs,rfl,hq,fx,fs,q⟩:=h
 cases ry
 rcases hq with hq | hq
 ·obtain⟨its,r,pl,hz⟩:=I.list hq
  refine SeqAt.notIn_listAt (eqU x) pl.isList (fun w hw=>mem_eqAt rx fx r fs w (by simpa using hw)) ⟨.bl _,H,I,rfl,?_⟩
  rw[show its.toArray.any (eqU x)=its.any (eqU x) by simp,any_eqU r fs]
  exact q
 ·obtain⟨its,r,pl,hz⟩:=I.tuple hq
  refine SeqAt.notIn_tupleAt (eqU x) pl (fun w hw=>mem_eqAt rx fx r fs w (by simpa using hw)) ⟨.bl _,H,I,rfl,?_⟩
  rw[show its.toArray.any (eqU x)=its.any (eqU x) by simp,any_eqU r fs]
  exact q
theorem call_len_seq:CallR X (.builtin "len") (fun xs H Q=>∃ p ys,xs=[.ref p]∧(SqL X.K H p ys∨SqT X.K H p ys)∧Q (.int ys.length) H):=by
 intro pins s σ H xs us Q I r h
 obtain⟨p,ys,rfl,hq,q⟩:=h
 obtain⟨u,rfl,rx⟩:=vals1 r
 cases rx
 have hn:=line63
 rcases hq with hq | hq
 ·obtain⟨its,r',pl,hz⟩:=I.list hq
  have hlen:=r'.length
  exact Calls.call_len_list pl.isList (by simp only[List.size_toArray] <;> omega) ⟨.int ys.length,H,I.tok _,⟨s.toks+1,by rw[List.size_toArray,hlen]⟩,q⟩
 ·obtain⟨its,r',pl,hz⟩:=I.tuple hq
  have hlen:=r'.length
  exact len_tuple pl (by simp only[List.size_toArray] <;> omega) ⟨.int ys.length,H,I.tok _,⟨s.toks+1,by rw[List.size_toArray,hlen]⟩,q⟩
theorem call_len_str:CallR X (.builtin "len") (fun xs H Q=>∃ z,xs=[.str z]∧z.length≤sizeLine∧Q (.int z.length) H):=by
 intro pins s σ H xs us Q I r h
 obtain⟨z,rfl,hz,q⟩:=h
 obtain⟨u,rfl,t,rfl⟩:=vals1 r
 have hn:=line63
 exact len_str (by omega) ⟨.int z.length,H,I.tok _,⟨_,rfl⟩,q⟩
theorem call_list_of:CallR X (.type "list") (fun xs H Q=>∃ p ys,xs=[.ref p]∧(SqL X.K H p ys∨SqT X.K H p ys)∧∀ l,H l=none→Q (.ref l) (upd H l (.lst ys))):=by
 intro pins s σ H xs us Q I r h
 obtain⟨p,ys,rfl,hq,q⟩:=h
 obtain⟨u,rfl,rx⟩:=vals1 r
 cases rx
 have fin:∀(its:List Value),Vals ys its→ys.length≤sizeLine→∀(h':Heap) (c':Nat),(∀ b o',s.heap.get? b=some o'→h'.get? b=some o') →
   h'.get? s.heap.objs.size=some { cls:=.type "list",dict:=none,data:=.seq its.toArray c',slots:=#[] }→EP X pins σ Q (.ref s.heap.objs.size) { s with heap:=h' }:=fun its r' hz h' c' kp e =>
  ⟨.ref s.heap.objs.size,_,I.laid (t':=s.toks) kp (Nat.le_refl _) (show ObjOk X.prog X.w _ h' _ (.lst ys) from ⟨hz,its,c',r',e⟩),rfl,q _ (I.hok.fresh (Nat.le_refl _))⟩
 rcases hq with hq | hq
 ·obtain⟨its,r',pl,hz⟩:=I.list hq
  have hlen:=r'.length
  obtain⟨o,ho,hc,n,hd⟩:=pl.isList
  exact call_list_seq p (.inl rfl) ho hc hd (fun h' c' kp e=>fin its r' hz h' c' kp e) (by simp only[List.size_toArray] <;> omega)
 ·obtain⟨its,r',pl,hz⟩:=I.tuple hq
  have hlen:=r'.length
  obtain⟨o,ho,hc,n,hd⟩:=pl
  exact call_list_seq p (.inr rfl) ho hc hd (fun h' c' kp e=>fin its r' hz h' c' kp e) (by simp only[List.size_toArray] <;> omega)
theorem call_tuple_of:CallR X (.type "tuple") (fun xs H Q=>∃ p ys,xs=[.ref p]∧((SqL X.K H p ys∧∀ l,H l=none→Q (.ref l) (upd H l (.tup ys)))∨(SqT X.K H p ys∧Q (.ref p) H))):=by
 intro pins s σ H xs us Q I r h
 obtain⟨p,ys,rfl,h⟩:=h
 obtain⟨u,rfl,rx⟩:=vals1 r
 cases rx
 rcases h with ⟨hq,q⟩ | ⟨hq,q⟩
 ·obtain⟨its,r',pl,hz⟩:=I.list hq
  have hlen:=r'.length
  refine call_tuple_list pl.isList (fun h' kp=>?_) (by simp only[List.size_toArray] <;> omega)
  have I1:Inv X pins σ H { s with heap:=h' }:=I.kept (t':=s.toks) kp
  have I2:Inv X pins σ (upd H h'.objs.size (.tup ys)) { s with heap:=h'.push { cls:=.type "tuple",data:=.seq its.toArray } } :=
   I1.laid (t':=s.toks) (fun b o e=>Heap.get?_push_of_some _ e) (Nat.le_refl _) (show ObjOk X.prog X.w _ _ _ (.tup ys) from ⟨hz,its,r',IsTup.new _ _⟩)
  exact⟨.ref h'.objs.size,_,I2,rfl,q _ (I1.hok.fresh (Nat.le_refl _))⟩
 ·obtain⟨its,r',pl,hz⟩:=I.tuple hq
  exact call_tuple_same pl ⟨.ref p,H,I,rfl,q⟩
def tyV (K:PySem.W.Frag) (T:String) (x:V) (H:Hp):Prop:=match x with
 | .str _=>T="str"
 | .int _=>T="int"
 | .ref p=>(T="list"∧∃ xs,SqL K H p xs)∨(T="tuple"∧∃ o,K.lookup p=some o∧o.cls=.type "tuple"∧o.dict=none) ∨
   (T="dict"∧((∃ kvs,H p=some (.dK kvs))∨∃ kvs,H p=some (.dT kvs)))∨(T="set"∧∃ S n,H p=some (.set S n))
 | _=>False
theorem tyV_is {pins:List (Addr×Obj)} {σ:St} {H:Hp} {s:Shared} {T:String} {x:V} {v:Value} (I:Inv X pins σ H s) (r:RelV x v) (ty:tyV X.K T x H) :
  s.TypeIs v T∧∀ a,v=.ref a→∃ ob,s.heap.get? a=some ob∧ob.dict=none:=by
 cases x with
 | str z =>
  obtain⟨t,rfl⟩:=r
  cases (show T="str" from ty)
  exact⟨typeIs_str s z t,fun _ e=>nomatch e⟩
 | int i =>
  obtain⟨t,rfl⟩:=r
  cases (show T="int" from ty)
  exact⟨typeIs_int s i t,fun _ e=>nomatch e⟩
 | ref p =>
  cases r
  rcases ty with ⟨rfl,xs,hq⟩ | ⟨rfl,o,hk,hc,hd⟩ | ⟨rfl,hk⟩ | ⟨rfl,S,n,hk⟩
  ·obtain⟨its,_,pl,_⟩:=I.list hq
   refine⟨pl.isList.typeIs,fun a e=>?_⟩
   cases e
   obtain⟨o,n,e,c,hd,_⟩:=pl
   exact⟨o,e,hd⟩
  ·refine⟨⟨o,I.kIn p o hk,hc⟩,fun a e=>?_⟩
   cases e
   exact⟨o,I.kIn _ o hk,hd⟩
  ·have z:∃ o,s.heap.get? p=some o∧o.ExactDict:=by
    rcases hk with ⟨kvs,hk⟩ | ⟨kvs,hk⟩
    ·obtain⟨_,_,_,_,o,_,_,e,ex,_⟩:=I.hok p _ hk
     exact⟨o,e,ex⟩
    ·obtain⟨_,_,_,_,o,_,_,e,ex,_⟩:=I.hok p _ hk
     exact⟨o,e,ex⟩
   obtain⟨o,e,ex⟩:=z
   refine⟨⟨o,e,ex.1⟩,fun a e2=>?_⟩
   cases e2
   exact⟨o,e,ex.2.1⟩
  ·obtain⟨o,_,_,_,e,ex,_⟩:=I.hok p _ hk
   refine⟨⟨o,e,ex.1⟩,fun a e2=>?_⟩
   cases e2
   exact⟨o,e,ex.2.1⟩
 | _=>exact False.elim ty
def tBM0 (K:PySem.W.Frag) (T:String) (r:V→List V→Hp→VK→Prop) (to:TE):TE:=fun σ H Q=>to σ H fun x H1=>tyV K T x H1∧r x [] H1 Q
def tBM (K:PySem.W.Frag) (T:String) (r:V→List V→Hp→VK→Prop) (to:TE) (t:TA):TE:=fun σ H Q=>to σ H fun x H1=>tyV K T x H1∧t σ H1 fun xs H2=>r x xs H2 Q
variable {o e:Expr} {es:List Expr} {to:TE} {t:TA} {name:Str} {apos cpos:Pos} {T id:String} {r:V→List V→Hp→VK→Prop}
theorem pe_bm0 (pa:PlainAttrs T) (slot:Slot T name id) (hty:typeOf (.builtin id)=pure (.type "method_descriptor")) (hm:MtR X id r) (ho:PE X o to)
  (hbase:attributeBase o name X.env (eval o X.env)=eval o X.env:=by rfl) (hline:(apos.endLine == cpos.line)=true:=by rfl):PE X (.Call (.Attribute o name apos) [] [] cpos) (tBM0 X.K T r to):=by
 intro pins s σ H Q I h
 refine wpAny_Call_method0_late hbase hline (thn (ho pins s σ H _ I h) fun v s1 ⟨x,H1,I1,r1,ty,q1⟩=>?_)
 obtain⟨h1,h2⟩:=tyV_is I1 r1 ty
 exact⟨T,id,pa,slot,hty,h1,h2,Calls.callWith_builtin rfl (PySem.evalArgs_none (hm pins s1 σ H1 x [] v [] Q I1 r1 .nil q1))⟩
theorem pe_bm (pa:PlainAttrs T) (slot:Slot T name id) (hty:typeOf (.builtin id)=pure (.type "method_descriptor")) (hm:MtR X id r) (ho:PE X o to) (ha:PA X (e::es) t)
  (hbase:attributeBase o name X.env (eval o X.env)=eval o X.env:=by rfl)
  (hfew:((backTo cpos (starEach (e::es) X.env)).all (fun x=>!x.1)&&(backToKw cpos (keywordEach [] X.env)).all (fun x=>x.1.isSome)
   && decide ((e::es).length+([]:List Keyword).length+(if ([]:List Keyword).isEmpty then 0 else 1) < 30))=true:=by rfl)
  (hline:(apos.endLine == cpos.line)=true:=by rfl) (hs:starEach (e::es) X.env=(false,eval e X.env)::starEach es X.env:=by rfl) (hplain:(backTo cpos (starEach es X.env)).any (·.1)=false:=by rfl) :
  PE X (.Call (.Attribute o name apos) (e::es) [] cpos) (tBM X.K T r to t):=by
 intro pins s σ H Q I h
 refine wpAny_Call_method_late hbase hfew hline rfl (thn (ho pins s σ H _ I h) fun v s1 ⟨x,H1,I1,r1,ty,q1⟩=>?_)
 obtain⟨h1,h2⟩:=tyV_is I1 r1 ty
 refine⟨T,id,pa,slot,hty,h1,h2,?_⟩
 have hA:=ha cpos pins s1 σ H1 _ I1 q1
 rw[hs] at hA ⊢
 refine Calls.callWith_builtin (by show (false || (backTo cpos (starEach es X.env)).any (·.1))=false;rw[hplain] <;> rfl) (Calls.evalArgs_plain ?_)
 exact thn hA fun us s2 ⟨vs,H2,I2,r2,q2⟩=>hm pins s2 σ H2 x vs v us Q I2 r1 r2 q2
/- xs.append(e),list.index on a module's tuple .. are MtR facts of 06m -/
end
end L2
namespace L2
open PySem PySem.Spec PyProof.Rows
def MtM (X:Cx) (id:String) (r:V→List V→Hp→VK→Prop):Prop :=
 ∀(pins:List (Addr×Obj)) (s:Shared) (σ:St) (H:Hp) (x:V) (xs:List V) (v:Value) (us:List Value) (Q:VK),Inv X pins σ H s→RelV x v→Vals xs us→r x xs H Q →
  wpAny (model X.prog X.w) X.A (call (.builtin id) (v::us)) (EP X pins σ Q) X.xe s
theorem Vals.one:∀{x:V} {us:List Value},Vals [x] us→∃ u,us=[u]∧RelV x u
 | _,_,.cons r .nil=>⟨_,rfl,r⟩
theorem Vals.rep {xs:List V} {us:List Value} (h:Vals xs us):∀ k:Nat,Vals (List.replicate k xs).flatten (List.replicate k us).flatten
 | 0=>.nil
 | k+1=>by
  rw[List.replicate_succ,List.replicate_succ,List.flatten_cons,List.flatten_cons]
  exact Vals.append h (Vals.rep h k)
theorem foldl_rep (its:List Value):∀(k:Nat) (acc:List Value),
  List.foldl (fun x1 x2=>x1++x2) acc.toArray (List.replicate k its.toArray)=(acc++(List.replicate k its).flatten).toArray
 | 0,acc=>by simp
 | k+1,acc=>by
  have e:acc.toArray++its.toArray=(acc++its).toArray:=by simp
  have e2:(acc++its)++(List.replicate k its).flatten=acc++(List.replicate (k+1) its).flatten:=by
   rw[List.replicate_succ,List.flatten_cons,List.append_assoc]
  rw[← e2,← foldl_rep its k (acc++its),← e,List.replicate_succ,List.foldl_cons]
section
variable {X:Cx} {pins:List (Addr×Obj)} {σ:St} {H:Hp} {s:Shared} {l b:Addr} {xs ys zs:List V}
theorem Inv.lset {its its':List Value} {n:Nat} {f:Array Value→Array Value} {t':Nat} (I:Inv X pins σ H s) (hH:H l=some (.lst xs))
  (e:s.heap.get? l=some { cls:=.type "list",data:=.seq its.toArray n }) (hf:f its.toArray=its'.toArray) (hv:Vals ys its') (hz:ys.length≤sizeLine) :
  Inv X pins σ (upd H l (.lst ys)) { s with heap:=s.heap.update l (Obj.mapSeq f),toks:=t' }:=by
 have q:=PySem.IsL.update e f
 rw[hf] at q
 refine I.write (x:=l) (e:=l) (by rw[hH];exact trivial) (.inl rfl) (fun b' u hb hu=>(Heap.get?_update_other s.heap (Obj.mapSeq f) (Ne.symm hb)).trans hu) ⟨_,q⟩ ?_
 exact⟨hz,its',_,hv,q⟩
theorem Inv.lnew {its:List Value} {t':Nat} (I:Inv X pins σ H s) (hv:Vals ys its) (hz:ys.length≤sizeLine) :
  Inv X pins σ (upd H s.heap.objs.size (.lst ys)) { s with heap:=s.heap.push { cls:=.type "list",data:=.seq its.toArray },toks:=t' } :=
 I.laid (fun _ _ q=>Heap.get?_push_of_some _ q) (Nat.le_refl _) ⟨hz,its,0,hv,Heap.get?_push_size _ rfl⟩
theorem Inv.fresh (I:Inv X pins σ H s):H s.heap.objs.size=none:=I.hok.fresh (Nat.le_refl _)
theorem Inv.lstM (I:Inv X pins σ H s) (hH:H l=some (.lst xs)):xs.length≤sizeLine∧∃(its:List Value) (n:Nat),Vals xs its∧xs.length=its.length∧s.heap.get? l=some { cls:=.type "list",data:=.seq its.toArray n }:=by
 obtain⟨z,its,n,r,e⟩:=I.hok l _ hH
 exact⟨z,its,n,r,r.length,e⟩
theorem notLongL {n:Nat} (h:n≤sizeLine):Builtin.List.listTooLong n=false:=by
 unfold Builtin.List.listTooLong
 exact decide_eq_false (by omega)
end
section
variable {X:Cx}
def rAppend:V→List V→Hp→VK→Prop:=fun x vs H Q=>∃ l xs y,x=.ref l∧vs=[y]∧H l=some (.lst xs)∧xs.length < sizeLine∧Q .non (upd H l (.lst (xs++[y])))
theorem mt_append:MtM X "list.append" rAppend:=by
 intro pins s σ H x vs v us Q I rx rv h
 obtain⟨l,xs,y,rfl,rfl,hH,hz,q⟩:=h
 cases rx
 obtain⟨u,rfl,ru⟩:=rv.one
 obtain⟨z,its,n,r,hl,e⟩:=I.lstM hH
 refine call_meets F.slot_list_append ⟨_,e,rfl⟩ F.entry_list_append (F.args_list_append_2 _ _) (PySem.list_append l its.toArray n u (by rw[List.size_toArray];omega)) ⟨e,?_⟩
 refine⟨.non,_,I.lset (its':=its++[u]) hH e (by simp) (r.append (.cons ru .nil)) ?_,rfl,q⟩
 rw[List.length_append,List.length_singleton]
 omega
def rExtend:V→List V→Hp→VK→Prop:=fun x vs H Q=>∃ l b xs zs,x=.ref l∧vs=[.ref b]∧H l=some (.lst xs)∧H b=some (.lst zs)∧xs.length+zs.length≤sizeLine∧Q .non (upd H l (.lst (xs++zs)))
theorem mt_extend:MtM X "list.extend" rExtend:=by
 intro pins s σ H x vs v us Q I rx rv h
 obtain⟨l,b,xs,zs,rfl,rfl,hH,hB,hz,q⟩:=h
 cases rx
 obtain⟨u,rfl,ru⟩:=rv.one
 cases ru
 obtain⟨z,its,n,r,hl,e⟩:=I.lstM hH
 obtain⟨z2,its2,n2,r2,hl2,e2⟩:=I.lstM hB
 have hsz:its.toArray.size+its2.toArray.size≤sizeLine:=by rw[List.size_toArray,List.size_toArray];omega
 have hlong:¬ (!its.toArray.isEmpty&&Builtin.List.listTooLong (its.toArray.size+its2.toArray.size))=true:=by
  rw[notLongL hsz,Bool.and_false]
  exact Bool.false_ne_true
 refine call_meets F.slot_list_extend ⟨_,e,rfl⟩ F.entry_list_extend (F.args_list_extend_2 _ _)
  (AutoSeq1.list_extend_list_list_0 l its.toArray n b its2.toArray n2 hlong (by rw[List.size_toArray];omega) (by omega)) ⟨e,e2,?_⟩
 refine⟨.non,_,I.lset (its':=its++its2) hH e (by simp) (r.append r2) ?_,rfl,q⟩
 rw[List.length_append]
 omega
def rCat:R2:=fun x y H Q=>∃ l b xs zs,x=.ref l∧y=.ref b∧H l=some (.lst xs)∧H b=some (.lst zs)∧xs.length+zs.length≤sizeLine∧∀ p,H p=none→Q (.ref p) (upd H p (.lst (xs++zs)))
theorem op_cat:OpR X (binaryOp .Add) rCat:=by
 intro pins s σ H x y v u Q I rx ry h
 obtain⟨l,b,xs,zs,rfl,rfl,hH,hB,hz,q⟩:=h
 cases rx
 cases ry
 obtain⟨z,its,n,r,hl,e⟩:=I.lstM hH
 obtain⟨z2,its2,n2,r2,hl2,e2⟩:=I.lstM hB
 refine PySem.P.add_list e e2 ?_ (by rw[List.size_toArray,List.size_toArray];omega)
 have ea:its.toArray++its2.toArray=(its++its2).toArray:=by simp
 rw[ea]
 exact⟨.ref _,_,I.lnew (t':=s.toks) (r.append r2) (by rw[List.length_append];omega),rfl,q _ I.fresh⟩
def rRep:R2:=fun x y H Q=>∃ l k xs,x=.ref l∧y=.int k∧H l=some (.lst xs)∧-(2 ^ 63)≤k∧k < 2 ^ 63∧xs.length * k.toNat≤sizeLine ∧
 ∀ p,H p=none→Q (.ref p) (upd H p (.lst (List.replicate k.toNat xs).flatten))
theorem len_rep {α:Type} (xs:List α) (k:Nat):(List.replicate k xs).flatten.length=k * xs.length:=by
 induction k with
 | zero=>simp
 | succ k ih=>rw[List.replicate_succ,List.flatten_cons,List.length_append,ih,Nat.succ_mul,Nat.add_comm]
theorem op_rep:OpR X (binaryOp .Mult) rRep:=by
 intro pins s σ H x y v u Q I rx ry h
 obtain⟨l,k,xs,rfl,rfl,hH,h1,h2,hz,q⟩:=h
 cases rx
 obtain⟨t,rfl⟩:=ry
 obtain⟨z,its,n,r,hl,e⟩:=I.lstM hH
 have hlen:its.toArray.size * k.toNat≤sizeLine:=by rw[List.size_toArray,← hl];exact hz
 have hcap:¬ its.toArray.size * k.toNat > (2 ^ 63 - 1) / 8:=by
  have:(sizeLine:Nat)≤(2 ^ 63 - 1) / 8:=by decide
  omega
 have hfit:¬ (!Builtin.List.listFitsIndex k)=true:=by
  rw[fitsIndex_both h1 h2]
  exact Bool.false_ne_true
 have hlong:¬ Builtin.List.listTooLong (its.toArray.size * k.toNat)=true:=by
  rw[notLongL hlen]
  exact Bool.false_ne_true
 have hnew:List.foldl (fun x1 x2=>x1++x2) #[] (List.replicate (if its.toArray.isEmpty=true then 0 else k.toNat) its.toArray)=(List.replicate k.toNat its).flatten.toArray:=by
  have f0:∀ m:Nat,List.foldl (fun x1 x2=>x1++x2) #[] (List.replicate m its.toArray)=(List.replicate m its).flatten.toArray:=fun m=>by
   have:=foldl_rep its m []
   rw[List.nil_append] at this
   exact this
  rw[f0]
  cases its with
  | nil=>simp
  | cons a r'=>rw[if_neg (by simp)]
 refine wpAny_binaryOp_repeat_ref (T:="list") (U:="int") (by decide) ⟨_,e,rfl⟩ (fun s'=>typeIs_int s' k t) noFill_list_mul F.fills_int_mul F.slot_int_rmul repeat_list F.slot_int_index.lookup
  (call_meets F.slot_int_rmul (typeIs_int s k t) F.entry_int_rmul (F.args_int_rmul_2 _ _) (int___rmul___int_list k t l its.toArray n)
   ⟨e,rfl,⟨_,e,rfl⟩,call_meets F.slot_list_mul ⟨_,e,rfl⟩ F.entry_list_mul (F.args_list_mul_2 _ _) (AutoListH.list___mul___list_int_3 l its.toArray n k t hfit hcap hlong) ⟨e,?_⟩⟩)
 rw[hnew]
 exact⟨.ref _,_,I.lnew (t':=s.toks) (r.rep k.toNat) (by rw[len_rep,Nat.mul_comm];exact hz),rfl,q _ I.fresh⟩
end
section
variable {prog:Program} {w:World} {A:Around} {E:Value→Shared→Prop} {s:Shared}
set_option maxRecDepth 100000 in
end
section
variable {X:Cx}
end
end L2
namespace Att
open PySem PySem.W PySem.Calls PyProof.Rows
theorem ints_of_wellAll {P:Params} {h:Heap}:∀(ns:List Int) (vs:List Value),WellAll P h vs (ns.map WData.int)→IntsAre vs ns:=by
 intro ns
 induction ns with
 | nil =>
  intro vs w
  rw[List.map_nil] at w
  cases w
  exact .nil
 | cons n ns ih =>
  intro vs w
  rw[List.map_cons] at w
  cases w with
  | cons a b =>
   cases a
   exact .cons _ _ (ih _ b)
theorem script_of {l:OpenLaw} {n:Nat} (hn:l.most=some n) {P:Params} {h:Heap} {args:List WData} {vals:List Value}
  (hpre:l.row.toRowW.claim.pre args=true) (hwl:WellAll P h vals args) :
  ∃ a vs ns,vals=[Value.ref a]∧args=[WData.list (ns.map WData.int)]∧h.get? a=some { cls:=.type "list",data:=.seq vs.toArray }∧IntsAre vs ns∧ns.length≤n:=by
 have hsh:WShape.hasAll [] args [.list .int]=true:=(pre_splitW hpre).1
 have hc:l.pre.holds [] { args:=args }=true:=(pre_splitW hpre).2
 obtain⟨d,r,rfl,h1,h2⟩:=hasAllW_cons hsh
 obtain rfl:=hasAllW_nil h2
 obtain⟨xs,rfl,h3⟩:=hasW_list h1
 obtain⟨ns,rfl⟩:=items_int h3
 have hlen:ns.length≤n:=by
  unfold OpenLaw.pre at hc
  have h4:(WTm.not (.lt (.lit (.int (n:Int))) (.len (.arg 0)))).holds [] { args:=[.list (ns.map .int)] }=true:=by
   have h4:=(holds_andW hc).1
   rw[hn] at h4
   exact h4
  have h5:=condW_of h4 (w_not (w_lt w_lit (w_len_list (w_arg rfl))))
  rw[List.length_map] at h5
  refine Nat.le_of_not_lt fun q=>?_
  have q':(n:Int) < ((ns.length:Nat):Int):=by omega
  first
   | (rw[decide_eq_true q'] at h5;exact absurd h5 (by decide))
   | (simp at h5;omega)
 cases hwl with
 | cons w1 w2 =>
  cases w2
  cases w1 with
  | list ho hall=>exact⟨_,_,ns,rfl,rfl,ho,ints_of_wellAll ns _ hall,hlen⟩
theorem post_true (l:OpenLaw) (args:List WData):l.row.toRowW.claim.post args (.bool true) args=true :=
 postW_of (r:=l.row.toRowW) (X:=(true == true))
  (show WShape.has [] (.bool true) .bool=true by first | rfl | decide | simp[WShape.has,WShape.arms,WShape.armsAll])
  (show (WTm.eq .res (.lit (.bool true))).value [] { args:=args,res:=some (.bool true),after:=args }=some (.bool (true == true)) from w_eq_bool (w_res rfl) w_lit) rfl
theorem attach_call {l:OpenLaw} {n:Nat} {q:Program} {loose:List Str} {XP:(Str→Option Value)→Heap→Prop} {YP:World→Heap→Prop} {d:DefRec}
  (hn:l.most=some n) (hdf:d.params.defaults=[])
  (call:∀(w:World) (s₀ s₁:Shared) (mg mb:Str→Option Value) (fa:Addr) (o:Obj) (pm cd doc:Value) (a:Addr) (vs:List Value) (ns:List Int),
   Ground q loose [] XP w s₀ mg mb s₁.heap→YP w s₁.heap →
   s₁.heap.get? fa=some o→o.data=.func (docDef d.name d.params d.body d.scope pm cd doc)→s₁.heap.CodeRec cd d.name→mg d.name=some (.ref fa) →
   s₁.heap.get? a=some { cls:=.type "list",data:=.seq vs.toArray }→IntsAre vs ns→ns.length≤n→s₁.gens=#[] →
   codeAny (model l.prog w) callerA (.call (.ref fa) ⟨[.ref a],[]⟩) (fun r s'=>r=.ok (.ret (.bool true))∧OldK s₁.heap s'.heap∧s'.os=s₁.os∧AllBare s'.gens) s₁) :
  WalkO q loose XP YP l.row.toRowW d [] (fun f vs=>PySem.call f vs):=by
 intro w s₀ s₁ mg mb G Y fa o pm cd doc dV kV ho hd hcd hD hmg hg args vals as hpre hlay hrd hwl hlo
 obtain rfl:dV=.none:=Dflts.none hD hdf
 obtain rfl:kV=.none:=Dflts.noKw hD
 obtain⟨a,vs,ns,rfl,rfl,hobj,hints,hlen⟩:=script_of hn hpre hwl
 refine enter_call (codeAny_mono (call w s₀ s₁ mg mb fa o pm cd doc a vs ns G Y ho (fd_plain hd) hcd hmg hobj hints hlen hg) fun r s' hq=>?_)
 obtain⟨rfl,h2,h3,h4⟩:=hq
 exact⟨.inl ⟨.bool true,.bool true,[],rfl,fun _=>rfl,.bool true,post_true l _,fun _=>⟨List.Pairwise.nil,fun _ hm=>(nomatch hm)⟩⟩,h2,h3,h4⟩
section
variable {prog:Program} {w:World} {A:Around} {E:Value→Shared→Prop} {s:Shared} {K:Frag}
end
end Att
namespace L2
open PySem PySem.Spec PyProof.Rows
theorem vals_ints:∀{vs:List Value} {ns:List Int},IntsAre vs ns→Vals (ns.map V.int) vs
 | _,_,.nil=>.nil
 | _,_,.cons n t h=>.cons ⟨t,rfl⟩ (vals_ints h)
def Only (H:Hp):Prop:=∀ b,H b=none∨∃ o xs,H b=some (.frz o (.lst xs))
theorem law_call {P:Program} {w:World} {K:PySem.W.Frag} {mg mb:Str→Option Value} {CX:CXT} {k:Nat} {fa a:Addr} {fd:FuncData} {x:Str} {sp:Sp} {s₁:Shared} {vs:List Value} {ns:List Int}
  (KX:K.In s₁.heap) (hns:s₁.heap.Ns mainGlobals mg) (hb:s₁.heap.Ns builtinsNs mb) (hbb:∀ x:Str,x≠"__name__"→mb x=bootBuiltins x) (hlim:s₁.heap.NoLimit) (hg:s₁.gens=#[])
  (ha:s₁.heap.get? a=some { cls:=.type "list",data:=.seq vs.toArray }) (hi:IntsAre vs ns) (hl:ns.length≤sizeLine) (hr:Room k callerA)
  (F:∀ base:Heap,K.In base→base.Ns mainGlobals mg→FnOk P w K mg base CX k fa fd [x] sp) (hbind:∀(s:Shared) (u:Value),BindsTo s fd ⟨[u],[]⟩ [(x,u)])
  (hsp:∀ H:Hp,Only H→SqL K H a (ns.map V.int)→sp [.ref a] H (fun v _=>v=.bl true) fun _ _ _=>False)
  (hCX:∀ H e s',CX [] H s₁ (fun _ _ _=>False) e s'→False) :
  codeAny (model P w) callerA (.call (.ref fa) ⟨[.ref a],[]⟩) (fun r s'=>r=.ok (.ret (.bool true))∧OldK s₁.heap s'.heap∧s'.os=s₁.os∧AllBare s'.gens) s₁:=by
 have rv:=vals_ints hi
 have lenV:=hi.length
 -- from an abstract heap in which nothing but the script may be tracked
 have core:∀ H:Hp,Only H→SqL K H a (ns.map V.int)→HOk P w H s₁.heap→(∀ b,H b≠none→b=a)→(H a≠none→K.lookup a=none) →
   codeAny (model P w) callerA (.call (.ref fa) ⟨[.ref a],[]⟩) (fun r s'=>r=.ok (.ret (.bool true))∧OldK s₁.heap s'.heap∧s'.os=s₁.os∧AllBare s'.gens) s₁:=by
  intro H hO hS hok hA hK
  have base_of:∀{b:Addr} {o:Obj},s₁.heap.get? b=some o→H b=none→(hidT s₁.heap H).get? b=some o:=fun e n=>hidT_get e n
  have noA:∀{b:Addr} {o:Obj} {es:Array DictEntry} {ep:Nat},s₁.heap.get? b=some o→o.data=.dict es ep→H b=none:=fun{b o es ep} e d=>by
   cases q:H b with
   | none=>rfl
   | some u =>
    have e':b=a:=hA b (by rw[q];simp)
    subst e'
    rw[ha] at e;cases e
    have d':Data.seq vs.toArray _=Data.dict es ep:=d
    cases d'
  have nsK:∀{b:Addr} {m:Str→Option Value},s₁.heap.Ns b m→(hidT s₁.heap H).Ns b m:=fun{b m} ⟨o,es,ep,e,d,r⟩=>⟨o,es,ep,base_of e (noA e d),d,r⟩
  have hKb:K.In (hidT s₁.heap H):=fun b o e=>base_of (KX b o e) (by
   cases q:H b with
   | none=>rfl
   | some u =>
    have e':b=a:=hA b (by rw[q];simp)
    subst e'
    rw[hK (by rw[q];simp)] at e;cases e)
  have hM:Mod K mg (hidT s₁.heap H):=⟨hKb,nsK hns,⟨mb,nsK hb,hbb⟩,let ⟨mc,h1,h2⟩:=hlim;⟨mc,nsK h1,h2⟩⟩
  have e0:Env0 P w K mg (hidT s₁.heap H) callerA [] s₁ H:=⟨rfl,hM,fun b o e=>of_hidT e,Nat.le_of_eq (hidT_size _ _),trivial,fun b hb=>absurd (show b∈([]:List Addr) from hb) (by simp),hok,.of_eq hg⟩
  refine codeAny_mono ((F _ hKb (nsK hns)).run callerA [] s₁ H ⟨[.ref a],[]⟩ [.ref a] [.ref a] _ _ hr e0 (hbind s₁ (.ref a)) (.cons rfl .nil) (hsp H hO hS)) fun r s' h=>?_
  cases r with
  | error e=>exact(hCX H e s' h).elim
  | ok fl =>
   cases fl with
   | next=>exact False.elim h
   | brk=>exact False.elim h
   | cont=>exact False.elim h
   | ret u =>
    obtain⟨v,H',os,bare,un,hok',r',q⟩:=h
    have q':v=.bl true:=q
    subst q'
    obtain rfl:u=Value.bool true:=r'
    refine⟨rfl,OldK.of_keep fun b o e=>?_,os,bare⟩
    cases q:H b with
    | none=>exact un.keep b o e q (by intro z;exact absurd (show b∈([]:List Addr) from z) (by simp)) (by simp)
    | some u =>
     rcases hO b with z | ⟨ob,xs,z⟩
     ·rw[q] at z;cases z
     ·have z2:=un.frzs b ob _ z
      obtain⟨e1,_⟩:=hok b _ z
      obtain⟨e2,_⟩:=hok' b _ z2
      rw[e] at e1;cases e1
      exact e2
 cases hk:K.lookup a with
 | some o =>
  -- the script is one of the module's own objects
  have e:=KX a o hk
  rw[ha] at e
  cases e
  refine core (fun _=>none) (fun _=>.inl rfl) (.inr ⟨_,vs.toArray,_,hk,rfl,rfl,rfl,by rw[List.size_toArray,lenV];exact hl,by simpa using rv⟩) (fun b u z=>by have z':(none:Option HO)=some u:=z;cases z') (fun b z=>absurd rfl z) fun z=>absurd rfl z
 | none =>
  refine core (fun b=>if b=a then some (.frz { cls:=.type "list",data:=.seq vs.toArray } (.lst (ns.map V.int))) else none) (fun b=>?_) (.inl (.inr ⟨{ cls:=.type "list",data:=.seq vs.toArray },if_pos rfl⟩)) (fun b u z=>?_) (fun b z=>?_) fun _=>hk
  ·by_cases hb:b=a
   ·exact .inr ⟨_,_,if_pos hb⟩
   ·exact .inl (if_neg hb)
  ·by_cases hb:b=a
   ·have z':=(if_pos hb).symm.trans z
    cases z'
    subst hb
    exact⟨ha,by rw[List.length_map];exact hl,vs,_,rv,ha⟩
   ·have z':=(if_neg hb).symm.trans z
    cases z'
  ·by_cases hb:b=a
   ·exact hb
   ·exact absurd (if_neg hb) z
end L2
namespace L2
open PySem PySem.Spec PyProof.Rows
theorem walk_of {l:PySem.W.OpenLaw} {n k:Nat} {q:Program} {loose:List Str} {XP:(Str→Option Value)→Heap→Prop} {YP:World→Heap→Prop} {d:DefRec} {K:Params→PySem.W.Frag} {CX:World→CXT} {sp:World→Sp} {x:Str}
  (hn:l.most=some n) (hn2:n≤sizeLine) (hdf:d.params.defaults=[]) (hr:Room k callerA)
  (hY:∀(w:World) (h:Heap),YP w h→(K w.params).In h)
  (F:∀(w:World) (mg:Str→Option Value) (fa:Addr) (h:Heap),(K w.params).In h→h.Ns mainGlobals mg→mg d.name=some (.ref fa) →
   ∃ fd:FuncData,(∀(s:Shared) (u:Value),BindsTo s fd ⟨[u],[]⟩ [(x,u)]) ∧
    ∀ base:Heap,(K w.params).In base→base.Ns mainGlobals mg→FnOk l.prog w (K w.params) mg base (CX w) k fa fd [x] (sp w))
  (hsp:∀(w:World) (H:Hp) (a:Addr) (ns:List Int),ns.length≤n→Only H→SqL (K w.params) H a (ns.map V.int)→sp w [.ref a] H (fun v _=>v=.bl true) fun _ _ _=>False)
  (hCX:∀(w:World) (H:Hp) (s:Shared) (e:Value) (s':Shared),CX w [] H s (fun _ _ _=>False) e s'→False) :
  PySem.W.WalkO q loose XP YP l.row.toRowW d [] (fun f vs=>PySem.call f vs):=by
 refine Att.attach_call hn hdf fun w s₀ s₁ mg mb fa o pm cd doc a vs ns G Y ho hd hcd hmg hobj hints hlen hg=>?_
 have KX:=hY w _ Y
 obtain⟨fd,hb,hF⟩:=F w mg fa _ KX G.T.g hmg
 exact law_call KX G.T.g G.T.b G.T.builtins G.T.nolimit hg hobj hints (Nat.le_trans hlen hn2) hr hF hb (fun H hO hS=>hsp w H a ns hlen hO hS) fun H e s'=>hCX w H s₁ e s'
end L2
/- THE LAST THEOREM (shape;LID,My.* are yours):
  My.Adr: a structure of the addresses that your layer names (classes,functions);My.Txt K t: a structure (Prop) of the equations over K;
  My.txt_mk:{K} {implicit addresses ..} (e1:nsIn K mainGlobals "law"=some (some (.ref f))) (e2:K.lookup f=some ⟨oc,od,.func (fnOf "law" "law" params body scope dV kV doc pm an cdv ct),sl⟩) (e3:codeIn K cdv "law"=true) ..:∃ t,My.Txt K t
set_option maxRecDepth 100000 in
set_option maxHeartbeats 0 in
theorem PySem.Challenge.cw_LID_holds : PySem.Challenge.rw_LID.Holds := by
 w_on;o_law;k_head;(case hw=>w_witness2)
 k_fill
 refine L2.walk_of (l:=PySem.Challenge.rw_LID) (n:=63) (k:=40) (x:="script") (CX:=fun w=>..) (sp:=fun _=>My.sp_law) rfl (by decide) rfl ⟨rfl,by decide,by decide⟩ (fun w h Y=>PySem.W.kIn_of Y) ?F ?S ?C
 case F =>
  intro w mg fa h KX G hmg
  have T:∃ t,My.Txt (L2.KOf KX) t:=by
   dsimp only [L2.KOf]                          -- K must stand as «<heap const> w.params» for k_is
   refine' My.txt_mk ?e1 ?e2 ?e3 ..
   (case e1=>PySem.W.k_is)                    -- in the order: a name -> its address -> its object -> its parts
   (case e2=>PySem.W.k_is)
   ..
  obtain⟨t,T⟩:=T
  have e0:=hmg.symm.trans (PySem.W.mg_of KX G T.law)
  cases e0                                       -- fa is the law's own address
  exact⟨_,fun s u=>.of_eq rfl,fun base kb nb=>My.law_fn T kb nb⟩     -- if «.of_eq rfl» comes too early: refine' ⟨_,?b,fun base kb nb=>My.law_fn T kb nb⟩;exact fun s u=>.of_eq rfl
 case S=>exact fun w H a ns hl hO hS=>..
 case C=>exact ..
(the tactic k_is has no namespace: write k_is) -/
namespace L2
open PySem PySem.Spec PyProof.Rows
def inClass (s:Stmt) (j:Nat):Stmt:=match s with
 | .ClassDef _ _ _ body _ _ _ _ _ _ _=>body.getD j (.Pass ⟨0,0,0,0⟩)
 | _=>.Pass ⟨0,0,0,0⟩
def jm_ (s:Stmt):Arguments:=match s with
 | .FunctionDef _ a _ _ _ _ _ _ _ _=>a
 | _=>{ posonlyargs:=[],args:=[],vararg:=none,kwonlyargs:=[],kw_defaults:=[],kwarg:=none,defaults:=[] }
def jl_ (s:Stmt):List Stmt:=match s with
 | .FunctionDef _ _ b _ _ _ _ _ _ _=>b
 | _=>[]
def jf_ (s:Stmt):Scope:=match s with
 | .FunctionDef _ _ _ _ _ _ sc _ _ _=>sc
 | _=>{ kind:=.function,names:=[],isGenerator:=false,isCoroutine:=false }
abbrev CX0:CXT:=fun _ _ _ _ _ _=>False
abbrev E0:XK:=fun _ _ _=>False
theorem pass0 {X:Cx}:Passes CX0 X E0:=fun _ _ _ _ _ _ _ h=>h.elim
structure Fun (K:PySem.W.Frag) (x qual:Str) (st:Stmt) (f:Addr) (fd:FuncData):Prop where
 ex:∃(oc:Value) (od:Option Addr) (kV doc pm:Value) (an:Option Addr) (cdv ct:Value) (osl:Array (Option Value)),
  fd=PySem.W.fnOf x qual (jm_ st) (jl_ st) (jf_ st) .none kV doc pm an cdv ct∧K.lookup f=some ⟨oc,od,.func fd,osl⟩∧PySem.W.codeIn K cdv qual=true
 kp:PySem.W.keepIn K (.ref f)=true
section
variable {P:Program} {w:World} {K:PySem.W.Frag} {mg:Str→Option Value} {base:Heap}
theorem Fun.ok {x qual:Str} {st:Stmt} {f:Addr} {fd:FuncData} {N ps:List Str} {k:Nat} {sp:Sp} (F:Fun K x qual st f fd) (S:FnScope N ps (jf_ st)) (len:∀ vs H Q E,sp vs H Q E→vs.length=ps.length)
  (hbody:∀(cdv:Value) (A:Around) (outer:List Env) (s:Shared) (H:Hp) (vs:List V) (Q:VK) (E:XK),Room k (A.deeper (envOfC qual (jf_ st) s.heap.objs.size f cdv))→sp vs H Q E →
   ∃ t,PSs (cxOf CX0 P w K mg base N qual (jf_ st) f cdv A outer s H E).nox (jl_ st) t∧t { nx:=fun _ H'=>Q .non H',rt:=Q } (jz_ N vs) H):FnOk P w K mg base CX0 (k+1) f fd ps sp:=by
 obtain⟨oc,od,kV,doc,pm,an,cdv,ct,osl,rfl,lk,hcd⟩:=F.ex
 refine fn_of lk hcd S len fun A outer s H vs Q E hr hsp=>?_
 obtain⟨t,h,q⟩:=hbody cdv A outer s H vs Q E hr hsp
 exact⟨t,h.nox,q⟩
theorem Fun.binds {x qual:Str} {st:Stmt} {f:Addr} {fd:FuncData} {ps:List Str} (F:Fun K x qual st f fd)
  (h:∀(kV doc pm:Value) (an:Option Addr) (cdv ct:Value) (us:List Value),us.length=ps.length→bindArgs (PySem.W.fnOf x qual (jm_ st) (jl_ st) (jf_ st) .none kV doc pm an cdv ct) ⟨us,[]⟩=pure (ps.zip us)):Binds K fd ps []:=by
 obtain⟨oc,od,kV,doc,pm,an,cdv,ct,osl,rfl,lk,hcd⟩:=F.ex
 exact .all (h kV doc pm an cdv ct)
theorem jx_ {x qual:Str} {st:Stmt} {f:Addr} {oc:Value} {od an:Option Addr} {osl:Array (Option Value)} {kV doc pm cdv ct:Value} (l:K.lookup f=some ⟨oc,od,.func (PySem.W.fnOf x qual (jm_ st) (jl_ st) (jf_ st) .none kV doc pm an cdv ct),osl⟩)
  (c:PySem.W.codeIn K cdv qual=true) (k:PySem.W.keepIn K (.ref f)=true):Fun K x qual st f (PySem.W.fnOf x qual (jm_ st) (jl_ st) (jf_ st) .none kV doc pm an cdv ct):=⟨⟨oc,od,kV,doc,pm,an,cdv,ct,osl,rfl,l,c⟩,k⟩
end
theorem hu_of {A:Around} {k:Nat} (hr:Room k A):A.units+1 < cLine:=Nat.lt_of_le_of_lt (Nat.add_le_add_left (by decide:1≤64) _) hr.units
section
variable {X:Cx}
theorem pv (i:Nat) {x:Str} {pos:Pos} (hN:X.N[i]?=some x:=by rfl) (hv:Vis X.env.scope x:=by first | exact Or.inl rfl | exact Or.inr (Or.inl rfl) | exact Or.inr (Or.inr rfl)) (hd:(x == ("__debug__":Str))=false:=by decide)
  (hcd:(x == ("__classdict__":Str))=false:=by decide):PE X (.Name x pos) (tVar i):=pe_var hN hv hd hcd
end
theorem iteF {A B:Prop} (h:B):if false=true then A else B:=by
 rw[if_neg Bool.false_ne_true]
 exact h
theorem iteT {A B:Prop} (h:A):if true=true then A else B:=by
 rw[if_pos rfl]
 exact h
def Same (H H':Hp):Prop:=∀ b o,H b=some o→H' b=some o
theorem Same.refl (H:Hp):Same H H:=fun _ _ h=>h
theorem Same.trans {H H1 H2:Hp} (a:Same H H1) (b:Same H1 H2):Same H H2:=fun c o h=>b c o (a c o h)
theorem Same.free {H H':Hp} (e:Same H H') {l:Addr} (h:H' l=Option.none):H l=Option.none:=by
 cases q:H l with
 | none=>rfl
 | some o =>
  rw[e l o q] at h
  cases h
theorem Same.seq {K:PySem.W.Frag} {H H':Hp} {a:Addr} {xs:List V} (e:Same H H') (h:SqL K H a xs):SqL K H' a xs:=by
 rcases h with (h | ⟨o,h⟩) | h
 ·exact .inl (.inl (e _ _ h))
 ·exact .inl (.inr ⟨o,e _ _ h⟩)
 ·exact .inr h
end L2
namespace L2
open PySem
def clTo (cells:List (Str×Addr)):List (Str×NameKind)→List (Str×Addr)→List (Str×Addr)
 | [],acc=>acc
 | (n,k)::r,acc=>if k == .free then clTo cells r ((n,(cells.lookup n).getD 0)::acc) else clTo cells r acc
theorem closureFor_to {scope:Scope} {env:Env} (h:∀ y∈scope.names,y.2=.free→∃ c,env.cells.lookup y.1=some c) :
  closureFor scope env=pure (clTo env.cells scope.names []):=by
 simp only[closureFor]
 generalize ([]:List (Str×Addr))=acc
 revert h
 generalize scope.names=l
 intro h
 have key:∀(l:List (Str×NameKind)) (acc:List (Str×Addr)),(∀ y∈l,y.2=.free→∃ c,env.cells.lookup y.1=some c) →
   (forIn l acc (fun x r=>if (x.snd == NameKind.free)=true then do
      let a ← cellOf env x.fst
      pure (ForInStep.yield ((x.fst,a)::r)) else pure (ForInStep.yield r)):Sem _)=pure (clTo env.cells l acc):=by
  intro l
  induction l with
  | nil=>intro acc _;rfl
  | cons y l ih =>
   intro acc h
   obtain⟨n,k⟩:=y
   rw[List.forIn_cons]
   have hr:=fun y hy=>h y (List.mem_cons_of_mem _ hy)
   by_cases hk:(k == NameKind.free)=true
   ·obtain⟨c,hc⟩:=h (n,k) List.mem_cons_self (by simpa using hk)
    have hc':env.cells.lookup n=some c:=hc
    have e1:cellOf env n=pure c:=by unfold cellOf;rw[hc']
    simp only[hk,if_true,e1,clTo,hc',Option.getD_some,pure_bind]
    exact ih _ hr
   ·simp only[Bool.not_eq_true] at hk
    simp only[hk,Bool.false_eq_true,if_false,clTo,pure_bind]
    exact ih _ hr
 rw[key l acc h]
 rfl
theorem clTo_free {cells:List (Str×Addr)} {x:Str}:∀(l:List (Str×NameKind)) (acc:List (Str×Addr)),((x,NameKind.free)∈l∨acc.lookup x=some ((cells.lookup x).getD 0)) →
  (clTo cells l acc).lookup x=some ((cells.lookup x).getD 0)
 | [],acc,h=>by
  rcases h with h | h
  ·cases h
  ·exact h
 | (n,k)::r,acc,h=>by
  unfold clTo
  by_cases hk:(k == NameKind.free)=true
  ·rw[if_pos hk]
   refine clTo_free r _ ?_
   by_cases e:x=n
   ·subst e;right;simp
   ·rcases h with h | h
    ·left
     rcases List.mem_cons.mp h with h | h
     ·injection h with h1 _;exact absurd h1 e
     ·exact h
    ·right
     rw[List.lookup_cons,beq_eq_false_iff_ne.mpr e];exact h
  ·rw[if_neg hk]
   refine clTo_free r _ ?_
   rcases h with h | h
   ·left
    rcases List.mem_cons.mp h with h | h
    ·injection h with _ h2;rw[← h2] at hk;exact absurd rfl hk
    ·exact h
   ·exact .inr h
theorem clTo_of {cells:List (Str×Addr)} {x:Str} {c:Addr}:∀(l:List (Str×NameKind)) (acc:List (Str×Addr)),(clTo cells l acc).lookup x=some c →
  acc.lookup x=some c∨((x,NameKind.free)∈l∧c=(cells.lookup x).getD 0)
 | [],acc,h=>.inl h
 | (n,k)::r,acc,h=>by
  unfold clTo at h
  by_cases hk:(k == NameKind.free)=true
  ·rw[if_pos hk] at h
   rcases clTo_of r _ h with q | ⟨q1,q2⟩
   ·by_cases e:x=n
    ·subst e
     rw[List.lookup_cons,beq_self_eq_true] at q
     have hk':k=.free:=by simpa using hk
     subst hk'
     exact .inr ⟨List.mem_cons_self,(Option.some.inj q).symm⟩
    ·rw[List.lookup_cons,beq_eq_false_iff_ne.mpr e] at q
     exact .inl q
   ·exact .inr ⟨List.mem_cons_of_mem _ q1,q2⟩
  ·rw[if_neg hk] at h
   rcases clTo_of r _ h with q | ⟨q1,q2⟩
   ·exact .inl q
   ·exact .inr ⟨List.mem_cons_of_mem _ q1,q2⟩
section
variable {prog:Program} {w:World} {A:Around}
 {R:Result→Shared→Prop} {s:Shared}
theorem compLoop_any {M:Model} (hM:M=model prog w) {elt target iter:Expr} {ifs:List Expr} {scope:Scope} {pos:Pos} {it acc:Value} {env:Env} (I:Nat→Shared→Prop)
  (turn:∀ n s,I n s→wpAny M A (pyNext it) (fun r z₁=>match r with
   | none=>R (.ok .next) z₁
   | some v=>wpAny M A (letOwnedTupleGo target it v) (fun _ z₀=>wpAny M A (assign target env v) (fun _ z₂ =>
     wpAny M A (forIn ifs true fun c r=>if r=true then do let ok ← isTrue c env (eval c env);pure (ForInStep.yield ok) else pure (ForInStep.yield r)) (fun ok z₃ =>
      if ok=true then wpAny M A (eval elt env) (fun x z₄ =>
       wpAny M A (call (.builtin "list.append") [acc,x]) (fun _ z₅=>∃ m,m < n∧I m z₅) (notedBy M A env fun e s'=>R (.error e) s') z₄) (notedBy M A env fun e s'=>R (.error e) s') z₃
      else ∃ m,m < n∧I m z₃) (notedBy M A env fun e s'=>R (.error e) s') z₂) (notedBy M A env fun e s'=>R (.error e) s') z₀) (notedBy M A env fun e s'=>R (.error e) s') z₁) (notedBy M A env fun e s'=>R (.error e) s') s)
  (n:Nat) (h:I n s) :
  codeAny M A (.compLoop (.ListComp elt [⟨target,iter,ifs,0⟩] scope pos) 0 it acc env) R s:=by
 subst hM
 refine codeAny_loop rfl I (fun k z hz=>?_) n h
 show wpAny _ A (Sem.onRaise (compTurn (.ListComp elt [⟨target,iter,ifs,0⟩] scope pos) 0 it acc env) _) _ _ z
 rw[compTurn_list]
 refine wpAny_noted (wpAny_bind (wpAny_standAt (wpAny_bind (wpAny_mono (turn k z hz) (fun r z1 g1=>?_) fun _ _ e=>e))))
 match r,g1 with
 | none,g1=>exact wpAny_pure g1
 | some v,g1 =>
  refine wpAny_bind (wpAny_mono g1 (fun _ z2 g2=>wpAny_bind (wpAny_mono g2 (fun _ z3 g3=>wpAny_bind (wpAny_mono g3 (fun b z4 g4=>?_) fun _ _ e=>e)) fun _ _ e=>e)) fun _ _ e=>e)
  match b,g4 with
  | false,g4=>exact wpAny_pure ⟨rfl,g4⟩
  | true,g4 =>
   refine wpAny_bind (wpAny_bind (wpAny_mono g4 (fun y z5 g5=>wpAny_bind (wpAny_mono g5 (fun _ z6 g6=>?_) fun _ _ e=>e)) fun _ _ e=>e))
   exact wpAny_pure (wpAny_pure ⟨rfl,g6⟩)
end
end L2
namespace L2
open PySem PySem.Spec PyProof.Rows
def pick1 (σ:St):Option Nat→Option V
 | none=>none
 | some j=>match σ[j]? with
  | some (some v)=>some v
  | _=>none
def pick (ix:List (Option Nat)) (σ:St):St:=ix.map (pick1 σ)
theorem pick_get {ix:List (Option Nat)} {σ:St} {i:Nat} {v:V} (h:(pick ix σ)[i]?=some (some v)):∃ j,ix[i]?=some (some j)∧σ[j]?=some (some v):=by
 unfold pick at h
 rw[List.getElem?_map] at h
 cases e:ix[i]? with
 | none=>rw[e] at h;cases h
 | some o =>
  rw[e] at h
  have h':pick1 σ o=some v:=Option.some.inj h
  cases o with
  | none=>cases h'
  | some j =>
   refine⟨j,rfl,?_⟩
   unfold pick1 at h'
   dsimp only at h'
   split at h'
   ·rename_i q;rw[q,h']
   ·cases h'
def cxComp (X:Cx) (pins:List (Addr×Obj)) (scope:Scope) (N':List Str) (fp:List Addr) (s3:Shared) (H3:Hp):Cx where
 prog:=X.prog
 w:=X.w
 K:=X.K
 mg:=X.mg
 base:=X.base
 A:=X.A
 N:=N'
 s₀:=s3
 H₀:=H3
 env:=compEnvC scope (clTo X.env.cells scope.names []) s3.heap.objs.size X.env
 outer:=X.stack
 stack:=X.stack
 ex:=fp
 fn:=fun _=>false
 calm:=X.calm
 pn:=X.pn++pins
 xe:=fun _ _=>False
def linkOk (names:List (Str×NameKind)) (N:List Str):List (Option Nat)→List Str→Bool
 | [],[]=>true
 | none::r,_::q=>linkOk names N r q
 | some j::r,x::q=>N[j]? == some x&&names.lookup x == some .free&&linkOk names N r q
 | _,_=>false
def compOk (sc:Scope) (N:List Str) (scope:Scope) (N':List Str) (ix:List (Option Nat)):Bool :=
 scope.names.all (fun y=>y.2 != .cell)&&scope.names.all (fun y=>y.2 != .local || scope.names.lookup y.1 == some .local)
  && scope.names.all (fun y=>y.2 != .free || (sc.names.lookup y.1 == some .cell || sc.names.lookup y.1 == some .free))&&linkOk scope.names N ix N'
theorem linkOk_len {names:List (Str×NameKind)} {N:List Str}:∀{ix:List (Option Nat)} {N':List Str},linkOk names N ix N'=true→ix.length=N'.length
 | [],[],_=>rfl
 | none::r,_::q,h=>by simp only[linkOk] at h;simp[linkOk_len h]
 | some j::r,x::q,h=>by simp only[linkOk,Bool.and_eq_true] at h;simp[linkOk_len h.2]
 | [],_::_,h=>by simp[linkOk] at h
 | none::_,[],h=>by simp[linkOk] at h
 | some _::_,[],h=>by simp[linkOk] at h
theorem linkOk_get {names:List (Str×NameKind)} {N:List Str}:∀{ix:List (Option Nat)} {N':List Str} {i j:Nat} {x:Str},linkOk names N ix N'=true→ix[i]?=some (some j)→N'[i]?=some x →
  N[j]?=some x∧names.lookup x=some .free
 | [],[],_,_,_,_,e,_=>by simp at e
 | none::r,_::q,0,_,_,_,e,_=>by simp at e
 | none::r,_::q,i+1,_,_,h,e,e'=>by
  simp only[linkOk] at h
  exact linkOk_get h (by simpa using e) (by simpa using e')
 | some j::r,x::q,0,_,_,h,e,e'=>by
  simp only[linkOk,Bool.and_eq_true] at h
  simp at e e'
  subst e;subst e'
  exact⟨by simpa using h.1.1,by simpa using h.1.2⟩
 | some j::r,x::q,i+1,_,_,h,e,e'=>by
  simp only[linkOk,Bool.and_eq_true] at h
  exact linkOk_get h.2 (by simpa using e) (by simpa using e')
 | [],_::_,_,_,_,h,_,_=>by simp[linkOk] at h
 | none::_,[],_,_,_,h,_,_=>by simp[linkOk] at h
 | some _::_,[],_,_,_,h,_,_=>by simp[linkOk] at h
theorem mem_of_lookup {α β:Type} [BEq α] [LawfulBEq α] {x:α} {k:β}:∀{l:List (α×β)},l.lookup x=some k→(x,k)∈l
 | [],h=>by cases h
 | (n,k')::r,h=>by
  rw[List.lookup_cons] at h
  by_cases e:x == n
  ·rw[e] at h
   have e':x=n:=by simpa using e
   cases h
   rw[e'];exact List.mem_cons_self
  ·have e':(x == n)=false:=by simpa using e
   rw[e'] at h
   exact List.mem_cons_of_mem _ (mem_of_lookup h)
theorem relabel_back {env:Env} {x:Str} {k:NameKind}:∀{names:List (Str×NameKind)},(∀ y∈names,y.2≠.cell) →
  (names.map fun(n,k)=>if (k == NameKind.free&&env.scope.kind == .function&&env.kindOf n == some .cell) then (n,NameKind.cell) else (n,k)).lookup x=some k→(k=.cell∨k=.free)→(x,NameKind.free)∈names
 | [],_,h,_=>by cases h
 | (n,k')::r,hc,h,hk=>by
  rw[List.map_cons] at h
  have hc':=fun y hy=>hc y (List.mem_cons_of_mem _ hy)
  have hk':k'≠.cell:=hc (n,k') List.mem_cons_self
  by_cases e:x=n
  ·subst e
   dsimp only at h
   split at h
   ·rename_i q
    rw[List.lookup_cons,beq_self_eq_true] at h
    have:k'=.free:=by simp only[Bool.and_eq_true] at q;simpa using q.1.1
    subst this;exact List.mem_cons_self
   ·rw[List.lookup_cons,beq_self_eq_true] at h
    have hkk:k'=k:=Option.some.inj h
    subst hkk
    rcases hk with z | z
    ·exact absurd z hk'
    ·subst z;exact List.mem_cons_self
  ·have e':(x == n)=false:=beq_eq_false_iff_ne.mpr e
   refine List.mem_cons_of_mem _ (relabel_back (env:=env) hc' ?_ hk)
   dsimp only at h
   split at h
   ·rw[List.lookup_cons,e'] at h;exact h
   ·rw[List.lookup_cons,e'] at h;exact h
theorem relabel_free {env:Env} {x:Str}:∀{names:List (Str×NameKind)},names.lookup x=some .free →
  (names.map fun(n,k)=>if (k == NameKind.free&&env.scope.kind == .function&&env.kindOf n == some .cell) then (n,NameKind.cell) else (n,k)).lookup x=some .cell ∨
  (names.map fun(n,k)=>if (k == NameKind.free&&env.scope.kind == .function&&env.kindOf n == some .cell) then (n,NameKind.cell) else (n,k)).lookup x=some .free
 | [],h=>by cases h
 | (n,k')::r,h=>by
  rw[List.map_cons]
  rw[List.lookup_cons] at h
  by_cases e:x=n
  ·subst e
   rw[beq_self_eq_true] at h
   have hk:k'=.free:=Option.some.inj h
   subst hk
   dsimp only
   split
   ·left;rw[List.lookup_cons,beq_self_eq_true]
   ·right;rw[List.lookup_cons,beq_self_eq_true]
  ·have e':(x == n)=false:=beq_eq_false_iff_ne.mpr e
   rw[e'] at h
   dsimp only
   split
   ·rw[List.lookup_cons,e'];exact relabel_free h
   ·rw[List.lookup_cons,e'];exact relabel_free h
structure CompFacts (X:Cx) (scope:Scope) (N':List Str) (ix:List (Option Nat)):Prop where
 nocell:∀ y∈scope.names,y.2≠.cell
 names:∀ y∈scope.names,y.2=.local→scope.names.lookup y.1=some .local
 free:∀ x,(x,NameKind.free)∈scope.names→X.env.kindOf x=some .cell∨X.env.kindOf x=some .free
 len:ix.length=N'.length
 link:∀{i j:Nat} {x:Str},ix[i]?=some (some j)→N'[i]?=some x→X.N[j]?=some x∧scope.names.lookup x=some .free
theorem compFacts {X:Cx} {scope:Scope} {N':List Str} {ix:List (Option Nat)} (h:compOk X.env.scope X.N scope N' ix=true):CompFacts X scope N' ix:=by
 simp only[compOk,Bool.and_eq_true,List.all_eq_true] at h
 obtain⟨⟨⟨h1,h2⟩,h3⟩,h4⟩:=h
 refine⟨fun y hy=>by simpa using h1 y hy,fun y hy e=>?_,fun x hx=>?_,linkOk_len h4,fun e e'=>linkOk_get h4 e e'⟩
 ·have q:=h2 y hy
  rw[e] at q
  simpa using q
 ·have q:=h3 _ hx
  have q':X.env.scope.names.lookup x=some .cell∨X.env.scope.names.lookup x=some .free:=by simpa using q
  exact q'
section
variable {X:Cx} {pins:List (Addr×Obj)} {σ:St} {H H':Hp} {s s':Shared} {scope:Scope} {N':List Str} {ix:List (Option Nat)} {fp:List Addr}
theorem FpOk.stk {b:Addr} (I:Inv X pins σ H s) (f:FpOk X pins H b):b∉frs X.stack:=fun z=>by
 rcases List.mem_cons.mp (I.stkSub b z) with q | q
 ·exact f.2.1 q
 ·exact f.2.2.1 q
theorem clTo_cell (I:Inv X pins σ H s) (F:CompFacts X scope N' ix) {x:Str} {c:Addr} (h:(clTo X.env.cells scope.names []).lookup x=some c):X.env.cells.lookup x=some c∧(x,NameKind.free)∈scope.names:=by
 rcases clTo_of _ _ h with q | ⟨q1,q2⟩
 ·cases q
 ·obtain⟨c',e⟩:=I.ok.has x (F.free x q1)
  rw[e] at q2
  exact⟨by rw[e,q2];rfl,q1⟩
theorem ok_comp (I:Inv X pins σ H s) (F:CompFacts X scope N' ix) (hk:scope.kind=.function) (hf:∀ b∈fp,FpOk X pins H b) (ho:∀ b∈fp,∃ o,s.heap.get? b=some o):(cxComp X pins scope N' fp s H).Ok where
 mod:=I.ok.mod
 kind:=hk
 glob:=I.ok.glob
 blt:=I.ok.blt
 above:=Nat.le_refl _
 inj:=fun x y c e1 e2=>I.ok.inj x y c (clTo_cell I F e1).1 (clTo_cell I F e2).1
 has:=fun x hx=>by
  have q:(x,NameKind.free)∈scope.names:=by
   rcases hx with z | z
   ·exact relabel_back F.nocell z (.inl rfl)
   ·exact relabel_back F.nocell z (.inr rfl)
  exact⟨_,clTo_free _ _ (.inl q)⟩
 cab:=fun x c e=>by cases e
 hd:=I.ok.hd
 frames:=I.ok.frames
 stk:=.inl rfl
 exf:=fun b hb=>by
  obtain⟨o,e⟩:=ho b hb
  exact⟨Nat.ne_of_lt (Heap.lt_size e),fun x c q=>(hf b hb).2.2.2.2.1 x c (clTo_cell I F q).1⟩
 bs:=fun b o e=>I.bs b o e
 bsz:=Nat.le_trans I.ok.bsz I.sz
 noex:=fun b o e hb=>by
  rcases (hf b hb).2.2.2.1 with z | z
  ·exact I.ok.noex b o e z
  ·exact absurd (Nat.lt_of_lt_of_le (Heap.lt_size (I.ok.bs b o e).1) z) (Nat.lt_irrefl _)
 exfs:=fun b hb=>FpOk.stk I (hf b hb)
 funs:=I.stack
 frf:=I.stkFree
theorem inv_comp {h':Heap} {m:Str→Option Value} {ob:Obj} {t:Nat} (I:Inv X pins σ H s) (F:CompFacts X scope N' ix) (hk:scope.kind=.function) (hf:∀ b∈fp,FpOk X pins H b) (ho:∀ b∈fp,∃ o,s.heap.get? b=some o)
  (hn:h'.Ns s.heap.objs.size m) (hs:Heap.SameBut s.heap.objs.size (s.heap.push ob) h') :
  Inv (cxComp X pins scope N' fp s H) [] (pick ix σ) H { s with heap:=h',toks:=t }:=by
 have k:∀ b u,s.heap.get? b=some u→h'.get? b=some u:=fun b u e =>
  (hs.2 b (Nat.ne_of_lt (Heap.lt_size e))).trans (Heap.get?_push_of_some _ e)
 refine⟨ok_comp I F hk hf ho,rfl,I.bare,Un.kept k,⟨m,hn,fun i x v e1 e2 e3=>?_⟩,fun x c e=>?_,I.fresh,fun x c e=>?_,fun p hp=>?_,I.hok.kept k,?_⟩
 ·obtain⟨j,ej,ev⟩:=pick_get e2
  obtain⟨l1,l2⟩:=F.link ej e1
  have fr:(x,NameKind.free)∈scope.names:=mem_of_lookup l2
  obtain⟨m0,hn0,hl⟩:=I.loc
  have vis:Vis X.env.scope x:=.inr (F.free x fr)
  obtain⟨u,r,l⟩:=hl j x v l1 ev vis
  refine⟨u,r,.inr ⟨relabel_free l2,?_⟩⟩
  rcases l with ⟨l,_⟩ | ⟨_,c,e,z⟩
  ·rcases F.free x fr with q | q
   ·rw[q] at l;cases l
   ·rw[q] at l;cases l
  ·refine⟨c,?_,z.keeps k⟩
   show (clTo X.env.cells scope.names []).lookup x=some c
   rw[clTo_free _ _ (.inl fr),e];rfl
 ·obtain⟨v,z⟩:=I.cell x c (clTo_cell I F e).1
  exact⟨v,z.keeps k⟩
 ·exact I.freeC x c (clTo_cell I F e).1
 ·have hp':p∈X.pn++pins:=by
   have z:p∈(X.pn++pins)++[]:=hp
   rwa [List.append_nil] at z
  obtain⟨e,n,ne,nf,d⟩:=I.pin p hp'
  refine⟨k _ _ e,n,Nat.ne_of_lt (Heap.lt_size e),fun z=>?_,d⟩
  rcases List.mem_cons.mp (I.stkSub p.1 z) with q | q
  ·exact ne q
  ·exact nf q
 ·show (pick ix σ).length=N'.length
  unfold pick;rw[List.length_map];exact F.len
theorem HOk.sameBut {P:Program} {w:World} {h h':Heap} {a:Addr} (ok:HOk P w H h) (hn:H a=none) (hs:Heap.SameBut a h h'):HOk P w H h':=fun b ob e=>by
 refine(ok b ob e).stay (fun c w' hc q=>(hs.2 c ?_).trans q) (fun _ q=>q) fun _ _ q=>q
 rintro rfl
 rcases hc with rfl | hc
 ·rw[hn] at e;cases e
 ·rw[hn] at hc;cases hc
theorem leave_comp {σ':St} {ps:List (Addr×Obj)} {h':Heap} (I:Inv X pins σ H s) (hf:∀ b∈fp,FpOk X pins H b) (I':Inv (cxComp X pins scope N' fp s H) ps σ' H' s') (hs:Heap.SameBut s.heap.objs.size s'.heap h') :
  Inv X pins σ H' { s' with heap:=h' }:=by
 have bk:∀{b o o'},s.heap.get? b=some o→s'.heap.get? b=some o'→h'.get? b=some o':=fun{b o o'} e e'=>(hs.2 b (Nat.ne_of_lt (Heap.lt_size e))).trans e'
 refine I.call' (s':={ s' with heap:=h' }) (ch:=fp) I'.os ⟨fun b o e n hb hx=>?_,fun b o e n hb hx=>?_,I'.base.free,fun b o e hx=>?_,I'.base.tups,I'.base.frzs,I'.base.tbls⟩ (I'.hok.sameBut I'.free hs) I'.bare fun b hb=>⟨(hf b hb).2.2.2.1,(hf b hb).2.1,(hf b hb).2.2.2.2.1,(hf b hb).2.2.2.2.2⟩
 ·exact bk e (I'.base.keep b o e n hb hx)
 ·obtain⟨sl,q⟩:=I'.base.slot b o e n hb hx
  exact⟨sl,bk e q⟩
 ·obtain⟨o',q⟩:=I'.base.there b o e hx
  exact⟨o',bk e q⟩
end
def PTs (X:Cx) (ifs:List Expr) (t:TT):Prop :=
 ∀(pins:List (Addr×Obj)) (s:Shared) (σ:St) (H:Hp) (Q:Bool→Hp→Prop),Inv X pins σ H s→t σ H Q →
  wpAny (model X.prog X.w) X.A (forIn ifs true fun c r=>if r=true then do let ok ← isTrue c X.env (eval c X.env);pure (ForInStep.yield ok) else pure (ForInStep.yield r)) (TP X pins σ Q) X.xe s
def tTrue:TT:=fun _ H Q=>Q true H
theorem pts_nil {X:Cx}:PTs X [] tTrue:=fun _ _ _ H _ I h=>wpAny_tests_nil ⟨H,I,h⟩
theorem pts_one {X:Cx} {c:Expr} {t:TT} (h:PT X c t):PTs X [c] t:=fun pins s σ H Q I q=>wpAny_tests_one (h pins s σ H Q I q)
def CompRuns (J:It) (p:Addr) (g:TG) (tc:TT) (te:TE) (Q:VK) (σ0:St) (H0:Hp):Prop :=
 ∃ W:Nat→Nat→List V→St→Hp→Prop,(∃ m,W 0 m [] σ0 H0)∧∀ i m acc σ' H',W i m acc σ' H'→H' p=some (.lst acc) ∧
  ((J.stop i H'∧Q (.ref p) H')∨(J.go i H'∧acc.length < sizeLine∧∃ N:List V→St→Hp→Prop,(∀ a' σ3 H3,N a' σ3 H3→∃ m',m' < m∧W (i+1) m' a' σ3 H3) ∧
   ∀ x H2,J.yld i H' x H2→g x σ' H2 fun σ3 H3=>tc σ3 H3 fun b H4 =>
    if b=true then te σ3 H4 fun v H5=>H5 p=some (.lst acc)∧N (acc++[v]) σ3 (upd H5 p (.lst (acc++[v]))) else N acc σ3 H4))
def tComp (ix:List (Option Nat)) (wi:TI) (g:TG) (tc:TT) (te:TE):TE:=fun σ H Q=>wi σ H fun J H1=>∀ p,H1 p=none→CompRuns J p g tc te Q (pick ix σ) (upd H1 p (.lst []))
section
variable {X:Cx} {elt tg iter:Expr} {ifs:List Expr} {scope:Scope} {pos:Pos} {N':List Str} {ix:List (Option Nat)} {wi:TI} {g:TG} {tc:TT} {te:TE}
theorem comp_run {use:Option (Value→Sem Unit)} {R:Value→Shared→Prop} {pins:List (Addr×Obj)} {s:Shared} {σ:St} {H:Hp} {Q:VK} (hc:X.calm=true) (ok:compOk X.env.scope X.N scope N' ix=true) (hk:scope.kind=.function)
  (hi:PI X tg iter wi)
  (hg:∀ pins fp s3 H3,PG (cxComp X pins scope N' fp s3 H3) tg g) (ht:∀ pins fp s3 H3,PTs (cxComp X pins scope N' fp s3 H3) ifs tc) (he:∀ pins fp s3 H3,PE (cxComp X pins scope N' fp s3 H3) elt te)
  (hs:∀ x,foldedSetIterable iter X.env x=pure x) (I:Inv X pins σ H s) (h:tComp ix wi g tc te σ H Q)
  (fin:∀(p C:Addr) (H':Hp) (s':Shared),(∃ m,s'.heap.Ns C m)→FpOk X pins H' C→(∀ h',Heap.SameBut C s'.heap h'→Inv X pins σ H' { s' with heap:=h' })→Q (.ref p) H'→compPost (model X.prog X.w) X.A X.xe use R (.ref p) C (.ok .next) s') :
  wpAny (model X.prog X.w) X.A (comprehension (.ListComp elt [⟨tg,iter,ifs,0⟩] scope pos) scope X.env (firstIterPos [⟨tg,iter,ifs,0⟩] pos) (newList []) (firstAsync [⟨tg,iter,ifs,0⟩]) (firstIter [⟨tg,iter,ifs,0⟩] X.env) use) R X.xe s:=by
 have F:=compFacts ok
 refine wpAny_comprehension_free (cl:=clTo X.env.cells scope.names []) rfl hs (closureFor_to fun y hy e=>?_) hk F.names ?_
 ·obtain⟨n,k⟩:=y
  have e':k=.free:=e
  subst e'
  exact I.ok.has n (F.free n hy)
 refine thn (hi pins s σ H _ I h) fun v s1 h1=>thn h1 fun itv s2 h2=>?_
 obtain⟨it,fp,tn,J,H2,e,I2,T,st2,f2,rd⟩:=h2
 subst e
 refine wpAny_newObj_type ?_
 have hp:=I2.fresh
 obtain⟨W,⟨m0,w0⟩,turn⟩:=rd _ hp
 have I3:=I2.lnew (ys:=[]) (its:=[]) (t':=s2.toks) Paired.nil (Nat.zero_le _)
 have hf3:∀ b∈fp,FpOk X pins (upd H2 s2.heap.objs.size (.lst [])) b:=fun b hb=>by
  obtain⟨o,e,_⟩:=T.obj _ _ st2 b hb
  exact⟨by rw[jd_ (Nat.ne_of_lt (Heap.lt_size e))];exact(f2 b hb).1,(f2 b hb).2⟩
 have ho3:∀ b∈fp,∃ o,(s2.heap.push { cls:=.type "list",data:=.seq ([]:List Value).toArray }).get? b=some o:=fun b hb=>by
  obtain⟨o,e,_⟩:=T.obj _ _ st2 b hb
  exact⟨o,Heap.get?_push_of_some _ e⟩
 have hpC:s2.heap.objs.size≠(s2.heap.push { cls:=.type "list",data:=.seq ([]:List Value).toArray }).objs.size:=by
  rw[Heap.size_push];exact Nat.ne_of_lt (Nat.lt_succ_self _)
 refine wpAny_newFunctionEnv F.nocell (by intro y hy;simp at hy) (fun h4 hn4 hs4=>?_) hk
 have I4:=inv_comp (t:=s2.toks+([]:List (Str×Value)).length) I3 F hk hf3 ho3 hn4 hs4
 have k4:∀ b o,s2.heap.get? b=some o→h4.get? b=some o:=fun b o e =>
  (hs4.2 b (Nat.ne_of_lt (Nat.lt_of_lt_of_le (Heap.lt_size e) (by rw[Heap.size_push];exact Nat.le_succ _)))).trans (Heap.get?_push_of_some _ (Heap.get?_push_of_some _ e))
 have st4:tn 0 h4:=T.keep _ _ _ st2 fun b _ o e=>k4 b o e
 have fx:∀{H':Hp} {ps:List (Addr×Obj)},(∀ b∈fp,H' b=none)→(∀ b∈fp,∀ p∈ps,p.1≠b)→∀ b∈fp,FpOk (cxComp X pins scope N' fp { s2 with heap:=s2.heap.push { cls:=.type "list",data:=.seq ([]:List Value).toArray },toks:=s2.toks } (upd H2 s2.heap.objs.size (.lst []))) ps H' b:=fun{H' ps} hn hps b hb=>by
  obtain⟨o,e⟩:=ho3 b hb
  refine⟨hn b hb,Nat.ne_of_lt (Heap.lt_size e),FpOk.stk I3 (hf3 b hb),.inl hb,fun x c q=>(hf3 b hb).2.2.2.2.1 x c (clTo_cell I3 F q).1,fun p hp=>?_⟩
  rcases List.mem_append.mp hp with z | z
  ·exact(hf3 b hb).2.2.2.2.2 p z
  ·exact hps b hb p z
 have loop:codeAny (model X.prog X.w) X.A (.compLoop (.ListComp elt [⟨tg,iter,ifs,0⟩] scope pos) 0 (.ref it) (.ref s2.heap.objs.size) (compEnvC scope (clTo X.env.cells scope.names []) (s2.heap.push { cls:=.type "list",data:=.seq ([]:List Value).toArray }).objs.size X.env))
   (compPost (model X.prog X.w) X.A X.xe use R (.ref s2.heap.objs.size) (s2.heap.push { cls:=.type "list",data:=.seq ([]:List Value).toArray }).objs.size) { s2 with heap:=h4,toks:=s2.toks+([]:List (Str×Value)).length }:=by
  refine compLoop_any rfl (fun n s'=>∃ i acc σ' H',Inv (cxComp X pins scope N' fp { s2 with heap:=s2.heap.push { cls:=.type "list",data:=.seq ([]:List Value).toArray },toks:=s2.toks } (upd H2 s2.heap.objs.size (.lst []))) [] σ' H' s'∧tn i s'.heap∧(∀ b∈fp,H' b=none)∧W i n acc σ' H')
   ?_ m0 ⟨0,[],_,_,I4,st4,fun b hb=>(hf3 b hb).1,w0⟩
  rintro n s5 ⟨i,acc,σ5,H5,I5,st5,fr5,w5⟩
  obtain⟨hacc,alt⟩:=turn i n acc σ5 H5 w5
  rcases alt with ⟨stop,q⟩ | ⟨go,hz,N,hN,step⟩
  ·refine wpAny_mono (T.done (cxComp X pins scope N' fp { s2 with heap:=s2.heap.push { cls:=.type "list",data:=.seq ([]:List Value).toArray },toks:=s2.toks } (upd H2 s2.heap.objs.size (.lst []))) rfl rfl rfl hc i [] s5 σ5 H5 (fun _ _=>False) I5 (fx (ps:=[]) fr5 (fun _ _ _ z=>nomatch z)) st5 stop) (fun r s6 ⟨hr,I6⟩=>?_) fun _ _ f=>f.elim
   subst hr
   refine fin _ _ H5 s6 ?_ (I3.fpOk (Nat.le_refl _) I6.free) (fun h' hs'=>leave_comp I3 hf3 I6 hs') q
   obtain⟨m,hm,_⟩:=I6.loc
   exact⟨m,hm⟩
  ·refine wpAny_mono (T.item (cxComp X pins scope N' fp { s2 with heap:=s2.heap.push { cls:=.type "list",data:=.seq ([]:List Value).toArray },toks:=s2.toks } (upd H2 s2.heap.objs.size (.lst []))) rfl rfl rfl hc i [] s5 σ5 H5 (fun _ _=>False) I5 (fx (ps:=[]) fr5 (fun _ _ _ z=>nomatch z)) st5 go) (fun r s6 ⟨u,hr,h6⟩=>?_) fun _ _ f=>f.elim
   subst hr
   refine wpAny_mono h6 (fun _ s7 ⟨x,H7,I7,r7,y7,st7,fr7⟩=>?_) fun _ _ f=>f.elim
   have I7':=I7.pinned (fx (ps:=[]) fr7 (fun _ _ _ z=>nomatch z)) (T.obj _ _ st7)
   refine wpAny_mono (hg _ _ _ _ _ s7 σ5 H7 x u _ I7' r7 (step x H7 y7)) (fun _ s8 ⟨σ8,H8,I8,q8⟩=>?_) fun _ _ f=>f.elim
   refine wpAny_mono (ht _ _ _ _ _ s8 σ8 H8 _ I8 q8) (fun b s9 ⟨H9,I9,q9⟩=>?_) fun _ _ f=>f.elim
   have keep:∀{σ':St} {H':Hp} {s':Shared},Inv (cxComp X pins scope N' fp { s2 with heap:=s2.heap.push { cls:=.type "list",data:=.seq ([]:List Value).toArray },toks:=s2.toks } (upd H2 s2.heap.objs.size (.lst []))) ([]++pinsAt fp s7.heap) σ' H' s' →
     tn (i+1) s'.heap∧∀ b∈fp,H' b=none:=fun{σ' H' s'} I'=>by
    refine⟨T.keep _ _ _ st7 fun b hb o e=>(I'.pin (b,o) (List.mem_append_right _ (List.mem_append_right _ (mem_pinsAt hb e)))).1,fun b hb=>?_⟩
    obtain⟨o,e,d⟩:=T.obj _ _ st7 b hb
    exact(I'.pin (b,o) (List.mem_append_right _ (List.mem_append_right _ (mem_pinsAt hb e)))).2.1
   cases b with
   | false =>
    rw[if_neg Bool.false_ne_true] at q9 ⊢
    obtain⟨m',hm,w9⟩:=hN _ _ _ q9
    exact⟨m',hm,i+1,acc,σ8,H9,I9.unpinned,(keep I9).1,(keep I9).2,w9⟩
   | true =>
    rw[if_pos rfl] at q9 ⊢
    refine wpAny_mono (he _ _ _ _ _ s9 σ8 H9 _ I9 q9) (fun y s10 ⟨v10,H10,I10,r10,hl10,w10⟩=>?_) fun _ _ f=>f.elim
    refine wpAny_mono (mt_append (X:=(cxComp X pins scope N' fp { s2 with heap:=s2.heap.push { cls:=.type "list",data:=.seq ([]:List Value).toArray },toks:=s2.toks } (upd H2 s2.heap.objs.size (.lst [])))) _ s10 σ8 H10 (.ref s2.heap.objs.size) [v10] (.ref s2.heap.objs.size) [y] (fun _ H'=>N (acc++[v10]) σ8 H') I10 rfl (.cons r10 .nil) ⟨_,acc,v10,rfl,rfl,hl10,hz,w10⟩) (fun _ s11 ⟨_,H11,I11,_,n11⟩=>?_) fun _ _ f=>f.elim
    obtain⟨m',hm,w11⟩:=hN _ _ _ n11
    exact⟨m',hm,i+1,acc++[v10],σ8,H11,I11.unpinned,(keep I11).1,(keep I11).2,w11⟩
 exact codeAny_compStart_list loop (T.self X.A 0 _ _ _ st4 loop)
theorem pe_comp (N':List Str) (ix:List (Option Nat)) (hc:X.calm=true) (ok:compOk X.env.scope X.N scope N' ix=true) (hk:scope.kind=.function) (hi:PI X tg iter wi)
  (hg:∀ pins fp s3 H3,PG (cxComp X pins scope N' fp s3 H3) tg g) (ht:∀ pins fp s3 H3,PTs (cxComp X pins scope N' fp s3 H3) ifs tc) (he:∀ pins fp s3 H3,PE (cxComp X pins scope N' fp s3 H3) elt te)
  (hs:∀ x,foldedSetIterable iter X.env x=pure x:=by intro _;rfl):PE X (.ListComp elt [⟨tg,iter,ifs,0⟩] scope pos) (tComp ix wi g tc te):=by
 intro pins s σ H Q I h
 rw[eval_ListComp]
 refine comp_run hc ok hk hi hg ht he hs I h fun p C H' s' hm fC inv q=>?_
 obtain⟨m,hm⟩:=hm
 exact⟨m,hm,fun h' hs'=>⟨.ref p,H',inv h' hs',rfl,q⟩⟩
theorem ps_setC {i:Nat} {x:Str} {pos' spos:Pos} (N':List Str) (ix:List (Option Nat)) (hc:X.calm=true) (ok:compOk X.env.scope X.N scope N' ix=true) (hk:scope.kind=.function) (hN:X.N.Nodup) (hx1:X.N[i]?=some x) (hx:X.env.scope.names.lookup x=some .local)
  (hi:PI X tg iter wi)
  (hg:∀ pins fp s3 H3,PG (cxComp X pins scope N' fp s3 H3) tg g) (ht:∀ pins fp s3 H3,PTs (cxComp X pins scope N' fp s3 H3) ifs tc) (he:∀ pins fp s3 H3,PE (cxComp X pins scope N' fp s3 H3) elt te)
  (hw:swapsWith (.ListComp elt [⟨tg,iter,ifs,0⟩] scope pos) (some (.Name x pos')) spos.line X.env=pure true:=by rfl)
  (hs:∀ x,foldedSetIterable iter X.env x=pure x:=by intro _;rfl):PS X (.Assign [.Name x pos'] (.ListComp elt [⟨tg,iter,ifs,0⟩] scope pos) spos) (tAsg (tComp ix wi g tc te) (gName i)):=by
 intro pins s σ H D I h
 rw[exec_Assign_Name_used _ _ _ _ hw]
 refine wpAny_bind (wpAny_standAt (wpAny_bind ?_))
 show wpAny _ X.A (do let _ ← comprehension (.ListComp elt [⟨tg,iter,ifs,0⟩] scope pos) scope X.env (firstIterPos [⟨tg,iter,ifs,0⟩] pos) (newList []) (firstAsync [⟨tg,iter,ifs,0⟩]) (firstIter [⟨tg,iter,ifs,0⟩] X.env) (some (assign (.Name x pos') X.env))) _ _ s
 refine wpAny_bind (thn (comp_run (R:=fun _ s'=>∃ σ' H',Inv X pins σ' H' s'∧D.nx σ' H') hc ok hk hi hg ht he hs I h fun p C H' s' hm fC inv q=>?_) fun _ s' ⟨σ',H',I',q⟩=>wpAny_pure (wpAny_pure ⟨σ',H',I',q⟩))
 have inv0:Inv X pins σ H' s':=by
  have:=inv s'.heap ⟨rfl,fun _ _=>rfl⟩
  exact this
 obtain⟨m,hm⟩:=hm
 refine wpAny_assign_Name ?_
 refine store_ok2 (v:=.ref p) inv0 hN hx1 (.inl hx) rfl (fun s'' I'' ⟨a,sb,ha⟩=>?_) (.inr hx)
 have ne:C≠a:=by
  rcases ha with z | z
  ·rw[z];exact fC.2.1
  ·exact fun q=>fC.2.2.2.2.1 x a z q.symm
 refine⟨m,hm.sameBut sb ne,fun h' hs'=>⟨_,H',?_,q⟩⟩
 exact I''.turned (t':=s''.toks) (it:=C) (fun b o hb e=>(hs'.2 b hb).trans e) fC.1 fC.2.1 fC.2.2.2.1 fC.2.2.2.2.1 fC.2.2.2.2.2
end
end L2
namespace L2
open PySem PySem.Spec PyProof.Rows
inductive Dt where
 | non | bl (b:Bool) | int (i:Int) | str (x:Str) | tup (ds:List Dt) | lst (ds:List Dt)
mutual
def Is (H:Hp):V→Dt→Prop
 | v,.non=>v=.non
 | v,.bl b=>v=.bl b
 | v,.int i=>v=.int i
 | v,.str x=>v=.str x
 | v,.tup ds=>∃ a xs,v=.ref a∧H a=some (.tup xs)∧IsL H xs ds
 | v,.lst ds=>∃ a xs,v=.ref a∧H a=some (.lst xs)∧IsL H xs ds
def IsL (H:Hp):List V→List Dt→Prop
 | [],[]=>True
 | x::xs,d::ds=>Is H x d∧IsL H xs ds
 | _,_=>False
end
mutual
def dep:Dt→Nat
 | .tup ds=>depL ds+1
 | .lst ds=>depL ds+1
 | _=>0
def depL:List Dt→Nat
 | []=>0
 | d::ds=>max (dep d) (depL ds)
end
mutual
def wid:Dt→Nat
 | .tup ds=>max ds.length (widL ds)
 | .lst ds=>max ds.length (widL ds)
 | _=>0
def widL:List Dt→Nat
 | []=>0
 | d::ds=>max (wid d) (widL ds)
end
theorem wid_get {ds:List Dt} {i:Nat} {d:Dt} (h:ds[i]?=some d):wid d≤widL ds:=by
 induction ds generalizing i with
 | nil=>simp at h
 | cons e ds ih =>
  simp only[widL]
  cases i with
  | zero=>simp at h;subst h;omega
  | succ i=>have:=ih (by simpa using h);omega
mutual
theorem Is.same {H H':Hp} (h:∀ b o,H b=some o→H' b=some o):∀{d:Dt} {v:V},Is H v d→Is H' v d
 | .non,_,k=>by simp only[Is] at k ⊢;exact k
 | .bl _,_,k=>by simp only[Is] at k ⊢;exact k
 | .int _,_,k=>by simp only[Is] at k ⊢;exact k
 | .str _,_,k=>by simp only[Is] at k ⊢;exact k
 | .tup ds,_,k=>by
  simp only[Is] at k ⊢
  obtain⟨a,xs,e,h1,h2⟩:=k
  exact⟨a,xs,e,h _ _ h1,IsL.same h h2⟩
 | .lst ds,_,k=>by
  simp only[Is] at k ⊢
  obtain⟨a,xs,e,h1,h2⟩:=k
  exact⟨a,xs,e,h _ _ h1,IsL.same h h2⟩
theorem IsL.same {H H':Hp} (h:∀ b o,H b=some o→H' b=some o):∀{ds:List Dt} {xs:List V},IsL H xs ds→IsL H' xs ds
 | [],[],_=>by simp only[IsL]
 | d::ds,x::xs,k=>by
  simp only[IsL] at k ⊢
  exact⟨Is.same h k.1,IsL.same h k.2⟩
 | [],_::_,k=>by simp only[IsL] at k
 | _::_,[],k=>by simp only[IsL] at k
end
theorem IsL.length {H:Hp}:∀{ds:List Dt} {xs:List V},IsL H xs ds→xs.length=ds.length
 | [],[],_=>rfl
 | d::ds,x::xs,k=>by
  simp only[IsL] at k
  simp only[List.length_cons,IsL.length k.2]
 | [],_::_,k=>by simp only[IsL] at k
 | _::_,[],k=>by simp only[IsL] at k
theorem IsL.get {H:Hp}:∀{ds:List Dt} {xs:List V} {i:Nat},IsL H xs ds→i < ds.length→∃ x d,xs[i]?=some x∧ds[i]?=some d∧Is H x d
 | [],_,_,_,h=>by simp at h
 | d::ds,x::xs,0,k,_=>by
  simp only[IsL] at k
  exact⟨x,d,rfl,rfl,k.1⟩
 | d::ds,x::xs,i+1,k,h=>by
  simp only[IsL] at k
  obtain⟨y,e,h1,h2,h3⟩:=IsL.get (i:=i) k.2 (by simpa using h)
  exact⟨y,e,by simpa using h1,by simpa using h2,h3⟩
 | _::_,[],_,k,_=>by simp only[IsL] at k
theorem dep_get {ds:List Dt} {i:Nat} {d:Dt} (h:ds[i]?=some d):dep d≤depL ds:=by
 induction ds generalizing i with
 | nil=>simp at h
 | cons e ds ih =>
  simp only[depL]
  cases i with
  | zero=>simp at h;subst h;omega
  | succ i=>have:=ih (by simpa using h);omega
theorem IsL.ints (H:Hp):∀ ns:List Int,IsL H (ns.map V.int) (ns.map Dt.int)
 | []=>by simp only[List.map_nil,IsL]
 | n::ns=>by simp only[List.map_cons,IsL,Is,true_and];exact IsL.ints H ns
mutual
def toP:Dt→PyData
 | .non=>.none
 | .bl b=>.bool b
 | .int i=>.int i
 | .str x=>.str x
 | .tup ds=>.tuple (toPs ds)
 | .lst ds=>.list (toPs ds)
def toPs:List Dt→List PyData
 | []=>[]
 | d::ds=>toP d::toPs ds
end
mutual
theorem Is.reads {P:Program} {w:World} {H:Hp} {h:Heap} (ok:HOk P w H h):∀{d:Dt} {v:V} {u:Value},Is H v d→RelV v u→∃ as,Reads h u (toP d) as
 | .non,_,_,k,r=>by simp only[Is] at k;subst k;cases r;exact⟨_,Reads.none⟩
 | .bl b,_,_,k,r=>by simp only[Is] at k;subst k;cases r;exact⟨_,Reads.bool b⟩
 | .int i,_,_,k,r=>by simp only[Is] at k;subst k;obtain⟨t,rfl⟩:=r;exact⟨_,Reads.int i t⟩
 | .str x,_,_,k,r=>by simp only[Is] at k;subst k;obtain⟨t,rfl⟩:=r;exact⟨_,Reads.str x t⟩
 | .tup ds,_,_,k,r=>by
  simp only[Is] at k
  obtain⟨a,xs,rfl,h1,h2⟩:=k
  cases r
  obtain⟨_,its,rv,o,ho,hc,n,hd⟩:=(show ObjOk P w H h a (.tup xs) from ok a _ h1)
  obtain⟨as,q⟩:=IsL.reads ok h2 rv
  exact⟨_,Reads.tuple ho hc hd (by simpa using q)⟩
 | .lst ds,_,_,k,r=>by
  simp only[Is] at k
  obtain⟨a,xs,rfl,h1,h2⟩:=k
  cases r
  obtain⟨_,its,n,rv,e⟩:=(show ObjOk P w H h a (.lst xs) from ok a _ h1)
  obtain⟨as,q⟩:=IsL.reads ok h2 rv
  exact⟨_,Reads.list e rfl rfl (by simpa using q)⟩
theorem IsL.reads {P:Program} {w:World} {H:Hp} {h:Heap} (ok:HOk P w H h):∀{ds:List Dt} {xs:List V} {us:List Value},IsL H xs ds→Vals xs us→∃ as,ReadsAll h us (toPs ds) as
 | [],[],_,_,.nil=>⟨_,ReadsAll.nil⟩
 | d::ds,x::xs,_,k,.cons r t=>by
  simp only[IsL] at k
  obtain⟨as,q⟩:=Is.reads ok k.1 r
  obtain⟨bs,q2⟩:=IsL.reads ok k.2 t
  exact⟨_,ReadsAll.cons q q2⟩
 | [],_::_,_,k,_=>by simp only[IsL] at k
 | _::_,[],_,k,_=>by simp only[IsL] at k
end
def okD (d:Dt):Prop:=SeqAt.shaped (toP d)=true
def eqD (d e:Dt):Bool:=PyData.eqv (toP d) (toP e)
theorem eqD_self {d:Dt} (h:okD d):eqD d d=true:=SeqAt.eqv_refl _ (SeqAt.canLay_of_shaped h)
end L2
namespace L2
open PySem PySem.Spec PyProof.Rows
section
variable {X:Cx}
theorem PE.imp {e:Expr} {t t':TE} (h:PE X e t) (hi:∀ σ H Q,t' σ H Q→t σ H Q):PE X e t':=fun pins s σ H Q I q=>h pins s σ H Q I (hi σ H Q q)
theorem OpR.imp {f:Value→Value→Sem Value} {r r':R2} (h:OpR X f r) (hi:∀ x y H Q,r' x y H Q→r x y H Q):OpR X f r':=fun pins s σ H x y v u Q I rx ry q=>h pins s σ H x y v u Q I rx ry (hi x y H Q q)
theorem CallR.imp {f:Value} {r r':List V→Hp→VK→Prop} (h:CallR X f r) (hi:∀ xs H Q,r' xs H Q→r xs H Q):CallR X f r':=fun pins s σ H xs us Q I rs q=>h pins s σ H xs us Q I rs (hi xs H Q q)
end
section
variable {X:Cx} {pins:List (Addr×Obj)} {σ:St} {H:Hp} {s:Shared} {Q:VK}
theorem endS {z:Str} {t:Tok} (I:Inv X pins σ H s) (q:Q (.str z) H):EP X pins σ Q (.str z t) s:=⟨.str z,H,I,⟨t,rfl⟩,q⟩
theorem endB {b:Bool} (I:Inv X pins σ H s) (q:Q (.bl b) H):EP X pins σ Q (.bool b) s:=⟨.bl b,H,I,rfl,q⟩
end
def lstR (H:Hp) (a:Addr):Option (List V):=match H a with
 | some (.lst xs)=>some xs
 | some (.frz _ (.lst xs))=>some xs
 | _=>none
def tupR (H:Hp) (a:Addr):Option (List V):=match H a with
 | some (.tup xs)=>some xs
 | _=>none
def seqR (H:Hp) (a:Addr):Option (List V):=match lstR H a with
 | some xs=>some xs
 | none=>tupR H a
theorem lstR_of {H:Hp} {a:Addr} {xs:List V} (h:H a=some (.lst xs)):lstR H a=some xs:=by unfold lstR;rw[h]
theorem tupR_of {H:Hp} {a:Addr} {xs:List V} (h:H a=some (.tup xs)):tupR H a=some xs:=by unfold tupR;rw[h]
theorem jn_ {H:Hp} {a:Addr} {xs:List V} (h:H a=some (.lst xs)):seqR H a=some xs:=by unfold seqR;rw[lstR_of h]
theorem seqR_tup {H:Hp} {a:Addr} {xs:List V} (h:H a=some (.tup xs)):seqR H a=some xs:=by
 have e:lstR H a=none:=by unfold lstR;rw[h]
 unfold seqR;rw[e];exact tupR_of h
theorem lstR_sq {K:PySem.W.Frag} {H:Hp} {a:Addr} {xs:List V} (h:lstR H a=some xs):SqL K H a xs:=by
 unfold lstR at h
 split at h
 ·rename_i e;cases h;exact .inl (.inl e)
 ·rename_i e;cases h;exact .inl (.inr ⟨_,e⟩)
 ·cases h
theorem tupR_sq {K:PySem.W.Frag} {H:Hp} {a:Addr} {xs:List V} (h:tupR H a=some xs):SqT K H a xs:=by
 unfold tupR at h
 split at h
 ·rename_i e;cases h;exact .inl (.inl e)
 ·cases h
theorem seqR_sq {K:PySem.W.Frag} {H:Hp} {a:Addr} {xs:List V} (h:seqR H a=some xs):SqL K H a xs∨SqT K H a xs:=by
 unfold seqR at h
 split at h
 ·rename_i e;cases h;exact .inl (lstR_sq e)
 ·exact .inr (tupR_sq h)
def GetT (H:Hp) (xs:List V) (Q:VK):Prop:=∀ p H',H' p=some (.tup xs)→(∀ b o,H b=some o→H' b=some o)→Q (.ref p) H'
theorem GetT.new {H:Hp} {xs:List V} {Q:VK} (h:GetT H xs Q) {p:Addr} (hp:H p=none):Q (.ref p) (upd H p (.tup xs)) :=
 h p _ jb_ fun b o e=>by rw[jd_ (je_ e hp)];exact e
theorem GetT.old {H:Hp} {xs:List V} {Q:VK} (h:GetT H xs Q) {p:Addr} (hp:H p=some (.tup xs)):Q (.ref p) H:=h p _ hp fun b o e=>e
def GetL (H:Hp) (xs:List V) (Q:VK):Prop:=∀ p,H p=none→Q (.ref p) (upd H p (.lst xs))
def fAdd:R2:=fun x y H Q=>match x,y with
 | .int i,.int j=>Q (.int (i+j)) H
 | .str i,.str j=>i.length+j.length≤sizeLine∧Q (.str (i++j)) H
 | .ref a,.ref b=>match H a,H b with
  | some (.lst xs),some (.lst ys)=>xs.length+ys.length≤sizeLine∧GetL H (xs++ys) Q
  | some (.tup xs),some (.tup ys)=>xs≠[]∧xs.length+ys.length≤sizeLine∧GetT H (xs++ys) Q
  | _,_=>False
 | _,_=>False
def fMul:R2:=fun x y H Q=>match x,y with
 | .int i,.int j=>CMul i j∧Q (.int (i * j)) H
 | .str z,.int n=>z.length * n.toNat≤1000000∧-(2 ^ 62) < n∧n < 2 ^ 62∧Q (.str (Txt.mul z n)) H
 | .ref a,.int k=>match H a with
  | some (.lst xs)=>-(2 ^ 63)≤k∧k < 2 ^ 63∧xs.length * k.toNat≤sizeLine∧GetL H (List.replicate k.toNat xs).flatten Q
  | _=>False
 | _,_=>False
def fI (C:Int→Int→Prop) (g:Int→Int→V):R2:=fun x y H Q=>match x,y with
 | .int i,.int j=>C i j∧Q (g i j) H
 | _,_=>False
def fI0 (g:Int→Int→V):R2:=fun x y H Q=>match x,y with
 | .int i,.int j=>Q (g i j) H
 | _,_=>False
theorem fI0_rI0 {g:Int→Int→V}:∀ x y H Q,fI0 g x y H Q→rI0 g x y H Q:=fun x y H Q h=>by
 unfold fI0 at h
 split at h
 ·exact⟨_,_,rfl,rfl,h⟩
 ·exact h.elim
theorem fI_rI {C:Int→Int→Prop} {g:Int→Int→V}:∀ x y H Q,fI C g x y H Q→rI C g x y H Q:=fun x y H Q h=>by
 unfold fI at h
 split at h
 ·exact⟨_,_,rfl,rfl,h.1,h.2⟩
 ·exact h.elim
section
variable {X:Cx}
theorem j0_:OpR X (binaryOp .Add) fAdd:=by
 intro pins s σ H x y v u Q I rx ry h
 unfold fAdd at h
 split at h
 ·exact op_add pins s σ H _ _ v u Q I rx ry ⟨_,_,rfl,rfl,h⟩
 ·exact op_add_str pins s σ H _ _ v u Q I rx ry ⟨_,_,rfl,rfl,h.1,h.2⟩
 ·split at h
  ·rename_i h1 h2
   exact op_cat pins s σ H _ _ v u Q I rx ry ⟨_,_,_,_,rfl,rfl,h1,h2,h.1,h.2⟩
  ·rename_i xs ys h1 h2
   refine op_catT pins s σ H _ _ v u Q I rx ry ⟨_,_,_,_,rfl,rfl,SqT.of h1,SqT.of h2,h.1,h.2.1,fun e=>?_,fun _ p hp=>h.2.2.new hp⟩
   subst e
   have:=h.2.2
   rw[List.append_nil] at this
   exact this.old h1
  ·exact h.elim
 ·exact h.elim
theorem o_sub:OpR X (binaryOp .Sub) (fI0 fun i j=>.int (i - j)):=op_sub.imp fI0_rI0
theorem o_fdiv:OpR X (binaryOp .FloorDiv) (fI CDiv fun i j=>.int (i / j)):=op_fdiv.imp fI_rI
theorem o_mod:OpR X (binaryOp .Mod) (fI (fun _ j=>0 < j) fun i j=>.int (i % j)):=op_mod.imp fI_rI
theorem o_pow:OpR X (binaryOp .Pow) (fI CPow fun i j=>.int (i ^ j.toNat)):=op_pow.imp fI_rI
theorem mulOk_of {z:Str} {n:Int} (h:z.length * n.toNat≤1000000) (h1:-(2 ^ 62) < n) (h2:n < 2 ^ 62):MulOk z n:=by
 have e1:((2:Int) ^ 62)=4611686018427387904:=by decide
 have e2:((2:Int) ^ 63)=9223372036854775808:=by decide
 rw[e1] at h1 h2
 refine⟨?_,fun hn _=>?_,fun hn _=>?_⟩
 ·rw[e2];simp only[Bool.or_eq_false_iff,decide_eq_false_iff_not];omega
 ·have hp:0 < n:=by omega
  have hz:(z.length:Int)≤1000000:=by
   have:z.length * 1≤z.length * n.toNat:=Nat.mul_le_mul_left _ (by omega)
   omega
  have e3:((2:Int) ^ 63 - 1)=9223372036854775807:=by decide
  rw[e3]
  intro hgt
  have h3:(9223372036854775807:Int) / n < z.length:=hgt
  have h4:(9223372036854775807:Int) < z.length * n:=by
   have:=Int.lt_mul_of_ediv_lt hp h3
   exact this
  have h5:(z.length:Int) * n≤1000000:=by
   have e:((z.length * n.toNat:Nat):Int)=(z.length:Int) * n:=by
    rw[Int.natCast_mul];congr 1;omega
   omega
  omega
 ·unfold Builtin.Str.tooLong sizeLine
  have e4:(2:Nat) ^ 24=16777216:=by decide
  exact decide_eq_false (by omega)
theorem o_mul:OpR X (binaryOp .Mult) fMul:=by
 intro pins s σ H x y v u Q I rx ry h
 unfold fMul at h
 split at h
 ·exact op_mul pins s σ H _ _ v u Q I rx ry ⟨_,_,rfl,rfl,h.1,h.2⟩
 ·obtain⟨h1,h2,h3,q⟩:=h
  obtain⟨t,rfl⟩:=rx
  obtain⟨t',rfl⟩:=ry
  exact SB.mul (mulOk_of h1 h2 h3) fun t' k=>endS (I.tok _) q
 ·split at h
  ·rename_i h1
   exact op_rep pins s σ H _ _ v u Q I rx ry ⟨_,_,_,rfl,rfl,h1,h.1,h.2.1,h.2.2.1,h.2.2.2⟩
  ·exact h.elim
 ·exact h.elim
theorem o_lt:OpR X (compareOp .Lt) (fI0 fun i j=>.bl (decide (i < j))):=op_lt.imp fI0_rI0
theorem o_le:OpR X (compareOp .LtE) (fI0 fun i j=>.bl (decide (i≤j))):=op_le.imp fI0_rI0
theorem o_gt:OpR X (compareOp .Gt) (fI0 fun i j=>.bl (decide (j < i))):=op_gt.imp fI0_rI0
def fEq:R2:=fun x y H Q=>(scal x y=true∧Q (.bl (decide (x=y))) H)∨∃ d e,Is H x d∧Is H y e∧okD d∧okD e∧Q (.bl (eqD d e)) H
def fNe:R2:=fun x y H Q=>(scal x y=true∧Q (.bl (!decide (x=y))) H)∨∃ d e,Is H x d∧Is H y e∧okD d∧okD e∧Q (.bl (!eqD d e)) H
def fIs:R2:=fun x y H Q=>y=.non∧Q (.bl (decide (x=.non))) H
theorem o_eq (hu:X.A.units+64 < cLine):OpR X (compareOp .Eq) fEq:=by
 intro pins s σ H x y v u Q I rx ry h
 rcases h with h | ⟨d,e,h1,h2,h3,h4,q⟩
 ·exact op_eq pins s σ H x y v u Q I rx ry h
 ·obtain⟨as,r1⟩:=Is.reads I.hok h1 rx
  obtain⟨bs,r2⟩:=Is.reads I.hok h2 ry
  exact eq_dataH r1 r2 h3 h4 hu (endB I q)
theorem o_ne (hu:X.A.units+64 < cLine):OpR X (compareOp .NotEq) fNe:=by
 intro pins s σ H x y v u Q I rx ry h
 rcases h with h | ⟨d,e,h1,h2,h3,h4,q⟩
 ·exact op_ne pins s σ H x y v u Q I rx ry h
 ·obtain⟨as,r1⟩:=Is.reads I.hok h1 rx
  obtain⟨bs,r2⟩:=Is.reads I.hok h2 ry
  exact ne_dataH r1 r2 h3 h4 hu (endB I q)
theorem o_is:OpR X (compareOp .Is) fIs:=op_isN
def fIn (neg:Bool):R2:=fun x y H Q=>match x,y with
 | .str i,.str j=>Q (.bl (xor neg (Txt.contains j i))) H
 | x,.ref p=>match seqR H p with
  | some xs=>flatV x=true∧xs.all flatV=true∧Q (.bl (if neg then !inV x xs else inV x xs)) H
  | none=>False
 | _,_=>False
theorem o_in:OpR X (compareOp .In) (fIn false):=by
 intro pins s σ H x y v u Q I rx ry h
 unfold fIn at h
 split at h
 ·refine op_in_str pins s σ H _ _ v u Q I rx ry ⟨_,_,rfl,rfl,?_⟩
  simpa [Txt.contains] using h
 ·split at h
  ·rename_i e
   exact op_in_seq pins s σ H _ _ v u Q I rx ry ⟨_,_,rfl,seqR_sq e,h.1,h.2.1,h.2.2⟩
  ·exact h.elim
 ·exact h.elim
theorem o_notin:OpR X (compareOp .NotIn) (fIn true):=by
 intro pins s σ H x y v u Q I rx ry h
 unfold fIn at h
 split at h
 ·refine op_notin_str pins s σ H _ _ v u Q I rx ry ⟨_,_,rfl,rfl,?_⟩
  simpa [Txt.contains] using h
 ·split at h
  ·rename_i e
   exact op_notIn_seq pins s σ H _ _ v u Q I rx ry ⟨_,_,rfl,seqR_sq e,h.1,h.2.1,h.2.2⟩
  ·exact h.elim
 ·exact h.elim
def fNeg:V→Hp→VK→Prop:=fun x H Q=>match x with
 | .int i=>Q (.int (-i)) H
 | _=>False
theorem o_neg:UnR X (unaryOp .USub) fNeg:=fun pins s σ H x v Q I rx h=>by
 unfold fNeg at h
 split at h
 ·exact un_neg pins s σ H _ v Q I rx ⟨_,rfl,h⟩
 ·exact h.elim
def fIx (K:PySem.W.Frag):R2:=fun x y H Q=>match x,y with
 | .ref p,.int i=>∃ xs v,(SqL K H p xs∨SqT K H p xs)∧atI xs i=some v∧Q v H
 | .str z,.int i=>z.length≤sizeLine∧(match atI z.cps.toList i with | some c=>Q (.str ⟨#[c]⟩) H | none=>False)
 | _,_=>False
theorem jw_ {K:PySem.W.Frag} (hK:X.K=K:=by rfl):IxR X (fIx K):=by
 subst hK
 intro value slice pins s σ H x y v u Q I rx ry h hs
 unfold fIx at h
 split at h
 ·obtain⟨xs,w',e,e',h⟩:=h
  rcases e with q | q
  ·exact ix_list value slice pins s σ H _ _ v u Q I rx ry ⟨_,_,_,_,rfl,rfl,q,e',h⟩ hs
  ·exact ix_tup value slice pins s σ H _ _ v u Q I rx ry ⟨_,_,_,_,rfl,rfl,q,e',h⟩ hs
 ·obtain⟨hz,h⟩:=h
  split at h
  ·rename_i c e
   exact ix_str value slice pins s σ H _ _ v u Q I rx ry ⟨_,_,_,rfl,rfl,hz,e,h⟩ hs
  ·exact h.elim
 ·exact h.elim
def fSl (K:PySem.W.Frag):V→Option Int→Option Int→Hp→VK→Prop:=fun x lo hi H Q=>match x with
 | .str z=>z.length≤sizeLine∧Q (.str (Txt.slice z lo hi)) H
 | .ref a=>(∃ xs,SqL K H a xs∧GetL H (cutV xs lo hi) Q) ∨
  (∃ xs,SqT K H a xs∧¬ (HT.sIx xs.length 0 lo=0∧HT.sIx xs.length xs.length hi=xs.length)∧GetT H (cutV xs lo hi) Q)
 | _=>False
theorem sl_str:SlR X (fun x lo hi H Q=>∃ z,x=.str z∧z.length≤sizeLine∧Q (.str (Txt.slice z lo hi)) H):=by
 intro pins s σ H x v vl vu lo hi sl Q I rx hs pl pu h
 obtain⟨z,rfl,hz,q⟩:=h
 obtain⟨t,rfl⟩:=rx
 refine⟨"str",_,PySem.F.slot_str_getitem.lookup,typeIs_str _ _ _,?_⟩
 have fin:∀(l u:Option (Int×Tok)),l.map (·.1)=lo→u.map (·.1)=hi→s.heap.IsSlice sl l u none→wpAny (model X.prog X.w) X.A (getItem (.str z t) (.ref sl)) (EP X pins σ Q) X.xe s:=fun l u el eu hs'=>by
  subst el eu
  refine wpAny_getItem_str_slice hs' rfl ?_
  have q':∀ t' k,EP X pins σ Q (.str (Txt.slice z (l.map (·.1)) (u.map (·.1))) t') { s with toks:=k }:=fun t' k=>endS (I.tok _) q
  exact post_val_or_str ⟨Nat.le_trans (Txt.slice_le z _ _) hz,fun t' k=>q' t' k⟩
 cases pl with
 | none =>
  cases pu with
  | none=>exact fin none none rfl rfl hs
  | int j u=>exact fin none (some (j,u)) rfl rfl hs
 | int i t' =>
  cases pu with
  | none=>exact fin (some (i,t')) none rfl rfl hs
  | int j u=>exact fin (some (i,t')) (some (j,u)) rfl rfl hs
theorem j4_ {K:PySem.W.Frag} (hK:X.K=K:=by rfl):SlR X (fSl K):=by
 subst hK
 intro pins s σ H x v vl vu lo hi sl Q I rx hs pl pu h
 unfold fSl at h
 split at h
 ·exact sl_str pins s σ H _ v vl vu lo hi sl Q I rx hs pl pu ⟨_,rfl,h.1,h.2⟩
 ·rcases h with ⟨xs,e,h⟩ | ⟨xs,e,h⟩
  ·exact sl_list pins s σ H _ v vl vu lo hi sl Q I rx hs pl pu ⟨_,_,rfl,e,h⟩
  ·exact sl_tup pins s σ H _ v vl vu lo hi sl Q I rx hs pl pu ⟨_,_,rfl,e,h.1,fun p hp=>h.2.new hp⟩
 ·exact h.elim
def fLen (K:PySem.W.Frag):List V→Hp→VK→Prop:=fun xs H Q=>match xs with
 | [.str z]=>z.length≤sizeLine∧Q (.int z.length) H
 | [.ref p]=>∃ ys,(SqL K H p ys∨SqT K H p ys)∧Q (.int ys.length) H
 | _=>False
theorem c_len {K:PySem.W.Frag} (hK:X.K=K:=by rfl):CallR X (.builtin "len") (fLen K):=by
 subst hK
 intro pins s σ H xs us Q I r h
 unfold fLen at h
 split at h
 ·exact call_len_str pins s σ H _ us Q I r ⟨_,rfl,h.1,h.2⟩
 ·obtain⟨ys,e,h⟩:=h
  exact call_len_seq pins s σ H _ us Q I r ⟨_,_,rfl,e,h⟩
 ·exact h.elim
def f1I (g:Int→V):List V→Hp→VK→Prop:=fun xs H Q=>match xs with
 | [.int i]=>Q (g i) H
 | _=>False
def f2I (g:Int→Int→V):List V→Hp→VK→Prop:=fun xs H Q=>match xs with
 | [.int i,.int j]=>Q (g i j) H
 | _=>False
theorem c_abs:CallR X (.builtin "abs") (f1I fun i=>.int (if i < 0 then -i else i)):=call_abs.imp fun xs H Q h=>by
 unfold f1I at h
 split at h
 ·exact⟨_,rfl,h⟩
 ·exact h.elim
theorem c_max (hc:X.calm=true):CallR X (.builtin "max") (f2I fun i j=>.int (if j > i then j else i)):=(call_max2 hc).imp fun xs H Q h=>by
 unfold f2I at h
 split at h
 ·exact⟨_,_,rfl,h⟩
 ·exact h.elim
def fList:List V→Hp→VK→Prop:=fun xs H Q=>match xs with
 | [.ref p]=>(match seqR H p with | some ys=>GetL H ys Q | none=>False)
 | _=>False
theorem c_list:CallR X (.type "list") fList:=call_list_of.imp fun xs H Q h=>by
 unfold fList at h
 split at h
 ·split at h
  ·rename_i e;exact⟨_,_,rfl,seqR_sq e,h⟩
  ·exact h.elim
 ·exact h.elim
def fTuple:List V→Hp→VK→Prop:=fun xs H Q=>match xs with
 | [.ref p]=>(match seqR H p with | some ys=>GetT H ys Q | none=>False)
 | _=>False
theorem tup_back {H:Hp} {p:Addr} {ys:List V} (h:tupR H p=some ys):H p=some (.tup ys):=by
 unfold tupR at h
 split at h
 ·rename_i e;cases h;exact e
 ·cases h
theorem c_tuple:CallR X (.type "tuple") fTuple:=call_tuple_of.imp fun xs H Q h=>by
 unfold fTuple at h
 split at h
 ·split at h
  ·rename_i ys e
   refine⟨_,ys,rfl,?_⟩
   unfold seqR at e
   split at e
   ·rename_i e';cases e
    exact .inl ⟨lstR_sq e',fun l hl=>h.new hl⟩
   ·exact .inr ⟨tupR_sq e,h.old (tup_back e)⟩
  ·exact h.elim
 ·exact h.elim
def fTru (x:V) (H:Hp) (Q:Bool→Hp→Prop):Prop:=match x with
 | .non=>Q false H
 | .bl b=>Q b H
 | .int i=>Q (i != 0) H
 | .str z=>z.length≤sizeLine∧Q ((z.length:Int) != 0) H
 | .ref p=>(match seqR H p with | some xs=>Q (!xs.isEmpty) H | none=>False)
 | _=>False
theorem pt_tru {a:Expr} {ta:TE} (ha:PE X a ta) (he:∀ whole,isTrue a X.env whole=(do let v ← whole;standAt a.pos;holding [v] (truthy v))) :
  PT X a (fun σ H Q=>ta σ H fun x H'=>fTru x H' Q):=by
 intro pins s σ H Q I h
 show wpAny _ _ (isTrue a X.env (eval a X.env)) _ _ _
 rw[he]
 refine wpAny_bind (thn (ha pins s σ H _ I h) fun v s1 ⟨x,H1,I1,r1,q1⟩=>wpAny_bind (wpAny_standAt (wpAny_holding ?_)))
 refine tru_ok pins s1 σ H1 x v Q I1 r1 ?_
 have q1:fTru x H1 Q:=q1
 unfold fTru at q1
 split at q1
 ·exact⟨_,rfl,q1⟩
 ·exact⟨_,rfl,q1⟩
 ·exact⟨_,rfl,q1⟩
 ·exact⟨_,⟨q1.1,rfl⟩,q1.2⟩
 ·split at q1
  ·rename_i xs e
   refine⟨_,?_,q1⟩
   rcases seqR_sq (K:=X.K) e with z | z
   ·exact .inl ⟨_,z,rfl⟩
   ·exact .inr (.inl ⟨_,z,rfl⟩)
  ·exact q1.elim
 ·exact q1.elim
def fAppend:V→List V→Hp→VK→Prop:=fun x vs H Q=>match x,vs with
 | .ref l,[y]=>(match H l with | some (.lst xs)=>xs.length < sizeLine∧Q .non (upd H l (.lst (xs++[y]))) | _=>False)
 | _,_=>False
theorem m_append1:MtR X "list.append" fAppend:=fun pins s σ H x xs v us Q I rx rs h=>by
 unfold fAppend at h
 split at h
 ·split at h
  ·rename_i e
   exact mt_append pins s σ H _ _ v us Q I rx rs ⟨_,_,_,rfl,rfl,e,h.1,h.2⟩
  ·exact h.elim
 ·exact h.elim
theorem strsAre_of:∀{ys:List Str} {us:List Value},Vals (ys.map V.str) us→StrsAre us ys
 | [],_,.nil=>.nil
 | y::ys,_,.cons r t=>by
  obtain⟨k,rfl⟩:=r
  exact .cons y k (strsAre_of t)
def strs?:List V→Option (List Str)
 | []=>some []
 | .str z::r=>(strs? r).map (z::·)
 | _=>none
theorem strs?_map:∀ ys:List Str,strs? (ys.map V.str)=some ys
 | []=>rfl
 | y::ys=>by simp only[List.map_cons,strs?,strs?_map ys,Option.map_some]
theorem strs?_of:∀{xs:List V} {ys:List Str},strs? xs=some ys→xs=ys.map V.str
 | [],_,h=>by cases h;rfl
 | .str z::r,ys,h=>by
  simp only[strs?] at h
  cases e:strs? r with
  | none=>rw[e] at h;cases h
  | some q=>rw[e] at h;cases h;rw[strs?_of e];rfl
 | .non::_,_,h=>by cases h
 | .bl _::_,_,h=>by cases h
 | .int _::_,_,h=>by cases h
 | .byt _::_,_,h=>by cases h
 | .flt _::_,_,h=>by cases h
 | .ref _::_,_,h=>by cases h
 | .ty _::_,_,h=>by cases h
def fJoin:V→List V→Hp→VK→Prop:=fun x vs H Q=>match x,vs with
 | .str z,[.ref p]=>(match lstR H p with
  | some xs=>(match strs? xs with
   | some ys=>(ys.map (·.length)).sum+ys.length * z.length≤16777216∧Q (.str (Txt.join z ys)) H
   | none=>False)
  | none=>False)
 | _,_=>False
theorem m_join1:MtR X "str.join" fJoin:=fun pins s σ H x xs v us Q I rx rs h=>by
 unfold fJoin at h
 split at h
 ·rename_i z p
  split at h
  ·rename_i ws e
   split at h
   ·rename_i ys e2
    obtain⟨t,rfl⟩:=rx
    obtain⟨u,rfl,ru⟩:=vals1 rs
    cases ru
    obtain⟨its,r',pl,hz⟩:=I.list (lstR_sq e)
    rw[strs?_of e2] at r'
    exact join_list pl.isList (strsAre_of (by simpa using r')) h.1 fun t' k=>endS (I.tok _) h.2
   ·exact h.elim
  ·exact h.elim
 ·exact h.elim
def fSS (g:Str→Str→V):V→List V→Hp→VK→Prop:=fun x vs H Q=>match x,vs with
 | .str z,[.str y]=>Q (g z y) H
 | _,_=>False
def fSSI (g:Str→Str→Int→V):V→List V→Hp→VK→Prop:=fun x vs H Q=>match x,vs with
 | .str z,[.str y,.int i]=>Q (g z y i) H
 | _,_=>False
theorem m_startswith1:MtR X "str.startswith" (fSS fun z y=>.bl (Txt.startswith z y)):=fun pins s σ H x xs v us Q I rx rs h=>by
 unfold fSS at h
 split at h
 ·obtain⟨t,rfl⟩:=rx
  obtain⟨u,rfl,t',rfl⟩:=vals1 rs
  exact SC.startswith (endB I h)
 ·exact h.elim
theorem m_startswith2:MtR X "str.startswith" (fSSI fun z y i=>.bl (Txt.startswith3 z y i)):=fun pins s σ H x xs v us Q I rx rs h=>by
 unfold fSSI at h
 split at h
 ·obtain⟨t,rfl⟩:=rx
  obtain⟨u,w',rfl,⟨t',rfl⟩,⟨t'',rfl⟩⟩:=vals2 rs
  exact SC.startswith3 (endB I h)
 ·exact h.elim
end
end L2
namespace L2
open PySem PySem.Spec PyProof.Rows
def tyN (H:Hp):V→Option String
 | .non=>some "NoneType"
 | .bl _=>some "bool"
 | .int _=>some "int"
 | .str _=>some "str"
 | .ref a=>match H a with
  | some (.lst _)=>some "list"
  | some (.frz _ (.lst _))=>some "list"
  | some (.tup _)=>some "tuple"
  | _=>none
 | _=>none
def subB (t T:String):Bool:=t == T || (t == "bool"&&T == "int")
def tys?:List V→Option (List String)
 | []=>some []
 | .ty T::r=>(tys? r).map (T::·)
 | _=>none
def knownT (T:String):Bool:=["bool","int","str","list","tuple"].contains T
theorem kitOne_of {K:PySem.W.Frag} {t T:String} (ht:t="NoneType"∨t="bool"∨t="int"∨t="str"∨t="list"∨t="tuple") (hT:T="bool"∨T="int"∨T="str"∨T="list"∨T="tuple") :
  PySem.W.kitOne K (.type t) (.type T)=some (subB t T):=by
 rcases ht with rfl | rfl | rfl | rfl | rfl | rfl <;> rcases hT with rfl | rfl | rfl | rfl | rfl <;> kernel_rfl
def fIsi:List V→Hp→VK→Prop:=fun xs H Q=>match xs with
 | [x,.ty T]=>(match tyN H x with
  | some t=>knownT T=true∧Q (.bl (subB t T)) H
  | none=>False)
 | [x,.ref p]=>(match tyN H x,tupR H p with
  | some t,some ts=>(match tys? ts with
   | some Ts=>Ts.all knownT=true∧Q (.bl (Ts.any (subB t))) H
   | none=>False)
  | _,_=>False)
 | _=>False
section
variable {X:Cx}
theorem tyN_kit {K:PySem.W.Frag} {pins:List (Addr×Obj)} {σ:St} {H:Hp} {s:Shared} {x:V} {u:Value} {t:String} (I:Inv X pins σ H s) (rx:RelV x u) (e:tyN H x=some t) :
  (t="NoneType"∨t="bool"∨t="int"∨t="str"∨t="list"∨t="tuple")∧u≠.builtin "__main__.__loader__#opaque"∧∃ Hp',PySem.W.KitX K u (.type t) Hp'∧Hp' s.heap:=by
 cases x with
 | non=>cases (show u=Value.none from rx);cases e;exact⟨by simp,(fun z=>nomatch z),_,PySem.W.kitx_none,True.intro⟩
 | bl b=>cases (show u=Value.bool b from rx);cases e;exact⟨by simp,(fun z=>nomatch z),_,PySem.W.kitx_bool,True.intro⟩
 | int i=>obtain⟨k,q⟩:=(show ∃ t,u=Value.int i t from rx);cases q;cases e;exact⟨by simp,(fun z=>nomatch z),_,PySem.W.kitx_int,True.intro⟩
 | str z=>obtain⟨k,q⟩:=(show ∃ t,u=Value.str z t from rx);cases q;cases e;exact⟨by simp,(fun z=>nomatch z),_,PySem.W.kitx_str,True.intro⟩
 | ref a =>
  cases (show u=Value.ref a from rx)
  unfold tyN at e
  dsimp only at e
  split at e
  ·rename_i xs ea
   cases e
   obtain⟨_,_,n,_,h1⟩:=(show ObjOk X.prog X.w H s.heap a (.lst xs) from I.hok a _ ea)
   exact⟨by simp,(fun z=>nomatch z),_,PySem.W.kitx_list,⟨_,h1,rfl⟩⟩
  ·rename_i ob xs ea
   cases e
   obtain⟨_,_,_,n,_,h1⟩:=(show ObjOk X.prog X.w H s.heap a (.frz ob (.lst xs)) from I.hok a _ ea)
   exact⟨by simp,(fun z=>nomatch z),_,PySem.W.kitx_list,⟨_,h1,rfl⟩⟩
  ·rename_i xs ea
   cases e
   obtain⟨_,_,_,p⟩:=(show ObjOk X.prog X.w H s.heap a (.tup xs) from I.hok a _ ea)
   obtain⟨o,h1,h2,_⟩:=p
   exact⟨by simp,(fun z=>nomatch z),_,PySem.W.kitx_tuple,⟨o,h1,h2⟩⟩
  ·cases e
 | byt _=>cases e
 | flt _=>cases e
 | ty _=>cases e
theorem knownT_of {T:String} (h:knownT T=true):T="bool"∨T="int"∨T="str"∨T="list"∨T="tuple":=by
 simpa [knownT] using h
theorem tys_any {K:PySem.W.Frag} {t:String} (ht:t="NoneType"∨t="bool"∨t="int"∨t="str"∨t="list"∨t="tuple"):∀{ts:List V} {Ts:List String} {its:List Value},tys? ts=some Ts→Vals ts its→Ts.all knownT=true →
  PySem.W.kitAny K (.type t) its=some (Ts.any (subB t))
 | [],_,_,e,.nil,_=>by cases e;rfl
 | .ty T::r,Ts,_,e,.cons rv rt,hk=>by
  simp only[tys?] at e
  cases er:tys? r with
  | none=>rw[er] at e;cases e
  | some q =>
   rw[er] at e
   cases e
   simp only[List.all_cons,Bool.and_eq_true] at hk
   cases rv
   have h1:=kitOne_of (K:=K) ht (knownT_of hk.1)
   have h2:=tys_any (K:=K) ht er rt hk.2
   unfold PySem.W.kitAny
   rw[h1]
   cases hb:subB t T with
   | true=>simp[hb]
   | false=>simp only[List.any_cons,hb,Bool.false_or];exact h2
 | .non::_,_,_,e,_,_=>by cases e
 | .bl _::_,_,_,e,_,_=>by cases e
 | .int _::_,_,_,e,_,_=>by cases e
 | .str _::_,_,_,e,_,_=>by cases e
 | .byt _::_,_,_,e,_,_=>by cases e
 | .flt _::_,_,_,e,_,_=>by cases e
 | .ref _::_,_,_,e,_,_=>by cases e
theorem j8_:CallR X (.builtin "isinstance") fIsi:=by
 intro pins s σ H xs us Q I r h
 unfold fIsi at h
 split at h
 ·rename_i x T
  split at h
  ·rename_i t et
   obtain⟨u,c,rfl,rx,rc⟩:=vals2 r
   cases rc
   obtain⟨ht,hu,H',hk,hH⟩:=tyN_kit (K:=X.K) I rx et
   exact PySem.W.kia_one hk I.kIn hH (kitOne_of ht (knownT_of h.1)) hu fun tk=>endB (I.tok _) h.2
  ·exact h.elim
 ·rename_i x p
  split at h
  ·rename_i t ts et ep
   split at h
   ·rename_i Ts eT
    obtain⟨u,c,rfl,rx,rc⟩:=vals2 r
    cases rc
    obtain⟨ht,hu,H',hk,hH⟩:=tyN_kit (K:=X.K) I rx et
    obtain⟨its,rv,pl,hz⟩:=I.tuple (tupR_sq ep)
    obtain⟨⟨cls,dd,data,sl⟩,ho,hc,n,hd⟩:=id pl
    simp only at hc hd
    subst hc hd
    exact PySem.W.kia_tup hk I.kIn hH ho (tys_any ht eT rv h.1) hu fun tk=>endB (I.tok _) h.2
   ·exact h.elim
  ·exact h.elim
 ·exact h.elim
def bls?:List V→Option (List Bool)
 | []=>some []
 | .bl b::r=>(bls? r).map (b::·)
 | _=>none
theorem bls?_map:∀ bs:List Bool,bls? (bs.map V.bl)=some bs
 | []=>rfl
 | b::bs=>by simp only[List.map_cons,bls?,bls?_map bs,Option.map_some]
theorem bls?_of:∀{xs:List V} {bs:List Bool},bls? xs=some bs→xs=bs.map V.bl
 | [],_,h=>by cases h;rfl
 | .bl z::r,ys,h=>by
  simp only[bls?] at h
  cases e:bls? r with
  | none=>rw[e] at h;cases h
  | some q=>rw[e] at h;cases h;rw[bls?_of e];rfl
 | .non::_,_,h=>by cases h
 | .str _::_,_,h=>by cases h
 | .int _::_,_,h=>by cases h
 | .byt _::_,_,h=>by cases h
 | .flt _::_,_,h=>by cases h
 | .ref _::_,_,h=>by cases h
 | .ty _::_,_,h=>by cases h
def fAll (f:List Bool→Bool):List V→Hp→VK→Prop:=fun xs H Q=>match xs with
 | [.ref p]=>(match lstR H p with
  | some ys=>(match bls? ys with | some bs=>Q (.bl (f bs)) H | none=>False)
  | none=>False)
 | _=>False
theorem range_all (bs:List Bool):(List.range bs.length).all (fun i=>bs.getD i true)=bs.all id:=by
 rw[Bool.eq_iff_iff,List.all_eq_true,List.all_eq_true]
 constructor
 ·intro h b hb
  obtain⟨i,hi,rfl⟩:=List.mem_iff_getElem.mp hb
  have:=h i (List.mem_range.mpr hi)
  simpa [List.getD_eq_getElem?_getD,hi] using this
 ·intro h i hi
  have hi':=List.mem_range.mp hi
  have:=h bs[i] (List.getElem_mem hi')
  simpa [List.getD_eq_getElem?_getD,hi'] using this
theorem c_all (hc:X.calm=true):CallR X (.builtin "all") (fAll fun bs=>bs.all id):=by
 intro pins s σ H xs us Q I r h
 unfold fAll at h
 split at h
 ·rename_i p
  split at h
  ·rename_i ys e
   split at h
   ·rename_i bs eb
    obtain⟨u,rfl,ru⟩:=vals1 r
    cases ru
    obtain⟨its,rv,pl,hz⟩:=I.list (lstR_sq e)
    rw[bls?_of eb] at rv
    have hlen:=rv.length
    rw[List.length_map] at hlen
    have hlt:p < s.heap.objs.size:=by obtain⟨o,ho,_⟩:=pl.isList;exact Heap.lt_size ho
    refine call_all_walk (wpAny_pyIter_list pl.isList ?_)
    refine⟨s.heap.objs.size,_,_,_,_,_,(fun i=>bs.getD i true),rfl,Walks.list (A:=X.A.in1) (show X.A.in1.handled=none from I.ok.hd hc) s.heap.objs.size p (Nat.ne_of_lt hlt) its.toArray,⟨⟨_,Heap.get?_push_size _ rfl,rfl,rfl⟩,?_⟩,fun i v s' Q' E' hv hq=>?_,fun h' tk k=>?_⟩
    ·obtain⟨o,ho,q⟩:=pl.isList
     exact⟨o,Heap.get?_push_of_some _ ho,q⟩
    ·have hv':its[i]?=some v:=by simpa using hv
     have hil:i < its.length:=(List.getElem?_eq_some_iff.mp hv').1
     obtain⟨w',hw,rw'⟩:=rv.get (i:=i) (x:=V.bl (bs.getD i true)) (by rw[List.getElem?_map];simp[List.getD_eq_getElem?_getD,show i < bs.length by omega])
     rw[hv'] at hw
     cases hw
     cases rw'
     exact wpAny_truthy_bool hq
    ·have e2:(List.range its.toArray.size).all (fun i=>bs.getD i true)=bs.all id:=by rw[List.size_toArray,← hlen];exact range_all bs
     rw[e2]
     have I1:Inv X pins σ H { s with heap:=s.heap.push { cls:=.type "list_iterator",data:=.fields #[.ref p,.int 0 0] },toks:=s.toks }:=I.kept fun b u q=>Heap.get?_push_of_some _ q
     have f1:=I.fpOk (H':=H) (b:=s.heap.objs.size) (Nat.le_refl _) (I.hok.fresh (Nat.le_refl _))
     exact endB (I1.turned (t':=tk) (it:=s.heap.objs.size) (fun b o hb q=>k b o (by simpa using hb) q) f1.1 f1.2.1 f1.2.2.2.1 f1.2.2.2.2.1 f1.2.2.2.2.2) h
   ·exact h.elim
  ·exact h.elim
 ·exact h.elim
end
def Its (xs:List V):It:=⟨fun i _=>i < xs.length,fun i H x H'=>H'=H∧xs[i]?=some x,fun i _=>i=xs.length⟩
def chs (z:Str):List V:=z.cps.toList.map fun c=>V.str ⟨#[c]⟩
theorem chs_length (z:Str):(chs z).length=z.length:=by unfold chs;rw[List.length_map];rfl
theorem turn_walks {P:Program} {w:World} {K:PySem.W.Frag} {tg:Expr} {it:Addr} {n:Nat} {Pv:Nat→Value→Prop} {St:Nat→Heap→Prop} {xs:List V}
  (hW:∀ A:Around,A.handled=none→Walks P w A it [it] [it] n Pv St) (hn:xs.length=n) (hx:∀ i u,Pv i u→∃ x,xs[i]?=some x∧RelV x u)
  (hobj:∀ i h,St i h→∃ o ty vs,h.get? it=some o∧o.cls=.type ty∧o.data=.fields vs∧["enumerate","zip","dict_itemiterator","dict_reverseitemiterator","odict_iterator","itertools.zip_longest","itertools.pairwise"].contains ty=false)
  (hself:∀(A:Around) (i:Nat) (s:Shared) (Q:Value→Shared→Prop) (E:Value→Shared→Prop),St i s.heap→Q (.ref it) s→wpAny (model P w) A (pyIter (.ref it)) Q E s) :
  Turn P w K tg (Its xs) [it] it St where
 mem:=by simp
 obj:=fun i h st b hb=>by
  have e:b=it:=by simpa using hb
  subst e
  obtain⟨o,ty,vs,ho,_,hd,_⟩:=hobj i h st
  exact⟨o,ho,fun v z=>by rw[hd] at z;cases z⟩
 keep:=fun i h h' st k=>(hW {} rfl).frame i h h' st k
 item:=by
  intro X hP hw hK hc i pins s σ H E I hf st hg
  subst hP hw hK
  obtain⟨f0,f1,f2,f3,f4,f5⟩:=hf it (by simp)
  have hlt:i < n:=by rw[← hn];exact hg
  refine(hW X.A (I.ok.hd hc)).item i s _ E hlt st fun v h' tk pv st' k=>?_
  obtain⟨x,ex,rx⟩:=hx i v pv
  have I1:Inv X pins σ H { s with heap:=h',toks:=tk }:=I.turned (fun b o hb e=>k b o (by simpa using hb) e) f0 f1 f3 f4 f5
  obtain⟨o,ty,vs,ho,hcl,hd,hnn⟩:=hobj _ _ st'
  exact⟨v,rfl,go_of (s:={ s with heap:=h',toks:=tk }) ho hcl hd hnn ⟨x,H,I1,rx,⟨rfl,ex⟩,st',fun b hb=>(hf b hb).1⟩⟩
 done:=by
  intro X hP hw hK hc i pins s σ H E I hf st hg
  subst hP hw hK
  obtain⟨f0,f1,f2,f3,f4,f5⟩:=hf it (by simp)
  have e:i=n:=by rw[← hn];exact hg
  subst e
  exact(hW X.A (I.ok.hd hc)).done s _ E st fun h' tk k=>⟨rfl,I.turned (fun b o hb e=>k b o (by simpa using hb) e) f0 f1 f3 f4 f5⟩
 self:=hself
section
variable {X:Cx} {tg:Expr}
def anyIt (K:PySem.W.Frag) (R:It→Hp→Prop):V→Hp→Prop:=fun x H1=>match x with
 | .str z=>R (Its (chs z)) H1
 | .ref a=>(∃ xs,SqL K H1 a xs∧R (Itl K a) H1)∨(∃ xs,SqT K H1 a xs∧R (Itt K a) H1)
 | _=>False
def iAny (K:PySem.W.Frag) (te:TE):TI:=fun σ H R=>te σ H (anyIt K R)
theorem sign_rel {z:Str} {i:Nat} {u:Value} (h:SignAt z i u):∃ x,(chs z)[i]?=some x∧RelV x u:=by
 obtain⟨c,k,hc,rfl⟩:=h
 refine⟨.str ⟨#[c]⟩,?_,⟨k,rfl⟩⟩
 unfold chs
 rw[List.getElem?_map,Array.getElem?_toList,hc]
 rfl
theorem pi_any {K:PySem.W.Frag} {l:Expr} {tl:TE} (hl:PE X l tl) (hK:X.K=K:=by rfl):PI X tg l (iAny K tl):=by
 subst hK
 intro pins s σ H R I h
 refine thn (hl pins s σ H _ I h) fun v s1 ⟨x,H1,I1,r1,q1⟩=>?_
 have fresh1:∀ b∈[s1.heap.objs.size],FpOk X pins H1 b:=fun b hb=>by
  have e:b=s1.heap.objs.size:=by simpa using hb
  subst e
  exact I1.fpOk (Nat.le_refl _) (I1.hok.fresh (Nat.le_refl _))
 have kept1:∀ ob:Obj,Inv X pins σ H1 { s1 with heap:=s1.heap.push ob }:=fun ob=>I1.kept (t':=s1.toks) fun b o e=>Heap.get?_push_of_some _ e
 unfold anyIt at q1
 split at q1
 ·rename_i z
  obtain⟨t,rfl⟩:=r1
  have hlen:(chs z).length=z.cps.size:=by unfold chs;simp
  cases ha:z.cps.all (· < 128)
  ·refine wpAny_pyIter_wide ha ⟨s1.heap.objs.size,[s1.heap.objs.size],_,_,H1,rfl,kept1 _,turn_walks (fun A hA=>Walks.strWide hA s1.heap.objs.size z t) hlen (fun i u hu=>sign_rel hu) ?_ (fun A i s Q E st q=>wpAny_pyIter_striter_wide st q),⟨_,Heap.get?_push_size _ rfl,rfl,rfl⟩,fresh1,q1⟩
   intro i h st
   obtain⟨o,ho,hc,hd⟩:=st
   exact⟨o,_,_,ho,hc,hd,by decide⟩
  ·refine wpAny_pyIter_ascii ha ⟨s1.heap.objs.size,[s1.heap.objs.size],_,_,H1,rfl,kept1 _,turn_walks (fun A hA=>Walks.strAscii hA s1.heap.objs.size z t) hlen (fun i u hu=>sign_rel hu) ?_ (fun A i s Q E st q=>wpAny_pyIter_striter_ascii st q),⟨_,Heap.get?_push_size _ rfl,rfl,rfl⟩,fresh1,q1⟩
   intro i h st
   obtain⟨o,ho,hc,hd⟩:=st
   exact⟨o,_,_,ho,hc,hd,by decide⟩
 ·rename_i a
  cases r1
  rcases q1 with ⟨xs,e,q1⟩ | ⟨xs,e,q1⟩
  ·obtain⟨its,rv,p,hz⟩:=I1.list e
   exact wpAny_pyIter_list p.isList ⟨s1.heap.objs.size,[s1.heap.objs.size],_,_,H1,rfl,kept1 _,turn_list a _,⟨_,Heap.get?_push_size _ rfl,rfl,rfl⟩,fresh1,q1⟩
  ·obtain⟨its,rv,p,hz⟩:=I1.tuple e
   exact wpAny_pyIter_tuple (show s1.heap.IsTuple a its.toArray from p) ⟨s1.heap.objs.size,[s1.heap.objs.size],_,_,H1,rfl,kept1 _,turn_tuple a _,⟨_,Heap.get?_push_size _ rfl,rfl,rfl⟩,fresh1,q1⟩
 ·exact q1.elim
end
theorem comp_of {J:It} {n:Nat} {val:Nat→V} {p:Addr} {g:TG} {tc:TT} {te:TE} {Q:VK} {σ0:St} {H0:Hp} (Pv:Nat→List V→St→Hp→Prop)
  (hgo:∀ i acc σ H,i < n→Pv i acc σ H→J.go i H) (hst:∀ acc σ H,Pv n acc σ H→J.stop n H) (hy:∀ i acc σ H x H',i < n→Pv i acc σ H→J.yld i H x H'→H'=H∧x=val i)
  (h0:Pv 0 [] σ0 H0) (hp:∀ i acc σ H,Pv i acc σ H→H p=some (.lst acc)∧acc.length≤i) (hz:n≤sizeLine)
  (hs:∀ i acc σ H,i < n→Pv i acc σ H→g (val i) σ H fun σ3 H3=>tc σ3 H3 fun b H4 =>
   if b=true then te σ3 H4 fun v H5=>H5 p=some (.lst acc)∧Pv (i+1) (acc++[v]) σ3 (upd H5 p (.lst (acc++[v]))) else Pv (i+1) acc σ3 H4)
  (hd:∀ acc σ H,Pv n acc σ H→Q (.ref p) H) :
  CompRuns J p g tc te Q σ0 H0:=by
 refine⟨fun i m acc σ H=>m=n - i∧i≤n∧Pv i acc σ H,⟨n,by simp,Nat.zero_le _,h0⟩,fun i m acc σ' H' w=>?_⟩
 obtain⟨rfl,hi,q⟩:=w
 obtain⟨q1,q2⟩:=hp i acc σ' H' q
 refine⟨q1,?_⟩
 by_cases hlt:i < n
 ·refine .inr ⟨hgo i acc σ' H' hlt q,by omega,Pv (i+1),fun a' σ3 H3 k=>⟨n - (i+1),by omega,rfl,hlt,k⟩,fun x H2 y=>?_⟩
  obtain⟨rfl,rfl⟩:=hy i acc σ' H' x H2 hlt q y
  exact hs i acc σ' _ hlt q
 ·have e:i=n:=by omega
  subst e
  exact .inl ⟨hst acc σ' H' q,hd acc σ' H' q⟩
theorem comp_range {lo:Int} {n:Nat} {p:Addr} {g:TG} {tc:TT} {te:TE} {Q:VK} {σ0:St} {H0:Hp} (Pv:Nat→List V→St→Hp→Prop)
  (h0:Pv 0 [] σ0 H0) (hp:∀ i acc σ H,Pv i acc σ H→H p=some (.lst acc)∧acc.length≤i) (hz:n≤sizeLine)
  (hs:∀ i acc σ H,i < n→Pv i acc σ H→g (.int (lo+i)) σ H fun σ3 H3=>tc σ3 H3 fun b H4 =>
   if b=true then te σ3 H4 fun v H5=>H5 p=some (.lst acc)∧Pv (i+1) (acc++[v]) σ3 (upd H5 p (.lst (acc++[v]))) else Pv (i+1) acc σ3 H4)
  (hd:∀ acc σ H,Pv n acc σ H→Q (.ref p) H):CompRuns (Itr lo n) p g tc te Q σ0 H0 :=
 comp_of (J:=Itr lo n) (val:=fun i=>.int (lo+i)) Pv (fun _ _ _ _ h _=>h) (fun _ _ _ _=>Nat.le_refl n) (fun _ _ _ _ _ _ _ _ y=>y) h0 hp hz hs hd
theorem comp_its {xs:List V} {p:Addr} {g:TG} {tc:TT} {te:TE} {Q:VK} {σ0:St} {H0:Hp} (Pv:Nat→List V→St→Hp→Prop)
  (h0:Pv 0 [] σ0 H0) (hp:∀ i acc σ H,Pv i acc σ H→H p=some (.lst acc)∧acc.length≤i) (hz:xs.length≤sizeLine)
  (hs:∀ i acc σ H,i < xs.length→Pv i acc σ H→g (xs.getD i .non) σ H fun σ3 H3=>tc σ3 H3 fun b H4 =>
   if b=true then te σ3 H4 fun v H5=>H5 p=some (.lst acc)∧Pv (i+1) (acc++[v]) σ3 (upd H5 p (.lst (acc++[v]))) else Pv (i+1) acc σ3 H4)
  (hd:∀ acc σ H,Pv xs.length acc σ H→Q (.ref p) H):CompRuns (Its xs) p g tc te Q σ0 H0 :=
 comp_of (J:=Its xs) (n:=xs.length) (val:=fun i=>xs.getD i .non) Pv (fun _ _ _ _ h _=>h) (fun _ _ _ _=>rfl)
  (fun i _ _ _ x _ hi _ y=>⟨y.1,by have:=y.2;rw[List.getD_eq_getElem?_getD,this];rfl⟩) h0 hp hz hs hd
theorem comp_list {K:PySem.W.Frag} {a:Addr} {xs:List V} {p:Addr} {g:TG} {tc:TT} {te:TE} {Q:VK} {σ0:St} {H0:Hp} (Pv:Nat→List V→St→Hp→Prop)
  (hl:∀ i acc σ H,i≤xs.length→Pv i acc σ H→SqL K H a xs)
  (h0:Pv 0 [] σ0 H0) (hp:∀ i acc σ H,Pv i acc σ H→H p=some (.lst acc)∧acc.length≤i) (hz:xs.length≤sizeLine)
  (hs:∀ i acc σ H,i < xs.length→Pv i acc σ H→g (xs.getD i .non) σ H fun σ3 H3=>tc σ3 H3 fun b H4 =>
   if b=true then te σ3 H4 fun v H5=>H5 p=some (.lst acc)∧Pv (i+1) (acc++[v]) σ3 (upd H5 p (.lst (acc++[v]))) else Pv (i+1) acc σ3 H4)
  (hd:∀ acc σ H,Pv xs.length acc σ H→Q (.ref p) H):CompRuns (Itl K a) p g tc te Q σ0 H0 :=
 comp_of (J:=Itl K a) (n:=xs.length) (val:=fun i=>xs.getD i .non) Pv
  (fun i acc σ H hi q=>⟨xs,xs[i],(hl i acc σ H (Nat.le_of_lt hi) q),by simp[hi]⟩) (fun acc σ H q=>⟨xs,(hl _ acc σ H (Nat.le_refl _) q),Nat.le_refl _⟩)
  (fun i acc σ H x _ hi q y=>⟨y.1,by have:=y.2 xs (hl i acc σ H (Nat.le_of_lt hi) q);rw[List.getD_eq_getElem?_getD,this];rfl⟩) h0 hp hz hs hd
section
variable {X:Cx} {o e:Expr} {es:List Expr} {to:TE} {t:TA} {name:Str} {apos cpos:Pos} {T id:String} {r:V→List V→Hp→VK→Prop}
theorem pe_bmK {K:PySem.W.Frag} (pa:PlainAttrs T) (slot:Slot T name id) (hty:typeOf (.builtin id)=pure (.type "method_descriptor")) (hm:MtR X id r) (ho:PE X o to) (ha:PA X (e::es) t) (hK:X.K=K:=by rfl)
  (hb:attributeBase o name X.env (eval o X.env)=eval o X.env:=by rfl)
  (hf:((backTo cpos (starEach (e::es) X.env)).all (fun x=>!x.1)&&(backToKw cpos (keywordEach [] X.env)).all (fun x=>x.1.isSome)&&decide ((e::es).length+([]:List Keyword).length+(if ([]:List Keyword).isEmpty then 0 else 1) < 30))=true:=by rfl)
  (hl:(apos.endLine == cpos.line)=true:=by rfl) (he:starEach (e::es) X.env=(false,eval e X.env)::starEach es X.env:=by rfl) (hpl:(backTo cpos (starEach es X.env)).any (·.1)=false:=by rfl):PE X (.Call (.Attribute o name apos) (e::es) [] cpos) (tBM K T r to t):=by
 subst hK
 exact pe_bm pa slot hty hm ho ha hb hf hl he hpl
theorem pe_bm0K {K:PySem.W.Frag} (pa:PlainAttrs T) (slot:Slot T name id) (hty:typeOf (.builtin id)=pure (.type "method_descriptor")) (hm:MtR X id r) (ho:PE X o to) (hK:X.K=K:=by rfl)
  (hbase:attributeBase o name X.env (eval o X.env)=eval o X.env:=by rfl) (hline:(apos.endLine == cpos.line)=true:=by rfl):PE X (.Call (.Attribute o name apos) [] [] cpos) (tBM0 K T r to):=by
 subst hK
 exact pe_bm0 pa slot hty hm ho hbase hline
end
def fSet:V→V→V→Hp→(Hp→Prop)→Prop:=fun o i v H Q=>match o,i with
 | .ref p,.int k=>(match H p with
  | some (.lst xs)=>(match ixN xs.length k with | some j=>Q (upd H p (.lst (xs.set j v))) | none=>False)
  | _=>False)
 | _,_=>False
theorem set_l {X:Cx}:PSet X fSet:=fun pins s σ H o i v ov iv u Q I ro ri rv h=>by
 unfold fSet at h
 split at h
 ·split at h
  ·rename_i xs e
   split at h
   ·rename_i j ej
    exact set_list pins s σ H _ _ v ov iv u Q I ro ri rv ⟨_,_,_,_,rfl,rfl,e,ej,h⟩
   ·exact h.elim
  ·exact h.elim
 ·exact h.elim
structure Dn (P:Program) (w:World) (K:PySem.W.Frag) (mg:Str→Option Value) (base:Heap) (x:Str) (k:Nat) (ps:List Str) (sp:Sp):Prop where
 ex:∃(f:Addr) (fd:FuncData),mg x=some (.ref f)∧PySem.W.keepIn K (.ref f)=true∧Binds K fd ps []∧FnOk P w K mg base CX0 k f fd ps sp
theorem ji_ {X:Cx} {x:Str} {k:Nat} {ps:List Str} {sp:Sp} {e:Expr} {es:List Expr} {t:TA} {p pos:Pos} (D:Dn X.prog X.w X.K X.mg X.base x k ps sp) (hr:Room k X.A) (hg:Gl X x) (ha:PA X (e::es) t)
  (hdb:(x == ("__debug__":Str))=false:=by decide) (he:starEach (e::es) X.env=(false,eval e X.env)::starEach es X.env:=by rfl) (hpl:(backTo pos (starEach es X.env)).any (·.1)=false:=by rfl) :
  PE X (.Call (.Name x p) (e::es) [] pos) (tCall sp [] E0 t):=by
 obtain⟨f,fd,h1,h2,h3,h4⟩:=D.ex
 exact pe_call h4 hr hg h1 h2 h3 .nil pass0 ha hdb he hpl
end L2
namespace L2
open PySem
open Sem (wp)
open AutoSeq1 (wpAny_loadPart')
section
variable {prog:Program} {w:World} {A:Around} {E:Value→Shared→Prop} {s:Shared}
theorem nextT_item {it t:Addr} {i:Nat} {items:Array Value} {x:Value} {Q:Value→Shared→Prop} (hit:s.heap.IsTupleIter it t i) (ht:s.heap.IsTuple t items) (hx:items[i]?=some x)
  (hQ:∀ h',h'.IsTupleIter it t (i+1)→Heap.SameBut it s.heap h'→Q x { s with heap:=h' }):wpAny (model prog w) A (Builtin.SmallTypes.nextOf (.ref it)) Q E s:=by
 obtain⟨ob,hob,hcl,hdt⟩:=id hit
 obtain⟨ot,hot,_,nt,hdot⟩:=ht
 unfold Builtin.SmallTypes.nextOf
 refine wpAny_bind (wpAny_callSpecial?_slot (name:=Str.ofString "__next__") hit.typeIs F.slot_tuple_iterator_next (wpAny_call_entry F.slot_tuple_iterator_next hit.typeIs F.entry_tuple_iterator_next ?_ (F.args_tuple_iterator_next_1 _)))
 show wpAny _ _ (field (.ref it) 0 >>= _) _ _ s
 refine wpAny_bind (wpAny_field hob hdt (x:=.ref t) rfl ?_)
 have nn:¬ ((Value.ref t == Value.none)=true):=Bool.false_ne_true
 show wpAny _ _ (if (Value.ref t == Value.none)=true then _ else _) _ _ s
 rw[if_neg nn]
 show wpAny _ _ (field (.ref it) 1 >>= _) _ _ s
 refine wpAny_bind (wpAny_field hob hdt (x:=.int i 0) rfl ?_)
 show wpAny _ _ (seqItems? (.ref t) >>= _) _ _ s
 refine wpAny_bind (wpAny_seqItems hot hdot ?_)
 simp only[Int.toNat_natCast,hx]
 refine wpAny_bind (wpAny_setField hob hdt (by simp) (wpAny_pure ⟨x,rfl,wpAny_pure (hQ _ ?_ (Heap.SameBut.update ..))⟩))
 exact⟨_,Heap.get?_update_self _ hob (Obj.isFreed_of_fields (Obj.data_mapFields hdt _)),(Obj.cls_mapFields ..).trans hcl,by rw[Obj.data_mapFields hdt];simp[rawInt]⟩
theorem nextT_end {it t:Addr} {i:Nat} {items:Array Value} {Q:Value→Shared→Prop} (hh:A.handled=none) (hit:s.heap.IsTupleIter it t i) (ht:s.heap.IsTuple t items) (hx:items[i]?=none)
  (hE:∀ h' e,Heap.ExtBut it s.heap h'→(∃ o,h'.get? e=some o∧o.cls=.type "StopIteration")→E (.ref e) { s with heap:=h' }):wpAny (model prog w) A (Builtin.SmallTypes.nextOf (.ref it)) Q E s:=by
 obtain⟨ob,hob,hcl,hdt⟩:=id hit
 obtain⟨ot,hot,_,nt,hdot⟩:=ht
 unfold Builtin.SmallTypes.nextOf
 refine wpAny_bind (wpAny_callSpecial?_slot (name:=Str.ofString "__next__") hit.typeIs F.slot_tuple_iterator_next (wpAny_call_entry F.slot_tuple_iterator_next hit.typeIs F.entry_tuple_iterator_next ?_ (F.args_tuple_iterator_next_1 _)))
 show wpAny _ _ (field (.ref it) 0 >>= _) _ _ s
 refine wpAny_bind (wpAny_field hob hdt (x:=.ref t) rfl ?_)
 have nn:¬ ((Value.ref t == Value.none)=true):=Bool.false_ne_true
 show wpAny _ _ (if (Value.ref t == Value.none)=true then _ else _) _ _ s
 rw[if_neg nn]
 show wpAny _ _ (field (.ref it) 1 >>= _) _ _ s
 refine wpAny_bind (wpAny_field hob hdt (x:=.int i 0) rfl ?_)
 show wpAny _ _ (seqItems? (.ref t) >>= _) _ _ s
 refine wpAny_bind (wpAny_seqItems hot hdot ?_)
 simp only[Int.toNat_natCast,hx]
 refine wpAny_bind (wpAny_rule (wpAny_bind (wpAny_setField hob hdt (by simp) ?_)))
 show wpAny _ _ (newExc (.type "StopIteration") [] >>= _) _ _ _
 refine wpAny_bind ?_
 simp only[newExc,newTuple]
 refine wpAny_bind (wpAny_newObj_type ?_ (by size_fits))
 refine wpAny_bind (m:=firstArgMember _ _) (wpAny_of_eq (a:=Value.none) (by first | rfl | (simp only[firstArgMember];rfl)) (wpAny_newObj_type ?_ (by size_fits)))
 simp only[raiseNew]
 refine wpAny_bind (wpAny_handled ?_)
 first | rw[show A.in1.handled=none from hh] | rw[hh]
 exact wpAny_bind (wpAny_pure (wpAny_throw (hE _ _ (((Heap.SameBut.update ..).extBut.push _).push _) ⟨_,Heap.get?_push_size _ rfl,rfl⟩)))
end
theorem drawsTuple {prog:Program} {w:World} {A:Around} (hh:A.handled=none) (it t:Addr) (hne:t≠it) (items:Array Value) :
  Draws prog w A it [it,t] items.size (fun i v=>items[i]?=some v) (fun i h=>h.IsTupleIter it t i∧h.IsTuple t items) where
 live:=fun _ _ st=>let ⟨o,ho,_⟩:=st.1;⟨o,ho⟩
 frame:=fun _ _ _ st hk=>⟨st.1.at fun o e=>hk it (by simp) o e,let ⟨o,ho,r⟩:=st.2;⟨o,hk t (by simp) o ho,r⟩⟩
 item:=fun i s Q E hi st hQ=>by
  refine nextT_item st.1 st.2 (x:=items[i]) (by simp[hi]) fun h' hit' hs'=>?_
  exact hQ _ h' s.toks (by simp[hi]) ⟨hit',st.2.extBut hs'.extBut hne⟩ hs'
 done:=fun s Q E st hE=>nextT_end hh st.1 st.2 (by simp) hE
set_option maxHeartbeats 4000000 in
theorem enum_newT (l:Addr) (items:Array Value) (n:Nat) (dct:Option Addr) (sl:Array (Option Value)) (b:Int) (u:Tok) (hb:Builtin.SmallTypes.fitsIndex b=true) :
  Meets (Builtin.«enumerate.__new__» ⟨[.type "enumerate",.ref l],[(Str.ofString "start",.int b u)]⟩) (fun _ R s=>s.heap.get? l=some { cls:=.type "tuple",dict:=dct,data:=.seq items n,slots:=sl } ∧
   R (.ok (.ret (.ref (s.heap.push { cls:=.type "tuple_iterator",data:=.fields #[.ref l,.int 0 0] }).objs.size)))
    { s with heap:=(s.heap.push { cls:=.type "tuple_iterator",data:=.fields #[.ref l,.int 0 0] }).push { cls:=.type "enumerate",data:=.fields #[.none,.bool false,.ref s.heap.objs.size,rawInt b,.none,.none] } }) :=
 .of_wp fun prog w A R s h=>by
  obtain⟨hp,g,d,tk,os⟩:=s;obtain⟨hl,h⟩:=h
  have hsub:=sub_enumerate
  have hL:Heap.IsTuple (Shared.heap ⟨hp,g,d,tk,os⟩) l items:=⟨_,hl,rfl,n,rfl⟩
  have hb':(!Builtin.SmallTypes.fitsIndex b)=false:=by rw[hb];rfl
  wp_walk using wpAny_loadPart' hl
  refine wpAny_stack_any fun st=>wpAny_pure ?_
  split
  ·rename_i c _ _ _ _ _
   cases (c == Value.type "enumerate")
   ·wp_walk using wpAny_loadPart' hl,wpAny_pyIter_tuple hL
    exact⟨_,rfl,h⟩
   ·wp_walk using wpAny_loadPart' hl,wpAny_pyIter_tuple hL
    exact⟨_,rfl,h⟩
  ·wp_walk using wpAny_loadPart' hl,wpAny_pyIter_tuple hL
   exact⟨_,rfl,h⟩
set_option maxHeartbeats 4000000 in
theorem enum_newL (l:Addr) (items:Array Value) (n:Nat) (dct:Option Addr) (sl:Array (Option Value)) (b:Int) (u:Tok) (hb:Builtin.SmallTypes.fitsIndex b=true) :
  Meets (Builtin.«enumerate.__new__» ⟨[.type "enumerate",.ref l],[(Str.ofString "start",.int b u)]⟩) (fun _ R s=>s.heap.get? l=some { cls:=.type "list",dict:=dct,data:=.seq items n,slots:=sl } ∧
   R (.ok (.ret (.ref (s.heap.push { cls:=.type "list_iterator",data:=.fields #[.ref l,.int 0 0] }).objs.size)))
    { s with heap:=(s.heap.push { cls:=.type "list_iterator",data:=.fields #[.ref l,.int 0 0] }).push { cls:=.type "enumerate",data:=.fields #[.none,.bool false,.ref s.heap.objs.size,rawInt b,.none,.none] } }) :=
 .of_wp fun prog w A R s h=>by
  obtain⟨hp,g,d,tk,os⟩:=s;obtain⟨hl,h⟩:=h
  have hsub:=sub_enumerate
  have hL:Heap.IsList (Shared.heap ⟨hp,g,d,tk,os⟩) l items:=⟨_,hl,rfl,n,rfl⟩
  have hb':(!Builtin.SmallTypes.fitsIndex b)=false:=by rw[hb];rfl
  wp_walk using wpAny_loadPart' hl
  refine wpAny_stack_any fun st=>wpAny_pure ?_
  split
  ·rename_i c _ _ _ _ _
   cases (c == Value.type "enumerate")
   ·wp_walk using wpAny_loadPart' hl,wpAny_pyIter_list hL
    exact⟨_,rfl,h⟩
   ·wp_walk using wpAny_loadPart' hl,wpAny_pyIter_list hL
    exact⟨_,rfl,h⟩
  ·wp_walk using wpAny_loadPart' hl,wpAny_pyIter_list hL
   exact⟨_,rfl,h⟩
section
variable {prog:Program} {w:World} {A:Around} {E:Value→Shared→Prop} {s:Shared}
theorem initK {T newId:String} {self:Value} {rest:List Value} {kw:List (Str×Value)} (hl:typeLookup (.type T) "__init__"=pure (some (.builtin "object.__init__")))
  (hm:Bind.madeBy (.type T)=pure (some newId)) (hne:(some newId != some "object.__new__")=true) :
  Meets (Builtin.«object.__init__» ⟨self::rest,kw⟩) (fun _ R s=>s.TypeIs self T∧R (.ok (.ret .none)) s):=by
 refine Meets.of_wp fun prog w A R s hs=>?_
 obtain⟨hT,hq⟩:=hs
 cases rest with
 | nil =>
  cases kw with
  | nil=>exact wpAny_pure ⟨_,rfl,hq⟩
  | cons k kw =>
   repeat (any_goals (first | assumption | wp_step))
   exact⟨_,rfl,hq⟩
 | cons a rest =>
  repeat (any_goals (first | assumption | wp_step))
  exact⟨_,rfl,hq⟩
set_option maxHeartbeats 4000000 in
theorem callTypeK {T newId initId:String} {Bn Bi:Builtin} {args:List Value} {kw:List (Str×Value)} {S:Spec} {Q Q₁:Value→Shared→Prop} (ft:TypeCalled T newId initId)
  (hct:checkTypeCall T ⟨args,kw⟩=pure ()) (hcn:checkBuiltinCall newId ⟨.type T::args,kw⟩=pure ())
  (entryN:entryFor table newId=some Bn) (entryI:entryFor table initId=some Bi) (g:Meets (Bn ⟨.type T::args,kw⟩) S) (h:S A.in1 (wants Q₁ E) s)
  (hnext:∀ obj s₁,Q₁ obj s₁→s₁.TypeIs obj T∧argsOk initId ⟨obj::args,kw⟩∧∃ Si,Meets (Bi ⟨obj::args,kw⟩) Si∧Si A.in1 (wants (fun r s₂=>r=.none∧Q obj s₂) E) s₁) :
  wpAny (model prog w) A (call (.type T) args kw) Q E s:=by
 obtain⟨c,tl,hmro⟩:=ft.mro
 have hmade:=ft.made
 have hsub:=ft.sub
 refine wpAny_call (codeAny_of_tree ?_)
 show wpAny _ _ (callAny (.type T) _) _ _ _
 refine wpAny_pure ⟨Code.quiet_builtin _ (by decide +kernel),codeAny_builtin F.entry_type_call ?_⟩
 rw[Around.under_plain (weight_type_call_type T args kw) (units_type_call_type T args kw)]
 have h1:=ft.notType
 have h2:=ft.canCreate
 repeat (any_goals (first | assumption | wp_step))
 refine codeAny_mono (codeAny_call_builtin ft.plain entryN (wpAny_of_eq hcn (g prog w A.in1 _ s h))) fun r s₁ hr=>?_
 cases r with
 | error e=>exact hr
 | ok fl =>
  cases fl with
  | ret obj =>
   obtain⟨hT,hok,Si,gi,hsi⟩:=hnext _ _ hr
   have hli:=ft.init.lookup
   have hbi:=ft.init.bind obj
   repeat (any_goals (first | assumption | wp_step))
   refine codeAny_mono (codeAny_call_builtin ft.init.plain entryI (ft.init.check _ _ _ _ _ _ _ _ hT hok (gi prog w A.in1 _ s₁ hsi))) fun r₂ s₂ hr₂=>?_
   cases r₂ with
   | error e=>exact hr₂
   | ok fl₂ =>
    cases fl₂ with
    | ret r =>
     obtain⟨rfl,hq⟩:=hr₂
     repeat (any_goals (first | assumption | wp_step))
    | _=>exact hr₂.elim
  | _=>exact hr.elim
theorem chk1 (a b:Value):checkTypeCall "enumerate" ⟨[a],[(Str.ofString "start",b)]⟩=pure ():=by kernel_rfl
theorem chk2 (a b:Value):checkBuiltinCall "enumerate.__new__" ⟨[.type "enumerate",a],[(Str.ofString "start",b)]⟩=pure ():=by kernel_rfl
theorem argsK (obj a b:Value):argsOk "object.__init__" ⟨[obj,a],[(Str.ofString "start",b)]⟩:=by
 unfold argsOk
 rw[signature?_of (id:="object.__init__") (n:=['_','_','t','i','n','i','_','_']) (o:=['t','c','e','j','b','o']) (by kernel_rfl) F.owner_object]
 kernel_rfl
theorem call_enumT {l:Addr} {items:Array Value} {b:Int} {u:Tok} {Q:Value→Shared→Prop} (hL:s.heap.IsTuple l items) (hb:Builtin.SmallTypes.fitsIndex b=true)
  (h:∀ h',IsEnum h' (s.heap.objs.size+1) s.heap.objs.size b .none→h'.IsTupleIter s.heap.objs.size l 0→(∀ b o,s.heap.get? b=some o→h'.get? b=some o)→Q (.ref (s.heap.objs.size+1)) { s with heap:=h' }) :
  wpAny (model prog w) A (call (.type "enumerate") [.ref l] [(Str.ofString "start",.int b u)]) Q E s:=by
 obtain⟨⟨c,dct,dt,sl⟩,hl,hc,n,hd⟩:=hL
 simp only at hc hd
 subst hc hd
 refine callTypeK (Q₁:=fun obj s₁=>s₁.TypeIs obj "enumerate"∧Q obj s₁) F.called_enumerate (chk1 _ _) (chk2 _ _) F.entry_enumerate_new F.entry_object_init (enum_newT l items n dct sl b u hb) ⟨hl,?_⟩
  fun obj s₁ hq=>⟨hq.1,argsK obj _ _,_,initK F.called_enumerate.init.lookup F.called_enumerate.made (by decide),hq.1,rfl,hq.2⟩
 have hz:(s.heap.push { cls:=.type "tuple_iterator",data:=.fields #[.ref l,.int 0 0] }).objs.size=s.heap.objs.size+1:=Heap.size_push ..
 show _∧_
 rw[hz]
 have he:IsEnum ((s.heap.push { cls:=.type "tuple_iterator",data:=.fields #[.ref l,.int 0 0] }).push { cls:=.type "enumerate",data:=.fields #[.none,.bool false,.ref s.heap.objs.size,rawInt b,.none,.none] }) (s.heap.objs.size+1) s.heap.objs.size b .none:=by
  have:=Heap.get?_push_size (s.heap.push { cls:=.type "tuple_iterator",data:=.fields #[.ref l,.int 0 0] }) (o:={ cls:=.type "enumerate",data:=.fields #[.none,.bool false,.ref s.heap.objs.size,rawInt b,.none,.none] }) rfl
  rw[hz] at this;exact this
 exact⟨⟨_,he,rfl⟩,h _ he ⟨_,Heap.get?_push_of_some _ (Heap.get?_push_size _ rfl),rfl,rfl⟩ fun b o x=>Heap.get?_push_of_some _ (Heap.get?_push_of_some _ x)⟩
theorem call_enumL {l:Addr} {items:Array Value} {b:Int} {u:Tok} {Q:Value→Shared→Prop} (hL:s.heap.IsList l items) (hb:Builtin.SmallTypes.fitsIndex b=true)
  (h:∀ h',IsEnum h' (s.heap.objs.size+1) s.heap.objs.size b .none→h'.IsListIter s.heap.objs.size l 0→(∀ b o,s.heap.get? b=some o→h'.get? b=some o)→Q (.ref (s.heap.objs.size+1)) { s with heap:=h' }) :
  wpAny (model prog w) A (call (.type "enumerate") [.ref l] [(Str.ofString "start",.int b u)]) Q E s:=by
 obtain⟨⟨c,dct,dt,sl⟩,hl,hc,n,hd⟩:=hL
 simp only at hc hd
 subst hc hd
 refine callTypeK (Q₁:=fun obj s₁=>s₁.TypeIs obj "enumerate"∧Q obj s₁) F.called_enumerate (chk1 _ _) (chk2 _ _) F.entry_enumerate_new F.entry_object_init (enum_newL l items n dct sl b u hb) ⟨hl,?_⟩
  fun obj s₁ hq=>⟨hq.1,argsK obj _ _,_,initK F.called_enumerate.init.lookup F.called_enumerate.made (by decide),hq.1,rfl,hq.2⟩
 have hz:(s.heap.push { cls:=.type "list_iterator",data:=.fields #[.ref l,.int 0 0] }).objs.size=s.heap.objs.size+1:=Heap.size_push ..
 show _∧_
 rw[hz]
 have he:IsEnum ((s.heap.push { cls:=.type "list_iterator",data:=.fields #[.ref l,.int 0 0] }).push { cls:=.type "enumerate",data:=.fields #[.none,.bool false,.ref s.heap.objs.size,rawInt b,.none,.none] }) (s.heap.objs.size+1) s.heap.objs.size b .none:=by
  have:=Heap.get?_push_size (s.heap.push { cls:=.type "list_iterator",data:=.fields #[.ref l,.int 0 0] }) (o:={ cls:=.type "enumerate",data:=.fields #[.none,.bool false,.ref s.heap.objs.size,rawInt b,.none,.none] }) rfl
  rw[hz] at this;exact this
 exact⟨⟨_,he,rfl⟩,h _ he ⟨_,Heap.get?_push_of_some _ (Heap.get?_push_size _ rfl),rfl,rfl⟩ fun b o x=>Heap.get?_push_of_some _ (Heap.get?_push_of_some _ x)⟩
end
end L2
namespace L2
open PySem PySem.Spec PyProof.Rows
section
variable {X:Cx} {pins:List (Addr×Obj)} {σ:St} {H:Hp} {s:Shared} {h':Heap}
theorem Inv.turnedL {t':Nat} {ch:List Addr} (I:Inv X pins σ H s) (k:∀ b u,b∉ch→s.heap.get? b=some u→h'.get? b=some u) (hf:∀ b∈ch,FpOk X pins H b):Inv X pins σ H { s with heap:=h',toks:=t' }:=by
 have nch:∀ b u,H b=some u→b∉ch:=fun b u e z=>by rw[(hf b z).1] at e;cases e
 refine I.step (g':=s.gens) (d':=s.drawn) (ch:=ch) (fun b hb=>⟨(hf b hb).2.2.2.1,(hf b hb).2.1,(hf b hb).2.2.2.2.1,(hf b hb).2.2.2.2.2⟩)
  (fun b u _ _ hc e _=>k b u hc e) (fun b u _ _ hc e _=>⟨u.slots,k b u hc e⟩) (fun _ _ _ _ n=>n)
  (fun b u hc e=>⟨u,k b u hc e⟩) (fun _ _ e=>e) (fun _ _ _ e=>e) (fun b ps e=>⟨#[],by rw[e];simp⟩) (fun m hm=>?_) (fun b u e=>?_) I.bare
 ·obtain⟨ob,es,ep,ho,r⟩:=hm
  exact⟨ob,es,ep,k _ ob (fun z=>(hf _ z).2.1 rfl) ho,r⟩
 ·refine(I.hok b u e).stay (fun c v hc q=>k c v ?_ q) (fun _ q=>q) fun _ _ q=>q
  rcases hc with z | z
  ·rw[z];exact nch b u e
  ·exact nch c _ z
theorem Inv.turnedNew {t':Nat} {ch:List Addr} {T:Addr} {o:HO} (I:Inv X pins σ H s) (hT:s.heap.objs.size≤T)
  (k:∀ b u,b∉ch→s.heap.get? b=some u→h'.get? b=some u) (hf:∀ b∈ch,FpOk X pins H b) (new:ObjOk X.prog X.w (upd H T o) h' T o) :
  Inv X pins σ (upd H T o) { s with heap:=h',toks:=t' }:=by
 have hn:H T=none:=I.hok.fresh hT
 have nch:∀ b u,H b=some u→b∉ch:=fun b u e z=>by rw[(hf b z).1] at e;cases e
 refine I.step (g':=s.gens) (d':=s.drawn) (ch:=ch) (fun b hb=>⟨(hf b hb).2.2.2.1,(hf b hb).2.1,(hf b hb).2.2.2.2.1,(hf b hb).2.2.2.2.2⟩)
  (fun b u _ _ hc e _=>k b u hc e) (fun b u _ _ hc e _=>⟨u.slots,k b u hc e⟩) (fun b u _ e n=>by rw[jd_ (Nat.ne_of_lt (Nat.lt_of_lt_of_le (Heap.lt_size e) hT))];exact n)
  (fun b u hc e=>⟨u,k b u hc e⟩) (fun b xs e=>by rw[jd_ (je_ e hn)];exact e) (fun b u v e=>by rw[jd_ (je_ e hn)];exact e) (fun b ps e=>⟨#[],by rw[jd_ (je_ e hn),e];simp⟩)
  (fun m hm=>?_) (fun b u e=>?_) I.bare
 ·obtain⟨ob,es,ep,ho,r⟩:=hm
  exact⟨ob,es,ep,k _ ob (fun z=>(hf _ z).2.1 rfl) ho,r⟩
 ·by_cases hb:b=T
  ·subst hb;rw[jb_] at e;cases e;exact new
  ·rw[jd_ hb] at e
   refine(I.hok b u e).stay (fun c v hc q=>k c v ?_ q) (fun c q=>by rw[jd_ (je_ q hn)];exact q) fun c xs q=>by rw[jd_ (je_ q hn)];exact q
   rcases hc with z | z
   ·rw[z];exact nch b u e
   ·exact nch c _ z
end
theorem Draws.shift {P:Program} {w:World} {A:Around} {it:Addr} {fp:List Addr} {n:Nat} {Pv:Nat→Value→Prop} {St:Nat→Heap→Prop} (D:Draws P w A it fp n Pv St) (b:Nat) :
  Draws P w A it fp (b+n) (fun j x=>b≤j∧Pv (j - b) x) (fun j h=>b≤j∧St (j - b) h) where
 live:=fun j h st=>D.live _ _ st.2
 frame:=fun j h h' st k=>⟨st.1,D.frame _ _ _ st.2 k⟩
 item:=fun j s Q E hj st hQ=>D.item (j - b) s Q E (by have:=st.1;omega) st.2 fun x h' tk hP hS sb=>hQ x h' tk ⟨st.1,hP⟩ ⟨by have:=st.1;omega,by rw[show j+1 - b=j - b+1 by have:=st.1;omega];exact hS⟩ sb
 done:=fun s Q E st hE=>D.done s Q E (by have:=st.2;rwa [Nat.add_sub_cancel_left] at this) hE
def Ien (b:Nat) (xs:List V) (ok:Hp→Prop):It :=
 ⟨fun i H=>ok H∧i < xs.length,fun i H x H'=>∃ T v,H T=none∧xs[i]?=some v∧x=.ref T∧H'=upd H T (.tup [.int ((b:Int)+(i:Int)),v]),fun i H=>ok H∧i=xs.length⟩
def DrawAt (P:Program) (w:World) (A:Around) (it:Addr) (xs:List V) (St0:Nat→Heap→Prop) (H:Hp) (i:Nat) (h:Heap):Prop :=
 ∃(fp:List Addr) (Pv:Nat→Value→Prop) (St:Nat→Heap→Prop),Draws P w A it fp xs.length Pv St∧it∈fp∧(∀ b∈fp,b=it∨H b≠none)∧St i h∧(∀ j x,Pv j x→∃ v,xs[j]?=some v∧RelV v x)∧∀ j h',St j h'→St0 j h'
theorem turn_enum {P:Program} {w:World} {K:PySem.W.Frag} {elts:List Expr} {k:Nat} {pos:Pos} {e it:Addr} {xs:List V} {b:Nat} {ok:Hp→Prop} {St0:Nat→Heap→Prop} (hei:e≠it)
  (hD:∀(X:Cx),X.prog=P→X.w=w→X.K=K→X.calm=true→∀(i:Nat) (pins:List (Addr×Obj)) (s:Shared) (σ:St) (H:Hp),Inv X pins σ H s→ok H→H it=none→St0 i s.heap→DrawAt P w X.A.in1 it xs St0 H i s.heap)
  (hobj:∀ i h,St0 i h→∃ o,h.get? it=some o∧∀ v,o.data≠.cell v) (hkeep:∀ i h h',St0 i h→(∀ o,h.get? it=some o→h'.get? it=some o)→St0 i h') :
  Turn P w K (.Tuple elts k pos) (Ien b xs ok) [e,it] e (fun i h=>(∃ old,IsEnum h e it ((b+i:Nat):Int) old)∧St0 i h) where
 mem:=by simp
 obj:=fun i h st c hc=>by
  rcases List.mem_cons.mp hc with z | z
  ·obtain⟨⟨old,he⟩,_⟩:=st
   rw[z]
   exact⟨_,he,fun v q=>by
    have q':Data.fields _=Data.cell v:=q
    cases q'⟩
  ·have z':c=it:=by simpa using z
   rw[z']
   exact hobj i h st.2
 keep:=fun i h h' st kk=>by
  obtain⟨⟨old,he⟩,hs⟩:=st
  exact⟨⟨old,kk e (by simp) _ he⟩,hkeep i h h' hs fun o q=>kk it (by simp) o q⟩
 item:=by
  intro X hP hw hK hc i pins s σ H E I hf st hg
  subst hP hw hK
  obtain⟨⟨old,he⟩,hs⟩:=st
  obtain⟨hok,hlt⟩:=hg
  obtain⟨fp,Pv,St,D,hif,hfp,hst,hrel,hback⟩:=hD X rfl rfl rfl hc i pins s σ H I hok (hf it (by simp)).1 hs
  have hef:e∉fp:=fun z=>by
   rcases hfp e z with q | q
   ·exact hei q
   ·exact q (hf e (by simp)).1
  have W:=WalksT.enumerateD (Draws.shift D b) e hei hef hif
  refine W.item (b+i) s _ E (by omega) ⟨⟨old,he⟩,by omega,by rw[Nat.add_sub_cancel_left];exact hst⟩ fun T vals h1 tk hPv hT hTup hm hk=>⟨.ref T,rfl,?_⟩
  obtain⟨t,x,⟨_,hPx⟩,rfl⟩:=hPv
  rw[Nat.add_sub_cancel_left] at hPx
  obtain⟨v,hv,rv⟩:=hrel _ _ hPx
  have apart:=W.apart _ _ _ hm
  refine W.go elts k pos (b+i) T _ _ E hm fun h2 st2 hk2=>?_
  have kk:∀ c u,c∉[e,it]→s.heap.get? c=some u→h2.get? c=some u:=fun c u hc q=>hk2 c u hc (hk c u hc q)
  have tup2:IsTup h2 T #[.int ((b+i:Nat):Int) t,x]:=by
   obtain⟨o,ho,r⟩:=hTup
   exact⟨o,hk2 T o apart ho,r⟩
  refine⟨.ref T,upd H T (.tup [.int ((b:Int)+(i:Int)),v]),I.turnedNew (t':=tk) hT kk hf ?_,rfl,⟨T,v,I.hok.fresh hT,hv,rfl,rfl⟩,?_,?_⟩
  ·refine⟨by show 2≤sizeLine;decide,[.int ((b+i:Nat):Int) t,x],.cons ⟨t,?_⟩ (.cons rv .nil),tup2⟩
   rw[Int.natCast_add]
  ·obtain⟨⟨old2,he2⟩,_,hs2⟩:=st2
   refine⟨⟨old2,he2⟩,hback _ _ ?_⟩
   rwa [show b+i+1 - b=i+1 by omega] at hs2
  ·intro c hc
   have hlt:c < s.heap.objs.size:=by
    rcases List.mem_cons.mp hc with z | z
    ·rw[z];exact Heap.lt_size he
    ·have z':c=it:=by simpa using z
     rw[z']
     obtain⟨o,ho,_⟩:=hobj i _ hs
     exact Heap.lt_size ho
   rw[jd_ (Nat.ne_of_lt (Nat.lt_of_lt_of_le hlt hT))]
   exact(hf c hc).1
 done:=by
  intro X hP hw hK hc i pins s σ H E I hf st hg
  subst hP hw hK
  obtain⟨⟨old,he⟩,hs⟩:=st
  obtain⟨hok,rfl⟩:=hg
  obtain⟨fp,Pv,St,D,hif,hfp,hst,hrel,hback⟩:=hD X rfl rfl rfl hc _ pins s σ H I hok (hf it (by simp)).1 hs
  have hef:e∉fp:=fun z=>by
   rcases hfp e z with q | q
   ·exact hei q
   ·exact q (hf e (by simp)).1
  have W:=WalksT.enumerateD (Draws.shift D b) e hei hef hif
  exact W.done s _ E ⟨⟨old,he⟩,by omega,by rw[Nat.add_sub_cancel_left];exact hst⟩ fun h1 tk hk=>⟨rfl,I.turnedL hk hf⟩
 self:=fun A i s Q E st q=>by
  obtain⟨⟨old,he⟩,_⟩:=st
  exact wpAny_pyIter_enum he q
section
variable {X:Cx}
end
def enItS (n:Nat) (R:It→Hp→Prop):V→Hp→Prop:=fun x H1=>match x with
 | .ref a=>(∃ xs,H1 a=some (.lst xs)∧R (Ien n xs fun H=>H a=some (.lst xs)) H1)∨(∃ xs,H1 a=some (.tup xs)∧R (Ien n xs fun H=>H a=some (.tup xs)) H1)
 | _=>False
def iEnumS (te ts:TE):TI:=fun σ H R=>te σ H fun x H1=>ts σ H1 fun y H2=>∃ n:Nat,y=.int (n:Int)∧n < 1000000∧enItS n R x H2
theorem drawList {X:Cx} {pins:List (Addr×Obj)} {σ:St} {H:Hp} {s:Shared} {it a:Addr} {xs:List V} {i:Nat} (hc:X.calm=true) (I:Inv X pins σ H s) (h:SqL X.K H a xs) (hn:H it=none) (ha:H a≠none) (st:s.heap.IsListIter it a i) :
  DrawAt X.prog X.w X.A.in1 it xs (fun i h=>h.IsListIter it a i) H i s.heap:=by
 obtain⟨its,rv,pl,hz⟩:=I.list h
 have hl:its.toArray.size=xs.length:=by rw[List.size_toArray];exact rv.length.symm
 have hne:a≠it:=fun z=>ha (z▸hn)
 refine⟨[it,a],_,_,hl▸Draws.list (A:=X.A.in1) (show X.A.in1.handled=none from I.ok.hd hc) it a hne its.toArray,by simp,fun b hb=>?_,⟨st,pl.isList⟩,fun j x hx=>?_,fun _ _ q=>q.1⟩
 ·rcases List.mem_cons.mp hb with z | z
  ·exact .inl z
  ·have z':b=a:=by simpa using z
   rw[z'];exact .inr ha
 ·have hx':its[j]?=some x:=by simpa using hx
  have hj:j < xs.length:=by rw[rv.length];exact(List.getElem?_eq_some_iff.mp hx').1
  obtain⟨u,hu,ru⟩:=rv.get (i:=j) (x:=xs[j]) (by simp[hj])
  rw[hx'] at hu
  cases hu
  exact⟨xs[j],by simp[hj],ru⟩
theorem drawTup {X:Cx} {pins:List (Addr×Obj)} {σ:St} {H:Hp} {s:Shared} {it a:Addr} {xs:List V} {i:Nat} (hc:X.calm=true) (I:Inv X pins σ H s) (h:SqT X.K H a xs) (hn:H it=none) (ha:H a≠none) (st:s.heap.IsTupleIter it a i) :
  DrawAt X.prog X.w X.A.in1 it xs (fun i h=>h.IsTupleIter it a i) H i s.heap:=by
 obtain⟨its,rv,pl,hz⟩:=I.tuple h
 have hl:its.toArray.size=xs.length:=by rw[List.size_toArray];exact rv.length.symm
 have hne:a≠it:=fun z=>ha (z▸hn)
 refine⟨[it,a],_,_,hl▸drawsTuple (A:=X.A.in1) (show X.A.in1.handled=none from I.ok.hd hc) it a hne its.toArray,by simp,fun b hb=>?_,⟨st,pl⟩,fun j x hx=>?_,fun _ _ q=>q.1⟩
 ·rcases List.mem_cons.mp hb with z | z
  ·exact .inl z
  ·have z':b=a:=by simpa using z
   rw[z'];exact .inr ha
 ·have hx':its[j]?=some x:=by simpa using hx
  have hj:j < xs.length:=by rw[rv.length];exact(List.getElem?_eq_some_iff.mp hx').1
  obtain⟨u,hu,ru⟩:=rv.get (i:=j) (x:=xs[j]) (by simp[hj])
  rw[hx'] at hu
  cases hu
  exact⟨xs[j],by simp[hj],ru⟩
section
variable {X:Cx}
theorem pi_enumS {elts:List Expr} {k:Nat} {tpos:Pos} {a b:Expr} {ta tb:TE} {p pos kpos:Pos} (hg:Gl X "enumerate") (hm:X.mg "enumerate"=none) (ha:PE X a ta) (hb:PE X b tb) (hs:starEach [a] X.env=[(false,eval a X.env)]:=by rfl) :
  PI X (.Tuple elts k tpos) (.Call (.Name "enumerate" p) [a] [⟨some "start",b,kpos⟩] pos) (iEnumS ta tb):=by
 intro pins s σ H R I h
 refine wpAny_Call_Name_kw (ld_blt I hg hm boot_enumerate ?_)
 refine PySem.W.callWith_of (P:=fun _=>True) (by rw[hs];rfl) (fun _ _=>⟨.machine,.inr (.inl rfl),PySem.W.Looks.of_pure rfl⟩) (PyProof.Rows.evalArgs_kw2 (by rfl) ?_ hs)
 rw[hs]
 show wpAny _ _ (spliced ((false,eval a X.env)::backTo pos (starEach [] X.env))) _ _ s
 refine Calls.spliced_cons (thn (ha pins s σ H _ I h) fun u s1 ⟨x,H1,I1,ru,q1⟩=>Calls.spliced_nil ?_)
 show wpAny _ _ (evalAll ((do let v ← eval b X.env;standAt pos;pure v)::[])) _ _ s1
 refine wpAny_evalAll_cons (wpAny_bind (thn (hb pins s1 σ H1 _ I1 q1) fun u2 s2 ⟨y,H2,I2,ry,n,ey,hn,q2⟩=>wpAny_bind (wpAny_standAt (wpAny_pure (wpAny_evalAll_nil ⟨trivial,?_⟩)))))
 subst ey
 obtain⟨t,rfl⟩:=ry
 show wpAny _ _ (call (.type "enumerate") [u] [(Str.ofString "start",.int (n:Int) t)]) _ _ s2
 have hfit:Builtin.SmallTypes.fitsIndex (n:Int)=true:=by
  unfold Builtin.SmallTypes.fitsIndex
  have e:((2:Int) ^ 63)=9223372036854775808:=by decide
  simp only[e,Bool.and_eq_true,decide_eq_true_eq]
  omega
 unfold enItS at q2
 split at q2
 ·rename_i l _
  cases ru
  have fp:∀ b∈[s2.heap.objs.size+1,s2.heap.objs.size],FpOk X pins H2 b:=fun b hb=>by
   have:s2.heap.objs.size≤b:=by
    rcases List.mem_cons.mp hb with z | z
    ·rw[z];exact Nat.le_succ _
    ·have z':b=s2.heap.objs.size:=by simpa using z
     rw[z'];exact Nat.le_refl _
   exact I2.fpOk this (I2.hok.fresh this)
  rcases q2 with ⟨xs,hl,q2⟩ | ⟨xs,hl,q2⟩
  ·obtain⟨its,rv,pl,hz⟩:=I2.list (SqL.of hl)
   refine call_enumL pl.isList hfit fun h1 he hit hk=>?_
   refine wpAny_pyIter_enum he ?_
   refine⟨s2.heap.objs.size+1,[s2.heap.objs.size+1,s2.heap.objs.size],_,_,H2,rfl,I2.kept (t':=s2.toks) hk,turn_enum (b:=n) (ok:=fun H=>H l=some (.lst xs)) (xs:=xs) (St0:=fun i h=>h.IsListIter s2.heap.objs.size l i) (Nat.succ_ne_self _) ?_ ?_ ?_,⟨⟨.none,he⟩,hit⟩,fp,q2⟩
   ·intro X' h1 h2 h3 hc i pins s σ H I ok hn st
    exact h1▸h2▸drawList hc I (SqL.of ok) hn (by rw[ok];exact fun z=>nomatch z) st
   ·intro i h st
    obtain⟨o,ho,hc,hd⟩:=st
    exact⟨o,ho,fun v q=>by rw[hd] at q;cases q⟩
   ·intro i h h' st kk
    exact st.at kk
  ·obtain⟨its,rv,pl,hz⟩:=I2.tuple (SqT.of hl)
   refine call_enumT pl hfit fun h1 he hit hk=>?_
   refine wpAny_pyIter_enum he ?_
   refine⟨s2.heap.objs.size+1,[s2.heap.objs.size+1,s2.heap.objs.size],_,_,H2,rfl,I2.kept (t':=s2.toks) hk,turn_enum (b:=n) (ok:=fun H=>H l=some (.tup xs)) (xs:=xs) (St0:=fun i h=>h.IsTupleIter s2.heap.objs.size l i) (Nat.succ_ne_self _) ?_ ?_ ?_,⟨⟨.none,he⟩,hit⟩,fp,q2⟩
   ·intro X' h1 h2 h3 hc i pins s σ H I ok hn st
    exact h1▸h2▸drawTup hc I (SqT.of ok) hn (by rw[ok];exact fun z=>nomatch z) st
   ·intro i h st
    obtain⟨o,ho,hc,hd⟩:=st
    exact⟨o,ho,fun v q=>by rw[hd] at q;cases q⟩
   ·intro i h h' st kk
    exact st.at kk
 ·exact q2.elim
end
theorem for_en {b:Nat} {xs:List V} {ok:Hp→Prop} {g:TG} {tb:TS} {D:Ends} {σ:St} {H:Hp} (Pv:Nat→St→Hp→Prop) (h0:Pv 0 σ H) (hok:∀ i σ H,i≤xs.length→Pv i σ H→ok H)
  (hs:∀ i v σ H T,xs[i]?=some v→Pv i σ H→H T=none→g (.ref T) σ (upd H T (.tup [.int ((b:Int)+(i:Int)),v])) fun σ2 H2=>tb { D with nx:=Pv (i+1),ct:=Pv (i+1),bk:=D.nx } σ2 H2) (hd:∀ σ H,Pv xs.length σ H→D.nx σ H) :
  ∃ W:Nat→Nat→St→Hp→Prop,(∃ m,W 0 m σ H)∧∀ i m σ H,W i m σ H →
   ((Ien b xs ok).stop i H∧D.nx σ H)∨((Ien b xs ok).go i H∧∃ N:St→Hp→Prop,(∀ σ' H',N σ' H'→∃ m',m' < m∧W (i+1) m' σ' H')∧∀ x H',(Ien b xs ok).yld i H x H'→g x σ H' fun σ2 H2=>tb { D with nx:=N,ct:=N,bk:=D.nx } σ2 H2):=by
 refine⟨fun i m σ H=>m=xs.length - i∧i≤xs.length∧Pv i σ H,⟨xs.length,by simp,Nat.zero_le _,h0⟩,fun i m σ' H' w=>?_⟩
 obtain⟨rfl,hi,p⟩:=w
 have ho:=hok i σ' H' hi p
 by_cases hlt:i < xs.length
 ·refine .inr ⟨⟨ho,hlt⟩,Pv (i+1),fun σ2 H2 p'=>⟨xs.length - (i+1),by omega,rfl,hlt,p'⟩,fun x H2 y=>?_⟩
  obtain⟨T,v,hT,hv,rfl,rfl⟩:=y
  exact hs i v σ' H' T hv p hT
 ·have e:i=xs.length:=by omega
  exact .inl ⟨⟨ho,e⟩,hd σ' H' (e▸p)⟩
end L2
namespace L2
open PySem PySem.Spec PyProof.Rows
section
variable {σ:St} {H:Hp} {D:Ends} {Q:VK} {QB:Bool→Hp→Prop} {QA:List V→Hp→Prop}
theorem i_seq {t u:TS} (h:t { D with nx:=u D } σ H):tSeq t u D σ H:=h
theorem i_ifs {c:TT} {t u:TS} (h:c σ H fun b H1=>if b=true then t D σ H1 else u D σ H1):tIfS c t u D σ H:=h
theorem i_next (h:D.nx σ H):tNext D σ H:=h
theorem i_ret {te:TE} (h:te σ H D.rt):tRet te D σ H:=h
theorem i_drop {te:TE} (h:te σ H fun _ H1=>D.nx σ H1):tDrop te D σ H:=h
theorem i_asg {te:TE} {g:TG} (h:te σ H fun x H1=>g x σ H1 D.nx):tAsg te g D σ H:=h
theorem i_name {i:Nat} {v:V} {K:St→Hp→Prop} (h:K (σ.set i (some v)) H):gName i v σ H K:=h
theorem i_gsub {to ti:TE} {t:TSet} {v:V} {K:St→Hp→Prop} (h:to σ H fun o H1=>ti σ H1 fun i H2=>t o i v H2 fun H3=>K σ H3):gSub to ti t v σ H K:=h
theorem i_gtup {K':PySem.W.Frag} {n:Nat} {t:TGs} {a:Addr} {xs:List V} {K:St→Hp→Prop} (h1:H a=some (.tup xs)) (h2:xs.length=n) (h:t xs σ H K):gTup K' n t (.ref a) σ H K:=⟨a,xs,rfl,SqT.of h1,h2,h⟩
theorem i_gnil {K:St→Hp→Prop} (h:K σ H):gNil [] σ H K:=⟨rfl,h⟩
theorem i_gcons {t:TG} {u:TGs} {v:V} {r:List V} {K:St→Hp→Prop} (h:t v σ H fun σ' H'=>u r σ' H' K):gCons t u (v::r) σ H K:=⟨v,r,rfl,h⟩
theorem i_for {wi:TI} {g:TG} {tb:TS} (h:wi σ H fun J H1=>∃ W:Nat→Nat→St→Hp→Prop,(∃ m,W 0 m σ H1)∧∀ i m σ H,W i m σ H →
 (J.stop i H∧D.nx σ H)∨(J.go i H∧∃ N:St→Hp→Prop,(∀ σ' H',N σ' H'→∃ m',m' < m∧W (i+1) m' σ' H')∧∀ x H',J.yld i H x H'→g x σ H' fun σ2 H2=>tb { D with nx:=N,ct:=N,bk:=D.nx } σ2 H2)):tFor wi g tb D σ H:=h
theorem i_var {i:Nat} {v:V} (e:σ[i]?=some (some v)) (h:Q v H):tVar i σ H Q:=⟨v,e,h⟩
theorem i_c {v:V} (h:Q v H):tC v σ H Q:=h
theorem i_op {r:R2} {ta tb:TE} (h:ta σ H fun x H1=>tb σ H1 fun y H2=>r x y H2 Q):tOp r ta tb σ H Q:=h
theorem i_un {r:V→Hp→VK→Prop} {ta:TE} (h:ta σ H fun x H1=>r x H1 Q):tUn r ta σ H Q:=h
theorem i_test {t:TE} (h:t σ H fun x H'=>∃ k,x=.bl k∧QB k H'):tTest t σ H QB:=h
theorem i_bl {b:Bool} {P:Bool→Prop} (h:P b):∃ k,V.bl b=.bl k∧P k:=⟨b,rfl,h⟩
theorem i_and {t u:TT} (h:t σ H fun c H1=>if c=true then u σ H1 QB else QB false H1):tAnd t u σ H QB:=h
theorem i_or {t u:TT} (h:t σ H fun c H1=>if c=true then QB true H1 else u σ H1 QB):tOr t u σ H QB:=h
theorem i_not {t:TT} (h:t σ H fun c H1=>QB (!c) H1):tNot t σ H QB:=h
theorem i_andV {ta tb:TE} (h:ta σ H fun x H1=>∃ c,x=.bl c∧if c=true then tb σ H1 Q else Q (.bl false) H1):tAndV ta tb σ H Q:=h
theorem i_ifE {t:TT} {ta tb:TE} (h:t σ H fun c H1=>if c=true then ta σ H1 Q else tb σ H1 Q):tIf t ta tb σ H Q:=h
theorem i_chain {r r':R2} {ta tb tc:TE} (h:ta σ H fun x H1=>tb σ H1 fun y H2=>r x y H2 fun z H3=>∃ k,z=.bl k∧(if k=true then tc σ H3 fun w' H4=>r' y w' H4 Q else Q (.bl false) H3)):tChain r r' ta tb tc σ H Q:=h
theorem i_nil (h:QA [] H):tNil σ H QA:=h
theorem i_cons {ta:TE} {tr:TA} (h:ta σ H fun x H1=>tr σ H1 fun xs H2=>QA (x::xs) H2):tCons ta tr σ H QA:=h
theorem i_cb {r:List V→Hp→VK→Prop} {t:TA} (h:t σ H fun vs H1=>r vs H1 Q):tCB r t σ H Q:=h
theorem i_call {sp:Sp} {dvs:List V} {E:XK} {t:TA} (h:t σ H fun vs H1=>sp (vs++dvs) H1 Q E):tCall sp dvs E t σ H Q:=h
theorem i_lst {t:TA} (h:t σ H fun xs H1=>xs.length≤sizeLine∧∀ p,H1 p=none→Q (.ref p) (upd H1 p (.lst xs))):tLst t σ H Q:=h
theorem i_tup {t:TA} (h:t σ H fun xs H1=>xs.length≤sizeLine∧∀ p,H1 p=none→Q (.ref p) (upd H1 p (.tup xs))):tTup t σ H Q:=h
theorem i_bm {K:PySem.W.Frag} {T:String} {r:V→List V→Hp→VK→Prop} {to:TE} {t:TA} (h:to σ H fun x H1=>tyV K T x H1∧t σ H1 fun xs H2=>r x xs H2 Q):tBM K T r to t σ H Q:=h
theorem i_bm0 {K:PySem.W.Frag} {T:String} {r:V→List V→Hp→VK→Prop} {to:TE} (h:to σ H fun x H1=>tyV K T x H1∧r x [] H1 Q):tBM0 K T r to σ H Q:=h
theorem i_sl {r:V→Option Int→Option Int→Hp→VK→Prop} {te:TE} {tl th:TO} (h:te σ H fun x H1=>tl σ H1 fun l H2=>th σ H2 fun u H3=>r x l u H3 Q):tSl r te tl th σ H Q:=h
theorem i_nopart {K:Option Int→Hp→Prop} (h:K none H):tNoPart σ H K:=h
theorem i_part {t:TE} {K:Option Int→Hp→Prop} (h:t σ H fun x H1=>∃ i,x=.int i∧K (some i) H1):tPart t σ H K:=h
theorem i_exI {i:Int} {P:Int→Prop} (h:P i):∃ k,V.int i=.int k∧P k:=⟨i,rfl,h⟩
theorem i_comp {ix:List (Option Nat)} {wi:TI} {g:TG} {tc:TT} {te:TE} (h:wi σ H fun J H1=>∀ p,H1 p=none→CompRuns J p g tc te Q (pick ix σ) (upd H1 p (.lst []))):tComp ix wi g tc te σ H Q:=h
theorem i_true (h:QB true H):tTrue σ H QB:=h
theorem i_rng1 {ta:TA} {R:It→Hp→Prop} (h:ta σ H fun vs H1=>∃ j:Int,vs=[.int j]∧-(2 ^ 62)≤j∧j < 2 ^ 62∧R (Itr 0 j.toNat) H1):iRng1 ta σ H R:=h
theorem p62:((2:Int) ^ 62)=4611686018427387904:=by decide
theorem p63:((2:Int) ^ 63)=9223372036854775808:=by decide
theorem i_r1 {j:Int} {P:Int→Prop} (h1:-1000000000≤j∧j≤1000000000) (h:P j):∃ k:Int,[V.int j]=[.int k]∧-(2 ^ 62)≤k∧k < 2 ^ 62∧P k:=⟨j,rfl,by rw[p62];omega,by rw[p62];omega,h⟩
theorem i_rng2 {ta:TA} {R:It→Hp→Prop} (h:ta σ H fun vs H1=>∃ i j:Int,vs=[.int i,.int j]∧(-(2 ^ 62)≤i∧i < 2 ^ 62∧-(2 ^ 62)≤j∧j < 2 ^ 62)∧R (Itr i (j - i).toNat) H1):iRng2 ta σ H R:=h
theorem i_r2 {i j:Int} {P:Int→Int→Prop} (h1:-1000000000≤i∧i≤1000000000∧-1000000000≤j∧j≤1000000000) (h:P i j):∃ a b:Int,[V.int i,V.int j]=[.int a,.int b]∧(-(2 ^ 62)≤a∧a < 2 ^ 62∧-(2 ^ 62)≤b∧b < 2 ^ 62)∧P a b:=⟨i,j,rfl,by rw[p62];omega,h⟩
theorem i_any {K:PySem.W.Frag} {te:TE} {R:It→Hp→Prop} (h:te σ H (anyIt K R)):iAny K te σ H R:=h
theorem i_anyS {K:PySem.W.Frag} {R:It→Hp→Prop} {z:Str} (h:R (Its (chs z)) H):anyIt K R (.str z) H:=h
theorem i_anyL {K:PySem.W.Frag} {R:It→Hp→Prop} {a:Addr} {xs:List V} (h1:SqL K H a xs) (h:R (Itl K a) H):anyIt K R (.ref a) H:=.inl ⟨xs,h1,h⟩
theorem i_anyT {K:PySem.W.Frag} {R:It→Hp→Prop} {a:Addr} {xs:List V} (h1:SqT K H a xs) (h:R (Itt K a) H):anyIt K R (.ref a) H:=.inr ⟨xs,h1,h⟩
theorem i_enumS {te ts:TE} {R:It→Hp→Prop} (h:te σ H fun x H1=>ts σ H1 fun y H2=>∃ n:Nat,y=.int (n:Int)∧n < 1000000∧enItS n R x H2):iEnumS te ts σ H R:=h
theorem i_enSL {n:Nat} {R:It→Hp→Prop} {a:Addr} {xs:List V} (h1:H a=some (.lst xs)) (h:R (Ien n xs fun H=>H a=some (.lst xs)) H):enItS n R (.ref a) H:=.inl ⟨xs,h1,h⟩
theorem i_enST {n:Nat} {R:It→Hp→Prop} {a:Addr} {xs:List V} (h1:H a=some (.tup xs)) (h:R (Ien n xs fun H=>H a=some (.tup xs)) H):enItS n R (.ref a) H:=.inr ⟨xs,h1,h⟩
theorem i_tyS {K:PySem.W.Frag} {z:Str} {R:Prop} (h:R):tyV K "str" (.str z) H∧R:=⟨rfl,h⟩
theorem i_tyL {K:PySem.W.Frag} {p:Addr} {xs:List V} {R:Prop} (h1:SqL K H p xs) (h:R):tyV K "list" (.ref p) H∧R:=⟨.inl ⟨rfl,xs,h1⟩,h⟩
theorem i_fI0 {g:Int→Int→V} {i j:Int} (h:Q (g i j) H):fI0 g (.int i) (.int j) H Q:=h
theorem i_fI {C:Int→Int→Prop} {g:Int→Int→V} {i j:Int} (c:C i j) (h:Q (g i j) H):fI C g (.int i) (.int j) H Q:=⟨c,h⟩
theorem i_addI {i j:Int} (h:Q (.int (i+j)) H):fAdd (.int i) (.int j) H Q:=h
theorem i_addS {i j:Str} (c:i.length+j.length≤sizeLine) (h:Q (.str (i++j)) H):fAdd (.str i) (.str j) H Q:=⟨c,h⟩
theorem i_addL {a b:Addr} {xs ys:List V} (h1:H a=some (.lst xs)) (h2:H b=some (.lst ys)) (c:xs.length+ys.length≤sizeLine) (h:∀ p,H p=none→Q (.ref p) (upd H p (.lst (xs++ys)))):fAdd (.ref a) (.ref b) H Q:=by
 show (match H a,H b with | some (.lst xs),some (.lst ys)=>_ | some (.tup xs),some (.tup ys)=>_ | _,_=>_)
 rw[h1,h2];exact⟨c,h⟩
theorem i_mulI {i j:Int} (c:CMul i j) (h:Q (.int (i * j)) H):fMul (.int i) (.int j) H Q:=⟨c,h⟩
theorem i_mulL {a:Addr} {xs:List V} {k:Int} (h1:H a=some (.lst xs)) (c:-1000000000≤k∧k≤1000000000∧xs.length * k.toNat≤1000000) (h:∀ p,H p=none→Q (.ref p) (upd H p (.lst (List.replicate k.toNat xs).flatten))):fMul (.ref a) (.int k) H Q:=by
 show (match H a with | some (.lst xs)=>_ | _=>_)
 rw[h1];exact⟨by rw[p63];omega,by rw[p63];omega,Nat.le_trans c.2.2 (by decide),h⟩
theorem i_ixK {K:PySem.W.Frag} {p:Addr} {i:Int} {xs:List V} {v:V} (h1:SqL K H p xs) (h2:atI xs i=some v) (h:Q v H):fIx K (.ref p) (.int i) H Q:=⟨xs,v,.inl h1,h2,h⟩
theorem i_ixR {K:PySem.W.Frag} {p:Addr} {i:Int} {xs:List V} {v:V} (h1:seqR H p=some xs) (h2:atI xs i=some v) (h:Q v H):fIx K (.ref p) (.int i) H Q:=⟨xs,v,seqR_sq h1,h2,h⟩
theorem i_ixS {K:PySem.W.Frag} {z:Str} {i:Int} {c:Nat} (hz:z.length≤sizeLine) (h2:atI z.cps.toList i=some c) (h:Q (.str ⟨#[c]⟩) H):fIx K (.str z) (.int i) H Q:=by
 refine⟨hz,?_⟩
 rw[h2];exact h
theorem i_set {p:Addr} {k:Int} {v:V} {xs:List V} {j:Nat} {K:Hp→Prop} (h1:H p=some (.lst xs)) (h2:ixN xs.length k=some j) (h:K (upd H p (.lst (xs.set j v)))):fSet (.ref p) (.int k) v H K:=by
 show (match H p with | some (.lst xs)=>(match ixN xs.length k with | some j=>K (upd H p (.lst (xs.set j v))) | none=>False) | _=>False)
 rw[h1];dsimp only;rw[h2];exact h
theorem i_neg {i:Int} (h:Q (.int (-i)) H):fNeg (.int i) H Q:=h
theorem i_eq {x y:V} (c:scal x y=true) (h:Q (.bl (decide (x=y))) H):fEq x y H Q:=.inl ⟨c,h⟩
theorem i_ne {x y:V} (c:scal x y=true) (h:Q (.bl (!decide (x=y))) H):fNe x y H Q:=.inl ⟨c,h⟩
theorem i_neD {x y:V} {d:Dt} (h1:Is H x d) (h2:Is H y d) (c:okD d) (h:Q (.bl false) H):fNe x y H Q:=.inr ⟨d,d,h1,h2,c,c,by rw[eqD_self c];exact h⟩
theorem i_is {x:V} (h:Q (.bl (decide (x=.non))) H):fIs x .non H Q:=⟨rfl,h⟩
theorem i_inS {neg:Bool} {i j:Str} (h:Q (.bl (xor neg (Txt.contains j i))) H):fIn neg (.str i) (.str j) H Q:=h
theorem i_inR {neg:Bool} {x:V} {p:Addr} {xs:List V} (h1:seqR H p=some xs) (c:flatV x=true∧xs.all flatV=true) (h:Q (.bl (if neg then !inV x xs else inV x xs)) H):fIn neg x (.ref p) H Q:=by
 unfold fIn
 cases x <;> (dsimp only;rw[h1];exact⟨c.1,c.2,h⟩)
theorem i_lenS {K:PySem.W.Frag} {z:Str} (hz:z.length≤sizeLine) (h:Q (.int z.length) H):fLen K [.str z] H Q:=⟨hz,h⟩
theorem i_lenK {K:PySem.W.Frag} {p:Addr} {xs:List V} (h1:SqL K H p xs) (h:Q (.int xs.length) H):fLen K [.ref p] H Q:=⟨xs,.inl h1,h⟩
theorem i_lenR {K:PySem.W.Frag} {p:Addr} {xs:List V} (h1:seqR H p=some xs) (h:Q (.int xs.length) H):fLen K [.ref p] H Q:=⟨xs,seqR_sq h1,h⟩
theorem i_1I {g:Int→V} {i:Int} (h:Q (g i) H):f1I g [.int i] H Q:=h
theorem i_2I {g:Int→Int→V} {i j:Int} (h:Q (g i j) H):f2I g [.int i,.int j] H Q:=h
theorem i_listR {p:Addr} {xs:List V} (h1:seqR H p=some xs) (h:∀ q,H q=none→Q (.ref q) (upd H q (.lst xs))):fList [.ref p] H Q:=by
 show (match seqR H p with | some ys=>GetL H ys Q | none=>False)
 rw[h1];exact h
theorem i_tupleR {p:Addr} {xs:List V} (h1:seqR H p=some xs) (h:GetT H xs Q):fTuple [.ref p] H Q:=by
 show (match seqR H p with | some ys=>GetT H ys Q | none=>False)
 rw[h1];exact h
theorem i_slS {K:PySem.W.Frag} {z:Str} {lo hi:Option Int} (hz:z.length≤sizeLine) (h:Q (.str (Txt.slice z lo hi)) H):fSl K (.str z) lo hi H Q:=⟨hz,h⟩
theorem i_slL {K:PySem.W.Frag} {a:Addr} {xs:List V} {lo hi:Option Int} (h1:SqL K H a xs) (h:∀ q,H q=none→Q (.ref q) (upd H q (.lst (cutV xs lo hi)))):fSl K (.ref a) lo hi H Q:=.inl ⟨xs,h1,h⟩
theorem i_truB {b:Bool} (h:QB b H):fTru (.bl b) H QB:=h
theorem i_appL {l:Addr} {y:V} {xs:List V} (h1:H l=some (.lst xs)) (c:xs.length < sizeLine) (h:Q .non (upd H l (.lst (xs++[y])))):fAppend (.ref l) [y] H Q:=by
 show (match H l with | some (.lst xs)=>xs.length < sizeLine∧Q .non (upd H l (.lst (xs++[y]))) | _=>False)
 rw[h1];exact⟨c,h⟩
theorem i_join {z:Str} {p:Addr} {ys:List Str} (h1:lstR H p=some (ys.map V.str)) (c:(ys.map (·.length)).sum+ys.length * z.length≤16777216) (h:Q (.str (Txt.join z ys)) H):fJoin (.str z) [.ref p] H Q:=by
 show (match lstR H p with | some xs=>(match strs? xs with | some ys=>(ys.map (·.length)).sum+ys.length * z.length≤16777216∧Q (.str (Txt.join z ys)) H | none=>False) | none=>False)
 rw[h1];dsimp only;rw[strs?_map];exact⟨c,h⟩
theorem i_SS {g:Str→Str→V} {z y:Str} (h:Q (g z y) H):fSS g (.str z) [.str y] H Q:=h
theorem i_SSI {g:Str→Str→Int→V} {z y:Str} {i:Int} (h:Q (g z y i) H):fSSI g (.str z) [.str y,.int i] H Q:=h
theorem i_allL {f:List Bool→Bool} {p:Addr} {bs:List Bool} (h1:lstR H p=some (bs.map V.bl)) (h:Q (.bl (f bs)) H):fAll f [.ref p] H Q:=by
 show (match lstR H p with | some ys=>(match bls? ys with | some bs=>Q (.bl (f bs)) H | none=>False) | none=>False)
 rw[h1];dsimp only;rw[bls?_map];exact h
theorem i_isi {x:V} {t T:String} (h1:tyN H x=some t) (c:knownT T=true) (h:Q (.bl (subB t T)) H):fIsi [x,.ty T] H Q:=by
 show (match tyN H x with | some t=>knownT T=true∧Q (.bl (subB t T)) H | none=>False)
 rw[h1];exact⟨c,h⟩
theorem i_isi2 {x:V} {p:Addr} {t T T':String} (h1:tyN H x=some t) (h2:H p=some (.tup [.ty T,.ty T'])) (c:knownT T=true∧knownT T'=true) (h:Q (.bl (subB t T || subB t T')) H):fIsi [x,.ref p] H Q:=by
 show (match tyN H x,tupR H p with | some t,some ts=>(match tys? ts with | some Ts=>Ts.all knownT=true∧Q (.bl (Ts.any (subB t))) H | none=>False) | _,_=>False)
 rw[h1,tupR_of h2]
 show [T,T'].all knownT=true∧Q (.bl ([T,T'].any (subB t))) H
 refine⟨by simp[c.1,c.2],?_⟩
 have e:[T,T'].any (subB t)=(subB t T || subB t T'):=by simp
 rw[e];exact h
end
theorem iteD {c A B:Prop} [Decidable c] (h1:c→A) (h2:¬ c→B):if decide c=true then A else B:=by
 by_cases h:c
 ·rw[if_pos (decide_eq_true h)];exact h1 h
 ·rw[if_neg (by rw[decide_eq_false h];exact Bool.false_ne_true)];exact h2 h
theorem iteDT {c A B:Prop} [Decidable c] (hc:c) (h:A):if decide c=true then A else B:=by rw[if_pos (decide_eq_true hc)];exact h
theorem iteDF {c A B:Prop} [Decidable c] (hc:¬ c) (h:B):if decide c=true then A else B:=by rw[if_neg (by rw[decide_eq_false hc];exact Bool.false_ne_true)];exact h
theorem iteBT {b:Bool} {A B:Prop} (h:b=true) (hA:A):if b=true then A else B:=by rw[if_pos h];exact hA
theorem iteBF {b:Bool} {A B:Prop} (h:b=false) (hB:B):if b=true then A else B:=by rw[h];exact iteF hB
theorem szc {xs:List V} (h:decide (xs.length≤1000)=true):xs.length≤sizeLine:=Nat.le_trans (of_decide_eq_true h) (by decide)
theorem szn {n:Nat} (h:n≤1000000):n≤sizeLine:=Nat.le_trans h (by decide)
theorem i_sz {xs:List V} {R:Prop} (h:xs.length≤sizeLine) (r:R):xs.length≤sizeLine∧R:=⟨h,r⟩
theorem tyN_tup {H:Hp} {a:Addr} {xs:List V} (h:H a=some (.tup xs)):tyN H (.ref a)=some "tuple":=by
 show (match H a with | some (.lst _)=>some "list" | some (.frz _ (.lst _))=>some "list" | some (.tup _)=>some "tuple" | _=>none)=_
 rw[h]
theorem tyN_lst {H:Hp} {a:Addr} {xs:List V} (h:H a=some (.lst xs)):tyN H (.ref a)=some "list":=by
 show (match H a with | some (.lst _)=>some "list" | some (.frz _ (.lst _))=>some "list" | some (.tup _)=>some "tuple" | _=>none)=_
 rw[h]
theorem jg_ {H:Hp} {p:Addr} (h:H p=none) (o:HO):Same H (upd H p o):=fun b u q=>by rw[jd_ (je_ q h)];exact q
theorem iteB {b:Bool} {A B:Prop} (h1:b=true→A) (h2:b=false→B):if b=true then A else B:=by
 cases b
 ·exact iteF (h2 rfl)
 ·exact iteT (h1 rfl)
theorem atI_0 {α:Type} (x:α) (xs:List α):atI (x::xs) 0=some x:=atI_nat (xs:=x::xs) (j:=0) (v:=x) rfl
theorem atI_1 {α:Type} (x y:α) (xs:List α):atI (x::y::xs) 1=some y:=atI_nat (xs:=x::y::xs) (j:=1) (v:=y) rfl
theorem atI_2 {α:Type} (x y z:α) (xs:List α):atI (x::y::z::xs) 2=some z:=atI_nat (xs:=x::y::z::xs) (j:=2) (v:=z) rfl
theorem atI_3 {α:Type} (x y z u:α) (xs:List α):atI (x::y::z::u::xs) 3=some u:=atI_nat (xs:=x::y::z::u::xs) (j:=3) (v:=u) rfl
theorem ixN_of {n:Nat} {i:Int} (h:0≤i) (h2:i < n):ixN n i=some i.toNat:=by
 unfold ixN;rw[if_pos h,if_pos h2]
theorem seqR_upd {H:Hp} {p:Addr} {xs:List V}:seqR (upd H p (.lst xs)) p=some xs:=jn_ jb_
theorem lstR_upd {H:Hp} {p:Addr} {xs:List V}:lstR (upd H p (.lst xs)) p=some xs:=lstR_of jb_
theorem seqR_updT {H:Hp} {p:Addr} {xs:List V}:seqR (upd H p (.tup xs)) p=some xs:=seqR_tup jb_
theorem atI_of {α:Type} {xs:List α} {i:Int} {v:α} (h:0≤i) (h2:xs[i.toNat]?=some v):atI xs i=some v:=by
 have e:i=((i.toNat:Nat):Int):=by omega
 rw[e];exact atI_nat h2
theorem CMul.l {i j:Int} (h1:-(2 ^ 64) < i) (h2:i < 2 ^ 64):CMul i j:=.inl ⟨h1,h2⟩
theorem CMul.r {i j:Int} (h1:-(2 ^ 64) < j) (h2:j < 2 ^ 64):CMul i j:=.inr ⟨h1,h2⟩
def Off (p:Addr) (H H':Hp):Prop:=∀ b,b≠p→H' b=H b
def Kept (p:Addr) (H H':Hp):Prop:=∀ b o,b≠p→H b=some o→H' b=some o
theorem Off.kept {p:Addr} {H H':Hp} (h:Off p H H'):Kept p H H':=fun b o hb e=>(h b hb).trans e
theorem Off.refl (p:Addr) (H:Hp):Off p H H:=fun _ _=>rfl
theorem Off.trans {p:Addr} {H H1 H2:Hp} (a:Off p H H1) (b:Off p H1 H2):Off p H H2:=fun c hc=>(b c hc).trans (a c hc)
theorem Off.upd {p:Addr} {H H1:Hp} (a:Off p H H1) (o:HO):Off p H (L2.upd H1 p o):=fun c hc=>(jd_ hc).trans (a c hc)
theorem Kept.refl (p:Addr) (H:Hp):Kept p H H:=fun _ _ _ e=>e
theorem Kept.trans {p:Addr} {H H1 H2:Hp} (a:Kept p H H1) (b:Kept p H1 H2):Kept p H H2:=fun c o hc e=>b c o hc (a c o hc e)
theorem Kept.new {p q:Addr} {H H1:Hp} (a:Kept p H H1) (hq:H1 q=none) (o:HO):Kept p H (L2.upd H1 q o):=fun c u hc e=>by
 rw[jd_ (je_ (a c u hc e) hq)];exact a c u hc e
end L2
namespace L2
def joinL (sep:List Nat):List (List Nat)→List Nat
 | []=>[]
 | [x]=>x
 | x::y::r=>x++sep++joinL sep (y::r)
theorem joinL_nil:∀ ls:List (List Nat),joinL [] ls=ls.flatten
 | []=>rfl
 | [x]=>by simp[joinL]
 | x::y::r=>by
  have:=joinL_nil (y::r)
  simp only[joinL,this,List.append_nil,List.flatten_cons]
def Rise (b n:Nat):List Nat→Prop
 | []=>True
 | g::gs=>b < g∧g < n∧Rise g n gs
def isLow (c:Nat):Bool:=decide (97≤c∧c≤122)
def Low (l:List Nat):Prop:=∀ c∈l,isLow c=true
structure RS where
 w:List Nat
 g:List Nat
 lacks:Bool
end L2
namespace L2
open PySem PySem.Builtin PySem.Builtin.Str
def S (l:List Nat):Str:=⟨l.toArray⟩
theorem S_cps (l:List Nat):(S l).cps.toList=l:=rfl
theorem jt_ (l:List Nat):(S l).length=l.length:=by show l.toArray.size=_;simp
theorem S_append (a b:List Nat):S a++S b=S (a++b):=by
 show (⟨a.toArray++b.toArray⟩:Str)=⟨(a++b).toArray⟩
 rw[List.append_toArray]
theorem S_inj {a b:List Nat} (h:S a=S b):a=b:=by
 have:=congrArg (fun z:Str=>z.cps.toList) h
 exact this
def sx (n d:Nat):Option Int→Nat
 | none=>d
 | some v=>if v < 0 then (v+(n:Int)).toNat else min v.toNat n
def cutA {α:Type} (l:List α) (lo hi:Option Int):List α:=(l.drop (sx l.length 0 lo)).take (sx l.length l.length hi - sx l.length 0 lo)
theorem sx_le (n d:Nat) (hd:d≤n) (o:Option Int):sx n d o≤n:=by
 cases o with
 | none=>exact hd
 | some v=>simp only[sx];split <;> omega
theorem sliceIx (lo hi:Option Int) (n:Nat):strSliceIndices lo hi 1 n=(List.range (sx n n hi - sx n 0 lo)).map (sx n 0 lo+·):=by
 have key:∀(a c:Nat),sliceRange (a:Int) (c:Int) 1=(List.range (c - a)).map (a+·):=fun a c=>by
  unfold sliceRange
  have e:(if (1:Int) > 0 then (if (a:Int) < (c:Int) then ((c:Int) - a+1 - 1) / 1 else 0) else (if (a:Int) > (c:Int) then ((a:Int) - c - 1 - 1) / (-1) else 0)).toNat=c - a:=by
   rw[if_pos (by decide)]
   split
   ·rw[Int.ediv_one];omega
   ·omega
  simp only[e]
  apply List.map_congr_left
  intro k _
  omega
 have cl:∀ v:Int,max 0 (min (if v < 0 then v+(n:Int) else v) (n:Int))=(((if v < 0 then (v+(n:Int)).toNat else min v.toNat n):Nat):Int):=fun v=>by
  by_cases hv:v < 0
  ·simp only[if_pos hv];omega
  ·simp only[if_neg hv];omega
 unfold strSliceIndices
 have h1:((1:Int) > 0)=True:=by simp
 cases lo with
 | none =>
  cases hi with
  | none=>simp only[h1,if_true];exact key 0 n
  | some v=>simp only[h1,if_true,cl];exact key 0 _
 | some u =>
  cases hi with
  | none=>simp only[h1,if_true,cl];exact key _ n
  | some v=>simp only[h1,if_true,cl];exact key _ _
theorem pickL (l:List Nat):∀(m a:Nat),a+m≤l.length→((List.range m).map (a+·)).filterMap (l.toArray[·]?)=(l.drop a).take m
 | 0,a,_=>by simp
 | m+1,a,h=>by
  have ha:a < l.length:=by omega
  rw[List.range_succ_eq_map,List.map_cons,List.filterMap_cons,List.map_map]
  have e:((a+·)∘Nat.succ)=((a+1)+·):=by funext k;simp;omega
  have:=pickL l m (a+1) (by omega)
  rw[e,this,List.drop_eq_getElem_cons ha,List.take_succ_cons]
  simp[ha]
theorem slice_raw (l:List Nat) (lo hi:Option Int) :
  (if ((1:Int) == 1&&(strSliceIndices lo hi 1 (S l).length).length == (S l).length)=true then S l else ⟨((strSliceIndices lo hi 1 (S l).length).filterMap ((S l).cps[·]?)).toArray⟩:Str)=S (cutA l lo hi):=by
 have h1:=sx_le l.length l.length (Nat.le_refl _) hi
 have h2:=sx_le l.length 0 (Nat.zero_le _) lo
 rw[jt_,sliceIx]
 unfold cutA
 generalize sx l.length l.length hi=c at *
 generalize sx l.length 0 lo=a at *
 split
 ·rename_i hc
  simp only[List.length_map,List.length_range,beq_self_eq_true,Bool.true_and,beq_iff_eq] at hc
  by_cases h0:l.length=0
  ·have:l=[]:=List.length_eq_zero_iff.mp h0
   subst this;simp
  ·have ha:a=0:=by omega
   have hc':c=l.length:=by omega
   subst ha hc'
   simp
 ·by_cases hac:a≤c
  ·show S _=S _
   congr 1
   exact pickL l _ a (by omega)
  ·have:c - a=0:=by omega
   rw[this]
   simp[S]
theorem occ_stop (s sub:Str) (hi:Nat):∀(l:List Nat) (arr:Array Nat) (f:Nat),1≤arr.size→(forIn l (arr,f) (StrLaws.occBody s sub hi 1)).run.fst=arr
 | [],_,_,_=>rfl
 | a::l,arr,f,h=>by
  rw[List.forIn_cons]
  unfold StrLaws.occBody
  have c:¬ ((((arr,f).fst.size < 1∧(arr,f).snd≤a)∧a+sub.length≤hi)∧subAt s sub a=true):=fun q=>by
   have t:arr.size < 1:=q.1.1.1
   omega
  rw[if_neg c]
  exact occ_stop s sub hi l arr f h
theorem occ_first (s sub:Str) (hi:Nat):∀(l:List Nat) (f:Nat),(∀ i∈l,f≤i) →
  (forIn l ((#[]:Array Nat),f) (StrLaws.occBody s sub hi 1)).run.fst.toList=(l.find? fun i=>decide (i+sub.length≤hi)&&subAt s sub i).toList
 | [],_,_=>rfl
 | a::l,f,hf=>by
  rw[List.forIn_cons]
  unfold StrLaws.occBody
  have ha:f≤a:=hf a List.mem_cons_self
  by_cases hc:a+sub.length≤hi∧subAt s sub a=true
  ·have c1:((((#[]:Array Nat),f).fst.size < 1∧((#[]:Array Nat),f).snd≤a)∧a+sub.length≤hi)∧subAt s sub a=true:=⟨⟨⟨by simp,ha⟩,hc.1⟩,hc.2⟩
   rw[if_pos c1]
   have e:=occ_stop s sub hi l (#[].push a) (a+sub.length) (by simp)
   have e2:(decide (a+sub.length≤hi)&&subAt s sub a)=true:=by simp[hc.1,hc.2]
   rw[List.find?_cons,e2]
   show ((forIn l ((#[]:Array Nat).push a,a+sub.length) (StrLaws.occBody s sub hi 1)).run.fst).toList=_
   rw[e]
   simp
  ·have c2:¬ (((((#[]:Array Nat),f).fst.size < 1∧((#[]:Array Nat),f).snd≤a)∧a+sub.length≤hi)∧subAt s sub a=true):=fun q=>hc ⟨q.1.2,q.2⟩
   rw[if_neg c2]
   have e2:(decide (a+sub.length≤hi)&&subAt s sub a)=false:=by
    rw[Bool.eq_false_iff]
    intro q
    simp only[Bool.and_eq_true,decide_eq_true_eq] at q
    exact hc q
   rw[List.find?_cons,e2]
   exact occ_first s sub hi l f fun i hi'=>hf i (List.mem_cons_of_mem _ hi')
def fits (p l:List Nat) (i:Nat):Bool:=decide (i+p.length≤l.length)&&((l.drop i).take p.length == p)
theorem subAt_S (l p:List Nat) (i:Nat):subAt (S l) (S p) i=((l.drop i).take p.length == p):=by
 rw[StrLaws.subAt_eq,jt_];rfl
theorem occ_S (l p:List Nat) (k:Nat):occurrences (S l) (S p) k (S l).length 1=((List.range' k (l.length+1 - k)).find? (fits p l)).toList:=by
 rw[StrLaws.occ_eq,jt_,occ_first _ _ _ _ k (fun i hi=>by have:=List.mem_range'.mp hi;omega)]
 have e:(fun i=>decide (i+(S p).length≤l.length)&&subAt (S l) (S p) i)=fits p l:=by
  funext i
  rw[subAt_S,jt_];rfl
 rw[e]
def findL (p l:List Nat) (k:Nat):Int:=match (List.range' k (l.length+1 - k)).find? (fits p l) with
 | some i=>(i:Int)
 | none=>-1
theorem find_raw (l p:List Nat) (k:Nat):(match occurrences (S l) (S p) k (S l).length 1 with | i::_=>(i:Int) | []=>-1)=findL p l k:=by
 rw[occ_S]
 unfold findL
 cases (List.range' k (l.length+1 - k)).find? (fits p l) <;> rfl
theorem joinS (sep:List Nat):∀ ls:List (List Nat),Str.join (S sep) (ls.map S)=S (joinL sep ls)
 | []=>rfl
 | [x]=>rfl
 | x::y::r=>by
  have ih:=joinS sep (y::r)
  show S x++S sep++Str.join (S sep) ((y::r).map S)=_
  rw[ih,S_append,S_append]
  rfl
theorem has_one (big:List Nat) (c:Nat):(!(occurrences (S big) (S [c]) 0 (S big).length 1).isEmpty)=decide (c∈big):=by
 have:=StrLaws.found_one (S big) c
 exact this
end L2
namespace L2
open PySem PySem.Spec PyProof.Rows
def LET:Str:=S [97,98,99,100,101,102,103,104,105,106,107,108,109,110,111,112,113,114,115,116,117,118,119,120,121,122]
theorem let_eq:Str.ofString "abcdefghijklmnopqrstuvwxyz"=LET:=by decide +kernel
theorem let_has (c:Nat):Txt.contains LET (S [c])=isLow c:=by
 show (!(Builtin.Str.occurrences LET ⟨#[c]⟩ 0 LET.length 1).isEmpty)=_
 rw[StrLaws.found_one]
 show decide (c∈[97,98,99,100,101,102,103,104,105,106,107,108,109,110,111,112,113,114,115,116,117,118,119,120,121,122])=_
 unfold isLow
 rw[decide_eq_decide]
 simp only[List.mem_cons,List.not_mem_nil,or_false]
 omega
def FeedAt (H:Hp) (p:Addr) (n:Nat):Prop:=∃ a b c:Int,H p=some (.lst [.int a,.int b,.int c])∧0≤a∧0≤b∧b < 2147483399∧0≤c∧c≤n
theorem FeedAt.mono {H:Hp} {p:Addr} {n m:Nat} (h:FeedAt H p n) (e:n≤m):FeedAt H p m:=by
 obtain⟨a,b,c,h1,h2,h3,h4,h5,h6⟩:=h
 exact⟨a,b,c,h1,h2,h3,h4,h5,by omega⟩
theorem FeedAt.new {H:Hp} {p q:Addr} {n:Nat} {o:HO} (h:FeedAt H p n) (hq:H q=none):FeedAt (upd H q o) p n:=by
 obtain⟨a,b,c,h1,r⟩:=h
 exact⟨a,b,c,by rw[jd_ (je_ h1 hq)];exact h1,r⟩
theorem FeedAt.some {H:Hp} {p:Addr} {n:Nat} (h:FeedAt H p n):∃ o,H p=some o:=by
 obtain⟨a,b,c,h1,r⟩:=h
 exact⟨_,h1⟩
def feedTop:Nat:=1000000
def spFeed (K:PySem.W.Frag):Sp:=fun vs H Q _=>∃(a:Addr) (ns:List Int) (k:Int),vs=[.ref a,.int k]∧SqL K H a (ns.map V.int)∧0≤k∧k < 1000 ∧
 ∀(p:Addr) (H':Hp),H p=none→FeedAt H' p 0→Off p H H'→Q (.ref p) H'
def spNext:Sp:=fun vs H Q _=>∃(p:Addr) (m:Int) (n:Nat),vs=[.ref p,.int m]∧FeedAt H p n∧n < feedTop∧0 < m∧m < 1073741824 ∧
 ∀(d:Int) (H':Hp),0≤d→d < m→FeedAt H' p (n+1)→Off p H H'→Q (.int d) H'
def spLetters:Sp:=fun vs H Q _=>∃(p:Addr) (n:Nat),vs=[.ref p]∧FeedAt H p n∧n+3 < feedTop ∧
 ∀(l:List Nat) (H':Hp),Low l→2≤l.length→l.length≤26→FeedAt H' p (n+3)→Off p H H'→Q (.str (S l)) H'
def spWord:Sp:=fun vs H Q _=>∃(p:Addr) (n:Nat) (l:List Nat) (m:Nat),vs=[.ref p,.str (S l),.int m]∧FeedAt H p n∧n+30 < feedTop∧Low l∧1≤l.length∧l.length≤26∧1≤m∧m≤25 ∧
 ∀(w:List Nat) (H':Hp),Low w→1≤w.length→w.length≤m→FeedAt H' p (n+30)→Kept p H H'→Q (.str (S w)) H'
def spAlike (n:Nat):Sp:=fun vs H Q _=>∃(u v:V) (d:Dt),vs=[u,v]∧Is H u d∧Is H v d∧dep d < n∧wid d≤100000∧∀ H',Same H H'→Q (.bl true) H'
end L2
namespace L2
open PySem PySem.Spec PyProof.Rows
mutual
def cstE:Expr→Option Dt
 | .Constant (.int i) _ _=>some (.int i)
 | .Constant (.str x) _ _=>some (.str x)
 | .Constant (.bool b) _ _=>some (.bl b)
 | .Tuple es _ _=>(cstL es).map .tup
 | .List es _=>(cstL es).map .lst
 | _=>none
def cstL:List Expr→Option (List Dt)
 | []=>some []
 | e::es=>match cstE e,cstL es with
  | some d,some ds=>if ds.length < 1000 then some (d::ds) else none
  | _,_=>none
end
def tData (d:Dt):TE:=fun _ H Q=>∀ v H',Is H' v d→Same H H'→Q v H'
def tDatas (ds:List Dt):TA:=fun _ H Q=>∀ vs H',IsL H' vs ds→Same H H'→Q vs H'
theorem PA.imp {X:Cx} {es:List Expr} {t t':TA} (h:PA X es t) (hi:∀ σ H Q,t' σ H Q→t σ H Q):PA X es t':=fun pos pins s σ H Q I q=>h pos pins s σ H Q I (hi σ H Q q)
theorem cst_len:∀{es:List Expr} {ds:List Dt},cstL es=some ds→ds.length≤1000
 | [],ds,h=>by simp only[cstL] at h;cases h;exact Nat.zero_le _
 | e::es,ds,h=>by
  simp only[cstL] at h
  split at h
  ·split at h
   ·rename_i hl;cases h;simp only[List.length_cons];omega
   ·cases h
  ·cases h
theorem cst_star {X:Cx} {e:Expr} {es:List Expr} {d:Dt} (h:cstE e=some d):starEach (e::es) X.env=(false,eval e X.env)::starEach es X.env:=by
 cases e <;> first | rfl | (simp only[cstE] at h;cases h)
mutual
theorem pe_cst {X:Cx}:∀{e:Expr} (d:Dt),cstE e=some d→PE X e (tData d)
 | .Constant c k p,d,h=>by
  cases c with
  | int i=>simp only[cstE] at h;cases h;exact pe_int.imp fun σ H Q q=>q _ _ (by simp only[Is]) (Same.refl H)
  | str x=>simp only[cstE] at h;cases h;exact pe_str.imp fun σ H Q q=>q _ _ (by simp only[Is]) (Same.refl H)
  | bool b=>simp only[cstE] at h;cases h;exact pe_bl.imp fun σ H Q q=>q _ _ (by simp only[Is]) (Same.refl H)
  | _=>simp only[cstE] at h;cases h
 | .Tuple es x1 p,d,h=>by
  simp only[cstE] at h
  cases e:cstL es with
  | none=>rw[e] at h;cases h
  | some ds =>
   rw[e] at h
   cases h
   refine(pe_tup (pa_cst ds e)).imp fun σ H Q q vs H' hv hs=>⟨szn (by rw[IsL.length hv];have:=cst_len e;omega),fun p hp=>q _ _ ?_ (hs.trans (jg_ hp _))⟩
   simp only[Is]
   exact⟨p,vs,rfl,jb_,IsL.same (jg_ hp _) hv⟩
 | .List es p,d,h=>by
  simp only[cstE] at h
  cases e:cstL es with
  | none=>rw[e] at h;cases h
  | some ds =>
   rw[e] at h
   cases h
   refine(j9_ (pa_cst ds e)).imp fun σ H Q q vs H' hv hs=>⟨szn (by rw[IsL.length hv];have:=cst_len e;omega),fun p hp=>q _ _ ?_ (hs.trans (jg_ hp _))⟩
   simp only[Is]
   exact⟨p,vs,rfl,jb_,IsL.same (jg_ hp _) hv⟩
 | .Name _ _,d,h=>by simp only[cstE] at h;cases h
 | .BinOp _ _ _ _,d,h=>by simp only[cstE] at h;cases h
 | .Call _ _ _ _,d,h=>by simp only[cstE] at h;cases h
theorem pa_cst {X:Cx}:∀{es:List Expr} (ds:List Dt),cstL es=some ds→PA X es (tDatas ds)
 | [],ds,h=>by
  simp only[cstL] at h
  cases h
  exact pa_nil.imp fun σ H Q q=>q [] H (by simp only[IsL]) (Same.refl H)
 | e::es,ds,h=>by
  simp only[cstL] at h
  split at h
  ·rename_i d ds' h1 h2
   split at h
   ·cases h
    refine(ja_ (pe_cst d h1) (pa_cst ds' h2) (cst_star h1)).imp fun σ H Q q v H1 hv s1 vs H2 hvs s2=>q (v::vs) H2 ?_ (s1.trans s2)
    simp only[IsL]
    exact⟨Is.same s2 hv,hvs⟩
   ·cases h
  ·cases h
end
theorem i_data {σ:St} {H:Hp} {Q:VK} {d:Dt} (h:∀ v H',Is H' v d→Same H H'→Q v H'):tData d σ H Q:=h
end L2
namespace L2
open PySem PySem.Spec PyProof.Rows
theorem slice_S (l:List Nat) (lo hi:Option Int):Txt.slice (S l) lo hi=S (cutA l lo hi):=slice_raw l lo hi
theorem find3_S (l p:List Nat) (k:Nat):Txt.find3 (S l) (S p) (k:Int)=findL p l k:=by
 have e:fromIndex (S l).length (k:Int)=k:=by
  unfold fromIndex
  rw[if_neg (by omega)];omega
 show (match Builtin.Str.occurrences (S l) (S p) (fromIndex (S l).length (k:Int)) (S l).length 1 with | k::_=>(k:Int) | []=>-1)=_
 rw[e];exact find_raw l p k
theorem starts3_S (l p:List Nat) (k:Nat):Txt.startswith3 (S l) (S p) (k:Int)=fits p l k:=by
 have e:fromIndex (S l).length (k:Int)=k:=by
  unfold fromIndex
  rw[if_neg (by omega)];omega
 unfold Txt.startswith3
 rw[e,subAt_S,jt_,jt_];rfl
theorem join_S (sep:List Nat) (ls:List (List Nat)):Txt.join (S sep) (ls.map S)=S (joinL sep ls):=by
 show Builtin.Str.glued (S sep) (ls.map S)=_
 rw[StrLaws.glued_eq_join,joinS]
theorem contains_S (big:List Nat) (c:Nat):Txt.contains (S big) (S [c])=decide (c∈big):=has_one big c
theorem chs_S (l:List Nat):chs (S l)=l.map fun c=>V.str (S [c]):=rfl
theorem chs_get {l:List Nat} {i:Nat} (h:i < l.length):(chs (S l)).getD i .non=V.str (S [l[i]]):=by
 rw[chs_S];simp[List.getD_eq_getElem?_getD,h]
theorem cut_plain {α:Type} (l:List α) (i j:Nat) (h:j≤l.length) (hij:i≤j):cutA l (some (i:Int)) (some (j:Int))=(l.drop i).take (j - i):=by
 unfold cutA
 have e1:sx l.length 0 (some (i:Int))=i:=by simp only[sx];rw[if_neg (by omega)];omega
 have e2:sx l.length l.length (some (j:Int))=j:=by simp only[sx];rw[if_neg (by omega)];omega
 rw[e1,e2]
theorem cut_from {α:Type} (l:List α) (i:Nat) (h:i≤l.length):cutA l (some (i:Int)) none=l.drop i:=by
 unfold cutA
 have e1:sx l.length 0 (some (i:Int))=i:=by simp only[sx];rw[if_neg (by omega)];omega
 rw[e1]
 show (l.drop i).take (l.length - i)=_
 rw[List.take_of_length_le (by simp)]
theorem cutV_eq (xs:List V) (lo hi:Option Int):cutV xs lo hi=cutA xs lo hi:=rfl
theorem Low_cut {l:List Nat} (h:Low l) (lo hi:Option Int):Low (cutA l lo hi):=fun c hc=>h c (List.mem_of_mem_drop (List.mem_of_mem_take hc))
theorem Low_append {a b:List Nat} (ha:Low a) (hb:Low b):Low (a++b):=fun c hc=>(List.mem_append.mp hc).elim (ha c) (hb c)
theorem zd_ {α:Type} (l:List α) (lo hi:Option Int):(cutA l lo hi).length=sx l.length l.length hi - sx l.length 0 lo:=by
 have h1:=sx_le l.length l.length (Nat.le_refl _) hi
 unfold cutA
 rw[List.length_take,List.length_drop]
 omega
def LETL:List Nat:=[97,98,99,100,101,102,103,104,105,106,107,108,109,110,111,112,113,114,115,116,117,118,119,120,121,122]
theorem low_LETL:Low LETL:=by unfold Low;decide
theorem t_let:Str.ofString "abcdefghijklmnopqrstuvwxyz"=S LETL:=let_eq
theorem t_empty:Str.ofString ""=S []:=by decide +kernel
theorem t_dot:Str.ofString "."=S [46]:=by decide +kernel
theorem let_in (c:Nat):Txt.contains (S LETL) (S [c])=isLow c:=let_has c
theorem joined_one (ws:List Nat):Txt.join (S []) (ws.map fun c=>S [c])=S ws:=by
 have e:(ws.map fun c=>S [c])=(ws.map fun c=>[c]).map S:=by rw[List.map_map];rfl
 rw[e,join_S,joinL_nil]
 congr 1
 clear e
 induction ws with
 | nil=>rfl
 | cons c ws ih=>simp only[List.map_cons,List.flatten_cons];rw[ih];rfl
theorem sum_one (ws:List Nat):((ws.map fun c=>S [c]).map (·.length)).sum=ws.length:=by
 induction ws with
 | nil=>rfl
 | cons c ws ih=>simp only[List.map_cons,List.sum_cons,List.length_cons,jt_,List.length_nil];rw[List.map_map] at ih ⊢;omega
theorem map_one (ws:List Nat):(ws.map fun c=>V.str (S [c]))=(ws.map fun c=>S [c]).map V.str:=by rw[List.map_map];rfl
theorem inV_bls (bs:List Bool):inV (.bl false) (bs.map V.bl)=!bs.all id:=by
 induction bs with
 | nil=>rfl
 | cons x bs ih =>
  show (eqV (.bl x) (.bl false) || inV (.bl false) (bs.map V.bl))=_
  rw[ih]
  show ((x == false) || _)=_
  cases x <;> simp
theorem flat_bls (bs:List Bool):(bs.map V.bl).all flatV=true:=by
 rw[List.all_map,List.all_eq_true];intro _ _;rfl
theorem FeedAt.same {H H':Hp} {p:Addr} {n:Nat} (h:FeedAt H p n) (k:∀ b o,H b=Option.some o→H' b=Option.some o):FeedAt H' p n:=by
 obtain⟨a,b,c,h1,r⟩:=h
 exact⟨a,b,c,k _ _ h1,r⟩
theorem Kept.same {p:Addr} {H H1 H2:Hp} (a:Kept p H H1) (b:∀ c o,H1 c=some o→H2 c=some o):Kept p H H2:=fun c o hc e=>b c o (a c o hc e)
theorem Kept.off {p:Addr} {H H1 H2:Hp} (a:Kept p H H1) (b:Off p H1 H2):Kept p H H2:=fun c o hc e=>(b c hc).trans (a c o hc e)
theorem i_ixC {K:PySem.W.Frag} {H:Hp} {Q:VK} {l:List Nat} {i:Int} {c:Nat} (hz:l.length≤1000000) (h2:atI l i=some c) (h:Q (.str (S [c])) H):fIx K (.str (S l)) (.int i) H Q:=i_ixS (szn (by rw[jt_];exact hz)) h2 h
theorem i_addC {H:Hp} {Q:VK} {a b:List Nat} (hz:a.length+b.length≤1000000) (h:Q (.str (S (a++b))) H):fAdd (.str (S a)) (.str (S b)) H Q:=i_addS (szn (by rw[jt_,jt_];exact hz)) (by rw[S_append];exact h)
theorem i_slC {K:PySem.W.Frag} {H:Hp} {Q:VK} {l:List Nat} {lo hi:Option Int} (hz:l.length≤1000000) (h:Q (.str (S (cutA l lo hi))) H):fSl K (.str (S l)) lo hi H Q:=i_slS (szn (by rw[jt_];exact hz)) (by rw[slice_S];exact h)
theorem i_lenC {K:PySem.W.Frag} {H:Hp} {Q:VK} {l:List Nat} (hz:l.length≤1000000) (h:Q (.int (l.length:Int)) H):fLen K [.str (S l)] H Q:=i_lenS (szn (by rw[jt_];exact hz)) (by rw[jt_];exact h)
theorem i_mulZ {H:Hp} {Q:VK} {a:Addr} {x:V} {k:Int} (h1:H a=some (.lst [x])) (c:0≤k∧k≤1000000) (h:∀ p,H p=none→Q (.ref p) (upd H p (.lst (List.replicate k.toNat x)))):fMul (.ref a) (.int k) H Q:=by
 refine i_mulL h1 ⟨by omega,by omega,by simp;omega⟩ fun p hp=>?_
 have e:(List.replicate k.toNat [x]).flatten=List.replicate k.toNat x:=by
  generalize k.toNat=m
  induction m with
  | zero=>rfl
  | succ m ih=>rw[List.replicate_succ,List.flatten_cons,ih];rfl
 rw[e];exact h p hp
theorem cutA_map {α β:Type} (g:α→β) (l:List α) (lo hi:Option Int):cutA (l.map g) lo hi=(cutA l lo hi).map g:=by
 unfold cutA
 rw[List.length_map,List.map_take,List.map_drop]
def patD (x:List Nat×List Int):Dt:=.tup [.str (S x.1),.tup (x.2.map Dt.int)]
def patsD (xs:List (List Nat×List Int)):Dt:=.lst (xs.map patD)
structure GP (x:List Nat×List Int):Prop where
 ne:1≤x.1.length
 le:x.1.length≤22
 len:x.2.length=x.1.length+1
 num:∀ v∈x.2,0≤v∧v≤9
 cs:∀ c∈x.1,c < 128
theorem IsL_intsD {H:Hp}:∀{g:List Int} {xs:List V},L2.IsL H xs (g.map Dt.int)→xs=g.map V.int
 | [],[],_=>rfl
 | [],_::_,h=>by simp only[List.map_nil,L2.IsL] at h
 | _::_,[],h=>by simp only[List.map_cons,L2.IsL] at h
 | k::g,x::xs,h=>by
  simp only[List.map_cons,L2.IsL,Is] at h
  rw[h.1,IsL_intsD h.2];rfl
theorem isPat {H:Hp} {v:V} {x:List Nat×List Int} (h:Is H v (patD x)):∃ a t,v=.ref a∧H a=some (.tup [.str (S x.1),.ref t])∧H t=some (.tup (x.2.map V.int)):=by
 simp only[Is,patD] at h
 obtain⟨a,xs,rfl,ha,hxs⟩:=h
 match xs,hxs with
 | [],h=>simp only[L2.IsL] at h
 | [_],h=>simp only[L2.IsL] at h;exact h.2.elim
 | _::_::_::_,h=>simp only[L2.IsL] at h;exact h.2.2.elim
 | [y,z],h =>
  simp only[L2.IsL,Is] at h
  obtain⟨rfl,⟨t,ys,rfl,ht,hys⟩,_⟩:=h
  have:=IsL_intsD hys
  subst this
  exact⟨a,t,rfl,ha,ht⟩
theorem isPat_mk {H:Hp} {a t:Addr} {x:List Nat×List Int} (h1:H a=some (.tup [.str (S x.1),.ref t])) (h2:H t=some (.tup (x.2.map V.int))):Is H (.ref a) (patD x):=by
 simp only[Is,patD,L2.IsL]
 exact⟨a,_,rfl,h1,rfl,⟨t,_,rfl,h2,IsL.ints _ _⟩,trivial⟩
theorem isPats {H:Hp} {v:V} {xs:List (List Nat×List Int)} (h:Is H v (patsD xs)):∃ a ys,v=.ref a∧H a=some (.lst ys)∧L2.IsL H ys (xs.map patD):=by
 simp only[Is,patsD] at h
 exact h
theorem IsL.append {H:Hp}:∀{ds es:List Dt} {xs ys:List V},L2.IsL H xs ds→L2.IsL H ys es→L2.IsL H (xs++ys) (ds++es)
 | [],_,[],_,_,h=>h
 | d::ds,es,x::xs,ys,h,k=>by
  simp only[L2.IsL] at h
  simp only[List.cons_append,L2.IsL]
  exact⟨h.1,IsL.append h.2 k⟩
 | [],_,_::_,_,h,_=>by simp only[L2.IsL] at h
 | _::_,_,[],_,h,_=>by simp only[L2.IsL] at h
theorem head_dot {s:List Nat}:(cutA s none (some 1)=[46])↔s.head?=some 46:=by
 cases s with
 | nil=>simp[cutA,sx]
 | cons c s =>
  have e:cutA (c::s) none (some 1)=[c]:=by
   unfold cutA
   have e2:sx (c::s).length (c::s).length (some 1)=1:=by simp only[sx];rw[if_neg (by decide)];simp
   rw[e2];rfl
  rw[e];simp
theorem last_dot {s:List Nat}:(cutA s (some (-1)) none=[46])↔s.getLast?=some 46:=by
 cases h:s.getLast? with
 | none =>
  have:s=[]:=by simpa using h
  subst this
  simp[cutA,sx]
 | some c =>
  obtain⟨r,rfl⟩:=List.getLast?_eq_some_iff.mp h
  have e:cutA (r++[c]) (some (-1)) none=[c]:=by
   unfold cutA
   have e1:sx (r++[c]).length 0 (some (-1))=r.length:=by simp only[sx];rw[if_pos (by decide)];simp;omega
   have e2:sx (r++[c]).length (r++[c]).length none=r.length+1:=by simp[sx]
   rw[e1,e2];simp
  rw[e];simp
def isWord (l:List Nat):Bool:=decide (0 < l.length)&&l.all isLow
end L2
namespace L2
abbrev Pat:=List Nat×List Int
def mx (a b:Int):Int:=if b > a then b else a
def put (t:List Int) (p:Nat) (v:Int):List Int:=t.set p (mx (t.getD p 0) v)
theorem put_length (t:List Int) (p:Nat) (v:Int):(put t p v).length=t.length:=by unfold put;simp
theorem put_get (t:List Int) (p q:Nat) (v:Int) (hq:q < t.length):(put t p v).getD q 0=if p=q then mx (t.getD q 0) v else t.getD q 0:=by
 unfold put
 simp only[List.getD_eq_getElem?_getD,List.getElem?_set]
 by_cases h:p=q
 ·subst h;simp[hq]
 ·simp[h]
def laid (t:List Int) (b:Nat):List Int→List Int
 | []=>t
 | v::r=>laid (put t b v) (b+1) r
theorem laid_snoc (b:Nat) (v:Int):∀(r:List Int) (t:List Int) (c:Nat),laid t c (r++[v])=put (laid t c r) (c+r.length) v
 | [],t,c=>by simp[laid]
 | x::r,t,c=>by
  simp only[List.cons_append,laid,List.length_cons]
  rw[laid_snoc b v r]
  congr 1;omega
theorem laid_length:∀(ns:List Int) (t:List Int) (b:Nat),(laid t b ns).length=t.length
 | [],_,_=>rfl
 | v::r,t,b=>by simp only[laid];rw[laid_length r,put_length]
def laidN (m:Int) (p b:Nat):List Int→Int
 | []=>m
 | v::r=>laidN (if b=p then mx m v else m) p (b+1) r
theorem laid_get:∀(ns:List Int) (t:List Int) (b q:Nat),q < t.length→(laid t b ns).getD q 0=laidN (t.getD q 0) q b ns
 | [],_,_,_,_=>rfl
 | v::r,t,b,q,h=>by
  simp only[laid,laidN]
  rw[laid_get r _ _ q (by rw[put_length];exact h),put_get t b q v h]
def places (p f:List Nat):List Nat:=(List.range f.length).filter (fits p f)
def tellP (f:List Nat) (t:List Int) (x:Pat):List Int:=(places x.1 f).foldl (fun t b=>laid t b x.2) t
def tellA (f:List Nat) (t:List Int) (xs:List Pat):List Int:=xs.foldl (tellP f) t
def numP (f:List Nat) (p:Nat) (m:Int) (x:Pat):Int:=(places x.1 f).foldl (fun m b=>laidN m p b x.2) m
def numA (f:List Nat) (p:Nat) (m:Int) (xs:List Pat):Int:=xs.foldl (numP f p) m
theorem foldl_laid (ns:List Int):∀(bs:List Nat) (t:List Int),(bs.foldl (fun t b=>laid t b ns) t).length=t.length∧∀ q,q < t.length→(bs.foldl (fun t b=>laid t b ns) t).getD q 0=bs.foldl (fun m b=>laidN m q b ns) (t.getD q 0)
 | [],t=>⟨rfl,fun _ _=>rfl⟩
 | b::bs,t=>by
  obtain⟨h1,h2⟩:=foldl_laid ns bs (laid t b ns)
  rw[laid_length] at h1 h2
  refine⟨by simpa using h1,fun q hq=>?_⟩
  simp only[List.foldl_cons]
  rw[h2 q hq,laid_get ns t b q hq]
theorem tellA_get (f:List Nat):∀(xs:List Pat) (t:List Int),(tellA f t xs).length=t.length∧∀ q,q < t.length→(tellA f t xs).getD q 0=numA f q (t.getD q 0) xs
 | [],t=>⟨rfl,fun _ _=>rfl⟩
 | x::xs,t=>by
  obtain⟨h1,h2⟩:=foldl_laid x.2 (places x.1 f) t
  obtain⟨h3,h4⟩:=tellA_get f xs (tellP f t x)
  have e:(tellP f t x).length=t.length:=h1
  rw[e] at h3 h4
  refine⟨h3,fun q hq=>?_⟩
  show (tellA f (tellP f t x) xs).getD q 0=_
  rw[h4 q hq]
  show numA f q ((tellP f t x).getD q 0) xs=numA f q (numP f q (t.getD q 0) x) xs
  rw[show (tellP f t x).getD q 0=numP f q (t.getD q 0) x from h2 q hq]
def frame (w:List Nat):List Nat:=46::(w++[46])
theorem frame_length (w:List Nat):(frame w).length=w.length+2:=by simp[frame]
def vals (xs:List Pat) (w:List Nat):List Int:=(List.range (w.length - 1)).map fun j=>numA (frame w) (j+2) 0 xs
theorem vals_length (xs:List Pat) (w:List Nat):(vals xs w).length=w.length - 1:=by simp[vals]
theorem vals_get (xs:List Pat) (w:List Nat) (j:Nat) (h:j < w.length - 1):(vals xs w)[j]?=some (numA (frame w) (j+2) 0 xs):=by
 simp[vals,h]
theorem rep_get (n q:Nat):(List.replicate n (0:Int)).getD q 0=0:=by
 simp only[List.getD_eq_getElem?_getD,List.getElem?_replicate];split <;> rfl
theorem ext_getD {a b:List Int} (h:a.length=b.length) (k:∀ q,q < a.length→a.getD q 0=b.getD q 0):a=b:=by
 apply List.ext_getElem h
 intro i h1 h2
 have:=k i h1
 simpa [List.getD_eq_getElem?_getD,h1,h2] using this
theorem program_vals (xs:List Pat) (w:List Nat) (h:1≤w.length):cutA (tellA (frame w) (List.replicate ((frame w).length+1) 0) xs) (some 2) (some (-2))=vals xs w:=by
 obtain⟨h1,h2⟩:=tellA_get (frame w) xs (List.replicate ((frame w).length+1) 0)
 rw[List.length_replicate] at h1 h2
 unfold cutA
 rw[h1]
 rw[frame_length] at h1 h2 ⊢
 have e1:sx (w.length+2+1) 0 (some 2)=2:=by simp only[sx];rw[if_neg (by decide)];show min 2 (w.length+2+1)=2;omega
 have e2:sx (w.length+2+1) (w.length+2+1) (some (-2))=w.length+1:=by simp only[sx];rw[if_pos (by decide)];omega
 rw[e1,e2]
 apply ext_getD
 ·rw[vals_length,List.length_take,List.length_drop,h1];omega
 ·intro q hq
  rw[List.length_take,List.length_drop,h1] at hq
  have hq':q < w.length - 1:=by omega
  have:=h2 (2+q) (by omega)
  rw[rep_get] at this
  have e3:(vals xs w).getD q 0=numA (frame w) (q+2) 0 xs:=by rw[List.getD_eq_getElem?_getD,vals_get xs w q hq'];rfl
  rw[e3,Nat.add_comm q 2,← this]
  simp only[List.getD_eq_getElem?_getD,List.getElem?_take,List.getElem?_drop]
  rw[if_pos (by omega)]
end L2
namespace L2
open PySem PySem.Spec PyProof.Rows
def fExtend:V→List V→Hp→VK→Prop:=fun x vs H Q=>match x,vs with
 | .ref l,[.ref b]=>(match H l,H b with | some (.lst xs),some (.lst zs)=>xs.length+zs.length≤sizeLine∧Q .non (upd H l (.lst (xs++zs))) | _,_=>False)
 | _,_=>False
theorem m_extend1 {X:Cx}:MtR X "list.extend" fExtend:=fun pins s σ H x xs v us Q I rx rs h=>by
 unfold fExtend at h
 split at h
 ·split at h
  ·rename_i e e2
   exact mt_extend pins s σ H _ _ v us Q I rx rs ⟨_,_,_,_,rfl,rfl,e,e2,h.1,h.2⟩
  ·exact h.elim
 ·exact h.elim
theorem i_extL {H:Hp} {Q:VK} {l b:Addr} {xs zs:List V} (h1:H l=some (.lst xs)) (h2:H b=some (.lst zs)) (c:xs.length+zs.length≤sizeLine) (h:Q .non (upd H l (.lst (xs++zs)))):fExtend (.ref l) [.ref b] H Q:=by
 show (match H l,H b with | some (.lst xs),some (.lst zs)=>xs.length+zs.length≤sizeLine∧Q .non (upd H l (.lst (xs++zs))) | _,_=>False)
 rw[h1,h2];exact⟨c,h⟩
mutual
def tOnly:Dt→Bool
 | .lst _=>false
 | .tup ds=>tOnlyL ds
 | _=>true
def tOnlyL:List Dt→Bool
 | []=>true
 | d::ds=>tOnly d&&tOnlyL ds
end
def Tk (H H':Hp):Prop:=∀ b xs,H b=some (.tup xs)→H' b=some (.tup xs)
theorem Tk.trans {H H1 H2:Hp} (a:Tk H H1) (b:Tk H1 H2):Tk H H2:=fun c o h=>b c o (a c o h)
theorem Same.tk {H H':Hp} (h:Same H H'):Tk H H':=fun b xs e=>h b _ e
theorem Tk.new {H:Hp} {p:Addr} (h:H p=none) (o:HO):Tk H (upd H p o):=(jg_ h o).tk
theorem Tk.lst {H:Hp} {p:Addr} {zs:List V} (h:H p=some (.lst zs)) (o:HO):Tk H (upd H p o):=fun b xs e=>by
 rw[jd_ (ne_of e h (by intro z;cases z))];exact e
mutual
theorem Is.tk {H H':Hp} (h:Tk H H'):∀{d:Dt} {v:V},tOnly d=true→Is H v d→Is H' v d
 | .non,_,_,k=>by simp only[Is] at k ⊢;exact k
 | .bl _,_,_,k=>by simp only[Is] at k ⊢;exact k
 | .int _,_,_,k=>by simp only[Is] at k ⊢;exact k
 | .str _,_,_,k=>by simp only[Is] at k ⊢;exact k
 | .tup ds,_,t,k=>by
  simp only[tOnly] at t
  simp only[Is] at k ⊢
  obtain⟨a,xs,e,h1,h2⟩:=k
  exact⟨a,xs,e,h _ _ h1,IsL.tk h t h2⟩
 | .lst ds,_,t,_=>by simp only[tOnly] at t;cases t
theorem IsL.tk {H H':Hp} (h:Tk H H'):∀{ds:List Dt} {xs:List V},tOnlyL ds=true→IsL H xs ds→IsL H' xs ds
 | [],[],_,_=>by simp only[IsL]
 | [],_::_,_,k=>by simp only[IsL] at k
 | _::_,[],_,k=>by simp only[IsL] at k
 | d::ds,x::xs,t,k=>by
  simp only[tOnlyL,Bool.and_eq_true] at t
  simp only[IsL] at k ⊢
  exact⟨Is.tk h t.1 k.1,IsL.tk h t.2 k.2⟩
end
theorem tOnlyL_of:∀{ds:List Dt},(∀ d∈ds,tOnly d=true)→tOnlyL ds=true
 | [],_=>rfl
 | d::ds,h=>by simp only[tOnlyL,Bool.and_eq_true];exact⟨h d List.mem_cons_self,tOnlyL_of fun e he=>h e (List.mem_cons_of_mem _ he)⟩
theorem tOnlyL_ints (ns:List Int):tOnlyL (ns.map Dt.int)=true:=tOnlyL_of fun d hd=>by
 obtain⟨n,_,rfl⟩:=List.mem_map.mp hd;rfl
theorem IsL.snoc {H:Hp} {ds:List Dt} {d:Dt} {xs:List V} {x:V} (h:IsL H xs ds) (k:Is H x d):IsL H (xs++[x]) (ds++[d]) :=
 IsL.append h (by simp only[IsL];exact⟨k,trivial⟩)
abbrev Fit:=Nat×List Int
def fitD (x:Fit):Dt:=.tup [.int (x.1:Int),.tup (x.2.map Dt.int)]
def fitsD (xs:List Fit):Dt:=.lst (xs.map fitD)
theorem tOnly_fits (xs:List Fit):tOnlyL (xs.map fitD)=true:=tOnlyL_of fun d hd=>by
 obtain⟨n,_,rfl⟩:=List.mem_map.mp hd;simp only[fitD,tOnly,tOnlyL,tOnlyL_ints,Bool.and_true]
theorem isFit {H:Hp} {v:V} {x:Fit} (h:Is H v (fitD x)):∃ a t,v=.ref a∧H a=some (.tup [.int (x.1:Int),.ref t])∧H t=some (.tup (x.2.map V.int)):=by
 simp only[Is,fitD] at h
 obtain⟨a,xs,rfl,ha,hxs⟩:=h
 match xs,hxs with
 | [],h=>simp only[L2.IsL] at h
 | [_],h=>simp only[L2.IsL] at h;exact h.2.elim
 | _::_::_::_,h=>simp only[L2.IsL] at h;exact h.2.2.elim
 | [y,z],h =>
  simp only[L2.IsL,Is] at h
  obtain⟨rfl,⟨t,ys,rfl,ht,hys⟩,_⟩:=h
  have:=IsL_intsD hys
  subst this
  exact⟨a,t,rfl,ha,ht⟩
theorem isFit_mk {H:Hp} {a t:Addr} {x:Fit} (h1:H a=some (.tup [.int (x.1:Int),.ref t])) (h2:H t=some (.tup (x.2.map V.int))):Is H (.ref a) (fitD x):=by
 simp only[Is,fitD,L2.IsL]
 exact⟨a,_,rfl,h1,rfl,⟨t,_,rfl,h2,IsL.ints _ _⟩,trivial⟩
theorem isFits {H:Hp} {v:V} {xs:List Fit} (h:Is H v (fitsD xs)):∃ a ys,v=.ref a∧H a=some (.lst ys)∧L2.IsL H ys (xs.map fitD):=by
 simp only[Is,fitsD] at h
 exact h
def layF (t:List Int) (xs:List Fit):List Int:=xs.foldl (fun t x=>laid t x.1 x.2) t
theorem layF_length:∀(xs:List Fit) (t:List Int),(layF t xs).length=t.length
 | [],_=>rfl
 | x::xs,t=>by show (layF (laid t x.1 x.2) xs).length=_;rw[layF_length xs,laid_length]
theorem layF_append (t:List Int) (xs ys:List Fit):layF t (xs++ys)=layF (layF t xs) ys:=List.foldl_append
theorem layF_take {xs:List Fit} {i:Nat} (h:i < xs.length) (t:List Int):layF t (xs.take (i+1))=laid (layF t (xs.take i)) xs[i].1 xs[i].2:=by
 rw[List.take_succ,List.getElem?_eq_getElem h,layF_append];rfl
def fitsP (f:List Nat) (x:Pat):List Fit:=(places x.1 f).map fun b=>(b,x.2)
def fitsOf (f:List Nat) (xs:List Pat):List Fit:=xs.flatMap (fitsP f)
theorem fitsOf_take {f:List Nat} {xs:List Pat} {i:Nat} (h:i < xs.length):fitsOf f (xs.take (i+1))=fitsOf f (xs.take i)++fitsP f xs[i]:=by
 unfold fitsOf;rw[List.take_succ,List.getElem?_eq_getElem h,List.flatMap_append];simp
theorem layF_fitsP (f:List Nat) (x:Pat) (t:List Int):layF t (fitsP f x)=tellP f t x:=by
 unfold layF fitsP tellP;rw[List.foldl_map]
theorem layF_fitsOf (f:List Nat):∀(xs:List Pat) (t:List Int),layF t (fitsOf f xs)=tellA f t xs
 | [],_=>rfl
 | x::xs,t=>by
  show layF t (fitsP f x++fitsOf f xs)=tellA f (tellP f t x) xs
  rw[layF_append,layF_fitsP,layF_fitsOf f xs]
theorem places_le (p f:List Nat):(places p f).length≤f.length:=by
 unfold places;exact Nat.le_trans (List.length_filter_le _ _) (by simp)
theorem fitsOf_len (f:List Nat):∀(xs:List Pat),(fitsOf f xs).length≤xs.length * f.length
 | []=>by simp[fitsOf]
 | x::xs=>by
  show (fitsP f x++fitsOf f xs).length≤_
  have h1:=fitsOf_len f xs
  have h2:=places_le x.1 f
  have h3:(fitsP f x).length=(places x.1 f).length:=by simp[fitsP]
  rw[List.length_append,List.length_cons,Nat.add_mul];omega
theorem fitsOf_mem {f:List Nat} {xs:List Pat} {y:Fit} (h:y∈fitsOf f xs):∃ x∈xs,y.1∈places x.1 f∧y.2=x.2:=by
 obtain⟨x,hx,hy⟩:=List.mem_flatMap.mp h
 obtain⟨b,hb,rfl⟩:=List.mem_map.mp hy
 exact⟨x,hx,hb,rfl⟩
end L2
namespace L2
open PySem PySem.Spec PyProof.Rows
section
variable {κ:Type} [DecidableEq κ]
def valV (kvs:List (κ×V)) (k:κ):Option V:=(kvs.find? fun kv=>decide (kv.1=k)).map (·.2)
def putK (kvs:List (κ×V)) (k:κ) (v:V):List (κ×V) :=
 if (kvs.any fun kv=>decide (kv.1=k))=true then kvs.map (fun kv=>if kv.1=k then (kv.1,v) else kv) else kvs++[(k,v)]
theorem valV_pos {p:κ×V} {r:List (κ×V)} {k:κ} (e:p.1=k):valV (p::r) k=some p.2:=by simp[valV,List.find?_cons,e]
theorem valV_neg {p:κ×V} {r:List (κ×V)} {k:κ} (e:¬ p.1=k):valV (p::r) k=valV r k:=by simp[valV,List.find?_cons,e]
theorem valV_any (k:κ):∀ kvs:List (κ×V),(kvs.any fun kv=>decide (kv.1=k))=(valV kvs k).isSome
 | []=>rfl
 | p::r=>by
  rw[List.any_cons]
  by_cases e:p.1=k
  ·simp only[valV_pos e,decide_eq_true e,Bool.true_or,Option.isSome_some]
  ·rw[valV_neg e,decide_eq_false e,Bool.false_or];exact valV_any k r
theorem length_putK (kvs:List (κ×V)) (k:κ) (v:V):(putK kvs k v).length≤kvs.length+1:=by
 unfold putK
 split
 ·rw[List.length_map];omega
 ·rw[List.length_append,List.length_cons,List.length_nil];omega
theorem RelO.isSome_eq {o:Option V} {u:Option Value} (r:RelO o u):o.isSome=u.isSome:=by
 cases o with
 | none=>cases u with
  | none=>rfl
  | some _=>exact(show False from r).elim
 | some _=>cases u with
  | none=>exact(show False from r).elim
  | some _=>rfl
theorem KV.val {kvs:List (κ×V)} {vs:List (κ×Value)} (r:KV kvs vs) (k:κ):RelO (valV kvs k) (valueAt vs k):=by
 unfold KV at r
 induction r with
 | nil=>exact True.intro
 | @cons p q ps qs h t ih =>
  obtain⟨h1,h2⟩:=h
  by_cases e:p.1=k
  ·have e':q.1=k:=h1.symm.trans e
   have b:valueAt (q::qs) k=some q.2:=by simp[valueAt,List.find?_cons,e']
   rw[valV_pos e,b];exact h2
  ·have e':¬ q.1=k:=fun z=>e (h1.trans z)
   have b:valueAt (q::qs) k=valueAt qs k:=by simp[valueAt,List.find?_cons,e']
   rw[valV_neg e,b];exact ih
theorem KV.any {kvs:List (κ×V)} {vs:List (κ×Value)} (r:KV kvs vs) (k:κ):(kvs.any fun kv=>decide (kv.1=k))=vs.any fun kv=>decide (kv.1=k):=by
 unfold KV at r
 induction r with
 | nil=>rfl
 | cons h t ih=>rw[List.any_cons,List.any_cons,ih,h.1]
theorem KV.repl {kvs:List (κ×V)} {vs:List (κ×Value)} (r:KV kvs vs) (k:κ) {y:V} {u:Value} (ry:RelV y u) :
  KV (kvs.map fun kv=>if kv.1=k then (kv.1,y) else kv) (vs.map fun kv=>if kv.1=k then (kv.1,u) else kv):=by
 unfold KV at r ⊢
 induction r with
 | nil=>exact .nil
 | @cons p q ps qs h t ih =>
  rw[List.map_cons,List.map_cons]
  refine .cons ?_ ih
  obtain⟨h1,h2⟩:=h
  by_cases e:p.1=k
  ·rw[if_pos e,if_pos (h1.symm.trans e)];exact⟨h1,ry⟩
  ·rw[if_neg e,if_neg (fun z=>e (h1.trans z))];exact⟨h1,h2⟩
theorem KV.put {kvs:List (κ×V)} {vs:List (κ×Value)} (r:KV kvs vs) (k:κ) {y:V} {u:Value} (ry:RelV y u):KV (putK kvs k y) (stored vs k u):=by
 unfold putK stored
 rw[r.any k]
 by_cases e:(vs.any fun kv=>decide (kv.1=k))=true
 ·rw[if_pos e,if_pos e];exact r.repl k ry
 ·rw[if_neg e,if_neg e];exact Paired.snoc r ⟨rfl,ry⟩
theorem KV.length {kvs:List (κ×V)} {vs:List (κ×Value)} (r:KV kvs vs):kvs.length=vs.length:=Paired.length r
end
theorem kV_is {P:Program} {w:World} {k:Key} {u:Value} (r:RelV (kV k) u):(zc_ P w).is k u=true:=by
 cases k with
 | inl i=>obtain⟨t,e⟩:=(show ∃ t,u=Value.int i t from r);subst e;exact mixKind_int P w i t
 | inr x=>obtain⟨t,e⟩:=(show ∃ t,u=Value.str x t from r);subst e;exact mixKind_str P w x t
theorem items_are {P:Program} {w:World}:∀{ks:List Key} {us:List Value},Vals (ks.map kV) us→ItemsAre (zc_ P w) ks us
 | [],_,r=>by rw[List.map_nil] at r;cases r;exact .nil
 | k::ks,_,r=>by
  rw[List.map_cons] at r
  cases r with
  | cons h t=>exact .cons (kV_is h) (items_are t)
abbrev KT (H:Hp):List (List Key×V)→List (List Key×Addr×Value)→Prop:=Paired fun p q=>p.1=q.1∧H q.2.1=some (.tup (p.1.map kV))∧RelV p.2 q.2.2
theorem KT.val {H:Hp} {kvs:List (List Key×V)} {xs:List (List Key×Addr×Value)} (r:KT H kvs xs) (k:List Key):RelO (valV kvs k) ((atKey xs k).map (·.2)):=by
 induction r with
 | nil=>exact True.intro
 | @cons p q ps qs h t ih =>
  obtain⟨h1,_,h2⟩:=h
  by_cases e:p.1=k
  ·have e':q.1=k:=h1.symm.trans e
   have b:atKey (q::qs) k=some q.2:=by simp[atKey,List.find?_cons,e']
   rw[valV_pos e,b];exact h2
  ·have e':¬ q.1=k:=fun z=>e (h1.trans z)
   have b:atKey (q::qs) k=atKey qs k:=by simp[atKey,List.find?_cons,e']
   rw[valV_neg e,b];exact ih
theorem KT.repl {H:Hp} {kvs:List (List Key×V)} {xs:List (List Key×Addr×Value)} (r:KT H kvs xs) (k:List Key) {y:V} {u:Value} (ry:RelV y u) :
  KT H (kvs.map fun kv=>if kv.1=k then (kv.1,y) else kv) (xs.map (putAt k u)):=by
 induction r with
 | nil=>exact .nil
 | @cons p q ps qs h t ih =>
  rw[List.map_cons,List.map_cons]
  refine .cons ?_ ih
  obtain⟨h1,h2,h3⟩:=h
  unfold putAt
  by_cases e:p.1=k
  ·rw[if_pos e,if_pos (h1.symm.trans e)];exact⟨h1,h2,ry⟩
  ·rw[if_neg e,if_neg (fun z=>e (h1.trans z))];exact⟨h1,h2,h3⟩
theorem KT.put {H:Hp} {kvs:List (List Key×V)} {xs:List (List Key×Addr×Value)} (r:KT H kvs xs) (k:List Key) {b:Addr} {y:V} {u:Value} (hb:H b=some (.tup (k.map kV))) (ry:RelV y u) :
  KT H (putK kvs k y) (storedH xs k b u):=by
 have e:(kvs.any fun kv=>decide (kv.1=k))=(atKey xs k).isSome:=by
  rw[valV_any,(r.val k).isSome_eq,Option.isSome_map]
 unfold putK storedH
 rw[e]
 by_cases q:(atKey xs k).isSome=true
 ·rw[if_pos q,if_pos q];exact r.repl k ry
 ·rw[if_neg q,if_neg q];exact Paired.snoc r ⟨rfl,hb,ry⟩
theorem KT.keeps {H H':Hp} {kvs:List (List Key×V)} {xs:List (List Key×Addr×Value)} (r:KT H kvs xs) (ht:∀ b ys,H b=some (.tup ys)→H' b=some (.tup ys)):KT H' kvs xs :=
 Paired.mapP r fun _ _ z=>⟨z.1,ht _ _ z.2.1,z.2.2⟩
section
variable {P:Program} {w:World} {H:Hp} {h:Heap} {a:Addr}
theorem rd_of {u:HO} (ok:HOk P w H h) (e:Rd H a u):ObjOk P w H h a u:=e.ok ok
theorem dk_rd {kvs:List (Key×V)} (ok:HOk P w H h) (e:Rd H a (.dK kvs)):kvs.length≤sizeLine∧(a == sysModules)=false∧∃ vs,KV kvs vs∧h.DictOf (zc_ P w) a vs :=
 show ObjOk P w H h a (.dK kvs) from rd_of ok e
theorem dk_of {kvs:List (Key×V)} (ok:HOk P w H h) (e:H a=some (.dK kvs)):kvs.length≤sizeLine∧(a == sysModules)=false∧∃ vs,KV kvs vs∧h.DictOf (zc_ P w) a vs:=dk_rd ok (.inl e)
theorem key_of {ks:List Key} (ok:HOk P w H h) (e:H a=some (.tup (ks.map kV))):(tupleKind (zc_ P w)).is h ks a:=by
 obtain⟨_,its,r,o,h1,h2,n,h3⟩:=(show ObjOk P w H h a (.tup (ks.map kV)) from ok a _ e)
 exact⟨o,its.toArray,n,h1,h2,h3,by simpa using items_are r⟩
theorem dt_rd {kvs:List (List Key×V)} (ok:HOk P w H h) (e:Rd H a (.dT kvs)):kvs.length≤sizeLine∧(a == sysModules)=false ∧
  ∃ xs,KT H kvs xs∧h.DictOfH (tupleKind (zc_ P w)) a xs:=by
 obtain⟨z,y,xs,r,o,es,ep,h1,h2,h3,h4,h5⟩:=(show ObjOk P w H h a (.dT kvs) from rd_of ok e)
 refine⟨z,y,xs,r,o,es,ep,h1,h2,h3,h4,fun x hx=>?_,h5⟩
 have all:∀{l:List (List Key×V)} {m:List (List Key×Addr×Value)},KT H l m→∀ x∈m,(tupleKind (zc_ P w)).is h x.1 x.2.1:=by
  intro l m q
  induction q with
  | nil=>intro x hx;exact nomatch hx
  | @cons p q ps qs hq t ih =>
   intro x hx
   rcases List.mem_cons.mp hx with e | hx
   ·subst e
    exact key_of ok (by rw[← hq.1];exact hq.2.1)
   ·exact ih x hx
 exact all r x hx
theorem dt_of {kvs:List (List Key×V)} (ok:HOk P w H h) (e:H a=some (.dT kvs)):kvs.length≤sizeLine∧(a == sysModules)=false ∧
  ∃ xs,KT H kvs xs∧h.DictOfH (tupleKind (zc_ P w)) a xs:=dt_rd ok (.inl e)
end
def DGet (H:Hp) (a:Addr) (y:V) (r:Option V):Prop :=
 (∃ kvs k,Rd H a (.dK kvs)∧y=kV k∧r=valV kvs k)∨∃ kvs k b,Rd H a (.dT kvs)∧y=.ref b∧H b=some (.tup (k.map kV))∧r=valV kvs k
def DPut (H:Hp) (a:Addr) (y v:V) (H':Hp):Prop :=
 (∃ kvs k,H a=some (.dK kvs)∧y=kV k∧kvs.length < sizeLine∧H'=upd H a (.dK (putK kvs k v))) ∨
 ∃ kvs k b,H a=some (.dT kvs)∧y=.ref b∧H b=some (.tup (k.map kV))∧kvs.length < sizeLine∧H'=upd H a (.dT (putK kvs k v))
theorem DGet.k {H:Hp} {a:Addr} {kvs:List (Key×V)} {k:Key} (e:H a=some (.dK kvs)):DGet H a (kV k) (valV kvs k):=.inl ⟨kvs,k,.inl e,rfl,rfl⟩
theorem DPut.k {H:Hp} {a:Addr} {kvs:List (Key×V)} {k:Key} {v:V} (e:H a=some (.dK kvs)) (hl:kvs.length < sizeLine):DPut H a (kV k) v (upd H a (.dK (putK kvs k v))):=.inl ⟨kvs,k,e,rfl,hl,rfl⟩
section
variable {X:Cx} {pins:List (Addr×Obj)} {σ:St} {H:Hp} {s:Shared} {a:Addr} {y v:V} {u r:Value} {o:Option V} {A:Around} {E:Value→Shared→Prop}
theorem Inv.big (I:Inv X pins σ H s):sysModules < s.heap.objs.size:=by
 have h:mainGlobals < s.heap.objs.size:=(I.mod.glob.keeps I.bk).lt
 exact Nat.lt_trans (by decide) h
theorem d_getItem {Q:Value→Shared→Prop} (hu:A.units+1 < cLine) (I:Inv X pins σ H s) (g:DGet H a y (some v)) (ry:RelV y u) (h:∀ w' s',Inv X pins σ H s'→RelV v w'→Q w' s') :
  wpAny (model X.prog X.w) A (getItem (.ref a) u) Q E s:=by
 rcases g with ⟨kvs,k,e,ey,l⟩ | ⟨kvs,k,b,e,ey,eb,l⟩
 ·subst ey
  obtain⟨z,hd,vs,rel,dd⟩:=dk_rd I.hok e
  obtain⟨w',hw,rw'⟩:=RelO.some_of (v:=v) (o:=valueAt vs k) (by rw[l];exact rel.val k)
  exact wpAny_getItem_of (kV_is ry) dd.mapOf hw (h w' _ (I.tok _) rw')
 ·subst ey
  cases (show u=Value.ref b from ry)
  obtain⟨z,hd,xs,rel,dd⟩:=dt_rd I.hok e
  obtain⟨w',hw,rw'⟩:=RelO.some_of (v:=v) (o:=(atKey xs k).map (·.2)) (by rw[l];exact rel.val k)
  obtain⟨p,hp,hp2⟩:=Option.map_eq_some_iff.mp hw
  refine wpAny_getItem_heap (tupleKind_room_in1 hu) (key_of I.hok eb) dd hp ?_
  rw[hp2]
  exact h w' _ (I.tok _) rw'
theorem d_in {Q:Value→Shared→Prop} (hu:A.units+1 < cLine) (I:Inv X pins σ H s) (g:DGet H a y o) (ry:RelV y u) (h:∀ s',Inv X pins σ H s'→Q (.bool o.isSome) s') :
  wpAny (model X.prog X.w) A (compareOp .In u (.ref a)) Q E s:=by
 rcases g with ⟨kvs,k,e,ey,l⟩ | ⟨kvs,k,b,e,ey,eb,l⟩
 ·subst ey
  obtain⟨z,hd,vs,rel,dd⟩:=dk_rd I.hok e
  refine wpAny_in_of (kV_is ry) hd dd.mapOf ?_
  rw[← (rel.val k).isSome_eq,← l]
  exact h _ (I.tok _)
 ·subst ey
  cases (show u=Value.ref b from ry)
  obtain⟨z,hd,xs,rel,dd⟩:=dt_rd I.hok e
  refine wpAny_in_heap (tupleKind_room_in1 hu) (key_of I.hok eb) hd dd ?_
  have q:=(rel.val k).isSome_eq
  rw[Option.isSome_map] at q
  rw[← q,← l]
  exact h _ (I.tok _)
theorem d_notIn {Q:Value→Shared→Prop} (hu:A.units+1 < cLine) (I:Inv X pins σ H s) (g:DGet H a y o) (ry:RelV y u) (h:∀ s',Inv X pins σ H s'→Q (.bool (!o.isSome)) s') :
  wpAny (model X.prog X.w) A (compareOp .NotIn u (.ref a)) Q E s:=by
 rcases g with ⟨kvs,k,e,ey,l⟩ | ⟨kvs,k,b,e,ey,eb,l⟩
 ·subst ey
  obtain⟨z,hd,vs,rel,dd⟩:=dk_rd I.hok e
  refine wpAny_notIn_of (kV_is ry) hd dd.mapOf ?_
  rw[← (rel.val k).isSome_eq,← l]
  exact h _ (I.tok _)
 ·subst ey
  cases (show u=Value.ref b from ry)
  obtain⟨z,hd,xs,rel,dd⟩:=dt_rd I.hok e
  refine wpAny_notIn_heap (tupleKind_room_in1 hu) (key_of I.hok eb) hd dd ?_
  have q:=(rel.val k).isSome_eq
  rw[Option.isSome_map] at q
  rw[← q,← l]
  exact h _ (I.tok _)
theorem d_write {h':Heap} {t':Nat} {ob:HO} (I:Inv X pins σ H s) (mu:Mut (H a)) (hs:Heap.SameBut a s.heap h') (he:∃ q,h'.get? a=some q) (new:ObjOk X.prog X.w (upd H a ob) h' a ob) :
  Inv X pins σ (upd H a ob) { s with heap:=h',toks:=t' } :=
 I.write (x:=a) (e:=a) mu (.inl rfl) (fun b q hb z=>(hs.2 b hb).trans z) he new
theorem dk_new {P:Program} {w:World} {H':Hp} {h':Heap} {kvs:List (Key×V)} {vs:List (Key×Value)} (z:kvs.length≤sizeLine) (hd:(a == sysModules)=false) (rel:KV kvs vs) (dd:h'.DictOf (zc_ P w) a vs) :
  ObjOk P w H' h' a (.dK kvs):=⟨z,hd,vs,rel,dd⟩
theorem d_setItem {H':Hp} {Q:Unit→Shared→Prop} (hu:A.units+1 < cLine) (I:Inv X pins σ H s) (g:DPut H a y v H') (ry:RelV y u) (rv:RelV v r) (h:∀ s',Inv X pins σ H' s'→Q () s') :
  wpAny (model X.prog X.w) A (setItem (.ref a) u r) Q E s:=by
 rcases g with ⟨kvs,k,e,ey,l,eH⟩ | ⟨kvs,k,b,e,ey,eb,l,eH⟩
 ·subst ey eH
  obtain⟨z,hd,vs,rel,dd⟩:=dk_of I.hok e
  have hz:vs.length≤sizeLine:=by rw[← rel.length];exact z
  have hl:(putK kvs k v).length≤sizeLine:=by have:=length_putK kvs k v;omega
  refine wpAny_setItem_pairs (hsz:=hz) (kV_is ry) dd fun h' dd' hs=>h _ ?_
  have he:∃ q,h'.get? a=some q:=let ⟨q,_,_,hq,_⟩:=dd';⟨q,hq⟩
  exact d_write I (by rw[e];exact True.intro) hs he (dk_new hl hd (rel.put k rv) dd')
 ·subst ey eH
  cases (show u=Value.ref b from ry)
  obtain⟨z,hd,xs,rel,dd⟩:=dt_of I.hok e
  have hz:xs.length≤sizeLine:=by rw[← Paired.length rel];exact z
  have hl:(putK kvs k v).length≤sizeLine:=by have:=length_putK kvs k v;omega
  refine wpAny_setItem_heap (hsz:=hz) (tupleKind_room_in1 hu) (key_of I.hok eb) dd fun h' dd' hs=>h _ ?_
  obtain⟨q,es,ep,hq,h2,h3,h4,_,h5⟩:=dd'
  refine d_write I (by rw[e];exact True.intro) hs ⟨q,hq⟩ ⟨hl,hd,_,(rel.put k eb rv).keeps fun c ys ec=>?_,q,es,ep,hq,h2,h3,h4,h5⟩
  rw[jd_ (ne_of ec e (fun z=>nomatch z))]
  exact ec
end
section
variable {X:Cx} {pins:List (Addr×Obj)} {σ:St} {H:Hp} {s:Shared} {a:Addr} {kvs:List (Key×V)} {k:Key} {u:Value} {A:Around} {E:Value→Shared→Prop}
end
def NoSl (i:Expr):Prop:=∀ ov iv,subscripted i false ov iv=operate [ov,iv] (getItem ov iv)
theorem subD_of {prog:Program} {w:World} {A:Around} {E:Value→Shared→Prop} {s:Shared} {env:Env} {value slice:Expr} {pos:Pos} {T id:String} {Q:Value→Shared→Prop}
  (hl:typeLookup (.type T) "__getitem__"=pure (some (.builtin id))) (hs:NoSl slice)
  (h:wpAny (model prog w) A (eval value env) (fun o s₁=>wpAny (model prog w) A (eval slice env) (fun i s₂=>s₂.TypeIs o T∧wpAny (model prog w) A (getItem o i) Q E s₂) E s₁) E s) :
  wpAny (model prog w) A (eval (.Subscript value slice pos) env) Q E s:=by
 refine Subscript_ (wpAny_mono h (fun o s₁ h₁=>wpAny_mono h₁ (fun i s₂ h₂=>?_) fun _ _ x=>x) fun _ _ x=>x)
 obtain⟨hT,h₂⟩:=h₂
 unfold subscriptTail
 refine wpAny_bind ?_
 rw[getitemInPython_of_ne hT.not_modules]
 refine wpAny_bind (wpAny_specialOf hT hl ?_)
 have fin:wpAny (model prog w) A (subscripted slice false o i) (fun r s₃=>wpAny (model prog w) A (letTemporaryGo value o r >>= fun _=>pure r) Q E s₃) E s₂:=by
  rw[hs o i]
  exact wpAny_operating (wpAny_mono h₂ (fun r s₃ h₃=>wpAny_bind (wpAny_letTemporaryGo (wpAny_pure h₃))) fun _ _ x=>x)
 first
  | exact wpAny_pure (wpAny_bind fin)
  | exact wpAny_bind (wpAny_pure (wpAny_bind fin))
  | exact wpAny_bind fin
theorem dict_typeIs {X:Cx} {pins:List (Addr×Obj)} {σ:St} {H:Hp} {s:Shared} {a:Addr} {y:V} {o:Option V} (I:Inv X pins σ H s) (g:DGet H a y o):s.TypeIs (.ref a) "dict":=by
 rcases g with ⟨kvs,k,e,_,_⟩ | ⟨kvs,k,b,e,_,_,_⟩
 ·obtain⟨_,_,vs,_,dd⟩:=dk_rd I.hok e
  exact dd.typeIs
 ·obtain⟨_,_,xs,_,dd⟩:=dt_rd I.hok e
  exact dd.typeIs
def tDGet (td ty:TE):TE:=fun σ H Q=>td σ H fun x H1=>ty σ H1 fun y H2=>∃ a v,x=.ref a∧DGet H2 a y (some v)∧Q v H2
def tDIn (ty td:TE):TE:=fun σ H Q=>ty σ H fun y H1=>td σ H1 fun x H2=>∃ a o,x=.ref a∧DGet H2 a y o∧Q (.bl o.isSome) H2
def tDNotIn (ty td:TE):TE:=fun σ H Q=>ty σ H fun y H1=>td σ H1 fun x H2=>∃ a o,x=.ref a∧DGet H2 a y o∧Q (.bl (!o.isSome)) H2
def sDPut (td ty tv:TE):TS:=fun D σ H=>tv σ H fun v H1=>td σ H1 fun x H2=>ty σ H2 fun y H3=>∃ a H4,x=.ref a∧DPut H3 a y v H4∧D.nx σ H4
section
variable {X:Cx} {o i e value:Expr} {pos pos' tpos:Pos} {td ty tv:TE}
theorem pe_dget (hu:X.A.units+1 < cLine) (ho:PE X o td) (hi:PE X i ty) (hs:NoSl i):PE X (.Subscript o i pos) (tDGet td ty):=by
 intro pins s σ H Q I h
 refine subD_of PySem.F.slot_dict_getitem.lookup hs (thn (ho pins s σ H _ I h) fun u s1 ⟨x,H1,I1,rx,q1⟩=>thn (hi pins s1 σ H1 _ I1 q1) fun iv s2 ⟨y,H2,I2,ry,a,v,ex,g,q2⟩=>?_)
 subst ex
 obtain rfl:u=Value.ref a:=rx
 exact⟨dict_typeIs I2 g,d_getItem hu I2 g ry fun w' s3 I3 rw'=>⟨v,H2,I3,rw',q2⟩⟩
theorem pc_din (hu:X.A.units+1 < cLine) (hi:PE X i ty) (ho:PE X o td):PC X .In i o (tDIn ty td):=by
 intro pins s σ H Q I h
 refine thn (hi pins s σ H _ I h) fun iv s1 ⟨y,H1,I1,ry,q1⟩=>thn (ho pins s1 σ H1 _ I1 q1) fun u s2 ⟨x,H2,I2,rx,a,ov,ex,g,q2⟩=>?_
 subst ex
 obtain rfl:u=Value.ref a:=rx
 exact d_in hu I2 g ry fun s3 I3=>⟨.bl ov.isSome,H2,I3,rfl,q2⟩
theorem pc_dnotin (hu:X.A.units+1 < cLine) (hi:PE X i ty) (ho:PE X o td):PC X .NotIn i o (tDNotIn ty td):=by
 intro pins s σ H Q I h
 refine thn (hi pins s σ H _ I h) fun iv s1 ⟨y,H1,I1,ry,q1⟩=>thn (ho pins s1 σ H1 _ I1 q1) fun u s2 ⟨x,H2,I2,rx,a,ov,ex,g,q2⟩=>?_
 subst ex
 obtain rfl:u=Value.ref a:=rx
 exact d_notIn hu I2 g ry fun s3 I3=>⟨.bl (!ov.isSome),H2,I3,rfl,q2⟩
theorem ps_dput (hu:X.A.units+1 < cLine) (ho:PE X o td) (hi:PE X i ty) (hv:PE X value tv) (hs:swapsWith value (some (.Subscript o i pos')) pos.line X.env=pure false) :
  PS X (.Assign [.Subscript o i pos'] value pos) (sDPut td ty tv):=by
 intro pins s σ H D I h
 refine wpAny_Assign_Subscript (thn (hv pins s σ H _ I h) fun r s1 ⟨v,H1,I1,rv,q1⟩=>thn (ho pins s1 σ H1 _ I1 q1) fun u s2 ⟨x,H2,I2,rx,q2⟩=>thn (hi pins s2 σ H2 _ I2 q2) fun iv s3 ⟨y,H3,I3,ry,a,H4,ex,g,q3⟩=>?_) hs
 subst ex
 obtain rfl:u=Value.ref a:=rx
 exact d_setItem hu I3 g ry rv fun s4 I4=>⟨σ,H4,I4,q3⟩
end
theorem dk_empty {P:Program} {w:World} {H:Hp} (h:Heap) (hb:sysModules < h.objs.size):ObjOk P w H (h.push { cls:=.type "dict",data:=.dict #[] }) h.objs.size (.dK []) :=
 ⟨Nat.zero_le _,beq_eq_false_iff_ne.mpr (Ne.symm (Nat.ne_of_lt hb)),[],.nil,Heap.DictOf.new h⟩
def tDNewK:TE:=fun _ H Q=>∀ p,H p=none→Q (.ref p) (upd H p (.dK []))
section
variable {X:Cx} {pos:Pos}
theorem pe_dnewK:PE X (.Dict [] [] pos) tDNewK:=fun pins s σ H Q I h =>
 wpAny_Dict_empty ⟨.ref s.heap.objs.size,_,I.laid (a:=s.heap.objs.size) (o:=.dK []) (t':=s.toks) (fun _ _ q=>Heap.get?_push_of_some _ q) (Nat.le_refl _) (dk_empty s.heap I.big),rfl,h _ (I.hok.fresh (Nat.le_refl _))⟩
end
structure M1 (X:Cx) (o:Expr) (m:Str) (apos:Pos) (e:Expr) (cpos:Pos):Prop where
 base:attributeBase o m X.env (eval o X.env)=eval o X.env
 few:((backTo cpos (starEach [e] X.env)).all (fun x=>!x.1)&&(backToKw cpos (keywordEach [] X.env)).all (fun x=>x.1.isSome)
  && decide (([e]:List Expr).length+([]:List Keyword).length+(if ([]:List Keyword).isEmpty then 0 else 1) < 30))=true
 line:(apos.endLine == cpos.line)=true
 trees:backTo cpos (starEach [e] X.env)=[(false,eval e X.env)]
structure M2 (X:Cx) (o:Expr) (m:Str) (apos:Pos) (e f:Expr) (cpos:Pos):Prop where
 base:attributeBase o m X.env (eval o X.env)=eval o X.env
 few:((backTo cpos (starEach [e,f] X.env)).all (fun x=>!x.1)&&(backToKw cpos (keywordEach [] X.env)).all (fun x=>x.1.isSome)
  && decide (([e,f]:List Expr).length+([]:List Keyword).length+(if ([]:List Keyword).isEmpty then 0 else 1) < 30))=true
 line:(apos.endLine == cpos.line)=true
 trees:backTo cpos (starEach [e,f] X.env)=[(false,eval e X.env),(false,eval f X.env)]
section
variable {X:Cx} {pins:List (Addr×Obj)} {σ:St} {H:Hp} {s:Shared} {a:Addr} {y d:V} {u r:Value} {o:Option V} {A:Around} {E:Value→Shared→Prop}
end
section
variable {X:Cx} {o e f:Expr} {apos cpos:Pos} {td ty tx:TE}
end
section
variable {X:Cx} {pins:List (Addr×Obj)} {σ:St} {H:Hp} {s:Shared} {a:Addr} {kvs:List (Key×V)} {A:Around} {E:Value→Shared→Prop}
end
section
variable {X:Cx} {pins:List (Addr×Obj)} {σ:St} {H:Hp} {s:Shared} {a:Addr} {y:V} {u:Value} {A:Around} {E:Value→Shared→Prop}
end
end L2
namespace L2
theorem kS_inj {a b:List Nat} (h:(Sum.inr (S a):Key)=Sum.inr (S b)):a=b:=by
 injection h with h
 exact S_inj h
end L2
namespace L2
def NT (H:Hp):List (Key×V)→List Pat→Prop
 | [],[]=>True
 | kv::kvs,g::gs=>kv.1=Sum.inr (S g.1)∧(∃ t,kv.2=.ref t∧H t=some (.tup (g.2.map V.int)))∧NT H kvs gs
 | _,_=>False
def lookP (gs:List Pat) (z:List Nat):Option Pat:=gs.find? fun g=>decide (g.1=z)
theorem NT.val {H:Hp} {z:List Nat}:∀{kvs:List (Key×V)} {gs:List Pat},NT H kvs gs→(lookP gs z=none∧valV kvs (Sum.inr (S z))=none)∨∃ g t,lookP gs z=some g∧g∈gs∧g.1=z∧valV kvs (Sum.inr (S z))=some (.ref t)∧H t=some (.tup (g.2.map V.int))
 | [],[],_=>.inl ⟨rfl,rfl⟩
 | [],_::_,h=>h.elim
 | _::_,[],h=>h.elim
 | kv::kvs,g::gs,h=>by
  obtain⟨h1,⟨t,h2,h3⟩,h4⟩:=h
  by_cases e:g.1=z
  ·refine .inr ⟨g,t,?_,List.mem_cons_self,e,?_,h3⟩
   ·unfold lookP;rw[List.find?_cons,decide_eq_true e]
   ·rw[valV_pos (by rw[h1,e]),h2]
  ·have hl:lookP (g::gs) z=lookP gs z:=by unfold lookP;rw[List.find?_cons,decide_eq_false e]
   have hv:valV (kv::kvs) (Sum.inr (S z))=valV kvs (Sum.inr (S z)):=valV_neg fun q=>e (kS_inj (h1.symm.trans q))
   rw[hl,hv]
   rcases NT.val (z:=z) h4 with q | ⟨g',t',a,b,c,d,f⟩
   ·exact .inl q
   ·exact .inr ⟨g',t',a,List.mem_cons_of_mem _ b,c,d,f⟩
theorem NT.same {H H':Hp} (s:Same H H'):∀{kvs:List (Key×V)} {gs:List Pat},NT H kvs gs→NT H' kvs gs
 | [],[],_=>trivial
 | [],_::_,h=>h.elim
 | _::_,[],h=>h.elim
 | kv::kvs,g::gs,h=>by
  obtain⟨h1,⟨t,h2,h3⟩,h4⟩:=h
  exact⟨h1,⟨t,h2,s _ _ h3⟩,NT.same s h4⟩
end L2
namespace L2
open PySem
theorem NT.anyK {H:Hp} {s:List Nat}:∀{kvs:List (Key×V)} {gs:List Pat},NT H kvs gs→(kvs.any fun kv=>decide (kv.1=(Sum.inr (S s):Key)))=gs.any fun g=>decide (g.1=s)
 | [],[],_=>rfl
 | [],_::_,h=>h.elim
 | _::_,[],h=>h.elim
 | kv::kvs,g::gs,h=>by
  obtain⟨h1,_,h4⟩:=h
  rw[List.any_cons,List.any_cons,NT.anyK h4]
  congr 1
  rw[h1]
  by_cases e:g.1=s
  ·rw[decide_eq_true e,decide_eq_true (by rw[e])]
  ·rw[decide_eq_false e,decide_eq_false fun q=>e (kS_inj q)]
theorem NT.append {H:Hp}:∀{kvs kvs':List (Key×V)} {gs gs':List Pat},NT H kvs gs→NT H kvs' gs'→NT H (kvs++kvs') (gs++gs')
 | [],_,[],_,_,h=>h
 | [],_,_::_,_,h,_=>h.elim
 | _::_,_,[],_,h,_=>h.elim
 | kv::kvs,_,g::gs,_,h,h'=>⟨h.1,h.2.1,NT.append h.2.2 h'⟩
theorem NT.tups {H H':Hp} (hk:∀ b zs,H b=some (.tup zs)→H' b=some (.tup zs)):∀{kvs:List (Key×V)} {gs:List Pat},NT H kvs gs→NT H' kvs gs
 | [],[],_=>trivial
 | [],_::_,h=>h.elim
 | _::_,[],h=>h.elim
 | kv::kvs,g::gs,h=>by
  obtain⟨h1,⟨t,h2,h3⟩,h4⟩:=h
  exact⟨h1,⟨t,h2,hk _ _ h3⟩,NT.tups hk h4⟩
end L2
namespace L2
end L2
namespace L2
open PySem PySem.Spec PyProof.Rows
open Sem (wp)
open AutoSeq1 (wpAny_loadPart')
set_option maxHeartbeats 4000000 in
theorem enum_newT0 (l:Addr) (items:Array Value) (n:Nat) (dct:Option Addr) (sl:Array (Option Value)) :
  Meets (Builtin.«enumerate.__new__» ⟨[.type "enumerate",.ref l],[]⟩) (fun _ R s=>s.heap.get? l=some { cls:=.type "tuple",dict:=dct,data:=.seq items n,slots:=sl } ∧
   R (.ok (.ret (.ref (s.heap.push { cls:=.type "tuple_iterator",data:=.fields #[.ref l,.int 0 0] }).objs.size)))
    { s with heap:=(s.heap.push { cls:=.type "tuple_iterator",data:=.fields #[.ref l,.int 0 0] }).push { cls:=.type "enumerate",data:=.fields #[.none,.bool false,.ref s.heap.objs.size,rawInt 0,.none,.none] } }) :=
 .of_wp fun prog w A R s h=>by
  obtain⟨hp,g,d,tk,os⟩:=s;obtain⟨hl,h⟩:=h
  have hsub:=sub_enumerate
  have hL:Heap.IsTuple (Shared.heap ⟨hp,g,d,tk,os⟩) l items:=⟨_,hl,rfl,n,rfl⟩
  wp_walk using wpAny_loadPart' hl
  refine wpAny_stack_any fun st=>wpAny_pure ?_
  split
  ·rename_i c _ _ _ _ _
   cases (c == Value.type "enumerate")
   ·wp_walk using wpAny_loadPart' hl,wpAny_pyIter_tuple hL
    exact⟨_,rfl,h⟩
   ·wp_walk using wpAny_loadPart' hl,wpAny_pyIter_tuple hL
    exact⟨_,rfl,h⟩
  ·wp_walk using wpAny_loadPart' hl,wpAny_pyIter_tuple hL
   exact⟨_,rfl,h⟩
set_option maxHeartbeats 4000000 in
theorem enum_newL0 (l:Addr) (items:Array Value) (n:Nat) (dct:Option Addr) (sl:Array (Option Value)) :
  Meets (Builtin.«enumerate.__new__» ⟨[.type "enumerate",.ref l],[]⟩) (fun _ R s=>s.heap.get? l=some { cls:=.type "list",dict:=dct,data:=.seq items n,slots:=sl } ∧
   R (.ok (.ret (.ref (s.heap.push { cls:=.type "list_iterator",data:=.fields #[.ref l,.int 0 0] }).objs.size)))
    { s with heap:=(s.heap.push { cls:=.type "list_iterator",data:=.fields #[.ref l,.int 0 0] }).push { cls:=.type "enumerate",data:=.fields #[.none,.bool false,.ref s.heap.objs.size,rawInt 0,.none,.none] } }) :=
 .of_wp fun prog w A R s h=>by
  obtain⟨hp,g,d,tk,os⟩:=s;obtain⟨hl,h⟩:=h
  have hsub:=sub_enumerate
  have hL:Heap.IsList (Shared.heap ⟨hp,g,d,tk,os⟩) l items:=⟨_,hl,rfl,n,rfl⟩
  wp_walk using wpAny_loadPart' hl
  refine wpAny_stack_any fun st=>wpAny_pure ?_
  split
  ·rename_i c _ _ _ _ _
   cases (c == Value.type "enumerate")
   ·wp_walk using wpAny_loadPart' hl,wpAny_pyIter_list hL
    exact⟨_,rfl,h⟩
   ·wp_walk using wpAny_loadPart' hl,wpAny_pyIter_list hL
    exact⟨_,rfl,h⟩
  ·wp_walk using wpAny_loadPart' hl,wpAny_pyIter_list hL
   exact⟨_,rfl,h⟩
theorem chk10 (a:Value):checkTypeCall "enumerate" ⟨[a],[]⟩=pure ():=by kernel_rfl
theorem chk20 (a:Value):checkBuiltinCall "enumerate.__new__" ⟨[.type "enumerate",a],[]⟩=pure ():=by kernel_rfl
section
variable {prog:Program} {w:World} {A:Around} {E:Value→Shared→Prop} {s:Shared}
theorem call_enumT0 {l:Addr} {items:Array Value} {Q:Value→Shared→Prop} (hL:s.heap.IsTuple l items)
  (h:∀ h',IsEnum h' (s.heap.objs.size+1) s.heap.objs.size 0 .none→h'.IsTupleIter s.heap.objs.size l 0→(∀ b o,s.heap.get? b=some o→h'.get? b=some o)→Q (.ref (s.heap.objs.size+1)) { s with heap:=h' }) :
  wpAny (model prog w) A (call (.type "enumerate") [.ref l]) Q E s:=by
 obtain⟨⟨c,dct,dt,sl⟩,hl,hc,n,hd⟩:=hL
 simp only at hc hd
 subst hc hd
 refine callTypeK (Q₁:=fun obj s₁=>s₁.TypeIs obj "enumerate"∧Q obj s₁) F.called_enumerate (chk10 _) (chk20 _) F.entry_enumerate_new F.entry_object_init (enum_newT0 l items n dct sl) ⟨hl,?_⟩
  fun obj s₁ hq=>⟨hq.1,F.args_object_init_2 obj _,_,initK F.called_enumerate.init.lookup F.called_enumerate.made (by decide),hq.1,rfl,hq.2⟩
 have hz:(s.heap.push { cls:=.type "tuple_iterator",data:=.fields #[.ref l,.int 0 0] }).objs.size=s.heap.objs.size+1:=Heap.size_push ..
 show _∧_
 rw[hz]
 have he:IsEnum ((s.heap.push { cls:=.type "tuple_iterator",data:=.fields #[.ref l,.int 0 0] }).push { cls:=.type "enumerate",data:=.fields #[.none,.bool false,.ref s.heap.objs.size,rawInt 0,.none,.none] }) (s.heap.objs.size+1) s.heap.objs.size 0 .none:=by
  have:=Heap.get?_push_size (s.heap.push { cls:=.type "tuple_iterator",data:=.fields #[.ref l,.int 0 0] }) (o:={ cls:=.type "enumerate",data:=.fields #[.none,.bool false,.ref s.heap.objs.size,rawInt 0,.none,.none] }) rfl
  rw[hz] at this;exact this
 exact⟨⟨_,he,rfl⟩,h _ he ⟨_,Heap.get?_push_of_some _ (Heap.get?_push_size _ rfl),rfl,rfl⟩ fun b o x=>Heap.get?_push_of_some _ (Heap.get?_push_of_some _ x)⟩
theorem call_enumL0 {l:Addr} {items:Array Value} {Q:Value→Shared→Prop} (hL:s.heap.IsList l items)
  (h:∀ h',IsEnum h' (s.heap.objs.size+1) s.heap.objs.size 0 .none→h'.IsListIter s.heap.objs.size l 0→(∀ b o,s.heap.get? b=some o→h'.get? b=some o)→Q (.ref (s.heap.objs.size+1)) { s with heap:=h' }) :
  wpAny (model prog w) A (call (.type "enumerate") [.ref l]) Q E s:=by
 obtain⟨⟨c,dct,dt,sl⟩,hl,hc,n,hd⟩:=hL
 simp only at hc hd
 subst hc hd
 refine callTypeK (Q₁:=fun obj s₁=>s₁.TypeIs obj "enumerate"∧Q obj s₁) F.called_enumerate (chk10 _) (chk20 _) F.entry_enumerate_new F.entry_object_init (enum_newL0 l items n dct sl) ⟨hl,?_⟩
  fun obj s₁ hq=>⟨hq.1,F.args_object_init_2 obj _,_,initK F.called_enumerate.init.lookup F.called_enumerate.made (by decide),hq.1,rfl,hq.2⟩
 have hz:(s.heap.push { cls:=.type "list_iterator",data:=.fields #[.ref l,.int 0 0] }).objs.size=s.heap.objs.size+1:=Heap.size_push ..
 show _∧_
 rw[hz]
 have he:IsEnum ((s.heap.push { cls:=.type "list_iterator",data:=.fields #[.ref l,.int 0 0] }).push { cls:=.type "enumerate",data:=.fields #[.none,.bool false,.ref s.heap.objs.size,rawInt 0,.none,.none] }) (s.heap.objs.size+1) s.heap.objs.size 0 .none:=by
  have:=Heap.get?_push_size (s.heap.push { cls:=.type "list_iterator",data:=.fields #[.ref l,.int 0 0] }) (o:={ cls:=.type "enumerate",data:=.fields #[.none,.bool false,.ref s.heap.objs.size,rawInt 0,.none,.none] }) rfl
  rw[hz] at this;exact this
 exact⟨⟨_,he,rfl⟩,h _ he ⟨_,Heap.get?_push_of_some _ (Heap.get?_push_size _ rfl),rfl,rfl⟩ fun b o x=>Heap.get?_push_of_some _ (Heap.get?_push_of_some _ x)⟩
end
section
variable {X:Cx}
def iEnumL (te:TE):TI:=fun σ H R=>te σ H (enItS 0 R)
theorem pi_enumL {elts:List Expr} {k:Nat} {tpos:Pos} {a:Expr} {ta:TE} {p pos:Pos} (hg:Gl X "enumerate") (hm:X.mg "enumerate"=none) (ha:PE X a ta) (hs:starEach [a] X.env=[(false,eval a X.env)]:=by rfl) :
  PI X (.Tuple elts k tpos) (.Call (.Name "enumerate" p) [a] [] pos) (iEnumL ta):=by
 intro pins s σ H R I h
 refine Call_ (ld_blt I hg hm boot_enumerate (PyProof.Rows.callWith_type1 ?_ hs rfl))
 rw[hs]
 show wpAny _ _ (spliced ((false,eval a X.env)::backTo pos (starEach [] X.env))) _ _ s
 refine Calls.spliced_cons (thn (ha pins s σ H _ I h) fun u s2 ⟨x,H2,I2,ru,q2⟩=>Calls.spliced_nil ?_)
 unfold enItS at q2
 split at q2
 ·rename_i l
  cases ru
  have fp:∀ b∈[s2.heap.objs.size+1,s2.heap.objs.size],FpOk X pins H2 b:=fun b hb=>by
   have:s2.heap.objs.size≤b:=by
    rcases List.mem_cons.mp hb with z | z
    ·rw[z];exact Nat.le_succ _
    ·have z':b=s2.heap.objs.size:=by simpa using z
     rw[z'];exact Nat.le_refl _
   exact I2.fpOk this (I2.hok.fresh this)
  rcases q2 with ⟨xs,hl,q2⟩ | ⟨xs,hl,q2⟩
  ·obtain⟨its,rv,pl,hz⟩:=I2.list (SqL.of hl)
   refine call_enumL0 pl.isList fun h1 he hit hk=>?_
   refine wpAny_pyIter_enum he ?_
   refine⟨s2.heap.objs.size+1,[s2.heap.objs.size+1,s2.heap.objs.size],_,_,H2,rfl,I2.kept (t':=s2.toks) hk,turn_enum (b:=0) (ok:=fun H=>H l=some (.lst xs)) (xs:=xs) (St0:=fun i h=>h.IsListIter s2.heap.objs.size l i) (Nat.succ_ne_self _) ?_ ?_ ?_,⟨⟨.none,he⟩,hit⟩,fp,q2⟩
   ·intro X' h1 h2 h3 hc i pins s σ H I ok hn st
    exact h1▸h2▸drawList hc I (SqL.of ok) hn (by rw[ok];exact fun z=>nomatch z) st
   ·intro i h st
    obtain⟨o,ho,hc,hd⟩:=st
    exact⟨o,ho,fun v q=>by rw[hd] at q;cases q⟩
   ·intro i h h' st kk
    exact st.at kk
  ·obtain⟨its,rv,pl,hz⟩:=I2.tuple (SqT.of hl)
   refine call_enumT0 pl fun h1 he hit hk=>?_
   refine wpAny_pyIter_enum he ?_
   refine⟨s2.heap.objs.size+1,[s2.heap.objs.size+1,s2.heap.objs.size],_,_,H2,rfl,I2.kept (t':=s2.toks) hk,turn_enum (b:=0) (ok:=fun H=>H l=some (.tup xs)) (xs:=xs) (St0:=fun i h=>h.IsTupleIter s2.heap.objs.size l i) (Nat.succ_ne_self _) ?_ ?_ ?_,⟨⟨.none,he⟩,hit⟩,fp,q2⟩
   ·intro X' h1 h2 h3 hc i pins s σ H I ok hn st
    exact h1▸h2▸drawTup hc I (SqT.of ok) hn (by rw[ok];exact fun z=>nomatch z) st
   ·intro i h st
    obtain⟨o,ho,hc,hd⟩:=st
    exact⟨o,ho,fun v q=>by rw[hd] at q;cases q⟩
   ·intro i h h' st kk
    exact st.at kk
 ·exact q2.elim
end
end L2
namespace L2
open PySem PySem.Spec PyProof.Rows
structure Dm (P:Program) (w:World) (K:PySem.W.Frag) (mg:Str→Option Value) (base:Heap) (C:Addr) (m:Str) (k:Nat) (ps:List Str) (sp:Sp):Prop where
 ex:∃(f:Addr) (fd:FuncData),Meth K C m f∧Binds K fd ps []∧FnOk P w K mg base CX0 k f fd ps sp
structure Dk (P:Program) (w:World) (K:PySem.W.Frag) (mg:Str→Option Value) (base:Heap) (C:Addr) (k:Nat) (ps:List Str) (sp:Sp):Prop where
 ex:∃(f:Addr) (fd:FuncData),Mk K C f∧Binds K fd ps []∧FnOk P w K mg base CX0 k f fd ps sp
section
variable {X:Cx} {k:Nat} {C:Addr} {ps:List Str} {sp:Sp} {x m:Str} {p pos apos:Pos} {e o:Expr} {es:List Expr} {ta:TE} {t:TA}
theorem pe_methD {pl:Sem Bool} (he:PE X o ta) (c:Cls X.K C) (D:Dm X.prog X.w X.K X.mg X.base C m k ps sp) (hr:Room k X.A) (ha:PA X (e::es) t)
  (hst:starEach (e::es) X.env=(false,eval e X.env)::starEach es X.env:=by rfl) (hpl:(backTo pos (starEach es X.env)).any (·.1)=false:=by rfl)
  (ht:eval (.Call (.Attribute o m apos) (e::es) [] pos) X.env=(do
   let ov ← eval o X.env
   standAt apos.atName
   let (f,first) ← holding [ov] (getMethod ov m pl)
   callWith pos f first (backTo pos (starEach (e::es) X.env)) (backToKw pos (keywordEach [] X.env))):=by rfl) :
  PE X (.Call (.Attribute o m apos) (e::es) [] pos) (tMeth C m sp [] E0 ta t):=by
 obtain⟨f,fd,h1,h2,h3⟩:=D.ex
 exact pe_meth he c h1 h3 hr h2 .nil pass0 ha hst hpl ht
theorem pe_methD0 {pl:Sem Bool} (he:PE X o ta) (c:Cls X.K C) (D:Dm X.prog X.w X.K X.mg X.base C m k ps sp) (hr:Room k X.A)
  (ht:eval (.Call (.Attribute o m apos) [] [] pos) X.env=(do
   let ov ← eval o X.env
   standAt apos.atName
   let (f,first) ← holding [ov] (getMethod ov m pl)
   callWith pos f first (backTo pos (starEach [] X.env)) (backToKw pos (keywordEach [] X.env))):=by rfl) :
  PE X (.Call (.Attribute o m apos) [] [] pos) (tMeth C m sp [] E0 ta tNil):=by
 obtain⟨f,fd,h1,h2,h3⟩:=D.ex
 exact pe_meth0 he c h1 h3 hr h2 .nil pass0 ht
theorem pe_makeD (D:Dk X.prog X.w X.K X.mg X.base C k ps sp) (hr:Room (k+1) X.A) (hg:Gl X x) (hm:X.mg x=some (.ref C)) (ha:PA X (e::es) t)
  (hdb:(x == ("__debug__":Str))=false:=by decide) (he:starEach (e::es) X.env=(false,eval e X.env)::starEach es X.env:=by rfl) (hpl:(backTo pos (starEach es X.env)).any (·.1)=false:=by rfl) :
  PE X (.Call (.Name x p) (e::es) [] pos) (tMake C sp [] E0 t):=by
 obtain⟨f,fd,h1,h2,h3⟩:=D.ex
 exact pe_make h1 h3 hr hg hm h2 .nil pass0 ha hdb he hpl
end
section
variable {σ:St} {H:Hp} {Q:VK} {D:Ends}
theorem i_meth {C:Addr} {m:Str} {sp:Sp} {E:XK} {ta:TE} {t:TA} (h:ta σ H fun x H1=>∃ a dx fs,x=.ref a∧H1 a=some (.ins C dx fs)∧fs.lookup m=none∧t σ H1 fun vs H2=>sp (x::(vs++[])) H2 Q E):tMeth C m sp [] E ta t σ H Q:=h
theorem i_self {a C dx:Addr} {fs:List (Str×V)} {m:Str} {R:Prop} (h1:H a=some (.ins C dx fs)) (h2:fs.lookup m=none) (h:R):∃ a' dx' fs',V.ref a=.ref a'∧H a'=some (.ins C dx' fs')∧fs'.lookup m=none∧R:=⟨a,dx,fs,rfl,h1,h2,h⟩
theorem i_make {C:Addr} {sp:Sp} {E:XK} {t:TA} (h:t σ H fun vs H1=>∀ x dx,H1 x=none→H1 dx=none→dx≠x→sp (.ref x::(vs++[])) (upd (upd H1 dx (.own x)) x (.ins C dx [])) (fun v H2=>v=.non∧Q (.ref x) H2) E):tMake C sp [] E t σ H Q:=h
theorem i_fldE {K:PySem.W.Frag} {ta:TE} {f:Str} (h:ta σ H fun x H1=>∃ a C dx fs v,x=.ref a∧H1 a=some (.ins C dx fs)∧Cls K C∧NoAttr K C f∧fs.lookup f=some v∧Q v H1):tFld K ta f σ H Q:=h
theorem i_fldS {K:PySem.W.Frag} {ta tv:TE} {f:Str} (h:tv σ H fun y H1=>ta σ H1 fun x H2=>∃ a C dx fs,x=.ref a∧H2 a=some (.ins C dx fs)∧Cls K C∧NoAttr K C f∧fs.length < 1000∧D.nx σ (upd H2 a (.ins C dx (putF f y fs)))):sFld K ta tv f D σ H:=h
theorem i_fld1 {K:PySem.W.Frag} {a C dx:Addr} {fs:List (Str×V)} {f:Str} {v:V} {R:V→Prop} (h1:H a=some (.ins C dx fs)) (c:Cls K C) (n:NoAttr K C f) (l:fs.lookup f=some v) (h:R v):∃ a' C' dx' fs' v',V.ref a=.ref a'∧H a'=some (.ins C' dx' fs')∧Cls K C'∧NoAttr K C' f∧fs'.lookup f=some v'∧R v':=⟨a,C,dx,fs,v,rfl,h1,c,n,l,h⟩
theorem i_fld2 {K:PySem.W.Frag} {a C dx:Addr} {fs:List (Str×V)} {f:Str} {y:V} {R:Hp→Prop} (h1:H a=some (.ins C dx fs)) (c:Cls K C) (n:NoAttr K C f) (l:fs.length < 1000) (h:R (upd H a (.ins C dx (putF f y fs)))) :
  ∃ a' C' dx' fs',V.ref a=.ref a'∧H a'=some (.ins C' dx' fs')∧Cls K C'∧NoAttr K C' f∧fs'.length < 1000∧R (upd H a' (.ins C' dx' (putF f y fs'))):=⟨a,C,dx,fs,rfl,h1,c,n,l,h⟩
end
end L2
namespace L2
open PySem
open Sem (wp)
structure ZA (z TI TO i1 i2:Addr) (f1 f2:List Addr):Prop where
 TIz:TI≠z
 TOz:TO≠z
 i1z:i1≠z
 i2z:i2≠z
 TITO:TI≠TO
 TIi1:TI≠i1
 TIi2:TI≠i2
 TOi1:TO≠i1
 TOi2:TO≠i2
 i12:i1≠i2
 zf1:z∉f1
 zf2:z∉f2
 of1:TO∉f1
 of2:TO∉f2
 i1f2:i1∉f2
 i2f1:i2∉f1
section
variable {prog:Program} {w:World} {A:Around} {E:Value→Shared→Prop} {s:Shared}
end
set_option maxHeartbeats 4000000 in
section
variable {prog:Program} {w:World} {A:Around} {E:Value→Shared→Prop} {s:Shared}
end
end L2
namespace L2
open PySem PySem.Spec PyProof.Rows
section
variable {X:Cx}
end
end L2
namespace L2
open PySem PySem.Spec PyProof.Rows
section
variable {X:Cx}
end
end L2
namespace L2
open PySem
end L2
namespace L2
open PySem PySem.Spec PyProof.Rows
section
variable {X:Cx}
end
end L2
namespace L2
open PySem PySem.Spec PyProof.Rows
def Dat (H H':Hp):Prop:=(∀ b xs,H b=some (.lst xs)→H' b=some (.lst xs))∧(∀ b xs,H b=some (.tup xs)→H' b=some (.tup xs))∧∀ b kvs,H b=some (.dK kvs)→H' b=some (.dK kvs)
theorem Same.dat {H H':Hp} (h:Same H H'):Dat H H':=⟨fun b xs e=>h b _ e,fun b xs e=>h b _ e,fun b xs e=>h b _ e⟩
theorem Dat.trans {H H1 H2:Hp} (a:Dat H H1) (b:Dat H1 H2):Dat H H2:=⟨fun c o e=>b.1 c o (a.1 c o e),fun c o e=>b.2.1 c o (a.2.1 c o e),fun c o e=>b.2.2 c o (a.2.2 c o e)⟩
theorem Dat.ins {H:Hp} {p C dx:Addr} {fs:List (Str×V)} (hp:H p=some (.ins C dx fs)) (o:HO):Dat H (upd H p o):=by
 refine⟨fun b xs e=>?_,fun b xs e=>?_,fun b xs e=>?_⟩ <;>
 ·have hb:b≠p:=fun z=>by rw[z,hp] at e;cases e
  rw[jd_ hb];exact e
mutual
theorem Is.dat {H H':Hp} (h:Dat H H'):∀{d:Dt} {v:V},Is H v d→Is H' v d
 | .non,_,k=>by simp only[Is] at k ⊢;exact k
 | .bl _,_,k=>by simp only[Is] at k ⊢;exact k
 | .int _,_,k=>by simp only[Is] at k ⊢;exact k
 | .str _,_,k=>by simp only[Is] at k ⊢;exact k
 | .tup ds,_,k=>by
  simp only[Is] at k ⊢
  obtain⟨a,xs,e,h1,h2⟩:=k
  exact⟨a,xs,e,h.2.1 _ _ h1,IsL.dat h h2⟩
 | .lst ds,_,k=>by
  simp only[Is] at k ⊢
  obtain⟨a,xs,e,h1,h2⟩:=k
  exact⟨a,xs,e,h.1 _ _ h1,IsL.dat h h2⟩
theorem IsL.dat {H H':Hp} (h:Dat H H'):∀{ds:List Dt} {xs:List V},IsL H xs ds→IsL H' xs ds
 | [],[],_=>by simp only[IsL]
 | d::ds,x::xs,k=>by
  simp only[IsL] at k ⊢
  exact⟨Is.dat h k.1,IsL.dat h k.2⟩
 | [],_::_,k=>by simp only[IsL] at k
 | _::_,[],k=>by simp only[IsL] at k
end
theorem NT.dat {H H':Hp} (h:Dat H H') {kvs:List (Key×V)} {gs:List Pat} (k:NT H kvs gs):NT H' kvs gs:=NT.tups h.2.1 k
theorem off_new {H H1 H2:Hp} {p:Addr} (h:∀ b o,b≠p→H b=some o→H1 b=some o) (s:Same H1 H2):∀ b o,b≠p→H b=some o→H2 b=some o:=fun b o hb e=>s _ _ (h b o hb e)
theorem off_upd {H H1:Hp} {p:Addr} {x:HO} (h:∀ b o,b≠p→H b=some o→H1 b=some o):∀ b o,b≠p→H b=some o→(upd H1 p x) b=some o:=fun b o hb e=>by rw[jd_ hb];exact h b o hb e
theorem i_din {ty td:TE} {σ:St} {H:Hp} {Q:VK} (h:ty σ H fun y H1=>td σ H1 fun x H2=>∃ a o,x=.ref a∧DGet H2 a y o∧Q (.bl o.isSome) H2):tDIn ty td σ H Q:=h
theorem i_tB {t:TE} {σ:St} {H:Hp} {Q:Bool→Hp→Prop} (h:t σ H fun x H1=>∃ c,x=.bl c∧Q c H1):tB t σ H Q:=h
structure View where
 t:List Nat
 b:Option Nat
 i:Int
 j:Int
end L2
namespace L2
open PySem PySem.Spec PyProof.Rows
def Lay (n:Nat) (d:Dt):Prop:=PyData.canLay0 (toP d)=true∧PyData.depth (toP d)≤n
theorem Lay.ok {n:Nat} {d:Dt} (h:Lay n d) (hn:n≤64):okD d:=by
 unfold okD SeqAt.shaped
 rw[h.1,decide_eq_true (Nat.le_trans h.2 hn)];rfl
theorem lay_all {n:Nat}:∀{ds:List Dt},(∀ d∈ds,Lay n d)→PyData.canLayAll0 (toPs ds)=true∧PyData.depthAll (toPs ds)≤n
 | [],_=>⟨rfl,Nat.zero_le _⟩
 | d::ds,h=>by
  have h1:=h d List.mem_cons_self
  have h2:=lay_all (ds:=ds) fun e he=>h e (List.mem_cons_of_mem _ he)
  simp only[toPs,PyData.canLayAll0,PyData.depthAll,h1.1,h2.1,Bool.and_self,true_and]
  have:=h1.2
  have:=h2.2
  omega
theorem Lay.lst {n:Nat} {ds:List Dt} (h:∀ d∈ds,Lay n d):Lay (n+1) (.lst ds):=by
 have:=lay_all h
 unfold Lay
 simp only[toP,PyData.canLay0,PyData.depth,this.1,true_and]
 omega
theorem Lay.str {l:List Nat} (h:∀ c∈l,c < 128):Lay 0 (.str (S l)):=by
 refine⟨?_,Nat.le_refl _⟩
 simp only[toP,PyData.canLay0]
 unfold PyData.strOk
 rw[← Array.all_toList]
 show (l.all fun x=>decide (x < 0x110000))=true
 rw[List.all_eq_true]
 intro c hc
 have:=h c hc
 exact decide_eq_true (by omega)
end L2
namespace L2
open PySem PySem.Spec PyProof.Rows
section
variable {X:Cx}
theorem KV.key {κ:Type}:∀{kvs:List (κ×V)} {vs:List (κ×Value)},KV kvs vs→vs.map (·.1)=kvs.map (·.1)
 | [],[],_=>rfl
 | _::_,_::_,.cons r t=>by
  simp only[List.map_cons]
  rw[KV.key t,r.1]
theorem collect_dk {pins:List (Addr×Obj)} {σ:St} {H:Hp} {s:Shared} {a:Addr} {kvs:List (Key×V)} {A:Around} {E:Value→Shared→Prop} {R:List Value→Shared→Prop} (I:Inv X pins σ H s) (hh:A.handled=none) (e:H a=some (.dK kvs))
  (h:∀(h':Heap) (tk:Nat) (acc:List Value),(∀ b o,s.heap.get? b=some o→h'.get? b=some o)→acc.length=kvs.length→(∀(j:Nat) v,acc[j]?=some v→∃ p,kvs[j]?=some p∧RelV (kV p.1) v)→R acc { s with heap:=h',toks:=tk }) :
  wpAny (model X.prog X.w) A (collect (.ref a)) R E s:=by
 obtain⟨z,hd,vs,rel,dd⟩:=dk_of I.hok e
 obtain⟨ep,hat⟩:=dd.dictAt
 have hk:=KV.key rel
 have hl:vs.length=kvs.length:=by rw[← List.length_map (f:=(·.1)),hk,List.length_map]
 refine PySem.W.kdu_collect (PySem.W.kdl_dict (knd:=zc_ X.prog X.w) (kvs:=vs) (ep:=ep) hd) hh hat (by rw[hl];exact z) fun h' tk acc hkk hacc=>?_
 refine h h' tk acc.toList hkk (by rw[Array.length_toList,hacc.1,hl]) fun j v hv=>?_
 obtain⟨k,x,hx,hi⟩:=hacc.2 j v (by rw[← Array.getElem?_toList];exact hv)
 have hj:(kvs.map (·.1))[j]?=some k:=by rw[← hk,List.getElem?_map,hx];rfl
 rw[List.getElem?_map] at hj
 cases hp:kvs[j]? with
 | none=>rw[hp] at hj;cases hj
 | some p =>
  rw[hp] at hj
  have hj:p.1=k:=by injection hj
  refine⟨p,rfl,?_⟩
  rw[hj]
  rcases za_ (show keyIs k v=true from hi) with ⟨i,t,rfl,rfl⟩ | ⟨y,t,rfl,rfl⟩
  ·exact⟨t,rfl⟩
  ·exact⟨t,rfl⟩
def fSortD:List V→Hp→VK→Prop:=fun xs H Q=>match xs with
 | [.ref a]=>(∃(ns:List Int) (kvs:List (Key×V)),H a=some (.dK kvs)∧kvs.map (·.1)=ns.map Sum.inl∧ns.length < 64∧∀(q:Addr) (ms:List Int),H q=none→ms.Perm ns→ms.Pairwise (·≤·)→Q (.ref q) (upd H q (.lst (ms.map V.int)))) ∨
  (∃(ss:List Str) (kvs:List (Key×V)),H a=some (.dK kvs)∧kvs.map (·.1)=ss.map Sum.inr∧ss.length < 64∧∀(q:Addr) (ms:List Str),H q=none→ms.Perm ss→sortedS ms=true→Q (.ref q) (upd H q (.lst (ms.map V.str))))
 | _=>False
theorem sortDS {H:Hp} {Q:VK} {a:Addr} {ss:List Str} {kvs:List (Key×V)} (h1:H a=some (.dK kvs)) (h2:kvs.map (·.1)=ss.map Sum.inr) (h3:ss.length < 64) (h:∀(q:Addr) (ms:List Str),H q=none→ms.Perm ss→sortedS ms=true→Q (.ref q) (upd H q (.lst (ms.map V.str)))):fSortD [.ref a] H Q:=.inr ⟨ss,kvs,h1,h2,h3,h⟩
theorem vals_intsA:∀{vs:List Value} {ns:List Int},IntsAre vs ns→Vals (ns.map V.int) vs
 | _,_,.nil=>.nil
 | _,_,.cons n t h=>.cons ⟨t,rfl⟩ (vals_intsA h)
theorem vals_strsA:∀{vs:List Value} {ns:List Str},StrsAre vs ns→Vals (ns.map V.str) vs
 | _,_,.nil=>.nil
 | _,_,.cons n t h=>.cons ⟨t,rfl⟩ (vals_strsA h)
theorem c_sortD (hc:X.calm=true):CallR X (.builtin "sorted") fSortD:=by
 intro pins s σ H xs us Q I r h
 unfold fSortD at h
 split at h
 ·rename_i a
  obtain⟨u,rfl,ru⟩:=vals1 r
  cases ru
  refine PySem.Calls.call_function_entry kind_sorted plain_sorted entry_sorted (args_sorted1 _) ?_
  unfold Builtin.«sorted»
  refine wpAny_bind (m:=checkCount "sorted" 1 1 _) (wpAny_pure ?_)
  have key:∀(h1:Heap) (out:Array Value) (acc:List Value) (b:Addr) (o:Obj),h1.get? b=some o→(sortedHeap (h1.push (seqObj "list" acc.toArray 0)) h1.objs.size acc out).get? b=some o:=fun h1 out acc b o eb=>by
   have hlt:=Heap.lt_size eb
   rw[sortedHeap_old (Nat.ne_of_lt hlt) (by rw[Heap.size_push];exact Nat.lt_succ_of_lt hlt)]
   exact Heap.get?_push_of_some _ eb
  rcases h with ⟨ns,kvs,e,hk,h64,q⟩ | ⟨ss,kvs,e,hk,h64,q⟩
  ·have hl:kvs.length=ns.length:=by rw[← List.length_map (f:=(·.1)),hk,List.length_map]
   refine wpAny_bind (collect_dk I (A:=X.A.in1) (show X.A.in1.handled=none from I.ok.hd hc) e fun h1 tk acc hkk hal hacc=>?_)
   have hint:∀(j:Nat) v,acc[j]?=some v→∃ n t,ns[j]?=some n∧v=.int n t:=fun j v hv=>by
    obtain⟨p,hp,hr⟩:=hacc j v hv
    have hj:(ns.map (Sum.inl:Int→Key))[j]?=some p.1:=by rw[← hk,List.getElem?_map,hp];rfl
    rw[List.getElem?_map] at hj
    cases hn:ns[j]? with
    | none=>rw[hn] at hj;cases hj
    | some n =>
     rw[hn] at hj
     have hj:(Sum.inl n:Key)=p.1:=by injection hj
     rw[← hj] at hr
     obtain⟨t,rfl⟩:=(show ∃ t,v=Value.int n t from hr)
     exact⟨n,t,rfl,rfl⟩
   have hI:IntsAre acc ns:=by
    have h0:=intsAre_map acc fun v hv=>by
     obtain⟨j,hj⟩:=List.mem_iff_getElem?.mp hv
     obtain⟨n,t,_,ev⟩:=hint j v hj
     exact⟨n,t,ev⟩
    have he:acc.map numOf=ns:=by
     apply List.ext_getElem?
     intro j
     rw[List.getElem?_map]
     cases hv:acc[j]? with
     | none =>
      have:ns[j]?=none:=by
       rw[List.getElem?_eq_none_iff] at hv ⊢
       omega
      rw[this];rfl
     | some v =>
      obtain⟨n,t,hn,ev⟩:=hint j v hv
      rw[hn,ev];rfl
    rw[he] at h0;exact h0
   have hsl:acc.length < 64:=by omega
   have hszA:acc.length≤sizeLine:=Nat.le_trans (Nat.le_of_lt hsl) (by decide)
   have hszB:acc.toArray.size≤sizeLine:=by rw[List.size_toArray];exact hszA
   refine wpAny_bind (wpAny_newList ?_ (by first | exact hszA | exact hszB))
   have hoL:(h1.push (seqObj "list" acc.toArray 0)).get? h1.objs.size=some (seqObj "list" acc.toArray 0):=Heap.get?_push_size _ rfl
   show wpAny _ _ _ _ _ { s with heap:=h1.push (seqObj "list" acc.toArray 0),toks:=tk }
   refine wpAny_bind (wpAny_holding (wpAny_call_entry slot_list_sort ⟨_,hoL,rfl⟩ entry_list_sort (list_sort_tree hoL hI hsl fun out ns' a1 a2 a3=>⟨_,rfl,?_⟩) (args_list_sort _)))
   refine wpAny_pure ⟨_,rfl,?_⟩
   obtain⟨ep,he⟩:=sortedHeap_at (out:=out) hoL
   have I1:Inv X pins σ H { s with heap:=h1,toks:=tk }:=I.kept (t':=tk) hkk
   have hol:ns'.length=ns.length:=a2.length_eq
   refine⟨.ref h1.objs.size,_,I1.laid (t':=tk) (fun b o eb=>key h1 out acc b o eb) (Nat.le_refl _) (show ObjOk X.prog X.w _ _ _ (.lst (ns'.map V.int)) from ⟨by rw[List.length_map];exact Nat.le_trans (by omega) (show 64≤sizeLine by decide),out.toList,ep,vals_intsA a1,by rw[Array.toArray_toList];exact he⟩),rfl,q _ _ (I1.hok.fresh (Nat.le_refl _)) a2 a3⟩
  ·have hl:kvs.length=ss.length:=by rw[← List.length_map (f:=(·.1)),hk,List.length_map]
   refine wpAny_bind (collect_dk I (A:=X.A.in1) (show X.A.in1.handled=none from I.ok.hd hc) e fun h1 tk acc hkk hal hacc=>?_)
   have hint:∀(j:Nat) v,acc[j]?=some v→∃ n t,ss[j]?=some n∧v=.str n t:=fun j v hv=>by
    obtain⟨p,hp,hr⟩:=hacc j v hv
    have hj:(ss.map (Sum.inr:Str→Key))[j]?=some p.1:=by rw[← hk,List.getElem?_map,hp];rfl
    rw[List.getElem?_map] at hj
    cases hn:ss[j]? with
    | none=>rw[hn] at hj;cases hj
    | some n =>
     rw[hn] at hj
     have hj:(Sum.inr n:Key)=p.1:=by injection hj
     rw[← hj] at hr
     obtain⟨t,rfl⟩:=(show ∃ t,v=Value.str n t from hr)
     exact⟨n,t,rfl,rfl⟩
   have hSt:StrsAre acc ss:=by
    have h0:=strsAre_map acc fun v hv=>by
     obtain⟨j,hj⟩:=List.mem_iff_getElem?.mp hv
     obtain⟨n,t,_,ev⟩:=hint j v hj
     exact⟨n,t,ev⟩
    have he:acc.map strOf=ss:=by
     apply List.ext_getElem?
     intro j
     rw[List.getElem?_map]
     cases hv:acc[j]? with
     | none =>
      have:ss[j]?=none:=by
       rw[List.getElem?_eq_none_iff] at hv ⊢
       omega
      rw[this];rfl
     | some v =>
      obtain⟨n,t,hn,ev⟩:=hint j v hv
      rw[hn,ev];rfl
    rw[he] at h0;exact h0
   have hsl:acc.length < 64:=by omega
   have hszA:acc.length≤sizeLine:=Nat.le_trans (Nat.le_of_lt hsl) (by decide)
   have hszB:acc.toArray.size≤sizeLine:=by rw[List.size_toArray];exact hszA
   refine wpAny_bind (wpAny_newList ?_ (by first | exact hszA | exact hszB))
   have hoL:(h1.push (seqObj "list" acc.toArray 0)).get? h1.objs.size=some (seqObj "list" acc.toArray 0):=Heap.get?_push_size _ rfl
   show wpAny _ _ _ _ _ { s with heap:=h1.push (seqObj "list" acc.toArray 0),toks:=tk }
   refine wpAny_bind (wpAny_holding (wpAny_call_entry slot_list_sort ⟨_,hoL,rfl⟩ entry_list_sort (list_sort_treeK strKind_oneLt hoL hSt.keysOf (fun v₁ v₂ rest e=>keyKind_strs (by rw[← e];exact hSt)) hsl fun st' hp hs=>⟨_,rfl,?_⟩) (args_list_sort _)))
   refine wpAny_pure ⟨_,rfl,?_⟩
   obtain⟨ss',a1,a2,a3⟩:=sorted_out_str hSt hp hs
   generalize (arrOf st').map (·.2)=out at a1
   obtain⟨ep,he⟩:=sortedHeap_at (out:=out) hoL
   have I1:Inv X pins σ H { s with heap:=h1,toks:=tk }:=I.kept (t':=tk) hkk
   have hol:ss'.length=ss.length:=a2.length_eq
   refine⟨.ref h1.objs.size,_,I1.laid (t':=tk) (fun b o eb=>key h1 out acc b o eb) (Nat.le_refl _) (show ObjOk X.prog X.w _ _ _ (.lst (ss'.map V.str)) from ⟨by rw[List.length_map];exact Nat.le_trans (by omega) (show 64≤sizeLine by decide),out.toList,ep,vals_strsA a1,by rw[Array.toArray_toList];exact he⟩),rfl,q _ _ (I1.hok.fresh (Nat.le_refl _)) a2 a3⟩
 ·exact h.elim
end
end L2
namespace L2
open PySem PySem.Spec PyProof.Rows
section
variable {X:Cx}
end
end L2
namespace L2
open PySem
section
variable {prog:Program} {w:World} {A:Around} {E:Value→Shared→Prop} {s:Shared}
end
open PySem.Spec PyProof.Rows
end L2
namespace L2
open PySem PySem.Spec
section
variable {prog:Program} {w:World} {A:Around} {E:Value→Shared→Prop} {s:Shared}
end
end L2
namespace L2
open PySem PySem.Spec PyProof.Rows
section
variable {prog:Program} {w:World} {A:Around} {E:Value→Shared→Prop} {s:Shared} {z TI TO i1 i2 l1 l2 S:Addr} {xs ys:Array Value} {R:Result→Shared→Prop}
end
end L2
namespace L2
open PySem PySem.Spec PyProof.Rows
section
variable {X:Cx} {pins:List (Addr×Obj)} {σ:St} {H H':Hp} {s:Shared} {h':Heap}
theorem Inv.laidAll {t':Nat} (I:Inv X pins σ H s) (k:∀ b u,s.heap.get? b=some u→h'.get? b=some u) (old:∀ b o,H b=some o→H' b=some o) (none_:∀ b,b < s.heap.objs.size→H b=none→H' b=none)
  (new:∀ b o,H' b=some o→H b=none→ObjOk X.prog X.w H' h' b o):Inv X pins σ H' { s with heap:=h',toks:=t' }:=by
 refine I.un ⟨fun b o q _ _ _=>k b o q,fun b o q _ _ _=>⟨o.slots,k b o q⟩,fun b o q n _=>none_ b (Heap.lt_size q) n,fun b o q _=>⟨o,k b o q⟩,fun b xs e=>old b _ e,fun b o u e=>old b _ e,fun b ps e=>⟨#[],by simpa using old b _ e⟩⟩ fun b o e=>?_
 cases q:H b with
 | none=>exact new b o e q
 | some o' =>
  have e':o'=o:=by rw[old b o' q] at e;injection e
  subst e'
  exact(I.hok b o' q).stay (fun c u _ q=>k c u q) (fun c q=>old c _ q) fun c xs q=>old c _ q
end
theorem relV_inj {u v:V} {x:Value} (a:RelV u x) (b:RelV v x):u=v:=by
 cases u <;> cases v <;> simp only[RelV] at a b <;> first
  | (subst a;cases b;done)
  | (obtain⟨t,rfl⟩:=a;obtain⟨t',b⟩:=b;cases b;rfl)
  | (obtain⟨t,rfl⟩:=a;cases b;done)
  | (obtain⟨t,rfl⟩:=a;obtain⟨t',b⟩:=b;cases b;done)
  | (subst a;obtain⟨t',b⟩:=b;cases b;done)
  | (subst a;cases b;rfl)
  | rfl
section
variable {X:Cx}
end
end L2
namespace L2
open PySem PySem.Spec PyProof.Rows
def VW (v d:Addr):HO:=.ext fun h=>h.IsItemsView v d
theorem vw_ok {P:Program} {w:World} {H:Hp} {h:Heap} {v d:Addr} (x:h.IsItemsView v d):ObjOk P w H h v (VW v d) :=
 ⟨x,(let ⟨o,ho,_⟩:=x;⟨o,ho⟩),fun _ _ ⟨o,a,b⟩ k=>⟨o,k _ a,b⟩⟩
def fItems:V→List V→Hp→VK→Prop:=fun x vs H Q=>match x,vs with
 | .ref d,[]=>∃ kvs,H d=some (.dK kvs)∧∀ v,H v=none→Q (.ref v) (upd H v (VW v d))
 | _,_=>False
section
variable {X:Cx}
theorem m_items:MtR X "dict.items" fItems:=fun pins s σ H x vs v us Q I rx rs h=>by
 unfold fItems at h
 split at h
 ·rename_i d
  obtain⟨kvs,e,q⟩:=h
  cases rx
  cases rs
  obtain⟨z,hd,vs,rel,dd⟩:=dk_of I.hok e
  refine call_meetsIn PySem.F.slot_dict_items dd.typeIs PySem.F.entry_dict_items (PySem.F.args_dict_items_1 _) (meets_dict_items (zc_ X.prog X.w) d hd) ⟨⟨vs,dd⟩,?_⟩
  have I2:Inv X pins σ (upd H s.heap.objs.size (VW s.heap.objs.size d)) { s with heap:=s.heap.push { cls:=.type "dict_items",data:=.fields #[.ref d] } } :=
   I.laid (a:=s.heap.objs.size) (o:=VW s.heap.objs.size d) (t':=s.toks) (fun b u q=>Heap.get?_push_of_some _ q) (Nat.le_refl _) (vw_ok ⟨_,Heap.get?_push_size _ rfl,rfl,rfl⟩)
  exact⟨.ref s.heap.objs.size,_,I2,rfl,q _ (I.hok.fresh (Nat.le_refl _))⟩
 ·exact h.elim
theorem Inv.pairs {pins:List (Addr×Obj)} {σ:St} {H2:Hp} {s2:Shared} {h3:Heap} {tk c:Nat} {qa:Addr} {Ts:List Addr} {xs ys:List V} {acc:Array Value} (I2:Inv X pins σ H2 s2) (kk:∀ b o,s2.heap.get? b=some o→h3.get? b=some o) (hq:s2.heap.objs.size≤qa)
  (hS3:h3.get? qa=some { cls:=.type "list",dict:=none,data:=.seq acc c,slots:=#[] }) (hTl:acc.toList=Ts.map Value.ref) (hT:Ts.length=xs.length) (hz1:xs.length≤sizeLine)
  (hTj:∀(j:Nat) T,Ts[j]?=some T→∃ u v x y,xs[j]?=some u∧ys[j]?=some v∧RelV u x∧RelV v y∧IsPair h3 T x y∧qa < T) :
  ∃ H3:Hp,Inv X pins σ H3 { s2 with heap:=h3,toks:=tk }∧H2 qa=none∧H3 qa=some (.lst (Ts.map V.ref))∧(∀(j:Nat) T,Ts[j]?=some T→∃ u v,xs[j]?=some u∧ys[j]?=some v∧H3 T=some (.tup [u,v]))∧Same H2 H3:=by
 have hqn:H2 qa=none:=I2.hok.fresh hq
 have hTn:∀ T∈Ts,H2 T=none∧T≠qa:=fun T hm=>by
  obtain⟨j,hj⟩:=List.mem_iff_getElem?.mp hm
  obtain⟨_,_,_,_,_,_,_,_,_,g⟩:=hTj j T hj
  exact⟨I2.hok.fresh (Nat.le_of_lt (Nat.lt_of_le_of_lt hq g)),(Nat.ne_of_lt g).symm⟩
 obtain⟨H3,hH⟩:∃ H3:Hp,H3=fun b=>if b=qa then some (.lst (Ts.map V.ref)) else match (List.range Ts.length).find? (fun j=>decide (Ts[j]?=some b)) with
   | some j=>some (.tup [xs.getD j .non,ys.getD j .non])
   | none=>H2 b:=⟨_,rfl⟩
 have h3q:H3 qa=some (.lst (Ts.map V.ref)):=by rw[hH];simp
 have h3o:∀ b,b≠qa→b∉Ts→H3 b=H2 b:=fun b hb hm=>by
  rw[hH]
  simp only[if_neg hb]
  have:(List.range Ts.length).find? (fun j=>decide (Ts[j]?=some b))=none:=by
   rw[List.find?_eq_none]
   intro j _ hc
   exact hm (List.mem_of_getElem? (of_decide_eq_true hc))
  rw[this]
 have h3T:∀ T∈Ts,∃ j,Ts[j]?=some T∧H3 T=some (.tup [xs.getD j .non,ys.getD j .non]):=fun T hm=>by
  have hne:=(hTn T hm).2
  cases hf:(List.range Ts.length).find? (fun j=>decide (Ts[j]?=some T)) with
  | none =>
   obtain⟨j,hj,hjT⟩:=List.mem_iff_getElem.mp hm
   have:=List.find?_eq_none.mp hf j (List.mem_range.mpr hj)
   exact absurd (decide_eq_true (by rw[List.getElem?_eq_getElem hj,hjT])) this
  | some j =>
   have hd:=List.find?_some hf
   refine⟨j,of_decide_eq_true hd,?_⟩
   rw[hH]
   simp only[if_neg hne,hf]
 have same:Same H2 H3:=fun b o e=>by
  rw[h3o b (fun z=>by rw[z,hqn] at e;cases e) (fun m=>by rw[(hTn b m).1] at e;cases e)]
  exact e
 have I3:Inv X pins σ H3 { s2 with heap:=h3,toks:=tk }:=by
  refine I2.laidAll kk same (fun b hb hn=>?_) fun b o e hn=>?_
  ·rw[h3o b (fun z=>by rw[z] at hb;exact absurd hb (Nat.not_lt_of_le hq)) (fun m=>?_)]
   ·exact hn
   ·obtain⟨j,hj⟩:=List.mem_iff_getElem?.mp m
    obtain⟨_,_,_,_,_,_,_,_,_,g⟩:=hTj j b hj
    exact absurd hb (Nat.not_lt_of_le (Nat.le_of_lt (Nat.lt_of_le_of_lt hq g)))
  ·by_cases hb:b=qa
   ·subst hb
    rw[h3q] at e
    cases e
    refine⟨by rw[List.length_map,hT];exact hz1,acc.toList,c,?_,by rw[Array.toArray_toList];exact hS3⟩
    rw[hTl]
    have:∀ l:List Addr,Vals (l.map V.ref) (l.map Value.ref):=fun l=>by
     induction l with
     | nil=>exact .nil
     | cons t l ih=>exact .cons rfl ih
    exact this Ts
   ·by_cases hm:b∈Ts
    ·obtain⟨j,hj,e'⟩:=h3T b hm
     rw[e'] at e
     cases e
     obtain⟨u,v,x,y,g1,g2,r1,r2,g3,_⟩:=hTj j b hj
     have d1:xs.getD j .non=u:=by rw[List.getD_eq_getElem?_getD,g1];rfl
     have d2:ys.getD j .non=v:=by rw[List.getD_eq_getElem?_getD,g2];rfl
     rw[d1,d2]
     exact⟨by show 2≤sizeLine;decide,[x,y],.cons r1 (.cons r2 .nil),⟨_,g3,rfl,_,rfl⟩⟩
    ·rw[h3o b hb hm,hn] at e
     cases e
 refine⟨H3,I3,hqn,h3q,fun j T e=>?_,same⟩
 obtain⟨j',hj',e'⟩:=h3T T (List.mem_of_getElem? e)
 obtain⟨u,v,x,y,g1,g2,r1,r2,g3,_⟩:=hTj j T e
 obtain⟨u',v',x',y',g1',g2',r1',r2',g3',_⟩:=hTj j' T hj'
 have hxy:x=x'∧y=y':=by
  have e3:some _=some _:=g3.symm.trans g3'
  have e4:=congrArg (fun o:Option Obj=>o.map fun o=>o.data) e3
  simp only[Option.map_some,Option.some.injEq,Data.seq.injEq] at e4
  have e5:=congrArg Array.toList e4.1
  simp only[List.cons.injEq,and_true] at e5
  exact e5
 obtain⟨rfl,rfl⟩:=hxy
 have hu:=relV_inj r1 r1'
 have hv:=relV_inj r2 r2'
 subst hu hv
 refine⟨u,v,g1,g2,?_⟩
 rw[e',List.getD_eq_getElem?_getD,g1',List.getD_eq_getElem?_getD,g2']
 rfl
theorem KV.valD {κ:Type}:∀{kvs:List (κ×V)} {vs:List (κ×Value)},KV kvs vs→∀{j:Nat} {p:κ×Value},vs[j]?=some p→∃ q,kvs[j]?=some q∧q.1=p.1∧RelV q.2 p.2
 | [],[],_,j,p,h=>by simp at h
 | q::_,p'::_,.cons r t,0,p,h=>by
  have h:p'=p:=by simpa using h
  subst h
  exact⟨q,rfl,r.1.symm▸rfl,r.2⟩
 | _::_,_::_,.cons r t,j+1,p,h=>by
  obtain⟨q,h1,h2⟩:=KV.valD t (j:=j) (p:=p) (by simpa using h)
  exact⟨q,by simpa using h1,h2⟩
def fListI:List V→Hp→VK→Prop:=fun xs H Q=>match xs with
 | [.ref v]=>∃(d:Addr) (kvs:List (Key×V)),H v=some (VW v d)∧H d=some (.dK kvs)∧∀(q:Addr) (Ts:List Addr) (H3:Hp),H q=none→H3 q=some (.lst (Ts.map V.ref))→Ts.length=kvs.length→(∀(j:Nat) T,Ts[j]?=some T→∃ kv,kvs[j]?=some kv∧H3 T=some (.tup [kV kv.1,kv.2]))→Same H H3→Q (.ref q) H3
 | _=>False
theorem c_listI (hc:X.calm=true):CallR X (.type "list") fListI:=by
 intro pins s σ H xs us Q I r h
 unfold fListI at h
 split at h
 ·rename_i v
  obtain⟨u,rfl,ru⟩:=vals1 r
  cases ru
  obtain⟨d,kvs,hv,e,q⟩:=h
  have vw:s.heap.IsItemsView v d:=(I.hok v _ hv).1
  obtain⟨z,hd,vs,rel,dd⟩:=dk_of I.hok e
  obtain⟨ep,hat⟩:=dd.dictAt
  have hk:=KV.key rel
  have hl:vs.length=kvs.length:=by rw[← List.length_map (f:=(·.1)),hk,List.length_map]
  refine PySem.W.kdx_call (knd:=zc_ X.prog X.w) (I.ok.hd hc) vw hat (by rw[hl];exact z) fun h3 tk acc c as kk hS hal hG hacc=>?_
  obtain⟨H3,I3,a1,a2,a3,a4⟩:=I.pairs (tk:=tk) (Ts:=as) (xs:=kvs.map fun kv=>kV kv.1) (ys:=kvs.map fun kv=>kv.2) kk (Nat.le_refl _) hS hacc (by rw[List.length_map,hal,hl]) (by rw[List.length_map];exact z) fun j T hT=>by
   obtain⟨key,k,x,e1,e2,e3⟩:=hG.pairs j T hT
   obtain⟨kv,b1,b2,b3⟩:=KV.valD rel e1
   refine⟨kV kv.1,kv.2,key,x,by rw[List.getElem?_map,b1];rfl,by rw[List.getElem?_map,b1];rfl,?_,b3,e3,hG.above T (List.mem_of_getElem? hT)⟩
   rw[b2]
   rcases za_ (show keyIs k key=true from e2) with ⟨i,t,rfl,rfl⟩ | ⟨y,t,rfl,rfl⟩
   ·exact⟨t,rfl⟩
   ·exact⟨t,rfl⟩
  refine⟨.ref s.heap.objs.size,H3,I3,rfl,q _ as H3 a1 a2 (by rw[hal,hl]) (fun j T hT=>?_) a4⟩
  obtain⟨u,v',c1,c2,c3⟩:=a3 j T hT
  rw[List.getElem?_map] at c1 c2
  cases hkv:kvs[j]? with
  | none=>rw[hkv] at c1;cases c1
  | some kv =>
   rw[hkv] at c1 c2
   cases c1;cases c2
   exact⟨kv,rfl,c3⟩
 ·exact h.elim
theorem i_items {H:Hp} {Q:VK} {d:Addr} {kvs:List (Key×V)} (h1:H d=some (.dK kvs)) (h:∀ v,H v=none→Q (.ref v) (upd H v (VW v d))):fItems (.ref d) [] H Q:=⟨kvs,h1,h⟩
theorem i_listI {H:Hp} {Q:VK} {v d:Addr} {kvs:List (Key×V)} (h1:H v=some (VW v d)) (h2:H d=some (.dK kvs)) (h:∀(q:Addr) (Ts:List Addr) (H3:Hp),H q=none→H3 q=some (.lst (Ts.map V.ref))→Ts.length=kvs.length→(∀(j:Nat) T,Ts[j]?=some T→∃ kv,kvs[j]?=some kv∧H3 T=some (.tup [kV kv.1,kv.2]))→Same H H3→Q (.ref q) H3):fListI [.ref v] H Q:=⟨d,kvs,h1,h2,h⟩
end
end L2
namespace L2
open PySem PySem.Spec PyProof.Rows
def Itd (a:Addr) (o:Obj) (kvs:List (Key×V)):It where
 go i H:=H a=some (.frz o (.dK kvs))∧i < kvs.length
 yld i H x H':=H'=H∧∃ kv,kvs[i]?=some kv∧x=kV kv.1
 stop i H:=H a=some (.frz o (.dK kvs))∧kvs.length≤i
theorem kV_rel {k:Key} {v:Value} (h:keyIs k v=true):RelV (kV k) v:=by
 rcases za_ h with ⟨i,t,rfl,rfl⟩ | ⟨y,t,rfl,rfl⟩
 ·exact⟨t,rfl⟩
 ·exact⟨t,rfl⟩
theorem KV.keyAt {κ:Type} {kvs:List (κ×V)} {vs:List (κ×Value)} (h:KV kvs vs) {j:Nat} {kv:κ×V} (e:kvs[j]?=some kv):∃ x,vs[j]?=some (kv.1,x):=by
 have hk:=KV.key h
 have hj:(vs.map (·.1))[j]?=some kv.1:=by rw[hk,List.getElem?_map,e];rfl
 rw[List.getElem?_map] at hj
 cases hp:vs[j]? with
 | none=>rw[hp] at hj;cases hj
 | some p =>
  rw[hp] at hj
  obtain⟨p1,p2⟩:=p
  have hj:p1=kv.1:=by injection hj
  exact⟨p2,by rw[hj]⟩
theorem KV.len {κ:Type} {kvs:List (κ×V)} {vs:List (κ×Value)} (h:KV kvs vs):vs.length=kvs.length:=by
 rw[← List.length_map (f:=(·.1)),KV.key h,List.length_map]
theorem turn_dict {P:Program} {w:World} {K:PySem.W.Frag} {tg:Expr} {a it:Addr} {o:Obj} {kvs:List (Key×V)} {vs:List (Key×Value)} {ep:Nat} (hat:∀ h:Heap,h.get? a=some o→h.DictAt (zc_ P w) a vs ep) (rel:KV kvs vs) :
  Turn P w K tg (Itd a o kvs) [it] it (fun i h=>h.IsKeyIter it a i vs.length ep) where
 mem:=by simp
 obj:=fun i h st b hb=>by
  have e:b=it:=by simpa using hb
  subst e
  obtain⟨ob,ho,hc,hd⟩:=st
  exact⟨ob,ho,fun v z=>by rw[hd] at z;cases z⟩
 keep:=fun i h h' st k=>st.at fun ob e=>k it (by simp) ob e
 item:=by
  intro X hP hw hK hc i pins s σ H E I hf st hg
  subst hP hw hK
  obtain⟨f0,f1,f2,f3,f4,f5⟩:=hf it (by simp)
  have ha:s.heap.get? a=some o:=(I.hok a _ hg.1).1
  have hi:i < kvs.length:=hg.2
  obtain⟨x,hx⟩:=KV.keyAt rel (List.getElem?_eq_getElem hi)
  refine wpAny_pyNext_dict_item st (hat _ ha) hx fun key h' hk st' sb=>?_
  have I1:Inv X pins σ H { s with heap:=h' }:=I.turned (t':=s.toks) (fun b ob hb e=>(sb.2 b hb).trans e) f0 f1 f3 f4 f5
  obtain⟨ob,e,c,d⟩:=id st'
  exact⟨key,rfl,go_of (s:={ s with heap:=h' }) e c d (by decide) ⟨kV (kvs[i]'hi).1,H,I1,kV_rel hk,⟨rfl,kvs[i]'hi,List.getElem?_eq_getElem hi,rfl⟩,st',fun b hb=>(hf b hb).1⟩⟩
 done:=by
  intro X hP hw hK hc i pins s σ H E I hf st hg
  subst hP hw hK
  obtain⟨f0,f1,f2,f3,f4,f5⟩:=hf it (by simp)
  have ha:s.heap.get? a=some o:=(I.hok a _ hg.1).1
  exact wpAny_pyNext_dict_end (I.ok.hd hc) st (hat _ ha) (List.getElem?_eq_none (by rw[KV.len rel];exact hg.2)) fun h' eb=>⟨rfl,I.turned (t':=s.toks) (fun b ob hb e=>eb b ob hb e) f0 f1 f3 f4 f5⟩
 self:=fun _ _ _ _ _ st h=>wpAny_pyIter_keyiter st h
section
variable {X:Cx} {tg:Expr}
def iDict (tl:TE):TI:=fun σ H R=>tl σ H fun x H1=>∃(a:Addr) (kvs:List (Key×V)),x=.ref a∧H1 a=some (.dK kvs)∧∀ o,R (Itd a o kvs) (upd H1 a (.frz o (.dK kvs)))
theorem pi_dict {l:Expr} {tl:TE} (hl:PE X l tl):PI X tg l (iDict tl):=by
 intro pins s σ H R I h
 refine thn (hl pins s σ H _ I h) fun v s1 ⟨x,H1,I1,r1,q1⟩=>?_
 obtain⟨a,kvs,rfl,e,q⟩:=q1
 cases r1
 obtain⟨z,hd,vs,rel,dd⟩:=dk_of I1.hok e
 obtain⟨ep,o,es,ho,r⟩:=dd.dictAt
 have hat:∀ h:Heap,h.get? a=some o→h.DictAt (zc_ X.prog X.w) a vs ep:=fun h e=>⟨o,es,e,r⟩
 have I2:Inv X pins σ (upd H1 a (.frz o (.dK kvs))) { s1 with heap:=s1.heap,toks:=s1.toks } :=
  I1.write (x:=a) (e:=a) (by rw[e];exact True.intro) (.inl rfl) (fun b u _ q=>q) ⟨_,ho⟩ ⟨ho,(I1.hok a _ e).stay (fun b u _ q=>q) (fun b q=>by rw[jd_ (ne_of q e (by intro z;cases z))];exact q) fun b xs q=>by rw[jd_ (ne_of q e (by intro z;cases z))];exact q⟩
 have hn:∀ b,s1.heap.objs.size≤b→(upd H1 a (.frz o (.dK kvs))) b=none:=fun b hb=>I2.hok.fresh hb
 refine wpAny_pyIter_dict hd (hat _ ho) ?_
 refine⟨s1.heap.objs.size,[s1.heap.objs.size],_,_,upd H1 a (.frz o (.dK kvs)),rfl,I2.kept (t':=s1.toks) fun b o e=>Heap.get?_push_of_some _ e,turn_dict hat rel,⟨_,Heap.get?_push_size _ rfl,rfl,rfl⟩,fun b hb=>?_,q o⟩
 have e:b=s1.heap.objs.size:=by simpa using hb
 subst e
 exact I2.fpOk (Nat.le_refl _) (hn _ (Nat.le_refl _))
def tThaw (H₀:Hp) (t:TS):TS:=fun D σ H=>∃(a:Addr) (kvs:List (Key×V)),(∀ o u,H₀ a≠some (.frz o u))∧t { D with nx:=fun σ' H'=>(∃ o,H' a=some (.frz o (.dK kvs)))∧D.nx σ' (upd H' a (.dK kvs)) } σ H
theorem Inv.thaw {pins:List (Addr×Obj)} {σ:St} {H:Hp} {s:Shared} {a:Addr} {o:Obj} {kvs:List (Key×V)} (I:Inv X pins σ H s) (e:H a=some (.frz o (.dK kvs))) (h0:∀ o u,X.H₀ a≠some (.frz o u)):Inv X pins σ (upd H a (.dK kvs)) s:=by
 have ne:∀ b,H b=none→b≠a:=fun b q z=>by rw[z,e] at q;cases q
 refine⟨I.ok,I.os,I.bare,⟨I.base.keep,I.base.slot,fun b ob q n hx=>?_,I.base.there,fun b xs q=>?_,fun b ob u q=>?_,fun b ps q=>?_⟩,I.loc,I.cell,?_,fun x c q=>?_,fun p hp=>?_,fun b ob q=>?_,I.len⟩
 ·have:=I.base.free b ob q n hx
  rw[jd_ (ne b this)];exact this
 ·have:=I.base.tups b xs q
  rw[jd_ (fun z=>by rw[z,e] at this;cases this)];exact this
 ·have:=I.base.frzs b ob u q
  rw[jd_ (fun z=>h0 _ _ (z▸q))];exact this
 ·obtain⟨more,this⟩:=I.base.tbls b ps q
  exact⟨more,by rw[jd_ (fun z=>by rw[z,e] at this;cases this)];exact this⟩
 ·rw[jd_ (ne _ I.free)];exact I.free
 ·rw[jd_ (ne _ (I.freeC x c q))];exact I.freeC x c q
 ·obtain⟨p1,p2,p3⟩:=I.pin p hp
  exact⟨p1,by rw[jd_ (ne _ p2)];exact p2,p3⟩
 ·have st:∀{u:HO},ObjOk X.prog X.w H s.heap b u→ObjOk X.prog X.w (upd H a (.dK kvs)) s.heap b u:=fun x=>x.stay (fun _ _ _ q=>q) (fun c q=>by rw[jd_ (ne_of q e (by intro z;cases z))];exact q) fun c xs q=>by rw[jd_ (ne_of q e (by intro z;cases z))];exact q
  by_cases hb:b=a
  ·subst hb
   rw[jb_] at q
   cases q
   exact st (I.hok b _ e).2
  ·rw[jd_ hb] at q
   exact st (I.hok b ob q)
theorem ps_thaw {st:Stmt} {t:TS} (h:PS X st t):PS X st (tThaw X.H₀ t):=by
 intro pins s σ H D I ⟨a,kvs,h0,q⟩
 refine thn (h pins s σ H _ I q) fun f s1 z=>?_
 cases f with
 | next =>
  obtain⟨σ',H',I',⟨o,e⟩,q'⟩:=z
  exact⟨σ',_,I'.thaw e h0,q'⟩
 | brk=>exact z
 | cont=>exact z
 | ret u=>exact z
theorem i_thaw {H₀:Hp} {t:TS} {D:Ends} {σ:St} {H:Hp} (a:Addr) (kvs:List (Key×V)) (h0:∀ o u,H₀ a≠some (.frz o u)) (h:t { D with nx:=fun σ' H'=>(∃ o,H' a=some (.frz o (.dK kvs)))∧D.nx σ' (upd H' a (.dK kvs)) } σ H):tThaw H₀ t D σ H:=⟨a,kvs,h0,h⟩
theorem i_dict {tl:TE} {σ:St} {H:Hp} {R:It→Hp→Prop} (h:tl σ H fun x H1=>∃(a:Addr) (kvs:List (Key×V)),x=.ref a∧H1 a=some (.dK kvs)∧∀ o,R (Itd a o kvs) (upd H1 a (.frz o (.dK kvs)))):iDict tl σ H R:=h
end
theorem for_dict {a:Addr} {o:Obj} {kvs:List (Key×V)} {g:TG} {tb:TS} {D:Ends} {σ:St} {H:Hp} (Pv:Nat→St→Hp→Prop) (h0:Pv 0 σ H) (hok:∀ i σ H,i≤kvs.length→Pv i σ H→H a=some (.frz o (.dK kvs)))
  (hs:∀ i kv σ H,kvs[i]?=some kv→Pv i σ H→g (kV kv.1) σ H fun σ2 H2=>tb { D with nx:=Pv (i+1),ct:=Pv (i+1),bk:=D.nx } σ2 H2) (hd:∀ σ H,Pv kvs.length σ H→D.nx σ H) :
  ∃ W:Nat→Nat→St→Hp→Prop,(∃ m,W 0 m σ H)∧∀ i m σ H,W i m σ H →
   ((Itd a o kvs).stop i H∧D.nx σ H)∨((Itd a o kvs).go i H∧∃ N:St→Hp→Prop,(∀ σ' H',N σ' H'→∃ m',m' < m∧W (i+1) m' σ' H')∧∀ x H',(Itd a o kvs).yld i H x H'→g x σ H' fun σ2 H2=>tb { D with nx:=N,ct:=N,bk:=D.nx } σ2 H2):=by
 refine⟨fun i m σ H=>m=kvs.length - i∧i≤kvs.length∧Pv i σ H,⟨kvs.length,by simp,Nat.zero_le _,h0⟩,fun i m σ' H' w=>?_⟩
 obtain⟨rfl,hi,p⟩:=w
 have ho:=hok i σ' H' hi p
 by_cases hlt:i < kvs.length
 ·refine .inr ⟨⟨ho,hlt⟩,Pv (i+1),fun σ2 H2 p'=>⟨kvs.length - (i+1),by omega,rfl,hlt,p'⟩,fun x H2 y=>?_⟩
  obtain⟨rfl,kv,hv,rfl⟩:=y
  exact hs i kv σ' H2 hv p
 ·have e:i=kvs.length:=by omega
  exact .inl ⟨⟨ho,by omega⟩,hd σ' H' (e▸p)⟩
section
variable {X:Cx}
def fListD:List V→Hp→VK→Prop:=fun xs H Q=>match xs with
 | [.ref a]=>∃ kvs,Rd H a (.dK kvs)∧∀ l,H l=none→Q (.ref l) (upd H l (.lst (kvs.map fun kv=>kV kv.1)))
 | _=>False
theorem c_listD (hc:X.calm=true):CallR X (.type "list") fListD:=by
 intro pins s σ H xs us Q I r h
 unfold fListD at h
 split at h
 ·rename_i a
  obtain⟨u,rfl,ru⟩:=vals1 r
  cases ru
  obtain⟨kvs,e,q⟩:=h
  obtain⟨z,hd,vs,rel,dd⟩:=dk_rd I.hok e
  obtain⟨ep,hat⟩:=dd.dictAt
  have hl:=KV.len rel
  refine PySem.W.kdl_call (PySem.W.kdl_dict (knd:=zc_ X.prog X.w) (kvs:=vs) (ep:=ep) hd) (I.ok.hd hc) hat (by rw[hl];exact z) fun h' tk acc c kk hS hacc=>?_
  have hv:Vals (kvs.map fun kv=>kV kv.1) acc.toList:=by
   have hsz:acc.size=kvs.length:=by rw[hacc.1,hl]
   have key:∀(n:Nat),n≤kvs.length→Vals ((kvs.map fun kv=>kV kv.1).take n) (acc.toList.take n):=fun n=>by
    induction n with
    | zero=>intro _;simp;exact .nil
    | succ n ih =>
     intro hn
     have hn':n < kvs.length:=by omega
     have h1:(kvs.map fun kv=>kV kv.1).take (n+1)=(kvs.map fun kv=>kV kv.1).take n++[kV kvs[n].1]:=by rw[List.take_succ,List.getElem?_map,List.getElem?_eq_getElem hn'];rfl
     have ha:n < acc.toList.length:=by rw[Array.length_toList,hsz];exact hn'
     have h2:acc.toList.take (n+1)=acc.toList.take n++[acc.toList[n]]:=by rw[List.take_succ,List.getElem?_eq_getElem ha];rfl
     rw[h1,h2]
     refine(ih (by omega)).append (.cons ?_ .nil)
     obtain⟨k,x,hx,hi⟩:=hacc.2 n acc.toList[n] (by rw[← Array.getElem?_toList,List.getElem?_eq_getElem ha])
     obtain⟨x',hx'⟩:=KV.keyAt rel (List.getElem?_eq_getElem hn')
     rw[hx] at hx'
     have ek:k=kvs[n].1:=by injection hx' with hx';injection hx'
     rw[← ek]
     exact kV_rel hi
   have:=key kvs.length (Nat.le_refl _)
   rw[List.take_of_length_le (by rw[List.length_map];exact Nat.le_refl _),List.take_of_length_le (by rw[Array.length_toList,hsz];exact Nat.le_refl _)] at this
   exact this
  refine⟨.ref s.heap.objs.size,_,I.laid (a:=s.heap.objs.size) (o:=.lst (kvs.map fun kv=>kV kv.1)) (t':=tk) kk (Nat.le_refl _) ⟨by rw[List.length_map];exact z,acc.toList,c,hv,by rw[Array.toArray_toList];exact hS⟩,rfl,q _ (I.hok.fresh (Nat.le_refl _))⟩
 ·exact h.elim
theorem i_listD {H:Hp} {Q:VK} {a:Addr} {kvs:List (Key×V)} (h1:H a=some (.dK kvs)) (h:∀ l,H l=none→Q (.ref l) (upd H l (.lst (kvs.map fun kv=>kV kv.1)))):fListD [.ref a] H Q:=⟨kvs,.inl h1,h⟩
theorem o_inK {K:PySem.W.Frag} (hK:X.K=K:=by rfl):OpR X (compareOp .In) (rIn K false):=hK▸op_in_seq
end
end L2
namespace L2
open PySem PySem.Spec PyProof.Rows
theorem perm_one {α:Type} {le:α→α→Prop} (anti:∀ a b,le a b→le b a→a=b):∀{l1 l2:List α},l1.Perm l2→l1.Pairwise le→l2.Pairwise le→l1=l2
 | [],l2,hp,_,_=>(List.Perm.nil_eq hp)
 | a::r,[],hp,_,_=>by have:=hp.length_eq;simp at this
 | a::r,b::t,hp,h1,h2=>by
  have ha:a∈b::t:=hp.subset List.mem_cons_self
  have hb:b∈a::r:=hp.symm.subset List.mem_cons_self
  have e:a=b:=by
   rcases List.mem_cons.mp ha with e | ha
   ·exact e
   ·rcases List.mem_cons.mp hb with e | hb
    ·exact e.symm
    ·exact anti a b (List.rel_of_pairwise_cons h1 hb) (List.rel_of_pairwise_cons h2 ha)
  subst e
  rw[perm_one anti (List.Perm.cons_inv hp) (List.pairwise_cons.mp h1).2 (List.pairwise_cons.mp h2).2]
def leC (a b:List Nat):Prop:=ltCps b a=false
theorem leC_trans:∀{a b c:List Nat},leC a b→leC b c→leC a c
 | [],_,c,_,_=>by unfold leC;cases c <;> rfl
 | x::a,[],c,h,_=>by unfold leC at h;simp[ltCps] at h
 | x::a,y::b,[],_,h=>by unfold leC at h;simp[ltCps] at h
 | x::a,y::b,z::c,h1,h2=>by
  unfold leC at h1 h2 ⊢
  simp only[ltCps,Bool.or_eq_false_iff,decide_eq_false_iff_not,Bool.and_eq_false_iff,beq_eq_false_iff_ne,ne_eq] at h1 h2 ⊢
  obtain⟨a1,a2⟩:=h1
  obtain⟨b1,b2⟩:=h2
  refine⟨by omega,?_⟩
  by_cases e:z=x
  ·right
   have e1:y=x:=by omega
   have e2:z=y:=by omega
   exact leC_trans (a2.resolve_left (by simpa using e1)) (b2.resolve_left (by simpa using e2))
  ·exact .inl e
theorem leC_anti:∀{a b:List Nat},leC a b→leC b a→a=b
 | [],[],_,_=>rfl
 | [],y::b,_,h=>by unfold leC at h;simp[ltCps] at h
 | x::a,[],h,_=>by unfold leC at h;simp[ltCps] at h
 | x::a,y::b,h1,h2=>by
  unfold leC at h1 h2
  simp only[ltCps,Bool.or_eq_false_iff,decide_eq_false_iff_not,Bool.and_eq_false_iff,beq_eq_false_iff_ne,ne_eq] at h1 h2
  obtain⟨a1,a2⟩:=h1
  obtain⟨b1,b2⟩:=h2
  have e:x=y:=by omega
  subst e
  rw[leC_anti (a2.resolve_left (by simp)) (b2.resolve_left (by simp))]
theorem rising_pw:∀{p:Str} {l:List Str},risingS p l=true→(p::l).Pairwise fun a b=>leC a.cps.toList b.cps.toList
 | p,[],_=>by simp
 | p,x::r,h=>by
  simp only[risingS,Bool.and_eq_true,Bool.not_eq_true'] at h
  have ih:=rising_pw h.2
  refine List.pairwise_cons.mpr ⟨fun y hy=>?_,ih⟩
  rcases List.mem_cons.mp hy with rfl | hy
  ·exact h.1
  ·exact leC_trans (show leC p.cps.toList x.cps.toList from h.1) (List.rel_of_pairwise_cons ih hy)
theorem sortedS_pw {l:List Str} (h:sortedS l=true):l.Pairwise fun a b=>leC a.cps.toList b.cps.toList:=by
 cases l with
 | nil=>exact List.Pairwise.nil
 | cons x r=>exact rising_pw h
theorem sortedS_one {a b c:List Str} (h1:a.Perm c) (h2:b.Perm c) (s1:sortedS a=true) (s2:sortedS b=true):a=b :=
 perm_one (fun x y p q=>by
  have:=leC_anti p q
  obtain⟨⟨x⟩⟩:=x
  obtain⟨⟨y⟩⟩:=y
  simp only at this
  rw[this]) (h1.trans h2.symm) (sortedS_pw s1) (sortedS_pw s2)
theorem repr_small {l:List Nat} (h:∀ c∈l,c < 128) (hl:l.length≤50):(reprText (S l)).length≤1000:=by
 have:=PySem.StrLaws.reprText_len (S l) (fun c hc=>by
  have:=h c (by simpa [S_cps] using hc)
  exact Nat.lt_trans this (by decide))
 rw[jt_] at this
 omega
end L2
namespace L2
open PySem
abbrev vBM:List Value:=[.type "ValueError",.type "Exception",.type "BaseException",.type "object"]
abbrev xNew:String:="ValueError.__new__"
abbrev xIni:String:="ValueError.__init__"
theorem xB:ExcBaseFacts "ValueError" xNew xIni vBM:=PySem.F.excBase_ValueError
def Lk (M:Model) (h:Heap) {α:Type} (m:Sem α) (r:α):Prop:=∀(A:Around) (Q:α→Shared→Prop) (E:Value→Shared→Prop) (s:Shared),s.heap=h→Q r s→wpAny M A m Q E s
theorem Lk.run {M:Model} {h:Heap} {α:Type} {m:Sem α} {r:α} (l:Lk M h m r) {A:Around} {Q:α→Shared→Prop} {E:Value→Shared→Prop} {s:Shared} (e:s.heap=h) (q:Q r s):wpAny M A m Q E s:=l A Q E s e q
abbrev xcObj (C:Addr) (t:Addr):Obj:={ cls:=.ref C,data:=.fields #[.ref t,.none,.none,.none,.bool false,.none] }
def xcHeap (C:Addr) (us:List Value) (h:Heap):Heap:=(h.push { cls:=.type "tuple",data:=.seq us.toArray }).push (xcObj C h.objs.size)
theorem xcHeap_keep {C:Addr} {us:List Value} {h:Heap} {b:Addr} {o:Obj} (e:h.get? b=some o):(xcHeap C us h).get? b=some o:=Heap.get?_push_of_some _ (Heap.get?_push_of_some _ e)
theorem xcHeap_at {C:Addr} {us:List Value} {h:Heap}:(xcHeap C us h).get? (h.objs.size+1)=some (xcObj C h.objs.size):=by
 have:=Heap.get?_push_size (h.push { cls:=.type "tuple",data:=.seq us.toArray }) (o:=xcObj C h.objs.size) rfl
 rwa [Heap.size_push] at this
section
variable {prog:Program} {w:World} {M:Model} {A:Around} {E:Value→Shared→Prop} {R:Result→Shared→Prop} {h:Heap} {g:Array GenState} {dr:Drawn} {tk:Nat} {os:OsState}
variable {nm qn:Str} {C N W:Addr} {bs:List Value} {hdct:Bool} {sn:List Str} {sub:List Value} {ab:Bool} {col:Option Bool} {dd:Option Addr} {k0 k1 k2 k3 k5:Option Value} {us:List Value}
theorem two_has {X:String} {b:Bool} (e:vBM.contains (.type X)=b):(Value.ref C::.ref W::vBM).contains (.type X)=b:=by
 rw[List.contains_cons,List.contains_cons,e];rfl
theorem xc_check_new {Q:Unit→Shared→Prop} (oC:h.get? C=some (excClassObj nm qn C N bs (.ref W::vBM) hdct sn sub ab col dd k0 k1 k2 k3 k5 xNew)) (k:Q () ⟨h,g,dr,tk,os⟩) :
  wpAny M A (checkBuiltinCall xNew ⟨.ref C::us,[]⟩) Q E ⟨h,g,dr,tk,os⟩:=by
 have c1:(Value.ref C::.ref W::vBM).contains (.type "ValueError")=true:=two_has xB.hasB
 have c2:=xB.noStar
 simp only[checkBuiltinCall,xB.newKind,xB.newSplit,xB.newRow]
 repeat (first | refine wpAny_loadPart_at oC ?_ | (refine wpAny_isSubtype_exc oC ?_;rw[c1]) | refine wpAny_staticBase_exc oC ?_ | refine wpAny_madeBy_exc oC ?_ | simp only[bne_self_eq_false,Bool.false_eq_true,if_false] | wp_step)
 exact k
theorem xc_new (oC:h.get? C=some (excClassObj nm qn C N bs (.ref W::vBM) hdct sn sub ab col dd k0 k1 k2 k3 k5 xNew))
  (k:R (.ok (.ret (.ref (h.objs.size+1)))) ⟨xcHeap C us h,g,dr,tk,os⟩) (hus:us.length≤sizeLine) :
  codeAny (model prog w) A (.builtin xNew ⟨.ref C::us,[]⟩) R ⟨h,g,dr,tk,os⟩:=by
 have c0:=xB.ends
 have c1:(Value.ref C::.ref W::vBM).contains (.type "ValueError")=true:=two_has xB.hasB
 have c2:(Value.ref C::.ref W::vBM).contains (.type "AttributeError")=false:=two_has xB.noAttr
 have c3:(Value.ref C::.ref W::vBM).contains (.type "NameError")=false:=two_has xB.noName
 refine codeAny_builtinAt xB.entry ?_
 unfold Builtin.«BaseException.__new__»
 refine wpAt_bind ?_
 show wpAt _ _ _ (stack >>= _) _ _ _
 refine wpAt_bind (wpAt_stack fun p below=>wpAt_of_wpAny ?_)
 wp_walk
 refine wpAt_of_wpAny ?_
 rw[xB.owner]
 repeat (first | with_reducible refine wpAny_madeHere_exc xB.canon oC ?_ | with_reducible refine wpAny_loadPart_at oC ?_ | (with_reducible refine wpAny_isSubtype_exc oC ?_;first | rw[c1] | rw[c2] | rw[c3]) | wp_step)
 show R _ _
 rw[Heap.size_push]
 exact k
theorem xc_check_init {e:Addr} {oe:Obj} {Q:Unit→Shared→Prop} (oC:h.get? C=some (excClassObj nm qn C N bs (.ref W::vBM) hdct sn sub ab col dd k0 k1 k2 k3 k5 xNew))
  (he:h.get? e=some oe) (ec:oe.cls=.ref C) (k:Q () ⟨h,g,dr,tk,os⟩):wpAny M A (checkBuiltinCall xIni ⟨.ref e::us,[]⟩) Q E ⟨h,g,dr,tk,os⟩:=by
 have c1:(Value.ref C::.ref W::vBM).contains (.type "ValueError")=true:=two_has xB.hasB
 have c2:=xB.noStar
 simp only[checkBuiltinCall,xB.initKind,xB.initSplit,xB.initRow]
 repeat (first | (with_reducible refine wpAny_loadPart_at he ?_;rw[ec]) | with_reducible refine wpAny_loadPart_at oC ?_ | (with_reducible refine wpAny_isSubtype_exc oC ?_;rw[c1]) | wp_step)
 refine wpAny_onRaise ?_
 rw[show ∀(a b:String) (n:Nat),Bind.check ⟨.positional,"*","ValueError",.self,[⟨"args",.varPos,false⟩]⟩ a b n (List.map (fun x=>x.fst) ({ pos:=Value.ref e::us }:Args).kw)=pure () from fun a b n=>check_star_args _ _ _ _ _ _]
 exact wpAny_pure k
theorem xc_init {e:Addr} {od:Option Addr} {vs:Array Value} {Q:Value→Shared→Prop} (oC:h.get? C=some (excClassObj nm qn C N bs (.ref W::vBM) hdct sn sub ab col dd k0 k1 k2 k3 k5 xNew))
  (he:h.get? e=some ⟨.ref C,od,.fields vs,#[]⟩) {t0:Addr} (h0:vs[0]?=some (.ref t0)) (hus:us.length≤sizeLine)
  (k:∀ h',(∀ b o,b≠e→h.get? b=some o→h'.get? b=some o)→h'.get? e=some ⟨.ref C,od,.fields (vs.setIfInBounds 0 (.ref h.objs.size)),#[]⟩→Q .none ⟨h',g,dr,tk,os⟩) :
  wpAny (model prog w) A (call (.builtin xIni) (.ref e::us)) Q E ⟨h,g,dr,tk,os⟩:=by
 refine wpAny_call (codeAny_call_builtin xB.init.plain xB.initEntry (xc_check_init oC he rfl ?_))
 unfold Builtin.«BaseException.__init__»
 wp_walk
 rw[h0]
 have hz:0 < vs.size:=(Array.getElem?_eq_some_iff.mp h0).1
 have he2:(h.push { cls:=Value.type "tuple",data:=Data.seq us.toArray }).get? e=some ⟨.ref C,od,.fields vs,#[]⟩:=Heap.get?_push_of_some _ he
 refine wpAny_pure (wpAny_bind (wpAny_setField he2 rfl hz ?_))
 wp_walk
 refine k _ (fun b o hb eb=>?_) ?_
 ·rw[Heap.get?_update_other _ _ (Ne.symm hb)];exact Heap.get?_push_of_some _ eb
 ·rw[Heap.get?_update_self _ he2 rfl];rfl
theorem xc_tcall {f:Value} {Q:Fin→Shared→Prop} (oC:h.get? C=some (excClassObj nm qn C N bs (.ref W::vBM) hdct sn sub ab col dd k0 k1 k2 k3 k5 xNew)) (hus:us.length≤sizeLine)
  (lk:Lk (model prog w) (xcHeap C us h) (typeLookup (.ref C) "__init__") (some f))
  (bd:Lk (model prog w) (xcHeap C us h) (bindSpecial f (.ref (h.objs.size+1))) (f,[.ref (h.objs.size+1)]))
  (k:wpAny (model prog w) A (call f (.ref (h.objs.size+1)::us)) (fun r s'=>r=.none∧Q (.done (.ret (.ref (h.objs.size+1)))) s') E ⟨xcHeap C us h,g,dr,tk,os⟩) :
  wpAny (model prog w) A (Builtin.«type.__call__» ⟨.ref C::us,[]⟩) Q E ⟨h,g,dr,tk,os⟩:=by
 repeat (first | with_reducible refine wpAny_loadPart_at oC ?_ | with_reducible refine wpAny_madeBy_exc oC ?_ | wp_step)
 refine codeAny_call_builtin_code (Code.quiet_builtin _ xB.quiet) (xc_check_new oC ?_)
 refine xc_new oC ?_ hus
 show wpAny _ _ _ _ _ _
 have oC1:=xcHeap_keep (C:=C) (us:=us) oC
 have hget:=xcHeap_at (C:=C) (us:=us) (h:=h)
 have c1:(Value.ref C::.ref W::vBM).contains (.ref C)=true:=by simp
 unfold isInstance
 repeat (first | with_reducible refine wpAny_loadPart_at hget ?_ | (with_reducible refine wpAny_isSubtype_exc oC1 ?_;rw[c1]) | wp_step)
 show wpAny _ _ (typeLookup (.ref C) _) _ _ _
 refine lk _ _ _ _ rfl ?_
 refine wpAny_holding (wpAny_bind (bd _ _ _ _ rfl ?_))
 refine wpAny_bind (wpAny_mono k (fun r s' hr=>?_) fun _ _ x=>x)
 obtain⟨rfl,hQ⟩:=hr
 wp_walk
 exact hQ
theorem xc_call {f:Value} {Q:Value→Shared→Prop} (oC:h.get? C=some (excClassObj nm qn C N bs (.ref W::vBM) hdct sn sub ab col dd k0 k1 k2 k3 k5 xNew)) (hus:us.length≤sizeLine)
  (lk:Lk (model prog w) (xcHeap C us h) (typeLookup (.ref C) "__init__") (some f))
  (bd:Lk (model prog w) (xcHeap C us h) (bindSpecial f (.ref (h.objs.size+1))) (f,[.ref (h.objs.size+1)]))
  (k:wpAny (model prog w) (A.under (.builtin "type.__call__" ⟨.ref C::us,[]⟩)) (call f (.ref (h.objs.size+1)::us)) (fun r s'=>r=.none∧Q (.ref (h.objs.size+1)) s') E ⟨xcHeap C us h,g,dr,tk,os⟩) :
  wpAny (model prog w) A (call (.ref C) us) Q E ⟨h,g,dr,tk,os⟩:=by
 have c1:=tc_lookup
 have c2:=tc_bind (.ref C)
 have c3:(⟨h,g,dr,tk,os⟩:Shared).TypeIs (.ref C) "type":=⟨_,oC,rfl⟩
 refine wpAny_call (codeAny_of_tree ?_)
 show wpAny _ _ (callAny (.ref C) _) _ _ _
 repeat (any_goals (first | assumption | with_reducible refine wpAny_loadPart_at oC ?_ | wp_step))
 refine⟨rfl,?_⟩
 exact codeAny_call_builtin_at (Code.quiet_builtin _ (by decide +kernel)) entry_typeCall (wpAny_check_type_call_sub oC (xc_tcall oC hus lk bd k))
theorem sV:StoreFacts "ValueError" vBM "object.__setattr__" "object":=PySem.F.store_ValueError
theorem xc_check_sa {e:Addr} {oe:Obj} {nv v:Value} {Q:Unit→Shared→Prop} (oC:h.get? C=some (excClassObj nm qn C N bs (.ref W::vBM) hdct sn sub ab col dd k0 k1 k2 k3 k5 xNew))
  (he:h.get? e=some oe) (ec:oe.cls=.ref C) (k:Q () ⟨h,g,dr,tk,os⟩):wpAny M A (checkBuiltinCall "object.__setattr__" ⟨[.ref e,nv,v],[]⟩) Q E ⟨h,g,dr,tk,os⟩:=by
 have c1:(Value.ref C::.ref W::vBM).contains (.type "object")=true:=two_has sV.hasOwner
 have c2:=sV.args (.ref e) nv v
 simp only[checkBuiltinCall,sV.kind,sV.split]
 refine wpAny_bind ?_
 unfold isInstance
 repeat (first | (with_reducible refine wpAny_loadPart_at he ?_;rw[ec]) | (with_reducible refine wpAny_isSubtype_exc oC ?_;rw[c1]) | wp_step)
 exact k
open Builtin Builtin.ObjectAttr in
theorem xc_setattr {e:Addr} {vs:Array Value} {name:Str} {v:Value} {Q:Unit→Shared→Prop} (oC:h.get? C=some (excClassObj nm qn C N bs (.ref W::vBM) true sn sub ab col dd k0 k1 k2 k3 k5 xNew))
  {oe:Obj} (he:h.get? e=some oe) (ec:oe.cls=.ref C) (ed:oe.dict=none) (ef:oe.data=.fields vs) (es:oe.slots=#[]) (ls:Lk (model prog w) h (typeLookup (.ref C) "__setattr__") (some (.builtin "object.__setattr__"))) (ln:Lk (model prog w) h (typeLookup (.ref C) name) none)
  (k:∀ h' tk',h'.get? e=some ⟨.ref C,some h.objs.size,.fields vs,#[]⟩→h'.Ns1 h.objs.size (fun y=>if y=name then some v else none)→(∀ b o,b≠e→h.get? b=some o→h'.get? b=some o)→Q () ⟨h',g,dr,tk',os⟩) :
  wpAny (model prog w) A (setAttr (.ref e) name v) Q E ⟨h,g,dr,tk,os⟩:=by
 have c0:=sV.slot.bind (.ref e)
 have c1:=sV.passes (.ref e)
 unfold setAttr callSpecial? specialOf
 repeat (any_goals (first | assumption | (with_reducible refine wpAny_loadPart_at he ?_;rw[ec]) | (with_reducible refine Lk.run ls rfl ?_) | wp_step))
 refine codeAny_call_builtin sV.slot.plain sV.entry (xc_check_sa oC he ec ?_)
 unfold Builtin.«object.__setattr__»
 repeat (first | rw[refuse_eq] | (rw[refuseLoop_ref,refuseLoop_ref,c1]) | (with_reducible refine wpAny_loadPart_at he ?_;rw[ec]) | with_reducible refine wpAny_mroOf_exc oC ?_ | (with_reducible refine Lk.run ln rfl ?_) | wp_step)
 have hfr:=(Heap.get?_some_iff.mp he).2
 obtain⟨oc,od,odt,osl⟩:=oe
 dsimp only at ec ed ef es
 subst ec ed ef es
 dsimp only
 rw[if_neg (by simp[typeHasDict])]
 have he1:(h.push { cls:=.type "dict",data:=.dict #[] }).get? e=some ⟨.ref C,none,.fields vs,#[]⟩:=Heap.get?_push_of_some _ he
 have hes:e≠h.objs.size:=Nat.ne_of_lt (Heap.lt_size he)
 refine wpAny_bind (wpAny_alloc' (wpAny_bind (wpAny_update' he1 (wpAny_pure ?_))))
 have g1:((h.push { cls:=.type "dict",data:=.dict #[] }).update e fun o=>{ cls:=o.cls,dict:=some h.objs.size,data:=o.data,slots:=o.slots }).get? h.objs.size=some { cls:=.type "dict",data:=.dict #[] } :=
  (Heap.get?_update_ne _ _ _ _ hes.symm).trans (Heap.get?_push_at rfl rfl)
 have g2:((h.push { cls:=.type "dict",data:=.dict #[] }).update e fun o=>{ cls:=o.cls,dict:=some h.objs.size,data:=o.data,slots:=o.slots }).Ns h.objs.size (fun _=>none) :=
  ⟨_,#[],_,g1,rfl,fun y hy=>absurd hy (by simp),fun _=>rfl⟩
 show wpAny _ _ (storeInDict h.objs.size (.str name tk) name v) _ _ _
 unfold storeInDict newKeyGuard
 refine wpAny_bind (wpAny_pure (wpAny_bind (wpAny_nsSet1 (Heap.Ns1.of_empty g2) fun h' hn' hs=>?_)))
 obtain⟨oD,esD,epD,hoD,hdD,hcD⟩:=hn'.count (Within.cons name v Within.nil)
 refine wpAny_bind (wpAny_lookBehind hoD (by rw[hdD];exact pastItsLine_dict (Nat.le_trans hcD (by rw[List.length_cons,List.length_nil,sizeLine_eq];omega))) ?_)
 wp_walk
 refine k h' _ ?_ hn' fun b o hb eb=>?_
 ·exact(hs.2 e hes).trans (Heap.get?_update_self _ he1 rfl)
 ·exact(hs.2 b (Nat.ne_of_lt (Heap.lt_size eb))).trans ((Heap.get?_update_ne _ _ _ _ hb).trans (Heap.get?_push_of_some _ eb))
end
end L2
namespace L2
open PySem
def Fl (base:Heap) (l:List Env) (e C:Addr) (od:Option Addr) (fl:Value) (h:Heap):Prop :=
 base.StaysIn h∧base.get? e=none∧h.FunFrames base l∧∃(vs:Array Value) (T:Addr) (oT:Obj) (ts:Array Value) (t0:Addr),
  h.get? e=some ⟨.ref C,od,.fields vs,#[]⟩∧vs.size=6∧vs[0]?=some (.ref t0)∧vs[1]?=some (.ref T)∧base.get? T=none∧T≠e∧h.get? T=some oT∧oT.data=.fields ts∧ts[3]?=some fl
theorem Fl.tail {base h:Heap} {env:Env} {l:List Env} {e C:Addr} {od:Option Addr} {fl:Value} (x:Fl base (env::l) e C od fl h):Fl base l e C od fl h :=
 ⟨x.1,x.2.1,x.2.2.1.2.2,x.2.2.2⟩
theorem Fl.at {base h:Heap} {l:List Env} {e C:Addr} {od:Option Addr} {fl:Value} (x:Fl base l e C od fl h):∃(vs:Array Value) (t0:Addr),h.get? e=some ⟨.ref C,od,.fields vs,#[]⟩∧vs.size=6∧vs[0]?=some (.ref t0):=by
 obtain⟨_,_,_,vs,T,oT,ts,t0,a1,a2,a3,_⟩:=x
 exact⟨vs,t0,a1,a2,a3⟩
section
variable {M:Model} {A:Around} {E:Value→Shared→Prop} {s:Shared} {base:Heap} {env:Env} {outer l:List Env} {L e C:Addr} {od:Option Addr} {Q:Unit→Shared→Prop}
theorem fl_entry {vs:Array Value} {head:Value} {hadNext:Bool} {t0:Addr} (hfr:A.frames=some (env::outer)) (hl:s.heap.FunFrames base (env::outer)) (hf:env.frame=some L) (hkb:base.StaysIn s.heap) (hen:base.get? e=none)
  (he:s.heap.get? e=some ⟨.ref C,od,.fields vs,#[]⟩) (hz:vs.size=6) (h0:vs[0]?=some (.ref t0))
  (k:∀ h',Fl base (env::outer) e C od (rawInt L) h'→s.heap.UpToSlots h'→Q () { s with heap:=h' }) :
  wpAny M A (do let a ← frameOf env;let pl ← entryPlaceOf L hadNext;let b ← EntryCells.newEntry head a .none (rawInt L) .none pl;setField (.ref e) 1 b) Q E s:=by
 have ene:e∉(env::outer).filterMap (·.frame):=fun hm=>by
  obtain⟨_,o,ho,hnf⟩:=hl.mem hm
  rw[he] at ho;cases ho;exact hnf vs rfl
 refine wpAny_bind (wpAny_frameOf_fun hfr hl hf fun h1 hs1=>?_)
 refine wpAny_bind (wpAny_entryPlaceOf fun pl hpl=>?_)
 unfold EntryCells.newEntry newFields
 refine wpAny_bind (wpAny_newObj_type ?_ (hpl.sizeOk5 _ _ _ _ _))
 have e1:h1.get? e=some ⟨.ref C,od,.fields vs,#[]⟩:=(hs1.2.1 e ene).trans he
 have kb1:base.StaysIn h1:=fun b o hbo=>(hs1.2.1 b fun hm=>by rw[(hl.mem hm).1] at hbo;cases hbo).trans (hkb b o hbo)
 generalize hoT:({ cls:=.type "traceback",dict:=none,data:=.fields ([head,.ref L,.none,rawInt L,.none]++(if pl.isEmpty then List.replicate 6 Value.none else pl)).toArray }:Obj)=oT
 have e2:=Heap.get?_push_of_some (h:=h1) oT e1
 have hTe:h1.objs.size≠e:=Nat.ne_of_gt (Heap.lt_size e1)
 have hnT:oT.isFreed=false:=by rw[← hoT];rfl
 have eT:=Heap.get?_push_size h1 (o:=oT) hnT
 refine wpAny_setField e2 rfl (by rw[hz];decide) ?_
 have keep:∀ b o,b≠e→h1.get? b=some o→((h1.push oT).update e (Obj.mapFields (·.setIfInBounds 1 (Value.ref h1.objs.size)))).get? b=some o:=fun b o hbe hb=>by
  rw[Heap.get?_update_other _ _ (Ne.symm hbe)]
  exact Heap.get?_push_of_some _ hb
 have nore:∀ b o,s.heap.get? b=some o→(∀ vs,o.data≠.fields vs)→b≠e:=fun b o hb hnf q=>by
  rw[q,he] at hb;cases hb;exact hnf vs rfl
 refine k _ ⟨fun b o hbo=>keep b o (fun q=>by rw[q,hen] at hbo;cases hbo) (kb1 b o hbo),hen,hl.of_keeps fun b o hb hnf=>?_,vs.setIfInBounds 1 (.ref h1.objs.size),h1.objs.size,oT,_,t0,?_,?_,?_,?_,kb1.fresh,hTe,?_,by rw[← hoT],?_⟩ fun b o hb hnf=>?_
 ·obtain⟨sl,hs⟩:=hs1.2.2 b o hb
  exact⟨_,keep b _ (nore b o hb hnf) hs,rfl⟩
 ·rw[Heap.get?_update_self _ e2 rfl];rfl
 ·rw[Array.size_setIfInBounds];exact hz
 ·rw[Array.getElem?_setIfInBounds_ne (by decide)];exact h0
 ·simp[hz]
 ·rw[Heap.get?_update_other _ _ (Ne.symm hTe)];exact eT
 ·rcases hpl with rfl | ⟨_,_,_,_,_,_,_,rfl⟩ <;> simp
 ·obtain⟨sl,hs⟩:=hs1.2.2 b o hb
  exact⟨sl,keep b _ (nore b o hb hnf) hs⟩
theorem fl_note0 {vs:Array Value} {t0:Addr} (hfr:A.frames=some (env::outer)) (hl:s.heap.FunFrames base (env::outer)) (hf:env.frame=some L) (hkb:base.StaysIn s.heap) (hen:base.get? e=none)
  (he:s.heap.get? e=some ⟨.ref C,od,.fields vs,#[]⟩) (hz:vs.size=6) (h0:vs[0]?=some (.ref t0)) (h1:vs[1]?=some .none)
  (k:∀ h',Fl base (env::outer) e C od (rawInt L) h'→s.heap.UpToSlots h'→Q () { s with heap:=h' }):wpAny M A (noteFrame (.ref e) env) Q E s:=by
 unfold noteFrame
 simp only[hf]
 refine wpAny_bind (wpAny_field he rfl h1 ?_)
 rw[if_neg (by decide)]
 exact fl_entry hfr hl hf hkb hen he hz h0 k
theorem upd_field {h:Heap} {T:Addr} {oT:Obj} {ts:Array Value} {i:Nat} {x:Value} (hT:h.get? T=some oT) (hd:oT.data=.fields ts) :
  (∀ b,b≠T→(h.update T (Obj.mapFields (·.setIfInBounds i x))).get? b=h.get? b)∧(h.update T (Obj.mapFields (·.setIfInBounds i x))).get? T=some (oT.mapFields (·.setIfInBounds i x)) :=
 ⟨fun b hb=>Heap.get?_update_other _ _ (Ne.symm hb),Heap.get?_update_self _ hT (Obj.isFreed_of_fields (Obj.data_mapFields hd _))⟩
theorem fl_note (hfr:A.frames=some (env::outer)) (hf:env.frame=some L) (x:Fl base (env::outer) e C od .none s.heap)
  (k:∀ h',Fl base (env::outer) e C od (rawInt L) h'→s.heap.UpToSlots h'→Q () { s with heap:=h' }):wpAny M A (noteFrame (.ref e) env) Q E s:=by
 obtain⟨hkb,hen,hl,vs,T,oT,ts,t0,he,hz,h0,h1,hnT,hTe,hT,hdT,h3⟩:=x
 unfold noteFrame
 simp only[hf]
 refine wpAny_bind (wpAny_field he rfl h1 ?_)
 rw[if_pos (show (Value.ref T != Value.none)=true from by simp)]
 refine wpAny_bind (wpAny_field hT hdT h3 ?_)
 rw[if_neg (show ¬ ((Value.none == rawInt L)=true) from by simp[rawInt])]
 refine wpAny_bind (wpAny_setField hT hdT (Array.getElem?_eq_some_iff.mp h3).1 ?_)
 obtain⟨ot,_⟩:=upd_field (i:=3) (x:=Value.none) hT hdT
 have norT:∀ b o,s.heap.get? b=some o→(∀ vs,o.data≠.fields vs)→b≠T:=fun b o hb hnf q=>by
  rw[q,hT] at hb;cases hb;exact hnf ts hdT
 refine fl_entry (s:={ s with heap:=s.heap.update T (Obj.mapFields (·.setIfInBounds 3 Value.none)) }) hfr (hl.of_keeps fun b o hb hnf=>⟨o,(ot b (norT b o hb hnf)).trans hb,rfl⟩) hf
  (fun b o hbo=>(ot b fun q=>by rw[q,hnT] at hbo;cases hbo).trans (hkb b o hbo)) hen ((ot e (Ne.symm hTe)).trans he) hz h0 fun h' x1 x2=>k h' x1 fun b o hb hnf=>?_
 exact x2 b o ((ot b (norT b o hb hnf)).trans hb) hnf
theorem fl_free {fl:Value} (x:Fl base l e C od fl s.heap) (k:∀ h',Fl base l e C od .none h'→s.heap.UpToSlots h'→Q () { s with heap:=h' }):wpAny M A (setFlight (.ref e) none) Q E s:=by
 obtain⟨hkb,hen,hl,vs,T,oT,ts,t0,he,hz,h0,h1,hnT,hTe,hT,hdT,h3⟩:=x
 unfold setFlight
 refine wpAny_bind (wpAny_field he rfl h1 ?_)
 rw[if_pos (show (Value.ref T != Value.none)=true from by simp)]
 have hz3:=(Array.getElem?_eq_some_iff.mp h3).1
 obtain⟨ot,oT2⟩:=upd_field (i:=3) (x:=Value.none) hT hdT
 have norT:∀ b o,s.heap.get? b=some o→(∀ vs,o.data≠.fields vs)→b≠T:=fun b o hb hnf q=>by
  rw[q,hT] at hb;cases hb;exact hnf ts hdT
 refine wpAny_setField hT hdT hz3 (k _ ⟨fun b o hbo=>(ot b fun q=>by rw[q,hnT] at hbo;cases hbo).trans (hkb b o hbo),hen,hl.of_keeps fun b o hb hnf=>⟨o,(ot b (norT b o hb hnf)).trans hb,rfl⟩,
  vs,T,_,ts.setIfInBounds 3 .none,t0,(ot e (Ne.symm hTe)).trans he,hz,h0,h1,hnT,hTe,oT2,Obj.data_mapFields hdT _,by simp[hz3]⟩ fun b o hb hnf=>⟨o.slots,(ot b (norT b o hb hnf)).trans hb⟩)
theorem fl_leave (hfr:A.frames=some (env::outer)) (hf:env.frame=some L) (x:Fl base (env::outer) e C od .none s.heap)
  (k:∀ h',Fl base outer e C od .none h'→s.heap.UpToSlots h'→Q () { s with heap:=h' }):wpAny M A (leaving env (.ref e)) Q E s:=by
 unfold leaving
 refine wpAny_bind (fl_note hfr hf x fun h1 x1 u1=>?_)
 exact fl_free (s:={ s with heap:=h1 }) x1 fun h2 x2 u2=>k h2 x2.tail (u1.trans u2)
theorem fl_leave0 {vs:Array Value} {t0:Addr} (hfr:A.frames=some (env::outer)) (hl:s.heap.FunFrames base (env::outer)) (hf:env.frame=some L) (hkb:base.StaysIn s.heap) (hen:base.get? e=none)
  (he:s.heap.get? e=some ⟨.ref C,od,.fields vs,#[]⟩) (hz:vs.size=6) (h0:vs[0]?=some (.ref t0)) (h1:vs[1]?=some .none)
  (k:∀ h',Fl base outer e C od .none h'→s.heap.UpToSlots h'→Q () { s with heap:=h' }):wpAny M A (leaving env (.ref e)) Q E s:=by
 unfold leaving
 refine wpAny_bind (fl_note0 hfr hl hf hkb hen he hz h0 h1 fun h2 x2 u2=>?_)
 exact fl_free (s:={ s with heap:=h2 }) x2 fun h3 x3 u3=>k h3 x3.tail (u2.trans u3)
end
end L2
namespace L2
open PySem
section
variable {M:Model} {A:Around} {E:Value→Shared→Prop} {env:Env}
variable {nm qn:Str} {C N W:Addr} {bs:List Value} {hdct:Bool} {sn:List Str} {sub:List Value} {ab:Bool} {col:Option Bool} {dd:Option Addr} {k0 k1 k2 k3 k5:Option Value}
theorem xc_raiseStmt {s:Shared} {x:Sem Value} {Q:Flow→Shared→Prop} (hh:A.handled=none)
  (k:wpAny M A x (fun v s1=>∃ e od vs,v=.ref e∧(∃ nm qn C N bs W hdct sn sub ab col dd k0 k1 k2 k3 k5,s1.heap.get? C=some (excClassObj nm qn C N bs (.ref W::vBM) hdct sn sub ab col dd k0 k1 k2 k3 k5 xNew) ∧
   s1.heap.get? e=some ⟨.ref C,od,.fields vs,#[]⟩)∧vs[1]?=some .none∧E (.ref e) s1) E s):wpAny M A (raiseStmt env (some x) none) Q E s:=by
 unfold raiseStmt
 refine wpAny_bind (wpAny_mono k (fun v s1 z=>?_) fun _ _ x=>x)
 obtain⟨e,od,vs,rfl,⟨nm,qn,C,N,bs,W,hdct,sn,sub,ab,col,dd,k0,k1,k2,k3,k5,oC,he⟩,h1,hE⟩:=z
 have c1:(Value.ref C::.ref W::vBM).contains (.type "BaseException")=true:=two_has xB.hasBase
 obtain⟨hp,g,d,tk,os⟩:=s1
 repeat (first | with_reducible refine wpAny_loadPart_at he ?_ | with_reducible refine wpAny_loadPart_at oC ?_ | (with_reducible refine wpAny_isSubtype_exc oC ?_;rw[c1]) | wp_step)
 rw[h1]
 refine wpAny_pure ?_
 rw[if_neg (show ¬ ((Value.none != Value.none)=true) from by decide)]
 exact wpAny_pure (wpAny_raiseNew_none hh hE)
theorem xc_raise {s:Shared} {x:Expr} {pos:Pos} {Q:Flow→Shared→Prop} (hh:A.handled=none)
  (k:wpAny M A (eval x env) (fun v s1=>∃ e od vs,v=.ref e∧(∃ nm qn C N bs W hdct sn sub ab col dd k0 k1 k2 k3 k5,s1.heap.get? C=some (excClassObj nm qn C N bs (.ref W::vBM) hdct sn sub ab col dd k0 k1 k2 k3 k5 xNew) ∧
   s1.heap.get? e=some ⟨.ref C,od,.fields vs,#[]⟩)∧vs[1]?=some .none∧E (.ref e) s1) E s):wpAny M A (exec (.Raise (some x) none pos) env) Q E s:=by
 rw[arm_exec_Raise]
 refine wpAny_bind (wpAny_standAt ?_)
 show wpAny M A (raiseStmt env (some (do let v ← eval x env;standAt pos;pure v)) none) Q E s
 exact xc_raiseStmt hh (wpAny_bind (wpAny_mono k (fun v s1 z=>wpAny_bind (wpAny_standAt (wpAny_pure z))) fun _ _ y=>y))
theorem xc_matches {h:Heap} {g:Array GenState} {dr:Drawn} {tk:Nat} {os:OsState} {e:Addr} {oe:Obj} {Q:Bool→Shared→Prop} {nm2 q2:Str} {N2:Addr} {bs2:List Value} {hd2:Bool} {sn2:List Str} {sub2:List Value} {ab2:Bool} {col2:Option Bool} {dd2:Option Addr} {j0 j1 j2 j3 j5:Option Value} {nw2:String}
  (oC:h.get? C=some (excClassObj nm qn C N bs (.ref W::vBM) hdct sn sub ab col dd k0 k1 k2 k3 k5 xNew)) (oW:h.get? W=some (excClassObj nm2 q2 W N2 bs2 vBM hd2 sn2 sub2 ab2 col2 dd2 j0 j1 j2 j3 j5 nw2))
  (he:h.get? e=some oe) (ec:oe.cls=.ref C) (k:Q true ⟨h,g,dr,tk,os⟩):wpAny M A (excMatches (.ref e) (.ref W)) Q E ⟨h,g,dr,tk,os⟩:=by
 have c1:(Value.ref W::vBM).contains (.type "BaseException")=true:=by rw[List.contains_cons,xB.hasBase,Bool.or_true]
 have c2:(Value.ref C::.ref W::vBM).contains (.ref W)=true:=by simp
 have c3:=tc_notTuple
 unfold excMatches
 repeat (first | (with_reducible refine wpAny_loadPart_at he ?_;rw[ec]) | with_reducible refine wpAny_loadPart_at oW ?_ | (with_reducible refine wpAny_isSubtype_exc oW ?_;rw[c1]) | (with_reducible refine wpAny_isSubtype_exc oC ?_;rw[c2]) | wp_step)
 exact k
end
end L2
namespace L2
open PySem
abbrev xGa:String:="BaseException.__getattribute__"
section
variable {prog:Program} {w:World} {M:Model} {A:Around} {E:Value→Shared→Prop} {h:Heap} {g:Array GenState} {dr:Drawn} {tk:Nat} {os:OsState}
variable {nm qn:Str} {C N W e:Addr} {bs:List Value} {hdct:Bool} {sn:List Str} {sub:List Value} {ab:Bool} {col:Option Bool} {dd:Option Addr} {k0 k1 k2 k3 k5:Option Value} {oe:Obj}
theorem xg_check {nv:Value} {Q:Unit→Shared→Prop} (oC:h.get? C=some (excClassObj nm qn C N bs (.ref W::vBM) hdct sn sub ab col dd k0 k1 k2 k3 k5 xNew))
  (he:h.get? e=some oe) (ec:oe.cls=.ref C) (k:Q () ⟨h,g,dr,tk,os⟩):wpAny M A (checkBuiltinCall xGa ⟨[.ref e,nv],[]⟩) Q E ⟨h,g,dr,tk,os⟩:=by
 have c0:builtinKind xGa=some .slot:=by decide +kernel
 have c1:splitId xGa=some ("BaseException","__getattribute__"):=by decide +kernel
 have c2:(Value.ref C::.ref W::vBM).contains (.type "BaseException")=true:=two_has xB.hasBase
 have c3:=PySem.F.args_bexc_ga (.ref e) nv
 simp only[checkBuiltinCall,c0,c1]
 refine wpAny_bind ?_
 unfold isInstance
 repeat (first | (with_reducible refine wpAny_loadPart_at he ?_;rw[ec]) | (with_reducible refine wpAny_isSubtype_exc oC ?_;rw[c2]) | wp_step)
 exact k
theorem xg_by {name:Str} {tn:Tok} {fill expr:Bool} {Q:Value→Shared→Prop} (oC:h.get? C=some (excClassObj nm qn C N bs (.ref W::vBM) hdct sn sub ab col dd k0 k1 k2 k3 k5 xNew)) (he:h.get? e=some oe) (ec:oe.cls=.ref C)
  (l1:Lk (model prog w) h (typeLookup (.ref C) "__getattribute__") (some (.builtin xGa))) (l2:Lk (model prog w) h (typeLookup (.ref C) "__getattr__") none)
  (k:wpAny (model prog w) A.in1 (Builtin.«object.__getattribute__» ⟨[.ref e,.str name tn],[]⟩) (fun fin s'=>match fin with | .done (.ret v)=>wpAny (model prog w) A (handedOut v) Q E s' | _=>False) (fun _ _=>False) ⟨h,g,dr,tk,os⟩) :
  wpAny (model prog w) A (getAttrBy (.ref e) (.str name tn) fill expr) Q E ⟨h,g,dr,tk,os⟩:=by
 have c0:=(PySem.F.attr_ValueError).ga.bind (.ref e)
 have c1:(expr&&onTheHeap (Value.builtin xGa))=false:=by cases expr <;> rfl
 have c2:(Value.builtin xGa == Value.builtin "object.__getattribute__")=false:=by decide +kernel
 have c3:(onTheHeap (Value.ref C)&&Value.builtin xGa == Value.builtin "object.__getattribute__")=false:=by rw[c2];rfl
 repeat (any_goals (first | assumption | (with_reducible refine wpAny_loadPart_at he ?_;rw[ec]) | with_reducible refine Lk.run l1 rfl ?_ | with_reducible refine Lk.run l2 rfl ?_ | wp_step))
 refine codeAny_call_builtin (PySem.F.attr_ValueError).ga.plain PySem.F.entry_bexc_ga (xg_check oC he ec (wpAny_mono k (fun fin s' z=>?_) fun _ _ z=>z.elim))
 rcases fin with (_ | _ | _ | _) | _ <;> first | exact z | exact z.elim | (repeat (any_goals (first | assumption | wp_step)))
end
theorem lk_of {M:Model} {h:Heap} {α:Type} {m:Sem α} {r:α} (l:PySem.W.Looks M h m r):Lk M h m r:=fun A Q E s e q=>l A Q E s (fun b o z=>by rw[e];exact z) q
section
open PySem.W
variable {prog:Program} {w:World} {A:Around} {E:Value→Shared→Prop} {s:Shared} {K:Frag} {x C W N:Addr} {ox:Obj} {od:Option Obj} {name:Str} {expr:Bool}
variable {nm qn:Str} {bs:List Value} {hdct:Bool} {sn:List Str} {sub:List Value} {ab:Bool} {col:Option Bool} {dd:Option Addr} {k0 k1 k2 k3 k5:Option Value}
theorem xg_value {v:Value} {Q:Value→Shared→Prop} (X:K.In s.heap) (I:InstAt s.heap x ox C od) (oC:K.lookup C=some (excClassObj nm qn C N bs (.ref W::vBM) hdct sn sub ab col dd k0 k1 k2 k3 k5 xNew))
  (g1:findIn K (.ref C) "__getattribute__"=some (some (.builtin xGa))) (g2:findIn K (.ref C) "__getattr__"=some none) (hf:findObj K C od name=some (.value v)) (hh:handedIn v=true) (h:Q v { s with toks:=s.toks+1 }) :
  wpAny (model prog w) A (getAttr (.ref x) name expr) Q E s:=by
 obtain⟨hh',g,d,t,os⟩:=s
 have L0:=lk_of (I.type (M:=model prog w))
 have L1:=lk_of (looks_find (M:=model prog w) X I hf)
 unfold getAttr
 refine wpAny_bind (wpAny_mkText ?_)
 refine xg_by (X _ _ oC) I.at_ I.cls (lk_of (looks_findIn X g1)) (lk_of (looks_findIn X g2)) ?_
 refine wpAny_bind (wpAny_pure (wpAny_bind (wpAny_pure (wpAny_bind (L0.run rfl (wpAny_bind (L1.run rfl (wpAny_pure ?_))))))))
 show wpAny _ _ (handedOut v) _ _ _
 rw[handedOut_of hh];exact wpAny_pure h
theorem xg_class {Q:Option Value→Shared→Prop} (X:K.In s.heap) (I:InstAt s.heap x ox C od) (oC:K.lookup C=some (excClassObj nm qn C N bs (.ref W::vBM) hdct sn sub ab col dd k0 k1 k2 k3 k5 xNew))
  (g1:findIn K (.ref C) "__getattribute__"=some (some (.builtin xGa))) (g2:findIn K (.ref C) "__getattr__"=some none) (hf:findObj K C od "__class__"=some (.bind (.builtin "getset_descriptor.__get__") (.builtin "object.__class__")))
  (hm:mroIn K C (.type "object")=some true) (h:Q (some (.ref C)) { s with toks:=s.toks+1 }):wpAny (model prog w) A (getAttr? (.ref x) "__class__") Q E s:=by
 obtain⟨hh',g,d,t,os⟩:=s
 have L0:=lk_of (I.type (M:=model prog w))
 have L1:=lk_of (looks_find (M:=model prog w) X I hf)
 unfold getAttr? getAttrBy?
 refine wpAny_bind (wpAny_mkText (wpAny_bind (wpAny_attempt ?_)))
 refine xg_by (X _ _ oC) I.at_ I.cls (lk_of (looks_findIn X g1)) (lk_of (looks_findIn X g2)) ?_
 refine wpAny_bind (wpAny_pure (wpAny_bind (wpAny_pure (wpAny_bind (L0.run rfl (wpAny_bind (L1.run rfl ?_)))))))
 show wpAny _ _ (holding [Value.builtin "object.__class__"] (call (.builtin "getset_descriptor.__get__") [.builtin "object.__class__",.ref x,.ref C]) >>= ret) _ _ _
 refine wpAny_bind (wpAny_holding (wpAny_call (class_get (s:=⟨hh',g,d,t+1,os⟩) (ox:=ox) (od:=od) X I hm ?_)))
 refine wpAny_pure ?_
 show wpAny _ _ (handedOut (.ref C)) _ _ _
 rw[handedOut_of rfl]
 exact wpAny_pure (wpAny_pure h)
end
end L2
namespace L2
open PySem PySem.Spec PyProof.Rows
def XO (e C:Addr) (od:Option Addr) (fr:Bool):HO:=.ext fun h=>∃(vs:Array Value) (t0:Addr),h.get? e=some ⟨.ref C,od,.fields vs,#[]⟩∧vs.size=6∧vs[0]?=some (.ref t0)∧(fr=true→vs[1]?=some .none)
theorem xo_ok {P:Program} {w:World} {H:Hp} {h:Heap} {e C:Addr} {od:Option Addr} {fr:Bool} {vs:Array Value} {t0:Addr} (he:h.get? e=some ⟨.ref C,od,.fields vs,#[]⟩) (hz:vs.size=6) (h0:vs[0]?=some (.ref t0)) (h1:fr=true→vs[1]?=some .none) :
  ObjOk P w H h e (XO e C od fr):=⟨⟨vs,t0,he,hz,h0,h1⟩,⟨_,he⟩,fun _ _ ⟨vs,t0,a,b⟩ k=>⟨vs,t0,k _ a,b⟩⟩
theorem xo_get {P:Program} {w:World} {H:Hp} {h:Heap} {e C:Addr} {od:Option Addr} {fr:Bool} (ok:HOk P w H h) (q:H e=some (XO e C od fr)) :
  ∃(vs:Array Value) (t0:Addr),h.get? e=some ⟨.ref C,od,.fields vs,#[]⟩∧vs.size=6∧vs[0]?=some (.ref t0)∧(fr=true→vs[1]?=some .none):=(ok e _ q).1
theorem upd_self {H:Hp} {a:Addr} {o:HO} (h:H a=some o):upd H a o=H:=by
 funext b;unfold upd;split
 ·rename_i e;rw[e,h]
 ·rfl
structure Exc (K:PySem.W.Frag) (W C:Addr):Prop where
 ob:∃(nm qn:Str) (N:Addr) (bs:List Value) (sn:List Str) (sub:List Value) (ab:Bool) (col:Option Bool) (dd:Option Addr) (k0 k1 k2 k3 k5:Option Value),
  K.lookup C=some (excClassObj nm qn C N bs (.ref W::vBM) true sn sub ab col dd k0 k1 k2 k3 k5 xNew)
 ga:PySem.W.findIn K (.ref C) "__getattribute__"=some (some (.builtin xGa))
 gr:PySem.W.findIn K (.ref C) "__getattr__"=some none
 sa:PySem.W.findIn K (.ref C) "__setattr__"=some (some (.builtin "object.__setattr__"))
 kp:PySem.W.keepIn K (.ref C)=true
 cl:PySem.W.findIn K (.ref C) "__class__"=some (some (.builtin "object.__class__"))
theorem Exc.cls {K:PySem.W.Frag} {W C:Addr} (x:Exc K W C):∃ cd,PySem.W.clsIn K C=some cd∧cd.mro=.ref C::.ref W::vBM∧cd.hasDict=true:=by
 obtain⟨nm,qn,N,bs,sn,sub,ab,col,dd,k0,k1,k2,k3,k5,h⟩:=x.ob
 exact⟨_,by unfold PySem.W.clsIn;rw[h],rfl,rfl⟩
theorem Exc.hd {K:PySem.W.Frag} {W C:Addr} (x:Exc K W C):PySem.W.hasDictIn K C=true:=by
 obtain⟨cd,h1,_,h2⟩:=x.cls
 unfold PySem.W.hasDictIn;rw[h1];exact h2
section
variable {X:Cx} {pins:List (Addr×Obj)} {σ:St} {H:Hp} {s:Shared} {W C f:Addr} {fd:FuncData} {ps:List Str} {sp:Sp} {k:Nat} {CX:CXT} {E:XK}
theorem run_makeX {Q:VK} {us:List Value} {vs:List V} (M:Exc X.K W C) (hi:PySem.W.findIn X.K (.ref C) "__init__"=some (some (.ref f))) (hf:PySem.W.isFn X.K (.ref f)=true) (F:FnOk X.prog X.w X.K X.mg X.base CX k f fd ps sp) (hr:Room (k+1) X.A)
  (hb:Binds X.K fd ps []) (hx:Passes CX X E) (I:Inv X pins σ H s) (r:Vals vs us) (hz:vs.length≤sizeLine)
  (h:∀ x,H x=none→sp (.ref x::vs) (upd H x (XO x C none true)) (fun v H2=>v=.non∧Q (.ref x) H2) E):wpAny (model X.prog X.w) X.A (call (.ref C) us) (EP X pins σ Q) X.xe s:=by
 have hq:=h (s.heap.objs.size+1) (I.hok.fresh (Nat.le_succ _))
 have hus:us.length≤sizeLine:=by rw[← r.length];exact hz
 have I2:Inv X pins σ (upd H (s.heap.objs.size+1) (XO (s.heap.objs.size+1) C none true)) { s with heap:=xcHeap C us s.heap } :=
  I.laid (a:=s.heap.objs.size+1) (o:=XO (s.heap.objs.size+1) C none true) (h':=xcHeap C us s.heap) (t':=s.toks) (fun b u q=>xcHeap_keep q) (Nat.le_succ _) (xo_ok xcHeap_at rfl rfl fun _=>rfl)
 have r2:Vals (V.ref (s.heap.objs.size+1)::vs) (Value.ref (s.heap.objs.size+1)::us):=.cons rfl r
 have hl:(Value.ref (s.heap.objs.size+1)::us++[]).length=ps.length:=by
  rw[List.append_nil,← r2.length];exact F.len _ _ _ _ hq
 have hb2:=hb { s with heap:=xcHeap C us s.heap } (Value.ref (s.heap.objs.size+1)::us) I2.kIn hl
 rw[List.append_nil] at hb2
 obtain⟨nm,qn,N,bs,sn,sub,ab,col,dd,k0,k1,k2,k3,k5,oC⟩:=M.ob
 have KI:=I.kIn
 have KI2:=I2.kIn
 obtain⟨hh,g,d,t,os⟩:=s
 refine xc_call (KI _ _ oC) hus (lk_of (PySem.W.looks_findIn KI2 hi)) (lk_of (PySem.W.bind_fn KI2 _ (beq_iff_eq.mp hf))) ?_
 refine wpAny_call (codeAny_mono (F.run _ X.stack _ _ ⟨Value.ref (hh.objs.size+1)::us,[]⟩ (Value.ref (hh.objs.size+1)::us) _ _ E (hr.make C us []) (I2.env0.make C us []) hb2 r2 hq) fun r s' hq'=>?_)
 cases r with
 | error e=>exact hx pins σ _ _ e s' I2 hq'
 | ok fl =>
  cases fl with
  | ret u =>
   obtain⟨v,H',I3,rv,ev,q3⟩:=I2.after hq'
   subst ev
   exact⟨rv,⟨V.ref (hh.objs.size+1),H',I3,rfl,q3⟩⟩
  | next=>exact False.elim hq'
  | brk=>exact False.elim hq'
  | cont=>exact False.elim hq'
end
section
variable {X:Cx} {W C f:Addr} {fd:FuncData} {ps:List Str} {sp:Sp} {k:Nat} {CX:CXT} {E:XK} {x:Str} {p pos apos:Pos} {e:Expr} {es:List Expr} {t:TA}
def tMakeX (C:Addr) (sp:Sp) (E:XK) (t:TA):TE:=fun σ H Q=>t σ H fun vs H1=>vs.length≤sizeLine∧∀ x,H1 x=none→sp (.ref x::vs) (upd H1 x (XO x C none true)) (fun v H2=>v=.non∧Q (.ref x) H2) E
theorem pe_makeX (M:Exc X.K W C) (hi:PySem.W.findIn X.K (.ref C) "__init__"=some (some (.ref f))) (hf:PySem.W.isFn X.K (.ref f)=true) (F:FnOk X.prog X.w X.K X.mg X.base CX k f fd ps sp) (hr:Room (k+1) X.A) (hg:Gl X x) (hm:X.mg x=some (.ref C))
  (hb:Binds X.K fd ps []) (hx:Passes CX X E) (ha:PA X (e::es) t) (hdb:(x == ("__debug__":Str))=false:=by decide) (he:starEach (e::es) X.env=(false,eval e X.env)::starEach es X.env:=by rfl) (hpl:(backTo pos (starEach es X.env)).any (·.1)=false:=by rfl) :
  PE X (.Call (.Name x p) (e::es) [] pos) (tMakeX C sp E t):=by
 intro pins s σ H Q I h
 refine wpAny_Call_Name_kw (ld_glob I hg hm ?_ hdb)
 refine PySem.W.callWith_K (h₀:=X.base) I.ok.mod.kin M.kp (thn (ha pos pins s σ H _ I h) fun us s1 ⟨vs,H1,I1,r,z,q⟩=>⟨I1.kIn,?_⟩) he hpl
 exact run_makeX M hi hf F hr hb hx I1 r z q
def tInitX (K:PySem.W.Frag) (W:Addr) (t:TA):TE:=fun σ H Q=>t σ H fun vs H1=>∃(e C:Addr) (od:Option Addr) (fr:Bool) (y:V),vs=[.ref e,y]∧H1 e=some (XO e C od fr)∧Exc K W C∧Q .non H1
structure ExcBase (K:PySem.W.Frag) (W:Addr):Prop where
 rd:PySem.W.readsIn K W (.type "type")=true
 ga:PySem.W.specialIn K (.ref W) "__getattribute__"=some (some (.builtin "type.__getattribute__"))
 ini:PySem.W.findCls K (.ref W) (.type "type") "__init__"=some (.val (.builtin xIni))
theorem pe_initX {pl:Sem Bool} (M:ExcBase X.K W) (hg:Gl X x) (hm:X.mg x=some (.ref W)) (ha:PA X (e::es) t) (hdb:(x == ("__debug__":Str))=false:=by decide)
  (he:starEach (e::es) X.env=(false,eval e X.env)::starEach es X.env:=by rfl) (hpl:(backTo pos (starEach es X.env)).any (·.1)=false:=by rfl)
  (ht:eval (.Call (.Attribute (.Name x p) "__init__" apos) (e::es) [] pos) X.env=(do
   let ov ← eval (.Name x p) X.env
   standAt apos.atName
   let (f,first) ← holding [ov] (getMethod ov "__init__" pl)
   callWith pos f first (backTo pos (starEach (e::es) X.env)) (backToKw pos (keywordEach [] X.env))):=by rfl) :
  PE X (.Call (.Attribute (.Name x p) "__init__" apos) (e::es) [] pos) (tInitX X.K W t):=by
 intro pins s σ H Q I h
 refine PySem.W.methodCall_KW (pl:=pl) (ld_glob I hg hm ?_ hdb) ht
 refine PySem.W.method_cls I.kIn M.ga (PySem.W.cls_value I.kIn M.rd M.ini rfl ?_)
 refine PyProof.Rows.callWith_builtin1 (thn (ha pos pins _ σ H _ (I.tok _) h) fun us s1 ⟨vs,H1,I1,r,ex,C,od,fr,y,ev,hX,hE,q⟩=>?_) he hpl
 subst ev
 cases r with
 | cons r1 rs =>
  cases (show _=Value.ref ex from r1)
  obtain⟨vs,t0,he,hz,h0,h1⟩:=xo_get I1.hok hX
  obtain⟨nm,qn,N,bs,sn,sub,ab,col,dd,k0,k1,k2,k3,k5,oC⟩:=hE.ob
  have hlen:=rs.length
  have KI:=I1.kIn
  obtain⟨hh,g,d,t,os⟩:=s1
  refine xc_init (KI _ _ oC) he h0 (by rw[← hlen];exact szn (by show 1≤1000000;decide)) fun h' hk he'=>⟨.non,_,?_,rfl,q⟩
  have hw:=I1.write (x:=ex) (e:=ex) (h':=h') (o:=XO ex C od fr) (t':=t) (by rw[hX];exact True.intro) (.inl rfl) (fun b u hb q=>hk b u hb q) ⟨_,he'⟩
   (xo_ok (t0:=hh.objs.size) he' (by rw[Array.size_setIfInBounds];exact hz) (by simp[hz]) fun z=>by rw[Array.getElem?_setIfInBounds_ne (by decide)];exact h1 z)
  rw[upd_self hX] at hw
  exact hw
end
end L2
namespace L2
open PySem PySem.Spec PyProof.Rows
abbrev TJ:=St→Hp→Nat→VK→Prop
def PJ (X:Cx) (es:List Expr) (t:TJ):Prop:=∀(pins:List (Addr×Obj)) (s:Shared) (σ:St) (H:Hp) (acc:Str) (Q:VK),Inv X pins σ H s→t σ H acc.length Q →
 Joins (model X.prog X.w) X.A X.xe (evalEach es X.env) acc (fun out s1=>out.length≤sizeLine∧EP X pins σ Q (.str out s1.toks) { s1 with toks:=s1.toks+1 }) s
def jNil:TJ:=fun _ H n Q=>n≤1000000∧∀ z,Q (.str z) H
def jCons (te:TE) (t:TJ):TJ:=fun σ H n Q=>te σ H fun x H1=>∃ y,x=.str y∧n+y.length≤1000000∧t σ H1 (n+y.length) Q
def tFs (t:TJ):TE:=fun σ H Q=>t σ H 0 Q
section
variable {X:Cx} {e a b:Expr} {es:List Expr} {te:TE} {t:TJ} {pos:Pos}
theorem pj_nil:PJ X [] jNil:=fun pins s σ H acc Q I h=>⟨szn h.1,.str acc,H,I.tok _,⟨_,rfl⟩,h.2 acc⟩
theorem pj_cons (he:PE X e te) (hr:PJ X es t) (hev:evalEach (e::es) X.env=eval e X.env::evalEach es X.env:=by rfl):PJ X (e::es) (jCons te t):=by
 intro pins s σ H acc Q I h
 rw[hev]
 refine thn (he pins s σ H _ I h) fun u s1 ⟨x,H1,I1,r,y,ex,hz,q⟩=>?_
 subst ex
 obtain⟨tk,rfl⟩:=(show ∃ tk,u=Value.str y tk from r)
 exact⟨y,tk,rfl,szn (by rw[strLen_append];exact hz),hr pins s1 σ H1 (acc++y) Q I1 (by rw[strLen_append];exact q)⟩
theorem pe_fs (h:PJ X (a::b::es) t):PE X (.JoinedStr (a::b::es) pos) (tFs t):=by
 intro pins s σ H Q I q
 exact wpAny_JoinedStr (h pins s σ H Str.empty Q I q)
def tFv (te:TE):TE:=fun σ H Q=>te σ H fun x H1=>(∃ i:Int,x=.int i∧i.natAbs.log2 < 1920∧∀ z:Str,z.length≤2000→Q (.str z) H1)∨∃ y:Str,x=.str y∧y.length≤1000000∧Q (.str y) H1
theorem pe_fv (he:PE X e te):PE X (.FormattedValue e (-1) none pos) (tFv te):=by
 intro pins s σ H Q I q
 refine wpAny_FormattedValue_plain (thn (he pins s σ H _ I q) fun u s1 ⟨x,H1,I1,r,q1⟩=>?_)
 rcases q1 with ⟨i,rfl,hi,q1⟩ | ⟨y,rfl,hy,q1⟩
 ·obtain⟨tk,rfl⟩:=(show ∃ tk,u=Value.int i tk from r)
  refine wpAny_formatField_int hi ⟨.str (toString i),H1,(I1.tok _),⟨_,rfl⟩,q1 _ ?_⟩
  have:=int_text_length_le (k:=1920) (by decide) hi
  rw[PySem.ofString_length];omega
 ·obtain⟨tk,rfl⟩:=(show ∃ tk,u=Value.str y tk from r)
  exact wpAny_formatField_str ⟨.str y,H1,I1,⟨_,rfl⟩,q1⟩ ⟨.str y,H1,I1.tok _,⟨_,rfl⟩,q1⟩ (szn hy)
def tFr (te:TE):TE:=fun σ H Q=>te σ H fun x H1=>∃ y:Str,x=.str y∧(PySem.reprText y).length≤1000∧Q (.str (PySem.reprText y)) H1
theorem pe_fr (he:PE X e te):PE X (.FormattedValue e 114 none pos) (tFr te):=by
 intro pins s σ H Q I q
 refine wpAny_FormattedValue_repr (thn (he pins s σ H _ I q) fun u s1 ⟨x,H1,I1,r,y,ex,hy,q1⟩=>?_)
 subst ex
 obtain⟨tk,rfl⟩:=(show ∃ tk,u=Value.str y tk from r)
 refine wpAny_pyReprObj_gives (T:="str") rfl slot_str_repr entry_str_repr (args_str_repr _) (gives_str_repr y tk) ?_ rfl (szn (Nat.le_trans hy (by decide)))
 exact wpAny_formatField_str ⟨.str (reprText y),H1,(I1.tok _),⟨_,rfl⟩,q1⟩ ⟨.str (reprText y),H1,(I1.tok _).tok _,⟨_,rfl⟩,q1⟩ (szn (Nat.le_trans hy (by decide)))
end
theorem Inv.track {X:Cx} {pins:List (Addr×Obj)} {σ:St} {H:Hp} {s:Shared} {d:Addr} {o:HO} (I:Inv X pins σ H s) (n:H d=none) (h0:X.s₀.heap.objs.size≤d) (hl:d≠X.env.locals) (hc:∀ x c,X.env.cells.lookup x=some c→c≠d)
  (hp:∀ p∈X.pn++pins,p.1≠d) (ok:ObjOk X.prog X.w (upd H d o) s.heap d o):Inv X pins σ (upd H d o) s:=by
 have ne:∀ b ob,X.s₀.heap.get? b=some ob→b≠d:=fun b ob e=>Nat.ne_of_lt (Nat.lt_of_lt_of_le (Heap.lt_size e) h0)
 refine⟨I.ok,I.os,I.bare,⟨I.base.keep,I.base.slot,fun b ob e q hx=>?_,I.base.there,fun b xs q=>?_,fun b ob u q=>?_,fun b ps q=>?_⟩,I.loc,I.cell,?_,fun x c e=>?_,fun p hq=>?_,fun b u e=>?_,I.len⟩
 ·rw[jd_ (ne b ob e)];exact I.base.free b ob e q hx
 ·have q2:=I.base.tups b xs q
  rw[jd_ (je_ q2 n)];exact q2
 ·have q2:=I.base.frzs b ob u q
  rw[jd_ (je_ q2 n)];exact q2
 ·obtain⟨more,q2⟩:=I.base.tbls b ps q
  exact⟨more,by rw[jd_ (je_ q2 n)];exact q2⟩
 ·rw[jd_ (Ne.symm hl)];exact I.free
 ·rw[jd_ (hc x c e)];exact I.freeC x c e
 ·obtain⟨e1,e2,e3⟩:=I.pin p hq
  exact⟨e1,by rw[jd_ (hp p hq)];exact e2,e3⟩
 ·by_cases hb:b=d
  ·subst hb;rw[jb_] at e;cases e;exact ok
  ·rw[jd_ hb] at e
   exact(I.hok b u e).stay (fun _ _ _ q=>q) (fun c q=>by rw[jd_ (je_ q n)];exact q) fun c xs q=>by rw[jd_ (je_ q n)];exact q
theorem upd_comm {H:Hp} {a b:Addr} {o u:HO} (h:a≠b):upd (upd H a o) b u=upd (upd H b u) a o:=by
 funext c;unfold upd
 by_cases h1:c=a
 ·subst h1;simp[h]
 ·simp[h1]
section
variable {X:Cx} {o e value:Expr} {f:Str} {pos pos':Pos} {ta tv:TE}
def sFldX (K:PySem.W.Frag) (ta tv:TE) (f:Str):TS:=fun D σ H=>tv σ H fun y H1=>ta σ H1 fun x H2=>∃(a C W:Addr) (fr:Bool),x=.ref a∧H2 a=some (XO a C none fr)∧Exc K W C∧NoAttr K C f ∧
 ∀ d,H2 d=none→d≠a→D.nx σ (upd (upd H2 d (.xd [(f,y)])) a (XO a C (some d) fr))
theorem ps_fldX (ha:PE X o ta) (hv:PE X value tv) (hs:swapsWith value (some (.Attribute o f pos')) pos.line X.env=pure false):PS X (.Assign [.Attribute o f pos'] value pos) (sFldX X.K ta tv f):=by
 intro pins s σ H D I h
 refine plainObj_wpAny_Assign_Attribute (thn (hv pins s σ H _ I h) fun u s1 ⟨y,H1,I1,ry,q⟩=>thn (ha pins s1 σ H1 _ I1 q) fun ov s2 ⟨x,H2,I2,rx,a,C,W,fr,ex,ea,M,n,q2⟩=>?_) hs
 subst ex
 obtain rfl:ov=Value.ref a:=rx
 obtain⟨vs,t0,he,hz,h0,h1⟩:=xo_get I2.hok ea
 obtain⟨nm,qn,N,bs,sn,sub,ab,col,dd,k0,k1,k2,k3,k5,oC⟩:=M.ob
 have KI:=I2.kIn
 have hfr:H2 s2.heap.objs.size=none:=I2.hok.fresh (Nat.le_refl _)
 have hlt:=Heap.lt_size he
 obtain⟨hh,g,d,t,os⟩:=s2
 refine xc_setattr (KI _ _ oC) he rfl rfl rfl rfl (lk_of (PySem.W.looks_findIn KI M.sa)) (lk_of (PySem.W.looks_findIn KI n)) fun h' tk' e1 e2 e3=>⟨σ,_,?_,q2 hh.objs.size hfr (Nat.ne_of_gt hlt)⟩
 have hlt2:a≠hh.objs.size:=Nat.ne_of_lt hlt
 have hw:=I2.write (x:=a) (e:=a) (h':=h') (o:=XO a C (some hh.objs.size) fr) (t':=tk') (by rw[ea];exact True.intro) (.inl rfl) (fun b u hb q=>e3 b u hb q) ⟨_,e1⟩ (xo_ok e1 hz h0 h1)
 have n2:(upd H2 a (XO a C (some hh.objs.size) fr)) hh.objs.size=none:=by rw[jd_ (Ne.symm hlt2)];exact hfr
 have ht:=hw.track (d:=hh.objs.size) (o:=.xd [(f,y)]) n2 I2.sz (Nat.ne_of_gt I2.lt) (fun x c e=>?_) (fun p hp=>?_) ⟨_,e2,fun g=>?_⟩
 ·rw[upd_comm hlt2] at ht;exact ht
 ·obtain⟨v,o,ho,_⟩:=I2.cell x c e
  exact Nat.ne_of_lt (Heap.lt_size ho)
 ·obtain⟨e1,_⟩:=I2.pin p hp
  exact Nat.ne_of_lt (Heap.lt_size e1)
 ·by_cases hg:g=f
  ·subst hg
   have:List.lookup g [(g,y)]=some y:=by simp[List.lookup]
   rw[this,if_pos rfl];exact ry
  ·have:List.lookup g [(f,y)]=none:=by
    have hb:(g == f)=false:=beq_eq_false_iff_ne.mpr hg
    simp[List.lookup,hb]
   rw[this,if_neg hg];exact True.intro
def tFldX (K:PySem.W.Frag) (ta:TE) (f:Str):TE:=fun σ H Q=>ta σ H fun x H1=>∃(a C W d:Addr) (fr:Bool) (fs:List (Str×V)) (v:V),x=.ref a∧H1 a=some (XO a C (some d) fr)∧H1 d=some (.xd fs)∧Exc K W C∧NoAttr K C f∧fs.lookup f=some v∧Q v H1
theorem pe_fldX {K:PySem.W.Frag} (he:PE X e ta) (hb:attributeBase e f X.env (eval e X.env)=eval e X.env) (hK:X.K=K:=by rfl):PE X (.Attribute e f pos) (tFldX K ta f):=by
 subst hK
 intro pins s σ H Q I h
 refine attr_of hb (thn (he pins s σ H _ I h) fun u s1 ⟨x,H1,I1,rx,a,C,W,d,fr,fs,v,ex,ea,ed,M,n,l,q⟩=>?_)
 subst ex
 obtain rfl:u=Value.ref a:=rx
 obtain⟨vs,t0,he,hz,h0,h1⟩:=xo_get I1.hok ea
 obtain⟨mA,nA,rA⟩:=(show ∃ mA,s1.heap.Ns1 d mA∧∀ f,RelO (fs.lookup f) (mA f) from I1.hok d _ ed)
 obtain⟨od,ho,hl⟩:=lookIn_ns nA
 obtain⟨u,hu,ru⟩:=RelO.some_of (v:=v) (o:=mA f) (by rw[← l];exact rA f)
 have J:PySem.W.InstAt s1.heap a ⟨.ref C,some d,.fields vs,#[]⟩ C (some od):=⟨he,rfl,rfl,ho⟩
 obtain⟨nm,qn,N,bs,sn,sub,ab,col,dd,k0,k1,k2,k3,k5,oC⟩:=M.ob
 exact xg_value I1.kIn J oC M.ga M.gr (PySem.W.findObj_own M.hd n rfl (by rw[hl,hu])) (handed_of ru) ⟨v,H1,I1.tok _,ru,q⟩
end
end L2
namespace L2
open PySem PySem.Spec PyProof.Rows
theorem xo_ne {H:Hp} {x b C:Addr} {od:Option Addr} {fr:Bool} (h:H x=some (XO x C od fr)) (n:H b=none):b≠x:=fun e=>by rw[e,h] at n;cases n
theorem un_fly {fs fs':List Addr} {H₀ H:Hp} {h₀ h h' base:Heap} {l:List Env} {x C:Addr} {od:Option Addr} {fl:Value} {fr:Bool} (U:Un fs' [] H₀ H h₀ h) (hfs:∀ b o,h₀.get? b=some o→b∈fs'→b∈fs)
  (hX:H x=some (XO x C od fr)) (hb:∀ b o o',h₀.get? b=some o'→h.get? b=some o→b∉fs→b≠x→base.get? b=some o) (F:Fl base l x C od fl h') (us:h.UpToSlots h')
  (hf:∀ b∈fs,∀ o,h.get? b=some o→∀ vs,o.data≠.fields vs):Un fs [] H₀ (upd H x (XO x C od false)) h₀ h':=by
 have noE:∀ b:Addr,b∉([]:List Addr):=fun b z=>by simp at z
 refine⟨fun b o q n hn _=>?_,fun b o q n hn _=>?_,fun b o q n _=>?_,fun b o q _=>?_,fun b xs q=>?_,fun b o u q=>?_,fun b ps q=>?_⟩
 ·have e1:=U.keep b o q n (fun z=>hn (hfs b o q z)) (noE b)
  exact F.1 b o (hb b o o q e1 hn (xo_ne hX (U.free b o q n (noE b))))
 ·by_cases hm:b∈fs'
  ·obtain⟨sl,e1⟩:=U.slot b o q n hm (noE b)
   obtain⟨sl2,e2⟩:=us b _ e1 (hf b hn _ e1)
   exact⟨sl2,e2⟩
  ·have e1:=U.keep b o q n hm (noE b)
   obtain⟨sl2,e2⟩:=us b _ e1 (hf b hn _ e1)
   exact⟨sl2,e2⟩
 ·have n1:=U.free b o q n (noE b)
  rw[jd_ (xo_ne hX n1)];exact n1
 ·obtain⟨o1,e1⟩:=U.there b o q (noE b)
  by_cases hm:b∈fs
  ·obtain⟨sl,e2⟩:=us b _ e1 (hf b hm _ e1)
   exact⟨_,e2⟩
  ·by_cases hx:b=x
   ·obtain⟨vs,t0,e2,_⟩:=F.at
    exact⟨_,by rw[hx];exact e2⟩
   ·exact⟨o1,F.1 b o1 (hb b o1 o q e1 hm hx)⟩
 ·have n1:=U.tups b xs q
  rw[jd_ (ne_of n1 hX (by intro z;cases z))];exact n1
 ·have n1:=U.frzs b o u q
  rw[jd_ (ne_of n1 hX (by intro z;cases z))];exact n1
 ·obtain⟨more,n1⟩:=U.tbls b ps q
  exact⟨more,by rw[jd_ (ne_of n1 hX (by intro z;cases z))];exact n1⟩
theorem objThere {P:Program} {w:World} {H:Hp} {h:Heap} {a:Addr} {o:HO} (x:ObjOk P w H h a o):∃ ob,h.get? a=some ob:=by
 cases o with
 | lst xs=>obtain⟨_,_,_,_,e⟩:=x;exact⟨_,e⟩
 | tup xs=>obtain⟨_,_,_,o,e,_⟩:=x;exact⟨_,e⟩
 | dK kvs=>obtain⟨_,_,_,_,o,_,_,e,_⟩:=x;exact⟨_,e⟩
 | dT kvs=>obtain⟨_,_,_,_,o,_,_,e,_⟩:=x;exact⟨_,e⟩
 | set S n=>obtain⟨o,_,_,_,e,_⟩:=x;exact⟨_,e⟩
 | ins C dx fs=>obtain⟨_,_,_,e,_⟩:=x;exact⟨_,e⟩
 | own y=>exact x
 | xd fs=>obtain⟨_,⟨_,_,_,e,_⟩,_⟩:=x;exact⟨_,e⟩
 | rng lo hi=>obtain⟨_,_,_,e⟩:=x;exact⟨_,e⟩
 | frz ob u=>obtain⟨e,_⟩:=x;exact⟨_,e⟩
 | tbl ps=>exact⟨_,x⟩
 | met f y=>exact⟨_,x⟩
 | ext φ=>obtain⟨_,e,_⟩:=x;exact e
theorem hok_fly {P:Program} {w:World} {H:Hp} {h h' base:Heap} {l:List Env} {x C:Addr} {od:Option Addr} {fl:Value} {fr:Bool} (ok:HOk P w H h) (hX:H x=some (XO x C od fr))
  (ht:∀ a u o,H a=some u→a≠x→h.get? a=some o→base.get? a=some o) (F:Fl base l x C od fl h'):HOk P w (upd H x (XO x C od false)) h':=fun a u e=>by
 by_cases ha:a=x
 ·subst ha
  rw[jb_] at e;cases e
  obtain⟨vs,t0,e2,hz,h0⟩:=F.at
  exact xo_ok e2 hz h0 fun z=>by cases z
 ·rw[jd_ ha] at e
  refine(ok a u e).stay (fun b v hb q=>?_) (fun b q=>?_) fun b xs q=>?_
  ·have hbx:b≠x:=by
    rcases hb with rfl | hb
    ·exact ha
    ·exact ne_of hb hX (by intro z;cases z)
   rcases hb with rfl | hb
   ·exact F.1 _ _ (ht _ _ _ e hbx q)
   ·exact F.1 _ _ (ht _ _ _ hb hbx q)
  ·rw[jd_ (ne_of q hX (by intro z;cases z))];exact q
  ·rw[jd_ (ne_of q hX (by intro z;cases z))];exact q
def CXx (P:Program) (w:World):CXT:=fun outer H s E e s'=>∃(x C:Addr) (od:Option Addr) (H':Hp) (base:Heap),e=.ref x∧s'.os=s.os∧AllBare s'.gens∧Un (frs outer) [] H H' s.heap s'.heap∧HOk P w H' s'.heap ∧
 H' x=some (XO x C od false)∧Fl base outer x C od .none s'.heap∧(∀ a u o,H' a=some u→a≠x→s'.heap.get? a=some o→base.get? a=some o) ∧
 (∀ b o o',s.heap.get? b=some o'→s'.heap.get? b=some o→b∉frs outer→b≠x→base.get? b=some o)∧E (.ref x) od H'
def Thr (X:Cx) (E:XK):Prop:=∀(pins:List (Addr×Obj)) (σ:St) (H:Hp) (s:Shared) (x C:Addr) (od:Option Addr),Inv X pins σ H s→H x=some (XO x C od true)→E (.ref x) od (upd H x (XO x C od false))→X.xe (.ref x) s
section
variable {X:Cx} {pins:List (Addr×Obj)} {σ:St} {H:Hp} {s:Shared}
theorem Inv.below (I:Inv X pins σ H s) {b:Addr} {o:Obj} (e:X.s₀.heap.get? b=some o):b≠X.env.locals:=Nat.ne_of_lt (Nat.lt_of_lt_of_le (Heap.lt_size e) I.ok.above)
theorem fly_base (I:Inv X pins σ H s) {x C:Addr} {od:Option Addr} {fr:Bool} (hX:H x=some (XO x C od fr)) :
  ∃ base:Heap,base.StaysIn s.heap∧base.get? x=none∧s.heap.FunFrames base X.stack∧∀ b o,s.heap.get? b=some o→b∉frs X.stack→b≠x→base.get? b=some o:=by
 refine⟨PySem.W.hideAll s.heap (x::frs X.stack),fun b o e=>PySem.W.of_hideAll _ e,PySem.W.hideAll_none _ List.mem_cons_self,PySem.W.funFrames_hide I.stack fun env he a hf=>List.mem_cons_of_mem _ (List.mem_filterMap.mpr ⟨env,he,hf⟩),fun b o e hn hx=>PySem.W.hideAll_get _ e fun hm=>?_⟩
 rcases List.mem_cons.mp hm with z | z
 ·exact hx z
 ·exact hn z
theorem frame_data (I:Inv X pins σ H s):∀ b∈frs X.stack,∀ o,s.heap.get? b=some o→∀ vs,o.data≠.fields vs:=fun b hb o e vs=>by
 obtain⟨_,o2,e2,h2⟩:=I.stack.mem hb
 rw[e] at e2;cases e2;exact h2 vs
end
section
variable {CX:CXT} {P:Program} {w:World} {K:PySem.W.Frag} {mg:Str→Option Value} {base:Heap} {N:List Str} {qual:Str} {scope:Scope} {f:Addr} {cd:Value} {A:Around} {outer:List Env} {s:Shared} {H:Hp} {E:XK}
theorem thr_body:Thr (cxOf (CXx P w) P w K mg base N qual scope f cd A outer s H E) E:=fun pins σ H1 s1 x C od I hX hE=>by
 obtain⟨B,b1,b2,b3,b4⟩:=fly_base I hX
 obtain⟨vs,t0,e0,hz,h0,h1⟩:=xo_get I.hok hX
 refine fl_leave0 (base:=B) (outer:=outer) (L:=s.heap.objs.size) (I.ok.frames) b3 rfl b1 b2 e0 hz h0 (h1 rfl) fun h' x1 u1=>?_
 have ht:∀ a u o,H1 a=some u→a≠x→s1.heap.get? a=some o→B.get? a=some o:=fun a u o q hx e=>b4 a o e (fun z=>by rw[I.stkFree a z] at q;cases q) hx
 refine⟨x,C,od,upd H1 x (XO x C od false),B,rfl,I.os,I.bare,un_fly (fs:=frs outer) I.base (fun _ _ _ z=>z) hX (fun b o o' q e hn hx=>b4 b o e (fun z=>?_) hx) x1 u1 (fun b hb=>frame_data I b (List.mem_filterMap.mpr ?_)),hok_fly I.hok hX ht x1,jb_,x1,fun a u o q hx e=>?_,fun b o o' q e hn hx=>?_,hE⟩
 ·rcases List.mem_cons.mp (I.stkSub b z) with z | z
  ·exact I.below q z
  ·exact hn z
 ·obtain⟨env,he,hf⟩:=List.mem_filterMap.mp hb
  exact⟨env,List.mem_cons_of_mem _ he,hf⟩
 ·rw[jd_ hx] at q
  obtain⟨ob,e2⟩:=objThere (I.hok a u q)
  have e3:=ht a u ob q hx e2
  have e4:=x1.1 a ob e3
  have e5:some o=some ob:=e.symm.trans e4
  cases e5;exact e3
 ·obtain⟨o2,e2⟩:=I.base.there b o' q (by show b∉([]:List Addr);simp)
  have e3:=b4 b o2 e2 (fun z=>by
   rcases List.mem_cons.mp (I.stkSub b z) with z | z
   ·exact I.below q z
   ·exact hn z) hx
  have e4:=x1.1 b o2 e3
  have e5:some o=some o2:=e.symm.trans e4
  cases e5;exact e3
theorem pass_body {E':XK} (hEE:∀ v od H,E' v od H→E v od H):Passes (CXx P w) (cxOf (CXx P w) P w K mg base N qual scope f cd A outer s H E) E':=fun pins σ H1 s1 e s2 I h=>by
 obtain⟨x,C,od,H2,B,rfl,os,bare,U,ok,hX,F,ht,hb,hE⟩:=h
 refine fl_leave (base:=B) (outer:=outer) (L:=s.heap.objs.size) I.ok.frames rfl F fun h' x1 u1=>?_
 have noE:∀ b:Addr,b∉([]:List Addr):=fun b z=>by simp at z
 have hst:∀ b o,s.heap.get? b=some o→b∈frs (cxOf (CXx P w) P w K mg base N qual scope f cd A outer s H E).stack→b∈frs outer:=fun b o q z=>by
  rcases List.mem_cons.mp (I.stkSub b z) with z | z
  ·exact absurd z (I.below q)
  ·exact z
 have hU:Un (frs (cxOf (CXx P w) P w K mg base N qual scope f cd A outer s H E).stack) [] H H2 s.heap s2.heap :=
  (I.base.mono (fun b hb=>by obtain⟨env,he,hf⟩:=List.mem_filterMap.mp hb;exact List.mem_filterMap.mpr ⟨env,List.mem_cons_of_mem _ he,hf⟩) (fun b z=>z)).trans U
 have hnew:=un_fly (fs:=frs outer) hU hst hX (fun b o o' q e hn hx=>?_) x1 u1 (fun b hb o q=>?_)
 rw[upd_self hX] at hnew
 have hk2:=hok_fly ok hX ht x1
 rw[upd_self hX] at hk2
 refine⟨x,C,od,H2,B,rfl,os.trans I.os,bare,hnew,hk2,hX,x1,fun a u o q hx e=>?_,fun b o o' q e hn hx=>?_,hEE _ _ _ hE⟩
 ·obtain⟨ob,e2⟩:=objThere (ok a u q)
  have e3:=ht a u ob q hx e2
  have e4:=x1.1 a ob e3
  have e5:some o=some ob:=e.symm.trans e4
  cases e5;exact e3
 ·obtain⟨o2,e2⟩:=I.base.there b o' q (noE b)
  obtain⟨o3,e3⟩:=U.there b o2 e2 (noE b)
  have e4:=hb b o3 o2 e2 e3 (fun z=>hn (hst b o' q z)) hx
  have e5:=x1.1 b o3 e4
  have e6:some o=some o3:=e.symm.trans e5
  cases e6;exact e4
 ·obtain⟨o2,e2⟩:=I.base.there b o' q (noE b)
  exact hb b o o2 e2 e (fun z=>hn (hst b o' q z)) hx
 ·have hm:b∈(outer).filterMap (·.frame):=hb
  obtain⟨_,o2,e2,h2⟩:=F.2.2.1.2.2.mem hm
  rw[q] at e2;cases e2;exact h2
end
section
variable {X:Cx} {e:Expr} {te:TE} {pos:Pos} {E:XK}
def tRaise (K:PySem.W.Frag) (E:XK) (te:TE):TS:=fun _ σ H=>te σ H fun v H1=>∃(x C W:Addr) (od:Option Addr),v=.ref x∧H1 x=some (XO x C od true)∧Exc K W C∧E (.ref x) od (upd H1 x (XO x C od false))
theorem ps_raise (hc:X.calm=true) (ht:Thr X E) (he:PE X e te):PS X (.Raise (some e) none pos) (tRaise X.K E te):=by
 intro pins s σ H D I h
 refine xc_raise (I.ok.hd hc) (thn (he pins s σ H _ I h) fun u s1 ⟨v,H1,I1,r,x,C,W,od,ev,hX,M,q⟩=>?_)
 subst ev
 obtain rfl:u=Value.ref x:=r
 obtain⟨vs,t0,e0,hz,h0,h1⟩:=xo_get I1.hok hX
 obtain⟨nm,qn,N,bs,sn,sub,ab,col,dd,k0,k1,k2,k3,k5,oC⟩:=M.ob
 exact⟨x,od,vs,rfl,⟨nm,qn,C,N,bs,W,true,sn,sub,ab,col,dd,k0,k1,k2,k3,k5,I1.kIn _ _ oC,e0⟩,h1 rfl,ht pins σ H1 s1 x C od I1 hX q⟩
end
end L2
namespace L2
open PySem PySem.Spec PyProof.Rows
section
variable {X:Cx} {pins:List (Addr×Obj)} {σ:St} {H:Hp} {s:Shared}
theorem unbind_ok {M:Model} {A:Around} {E:Value→Shared→Prop} {i:Nat} {x:Str} {pos:Pos} {Q:Unit→Shared→Prop} (I:Inv X pins σ H s) (hN:X.N.Nodup) (hi:X.N[i]?=some x) (hk:X.env.scope.names.lookup x=some .local)
  (h:∀ s',Inv X pins (σ.set i none) H s'→Q () s'):wpAny M A (do bindName X.env x .none;unbindBehindTheSuite X.env x pos) Q E s:=by
 refine wpAny_bind (wpAny_bindName (store_ok (v:=.non) (u:=.none) I hN hi (.inl hk) rfl (fun s1 I1=>?_) (.inr hk)))
 have hiσ:i < σ.length:=by rw[I.len];exact(List.getElem?_eq_some_iff.mp hi).1
 obtain⟨m,hn,hl⟩:=id I1.loc
 have hcls:(X.env.scope.kind == .class || (X.env.scope.kind == .module&&X.env.locals != X.env.globals))=false:=by rw[I1.ok.kind];rfl
 have cne:=I1.cne
 obtain⟨u0,r0,q0⟩:=hl i x .non hi (by rw[List.getElem?_set_self hiσ]) (.inl hk)
 have hv:m x=some u0:=by
  rcases q0 with ⟨_,e⟩ | ⟨k,_⟩
  ·exact e
  ·have k':X.env.scope.names.lookup x=some .cell∨X.env.scope.names.lookup x=some .free:=k
   rcases k' with z | z <;> (rw[hk] at z;cases z)
 unfold unbindBehindTheSuite
 refine wpAny_onRaise (wpAny_unbindName_local hk hn hv hcls fun h' u hn' hs=>h _ ?_)
 obtain⟨oL,_,_,hoL,_⟩:=id hn
 have tracked:HOk X.prog X.w H h':=fun b ob e=>by
  refine(I1.hok b ob e).stay (fun c w' hc q=>(hs.2 c ?_).trans q) (fun _ q=>q) fun _ _ q=>q
  rintro rfl
  rcases hc with rfl | hc
  ·rw[I1.free] at e;cases e
  ·rw[I1.free] at hc;cases hc
 refine⟨I1.ok,I1.os,I1.bare,⟨fun b o e n hb hx=>?_,fun b o e n hb hx=>?_,I1.base.free,fun b o e hx=>?_,I1.base.tups,I1.base.frzs,I1.base.tbls⟩,⟨_,hn',fun j y v' e1 e2 e3=>?_⟩,fun y c e=>?_,I1.free,I1.freeC,fun p hp=>?_,tracked,by simpa using I.len⟩
 ·exact(hs.2 b (I1.below e)).trans (I1.base.keep b o e n hb hx)
 ·obtain⟨sl,e1⟩:=I1.base.slot b o e n hb hx
  exact⟨sl,(hs.2 b (I1.below e)).trans e1⟩
 ·obtain⟨o',e1⟩:=I1.base.there b o e hx
  exact⟨o',(hs.2 b (I1.below e)).trans e1⟩
 ·by_cases hj:j=i
  ·subst hj
   rw[List.getElem?_set_self hiσ] at e2
   cases e2
  ·rw[List.getElem?_set_ne (Ne.symm hj)] at e2
   obtain⟨u',r',q⟩:=hl j y v' e1 (by rw[List.getElem?_set_ne (Ne.symm hj)];exact e2) e3
   refine⟨u',r',?_⟩
   rcases q with ⟨k,e⟩ | ⟨k,c,e,z⟩
   ·refine .inl ⟨k,?_⟩
    have:y≠x:=fun e=>hj (nodup_ix hN e1 (e▸hi))
    simp[this,e]
   ·exact .inr ⟨k,c,e,z.sameBut hs (cne y c e)⟩
 ·obtain⟨w',z⟩:=I1.cell y c e
  exact⟨w',z.sameBut hs (cne y c e)⟩
 ·obtain⟨e,n,ne,nf,d⟩:=I1.pin p hp
  exact⟨(hs.2 p.1 ne).trans e,n,ne,nf,d⟩
abbrev Cx.marked (X:Cx) (x:Addr):Cx:={ X with A:=X.A.mark (some (.ref x)),calm:=false,xe:=fun _ _=>False }
theorem Inv.mark (I:Inv X pins σ H s) (x:Addr):Inv (X.marked x) pins σ H s :=
 ⟨⟨I.ok.mod,I.ok.kind,I.ok.glob,I.ok.blt,I.ok.above,I.ok.inj,I.ok.has,I.ok.cab,(fun z=>nomatch z),I.ok.frames,I.ok.stk,I.ok.exf,I.ok.bs,I.ok.bsz,I.ok.noex,I.ok.exfs,I.ok.funs,I.ok.frf⟩,I.os,I.bare,I.base,I.loc,I.cell,I.free,I.freeC,I.pin,I.hok,I.len⟩
theorem Inv.unmark (I0:X.Ok) {x:Addr} (I:Inv (X.marked x) pins σ H s):Inv X pins σ H s:=⟨I0,I.os,I.bare,I.base,I.loc,I.cell,I.free,I.freeC,I.pin,I.hok,I.len⟩
abbrev Cx.tried (X:Cx) (pn:List (Addr×Obj)) (xe:Value→Shared→Prop):Cx:={ X with pn:=pn,xe:=xe }
theorem Inv.try_ (I:Inv X pins σ H s) (xe:Value→Shared→Prop):Inv (X.tried (X.pn++pins) xe) [] σ H s :=
 ⟨⟨I.ok.mod,I.ok.kind,I.ok.glob,I.ok.blt,I.ok.above,I.ok.inj,I.ok.has,I.ok.cab,I.ok.hd,I.ok.frames,I.ok.stk,I.ok.exf,I.ok.bs,I.ok.bsz,I.ok.noex,I.ok.exfs,I.ok.funs,I.ok.frf⟩,I.os,I.bare,I.base,I.loc,I.cell,I.free,I.freeC,fun p hp=>I.pin p (by simpa using hp),I.hok,I.len⟩
theorem Inv.untry (I0:X.Ok) {xe:Value→Shared→Prop} {pins':List (Addr×Obj)} (I:Inv (X.tried (X.pn++pins) xe) pins' σ H s):Inv X pins σ H s :=
 ⟨I0,I.os,I.bare,I.base,I.loc,I.cell,I.free,I.freeC,fun p hp=>I.pin p (List.mem_append_left _ hp),I.hok,I.len⟩
end
section
variable {X:Cx} {EX:XK} {W:Addr} {Wn en:Str} {i:Nat} {body suite:List Stmt} {b0:Stmt} {tb ts:TS} {wp hpos pos:Pos}
structure ExcW (K:PySem.W.Frag) (W:Addr):Prop where
 ob:∃(nm qn:Str) (N:Addr) (bs:List Value) (hd:Bool) (sn:List Str) (sub:List Value) (ab:Bool) (col:Option Bool) (dd:Option Addr) (k0 k1 k2 k3 k5:Option Value) (nw:String),
  K.lookup W=some (excClassObj nm qn W N bs vBM hd sn sub ab col dd k0 k1 k2 k3 k5 nw)
end
end L2
namespace L2
open PySem PySem.Spec PyProof.Rows
theorem cls_get_:∀ K:PySem.W.Frag,PySem.W.specialIn K (.builtin "object.__class__") "__get__"=some (some (.builtin "getset_descriptor.__get__")):=fun K=>by kernel_rfl
theorem cls_set_:∀ K:PySem.W.Frag,PySem.W.takesIn K (.builtin "object.__class__")=some true:=fun K=>by kernel_rfl
section
variable {K:PySem.W.Frag} {x D W:Addr} {ox:Obj} {odo:Option Obj}
theorem Exc.mro (M:Exc K W D) (v:Value):PySem.W.mroIn K D v=some ((Value.ref D::.ref W::vBM).contains v):=by
 obtain⟨cd,h1,h2,_⟩:=M.cls
 unfold PySem.W.mroIn
 rw[h1,Option.bind_some,h2];rfl
theorem Exc.ty (M:Exc K W D):PySem.W.typeIn K (.ref D)=some (.type "type"):=by
 obtain⟨nm,qn,N,bs,sn,sub,ab,col,dd,k0,k1,k2,k3,k5,h⟩:=M.ob
 show (K.lookup D).map (·.cls)=_
 rw[h];rfl
theorem kitx_x (M:Exc K W D):PySem.W.KitX K (.ref x) (.ref D) (fun h=>PySem.W.InstAt h x ox D odo) where
 ty:=fun _ _ _ I=>I.type
 it:=fun _ _ X _=>by
  obtain⟨nm,qn,N,bs,sn,sub,ab,col,dd,k0,k1,k2,k3,k5,ho⟩:=M.ob
  intro A' Q' E' s' k q
  unfold isType loadHead
  exact wpAny_bind (wpAny_loadPart (k _ _ (X _ _ ho)) (wpAny_pure q))
 ne:=fun h tp dd its n sl X htp=>by
  obtain⟨nm,qn,N,bs,sn,sub,ab,col,dd,k0,k1,k2,k3,k5,ho⟩:=M.ob
  refine Bool.eq_false_iff.mpr fun q=>?_
  have e:D=tp:=Value.ref.inj (beq_iff_eq.mp q)
  subst e
  have z:=congrArg (Option.map Obj.cls) ((X _ _ ho).symm.trans htp)
  have z2:(some (Value.type "type"):Option Value)=some (Value.type "tuple"):=z
  exact absurd z2 (by decide)
 ca:=fun{prog w A E Q s} X I k=>by
  obtain⟨cd,h1,_,_⟩:=M.cls
  have hf:PySem.W.findObj K D odo "__class__"=some (.bind (.builtin "getset_descriptor.__get__") (.builtin "object.__class__")):=by
   unfold PySem.W.findObj
   rw[h1,Option.bind_some,M.cl,Option.bind_some]
   simp[cls_get_ K,cls_set_ K]
  obtain⟨nm,qn,N,bs,sn,sub,ab,col,dd,k0,k1,k2,k3,k5,oC⟩:=M.ob
  exact xg_class X I oC M.ga M.gr hf (M.mro _) k
theorem kit_self (M:Exc K W D):PySem.W.kitOne K (.ref D) (.ref D)=some true:=by unfold PySem.W.kitOne;rw[if_pos (by simp)]
theorem j7_ {C:Addr} (M:Exc K W D) (M2:Exc K W C) (h1:D≠C) (h2:C≠W):PySem.W.kitOne K (.ref D) (.ref C)=some false:=by
 have e:¬ ((Value.ref D == Value.ref C)=true):=fun z=>h1 (Value.ref.inj (beq_iff_eq.mp z))
 unfold PySem.W.kitOne
 rw[if_neg e]
 obtain⟨cd,g1,_,_⟩:=M2.cls
 show (if ((PySem.W.clsIn K C).isSome&&PySem.W.typeIn K (.ref C) == some (.type "type"))=true then PySem.W.mroIn K D (.ref C) else none)=some false
 rw[g1,M2.ty,if_pos (by simp),M.mro]
 congr 1
 have a1:(Value.ref D == Value.ref C)=false:=by simpa using h1
 have a2:(Value.ref W == Value.ref C)=false:=beq_eq_false_iff_ne.mpr fun z=>h2 (Value.ref.inj z).symm
 have a3:(Value.ref C == Value.ref D)=false:=beq_eq_false_iff_ne.mpr fun z=>h1 (Value.ref.inj z).symm
 have a4:(Value.ref C == Value.ref W)=false:=beq_eq_false_iff_ne.mpr fun z=>h2 (Value.ref.inj z)
 rw[List.contains_cons,List.contains_cons,a3,a4];rfl
theorem kit_ve (M:Exc K W D):PySem.W.kitOne K (.ref D) (.type "ValueError")=some true:=by
 unfold PySem.W.kitOne
 rw[if_neg (by simp)]
 show (if PySem.W.kitMeta "ValueError"=true then PySem.W.mroIn K D (.type "ValueError") else none)=some true
 rw[if_pos (by decide +kernel),M.mro]
 congr 1
end
def fIsiX (K:PySem.W.Frag):List V→Hp→VK→Prop:=fun xs H Q=>∃(e C W:Addr) (od:Option Addr) (fr:Bool) (c:V) (cv:Value) (b:Bool),xs=[.ref e,c]∧H e=some (XO e C od fr)∧(∀ d,od=some d→∃ fs,H d=some (.xd fs))∧Exc K W C∧(∀ u,RelV c u→u=cv) ∧
 PySem.W.kitOne K (.ref C) cv=some b∧Q (.bl b) H
theorem c_isiX {X:Cx} {K:PySem.W.Frag} (hK:X.K=K:=by rfl):CallR X (.builtin "isinstance") (fIsiX K):=by
 subst hK
 rintro pins s σ H xs us Q I rs ⟨e,C,W,od,fr,c,cv,b,rfl,hX,hd,M,rc,hk,q⟩
 cases rs with
 | cons r1 rs =>
  cases rs with
  | cons r2 rs =>
   cases rs
   cases (show _=Value.ref e from r1)
   cases rc _ r2
   obtain⟨vs,t0,he,hz,h0,h1⟩:=xo_get I.hok hX
   have J:∃ odo,PySem.W.InstAt s.heap e ⟨.ref C,od,.fields vs,#[]⟩ C odo:=by
    cases od with
    | none=>exact⟨none,he,rfl,rfl,True.intro⟩
    | some d =>
     obtain⟨fs,hf⟩:=hd d rfl
     obtain⟨ob,ho⟩:=objThere (I.hok d _ hf)
     exact⟨some ob,he,rfl,rfl,ho⟩
   obtain⟨odo,J⟩:=J
   exact PySem.W.kia_one (kitx_x M) I.kIn J hk (fun z=>nomatch z) fun tk=>⟨.bl b,H,I.tok _,rfl,q⟩
structure DnX (P:Program) (w:World) (K:PySem.W.Frag) (mg:Str→Option Value) (base:Heap) (x:Str) (k:Nat) (ps:List Str) (sp:Sp):Prop where
 ex:∃(f:Addr) (fd:FuncData),mg x=some (.ref f)∧PySem.W.keepIn K (.ref f)=true∧Binds K fd ps []∧FnOk P w K mg base (CXx P w) k f fd ps sp
theorem pe_callX {X:Cx} {x:Str} {k:Nat} {ps:List Str} {sp:Sp} {e:Expr} {es:List Expr} {t:TA} {p pos:Pos} {E:XK} (D:DnX X.prog X.w X.K X.mg X.base x k ps sp) (hr:Room k X.A) (hg:Gl X x) (hx:Passes (CXx X.prog X.w) X E) (ha:PA X (e::es) t)
  (hdb:(x == ("__debug__":Str))=false:=by decide) (he:starEach (e::es) X.env=(false,eval e X.env)::starEach es X.env:=by rfl) (hpl:(backTo pos (starEach es X.env)).any (·.1)=false:=by rfl):PE X (.Call (.Name x p) (e::es) [] pos) (tCall sp [] E t):=by
 obtain⟨f,fd,hm,hk,hb,F⟩:=D.ex
 exact pe_call F hr hg hm hk hb .nil hx ha hdb he hpl
theorem Fun.okX {P:Program} {w:World} {K:PySem.W.Frag} {mg:Str→Option Value} {base:Heap} {x qual:Str} {st:Stmt} {f:Addr} {fd:FuncData} {N ps:List Str} {k:Nat} {sp:Sp} (F:Fun K x qual st f fd) (S:FnScope N ps (jf_ st)) (len:∀ vs H Q E,sp vs H Q E→vs.length=ps.length)
  (hbody:∀(cdv:Value) (A:Around) (outer:List Env) (s:Shared) (H:Hp) (vs:List V) (Q:VK) (E:XK),Room k (A.deeper (envOfC qual (jf_ st) s.heap.objs.size f cdv))→sp vs H Q E →
   ∃ t,PSs (cxOf (CXx P w) P w K mg base N qual (jf_ st) f cdv A outer s H E) (jl_ st) t∧t { nx:=fun _ H'=>Q .non H',rt:=Q } (jz_ N vs) H):FnOk P w K mg base (CXx P w) (k+1) f fd ps sp:=by
 obtain⟨oc,od,kV,doc,pm,an,cdv,ct,osl,rfl,lk,hcd⟩:=F.ex
 exact fn_of lk hcd S len fun A outer s H vs Q E hr hsp=>hbody cdv A outer s H vs Q E hr hsp
end L2
namespace L2
open PySem PySem.Spec PyProof.Rows
structure Ini (P:Program) (w:World) (K:PySem.W.Frag) (mg:Str→Option Value) (base:Heap) (C:Addr) (k:Nat) (ps:List Str) (sp:Sp):Prop where
 ex:∃(f:Addr) (fd:FuncData),PySem.W.findIn K (.ref C) "__init__"=some (some (.ref f))∧PySem.W.isFn K (.ref f)=true∧Binds K fd ps []∧FnOk P w K mg base CX0 k f fd ps sp
theorem pe_makeI {X:Cx} {W C:Addr} {ps:List Str} {sp:Sp} {k:Nat} {x:Str} {p pos:Pos} {e:Expr} {es:List Expr} {t:TA} (M:Exc X.K W C) (D:Ini X.prog X.w X.K X.mg X.base C k ps sp) (hr:Room (k+1) X.A) (hg:Gl X x) (hm:X.mg x=some (.ref C))
  (ha:PA X (e::es) t) (hdb:(x == ("__debug__":Str))=false:=by decide) (he:starEach (e::es) X.env=(false,eval e X.env)::starEach es X.env:=by rfl) (hpl:(backTo pos (starEach es X.env)).any (·.1)=false:=by rfl) :
  PE X (.Call (.Name x p) (e::es) [] pos) (tMakeX C sp E0 t):=by
 obtain⟨f,fd,hi,hf,hb,F⟩:=D.ex
 exact pe_makeX M hi hf F hr hg hm hb pass0 ha hdb he hpl
def okTx (y:V):Prop:=(∃ i:Int,y=.int i∧i.natAbs.log2 < 1920)∨∃ z:Str,y=.str z∧z.length≤1000
def okTs (y:V):Prop:=∃ z:Str,y=.str z∧(reprText z).length≤1000
def spIni (ok:V→Prop) (C:Addr) (f:Str):Sp:=fun vs H Q _=>∃(e:Addr) (y:V) (fr:Bool),vs=[.ref e,y]∧H e=some (XO e C none fr)∧ok y∧∀ d,H d=none→d≠e→Q .non (upd (upd H d (.xd [(f,y)])) e (XO e C (some d) fr))
section
variable {σ:St} {H:Hp} {Q:VK} {K:PySem.W.Frag} {W:Addr} {t:TA} {i:Nat} {y:V} {a b:Str}
theorem i_initX (h:t σ H fun vs H1=>∃(e C:Addr) (od:Option Addr) (fr:Bool) (y:V),vs=[.ref e,y]∧H1 e=some (XO e C od fr)∧Exc K W C∧Q .non H1):tInitX K W t σ H Q:=h
theorem i_fv {R:VK} (hy:okTx y) (e:σ[i]?=some (some y)) (h:∀ z:Str,z.length≤2000→R (.str z) H):tFv (tVar i) σ H R:=by
 refine⟨y,e,?_⟩
 rcases hy with ⟨j,rfl,hj⟩ | ⟨z,rfl,hz⟩
 ·exact .inl ⟨j,rfl,hj,h⟩
 ·exact .inr ⟨z,rfl,Nat.le_trans hz (by decide),h z (Nat.le_trans hz (by decide))⟩
theorem i_fs3 (ha:a.length≤1000) (hb:b.length≤1000) (hy:okTx y) (e:σ[i]?=some (some y)) (h:∀ z,Q (.str z) H):tFs (jCons (tC (.str a)) (jCons (tFv (tVar i)) (jCons (tC (.str b)) jNil))) σ H Q:=by
 refine⟨a,rfl,by omega,i_fv hy e fun z hz=>⟨z,rfl,by omega,⟨b,rfl,by omega,by omega,h⟩⟩⟩
theorem i_fs2r (ha:a.length≤1000) (hy:okTs y) (e:σ[i]?=some (some y)) (h:∀ z,Q (.str z) H):tFs (jCons (tC (.str a)) (jCons (tFr (tVar i)) jNil)) σ H Q:=by
 obtain⟨z,rfl,hz⟩:=hy
 exact⟨a,rfl,by omega,.str z,e,z,rfl,hz,reprText z,rfl,by omega,by omega,h⟩
end
theorem i_makeX {σ:St} {H:Hp} {Q:VK} {C:Addr} {sp:Sp} {E:XK} {t:TA} (h:t σ H fun vs H1=>vs.length≤sizeLine∧∀ x,H1 x=none→sp (.ref x::vs) (upd H1 x (XO x C none true)) (fun v H2=>v=.non∧Q (.ref x) H2) E):tMakeX C sp E t σ H Q:=h
theorem i_fldX {σ:St} {H:Hp} {Q:VK} {K:PySem.W.Frag} {ta:TE} {f:Str} (h:ta σ H fun x H1=>∃(a C W d:Addr) (fr:Bool) (fs:List (Str×V)) (v:V),x=.ref a∧H1 a=some (XO a C (some d) fr)∧H1 d=some (.xd fs)∧Exc K W C∧NoAttr K C f∧fs.lookup f=some v∧Q v H1):tFldX K ta f σ H Q:=h
theorem i_isiX {H:Hp} {Q:VK} {K:PySem.W.Frag} {e C W:Addr} {od:Option Addr} {fr:Bool} {c:V} {cv:Value} {b:Bool} (h1:H e=some (XO e C od fr)) (h2:∀ d,od=some d→∃ fs,H d=some (.xd fs)) (M:Exc K W C) (h3:∀ u,RelV c u→u=cv)
  (h4:PySem.W.kitOne K (.ref C) cv=some b) (q:Q (.bl b) H):fIsiX K [.ref e,c] H Q:=⟨e,C,W,od,fr,c,cv,b,rfl,h1,h2,M,h3,h4,q⟩
theorem i_raise {σ:St} {H:Hp} {D:Ends} {K:PySem.W.Frag} {E:XK} {te:TE} (h:te σ H fun v H1=>∃(x C W:Addr) (od:Option Addr),v=.ref x∧H1 x=some (XO x C od true)∧Exc K W C∧E (.ref x) od (upd H1 x (XO x C od false))):tRaise K E te D σ H:=h
theorem mk_ini {H:Hp} {R:Addr→Hp→Prop} {C:Addr} {f:Str} {ok:V→Prop} {y:V} {E:XK} (hy:ok y) (h:∀ x d,H x=none→H d=none→d≠x→R x (upd (upd H d (.xd [(f,y)])) x (XO x C (some d) true))) :
  ∀ x,H x=none→spIni ok C f [.ref x,y] (upd H x (XO x C none true)) (fun v H2=>v=.non∧R x H2) E:=by
 refine fun x hx=>⟨x,y,true,rfl,jb_,hy,fun d hd hde=>⟨rfl,?_⟩⟩
 rw[jd_ hde] at hd
 have:=h x d hx hd hde
 rw[upd_comm (Ne.symm hde),upd_upd]
 exact this
end L2
namespace L2
open PySem PySem.Spec PyProof.Rows
structure DkX (P:Program) (w:World) (K:PySem.W.Frag) (mg:Str→Option Value) (base:Heap) (C:Addr) (k:Nat) (ps:List Str) (sp:Sp):Prop where
 ex:∃(f:Addr) (fd:FuncData),Mk K C f∧Binds K fd ps []∧FnOk P w K mg base (CXx P w) k f fd ps sp
section
variable {X:Cx} {k:Nat} {C:Addr} {ps:List Str} {sp:Sp} {x:Str} {p pos:Pos} {e:Expr} {es:List Expr} {t:TA} {E:XK}
end
def fIsiXT (K:PySem.W.Frag):List V→Hp→VK→Prop:=fun xs H Q=>∃(e p C W:Addr) (od:Option Addr) (fr:Bool) (cs:List Addr),xs=[.ref e,.ref p]∧H p=some (.tup (cs.map V.ref))∧H e=some (XO e C od fr)∧(∀ d,od=some d→∃ fs,H d=some (.xd fs))∧Exc K W C ∧
 (∀ c∈cs,PySem.W.kitOne K (.ref C) (.ref c)=some false)∧Q (.bl false) H
theorem kit_none {K:PySem.W.Frag} {t:Value}:∀{cs:List Addr} {us:List Value},Vals (cs.map V.ref) us→(∀ c∈cs,PySem.W.kitOne K t (.ref c)=some false)→PySem.W.kitAny K t us=some false
 | [],_,.nil,_=>rfl
 | c::cs,_,.cons r rs,h=>by
  cases (show _=Value.ref c from r)
  unfold PySem.W.kitAny
  rw[h c List.mem_cons_self]
  exact kit_none rs fun d hd=>h d (List.mem_cons_of_mem _ hd)
theorem c_isiXT {X:Cx} {K:PySem.W.Frag} (hK:X.K=K:=by rfl):CallR X (.builtin "isinstance") (fIsiXT K):=by
 subst hK
 rintro pins s σ H xs us Q I rs ⟨e,p,C,W,od,fr,cs,rfl,hp,hX,hd,M,hk,q⟩
 cases rs with
 | cons r1 rs =>
  cases rs with
  | cons r2 rs =>
   cases rs
   cases (show _=Value.ref e from r1)
   cases (show _=Value.ref p from r2)
   obtain⟨vs,t0,he,hz,h0,h1⟩:=xo_get I.hok hX
   have J:∃ odo,PySem.W.InstAt s.heap e ⟨.ref C,od,.fields vs,#[]⟩ C odo:=by
    cases od with
    | none=>exact⟨none,he,rfl,rfl,True.intro⟩
    | some d =>
     obtain⟨fs,hf⟩:=hd d rfl
     obtain⟨ob,ho⟩:=objThere (I.hok d _ hf)
     exact⟨some ob,he,rfl,rfl,ho⟩
   obtain⟨odo,J⟩:=J
   obtain⟨its,rv,pl,hz⟩:=I.tuple (SqT.of hp)
   obtain⟨⟨cls,dd,data,sl⟩,ho,hc,n,hd'⟩:=id pl
   simp only at hc hd'
   subst hc hd'
   exact PySem.W.kia_tup (kitx_x M) I.kIn J ho (kit_none rv hk) (fun z=>nomatch z) fun tk=>⟨.bl false,H,I.tok _,rfl,q⟩
theorem i_isiXT {H:Hp} {Q:VK} {K:PySem.W.Frag} {e p C W:Addr} {od:Option Addr} {fr:Bool} {cs:List Addr} (h0:H p=some (.tup (cs.map V.ref))) (h1:H e=some (XO e C od fr)) (h2:∀ d,od=some d→∃ fs,H d=some (.xd fs)) (M:Exc K W C)
  (h3:∀ c∈cs,PySem.W.kitOne K (.ref C) (.ref c)=some false) (h:Q (.bl false) H):fIsiXT K [.ref e,.ref p] H Q:=⟨e,p,C,W,od,fr,cs,rfl,h0,h1,h2,M,h3,h⟩
end L2
namespace L2
open PySem PySem.Spec PyProof.Rows
def PassesAt (σ:St) (CX:CXT) (X:Cx) (E:XK):Prop:=∀(pins:List (Addr×Obj)) (H:Hp) (s:Shared) (e:Value) (s':Shared),Inv X pins σ H s→CX X.stack H s E e s'→X.xe e s'
def PEat (X:Cx) (σ:St) (e:Expr) (t:TE):Prop :=
 ∀(pins:List (Addr×Obj)) (s:Shared) (H:Hp) (Q:VK),Inv X pins σ H s→t σ H Q→wpAny (model X.prog X.w) X.A (eval e X.env) (EP X pins σ Q) X.xe s
def PSat (X:Cx) (σ:St) (st:Stmt) (t:TS):Prop :=
 ∀(pins:List (Addr×Obj)) (s:Shared) (H:Hp) (D:Ends),Inv X pins σ H s→t D σ H→wpAny (model X.prog X.w) X.A (exec st X.env) (SP X pins D) X.xe s
section
variable {X:Cx} {σ:St} {CX:CXT} {k:Nat} {f C:Addr} {fd:FuncData} {ps:List Str} {sp:Sp} {dvs:List V} {ds:List Value} {E:XK} {x m:Str} {p pos apos:Pos} {e o:Expr} {es:List Expr} {ta te:TE} {t:TA}
theorem run_fnAt {pins:List (Addr×Obj)} {H:Hp} {s:Shared} {Q:VK} {us:List Value} {vs:List V} (F:FnOk X.prog X.w X.K X.mg X.base CX k f fd ps sp) (hr:Room k X.A) (hb:Binds X.K fd ps ds) (hd:Vals dvs ds) (hx:PassesAt σ CX X E)
  (I:Inv X pins σ H s) (r:Vals vs us) (h:sp (vs++dvs) H Q E):wpAny (model X.prog X.w) X.A (call (.ref f) us) (EP X pins σ Q) X.xe s:=by
 have r2:Vals (vs++dvs) (us++ds):=r.append hd
 have hl:(us++ds).length=ps.length:=by rw[← r2.length];exact F.len _ _ _ _ h
 refine wpAny_call (codeAny_mono (F.run X.A X.stack s H ⟨us,[]⟩ (us++ds) (vs++dvs) Q E hr I.env0 (hb s us I.kIn hl) r2 h) fun r s' hq=>?_)
 cases r with
 | error e=>exact hx pins H s e s' I hq
 | ok fl =>
  cases fl with
  | ret u=>exact I.after hq
  | next=>exact False.elim hq
  | brk=>exact False.elim hq
  | cont=>exact False.elim hq
theorem pa_callX (D:DnX X.prog X.w X.K X.mg X.base x k ps sp) (hr:Room k X.A) (hg:Gl X x) (hx:PassesAt σ (CXx X.prog X.w) X E) (ha:PA X (e::es) t)
  (hdb:(x == ("__debug__":Str))=false:=by decide) (he:starEach (e::es) X.env=(false,eval e X.env)::starEach es X.env:=by rfl) (hpl:(backTo pos (starEach es X.env)).any (·.1)=false:=by rfl) :
  PEat X σ (.Call (.Name x p) (e::es) [] pos) (tCall sp [] E t):=by
 obtain⟨f,fd,hm,hk,h2,h3⟩:=D.ex
 intro pins s H Q I h
 refine wpAny_Call_Name_kw (ld_glob I hg hm ?_ hdb)
 refine PySem.W.callWith_K (h₀:=X.base) I.ok.mod.kin hk (thn (ha pos pins s σ H _ I h) fun us s1 ⟨vs,H1,I1,r,q⟩=>⟨I1.kIn,?_⟩) he hpl
 exact run_fnAt h3 hr h2 .nil hx I1 r q
theorem psat_expr (he:PEat X σ e te) (hs:swapsWith e none pos.line X.env=pure false:=by rfl):PSat X σ (.Expr e pos) (tDrop te):=by
 intro pins s H D I h
 exact wpAny_Expr_any (thn (he pins s H _ I h) fun v s1 ⟨x,H1,I1,r1,q1⟩=>⟨σ,H1,I1,q1⟩) I.quiet hs
theorem psat_if {c:Expr} {a b:Stmt} {tc:TT} {t1 u1:TS} (hc:PT X c tc) (ha:PSat X σ a t1) (hb:PSat X σ b u1):PSat X σ (.If c [a] [b] pos) (tIfS tc t1 u1):=by
 intro pins s H D I h
 have one:∀{st:Stmt} {t1:TS} {s1:Shared} {H1:Hp},PSat X σ st t1→Inv X pins σ H1 s1→t1 D σ H1→wpAny (model X.prog X.w) X.A (execs [st] X.env) (SP X pins D) X.xe s1:=fun h1 I1 q1=>by
  refine wpAny_execs_cons (thn (h1 pins _ _ D I1 q1) fun f s1 q=>?_)
  cases f with
  | next=>exact wpAny_execs_nil q
  | ret v=>exact q
  | brk=>exact q
  | cont=>exact q
 refine wpAny_If (thn (hc pins s σ H _ I h) fun d s1 ⟨H1,I1,q1⟩=>?_)
 cases d with
 | true=>exact one ha I1 q1
 | false=>exact one hb I1 q1
end
section
variable {X:Cx} {EX:St→XK} {W:Addr} {Wn en:Str} {i:Nat} {st:Stmt} {body suite:List Stmt} {b0:Stmt} {t0:St→TS} {tb ts:TS} {wp hpos pos:Pos}
def tTryK (EX:St→XK) (i:Nat) (t0:St→TS) (tb ts:TS):TS:=fun D σ H=>t0 σ { D with nx:=tb D } σ H∧∀(x:Addr) (od:Option Addr) (H':Hp),EX σ (.ref x) od H'→ts { nx:=fun σ2 H2=>D.nx (σ2.set i none) H2,rt:=D.rt } (σ.set i (some (.ref x))) H'
theorem i_tryK {σ:St} {H:Hp} {D:Ends} (h1:t0 σ { D with nx:=tb D } σ H) (h2:∀(x:Addr) (od:Option Addr) (H':Hp),EX σ (.ref x) od H'→ts { nx:=fun σ2 H2=>D.nx (σ2.set i none) H2,rt:=D.rt } (σ.set i (some (.ref x))) H'):tTryK EX i t0 tb ts D σ H:=⟨h1,h2⟩
theorem ps_tryK (hst:X.stack=X.env::X.outer) (hL:X.env.frame=some X.env.locals) (hN:X.N.Nodup) (hi:X.N[i]?=some en) (hk:X.env.scope.names.lookup en=some .local) (hg:Gl X Wn) (hm:X.mg Wn=some (.ref W)) (MW:ExcW X.K W)
  (hE:∀ σ x od H',EX σ (.ref x) od H'→∃ C,H' x=some (XO x C od false)∧Exc X.K W C)
  (hb1:∀ pn xe σ,PassesAt σ (CXx X.prog X.w) (X.tried pn xe) (EX σ)→PSat (X.tried pn xe) σ st (t0 σ)) (hb2:∀ pn xe,PSs (X.tried pn xe) body tb) (hs:∀ x,PSs (X.marked x) (b0::suite) ts) (hdb:(Wn == ("__debug__":Str))=false:=by decide) :
  PS X (.Try (st::body) [.ExceptHandler (some (.Name Wn wp)) (some en) (b0::suite) hpos] [] [] pos) (tTryK EX i t0 tb ts):=by
 intro pins s σ H D I ⟨q1,q2⟩
 have hbody:wpAny (model X.prog X.w) X.A (execs (st::body) X.env) (SP (X.tried (X.pn++pins) (fun e s1=>∃ H' s',Inv X pins σ H' s'∧CXx X.prog X.w X.stack H' s' (EX σ) e s1)) [] D) (fun e s1=>∃ H' s',Inv X pins σ H' s'∧CXx X.prog X.w X.stack H' s' (EX σ) e s1) s:=by
  refine wpAny_execs_cons (thn (hb1 (X.pn++pins) (fun e s1=>∃ H' s',Inv X pins σ H' s'∧CXx X.prog X.w X.stack H' s' (EX σ) e s1) σ (fun pins' H' s' e s1 I' z=>⟨H',s',Inv.untry I.ok I',z⟩) [] s H { D with nx:=tb D } (I.try_ _) q1) fun f s1 q=>?_)
  cases f with
  | next =>
   obtain⟨σ',H',I',q⟩:=q
   exact hb2 _ _ [] s1 σ' H' D I' q
  | ret v=>exact q
  | brk=>exact q
  | cont=>exact q
 refine wpAny_Try_except (wpAny_mono hbody (fun f s1 z=>?_) fun e s1 z=>?_)
 ·cases f with
  | next =>
   obtain⟨σ',H',I',q⟩:=z
   exact wpAny_execs_nil ⟨σ',H',Inv.untry I.ok I',q⟩
  | brk=>obtain⟨σ',H',I',q⟩:=z;exact⟨σ',H',Inv.untry I.ok I',q⟩
  | cont=>obtain⟨σ',H',I',q⟩:=z;exact⟨σ',H',Inv.untry I.ok I',q⟩
  | ret u=>obtain⟨v,σ',H',I',r,q⟩:=z;exact⟨v,σ',H',Inv.untry I.ok I',r,q⟩
 ·obtain⟨H1,s',I1,x,C,od,H2,B,rfl,os,bare,U,ok,hX,F,ht,hbb,hE2⟩:=z
  have F':=F
  rw[hst] at F
  obtain⟨C',hX',ME⟩:=hE _ _ _ _ hE2
  obtain⟨_,_,z1,_⟩:=xo_get ok hX
  obtain⟨_,_,z2,_⟩:=xo_get ok hX'
  have zC:C=C':=by
   rw[z1] at z2
   have:=congrArg (Option.map Obj.cls) z2
   exact Value.ref.inj (Option.some.inj this)
  subst zC
  obtain⟨nm,qn,N,bs,sn,sub,ab,col,dd,k0,k1,k2,k3,k5,oC⟩:=ME.ob
  obtain⟨nm2,qn2,N2,bs2,hd2,sn2,sub2,ab2,col2,dd2,j0,j1,j2,j3,j5,nw2,oW⟩:=MW.ob
  have fd:∀ b∈frs X.stack,∀ o,s1.heap.get? b=some o→∀ vs,o.data≠.fields vs:=fun b hb o q=>by
   obtain⟨_,o2,e2,h2⟩:=F'.2.2.1.mem hb
   rw[q] at e2;cases e2;exact h2
  have inv:∀ h3 t3 l3 fl,Fl B l3 x C od fl h3→s1.heap.UpToSlots h3→Inv X pins σ H2 { s1 with heap:=h3,toks:=t3 }:=fun h3 t3 l3 fl x3 u3=>by
   have hU:=un_fly (fs:=frs X.stack) U (fun _ _ _ z=>z) hX (fun b o o' q e hn hx=>hbb b o o' q e hn hx) x3 u3 fd
   have hK:=hok_fly ok hX ht x3
   rw[upd_self hX] at hU hK
   exact I1.call' (s':={ s1 with heap:=h3,toks:=t3 }) os hU hK bare (fun b z=>absurd z (by simp))
  refine fl_note (by rw[← hst];exact I.ok.frames) hL F fun h2 x2 u2=>?_
  refine fl_free (s:={ s1 with heap:=h2 }) x2 fun h3 x3 u3=>?_
  have I3:=inv h3 s1.toks _ _ x3 (u2.trans u3)
  refine wpAny_handleBy_cons (codeAny_handlers_test ?_) (by intro q;cases q)
  refine ld_glob (X:=X.marked x) (I3.mark x) hg hm ?_ hdb
  obtain⟨vs3,t03,e3,_⟩:=x3.at
  have kI:=I3.kIn
  obtain⟨sh,sg,sd,st,so⟩:=s1
  refine xc_matches (kI _ _ oC) (kI _ _ oW) e3 rfl ?_
  refine codeAny_handlers_suite_as ?_
  refine fl_free (s:=⟨h3,sg,sd,st,so⟩) x3 fun h5 x5 u5=>?_
  have I5:=inv h5 st _ _ x5 ((u2.trans u3).trans u5)
  refine store_ok (X:=X.marked x) (v:=.ref x) (I5.mark x) hN hi (.inl hk) rfl (fun s6 I6=>?_) (.inr hk)
  refine wpAny_mono (hs x pins s6 _ H2 _ I6 (q2 x od H2 hE2)) (fun f s7 z=>?_) fun _ _ z=>z.elim
  cases f with
  | next =>
   obtain⟨σ7,H7,I7,q7⟩:=z
   exact unbind_ok (Inv.unmark I.ok I7) hN hi hk fun s8 I8=>⟨_,H7,I8,q7⟩
  | brk=>obtain⟨_,_,_,z⟩:=z;exact z.elim
  | cont=>obtain⟨_,_,_,z⟩:=z;exact z.elim
  | ret u =>
   obtain⟨v,σ7,H7,I7,r7,q7⟩:=z
   exact unbind_ok (Inv.unmark I.ok I7) hN hi hk fun s8 I8=>⟨v,_,H7,I8,r7,q7⟩
end
end L2
namespace L2
open PySem PySem.Spec PyProof.Rows
structure DmX (P:Program) (w:World) (K:PySem.W.Frag) (mg:Str→Option Value) (base:Heap) (C:Addr) (m:Str) (k:Nat) (ps:List Str) (sp:Sp):Prop where
 ex:∃(f:Addr) (fd:FuncData),Meth K C m f∧Binds K fd ps []∧FnOk P w K mg base (CXx P w) k f fd ps sp
section
variable {X:Cx} {k:Nat} {C:Addr} {ps:List Str} {sp:Sp} {x m:Str} {p pos apos:Pos} {e o:Expr} {es:List Expr} {ta:TE} {t:TA} {E:XK}
theorem pe_methDX {pl:Sem Bool} (he:PE X o ta) (c:Cls X.K C) (D:DmX X.prog X.w X.K X.mg X.base C m k ps sp) (hr:Room k X.A) (hx:Passes (CXx X.prog X.w) X E) (ha:PA X (e::es) t)
  (hst:starEach (e::es) X.env=(false,eval e X.env)::starEach es X.env:=by rfl) (hpl:(backTo pos (starEach es X.env)).any (·.1)=false:=by rfl)
  (ht:eval (.Call (.Attribute o m apos) (e::es) [] pos) X.env=(do
   let ov ← eval o X.env
   standAt apos.atName
   let (f,first) ← holding [ov] (getMethod ov m pl)
   callWith pos f first (backTo pos (starEach (e::es) X.env)) (backToKw pos (keywordEach [] X.env))):=by rfl) :
  PE X (.Call (.Attribute o m apos) (e::es) [] pos) (tMeth C m sp [] E ta t):=by
 obtain⟨f,fd,h1,h2,h3⟩:=D.ex
 exact pe_meth he c h1 h3 hr h2 .nil hx ha hst hpl ht
theorem pe_makeD0 (D:Dk X.prog X.w X.K X.mg X.base C k ps sp) (hr:Room (k+1) X.A) (hg:Gl X x) (hm:X.mg x=some (.ref C))
  (hdb:(x == ("__debug__":Str))=false:=by decide):PE X (.Call (.Name x p) [] [] pos) (tMake C sp [] E0 tNil):=by
 obtain⟨f,fd,h1,h2,h3⟩:=D.ex
 exact pe_make0 h1 h3 hr hg hm h2 .nil pass0 hdb
end
end L2
namespace L2
open PySem PySem.Spec PyProof.Rows
abbrev dKw (d:Value):List (Str×Value):=[(Str.ofString "default",d)]
theorem args_maxD (a d:Value):argsOk "max" ⟨[a],dKw d⟩:=by unfold argsOk;kernel_rfl
section
variable {prog:Program} {w:World} {Z:Around} {R:Result→Shared→Prop} {J:Addr} {fp wr:List Addr} {n:Nat} {P:Nat→Value→Prop} {St:Nat→Heap→Prop}
theorem maxD_on (W:Walks prog w Z.in1 J fp wr n P St) (bt:Nat→Nat→Bool) (hc:CmpOf prog w Z.in1 .Gt P bt) (B:Addr) (hB:B∉fp) (d:Value) :
  ∀(k j:Nat) (t:Shared) (u:Value) (z:Nat),n - (j+1)=k→j+1≤n→St (j+1) t.heap→P (argBest bt j) u →
  t.heap.get? B=some { cls:=.type "list",dict:=none,data:=.seq #[u,u] z,slots:=#[] } →
  (∀ v g tk,P (argBest bt (n - 1)) v→(∀ b o,b∉wr→b≠B→t.heap.get? b=some o→g.get? b=some o)→R (.ok (.ret v)) { t with heap:=g,toks:=tk }) →
  codeAny (model prog w) Z (.builtin "max.loop" ⟨[.ref J,.none,.ref B],dKw d⟩) R t:=by
 have hBw:B∉wr:=fun h=>hB (W.sub _ h)
 have nm:(toString "max"++toString ".loop":String)="max.loop":=by decide
 intro k
 induction k with
 | zero =>
  intro j t u z hk hj hst hP hb hR
  have hin:j+1=n:=by omega
  refine codeAny_builtin PySem.F.entry_max_loop ?_
  rw[Around.under_plainId PySem.F.plain_max_loop _]
  show wpAny _ Z.in1 (seqItems? (.ref B) >>= _) _ _ t
  refine wpAny_bind (wpAny_seqItems hb rfl ?_)
  show wpAny _ Z.in1 (tryCatch (pyNext (.ref J)) _ >>= _) _ _ t
  refine wpAny_bind (wpAny_tryCatch (W.done t _ _ (hin▸hst) fun g tk kk=>?_))
  have hb':=kk B _ hBw hb
  show wpAny _ Z.in1 (updateSeq B (fun _=>#[]) >>= _) _ _ _
  exact wpAny_bind (wpAny_updateSeq hb' rfl (wpAny_bind (wpAny_letGo (wpAny_pure (hR u _ tk (by rw[← hin];exact hP) fun b o h1 h2 e=>(Heap.get?_update_other _ _ (Ne.symm h2)).trans (kk b o h1 e))))))
 | succ k ih =>
  intro j t u z hk hj hst hP hb hR
  have hlt:j+1 < n:=by omega
  refine codeAny_builtin PySem.F.entry_max_loop ?_
  rw[Around.under_plainId PySem.F.plain_max_loop _]
  show wpAny _ Z.in1 (seqItems? (.ref B) >>= _) _ _ t
  refine wpAny_bind (wpAny_seqItems hb rfl ?_)
  show wpAny _ Z.in1 (tryCatch (pyNext (.ref J)) _ >>= _) _ _ t
  refine wpAny_bind (wpAny_tryCatch (W.item (j+1) t _ _ hlt hst fun v g tk hv hst' kk=>?_))
  have hb':=kk B _ hBw hb
  show wpAny _ Z.in1 (tryCatch (holding [v,v] (richCompare .Gt v u >>= _)) _ >>= _) _ _ _
  refine wpAny_bind (wpAny_tryCatch (wpAny_holding (wpAny_bind (hc (j+1) (argBest bt j) v u _ _ _ hv hP ?more))))
  refine wpAny_bind (wpAny_holding (wpAny_truthy_bool (wpAny_bind (wpAny_letGo (wpAny_pure ?_)))))
  cases e:bt (j+1) (argBest bt j) with
  | true =>
   simp only[if_true]
   refine wpAny_bind (wpAny_updateSeq hb' rfl (wpAny_bind (wpAny_letGo ?_)))
   rw[nm]
   refine wpAny_pure ⟨plainId_quiet PySem.F.plain_max_loop _,ih (j+1) _ v _ (by omega) hlt (W.frame _ _ _ hst' fun b h1 o h2=>?_) (by simp only[argBest,e,if_true];exact hv) (Heap.get?_update_self _ hb' rfl) fun v' g' tk' h1 h2=>?_⟩
   ·exact(Heap.get?_update_other _ _ (fun h:B=b=>hB (by rw[h];exact h1))).trans h2
   ·exact hR v' g' tk' h1 fun b o h3 h4 h5=>h2 b o h3 h4 ((Heap.get?_update_other _ _ (Ne.symm h4)).trans (kk b o h3 h5))
  | false =>
   simp only[Bool.false_eq_true,if_false]
   refine wpAny_bind (wpAny_letGo ?_)
   rw[nm]
   exact wpAny_pure ⟨plainId_quiet PySem.F.plain_max_loop _,ih (j+1) _ u z (by omega) hlt hst' (by simp only[argBest,e,Bool.false_eq_true,if_false];exact hP) hb' fun v' g' tk' h1 h2=>hR v' g' tk' h1 fun b o h3 h4 h5=>h2 b o h3 h4 (kk b o h3 h5)⟩
theorem maxD_first (W:Walks prog w Z.in1 J fp wr n P St) (bt:Nat→Nat→Bool) (hc:CmpOf prog w Z.in1 .Gt P bt) (B:Addr) (hB:B∉fp) (d:Value) {t:Shared} {z:Nat} (hst:St 0 t.heap)
  (hb:t.heap.get? B=some { cls:=.type "list",dict:=none,data:=.seq #[] z,slots:=#[] })
  (h0:n=0→∀ g tk,(∀ b o,b∉wr→b≠B→t.heap.get? b=some o→g.get? b=some o)→R (.ok (.ret d)) { t with heap:=g,toks:=tk })
  (hR:0 < n→∀ v g tk,P (argBest bt (n - 1)) v→(∀ b o,b∉wr→b≠B→t.heap.get? b=some o→g.get? b=some o)→R (.ok (.ret v)) { t with heap:=g,toks:=tk }) :
  codeAny (model prog w) Z (.builtin "max.loop" ⟨[.ref J,.none,.ref B],dKw d⟩) R t:=by
 have hBw:B∉wr:=fun h=>hB (W.sub _ h)
 have nm:(toString "max"++toString ".loop":String)="max.loop":=by decide
 refine codeAny_builtin PySem.F.entry_max_loop ?_
 rw[Around.under_plainId PySem.F.plain_max_loop _]
 show wpAny _ Z.in1 (seqItems? (.ref B) >>= _) _ _ t
 refine wpAny_bind (wpAny_seqItems hb rfl ?_)
 show wpAny _ Z.in1 (tryCatch (pyNext (.ref J)) _ >>= _) _ _ t
 rcases Nat.eq_zero_or_pos n with hn | hn
 ·refine wpAny_bind (wpAny_tryCatch (W.done t _ _ (by rw[hn];exact hst) fun g tk kk=>?_))
  show wpAny _ Z.in1 (rule _ >>= _) _ _ _
  exact wpAny_bind (wpAny_rule (wpAny_pure (h0 hn g tk fun b o h1 _ e=>kk b o h1 e)))
 ·refine wpAny_bind (wpAny_tryCatch (W.item 0 t _ _ hn hst fun v g tk hv hst' kk=>?_))
  have hb':=kk B _ hBw hb
  show wpAny _ Z.in1 (updateSeq B (fun _=>#[v,v]) >>= _) _ _ _
  refine wpAny_bind (wpAny_updateSeq hb' rfl ?_)
  rw[nm]
  refine wpAny_pure ⟨plainId_quiet PySem.F.plain_max_loop _,maxD_on W bt hc B hB d _ 0 _ v _ rfl hn (W.frame _ _ _ hst' fun b h1 o h2=>?_) hv (Heap.get?_update_self _ hb' rfl) fun v' g' tk' h1 h2=>?_⟩
  ·exact(Heap.get?_update_other _ _ (fun h:B=b=>hB (by rw[h];exact h1))).trans h2
  ·exact hR hn v' g' tk' h1 fun b o h3 h4 h5=>h2 b o h3 h4 ((Heap.get?_update_other _ _ (Ne.symm h4)).trans (kk b o h3 h5))
theorem call_maxD {E:Value→Shared→Prop} {s:Shared} {x d:Value} {Q:Value→Shared→Prop}
  (h:wpAny (model prog w) Z.in1 (pyIter x) (fun it t=>∃ J fp wr n P St bt,it=.ref J∧Walks prog w Z.in1 J fp wr n P St∧St 0 t.heap∧(∀ b∈fp,b < t.heap.objs.size)∧CmpOf prog w Z.in1 .Gt P bt ∧
   (n=0→∀ g tk,(∀ b o,b∉wr→t.heap.get? b=some o→g.get? b=some o)→Q d { t with heap:=g,toks:=tk }) ∧
   (0 < n→∀ v g tk,P (argBest bt (n - 1)) v→(∀ b o,b∉wr→t.heap.get? b=some o→g.get? b=some o)→Q v { t with heap:=g,toks:=tk })) E s) :
  wpAny (model prog w) Z (call (.builtin "max") [x] (dKw d)) Q E s:=by
 have nm:(toString "max"++toString ".loop":String)="max.loop":=by decide
 refine kmk_tree PySem.F.kind_max PySem.F.plain_max PySem.F.entry_max (args_maxD _ _) ?_
 show wpAny _ Z.in1 (Builtin.Builtins.bindParams "max" ["key","default"] 0 ⟨[],dKw d⟩ >>= _) _ _ s
 refine wpAny_bind (wpAny_of_eq (show Builtin.Builtins.bindParams "max" ["key","default"] 0 ⟨[],dKw d⟩=pure [none,some d] from rfl) (wpAny_bind (wpAny_pure ?_)))
 refine wpAny_bind (wpAny_mono h (fun it t h₂=>?_) fun _ _ e=>e)
 obtain⟨J,fp,wr,n,P,St,bt,rfl,W,hst,hfp,hc,q0,q1⟩:=h₂
 refine wpAny_bind (wpAny_newObj_type ?_)
 rw[nm]
 have hnf:t.heap.objs.size∉fp:=fun hm=>Nat.lt_irrefl _ (hfp _ hm)
 refine wpAny_pure ⟨plainId_quiet PySem.F.plain_max_loop _,maxD_first W bt hc t.heap.objs.size hnf d (W.frame _ _ _ hst fun b _ o e=>Heap.get?_push_of_some _ e) (Heap.get?_push_size _ rfl) (fun hn g tk kk=>?_) fun hn v g tk hv kk=>?_⟩
 ·exact q0 hn g tk fun b o h1 e=>kk b o h1 (Nat.ne_of_lt (Heap.lt_size e)) (Heap.get?_push_of_some _ e)
 ·exact q1 hn v g tk hv fun b o h1 e=>kk b o h1 (Nat.ne_of_lt (Heap.lt_size e)) (Heap.get?_push_of_some _ e)
end
def tMaxD (ta tb:TE):TE:=fun σ H Q=>ta σ H fun v H1=>tb σ H1 fun d H2=>∃(p:Addr) (ns:List Int),v=.ref p∧H2 p=some (.lst (ns.map V.int))∧(ns=[]→Q d H2)∧∀ m,m∈ns→(∀ n∈ns,n≤m)→Q (.int m) H2
theorem i_maxD {ta tb:TE} {σ:St} {H:Hp} {Q:VK} (h:ta σ H fun v H1=>tb σ H1 fun d H2=>∃(p:Addr) (ns:List Int),v=.ref p∧H2 p=some (.lst (ns.map V.int))∧(ns=[]→Q d H2)∧∀ m,m∈ns→(∀ n∈ns,n≤m)→Q (.int m) H2):tMaxD ta tb σ H Q:=h
section
variable {X:Cx}
theorem pe_maxD {a b:Expr} {ta tb:TE} {p pos kpos:Pos} (hcalm:X.calm=true) (hg:Gl X "max") (hm:X.mg "max"=none) (ha:PE X a ta) (hb:PE X b tb) (hs:starEach [a] X.env=[(false,eval a X.env)]:=by rfl) :
  PE X (.Call (.Name "max" p) [a] [⟨some "default",b,kpos⟩] pos) (tMaxD ta tb):=by
 intro pins s σ H Q I h
 refine wpAny_Call_Name_kw (ld_blt (u:=.builtin "max") I hg hm (by decide +kernel) ?_)
 refine PyProof.Rows.callWith_kw ?_ (by rw[hs];rfl) (by rw[hs];rfl)
 rw[hs]
 show wpAny _ _ (spliced ((false,eval a X.env)::backTo pos (starEach [] X.env))) _ _ s
 refine Calls.spliced_cons (thn (ha pins s σ H _ I h) fun u s1 ⟨x,H1,I1,ru,q1⟩=>Calls.spliced_nil ?_)
 show wpAny _ _ (evalAll ((do let v ← eval b X.env;standAt pos;pure v)::[])) _ _ s1
 refine wpAny_evalAll_cons (wpAny_bind (thn (hb pins s1 σ H1 _ I1 q1) fun u2 s2 ⟨y,H2,I2,ry,l,ns,ex,el,q0,q2⟩=>wpAny_bind (wpAny_standAt (wpAny_pure (wpAny_evalAll_nil ?_)))))
 subst ex
 cases ru
 show wpAny _ _ (call (.builtin "max") [.ref l] (dKw u2)) _ _ s2
 obtain⟨its,rv,pl,hz⟩:=I2.list (SqL.of (K:=X.K) el)
 have hlen:=rv.length
 rw[List.length_map] at hlen
 have hlt:l < s2.heap.objs.size:=by obtain⟨o,_,ho,_⟩:=pl;exact Heap.lt_size ho
 have hval:∀(i:Nat) (v:Value),its.toArray[i]?=some v→∃ t,v=.int (ns.getD i 0) t:=fun i v hv=>by
  have hv':its[i]?=some v:=by simpa using hv
  have hil:i < its.length:=(List.getElem?_eq_some_iff.mp hv').1
  obtain⟨w',hw,t,rfl⟩:=rv.get (i:=i) (x:=V.int (ns.getD i 0)) (by rw[List.getElem?_map];simp[List.getD_eq_getElem?_getD,show i < ns.length by omega])
  rw[hv'] at hw
  cases hw
  exact⟨t,rfl⟩
 have f1:=I2.fpOk (H':=H2) (b:=s2.heap.objs.size) (Nat.le_refl _) (I2.hok.fresh (Nat.le_refl _))
 have isl:s2.heap.IsList l its.toArray:=by
  obtain⟨o,n,e,hc,hd,hx⟩:=pl
  exact⟨o,e,hc,n,hx⟩
 have I3:Inv X pins σ H2 { s2 with heap:=s2.heap.push { cls:=.type "list_iterator",data:=.fields #[.ref l,.int 0 0] },toks:=s2.toks }:=I2.kept fun b u q=>Heap.get?_push_of_some _ q
 refine call_maxD (wpAny_pyIter_list isl ?_)
 refine⟨s2.heap.objs.size,_,_,_,_,_,_,rfl,Walks.list (A:=X.A.in1) (show X.A.in1.handled=none from I2.ok.hd hcalm) s2.heap.objs.size l (Nat.ne_of_lt hlt) its.toArray,⟨⟨_,Heap.get?_push_size _ rfl,rfl,rfl⟩,?_⟩,?_,CmpOf.ints_gt (fun i=>ns.getD i 0) hval,fun hn g tk k=>?_,fun hn v g tk hv k=>?_⟩
 ·obtain⟨o,ho,q⟩:=isl
  exact⟨o,Heap.get?_push_of_some _ ho,q⟩
 ·intro b hb
  have hsz:(s2.heap.push { cls:=.type "list_iterator",data:=.fields #[.ref l,.int 0 0] }).objs.size=s2.heap.objs.size+1:=Heap.size_push ..
  show b < (s2.heap.push _).objs.size
  rw[hsz]
  rcases List.mem_cons.mp hb with z | z
  ·rw[z];exact Nat.lt_succ_self _
  ·have z':b=l:=by simpa using z
   rw[z'];exact Nat.lt_succ_of_lt hlt
 ·rw[List.size_toArray] at hn
  have hns:ns=[]:=List.eq_nil_of_length_eq_zero (by omega)
  exact⟨y,H2,I3.turned (t':=tk) (it:=s2.heap.objs.size) (fun b o hb q=>k b o (by simpa using hb) q) f1.1 f1.2.1 f1.2.2.2.1 f1.2.2.2.2.1 f1.2.2.2.2.2,ry,q0 hns⟩
 ·obtain⟨t,rfl⟩:=hval _ _ hv
  rw[List.size_toArray] at hn ⊢
  obtain⟨b1,b2⟩:=argBest_gt (fun i=>ns.getD i 0) (its.length - 1)
  refine⟨.int _,H2,I3.turned (t':=tk) (it:=s2.heap.objs.size) (fun b o hb q=>k b o (by simpa using hb) q) f1.1 f1.2.1 f1.2.2.2.1 f1.2.2.2.2.1 f1.2.2.2.2.2,⟨_,rfl⟩,q2 _ ?_ fun n hn2=>?_⟩
  ·rw[List.getD_eq_getElem?_getD,List.getElem?_eq_getElem (show argBest _ _ < ns.length by omega)]
   exact List.getElem_mem _
  ·obtain⟨j,hj,rfl⟩:=List.getElem_of_mem hn2
   have:=b2 j (by omega)
   rw[List.getD_eq_getElem?_getD (i:=j),List.getElem?_eq_getElem hj] at this
   exact this
end
end L2
namespace L2
open PySem PySem.Spec PyProof.Rows PySem.SeqAt
def fCountB:V→List V→Hp→VK→Prop:=fun x vs H Q=>match x,vs with
 | .ref l,[.bl k]=>∃ bs:List Bool,H l=some (.lst (bs.map V.bl))∧Q (.int ((bs.count k:Nat):Int)) H
 | _,_=>False
theorem i_countB {l:Addr} {k:Bool} {H:Hp} {Q:VK} {bs:List Bool} (h:H l=some (.lst (bs.map V.bl))) (q:Q (.int ((bs.count k:Nat):Int)) H):fCountB (.ref l) [.bl k] H Q:=⟨bs,h,q⟩
theorem vals_bl:∀{bs:List Bool} {us:List Value},Vals (bs.map V.bl) us→us=bs.map Value.bool
 | [],_,r=>by cases r;rfl
 | b::bs,_,r=>by
  cases r with
  | cons h t =>
   have h:_=Value.bool b:=h
   rw[h,vals_bl t];rfl
theorem countP_bl (k:Bool):∀ bs:List Bool,(bs.map Value.bool).countP (isBoolOf k)=bs.count k
 | []=>rfl
 | b::bs=>by
  rw[List.map_cons,List.countP_cons,countP_bl k bs,List.count_cons]
  rfl
theorem m_count1 {X:Cx}:MtR X "list.count" fCountB:=fun pins s σ H x xs v us Q I rx rs h=>by
 unfold fCountB at h
 split at h
 ·rename_i l k
  obtain⟨bs,e,q⟩:=h
  cases rx
  obtain⟨u,rfl,ru⟩:=rs.one
  have ru:u=Value.bool k:=ru
  subst ru
  obtain⟨z,its,n,r,hl,eo⟩:=I.lstM e
  have hi:=vals_bl r
  refine call_meets PySem.F.slot_list_count ⟨_,eo,rfl⟩ PySem.F.entry_list_count (PySem.F.args_list_count_2 _ _) (list_countAt l its.toArray n none #[] (.bool k) (isBoolOf k)) ⟨eo,fun y hy=>?_,?_⟩
  ·have hy:y∈its:=by simpa using hy
   rw[hi] at hy
   obtain⟨b,_,rfl⟩:=List.mem_map.mp hy
   exact EqAt.bool_bool b k
  ·rw[show its.toArray.toList=its from rfl,hi,countP_bl]
   exact⟨.int _,H,I.tok _,⟨_,rfl⟩,q⟩
 ·exact h.elim
end L2
set_option maxHeartbeats 4000000
namespace K71
open PySem L2
local macro_rules | `(tactic| walk_at "sc")=>`(tactic| first | assumption | omega | exact rfl | decide | exact szn (by omega) | (simp only[List.length_cons,List.length_nil,List.length_map,jt_] <;> omega) | trivial)
local macro_rules | `(tactic| walk_at "sq")=>`(tactic| first | assumption | exact seqR_upd | exact seqR_updT | (exact jn_ (by assumption)) | (exact seqR_tup (by assumption)))
local macro_rules | `(tactic| walk_at "sl")=>`(tactic| first | assumption | exact SqL.of jb_ | exact SqL.of (by assumption))
local macro_rules | `(tactic| walk_at "st")=>`(tactic| first | assumption | exact SqT.of jb_ | exact SqT.of (by assumption))
local macro_rules | `(tactic| walk_at "lq")=>`(tactic| first | assumption | exact lstR_upd | (exact lstR_of (by assumption)))
local macro_rules | `(tactic| walk_at "at")=>`(tactic| first | exact atI_0 _ _ | exact atI_1 _ _ _ | exact atI_2 _ _ _ _ | exact atI_3 _ _ _ _ _ | assumption)
local macro_rules | `(tactic| walk_at "mu")=>`(tactic| first | (exact CMul.l (by omega) (by omega)) | (exact CMul.r (by omega) (by omega)) | (exact CMul.l (by decide) (by decide)) | (exact CMul.r (by decide) (by decide)))
local macro_rules | `(tactic| walk_at "sd")=>`(tactic| first | omega | (simp only[List.length_append,List.length_cons,List.length_nil,List.length_map,frame_length] <;> omega))
local macro_rules | `(tactic| walk_at "g1")=>`(tactic| first
 | (with_reducible refine i_seq ?_) | (with_reducible refine i_ifs ?_) | (with_reducible refine i_asg ?_) | (with_reducible refine i_op ?_) | ((with_reducible refine' i_var ?k1 ?_);(case k1=>exact rfl)) | (with_reducible refine i_c ?_)
 | (with_reducible refine i_ret ?_) | (with_reducible refine i_next ?_) | (with_reducible refine i_drop ?_) | (with_reducible refine i_name ?_) | (with_reducible refine i_gsub ?_) | (with_reducible refine i_test ?_) | (with_reducible refine i_bl ?_)
 | (with_reducible refine i_fI0 ?_) | (with_reducible refine i_addI ?_) | ((with_reducible refine' i_fI ?k1 ?_);(case k1=>walk_at "sc")) | ((with_reducible refine' i_mulI ?k1 ?_);(case k1=>walk_at "mu"))
 | ((with_reducible refine' i_ixR ?k1 ?k2 ?_);(case k1=>walk_at "sq");(case k2=>walk_at "at")) | (with_reducible refine i_cons ?_) | (with_reducible refine i_nil ?_) | (with_reducible refine i_cb ?_) | (with_reducible refine i_call ?_)
 | (with_reducible refine i_and ?_) | (with_reducible refine i_or ?_) | (with_reducible refine i_not ?_) | (with_reducible refine i_andV ?_) | (with_reducible refine i_orV ?_) | (with_reducible refine i_notV ?_) | (with_reducible refine i_ifE ?_) | (with_reducible refine i_chain ?_)
 | (with_reducible refine i_un ?_) | (with_reducible refine i_neg ?_) | (with_reducible refine i_sl ?_) | (with_reducible refine i_nopart ?_) | (with_reducible refine i_part ?_) | (with_reducible refine i_exI ?_)
 | ((with_reducible refine' i_eq ?k1 ?_);(case k1=>exact rfl)) | ((with_reducible refine' i_ne ?k1 ?_);(case k1=>exact rfl)) | (with_reducible refine i_is ?_) | (with_reducible refine i_isnot ?_) | (with_reducible refine i_inS ?_)
 | ((with_reducible refine' i_lenC ?k1 ?_);(case k1=>walk_at "sd")) | ((with_reducible refine' i_lenS ?k1 ?_);(case k1=>walk_at "sc")) | ((with_reducible refine' i_lenR ?k1 ?_);(case k1=>walk_at "sq")) | (with_reducible refine i_1I ?_) | (with_reducible refine i_2I ?_) | (with_reducible refine i_intB ?_) | (with_reducible refine i_intI ?_)
 | ((with_reducible refine' i_addC ?k1 ?_);(case k1=>walk_at "sd")) | ((with_reducible refine' i_slC ?k1 ?_);(case k1=>walk_at "sd")) | ((with_reducible refine' i_addS ?k1 ?_);(case k1=>walk_at "sc")) | ((with_reducible refine' i_slS ?k1 ?_);(case k1=>walk_at "sc")) | (with_reducible refine i_truB ?_) | (with_reducible refine i_truI ?_) | (with_reducible refine i_SS ?_) | (with_reducible refine i_SSI ?_)
 | ((with_reducible refine' i_appL ?k1 ?k2 ?_);(case k1=>first | assumption | exact jb_);(case k2=>walk_at "sc")) | (with_reducible refine i_rng1 ?_) | (with_reducible refine i_rng2 ?_) | ((with_reducible refine' i_r1 ?k1 ?_);(case k1=>omega)) | (with_reducible refine i_comp ?_) | (with_reducible refine i_true ?_)
 | (with_reducible refine i_data ?_) | (with_reducible refine i_bm ?_) | (with_reducible refine i_bm0 ?_) | (with_reducible refine i_tyS ?_) | ((with_reducible refine' i_tyL ?k1 ?_);(case k1=>walk_at "sl")) | (with_reducible refine i_for ?_) | (with_reducible refine i_any ?_) | (with_reducible refine i_anyS ?_) | ((with_reducible refine' i_anyL ?k1 ?_);(case k1=>walk_at "sl")) | ((with_reducible refine' i_anyT ?k1 ?_);(case k1=>walk_at "st")) | (with_reducible refine i_enumS ?_) | (with_reducible refine i_enum ?_) | (with_reducible refine i_enS ?_)
 | ((with_reducible refine' i_lenK ?k1 ?_);(case k1=>assumption)) | ((with_reducible refine' i_ixK ?k1 ?k2 ?_);(case k1=>assumption);(case k2=>walk_at "at"))
 | (with_reducible refine i_lst ?_) | (with_reducible refine i_tup ?_) | (with_reducible refine i_retN ?_) | ((with_reducible refine' iteBT ?k1 ?_);(case k1=>first | exact rfl | decide)) | ((with_reducible refine' iteBF ?k1 ?_);(case k1=>first | exact rfl | decide)) | ((with_reducible refine' iteDF ?k1 ?_);(case k1=>intro z;cases z)) | ((with_reducible refine' iteDT ?k1 ?_);(case k1=>exact rfl)) | ((with_reducible refine' i_sz ?k1 ?_);(case k1=>exact szc rfl)) | ((with_reducible refine' i_isi ?k1 ?k2 ?_);(case k1=>first | exact rfl | (exact tyN_tup (by assumption)) | (exact tyN_lst (by assumption)));(case k2=>exact rfl)) | ((with_reducible refine' i_r2 ?k1 ?_);(case k1=>omega)) | ((with_reducible show Ends.nx _ _ _);dsimp only) | ((with_reducible show Ends.rt _ _ _);dsimp only) | ((with_reducible refine' i_set ?k1 ?k2 ?_);(case k1=>first | assumption | exact jb_);(case k2=>first | exact rfl | (exact ixN_of (by omega) (by omega)))))
local macro_rules | `(tactic| walk_at "go")=>`(tactic| repeat (walk_at "g1"))
seal L2.PSs L2.PS L2.PE L2.PT L2.PA L2.PI L2.PG L2.PTs L2.PGs L2.PO L2.PW
def top (i:Nat):Stmt:=PySem.Challenge.pw_breakwords_k71_texts_refused.main.body.getD i (.Pass ⟨0,0,0,0⟩)
structure Txt (mg:Str→Option Value) (tk:Nat→Tok):Prop where
 z_len:mg "len"=none
 z_abs:mg "abs"=none
 z_all:mg "all"=none
 z_range:mg "range"=none
 z_enumerate:mg "enumerate"=none
 z_isinstance:mg "isinstance"=none
 z_tuple:mg "tuple"=none
 z_list:mg "list"=none
 z_bool:mg "bool"=none
 z_str:mg "str"=none
 z_int:mg "int"=none
 z_min:mg "min"=none
 z_max:mg "max"=none
 z_sorted:mg "sorted"=none
 z_ValueError:mg "ValueError"=none
 m_LETTERS:mg "LETTERS"=some (.str "abcdefghijklmnopqrstuvwxyz" (tk 0))
 m_MOST_LETTERS:mg "MOST_LETTERS"=some (.int 8 (tk 1))
structure Cs (K:PySem.W.Frag) (mg:Str→Option Value) (ad:Nat→Addr):Prop where
 m_WordError:mg "WordError"=some (.ref (ad 0))
 b_WordError:ExcBase K (ad 0)
 w_WordError:ExcW K (ad 0)
 m_NoWord:mg "NoWord"=some (.ref (ad 1))
 x_NoWord:Exc K (ad 0) (ad 1)
 n_NoWord:NoAttr K (ad 1) "place"
 m_NoPattern:mg "NoPattern"=some (.ref (ad 2))
 x_NoPattern:Exc K (ad 0) (ad 2)
 n_NoPattern:NoAttr K (ad 2) "place"
 m_NoThing:mg "NoThing"=some (.ref (ad 3))
 x_NoThing:Exc K (ad 0) (ad 3)
 n_NoThing:NoAttr K (ad 3) "place"
 m_TooNarrow:mg "TooNarrow"=some (.ref (ad 4))
 x_TooNarrow:Exc K (ad 0) (ad 4)
 n_TooNarrow:NoAttr K (ad 4) "place"
 m_Twice:mg "Twice"=some (.ref (ad 5))
 x_Twice:Exc K (ad 0) (ad 5)
 n_Twice:NoAttr K (ad 5) "word"
 m_NoTongue:mg "NoTongue"=some (.ref (ad 6))
 x_NoTongue:Exc K (ad 0) (ad 6)
 n_NoTongue:NoAttr K (ad 6) "name"
 m_NoRow:mg "NoRow"=some (.ref (ad 7))
 x_NoRow:Exc K (ad 0) (ad 7)
 i_NoRow:PySem.W.findIn K (.ref (ad 7)) "__init__"=some (some (.builtin xIni))
 nd:([ad 0,ad 1,ad 2,ad 3,ad 4,ad 5,ad 6,ad 7]:List Addr).Nodup
abbrev s_NoThing_init:Stmt:=inClass (top 7) 0
theorem sc_NoThing_init:FnScope ["self","place"] ["self","place"] (jf_ s_NoThing_init):=⟨rfl,rfl,rfl,by decide +kernel,rfl,by decide +kernel,by decide +kernel⟩
section
variable {P:Program} {w:World} {K:PySem.W.Frag} {mg:Str→Option Value} {base:Heap} {f:Addr} {fd:FuncData} {ad:Nat→Addr}
theorem ok_NoThing_init (Z:Cs K mg ad) (F:Fun K "__init__" "NoThing.__init__" s_NoThing_init f fd):FnOk P w K mg base CX0 1 f fd ["self","place"] (spIni okTx (ad 3) "place"):=by
 refine F.ok sc_NoThing_init (fun vs H Q E h=>?_) (fun cdv A outer s H vs Q E hr h=>?_)
 ·obtain⟨e,y,fr,rfl,_⟩:=h
  rfl
 obtain⟨e,y,fr,rfl,hX,hy,q⟩:=h
 have nd:=sc_NoThing_init.nd
 refine⟨_,(jc_ (ps_expr (pe_initX Z.b_WordError rfl Z.m_WordError (ja_ (pv 0) (ja_ (pe_fs (pj_cons pe_str (pj_cons (pe_fv (pv 1)) (pj_cons pe_str pj_nil)))) pa_nil))))
  (jh_ (ps_fldX (pv 0) (pv 1) rfl))),?_⟩
 rw[show L2.jz_ ["self","place"] [.ref e,y]=[some (.ref e),some y] from rfl]
 refine i_seq (i_drop (i_initX (i_cons (i_var rfl (i_cons (i_fs3 (by decide) (by decide) hy rfl fun z=>i_nil ⟨e,ad 3,none,fr,_,rfl,hX,Z.x_NoThing,?_⟩))))))
 exact⟨y,rfl,.ref e,rfl,e,ad 3,ad 0,fr,rfl,hX,Z.x_NoThing,Z.n_NoThing,fun d hd hde=>q d hd hde⟩
end
abbrev s_TooNarrow_init:Stmt:=inClass (top 8) 0
theorem sc_TooNarrow_init:FnScope ["self","place"] ["self","place"] (jf_ s_TooNarrow_init):=⟨rfl,rfl,rfl,by decide +kernel,rfl,by decide +kernel,by decide +kernel⟩
section
variable {P:Program} {w:World} {K:PySem.W.Frag} {mg:Str→Option Value} {base:Heap} {f:Addr} {fd:FuncData} {ad:Nat→Addr}
theorem ok_TooNarrow_init (Z:Cs K mg ad) (F:Fun K "__init__" "TooNarrow.__init__" s_TooNarrow_init f fd):FnOk P w K mg base CX0 1 f fd ["self","place"] (spIni okTx (ad 4) "place"):=by
 refine F.ok sc_TooNarrow_init (fun vs H Q E h=>?_) (fun cdv A outer s H vs Q E hr h=>?_)
 ·obtain⟨e,y,fr,rfl,_⟩:=h
  rfl
 obtain⟨e,y,fr,rfl,hX,hy,q⟩:=h
 have nd:=sc_TooNarrow_init.nd
 refine⟨_,(jc_ (ps_expr (pe_initX Z.b_WordError rfl Z.m_WordError (ja_ (pv 0) (ja_ (pe_fs (pj_cons pe_str (pj_cons (pe_fv (pv 1)) (pj_cons pe_str pj_nil)))) pa_nil))))
  (jh_ (ps_fldX (pv 0) (pv 1) rfl))),?_⟩
 rw[show L2.jz_ ["self","place"] [.ref e,y]=[some (.ref e),some y] from rfl]
 refine i_seq (i_drop (i_initX (i_cons (i_var rfl (i_cons (i_fs3 (by decide) (by decide) hy rfl fun z=>i_nil ⟨e,ad 4,none,fr,_,rfl,hX,Z.x_TooNarrow,?_⟩))))))
 exact⟨y,rfl,.ref e,rfl,e,ad 4,ad 0,fr,rfl,hX,Z.x_TooNarrow,Z.n_TooNarrow,fun d hd hde=>q d hd hde⟩
end
abbrev s_NoTongue_init:Stmt:=inClass (top 6) 0
theorem sc_NoTongue_init:FnScope ["self","name"] ["self","name"] (jf_ s_NoTongue_init):=⟨rfl,rfl,rfl,by decide +kernel,rfl,by decide +kernel,by decide +kernel⟩
section
variable {P:Program} {w:World} {K:PySem.W.Frag} {mg:Str→Option Value} {base:Heap} {f:Addr} {fd:FuncData} {ad:Nat→Addr}
theorem ok_NoTongue_init (Z:Cs K mg ad) (F:Fun K "__init__" "NoTongue.__init__" s_NoTongue_init f fd):FnOk P w K mg base CX0 1 f fd ["self","name"] (spIni okTs (ad 6) "name"):=by
 refine F.ok sc_NoTongue_init (fun vs H Q E h=>?_) (fun cdv A outer s H vs Q E hr h=>?_)
 ·obtain⟨e,y,fr,rfl,_⟩:=h
  rfl
 obtain⟨e,y,fr,rfl,hX,hy,q⟩:=h
 have nd:=sc_NoTongue_init.nd
 refine⟨_,(jc_ (ps_expr (pe_initX Z.b_WordError rfl Z.m_WordError (ja_ (pv 0) (ja_ (pe_fs (pj_cons pe_str (pj_cons (pe_fr (pv 1)) pj_nil))) pa_nil))))
  (jh_ (ps_fldX (pv 0) (pv 1) rfl))),?_⟩
 rw[show L2.jz_ ["self","name"] [.ref e,y]=[some (.ref e),some y] from rfl]
 refine i_seq (i_drop (i_initX (i_cons (i_var rfl (i_cons (i_fs2r (by decide) hy rfl fun z=>i_nil ⟨e,ad 6,none,fr,_,rfl,hX,Z.x_NoTongue,?_⟩))))))
 exact⟨y,rfl,.ref e,rfl,e,ad 6,ad 0,fr,rfl,hX,Z.x_NoTongue,Z.n_NoTongue,fun d hd hde=>q d hd hde⟩
end
abbrev s_law_feed:Stmt:=top 38
theorem sc_law_feed:FnScope ["_law_script","_law_k","_law_cell","_law_left"] ["_law_script","_law_k"] (jf_ s_law_feed):=⟨rfl,rfl,rfl,by decide +kernel,rfl,by decide +kernel,by decide +kernel⟩
abbrev s_law_next:Stmt:=top 39
theorem sc_law_next:FnScope ["_law_feed_here","_law_many","_law_digit","_law_mixed"] ["_law_feed_here","_law_many"] (jf_ s_law_next):=⟨rfl,rfl,rfl,by decide +kernel,rfl,by decide +kernel,by decide +kernel⟩
abbrev s_law_alike:Stmt:=top 40
theorem sc_law_alike:FnScope ["_law_found","_law_due_here"] ["_law_found","_law_due_here"] (jf_ s_law_alike):=⟨rfl,rfl,rfl,by decide +kernel,rfl,by decide +kernel,by decide +kernel⟩
section
variable {P:Program} {w:World} {K:PySem.W.Frag} {mg:Str→Option Value} {base:Heap} {f:Addr} {fd:FuncData} {tk:Nat→Tok}
theorem ok_law_feed (T:Txt mg tk) (F:Fun K "_law_feed" "_law_feed" s_law_feed f fd):FnOk P w K mg base CX0 1 f fd ["_law_script","_law_k"] (spFeed K):=by
 refine F.ok sc_law_feed (fun vs H Q E h=>?_) (fun cdv A outer s H vs Q E hr h=>?_)
 ·obtain⟨a,ns,k,rfl,_⟩:=h
  rfl
 obtain⟨a,ns,k,rfl,hl,hk0,hk1,q⟩:=h
 have nd:=sc_law_feed.nd
 refine⟨_,(jc_ (jj_ (i:=2) nd rfl (Or.inl rfl) pe_int)
  (jc_ (j6_ (jr_ o_gt (jk_ (c_len (K:=K)) rfl T.z_len (by decide +kernel) (ja_ (pv 0) pa_nil)) pe_int (jy_ _))
   (jh_ (jj_ (i:=2) nd rfl (Or.inl rfl) (j2_ (jw_ (K:=K)) (pv 0) (jp_ o_mod (pv 1) (jk_ (c_len (K:=K)) rfl T.z_len (by decide +kernel) (ja_ (pv 0) pa_nil))) (fun _ _=>rfl))))
   ju_)
  (jc_ (jj_ (i:=3) nd rfl (Or.inl rfl) (jk_ c_abs rfl T.z_abs (by decide +kernel) (ja_ (pv 2) pa_nil)))
  (jc_ (j6_ (jr_ o_lt (pv 3) (jp_ o_pow pe_int pe_int) (jy_ _))
   (jh_ (jj_ (i:=3) nd rfl (Or.inl rfl) pe_int))
   ju_)
  (jh_ (jo_ (j9_ (ja_ (pv 3) (ja_ (jp_ o_mod (jp_ j0_ (jp_ j0_ (pv 2) (jp_ o_mul pe_int (pv 1))) pe_int) pe_int) (ja_ pe_int pa_nil)))))))))),?_⟩
 rw[show L2.jz_ ["_law_script","_law_k","_law_cell","_law_left"] [.ref a,.int k]=[some (.ref a),some (.int k),none,none] from rfl]
 have fin:∀(cell left:Int),0≤left→∀ p,H p=none→Q (.ref p) (upd H p (.lst [.int left,.int ((cell+7919 * k+13) % 2147483399),.int 0])):=fun cell left h0 p hp =>
  q p _ hp ⟨left,_,0,jb_,h0,Int.emod_nonneg _ (by decide),Int.emod_lt_of_pos _ (by decide),Int.le_refl 0,Int.le_refl 0⟩ ((Off.refl p H).upd _)
 have hlen:(ns.map V.int).length=ns.length:=List.length_map _
 walk_at "go"
 refine iteD (fun c=>?_) (fun c=>?_)
 ·rw[hlen] at c
  walk_at "go"
  have hix:(k % (ns.length:Int)).toNat < ns.length:=by
   have h1:=Int.emod_lt_of_pos k c
   have h2:=Int.emod_nonneg k (show (ns.length:Int)≠0 by omega)
   omega
  refine i_ixK (v:=.int ns[(k % (ns.length:Int)).toNat]) hl ?_ ?_
  ·rw[hlen]
   exact atI_of (Int.emod_nonneg k (by omega)) (by rw[List.getElem?_map,List.getElem?_eq_getElem hix];rfl)
  walk_at "go"
  refine iteD (fun c=>?_) (fun c=>?_)
  ·walk_at "go"
   exact(fun p hp=>fin _ 0 (Int.le_refl 0) p hp)
  ·walk_at "go"
   refine(fun p hp=>fin _ _ ?_ p hp)
   split <;> omega
 ·walk_at "go"
  exact fun p hp=>fin 0 0 (Int.le_refl 0) p hp
theorem ok_law_next (F:Fun K "_law_next" "_law_next" s_law_next f fd):FnOk P w K mg base CX0 1 f fd ["_law_feed_here","_law_many"] spNext:=by
 refine F.ok sc_law_next (fun vs H Q E h=>?_) (fun cdv A outer s H vs Q E hr h=>?_)
 ·obtain⟨p,m,n,rfl,_⟩:=h
  rfl
 obtain⟨p,m,n,rfl,⟨a,b,c,h1,ha,hb0,hb1,hc0,hc1⟩,hn,hm0,hm1,q⟩:=h
 have nd:=sc_law_next.nd
 refine⟨_,(jc_ (j6_ (jr_ o_gt (j2_ (jw_ (K:=K)) (pv 0) pe_int (fun _ _=>rfl)) pe_int (jy_ _))
   (jc_ (jj_ (i:=2) nd rfl (Or.inl rfl) (jp_ o_mod (j2_ (jw_ (K:=K)) (pv 0) pe_int (fun _ _=>rfl)) (pv 1)))
  (jc_ (ps_asg (jp_ o_fdiv (j2_ (jw_ (K:=K)) (pv 0) pe_int (fun _ _=>rfl)) (pv 1)) (pg_sub (pv 0) pe_int set_l))
  (jh_ (jo_ (pv 2)))))
   ju_)
  (jc_ (ps_asg (jp_ j0_ (j2_ (jw_ (K:=K)) (pv 0) pe_int (fun _ _=>rfl)) pe_int) (pg_sub (pv 0) pe_int set_l))
  (jc_ (jj_ (i:=3) nd rfl (Or.inl rfl) (jp_ o_mod (jp_ o_mul (jp_ o_mod (jp_ j0_ (jp_ j0_ (j2_ (jw_ (K:=K)) (pv 0) pe_int (fun _ _=>rfl)) (jp_ o_mul pe_int (j2_ (jw_ (K:=K)) (pv 0) pe_int (fun _ _=>rfl)))) pe_int) pe_int) pe_int) pe_int))
  (jc_ (jj_ (i:=3) nd rfl (Or.inl rfl) (jp_ o_mod (jp_ o_mul (jp_ o_mod (jp_ j0_ (jp_ o_mul (pv 3) pe_int) (jp_ o_mul (j2_ (jw_ (K:=K)) (pv 0) pe_int (fun _ _=>rfl)) (j2_ (jw_ (K:=K)) (pv 0) pe_int (fun _ _=>rfl)))) pe_int) pe_int) pe_int))
  (jh_ (jo_ (jp_ o_mod (jp_ o_fdiv (pv 3) pe_int) (pv 1)))))))),?_⟩
 rw[show L2.jz_ ["_law_feed_here","_law_many","_law_digit","_law_mixed"] [.ref p,.int m]=[some (.ref p),some (.int m),none,none] from rfl]
 unfold feedTop at hn
 walk_at "go"
 refine iteD (fun c0=>?_) (fun c0=>?_)
 ·walk_at "go"
  exact q _ _ (Int.emod_nonneg _ (by omega)) (Int.emod_lt_of_pos _ hm0) ⟨a / m,b,c,jb_,Int.ediv_nonneg ha (by omega),hb0,hb1,hc0,by omega⟩ ((Off.refl p H).upd _)
 ·walk_at "go"
  exact q _ _ (Int.emod_nonneg _ (by omega)) (Int.emod_lt_of_pos _ hm0) ⟨a,b,c+1,jb_,ha,hb0,hb1,by omega,by omega⟩ ((Off.refl p H).upd _)
theorem ok_law_alike (T:Txt mg tk) (F:Fun K "_law_alike" "_law_alike" s_law_alike f fd) (bF:Binds K fd ["_law_found","_law_due_here"] []) (mF:mg "_law_alike"=some (.ref f)) :
  ∀ n,FnOk P w K mg base CX0 n f fd ["_law_found","_law_due_here"] (spAlike n)
 | 0=>by
  have no:∀ vs H Q E,¬ spAlike 0 vs H Q E:=fun vs H Q E h=>by
   obtain⟨u,v,d,_,_,_,h0,_⟩:=h
   omega
  exact⟨fun vs H Q E h=>absurd h (no vs H Q E),fun A outer s H args us vs Q E _ _ _ _ h=>absurd h (no vs H Q E)⟩
 | n+1=>by
  have D_law_alike:Dn P w K mg base "_law_alike" n ["_law_found","_law_due_here"] (spAlike n):=⟨f,fd,mF,F.kp,bF,ok_law_alike T F bF mF n⟩
  refine F.ok sc_law_alike (fun vs H Q E h=>?_) (fun cdv A outer s H vs Q E hr h=>?_)
  ·obtain⟨u,v,d,rfl,_⟩:=h
   rfl
  obtain⟨u,v,d,rfl,hu,hv,hd,hw,q⟩:=h
  have nd:=sc_law_alike.nd
  refine⟨_,(jc_ (j6_ (pt_tru (jk_ j8_ rfl T.z_isinstance (by decide +kernel) (ja_ (pv 1) (ja_ (pe_tup (ja_ (pe_bltn (v:=.ty "tuple") rfl T.z_tuple (by decide +kernel) rfl) (ja_ (pe_bltn (v:=.ty "list") rfl T.z_list (by decide +kernel) rfl) pa_nil))) pa_nil))) (fun _=>rfl))
   (jc_ (j6_ (PW.pt (pw_or (jr_ (o_ne hr.units) (jk_ j8_ rfl T.z_isinstance (by decide +kernel) (ja_ (pv 1) (ja_ (pe_bltn (v:=.ty "tuple") rfl T.z_tuple (by decide +kernel) rfl) pa_nil))) (jk_ j8_ rfl T.z_isinstance (by decide +kernel) (ja_ (pv 0) (ja_ (pe_bltn (v:=.ty "tuple") rfl T.z_tuple (by decide +kernel) rfl) pa_nil))) (jy_ _)) (pw_or1 (jr_ (o_ne hr.units) (jk_ j8_ rfl T.z_isinstance (by decide +kernel) (ja_ (pv 1) (ja_ (pe_bltn (v:=.ty "list") rfl T.z_list (by decide +kernel) rfl) pa_nil))) (jk_ j8_ rfl T.z_isinstance (by decide +kernel) (ja_ (pv 0) (ja_ (pe_bltn (v:=.ty "list") rfl T.z_list (by decide +kernel) rfl) pa_nil))) (jy_ _)))))
   (jh_ (jo_ pe_bl))
   ju_)
  (jc_ (j6_ (jr_ (o_ne hr.units) (jk_ (c_len (K:=K)) rfl T.z_len (by decide +kernel) (ja_ (pv 0) pa_nil)) (jk_ (c_len (K:=K)) rfl T.z_len (by decide +kernel) (ja_ (pv 1) pa_nil)) (jy_ _))
   (jh_ (jo_ pe_bl))
   ju_)
  (jh_ (jo_ (jk_ (c_all rfl) rfl T.z_all (by decide +kernel) (ja_ (pe_comp ["_law_found","_law_due_here","_law_k"] [some 0,some 1,none] rfl (by kernel_rfl) rfl (pi_range1 rfl T.z_range (ja_ (jk_ (c_len (K:=K)) rfl T.z_len (by decide +kernel) (ja_ (pv 1) pa_nil)) pa_nil)) (fun _ _ _ _=>(jq_ (i:=2) (show (["_law_found","_law_due_here","_law_k"]:List Str).Nodup by decide +kernel) rfl (Or.inl rfl) (Or.inr rfl))) (fun _ _ _ _=>pts_nil) (fun _ _ _ _=>(ji_ D_law_alike (hr.mono (by first | decide | omega)) rfl (ja_ (j2_ (jw_ (K:=K)) (pv 0) (pv 2) (fun _ _=>rfl)) (ja_ (j2_ (jw_ (K:=K)) (pv 1) (pv 2) (fun _ _=>rfl)) pa_nil))))) pa_nil))))))
   ju_)
  (jc_ (j6_ (PW.pt (pw_or (jr_ o_is (pv 1) pe_non (jy_ _)) (pw_or1 (jr_ o_is (pv 0) pe_non (jy_ _)))))
   (jh_ (jo_ (pe_and (pe_cmpR o_is (pv 1) pe_non (jy_ _)) (pe_one (pe_cmpR o_is (pv 0) pe_non (jy_ _))))))
   ju_)
  (jc_ (j6_ (PW.pt (pw_or (pt_tru (jk_ j8_ rfl T.z_isinstance (by decide +kernel) (ja_ (pv 1) (ja_ (pe_bltn (v:=.ty "bool") rfl T.z_bool (by decide +kernel) rfl) pa_nil))) (fun _=>rfl)) (pw_or1 (pt_tru (jk_ j8_ rfl T.z_isinstance (by decide +kernel) (ja_ (pv 0) (ja_ (pe_bltn (v:=.ty "bool") rfl T.z_bool (by decide +kernel) rfl) pa_nil))) (fun _=>rfl)))))
   (jh_ (jo_ (pe_and (jk_ j8_ rfl T.z_isinstance (by decide +kernel) (ja_ (pv 1) (ja_ (pe_bltn (v:=.ty "bool") rfl T.z_bool (by decide +kernel) rfl) pa_nil))) (pe_and (jk_ j8_ rfl T.z_isinstance (by decide +kernel) (ja_ (pv 0) (ja_ (pe_bltn (v:=.ty "bool") rfl T.z_bool (by decide +kernel) rfl) pa_nil))) (pe_one (pe_cmpR (o_eq hr.units) (pv 0) (pv 1) (jy_ _)))))))
   ju_)
  (jc_ (j6_ (pt_tru (jk_ j8_ rfl T.z_isinstance (by decide +kernel) (ja_ (pv 1) (ja_ (pe_bltn (v:=.ty "str") rfl T.z_str (by decide +kernel) rfl) pa_nil))) (fun _=>rfl))
   (jh_ (jo_ (pe_and (jk_ j8_ rfl T.z_isinstance (by decide +kernel) (ja_ (pv 0) (ja_ (pe_bltn (v:=.ty "str") rfl T.z_str (by decide +kernel) rfl) pa_nil))) (pe_one (pe_cmpR (o_eq hr.units) (pv 0) (pv 1) (jy_ _))))))
   ju_)
  (jh_ (jo_ (pe_and (jk_ j8_ rfl T.z_isinstance (by decide +kernel) (ja_ (pv 0) (ja_ (pe_bltn (v:=.ty "int") rfl T.z_int (by decide +kernel) rfl) pa_nil))) (pe_one (pe_cmpR (o_eq hr.units) (pv 0) (pv 1) (jy_ _)))))))))),?_⟩
  rw[show L2.jz_ ["_law_found","_law_due_here"] [u,v]=[some (u),some (v)] from rfl]
  walk_at "go"
  intro p hp
  walk_at "go"
  have s1:Same H (upd H p (.tup [.ty "tuple",.ty "list"])):=jg_ hp _
  have hu1:=Is.same s1 hu
  have hv1:=Is.same s1 hv
  cases d with
  | non =>
   simp only[Is] at hu hv
   subst hu hv
   refine i_isi2 (t:="NoneType") (T:="tuple") (T':="list") rfl jb_ ⟨rfl,rfl⟩ ?_
   walk_at "go"
   exact q _ s1
  | bl b =>
   simp only[Is] at hu hv
   subst hu hv
   refine i_isi2 (t:="bool") (T:="tuple") (T':="list") rfl jb_ ⟨rfl,rfl⟩ ?_
   walk_at "go"
   rw[decide_eq_true rfl]
   exact q _ s1
  | int i =>
   simp only[Is] at hu hv
   subst hu hv
   refine i_isi2 (t:="int") (T:="tuple") (T':="list") rfl jb_ ⟨rfl,rfl⟩ ?_
   walk_at "go"
   rw[decide_eq_true rfl]
   exact q _ s1
  | str x =>
   simp only[Is] at hu hv
   subst hu hv
   refine i_isi2 (t:="str") (T:="tuple") (T':="list") rfl jb_ ⟨rfl,rfl⟩ ?_
   walk_at "go"
   rw[decide_eq_true rfl]
   exact q _ s1
  | tup ds =>
   simp only[Is] at hu1 hv1
   obtain⟨a,xs,rfl,ha,hxs⟩:=hu1
   obtain⟨b,ys,rfl,hb,hys⟩:=hv1
   have l1:=hxs.length
   have l2:=hys.length
   simp only[wid,dep] at hw hd
   refine i_isi2 (t:="tuple") (T:="tuple") (T':="list") (tyN_tup hb) jb_ ⟨rfl,rfl⟩ ?_
   walk_at "go"
   refine iteBF (by rw[l1,l2,decide_eq_true rfl];rfl) ?_
   have hl3:(ys.length:Int)≤100000:=by omega
   walk_at "go"
   intro r hr0
   have s2:Same (upd H p (.tup [.ty "tuple",.ty "list"])) (upd (upd H p (.tup [.ty "tuple",.ty "list"])) r (.lst [])):=jg_ hr0 _
   refine comp_range (fun i acc σ H'=>∃ v,σ=[some (.ref a),some (.ref b),v]∧acc=(List.replicate i true).map V.bl∧Same (upd H p (.tup [.ty "tuple",.ty "list"])) H'∧H' r=some (.lst acc))
    ⟨none,rfl,rfl,s2,jb_⟩ (fun i acc σ H' ⟨_,_,e,_,e2⟩=>⟨e2,by rw[e];simp⟩) (szn (by omega)) ?_ ?_
   ·rintro i acc σ H' hi ⟨v,rfl,rfl,s3,e3⟩
    have hi':i < ds.length:=by omega
    obtain⟨x,d,hx,hd1,hI⟩:=IsL.get (IsL.same s3 hxs) hi'
    obtain⟨y,d',hy,hd2,hJ⟩:=IsL.get (IsL.same s3 hys) hi'
    rw[hd1] at hd2
    cases hd2
    have hax:=s3 _ _ ha
    have hby:=s3 _ _ hb
    walk_at "go"
    refine i_ixR (seqR_tup hax) (atI_of (by omega) (by simpa using hx)) ?_
    walk_at "go"
    refine i_ixR (seqR_tup hby) (atI_of (by omega) (by simpa using hy)) ?_
    walk_at "go"
    have hdd:=dep_get hd1
    have hww:=wid_get hd1
    refine⟨x,y,d,rfl,hI,hJ,by omega,by omega,fun H4 s4=>⟨s4 _ _ e3,?_⟩⟩
    refine⟨_,rfl,?_,fun c o e=>?_,jb_⟩
    ·rw[List.replicate_succ',List.map_append];rfl
    ·have hcr:c≠r:=fun z=>by rw[z,hr0] at e;cases e
     rw[jd_ hcr]
     exact s4 _ _ (s3 _ _ e)
   ·rintro acc σ H' ⟨v,rfl,rfl,s3,e3⟩
    walk_at "go"
    refine i_allL (lstR_of e3) ?_
    walk_at "go"
    have e:(List.replicate (0+(ys.length:Int) - 0).toNat true).all id=true:=by simp
    simp only[List.all_replicate]
    have e5:∀ k:Nat,(if k=0 then true else id true)=true:=fun k=>by split <;> rfl
    rw[e5]
    exact q _ fun c o k=>s3 _ _ (s1 _ _ k)
  | lst ds =>
   simp only[Is] at hu1 hv1
   obtain⟨a,xs,rfl,ha,hxs⟩:=hu1
   obtain⟨b,ys,rfl,hb,hys⟩:=hv1
   have l1:=hxs.length
   have l2:=hys.length
   simp only[wid,dep] at hw hd
   refine i_isi2 (t:="list") (T:="tuple") (T':="list") (tyN_lst hb) jb_ ⟨rfl,rfl⟩ ?_
   walk_at "go"
   refine iteBF (by rw[l1,l2,decide_eq_true rfl];rfl) ?_
   have hl3:(ys.length:Int)≤100000:=by omega
   walk_at "go"
   intro r hr0
   have s2:Same (upd H p (.tup [.ty "tuple",.ty "list"])) (upd (upd H p (.tup [.ty "tuple",.ty "list"])) r (.lst [])):=jg_ hr0 _
   refine comp_range (fun i acc σ H'=>∃ v,σ=[some (.ref a),some (.ref b),v]∧acc=(List.replicate i true).map V.bl∧Same (upd H p (.tup [.ty "tuple",.ty "list"])) H'∧H' r=some (.lst acc))
    ⟨none,rfl,rfl,s2,jb_⟩ (fun i acc σ H' ⟨_,_,e,_,e2⟩=>⟨e2,by rw[e];simp⟩) (szn (by omega)) ?_ ?_
   ·rintro i acc σ H' hi ⟨v,rfl,rfl,s3,e3⟩
    have hi':i < ds.length:=by omega
    obtain⟨x,d,hx,hd1,hI⟩:=IsL.get (IsL.same s3 hxs) hi'
    obtain⟨y,d',hy,hd2,hJ⟩:=IsL.get (IsL.same s3 hys) hi'
    rw[hd1] at hd2
    cases hd2
    have hax:=s3 _ _ ha
    have hby:=s3 _ _ hb
    walk_at "go"
    refine i_ixR (jn_ hax) (atI_of (by omega) (by simpa using hx)) ?_
    walk_at "go"
    refine i_ixR (jn_ hby) (atI_of (by omega) (by simpa using hy)) ?_
    walk_at "go"
    have hdd:=dep_get hd1
    have hww:=wid_get hd1
    refine⟨x,y,d,rfl,hI,hJ,by omega,by omega,fun H4 s4=>⟨s4 _ _ e3,?_⟩⟩
    refine⟨_,rfl,?_,fun c o e=>?_,jb_⟩
    ·rw[List.replicate_succ',List.map_append];rfl
    ·have hcr:c≠r:=fun z=>by rw[z,hr0] at e;cases e
     rw[jd_ hcr]
     exact s4 _ _ (s3 _ _ e)
   ·rintro acc σ H' ⟨v,rfl,rfl,s3,e3⟩
    walk_at "go"
    refine i_allL (lstR_of e3) ?_
    walk_at "go"
    have e:(List.replicate (0+(ys.length:Int) - 0).toNat true).all id=true:=by simp
    simp only[List.all_replicate]
    have e5:∀ k:Nat,(if k=0 then true else id true)=true:=fun k=>by split <;> rfl
    rw[e5]
    exact q _ fun c o k=>s3 _ _ (s1 _ _ k)
end
abbrev s_law_letters:Stmt:=top 41
theorem sc_law_letters:FnScope ["_law_feed_here","_law_every","_law_at"] ["_law_feed_here"] (jf_ s_law_letters):=⟨rfl,rfl,rfl,by decide +kernel,rfl,by decide +kernel,by decide +kernel⟩
abbrev s_law_word:Stmt:=top 42
theorem sc_law_word:FnScope ["_law_feed_here","_law_letters_here","_law_most"] ["_law_feed_here","_law_letters_here","_law_most"] (jf_ s_law_word):=⟨rfl,rfl,rfl,by decide +kernel,rfl,by decide +kernel,by decide +kernel⟩
section
variable {P:Program} {w:World} {K:PySem.W.Frag} {mg:Str→Option Value} {base:Heap} {f:Addr} {fd:FuncData} {tk:Nat→Tok}
theorem ok_law_letters (T:Txt mg tk) (F:Fun K "_law_letters" "_law_letters" s_law_letters f fd) (D_law_next:Dn P w K mg base "_law_next" 1 ["_law_feed_here","_law_many"] spNext):FnOk P w K mg base CX0 2 f fd ["_law_feed_here"] spLetters:=by
 refine F.ok sc_law_letters (fun vs H Q E h=>?_) (fun cdv A outer s H vs Q E hr h=>?_)
 ·obtain⟨p,n,rfl,_⟩:=h
  rfl
 obtain⟨p,n,rfl,hf,hn,q⟩:=h
 have nd:=sc_law_letters.nd
 refine⟨_,(jc_ (jj_ (i:=1) nd rfl (Or.inl rfl) pe_str)
  (jc_ (j6_ (jr_ (o_eq hr.units) (ji_ D_law_next (hr.mono (by first | decide | omega)) rfl (ja_ (pv 0) (ja_ pe_int pa_nil))) pe_int (jy_ _))
   (jh_ (jo_ (pv 1)))
   ju_)
  (jc_ (jj_ (i:=2) nd rfl (Or.inl rfl) (ji_ D_law_next (hr.mono (by first | decide | omega)) rfl (ja_ (pv 0) (ja_ pe_int pa_nil))))
  (jh_ (jo_ (js_ (j4_ (K:=K)) (pv 1) (jv_ (pv 2)) (jv_ (jp_ j0_ (jp_ j0_ (pv 2) pe_int) (ji_ D_law_next (hr.mono (by first | decide | omega)) rfl (ja_ (pv 0) (ja_ pe_int pa_nil))))))))))),?_⟩
 rw[show L2.jz_ ["_law_feed_here","_law_every","_law_at"] [.ref p]=[some (.ref p),none,none] from rfl]
 rw[t_let]
 walk_at "go"
 refine⟨p,8,n,rfl,hf,by omega,by decide,by decide,fun d H1 hd0 hd1 hf1 o1=>?_⟩
 walk_at "go"
 refine iteD (fun c=>?_) (fun c=>?_)
 ·walk_at "go"
  exact q LETL H1 low_LETL (by decide) (by decide) (hf1.mono (by omega)) o1
 ·walk_at "go"
  refine⟨p,23,n+1,rfl,hf1,by omega,by decide,by decide,fun at_ H2 ha0 ha1 hf2 o2=>?_⟩
  walk_at "go"
  refine⟨p,3,n+1+1,rfl,hf2,by omega,by decide,by decide,fun d3 H3 hb0 hb1 hf3 o3=>?_⟩
  walk_at "go"
  rw[slice_S]
  have hl:LETL.length=26:=rfl
  have hc:=zd_ LETL (some at_) (some (at_+2+d3))
  rw[hl] at hc
  have e1:sx 26 0 (some at_)=at_.toNat:=by simp only[sx];rw[if_neg (by omega)];omega
  have e2:sx 26 26 (some (at_+2+d3))=min (at_+2+d3).toNat 26:=by simp only[sx];rw[if_neg (by omega)]
  rw[e1,e2] at hc
  exact q _ H3 (Low_cut low_LETL _ _) (by omega) (by omega) (hf3.mono (by omega)) ((o1.trans o2).trans o3)
theorem ok_law_word (T:Txt mg tk) (F:Fun K "_law_word" "_law_word" s_law_word f fd) (D_law_next:Dn P w K mg base "_law_next" 1 ["_law_feed_here","_law_many"] spNext):FnOk P w K mg base CX0 2 f fd ["_law_feed_here","_law_letters_here","_law_most"] spWord:=by
 refine F.ok sc_law_word (fun vs H Q E h=>?_) (fun cdv A outer s H vs Q E hr h=>?_)
 ·obtain⟨p,n,l,m,rfl,_⟩:=h
  rfl
 obtain⟨p,n,l,m,rfl,hf,hn,hl,hl1,hl2,hm1,hm2,q⟩:=h
 have nd:=sc_law_word.nd
 refine⟨_,(jh_ (jo_ (pe_bmK (K:=K) PySem.F.plainAttrs_str PySem.F.slot_str_join PySem.F.type_str_join m_join1 pe_str (ja_ (pe_comp ["_law_letters_here","_law_feed_here","_law_k"] [some 1,some 0,none] rfl (by kernel_rfl) rfl (pi_range1 rfl T.z_range (ja_ (jp_ j0_ pe_int (ji_ D_law_next (hr.mono (by first | decide | omega)) rfl (ja_ (pv 0) (ja_ (pv 2) pa_nil)))) pa_nil)) (fun _ _ _ _=>(jq_ (i:=2) (show (["_law_letters_here","_law_feed_here","_law_k"]:List Str).Nodup by decide +kernel) rfl (Or.inl rfl) (Or.inr rfl))) (fun _ _ _ _=>pts_nil) (fun _ _ _ _=>(j2_ (jw_ (K:=K)) (pv 0) (ji_ D_law_next (hr.mono (by first | decide | omega)) rfl (ja_ (pv 1) (ja_ (jk_ (c_len (K:=K)) rfl T.z_len (by decide +kernel) (ja_ (pv 0) pa_nil)) pa_nil))) (fun _ _=>rfl)))) pa_nil)))),?_⟩
 rw[show L2.jz_ ["_law_feed_here","_law_letters_here","_law_most"] [.ref p,.str (S l),.int (m:Int)]=[some (.ref p),some (.str (S l)),some (.int (m:Int))] from rfl]
 rw[t_empty]
 walk_at "go"
 refine⟨p,m,n,rfl,hf,by omega,by omega,by omega,fun d H1 hd0 hd1 hf1 o1=>?_⟩
 walk_at "go"
 intro r hr0
 have k1:Kept p H (upd H1 r (.lst [])):=o1.kept.new hr0 _
 have pr:p≠r:=by
  obtain⟨o,e⟩:=hf1.some
  exact je_ e hr0
 refine comp_range (fun i acc σ H'=>∃(v:Option V) (ws:List Nat),σ=[some (.str (S l)),some (.ref p),v]∧acc=(ws.map fun c=>V.str (S [c]))∧ws.length=i∧Low ws∧FeedAt H' p (n+1+i)∧Kept p H H'∧H' r=some (.lst acc))
  ⟨none,[],rfl,rfl,rfl,(fun c hc=>nomatch hc),hf1.new hr0,k1,jb_⟩ (fun i acc σ H' ⟨_,ws,_,e,e1,_,_,_,e2⟩=>⟨e2,by rw[e,List.length_map];omega⟩) (szn (by omega)) ?_ ?_
 ·rintro i acc σ H' hi ⟨v,ws,rfl,rfl,hw1,hw2,hf2,k2,e2⟩
  have hll:(S l).length≤sizeLine:=szn (by rw[jt_];omega)
  walk_at "go"
  refine⟨p,_,n+1+i,rfl,hf2,by omega,by omega,by omega,fun c H3 hc0 hc1 hf3 o3=>?_⟩
  have hcl:c.toNat < l.length:=by omega
  refine i_ixS (c:=l[c.toNat]) hll (atI_of hc0 (by rw[S_cps];simp[hcl])) ?_
  have e3:H3 r=some (.lst (ws.map fun c=>V.str (S [c]))):=(o3 r pr.symm).trans e2
  refine⟨e3,_,ws++[l[c.toNat]],rfl,by rw[List.map_append];rfl,by rw[List.length_append,hw1];rfl,Low_append hw2 (fun x hx=>?_),?_,?_,jb_⟩
  ·have:x=l[c.toNat]:=by simpa using hx
   rw[this]
   exact hl _ (List.getElem_mem _)
  ·obtain⟨a1,b1,c1,g1,g2⟩:=hf3
   exact⟨a1,b1,c1,by rw[jd_ pr];exact g1,g2⟩
  ·intro b o hb e
   have hbr:b≠r:=fun z=>by
    subst z
    have:=k1
    by_cases hz:H b=none
    ·rw[hz] at e;cases e
    ·have e4:=o1 b hb
     rw[hr0] at e4
     exact hz e4.symm
   rw[jd_ hbr]
   exact(o3 b hb).trans (k2 b o hb e)
 ·rintro acc σ H' ⟨v,ws,rfl,rfl,hw1,hw2,hf2,k2,e2⟩
  walk_at "go"
  have hs:=sum_one ws
  refine i_join (ys:=ws.map fun c=>S [c]) (by rw[← map_one];exact lstR_of e2) ?_ ?_
  ·rw[hs,List.length_map,jt_]
   simp only[List.length_nil,Nat.mul_zero]
   omega
  ·rw[joined_one]
   walk_at "go"
   exact q ws H' hw2 (by omega) (by omega) (hf2.mono (by omega)) k2
end
abbrev s_law_numbers:Stmt:=top 43
theorem sc_law_numbers:FnScope ["_law_feed_here","_law_signs","_law_few","_law_numbers_here","_law_place","_law_number"] ["_law_feed_here","_law_signs","_law_few"] (jf_ s_law_numbers):=⟨rfl,rfl,rfl,by decide +kernel,rfl,by decide +kernel,by decide +kernel⟩
abbrev s_law_pattern:Stmt:=top 44
theorem sc_law_pattern:FnScope ["_law_feed_here","_law_letters_here","_law_word_here","_law_most","_law_text","_law_at","_law_signs"] ["_law_feed_here","_law_letters_here","_law_word_here","_law_most"] (jf_ s_law_pattern):=⟨rfl,rfl,rfl,by decide +kernel,rfl,by decide +kernel,by decide +kernel⟩
def spNumbers:Sp:=fun vs H Q _=>∃(p:Addr) (n:Nat) (s:List Nat) (few:Int),vs=[.ref p,.str (S s),.int few]∧FeedAt H p n∧n+100 < feedTop∧s.length≤30∧0 < few∧few < 1000 ∧
 ∀(t:Addr) (ns:List Int) (H':Hp),H' t=some (.tup (ns.map V.int))→ns.length=s.length+1→(∀(j:Nat) v,ns[j]?=some v→0≤v∧v≤9∧(j=0→s.head?=some 46→v=0)∧(j=s.length→s.getLast?=some 46→v=0))→FeedAt H' p (n+100)→Kept p H H'→Q (.ref t) H'
def spPattern:Sp:=fun vs H Q _=>∃(p:Addr) (n:Nat) (l w:List Nat) (m:Nat),vs=[.ref p,.str (S l),.str (S w),.int (m:Int)]∧FeedAt H p n∧n+200 < feedTop∧Low l∧1≤l.length∧l.length≤26∧Low w∧1≤w.length∧w.length≤20∧1≤m∧m≤22 ∧
 ∀(v:V) (x:Pat) (H':Hp),Is H' v (patD x)→GP x→FeedAt H' p (n+200)→Kept p H H'→Q v H'
def GW (w:List Nat):Prop:=Low w∧1≤w.length∧w.length≤20
section
variable {P:Program} {w:World} {K:PySem.W.Frag} {mg:Str→Option Value} {base:Heap} {f:Addr} {fd:FuncData} {tk:Nat→Tok}
theorem ok_law_numbers (T:Txt mg tk) (F:Fun K "_law_numbers" "_law_numbers" s_law_numbers f fd) (D_law_next:Dn P w K mg base "_law_next" 1 ["_law_feed_here","_law_many"] spNext):FnOk P w K mg base CX0 2 f fd ["_law_feed_here","_law_signs","_law_few"] spNumbers:=by
 refine F.ok sc_law_numbers (fun vs H Q E h=>?_) (fun cdv A outer s H vs Q E hr h=>?_)
 ·obtain⟨p,n,s,few,rfl,_⟩:=h
  rfl
 obtain⟨p,n,sg,few,rfl,hf,hn,hs,hfew,hfew2,q⟩:=h
 have nd:=sc_law_numbers.nd
 refine⟨_,(jc_ (jj_ (i:=3) nd rfl (Or.inl rfl) (j9_ pa_nil))
  (jc_ (ps_for PassesOwn.never rfl (pi_range1 rfl T.z_range (ja_ (jp_ j0_ (jk_ (c_len (K:=K)) rfl T.z_len (by decide +kernel) (ja_ (pv 1) pa_nil)) pe_int) pa_nil)) (jq_ (i:=4) nd rfl (Or.inl rfl))
   (jc_ (jj_ (i:=5) nd rfl (Or.inl rfl) pe_int)
  (jc_ (j6_ (jr_ (o_eq hr.units) (ji_ D_law_next (hr.mono (by first | decide | omega)) rfl (ja_ (pv 0) (ja_ (pv 2) pa_nil))) pe_int (jy_ _))
   (jh_ (jj_ (i:=5) nd rfl (Or.inl rfl) (jp_ j0_ pe_int (ji_ D_law_next (hr.mono (by first | decide | omega)) rfl (ja_ (pv 0) (ja_ pe_int pa_nil))))))
   ju_)
  (jc_ (j6_ (PW.pt (pw_or (PW.pt (pw_and (jr_ (o_eq hr.units) (pv 4) pe_int (jy_ _)) (pw_and1 (jr_ (o_eq hr.units) (js_ (j4_ (K:=K)) (pv 1) j1_ (jv_ pe_int)) pe_str (jy_ _))))) (pw_or1 (PW.pt (pw_and (jr_ (o_eq hr.units) (pv 4) (jk_ (c_len (K:=K)) rfl T.z_len (by decide +kernel) (ja_ (pv 1) pa_nil)) (jy_ _)) (pw_and1 (jr_ (o_eq hr.units) (js_ (j4_ (K:=K)) (pv 1) (jv_ (pe_un o_neg pe_int)) j1_) pe_str (jy_ _))))))))
   (jh_ (jj_ (i:=5) nd rfl (Or.inl rfl) pe_int))
   ju_)
  (jh_ (ps_expr (pe_bmK (K:=K) PySem.F.plainAttrs_list PySem.F.slot_list_append PySem.F.type_list_append m_append1 (pv 3) (ja_ (pv 5) pa_nil))))))))
  (jh_ (jo_ (pe_callTy c_tuple rfl T.z_tuple (by decide +kernel) (ja_ (pv 3) pa_nil)))))),?_⟩
 rw[show L2.jz_ ["_law_feed_here","_law_signs","_law_few","_law_numbers_here","_law_place","_law_number"] [.ref p,.str (S sg),.int few]=[some (.ref p),some (.str (S sg)),some (.int few),none,none,none] from rfl]
 rw[t_dot]
 walk_at "go"
 intro a ha
 have pa:p≠a:=by obtain⟨o,e⟩:=hf.some;exact je_ e ha
 walk_at "go"
 refine for_range (fun i σ H'=>∃(v4 v5:Option V) (ns:List Int),σ=[some (.ref p),some (.str (S sg)),some (.int few),some (.ref a),v4,v5]∧ns.length=i∧(∀(j:Nat) v,ns[j]?=some v→0≤v∧v≤9∧(j=0→sg.head?=some 46→v=0)∧(j=sg.length→sg.getLast?=some 46→v=0))∧FeedAt H' p (n+2 * i)∧Kept p H H'∧H' a=some (.lst (ns.map V.int)))
  ⟨none,none,[],rfl,rfl,(fun j v e=>by simp at e),hf.new ha,(Kept.refl p H).new ha _,jb_⟩ ?_ ?_
 ·rintro i σ H1 hi ⟨v4,v5,ns,rfl,hl,hns,hf1,k1,e1⟩
  walk_at "go"
  refine⟨p,few,n+2 * i,rfl,hf1,by omega,hfew,by omega,fun d H2 hd0 hd1 hf2 o2=>?_⟩
  have key:∀(num:Int) (H3:Hp),0≤num→num≤9→FeedAt H3 p (n+2 * i+2)→Kept p H H3→H3 a=some (.lst (ns.map V.int)) →
    ∀(b:Bool),(b=false→(i=0→sg.head?=some 46→num=0)∧(i=sg.length→sg.getLast?=some 46→num=0)) →
    ∃(v4 v5:Option V) (ns':List Int),[some (V.ref p),some (.str (S sg)),some (.int few),some (.ref a),some (.int (0+(i:Int))),some (.int (if b then 0 else num))]=[some (.ref p),some (.str (S sg)),some (.int few),some (.ref a),v4,v5]∧ns'.length=i+1∧(∀(j:Nat) v,ns'[j]?=some v→0≤v∧v≤9∧(j=0→sg.head?=some 46→v=0)∧(j=sg.length→sg.getLast?=some 46→v=0)) ∧
     FeedAt (upd H3 a (.lst (ns.map V.int++[.int (if b then 0 else num)]))) p (n+2 * (i+1))∧Kept p H (upd H3 a (.lst (ns.map V.int++[.int (if b then 0 else num)])))∧(upd H3 a (.lst (ns.map V.int++[.int (if b then 0 else num)]))) a=some (.lst (ns'.map V.int)):=by
   intro num H3 h0 h9 hf3 k3 e3 b hb
   refine⟨_,_,ns++[if b then 0 else num],rfl,by simp[hl],fun j v e=>?_,?_,fun c o hc e=>?_,by rw[jb_,List.map_append];rfl⟩
   ·by_cases hj:j < ns.length
    ·rw[List.getElem?_append_left hj] at e
     exact hns j v e
    ·have hj2:j=ns.length:=by
      have:=(List.getElem?_eq_some_iff.mp e).1
      simp at this;omega
     subst hj2
     rw[List.getElem?_append_right (Nat.le_refl _),Nat.sub_self] at e
     simp only[List.getElem?_cons_zero,Option.some.injEq] at e
     subst e
     cases b with
     | true=>exact⟨Int.le_refl 0,(by show (0:Int)≤9;decide),fun _ _=>rfl,fun _ _=>rfl⟩
     | false=>exact⟨h0,h9,fun z=>(hb rfl).1 (by omega),fun z=>(hb rfl).2 (by omega)⟩
   ·obtain⟨a1,b1,c1,g1,g2⟩:=hf3
    exact⟨a1,b1,c1,by rw[jd_ pa];exact g1,by omega⟩
   ·have hca:c≠a:=fun z=>by rw[z,ha] at e;cases e
    rw[jd_ hca];exact k3 c o hc e
  have e2:H2 a=some (.lst (ns.map V.int)):=(o2 a pa.symm).trans e1
  have hlen2:(ns.map V.int).length < 1000000:=by rw[List.length_map];omega
  have hz:∀(num:Int) (H3:Hp),0≤num→num≤9→FeedAt H3 p (n+2 * i+2)→Kept p H H3→H3 a=some (.lst (ns.map V.int))→True:=fun _ _ _ _ _ _ _=>trivial
  walk_at "go"
  refine iteD (fun c=>?_) (fun c=>?_)
  ·walk_at "go"
   refine⟨p,9,n+2 * i+1,rfl,hf2,by omega,by decide,by decide,fun d2 H3 hg0 hg1 hf3 o3=>?_⟩
   have e3:H3 a=some (.lst (ns.map V.int)):=(o3 a pa.symm).trans e2
   have kk:=key (1+d2) H3 (by omega) (by omega) hf3 ((k1.off o2).off o3) e3
   walk_at "go"
   refine iteD (fun c1=>?_) (fun c1=>?_)
   ·walk_at "go"
    refine iteD (fun c2=>?_) (fun c2=>?_)
    ·walk_at "go"
     exact kk true (fun z=>nomatch z)
    ·walk_at "go"
     refine iteD (fun c3=>?_) (fun c3=>?_)
     ·walk_at "go"
      refine iteD (fun c4=>?_) (fun c4=>?_)
      ·walk_at "go"
       exact kk true (fun z=>nomatch z)
      ·walk_at "go"
       refine kk false (fun _=>⟨fun _ z=>absurd (congrArg (fun l=>V.str (S l)) (head_dot.mpr z)) c2,fun _ z=>absurd (congrArg (fun l=>V.str (S l)) (last_dot.mpr z)) c4⟩)
     ·walk_at "go"
      refine kk false (fun _=>⟨fun _ z=>absurd (congrArg (fun l=>V.str (S l)) (head_dot.mpr z)) c2,fun z _=>absurd (by rw[z];simp) c3⟩)
   ·walk_at "go"
    refine iteD (fun c3=>?_) (fun c3=>?_)
    ·walk_at "go"
     refine iteD (fun c4=>?_) (fun c4=>?_)
     ·walk_at "go"
      exact kk true (fun z=>nomatch z)
     ·walk_at "go"
      refine kk false (fun _=>⟨fun z _=>absurd (by rw[z];rfl) c1,fun _ z=>absurd (congrArg (fun l=>V.str (S l)) (last_dot.mpr z)) c4⟩)
    ·walk_at "go"
     refine kk false (fun _=>⟨fun z _=>absurd (by rw[z];rfl) c1,fun z _=>absurd (by rw[z];simp) c3⟩)
  ·have kk:=key 0 H2 (by omega) (by omega) (hf2.mono (by omega)) (k1.off o2) e2 false (fun _=>⟨fun _ _=>rfl,fun _ _=>rfl⟩)
   walk_at "go"
   refine iteD (fun c1=>?_) (fun c1=>?_)
   ·walk_at "go"
    refine iteD (fun c2=>?_) (fun c2=>?_)
    ·walk_at "go"
     exact kk
    ·walk_at "go"
     refine iteD (fun c3=>?_) (fun c3=>?_)
     ·walk_at "go"
      refine iteD (fun c4=>?_) (fun c4=>?_)
      ·walk_at "go"
       exact kk
      ·walk_at "go"
       exact kk
     ·walk_at "go"
      exact kk
   ·walk_at "go"
    refine iteD (fun c3=>?_) (fun c3=>?_)
    ·walk_at "go"
     refine iteD (fun c4=>?_) (fun c4=>?_)
     ·walk_at "go"
      exact kk
     ·walk_at "go"
      exact kk
    ·walk_at "go"
     exact kk
 ·rintro σ H1 ⟨v4,v5,ns,rfl,hl,hns,hf1,k1,e1⟩
  walk_at "go"
  refine i_tupleR (jn_ e1) fun t H2 ht k2=>?_
  walk_at "go"
  exact q t ns H2 ht (by omega) hns ((FeedAt.same hf1 k2).mono (by omega)) (k1.same k2)
end
theorem cut_mem {α:Type} {l:List α} {lo hi:Option Int} {c:α} (h:c∈cutA l lo hi):c∈l:=List.mem_of_mem_drop (List.mem_of_mem_take h)
theorem Low_lt {l:List Nat} (h:Low l):∀ c∈l,c < 128:=fun c hc=>by
 have:=h c hc
 unfold isLow at this
 simp at this
 omega
section
variable {P:Program} {w:World} {K:PySem.W.Frag} {mg:Str→Option Value} {base:Heap} {f:Addr} {fd:FuncData} {tk:Nat→Tok}
theorem ok_law_pattern (T:Txt mg tk) (F:Fun K "_law_pattern" "_law_pattern" s_law_pattern f fd) (D_law_next:Dn P w K mg base "_law_next" 1 ["_law_feed_here","_law_many"] spNext) (D_law_word:Dn P w K mg base "_law_word" 2 ["_law_feed_here","_law_letters_here","_law_most"] spWord) (D_law_numbers:Dn P w K mg base "_law_numbers" 2 ["_law_feed_here","_law_signs","_law_few"] spNumbers):FnOk P w K mg base CX0 3 f fd ["_law_feed_here","_law_letters_here","_law_word_here","_law_most"] spPattern:=by
 refine F.ok sc_law_pattern (fun vs H Q E h=>?_) (fun cdv A outer s H vs Q E hr h=>?_)
 ·obtain⟨p,n,l,w',m,rfl,_⟩:=h
  rfl
 obtain⟨p,n,l,w',m,rfl,hf,hn,hl,hl1,hl2,hw,hw1,hw2,hm1,hm2,q⟩:=h
 have nd:=sc_law_pattern.nd
 refine⟨_,(jc_ (jj_ (i:=4) nd rfl (Or.inl rfl) (jp_ j0_ (jp_ j0_ pe_str (pv 2)) pe_str))
  (jc_ (jj_ (i:=5) nd rfl (Or.inl rfl) (ji_ D_law_next (hr.mono (by first | decide | omega)) rfl (ja_ (pv 0) (ja_ (jp_ o_sub (jk_ (c_len (K:=K)) rfl T.z_len (by decide +kernel) (ja_ (pv 4) pa_nil)) pe_int) pa_nil))))
  (jc_ (jj_ (i:=6) nd rfl (Or.inl rfl) (js_ (j4_ (K:=K)) (pv 4) (jv_ (pv 5)) (jv_ (jp_ j0_ (jp_ j0_ (pv 5) pe_int) (ji_ D_law_next (hr.mono (by first | decide | omega)) rfl (ja_ (pv 0) (ja_ (pv 3) pa_nil)))))))
  (jc_ (j6_ (jr_ (o_eq hr.units) (ji_ D_law_next (hr.mono (by first | decide | omega)) rfl (ja_ (pv 0) (ja_ pe_int pa_nil))) pe_int (jy_ _))
   (jh_ (jj_ (i:=6) nd rfl (Or.inl rfl) (ji_ D_law_word (hr.mono (by first | decide | omega)) rfl (ja_ (pv 0) (ja_ (pv 1) (ja_ (pv 3) pa_nil))))))
   ju_)
  (jc_ (j6_ (jr_ (o_eq hr.units) (pv 6) pe_str (jy_ _))
   (jh_ (jj_ (i:=6) nd rfl (Or.inl rfl) (js_ (j4_ (K:=K)) (pv 4) j1_ (jv_ pe_int))))
   ju_)
  (jh_ (jo_ (pe_tup (ja_ (pv 6) (ja_ (ji_ D_law_numbers (hr.mono (by first | decide | omega)) rfl (ja_ (pv 0) (ja_ (pv 6) (ja_ pe_int pa_nil)))) pa_nil)))))))))),?_⟩
 rw[show L2.jz_ ["_law_feed_here","_law_letters_here","_law_word_here","_law_most","_law_text","_law_at","_law_signs"] [.ref p,.str (S l),.str (S w'),.int (m:Int)]=[some (.ref p),some (.str (S l)),some (.str (S w')),some (.int (m:Int)),none,none,none] from rfl]
 rw[t_dot]
 walk_at "go"
 have htl:([46]++w'++[46]).length=w'.length+2:=by simp
 have htc:∀ c∈[46]++w'++[46],c < 128:=fun c hc=>by
  simp only[List.mem_append,List.mem_singleton] at hc
  rcases hc with (h | h) | h
  ·omega
  ·exact Low_lt hw c h
  ·omega
 generalize [46]++w'++[46]=tx at htl htc ⊢
 refine⟨p,_,n,rfl,hf,by omega,by omega,by omega,fun at_ H1 ha0 ha1 hf1 o1=>?_⟩
 walk_at "go"
 refine⟨p,_,n+1,rfl,hf1,by omega,by omega,by omega,fun d H2 hd0 hd1 hf2 o2=>?_⟩
 have hc1:=zd_ tx (some at_) (some (at_+1+d))
 have e1:sx tx.length 0 (some at_)=at_.toNat:=by simp only[sx];rw[if_neg (by omega)];omega
 have e2:sx tx.length tx.length (some (at_+1+d))=min (at_+1+d).toNat tx.length:=by simp only[sx];rw[if_neg (by omega)]
 rw[e1,e2] at hc1
 have hcc:∀ c∈cutA tx (some at_) (some (at_+1+d)),c < 128:=fun c hc=>htc c (cut_mem hc)
 walk_at "go"
 refine⟨p,_,n+1+1,rfl,hf2,by omega,by omega,by omega,fun d4 H3 hd40 hd41 hf3 o3=>?_⟩
 have k3:=((o1.kept).off o2).off o3
 walk_at "go"
 have hcut2:=zd_ tx none (some 2)
 have e3:sx tx.length tx.length (some 2)=2:=by simp only[sx];rw[if_neg (by decide)];show min 2 tx.length=2;omega
 rw[e3] at hcut2
 have hcut2':(cutA tx none (some 2)).length=2:=by rw[hcut2];rfl
 refine iteD (fun c=>?_) (fun c=>?_)
 ·walk_at "go"
  refine⟨p,n+3,l,m,rfl,hf3,by omega,hl,hl1,hl2,hm1,by omega,fun w2 H4 hw20 hw21 hw22 hf4 k4=>?_⟩
  have hsg1:1≤w2.length:=hw21
  have hsg2:w2.length≤22:=by omega
  have hsg3:=Low_lt hw20
  have k5:=k3.trans k4
  walk_at "go"
  refine iteD (fun c2=>?_) (fun c2=>?_)
  ·walk_at "go"
   refine⟨p,n+33,_,2,rfl,hf4,by omega,by omega,by decide,by decide,fun t ns H5 ht hns hnz hf5 k6=>?_⟩
   walk_at "go"
   intro r hr0
   walk_at "go"
   have tr:t≠r:=je_ ht hr0
   refine q (.ref r) (cutA tx none (some 2),ns) _ (isPat_mk jb_ (by rw[jd_ tr];exact ht)) ⟨by show 1≤(cutA tx none (some 2)).length;omega,by show (cutA tx none (some 2)).length≤22;omega,hns,fun v hv=>?_,fun c hc=>htc c (cut_mem hc)⟩ ((hf5.new hr0).mono (by omega)) ((k5.trans k6).new hr0 _)
   obtain⟨j,hj⟩:=List.mem_iff_getElem?.mp hv
   exact⟨(hnz j v hj).1,(hnz j v hj).2.1⟩
  ·walk_at "go"
   refine⟨p,n+33,_,2,rfl,hf4,by omega,by omega,by decide,by decide,fun t ns H5 ht hns hnz hf5 k6=>?_⟩
   walk_at "go"
   intro r hr0
   walk_at "go"
   have tr:t≠r:=je_ ht hr0
   refine q (.ref r) (w2,ns) _ (isPat_mk jb_ (by rw[jd_ tr];exact ht)) ⟨hsg1,hsg2,hns,fun v hv=>?_,hsg3⟩ ((hf5.new hr0).mono (by omega)) ((k5.trans k6).new hr0 _)
   obtain⟨j,hj⟩:=List.mem_iff_getElem?.mp hv
   exact⟨(hnz j v hj).1,(hnz j v hj).2.1⟩
 ·walk_at "go"
  refine iteD (fun c2=>?_) (fun c2=>?_)
  ·walk_at "go"
   refine⟨p,n+3,_,2,rfl,hf3,by omega,by omega,by decide,by decide,fun t ns H5 ht hns hnz hf5 k6=>?_⟩
   walk_at "go"
   intro r hr0
   walk_at "go"
   have tr:t≠r:=je_ ht hr0
   refine q (.ref r) (cutA tx none (some 2),ns) _ (isPat_mk jb_ (by rw[jd_ tr];exact ht)) ⟨by show 1≤(cutA tx none (some 2)).length;omega,by show (cutA tx none (some 2)).length≤22;omega,hns,fun v hv=>?_,fun c hc=>htc c (cut_mem hc)⟩ ((hf5.new hr0).mono (by omega)) ((k3.trans k6).new hr0 _)
   obtain⟨j,hj⟩:=List.mem_iff_getElem?.mp hv
   exact⟨(hnz j v hj).1,(hnz j v hj).2.1⟩
  ·walk_at "go"
   refine⟨p,n+3,_,2,rfl,hf3,by omega,by omega,by decide,by decide,fun t ns H5 ht hns hnz hf5 k6=>?_⟩
   walk_at "go"
   intro r hr0
   walk_at "go"
   have tr:t≠r:=je_ ht hr0
   refine q (.ref r) (cutA tx (some at_) (some (at_+1+d)),ns) _ (isPat_mk jb_ (by rw[jd_ tr];exact ht)) ⟨by show 1≤(cutA tx (some at_) (some (at_+1+d))).length;omega,by show (cutA tx (some at_) (some (at_+1+d))).length≤22;omega,hns,fun v hv=>?_,hcc⟩ ((hf5.new hr0).mono (by omega)) ((k3.trans k6).new hr0 _)
   obtain⟨j,hj⟩:=List.mem_iff_getElem?.mp hv
   exact⟨(hnz j v hj).1,(hnz j v hj).2.1⟩
theorem IsL_kept {p:Addr} {H H':Hp} (hn:∀ b o,H b=some o→b≠p→H' b=some o) (hp:∃ a b c:Int,H p=some (.lst [.int a,.int b,.int c])):∀{xs:List Pat} {ys:List V},L2.IsL H ys (xs.map patD)→L2.IsL H' ys (xs.map patD)
 | [],[],_=>by simp only[List.map_nil,L2.IsL]
 | [],_::_,h=>by simp only[List.map_nil,L2.IsL] at h
 | _::_,[],h=>by simp only[List.map_cons,L2.IsL] at h
 | x::xs,y::ys,h=>by
  simp only[List.map_cons,L2.IsL] at h ⊢
  refine⟨?_,IsL_kept hn hp h.2⟩
  obtain⟨a,t,rfl,h1,h2⟩:=isPat h.1
  obtain⟨a0,b0,c0,h3⟩:=hp
  exact isPat_mk (hn a _ h1 (ne_of h1 h3 (by intro z;cases z))) (hn t _ h2 (ne_of h2 h3 (by intro z;cases z)))
theorem IsL_mono {H H':Hp} {r:Addr} {zs:List V} (hn:∀ b o,H b=some o→b≠r→H' b=some o) (hr:H r=some (.lst zs)):∀{xs:List Pat} {ys:List V},L2.IsL H ys (xs.map patD)→L2.IsL H' ys (xs.map patD)
 | [],[],_=>by simp only[List.map_nil,L2.IsL]
 | [],_::_,h=>by simp only[List.map_nil,L2.IsL] at h
 | _::_,[],h=>by simp only[List.map_cons,L2.IsL] at h
 | x::xs,y::ys,h=>by
  simp only[List.map_cons,L2.IsL] at h ⊢
  refine⟨?_,IsL_mono hn hr h.2⟩
  obtain⟨a,t,rfl,h1,h2⟩:=isPat h.1
  exact isPat_mk (hn a _ h1 (ne_of h1 hr (by intro z;cases z))) (hn t _ h2 (ne_of h2 hr (by intro z;cases z)))
theorem FeedAt.ex {H:Hp} {p:Addr} {n:Nat} (h:FeedAt H p n):∃ a b c:Int,H p=Option.some (.lst [.int a,.int b,.int c]):=by
 obtain⟨a,b,c,h1,_⟩:=h
 exact⟨a,b,c,h1⟩
end
abbrev s_fitting_places:Stmt:=top 11
theorem sc_fitting_places:FnScope ["signs","framed"] ["signs","framed"] (jf_ s_fitting_places):=⟨rfl,rfl,rfl,by decide +kernel,rfl,by decide +kernel,by decide +kernel⟩
abbrev s_values_by_fits:Stmt:=top 12
theorem sc_values_by_fits:FnScope ["fits","word","told","begin","numbers","place","number"] ["fits","word"] (jf_ s_values_by_fits):=⟨rfl,rfl,rfl,by decide +kernel,rfl,by decide +kernel,by decide +kernel⟩
abbrev s_values:Stmt:=top 13
theorem sc_values:FnScope ["patterns","word","framed","fits","pattern"] ["patterns","word"] (jf_ s_values):=⟨rfl,rfl,rfl,by decide +kernel,rfl,by decide +kernel,by decide +kernel⟩
def spFit:Sp:=fun vs H Q _=>∃(p f:List Nat),vs=[.str (S p),.str (S f)]∧p.length≤1000∧f.length≤1000∧∀(r:Addr) (H':Hp),H r=none→H' r=some (.lst ((places p f).map fun k:Nat=>V.int (k:Int)))→Same H H'→Q (.ref r) H'
def spValues:Sp:=fun vs H Q _=>∃(v:V) (xs:List Pat) (w:List Nat),vs=[v,.str (S w)]∧Is H v (patsD xs)∧(∀ x∈xs,1≤x.1.length∧x.1.length≤1000∧x.2.length≤x.1.length+1)∧xs.length≤1000∧1≤w.length∧w.length≤100 ∧
 ∀(r:Addr) (H':Hp),H r=none→H' r=some (.lst ((vals xs w).map V.int))→Same H H'→Q (.ref r) H'
theorem places_fits {p f:List Nat} {b:Nat} (h:b∈places p f):b+p.length≤f.length:=by
 unfold places at h
 have:=(List.mem_filter.mp h).2
 unfold fits at this
 simp only[Bool.and_eq_true,decide_eq_true_eq] at this
 exact this.1
theorem frame_eq (w:List Nat):[46]++w++[46]=frame w:=by simp[frame]
theorem set_put (t:List Int) (p:Nat) (v:Int) (h:p < t.length):(t.map V.int).set p (.int (if v > t[p] then v else t[p]))=(put t p v).map V.int:=by
 unfold put mx
 rw[List.map_set]
 have:t.getD p 0=t[p]:=by simp[List.getD_eq_getElem?_getD,h]
 rw[this]
def spByFits:Sp:=fun vs H Q _=>∃(v:V) (xs:List Fit) (w:List Nat),vs=[v,.str (S w)]∧Is H v (fitsD xs)∧(∀ x∈xs,x.1+x.2.length≤w.length+3)∧w.length≤100 ∧
 ∀(r:Addr) (H':Hp),H r=none→H' r=some (.lst ((cutA (layF (List.replicate (w.length+3) 0) xs) (some 2) (some (-2))).map V.int))→Same H H'→Q (.ref r) H'
section
variable {P:Program} {w:World} {K:PySem.W.Frag} {mg:Str→Option Value} {base:Heap} {f:Addr} {fd:FuncData} {tk:Nat→Tok}
theorem ok_fitting_places (T:Txt mg tk) (F:Fun K "fitting_places" "fitting_places" s_fitting_places f fd):FnOk P w K mg base CX0 1 f fd ["signs","framed"] spFit:=by
 refine F.ok sc_fitting_places (fun vs H Q E h=>?_) (fun cdv A outer s H vs Q E hr h=>?_)
 ·obtain⟨p,f,rfl,_⟩:=h
  rfl
 obtain⟨p,fr,rfl,hp,hf,q⟩:=h
 have nd:=sc_fitting_places.nd
 refine⟨_,(jh_ (jo_ (pe_comp ["framed","signs","place"] [some 1,some 0,none] rfl (by kernel_rfl) rfl (pi_range1 rfl T.z_range (ja_ (jk_ (c_len (K:=K)) rfl T.z_len (by decide +kernel) (ja_ (pv 1) pa_nil)) pa_nil)) (fun _ _ _ _=>(jq_ (i:=2) (show (["framed","signs","place"]:List Str).Nodup by decide +kernel) rfl (Or.inl rfl) (Or.inr rfl))) (fun _ _ _ _=>(pts_one (pt_tru (pe_bmK (K:=K) PySem.F.plainAttrs_str PySem.F.slot_str_startswith PySem.F.type_str_startswith m_startswith2 (pv 0) (ja_ (pv 1) (ja_ (pv 2) pa_nil))) (fun _=>rfl)))) (fun _ _ _ _=>(pv 2))))),?_⟩
 rw[show L2.jz_ ["signs","framed"] [.str (S p),.str (S fr)]=[some (.str (S p)),some (.str (S fr))] from rfl]
 walk_at "go"
 intro r hr0
 refine comp_range (fun i acc σ H'=>∃ v,σ=[some (.str (S fr)),some (.str (S p)),v]∧acc=(((List.range i).filter (fits p fr)).map fun k:Nat=>V.int (k:Int))∧Same H H'∧H' r=some (.lst acc))
  ⟨none,rfl,rfl,jg_ hr0 _,jb_⟩ (fun i acc σ H' ⟨_,_,e,_,e2⟩=>⟨e2,by rw[e,List.length_map];exact Nat.le_trans (List.length_filter_le _ _) (by simp)⟩) (szn (by omega)) ?_ ?_
 ·rintro i acc σ H' hi ⟨v,rfl,rfl,s1,e1⟩
  walk_at "go"
  rw[Int.zero_add,starts3_S]
  refine iteB (fun c=>?_) (fun c=>?_)
  ·walk_at "go"
   refine⟨e1,_,rfl,?_,fun b o e=>?_,jb_⟩
   ·rw[List.range_succ,List.filter_append,List.map_append,List.filter_cons,c,if_pos rfl];rfl
   ·have hb:b≠r:=fun z=>by rw[z,hr0] at e;cases e
    rw[jd_ hb];exact s1 b o e
  ·refine⟨_,rfl,?_,s1,?_⟩
   ·rw[List.range_succ,List.filter_append,List.map_append,List.filter_cons,c,if_neg Bool.false_ne_true];simp
   ·exact e1
 ·rintro acc σ H' ⟨v,rfl,rfl,s1,e1⟩
  refine q r H' hr0 ?_ s1
  rw[e1]
  show _=some (HO.lst (((List.range fr.length).filter (fits p fr)).map _))
  simp
theorem ok_values_by_fits (T:Txt mg tk) (F:Fun K "values_by_fits" "values_by_fits" s_values_by_fits f fd):FnOk P w K mg base CX0 1 f fd ["fits","word"] spByFits:=by
 refine F.ok sc_values_by_fits (fun vs H Q E h=>?_) (fun cdv A outer s H vs Q E hr h=>?_)
 ·obtain⟨v,xs,w,rfl,_⟩:=h
  rfl
 obtain⟨v,xs,w',rfl,hv,hxs,hw2,q⟩:=h
 obtain⟨a,ys,rfl,ha,hys⟩:=isFits hv
 have nd:=sc_values_by_fits.nd
 refine⟨_,(jc_ (jj_ (i:=2) nd rfl (Or.inl rfl) (jp_ o_mul (j9_ (ja_ pe_int pa_nil)) (jp_ j0_ (jk_ (c_len (K:=K)) rfl T.z_len (by decide +kernel) (ja_ (pv 1) pa_nil)) pe_int)))
  (jc_ (ps_for PassesOwn.never rfl (pi_any (K:=K) (pv 0)) (pg_tup rfl (zb_ (jq_ (i:=3) nd rfl (Or.inl rfl)) (zb_ (jq_ (i:=4) nd rfl (Or.inl rfl)) pgs_nil)))
   (jh_ (ps_for PassesOwn.never rfl (pi_enumS rfl T.z_enumerate (pv 4) (pv 3)) (pg_tup rfl (zb_ (jq_ (i:=5) nd rfl (Or.inl rfl)) (zb_ (jq_ (i:=6) nd rfl (Or.inl rfl)) pgs_nil)))
   (jh_ (ps_asg (jk_ (c_max rfl) rfl T.z_max (by decide +kernel) (ja_ (j2_ (jw_ (K:=K)) (pv 2) (pv 5) (fun _ _=>rfl)) (ja_ (pv 6) pa_nil))) (pg_sub (pv 2) (pv 5) set_l))))))
  (jh_ (jo_ (js_ (j4_ (K:=K)) (pv 2) (jv_ pe_int) (jv_ (pe_un o_neg pe_int))))))),?_⟩
 rw[show L2.jz_ ["fits","word","told","begin","numbers","place","number"] [.ref a,.str (S w')]=[some (.ref a),some (.str (S w')),none,none,none,none,none] from rfl]
 walk_at "go"
 intro b0 hb0
 walk_at "go"
 refine i_mulZ jb_ (by omega) fun t ht0=>?_
 have hrep:(List.replicate (((w'.length:Nat):Int)+3).toNat (V.int 0))=(List.replicate (w'.length+3) (0:Int)).map V.int:=by
  rw[List.map_replicate];congr 1
 rw[hrep]
 have s0:Same H (upd (upd H b0 (.lst [.int 0])) t (.lst ((List.replicate (w'.length+3) (0:Int)).map V.int))):=(jg_ hb0 _).trans (jg_ ht0 _)
 have htH:H t=none:=(jg_ hb0 _).free ht0
 have ha0:=s0 _ _ ha
 walk_at "go"
 refine for_list (K:=K) (xs:=ys) (fun i σ H'=>∃(v3 v4 v5 v6:Option V),σ=[some (.ref a),some (.str (S w')),some (.ref t),v3,v4,v5,v6]∧H' t=some (.lst ((layF (List.replicate (w'.length+3) 0) (xs.take i)).map V.int))∧Same H H')
  ⟨none,none,none,none,rfl,jb_,s0⟩ (fun i σ H' _ ⟨_,_,_,_,_,_,s1⟩=>SqL.of (s1 _ _ ha)) ?_ ?_
 ·rintro i x σ H1 hx ⟨v3,v4,v5,v6,rfl,e1,s1⟩
  have hil:i < xs.length:=by
   have h1:=(List.getElem?_eq_some_iff.mp hx).1
   have h2:=hys.length
   rw[List.length_map] at h2;omega
  obtain⟨x',d,hx1,hx2,hx3⟩:=IsL.get hys (i:=i) (by rw[List.length_map];exact hil)
  rw[hx] at hx1
  cases hx1
  rw[List.getElem?_map,List.getElem?_eq_getElem hil] at hx2
  cases hx2
  obtain⟨pa,nt,rfl,hpa,hnt⟩:=isFit hx3
  have hg:=hxs _ (List.getElem_mem hil)
  have hpa1:=s1 _ _ hpa
  have hnt1:=s1 _ _ hnt
  have hT1:=layF_length (xs.take i) (List.replicate (w'.length+3) 0)
  rw[List.length_replicate] at hT1
  rw[layF_take hil]
  generalize layF (List.replicate (w'.length+3) 0) (xs.take i)=T1 at e1 hT1 ⊢
  generalize xs[i]=xi at hg hpa1 hnt1 hnt ⊢
  obtain⟨b,ns⟩:=xi
  refine i_gtup hpa1 rfl (i_gcons (i_name (i_gcons (i_name (i_gnil ?_)))))
  have hg:b+ns.length≤w'.length+3:=hg
  have hnt1:H1 nt=some (.tup (ns.map V.int)):=hnt1
  have hnt:H nt=some (.tup (ns.map V.int)):=hnt
  walk_at "go"
  refine⟨b,rfl,by omega,i_enST hnt1 ?_⟩
  refine for_en (b:=b) (xs:=ns.map V.int) (fun k σ H'=>∃(v5 v6:Option V),σ=[some (.ref a),some (.str (S w')),some (.ref t),some (.int (b:Int)),some (.ref nt),v5,v6]∧H' t=some (.lst ((laid T1 b (ns.take k)).map V.int))∧Same H H')
   ⟨_,_,rfl,e1,s1⟩ (fun k σ H' _ ⟨_,_,_,_,s4⟩=>s4 _ _ hnt) ?_ ?_
  ·rintro k z σ H4 T4 hz ⟨v5,v6,rfl,e4,s4⟩ hT4
   have hkl:k < ns.length:=by
    have:=(List.getElem?_eq_some_iff.mp hz).1
    simpa using this
   rw[List.getElem?_map,List.getElem?_eq_getElem hkl] at hz
   cases hz
   have htT:t≠T4:=je_ e4 hT4
   have hL2:=laid_length (ns.take k) T1 b
   have htk2:ns.take (k+1)=ns.take k++[ns[k]]:=by rw[List.take_succ,List.getElem?_eq_getElem hkl];rfl
   have hsn:=laid_snoc b ns[k] (ns.take k) T1 b
   rw[← htk2,List.length_take,Nat.min_eq_left (Nat.le_of_lt hkl)] at hsn
   rw[hsn]
   generalize laid T1 b (ns.take k)=T2 at e4 hL2 ⊢
   have e5:(upd H4 T4 (.tup [.int ((b:Int)+(k:Int)),.int ns[k]])) t=some (.lst (T2.map V.int)):=by rw[jd_ htT];exact e4
   have hbk:b+k < T2.length:=by omega
   refine i_gtup jb_ rfl (i_gcons (i_name (i_gcons (i_name (i_gnil ?_)))))
   walk_at "go"
   refine i_ixR (v:=.int T2[b+k]) (jn_ e5) (atI_of (by omega) (by rw[show ((b:Int)+(k:Int)).toNat=b+k by omega,List.getElem?_map,List.getElem?_eq_getElem hbk];rfl)) ?_
   walk_at "go"
   refine i_set (j:=b+k) e5 (by rw[List.length_map];rw[ixN_of (by omega) (by omega)];rfl) ?_
   rw[set_put T2 (b+k) ns[k] hbk]
   walk_at "go"
   refine⟨_,_,rfl,jb_,fun c o e=>?_⟩
   have hct:c≠t:=fun z=>by rw[z,htH] at e;cases e
   rw[jd_ hct]
   exact(jg_ hT4 _) c o (s4 c o e)
  ·rintro σ H4 ⟨v5,v6,rfl,e4,s4⟩
   rw[List.length_map,List.take_length] at e4
   walk_at "go"
   exact⟨_,_,_,_,rfl,e4,s4⟩
 ·rintro σ H1 ⟨v3,v4,v5,v6,rfl,e1,s1⟩
  have h2:=hys.length
  rw[List.length_map] at h2
  rw[h2,List.take_length] at e1
  walk_at "go"
  refine i_slL (SqL.of e1) fun r hr1=>?_
  rw[cutV_eq,cutA_map]
  walk_at "go"
  exact q r _ (s1.free hr1) jb_ (s1.trans (jg_ hr1 _))
theorem ok_values (T:Txt mg tk) (F:Fun K "values" "values" s_values f fd) (D_fitting_places:Dn P w K mg base "fitting_places" 1 ["signs","framed"] spFit) (D_values_by_fits:Dn P w K mg base "values_by_fits" 1 ["fits","word"] spByFits):FnOk P w K mg base CX0 2 f fd ["patterns","word"] spValues:=by
 refine F.ok sc_values (fun vs H Q E h=>?_) (fun cdv A outer s H vs Q E hr h=>?_)
 ·obtain⟨v,xs,w,rfl,_⟩:=h
  rfl
 obtain⟨v,xs,w',rfl,hv,hxs,hxl,hw1,hw2,q⟩:=h
 obtain⟨a,ys,rfl,ha,hys⟩:=isPats hv
 have nd:=sc_values.nd
 refine⟨_,(jc_ (jj_ (i:=2) nd rfl (Or.inl rfl) (jp_ j0_ (jp_ j0_ pe_str (pv 1)) pe_str))
  (jc_ (jj_ (i:=3) nd rfl (Or.inl rfl) (j9_ pa_nil))
  (jc_ (ps_for PassesOwn.never rfl (pi_any (K:=K) (pv 0)) (jq_ (i:=4) nd rfl (Or.inr rfl))
   (jh_ (ps_expr (pe_bmK (K:=K) PySem.F.plainAttrs_list PySem.F.slot_list_extend PySem.F.type_list_extend m_extend1 (pv 3) (ja_ (pe_comp ["pattern","begin"] [some 4,none] rfl (by kernel_rfl) rfl (pi_any (K:=K) (ji_ D_fitting_places (hr.mono (by first | decide | omega)) rfl (ja_ (j2_ (jw_ (K:=K)) (pv 4) pe_int (fun _ _=>rfl)) (ja_ (pv 2) pa_nil)))) (fun _ _ _ _=>(jq_ (i:=1) (show (["pattern","begin"]:List Str).Nodup by decide +kernel) rfl (Or.inl rfl) (Or.inr rfl))) (fun _ _ _ _=>pts_nil) (fun _ _ _ _=>(pe_tup (ja_ (pv 1) (ja_ (j2_ (jw_ (K:=K)) (pv 0) pe_int (fun _ _=>rfl)) pa_nil))))) pa_nil)))))
  (jh_ (jo_ (ji_ D_values_by_fits (hr.mono (by first | decide | omega)) rfl (ja_ (pv 3) (ja_ (pv 1) pa_nil)))))))),?_⟩
 rw[show L2.jz_ ["patterns","word","framed","fits","pattern"] [.ref a,.str (S w')]=[some (.ref a),some (.str (S w')),none,none,none] from rfl]
 rw[t_dot]
 have hfl:=frame_length w'
 walk_at "go"
 rw[frame_eq]
 intro r hr0
 have ra:(upd H r (.lst [])) a=some (.lst ys):=(jg_ hr0 _) _ _ ha
 walk_at "go"
 refine for_list (K:=K) (xs:=ys) (fun i σ H'=>∃(v4:Option V) (zs:List V),σ=[some (.ref a),some (.str (S w')),some (.str (S (frame w'))),some (.ref r),v4]∧H' r=some (.lst zs)∧IsL H' zs ((fitsOf (frame w') (xs.take i)).map fitD)∧Same H H')
  ⟨none,[],rfl,jb_,(by simp[fitsOf,L2.IsL]),jg_ hr0 _⟩ (fun i σ H' _ ⟨_,_,_,_,_,s1⟩=>SqL.of (s1 _ _ ha)) ?_ ?_
 ·rintro i x σ H1 hx ⟨v4,zs,rfl,e1,hz1,s1⟩
  have hil:i < xs.length:=by
   have h1:=(List.getElem?_eq_some_iff.mp hx).1
   have h2:=hys.length
   rw[List.length_map] at h2;omega
  obtain⟨x',d,hx1,hx2,hx3⟩:=IsL.get hys (i:=i) (by rw[List.length_map];exact hil)
  rw[hx] at hx1
  cases hx1
  rw[List.getElem?_map,List.getElem?_eq_getElem hil] at hx2
  cases hx2
  obtain⟨pa,nt,rfl,hpa,hnt⟩:=isPat hx3
  obtain⟨hg1,hg2,hg3⟩:=hxs _ (List.getElem_mem hil)
  have hpa1:=s1 _ _ hpa
  have hnt1:=s1 _ _ hnt
  have hzl:zs.length≤1000 * 102:=by
   have h1:=hz1.length
   rw[List.length_map] at h1
   have h2:=fitsOf_len (frame w') (xs.take i)
   have h3:(xs.take i).length≤1000:=by rw[List.length_take];omega
   have h4:(xs.take i).length * (frame w').length≤1000 * 102:=Nat.mul_le_mul h3 (by omega)
   omega
  rw[fitsOf_take hil]
  generalize xs[i]=xi at hpa hnt hpa1 hnt1 hg1 hg2 hg3 ⊢
  walk_at "go"
  refine⟨xi.1,frame w',rfl,hg2,by omega,fun p H2 hp2 e2 s2=>?_⟩
  have hpa2:=s2 _ _ hpa1
  have hpl:=places_le xi.1 (frame w')
  walk_at "go"
  intro c hc0
  have rc:r≠c:=je_ (s2 _ _ e1) hc0
  refine comp_list (K:=K) (xs:=(places xi.1 (frame w')).map fun k:Nat=>V.int (k:Int)) (fun j acc σ H'=>∃ v,σ=[some (.ref pa),v]∧acc.length=j∧H' c=some (.lst acc)∧IsL H' acc ((((places xi.1 (frame w')).take j).map fun b=>(b,xi.2)).map fitD)∧Same H2 H')
   (fun j acc σ H' _ ⟨_,_,_,_,_,s3⟩=>SqL.of (s3 _ _ e2)) ⟨none,rfl,rfl,jb_,(by simp[L2.IsL]),jg_ hc0 _⟩ (fun j acc σ H' ⟨_,_,e,e3,_⟩=>⟨e3,Nat.le_of_eq e⟩) (szn (by rw[List.length_map];omega)) ?_ ?_
  ·rintro j acc σ H3 hj ⟨v,rfl,hal,e3,hz3,s3⟩
   have hj':j < (places xi.1 (frame w')).length:=by simpa using hj
   have hpa3:=s3 _ _ hpa2
   have hgd:((places xi.1 (frame w')).map fun k:Nat=>V.int (k:Int)).getD j .non=V.int ((places xi.1 (frame w'))[j]:Int):=by
    rw[List.getD_eq_getElem?_getD,List.getElem?_map,List.getElem?_eq_getElem hj'];rfl
   rw[hgd]
   walk_at "go"
   intro t ht0
   have tc:c≠t:=je_ e3 ht0
   have e4:(upd H3 t (.tup [.int ((places xi.1 (frame w'))[j]:Int),.ref nt])) c=some (.lst acc):=by rw[jd_ tc];exact e3
   have k4:Tk H3 (upd (upd H3 t (.tup [.int ((places xi.1 (frame w'))[j]:Int),.ref nt])) c (.lst (acc++[.ref t]))):=(Tk.new ht0 _).trans (Tk.lst e4 _)
   refine⟨e4,_,rfl,by simp[hal],jb_,?_,fun b o e=>?_⟩
   ·have htk:(places xi.1 (frame w')).take (j+1)=(places xi.1 (frame w')).take j++[(places xi.1 (frame w'))[j]]:=by rw[List.take_succ,List.getElem?_eq_getElem hj'];rfl
    rw[htk,List.map_append,List.map_append]
    refine IsL.snoc (IsL.tk k4 (tOnly_fits _) hz3) (isFit_mk (x:=((places xi.1 (frame w'))[j],xi.2)) ?_ (k4 _ _ (s3 _ _ (s2 _ _ hnt1))))
    rw[jd_ tc.symm];exact jb_
   ·have hbc:b≠c:=fun z=>by rw[z,hc0] at e;cases e
    rw[jd_ hbc];exact(jg_ ht0 _) _ _ (s3 _ _ e)
  ·rintro acc σ H3 ⟨v,rfl,hal,e3,hz3,s3⟩
   rw[List.length_map] at hal hz3
   rw[List.take_length] at hz3
   have e3r:H3 r=some (.lst zs):=s3 _ _ (s2 _ _ e1)
   walk_at "go"
   refine i_extL e3r e3 (szn (by omega)) ?_
   walk_at "go"
   have k5:Tk H3 (upd H3 r (.lst (zs++acc))):=Tk.lst e3r _
   refine⟨_,zs++acc,rfl,jb_,?_,fun b o e=>?_⟩
   ·rw[List.map_append]
    exact IsL.append (IsL.tk k5 (tOnly_fits _) (IsL.same (s2.trans s3) hz1)) (IsL.tk k5 (tOnly_fits _) hz3)
   ·have hbr:b≠r:=fun z=>by rw[z,hr0] at e;cases e
    rw[jd_ hbr];exact s3 _ _ (s2 _ _ (s1 _ _ e))
 ·rintro σ H1 ⟨v4,zs,rfl,e1,hz1,s1⟩
  have h2:=hys.length
  rw[List.length_map] at h2
  rw[h2,List.take_length] at hz1
  walk_at "go"
  refine⟨.ref r,fitsOf (frame w') xs,w',rfl,?_,fun y hy=>?_,hw2,fun r2 H2 hr2 e2 s2=>?_⟩
  ·simp only[Is,fitsD];exact⟨r,zs,rfl,e1,hz1⟩
  ·obtain⟨x,hx,hp,he⟩:=fitsOf_mem hy
   have h3:=places_fits hp
   have h4:=(hxs x hx).2.2
   rw[he];omega
  ·rw[layF_fitsOf,show w'.length+3=(frame w').length+1 by omega,program_vals xs w' hw1] at e2
   exact q r2 H2 (s1.free hr2) e2 (s1.trans s2)
end
theorem i_while {σ:St} {H:Hp} {D:Ends} {c:TT} {tb:TS} (h:∃ W:Nat→St→Hp→Prop,(∃ m,W m σ H)∧∀ m σ H,W m σ H →
 c σ H fun b H1=>if b=true then ∃ N:St→Hp→Prop,(∀ σ' H',N σ' H'→∃ m',m' < m∧W m' σ' H')∧tb { D with nx:=N,ct:=N,bk:=D.nx } σ H1 else D.nx σ H1):tWhile c tb D σ H:=h
theorem GP_vals {x:Pat} (h:GP x):1≤x.1.length∧x.1.length≤1000∧x.2.length≤x.1.length+1:=⟨h.ne,by have:=h.le;omega,by rw[h.len];exact Nat.le_refl _⟩
theorem pg_tupK {X:Cx} {es:List Expr} {k:Nat} {pos:Pos} {t:TGs} {n:Nat} {K:PySem.W.Frag} (hK:X.K=K) (hc:X.calm=true) (h:PGs X es t)
  (hn:(assignEach es X.env).length=n:=by rfl) (hst:(assignEach es X.env).findIdx? (·.1)=none:=by rfl):PG X (.Tuple es k pos) (gTup K n t):=hK▸pg_tup hc h hn hst
abbrev s_breaks:Stmt:=top 14
theorem sc_breaks:FnScope ["patterns","word"] ["patterns","word"] (jf_ s_breaks):=⟨rfl,rfl,rfl,by decide +kernel,rfl,by decide +kernel,by decide +kernel⟩
theorem comp_en {b:Nat} {xs:List V} {ok:Hp→Prop} {p:Addr} {g:TG} {tc:TT} {te:TE} {Q:VK} {σ0:St} {H0:Hp} (Pv:Nat→List V→St→Hp→Prop)
  (hok:∀ i acc σ H,i≤xs.length→Pv i acc σ H→ok H) (h0:Pv 0 [] σ0 H0) (hp:∀ i acc σ H,Pv i acc σ H→H p=some (.lst acc)∧acc.length≤i) (hz:xs.length≤sizeLine)
  (hs:∀ i v acc σ H T,xs[i]?=some v→Pv i acc σ H→H T=none→g (.ref T) σ (upd H T (.tup [.int ((b:Int)+(i:Int)),v])) fun σ3 H3=>tc σ3 H3 fun bb H4 =>
   if bb=true then te σ3 H4 fun v H5=>H5 p=some (.lst acc)∧Pv (i+1) (acc++[v]) σ3 (upd H5 p (.lst (acc++[v]))) else Pv (i+1) acc σ3 H4)
  (hd:∀ acc σ H,Pv xs.length acc σ H→Q (.ref p) H):CompRuns (Ien b xs ok) p g tc te Q σ0 H0:=by
 refine⟨fun i m acc σ H=>m=xs.length - i∧i≤xs.length∧Pv i acc σ H,⟨xs.length,by simp,Nat.zero_le _,h0⟩,fun i m acc σ' H' w=>?_⟩
 obtain⟨rfl,hi,q⟩:=w
 obtain⟨q1,q2⟩:=hp i acc σ' H' q
 have ho:=hok i acc σ' H' hi q
 refine⟨q1,?_⟩
 by_cases hlt:i < xs.length
 ·refine .inr ⟨⟨ho,hlt⟩,by omega,Pv (i+1),fun a' σ3 H3 k=>⟨xs.length - (i+1),by omega,rfl,hlt,k⟩,fun x H2 y=>?_⟩
  obtain⟨T,v,hT,hv,rfl,rfl⟩:=y
  exact hs i v acc σ' H' T hv q hT
 ·have e:i=xs.length:=by omega
  subst e
  exact .inl ⟨⟨ho,rfl⟩,hd acc σ' H' q⟩
def oddAt (vs:List Int) (j:Nat):Bool:=decide (vs.getD j 0 % 2=1)
def brks (vs:List Int):List Int:=((List.range vs.length).filter (oddAt vs)).map fun j:Nat=>(j:Int)+1
def brkTo (vs:List Int) (i:Nat):List V:=((List.range i).filter (oddAt vs)).map fun j:Nat=>V.int ((j:Int)+1)
theorem brkTo_all (vs:List Int):brkTo vs vs.length=(brks vs).map V.int:=by unfold brkTo brks;rw[List.map_map];rfl
theorem brkTo_yes {vs:List Int} {i:Nat} (h:oddAt vs i=true):brkTo vs (i+1)=brkTo vs i++[V.int ((i:Int)+1)]:=by
 unfold brkTo;rw[List.range_succ,List.filter_append,List.map_append,List.filter_cons,h,if_pos rfl];rfl
theorem brkTo_no {vs:List Int} {i:Nat} (h:oddAt vs i=false):brkTo vs (i+1)=brkTo vs i:=by
 unfold brkTo;rw[List.range_succ,List.filter_append,List.map_append,List.filter_cons,h,if_neg Bool.false_ne_true];simp
theorem brkTo_len (vs:List Int) (i:Nat):(brkTo vs i).length≤i:=by
 unfold brkTo;rw[List.length_map];exact Nat.le_trans (List.length_filter_le _ _) (by simp)
def spBreaks:Sp:=fun vs H Q _=>∃(v:V) (xs:List Pat) (w:List Nat),vs=[v,.str (S w)]∧Is H v (patsD xs)∧(∀ x∈xs,1≤x.1.length∧x.1.length≤1000∧x.2.length≤x.1.length+1)∧xs.length≤1000∧1≤w.length∧w.length≤100 ∧
 ∀(t:Addr) (H':Hp),H' t=some (.tup ((brks (vals xs w)).map V.int))→Same H H'→Q (.ref t) H'
section
variable {P:Program} {w:World} {K:PySem.W.Frag} {mg:Str→Option Value} {base:Heap} {f:Addr} {fd:FuncData} {tk:Nat→Tok}
theorem ok_breaks (T:Txt mg tk) (F:Fun K "breaks" "breaks" s_breaks f fd) (D_values:Dn P w K mg base "values" 2 ["patterns","word"] spValues):FnOk P w K mg base CX0 3 f fd ["patterns","word"] spBreaks:=by
 refine F.ok sc_breaks (fun vs H Q E h=>?_) (fun cdv A outer s H vs Q E hr h=>?_)
 ·obtain⟨v,xs,w,rfl,_⟩:=h
  rfl
 obtain⟨v,xs,w',rfl,hv,hxs,hxl,hw1,hw2,q⟩:=h
 have nd:=sc_breaks.nd
 have hvl:=vals_length xs w'
 refine⟨_,(jh_ (jo_ (pe_callTy c_tuple rfl T.z_tuple (by decide +kernel) (ja_ (pe_comp ["gap","value"] [none,none] rfl (by kernel_rfl) rfl (pi_enumS rfl T.z_enumerate (ji_ D_values (hr.mono (by first | decide | omega)) rfl (ja_ (pv 0) (ja_ (pv 1) pa_nil))) pe_int) (fun _ _ _ _=>(pg_tupK (K:=K) (n:=2) rfl rfl (zb_ (jq_ (i:=0) (show (["gap","value"]:List Str).Nodup by decide +kernel) rfl (Or.inl rfl) (Or.inr rfl)) (zb_ (jq_ (i:=1) (show (["gap","value"]:List Str).Nodup by decide +kernel) rfl (Or.inl rfl) (Or.inr rfl)) pgs_nil)))) (fun _ _ _ _=>(pts_one (jr_ (o_eq hr.units) (jp_ o_mod (pv 1) pe_int) pe_int (jy_ _)))) (fun _ _ _ _=>(pv 0))) pa_nil)))),?_⟩
 rw[show L2.jz_ ["patterns","word"] [v,.str (S w')]=[some (v),some (.str (S w'))] from rfl]
 walk_at "go"
 refine⟨v,xs,w',rfl,hv,hxs,hxl,hw1,hw2,fun a H1 ha0 e1 s1=>?_⟩
 walk_at "go"
 refine⟨1,rfl,by decide,i_enSL e1 ?_⟩
 intro r hr0
 have ar:a≠r:=je_ e1 hr0
 refine comp_en (b:=1) (xs:=(vals xs w').map V.int) (fun i acc σ H'=>∃ v1 v2,σ=[v1,v2]∧acc=brkTo (vals xs w') i∧Same H1 H'∧H' r=some (.lst acc))
  (fun i acc σ H' _ ⟨_,_,_,_,s2,_⟩=>s2 _ _ e1) ⟨none,none,rfl,rfl,jg_ hr0 _,jb_⟩ (fun i acc σ H' ⟨_,_,_,e,_,e2⟩=>⟨e2,by rw[e];exact brkTo_len _ _⟩) (szn (by rw[List.length_map];omega)) ?_ ?_
 ·rintro i z acc σ H2 T2 hz ⟨v1,v2,rfl,rfl,s2,e2⟩ hT
  have hil:i < (vals xs w').length:=by
   have:=(List.getElem?_eq_some_iff.mp hz).1
   simpa using this
  rw[List.getElem?_map,List.getElem?_eq_getElem hil] at hz
  cases hz
  have hod:oddAt (vals xs w') i=decide ((vals xs w')[i] % 2=1):=by unfold oddAt;simp[List.getD_eq_getElem?_getD,hil]
  have rT:r≠T2:=je_ e2 hT
  have s3:=jg_ hT (.tup [.int (((1:Nat):Int)+(i:Int)),.int (vals xs w')[i]])
  have e3:(upd H2 T2 (.tup [.int (((1:Nat):Int)+(i:Int)),.int (vals xs w')[i]])) r=some (.lst (brkTo (vals xs w') i)):=s3 _ _ e2
  refine i_gtup jb_ rfl (i_gcons (i_name (i_gcons (i_name (i_gnil ?_)))))
  walk_at "go"
  refine iteD (fun c=>?_) (fun c=>?_)
  ·have c':(vals xs w')[i] % 2=1:=by injection c
   walk_at "go"
   have hb:=brkTo_yes (vs:=vals xs w') (i:=i) (by rw[hod];exact decide_eq_true c')
   have he:V.int (((1:Nat):Int)+(i:Int))=V.int ((i:Int)+1):=by congr 1;omega
   refine⟨e3,_,_,rfl,by rw[hb,he],fun b o e=>?_,jb_⟩
   have hbr:b≠r:=fun z=>by rw[z,hr0] at e;cases e
   rw[jd_ hbr];exact s3 _ _ (s2 b o e)
  ·have c':¬ (vals xs w')[i] % 2=1:=fun z=>c (by rw[z])
   have hb:=brkTo_no (vs:=vals xs w') (i:=i) (by rw[hod];exact decide_eq_false c')
   exact⟨_,_,rfl,hb.symm,s2.trans s3,by rw[e3]⟩
 ·rintro acc σ H2 ⟨v1,v2,rfl,rfl,s2,e2⟩
  rw[List.length_map,brkTo_all] at e2
  walk_at "go"
  refine i_tupleR (jn_ e2) fun t H3 ht k3=>?_
  walk_at "go"
  exact q t H3 ht ((s1.trans s2).trans k3)
end
abbrev s_law_six:Stmt:=top 46
theorem sc_law_six:FnScope ["_law_feed_here","_law_letters_here","_law_words","_law_word_here","_law_at"] ["_law_feed_here","_law_letters_here"] (jf_ s_law_six):=⟨rfl,rfl,rfl,by decide +kernel,rfl,by decide +kernel,by decide +kernel⟩
def spSix:Sp:=fun vs H Q _=>∃(p:Addr) (n:Nat) (l:List Nat),vs=[.ref p,.str (S l)]∧FeedAt H p n∧n+400 < feedTop∧Low l∧1≤l.length∧l.length≤26 ∧
 ∀(r:Addr) (ws:List (List Nat)) (H':Hp),H' r=some (.lst (ws.map fun w=>V.str (S w)))→ws.length=6→(∀ w∈ws,GW w)→FeedAt H' p (n+400)→Kept p H H'→r≠p→Q (.ref r) H'
theorem GW_cut {w:List Nat} (h:GW w) {lo hi:Option Int} (h1:1≤(cutA w lo hi).length):GW (cutA w lo hi):=by
 refine⟨Low_cut h.1 _ _,h1,?_⟩
 have:=zd_ w lo hi
 have h2:=sx_le w.length w.length (Nat.le_refl _) hi
 have:=h.2.2
 omega
theorem pick3 {a b c:Nat} {d:Int} (h0:0≤d) (h1:d < 3):∃ m:Nat,atI [V.int (a:Int),.int (b:Int),.int (c:Int)] d=some (.int (m:Int))∧(m=a∨m=b∨m=c):=by
 have:d=0∨d=1∨d=2:=by omega
 rcases this with rfl | rfl | rfl
 ·exact⟨a,atI_0 _ _,.inl rfl⟩
 ·exact⟨b,atI_1 _ _ _,.inr (.inl rfl)⟩
 ·exact⟨c,atI_2 _ _ _ _,.inr (.inr rfl)⟩
section
variable {P:Program} {w:World} {K:PySem.W.Frag} {mg:Str→Option Value} {base:Heap} {f:Addr} {fd:FuncData} {tk:Nat→Tok}
theorem ok_law_six (T:Txt mg tk) (F:Fun K "_law_six" "_law_six" s_law_six f fd) (D_law_next:Dn P w K mg base "_law_next" 1 ["_law_feed_here","_law_many"] spNext) (D_law_word:Dn P w K mg base "_law_word" 2 ["_law_feed_here","_law_letters_here","_law_most"] spWord):FnOk P w K mg base CX0 3 f fd ["_law_feed_here","_law_letters_here"] spSix:=by
 refine F.ok sc_law_six (fun vs H Q E h=>?_) (fun cdv A outer s H vs Q E hr h=>?_)
 ·obtain⟨p,n,l,rfl,_⟩:=h
  rfl
 obtain⟨p,n,l,rfl,hf,hn,hl,hl1,hl2,q⟩:=h
 have nd:=sc_law_six.nd
 refine⟨_,(jc_ (jj_ (i:=2) nd rfl (Or.inl rfl) (j9_ (ja_ (ji_ D_law_word (hr.mono (by first | decide | omega)) rfl (ja_ (pv 0) (ja_ (pv 1) (ja_ (j2_ (jw_ (K:=K)) (j9_ (ja_ pe_int (ja_ pe_int (ja_ pe_int pa_nil)))) (ji_ D_law_next (hr.mono (by first | decide | omega)) rfl (ja_ (pv 0) (ja_ pe_int pa_nil))) (fun _ _=>rfl)) pa_nil)))) pa_nil)))
  (jc_ (ps_while PassesOwn.never (jr_ o_lt (jk_ (c_len (K:=K)) rfl T.z_len (by decide +kernel) (ja_ (pv 2) pa_nil)) pe_int (jy_ _))
   (jc_ (jj_ (i:=3) nd rfl (Or.inl rfl) (ji_ D_law_word (hr.mono (by first | decide | omega)) rfl (ja_ (pv 0) (ja_ (pv 1) (ja_ (j2_ (jw_ (K:=K)) (j9_ (ja_ pe_int (ja_ pe_int (ja_ pe_int pa_nil)))) (ji_ D_law_next (hr.mono (by first | decide | omega)) rfl (ja_ (pv 0) (ja_ pe_int pa_nil))) (fun _ _=>rfl)) pa_nil)))))
  (jc_ (jj_ (i:=4) nd rfl (Or.inl rfl) (ji_ D_law_next (hr.mono (by first | decide | omega)) rfl (ja_ (pv 0) (ja_ (jk_ (c_len (K:=K)) rfl T.z_len (by decide +kernel) (ja_ (j2_ (jw_ (K:=K)) (pv 2) pe_int (fun _ _=>rfl)) pa_nil)) pa_nil))))
  (jh_ (ps_expr (pe_bmK (K:=K) PySem.F.plainAttrs_list PySem.F.slot_list_append PySem.F.type_list_append m_append1 (pv 2) (ja_ (j2_ (jw_ (K:=K)) (j9_ (ja_ (pv 3) (ja_ (js_ (j4_ (K:=K)) (j2_ (jw_ (K:=K)) (pv 2) pe_int (fun _ _=>rfl)) (jv_ (pv 4)) j1_) (ja_ (js_ (j4_ (K:=K)) (j2_ (jw_ (K:=K)) (pv 2) pe_int (fun _ _=>rfl)) j1_ (jv_ (jp_ j0_ (pv 4) pe_int))) (ja_ (pv 3) pa_nil))))) (ji_ D_law_next (hr.mono (by first | decide | omega)) rfl (ja_ (pv 0) (ja_ pe_int pa_nil))) (fun _ _=>rfl)) pa_nil)))))))
  (jh_ (jo_ (pv 2))))),?_⟩
 rw[show L2.jz_ ["_law_feed_here","_law_letters_here","_law_words","_law_word_here","_law_at"] [.ref p,.str (S l)]=[some (.ref p),some (.str (S l)),none,none,none] from rfl]
 walk_at "go"
 intro d0 hd0
 have pd0:p≠d0:=by obtain⟨o,e⟩:=hf.some;exact je_ e hd0
 walk_at "go"
 refine⟨p,3,n,rfl,hf.new hd0,by omega,by decide,by decide,fun c0 Ha hc0 hc1 hfa oa=>?_⟩
 obtain⟨m0,hm,hm1⟩:=pick3 (a:=6) (b:=12) (c:=20) hc0 hc1
 refine i_ixR (jn_ ((oa d0 pd0.symm).trans jb_)) hm ?_
 walk_at "go"
 refine⟨p,n+1,l,m0,rfl,hfa,by omega,hl,hl1,hl2,by omega,by omega,fun w0 H1 hw00 hw01 hw02' hf1 k1'=>?_⟩
 have hw02:w0.length≤20:=by omega
 have k1:Kept p H H1:=(((Kept.refl p H).new hd0 _).trans oa.kept).trans k1'
 walk_at "go"
 intro r hr0
 have pr:p≠r:=by obtain⟨o,e⟩:=hf1.some;exact je_ e hr0
 walk_at "go"
 have hgw0:∀ w∈[w0],GW w:=fun w hw=>by
  have:w=w0:=by simpa using hw
  rw[this];exact⟨hw00,hw01,hw02⟩
 refine i_while ⟨fun m σ H'=>∃(ws:List (List Nat)) (v3 v4:Option V),m=6 - (w0::ws).length∧(w0::ws).length≤6∧σ=[some (.ref p),some (.str (S l)),some (.ref r),v3,v4]∧H' r=some (.lst ((w0::ws).map fun w=>V.str (S w)))∧(∀ w∈w0::ws,GW w)∧FeedAt H' p (n+40 * (w0::ws).length)∧Kept p H H',
  ⟨_,[],none,none,rfl,(by show 1≤6;decide),rfl,jb_,hgw0,(hf1.new hr0).mono (by simp),k1.new hr0 _⟩,?_⟩
 rintro m σ H2 ⟨ws,v3,v4,rfl,hws,rfl,e2,hgw,hf2,k2⟩
 have hlen:((w0::ws).map fun w=>V.str (S w)).length=(w0::ws).length:=List.length_map _
 have hg0:=hgw w0 List.mem_cons_self
 walk_at "go"
 rw[hlen]
 refine iteD (fun c=>?_) (fun c=>?_)
 ·refine⟨fun σ' H'=>∃(x:List Nat) (v3 v4:Option V),GW x∧σ'=[some (.ref p),some (.str (S l)),some (.ref r),v3,v4]∧H' r=some (.lst ((w0::(ws++[x])).map fun w=>V.str (S w)))∧FeedAt H' p (n+40 * ((w0::ws).length+1))∧Kept p H H',?_,?_⟩
  ·rintro σ' H' ⟨x,v3',v4',hx,rfl,e',hf',k'⟩
   refine⟨6 - (w0::(ws++[x])).length,?_,ws++[x],v3',v4',rfl,?_,rfl,e',?_,hf'.mono (by simp),k'⟩
   ·simp only[List.length_cons,List.length_append,List.length_nil] at hws c ⊢;omega
   ·simp only[List.length_cons,List.length_append,List.length_nil] at hws c ⊢;omega
   ·intro w hw
    rcases List.mem_cons.mp hw with rfl | hw
    ·exact hg0
    ·rcases List.mem_append.mp hw with h | h
     ·exact hgw w (List.mem_cons_of_mem _ h)
     ·have:w=x:=by simpa using h
      rw[this];exact hx
  ·simp only[List.length_cons] at hws hf2 c ⊢
   walk_at "go"
   intro d1 hd1
   have pd1:p≠d1:=by obtain⟨o,e⟩:=hf2.some;exact je_ e hd1
   walk_at "go"
   refine⟨p,3,n+40 * (ws.length+1),rfl,hf2.new hd1,by omega,by decide,by decide,fun c1 Hb hb0 hb1 hfb ob=>?_⟩
   obtain⟨m1,hm2,hm3⟩:=pick3 (a:=4) (b:=8) (c:=20) hb0 hb1
   refine i_ixR (jn_ ((ob d1 pd1.symm).trans jb_)) hm2 ?_
   walk_at "go"
   refine⟨p,n+40 * (ws.length+1)+1,l,m1,rfl,hfb,by omega,hl,hl1,hl2,by omega,by omega,fun w1 H3 hw10 hw11 hw12' hf3' k3'=>?_⟩
   have hw12:w1.length≤20:=by omega
   have hf3:FeedAt H3 p (n+40 * (ws.length+1)+31):=hf3'.mono (by omega)
   have k3:Kept p H2 H3:=(((Kept.refl p H2).new hd1 _).trans ob.kept).trans k3'
   have e3:H3 r=_:=k3 _ _ pr.symm e2
   have hl0:=hg0.2.2
   walk_at "go"
   refine⟨p,_,n+40 * (ws.length+1)+31,rfl,hf3,by omega,by have:=hg0.2.1;omega,by omega,fun at_ H4 ha0 ha1 hf4 o4=>?_⟩
   have e4:H4 r=_:=(o4 r pr.symm).trans e3
   walk_at "go"
   intro d hd0
   have e5:(upd H4 d (.lst [.str (S w1),.str (S (cutA w0 (some at_) none)),.str (S (cutA w0 none (some (at_+1)))),.str (S w1)])) r=_:=(jg_ hd0 _) _ _ e4
   have hf5:=hf4.new (o:=.lst [.str (S w1),.str (S (cutA w0 (some at_) none)),.str (S (cutA w0 none (some (at_+1)))),.str (S w1)]) hd0
   have pd:p≠d:=by obtain⟨o,e⟩:=hf4.some;exact je_ e hd0
   walk_at "go"
   refine⟨p,4,n+40 * (ws.length+1)+31+1,rfl,hf5,by omega,by decide,by decide,fun c4 H6 hc0 hc1 hf6 o6=>?_⟩
   have e6:H6 r=some (.lst ((w0::ws).map fun w=>V.str (S w))):=(o6 r pr.symm).trans e5
   have ed6:H6 d=_:=(o6 d pd.symm).trans jb_
   have hc2:(cutA w0 (some at_) none).length=w0.length - at_.toNat:=by
    have:=zd_ w0 (some at_) none
    have h1:sx w0.length 0 (some at_)=at_.toNat:=by simp only[sx];rw[if_neg (by omega)];omega
    rw[h1] at this;exact this
   have hc3:(cutA w0 none (some (at_+1))).length=(at_+1).toNat:=by
    have:=zd_ w0 none (some (at_+1))
    have h1:sx w0.length w0.length (some (at_+1))=(at_+1).toNat:=by simp only[sx];rw[if_neg (by omega)];omega
    rw[h1] at this;exact this
   obtain⟨x,hx,hgx⟩:∃ x:List Nat,atI [V.str (S w1),.str (S (cutA w0 (some at_) none)),.str (S (cutA w0 none (some (at_+1)))),.str (S w1)] c4=some (.str (S x))∧GW x:=by
    have:c4=0∨c4=1∨c4=2∨c4=3:=by omega
    rcases this with rfl | rfl | rfl | rfl
    ·exact⟨w1,atI_0 _ _,hw10,hw11,hw12⟩
    ·exact⟨_,atI_1 _ _ _,GW_cut hg0 (by omega)⟩
    ·exact⟨_,atI_2 _ _ _ _,GW_cut hg0 (by omega)⟩
    ·exact⟨w1,atI_3 _ _ _ _ _,hw10,hw11,hw12⟩
   refine i_ixR (jn_ ed6) hx ?_
   walk_at "go"
   refine i_appL e6 (szn (by rw[List.length_map];simp only[List.length_cons];omega)) ?_
   walk_at "go"
   refine⟨x,_,_,hgx,rfl,?_,?_,fun b o hb e=>?_⟩
   ·rw[jb_,← List.cons_append,List.map_append];rfl
   ·obtain⟨a1,b1,c1,g1,g2⟩:=hf6
    exact⟨a1,b1,c1,by rw[jd_ pr];exact g1,by omega⟩
   ·by_cases z:b=r
    ·subst z
     have:=k1 b o hb e
     rw[hr0] at this;cases this
    ·rw[jd_ z]
     exact(o6 b hb).trans ((jg_ hd0 _) _ _ ((o4 b hb).trans (k3 b o hb (k2 b o hb e))))
 ·walk_at "go"
  have h6:(w0::ws).length=6:=by omega
  exact q r (w0::ws) H2 e2 h6 hgw (hf2.mono (by omega)) k2 pr.symm
end
structure Ow (K:PySem.W.Frag) (mg:Str→Option Value) (cO:Addr):Prop where
 m_Breaker:mg "Breaker"=some (.ref cO)
 cl:Cls K cO
 n_told_gaps:NoAttr K cO "told_gaps"
 n_patterns:NoAttr K cO "patterns"
 n_head:NoAttr K cO "head"
 n_tail:NoAttr K cO "tail"
abbrev s_Breaker_init:Stmt:=inClass (top 21) 0
theorem sc_Breaker_init:FnScope ["self","patterns","told","head","tail"] ["self","patterns","told","head","tail"] (jf_ s_Breaker_init):=⟨rfl,rfl,rfl,by decide +kernel,rfl,by decide +kernel,by decide +kernel⟩
abbrev s_Breaker_gaps:Stmt:=inClass (top 21) 1
theorem sc_Breaker_gaps:FnScope ["self","word","last"] ["self","word"] (jf_ s_Breaker_gaps):=⟨rfl,rfl,rfl,by decide +kernel,rfl,by decide +kernel,by decide +kernel⟩
abbrev s_gaps_by_word:Stmt:=top 20
theorem sc_gaps_by_word:FnScope ["told","known","word","gaps"] ["told"] (jf_ s_gaps_by_word):=⟨rfl,rfl,rfl,by decide +kernel,rfl,by decide +kernel,by decide +kernel⟩
theorem i_dput {td ty tv:TE} {D:Ends} {σ:St} {H:Hp} (h:tv σ H fun v H1=>td σ H1 fun x H2=>ty σ H2 fun y H3=>∃ a H4,x=.ref a∧DPut H3 a y v H4∧D.nx σ H4):sDPut td ty tv D σ H:=h
theorem i_dget {td ty:TE} {σ:St} {H:Hp} {Q:VK} (h:td σ H fun x H1=>ty σ H1 fun y H2=>∃ a v,x=.ref a∧DGet H2 a y (some v)∧Q v H2):tDGet td ty σ H Q:=h
theorem i_dnewK {σ:St} {H:Hp} {Q:VK} (h:∀ p,H p=none→Q (.ref p) (upd H p (.dK []))):tDNewK σ H Q:=h
def spGbw:Sp:=fun vs H Q _=>∃(b:Addr) (ys:List V) (xs:List Pat),vs=[.ref b]∧H b=some (.lst ys)∧L2.IsL H ys (xs.map patD)∧(xs.map (·.1)).Nodup∧xs.length≤1000 ∧
 ∀(a:Addr) (kvs:List (Key×V)) (H':Hp),H a=none→H' a=some (.dK kvs)→NT H' kvs xs→Same H H'→Q (.ref a) H'
theorem putK_new {kvs:List (Key×V)} {k:Key} {v:V} (h:(kvs.any fun kv=>decide (kv.1=k))=false):putK kvs k v=kvs++[(k,v)]:=by
 unfold putK
 rw[h];rfl
section
variable {P:Program} {w:World} {K:PySem.W.Frag} {mg:Str→Option Value} {base:Heap} {f:Addr} {fd:FuncData} {tk:Nat→Tok} {cO:Addr}
theorem ok_gaps_by_word (T:Txt mg tk) (F:Fun K "gaps_by_word" "gaps_by_word" s_gaps_by_word f fd):FnOk P w K mg base CX0 1 f fd ["told"] spGbw:=by
 refine F.ok sc_gaps_by_word (fun vs H Q E h=>?_) (fun cdv A outer s H vs Q E hr h=>?_)
 ·obtain⟨b,ys,xs,rfl,_⟩:=h
  rfl
 obtain⟨b,ys,xs,rfl,hb,hys,hnd,hxl,q⟩:=h
 have nd:=sc_gaps_by_word.nd
 have hyl:ys.length=xs.length:=by have:=hys.length;simpa using this
 refine⟨_,(jc_ (jj_ (i:=1) nd rfl (Or.inl rfl) pe_dnewK)
  (jc_ (ps_for PassesOwn.never rfl (pi_any (K:=K) (pv 0)) (pg_tup rfl (zb_ (jq_ (i:=2) nd rfl (Or.inl rfl)) (zb_ (jq_ (i:=3) nd rfl (Or.inl rfl)) pgs_nil)))
   (jc_ (j6_ (pt_cmp (pc_din (hu_of hr) (pv 2) (pv 1)))
   (jh_ ps_never)
   ju_)
  (jh_ (ps_dput (hu_of hr) (pv 1) (pv 2) (pv 3) rfl))))
  (jh_ (jo_ (pv 1))))),?_⟩
 rw[show L2.jz_ ["told","known","word","gaps"] [.ref b]=[some (.ref b),none,none,none] from rfl]
 walk_at "go"
 refine i_dnewK fun a ha=>?_
 have s1:=jg_ ha (.dK [])
 walk_at "go"
 refine i_anyL (SqL.of (s1 _ _ hb)) ?_
 refine for_list (K:=K) (xs:=ys) (fun i σ H'=>∃(v2 v3:Option V) (kvs:List (Key×V)),σ=[some (.ref b),some (.ref a),v2,v3]∧H' a=some (.dK kvs)∧NT H' kvs (xs.take i)∧kvs.length=i∧Same H H')
  ⟨none,none,[],rfl,jb_,trivial,rfl,s1⟩ (fun i σ H' _ ⟨_,_,_,_,_,_,_,s⟩=>SqL.of (s _ _ hb)) ?_ ?_
 ·rintro i y σ H2 hy ⟨v2,v3,kvs,rfl,e2,hN,hkl,s2⟩
  have hi:i < xs.length:=by
   have:=(List.getElem?_eq_some_iff.mp hy).1
   omega
  obtain⟨y',d,hy',hd1,hI⟩:=IsL.get (IsL.same s2 hys) (show i < (xs.map patD).length by simpa using hi)
  rw[hy] at hy'
  cases hy'
  rw[List.getElem?_map,List.getElem?_eq_getElem hi] at hd1
  cases hd1
  obtain⟨a2,t2,rfl,ea2,et2⟩:=isPat hI
  have hnew:((xs.take i).any fun g=>decide (g.1=xs[i].1))=false:=by
   rw[List.any_eq_false]
   intro g hg hd
   have hge:g.1=xs[i].1:=by simpa using hd
   obtain⟨j,hj⟩:=List.getElem?_of_mem hg
   rw[List.getElem?_take] at hj
   split at hj
   ·rename_i hji
    have hjl:j < xs.length:=by omega
    rw[List.getElem?_eq_getElem hjl] at hj
    cases hj
    have:=List.pairwise_iff_getElem.mp hnd j i (by simpa using hjl) (by simpa using hi) hji
    apply this
    rw[List.getElem_map,List.getElem_map]
    exact hge
   ·cases hj
  have hval:valV kvs (Sum.inr (S xs[i].1))=none:=by
   rcases hN.val (z:=xs[i].1) with ⟨q1,q2⟩ | ⟨g,t,q1,hgm,hgz,q2,q3⟩
   ·exact q2
   ·rw[List.any_eq_false] at hnew
    exact absurd (by simpa using hgz) (hnew g hgm)
  refine i_gtup ea2 rfl (i_gcons (i_name (i_gcons (i_name (i_gnil ?_)))))
  walk_at "go"
  refine i_tB (i_din ?_)
  walk_at "go"
  refine⟨a,_,rfl,DGet.k (k:=Sum.inr (S xs[i].1)) e2,?_⟩
  rw[hval]
  walk_at "go"
  refine i_dput ?_
  walk_at "go"
  refine⟨a,_,rfl,DPut.k (k:=Sum.inr (S xs[i].1)) e2 (Nat.lt_of_le_of_lt (show kvs.length≤1000 by omega) (by decide)),?_⟩
  have hputE:putK kvs (Sum.inr (S xs[i].1):Key) (V.ref t2)=kvs++[(Sum.inr (S xs[i].1),.ref t2)]:=putK_new (by rw[hN.anyK];exact hnew)
  refine⟨_,_,_,rfl,jb_,?_,?_,fun c o e=>?_⟩
  ·rw[List.take_succ,List.getElem?_eq_getElem hi,hputE]
   exact NT.tups (fun b' zs e=>by
    have hb':b'≠a:=fun z=>by rw[z,e2] at e;cases e
    rw[jd_ hb'];exact e) (NT.append hN ⟨rfl,⟨t2,rfl,et2⟩,trivial⟩)
  ·rw[hputE,List.length_append];simp[hkl]
  ·have hc:c≠a:=fun z=>by rw[z,ha] at e;cases e
   rw[jd_ hc];exact s2 c o e
 ·rintro σ H2 ⟨v2,v3,kvs,rfl,e2,hN,hkl,s2⟩
  rw[hyl,List.take_length] at hN
  walk_at "go"
  exact q a kvs H2 ha e2 hN s2
end
theorem comp_tup {K:PySem.W.Frag} {a:Addr} {xs:List V} {p:Addr} {g:TG} {tc:TT} {te:TE} {Q:VK} {σ0:St} {H0:Hp} (Pv:Nat→List V→St→Hp→Prop)
  (hl:∀ i acc σ H,i≤xs.length→Pv i acc σ H→SqT K H a xs)
  (h0:Pv 0 [] σ0 H0) (hp:∀ i acc σ H,Pv i acc σ H→H p=some (.lst acc)∧acc.length≤i) (hz:xs.length≤sizeLine)
  (hs:∀ i acc σ H,i < xs.length→Pv i acc σ H→g (xs.getD i .non) σ H fun σ3 H3=>tc σ3 H3 fun b H4 =>
   if b=true then te σ3 H4 fun v H5=>H5 p=some (.lst acc)∧Pv (i+1) (acc++[v]) σ3 (upd H5 p (.lst (acc++[v]))) else Pv (i+1) acc σ3 H4)
  (hd:∀ acc σ H,Pv xs.length acc σ H→Q (.ref p) H):CompRuns (Itt K a) p g tc te Q σ0 H0 :=
 comp_of (J:=Itt K a) (n:=xs.length) (val:=fun i=>xs.getD i .non) Pv
  (fun i acc σ H hi q=>⟨xs,xs[i],(hl i acc σ H (Nat.le_of_lt hi) q),by simp[hi]⟩) (fun acc σ H q=>⟨xs,(hl _ acc σ H (Nat.le_refl _) q),Nat.le_refl _⟩)
  (fun i acc σ H x _ hi q y=>⟨y.1,by have:=y.2 xs (hl i acc σ H (Nat.le_of_lt hi) q);rw[List.getD_eq_getElem?_getD,this];rfl⟩) h0 hp hz hs hd
theorem pe_fldK {X:Cx} {e:Expr} {f:Str} {ta:TE} {pos:Pos} {K:PySem.W.Frag} (hK:X.K=K) (he:PE X e ta) (hb:attributeBase e f X.env (eval e X.env)=eval e X.env):PE X (.Attribute e f pos) (tFld K ta f):=hK▸pe_fld he hb
def letG (hd tl:Int) (n:Nat) (g:Int):Bool:=decide (hd≤g)&&decide (g≤(n:Int) - tl)
def gapsOf (pats told:List Pat) (hd tl:Int) (w:List Nat):List Int:=match lookP told w with
 | some g=>g.2
 | none=>(brks (vals pats w)).filter (letG hd tl w.length)
def BrkAt (C:Addr) (H:Hp) (p kd ld:Addr) (pats told:List Pat) (hd tl:Int):Prop:=∃(dx:Addr) (ys:List V) (kvs:List (Key×V)),
 H p=some (.ins C dx [(("told_gaps":Str),.ref kd),(("patterns":Str),.ref ld),(("head":Str),.int hd),(("tail":Str),.int tl)])∧H kd=some (.dK kvs)∧NT H kvs told∧H ld=some (.lst ys)∧L2.IsL H ys (pats.map patD)
theorem BrkAt.same {C:Addr} {H H':Hp} {p kd ld:Addr} {pats told:List Pat} {hd tl:Int} (s:Same H H') (h:BrkAt C H p kd ld pats told hd tl):BrkAt C H' p kd ld pats told hd tl:=by
 obtain⟨dx,ys,kvs,h1,h2,h3,h4,h5⟩:=h
 exact⟨dx,ys,kvs,s _ _ h1,s _ _ h2,h3.same s,s _ _ h4,IsL.same s h5⟩
def spBrkI (C:Addr):Sp:=fun vs H Q _=>∃(p a b dx:Addr) (ya yb:List V) (pats told:List Pat) (hd tl:Int),vs=[.ref p,.ref a,.ref b,.int hd,.int tl]∧H p=some (.ins C dx [])∧H a=some (.lst ya)∧H b=some (.lst yb)∧L2.IsL H ya (pats.map patD)∧L2.IsL H yb (told.map patD)∧(told.map (·.1)).Nodup∧told.length≤1000∧pats.length≤1000 ∧
 ∀(kd ld:Addr) (H':Hp),H kd=none→H ld=none→BrkAt C H' p kd ld pats told hd tl→(∀ b o,b≠p→H b=some o→H' b=some o)→Q .non H'
def spBrkG (C:Addr):Sp:=fun vs H Q _=>∃(p kd ld:Addr) (pats told:List Pat) (hd tl:Int) (w:List Nat),vs=[.ref p,.str (S w)]∧BrkAt C H p kd ld pats told hd tl∧(∀ x∈pats,1≤x.1.length∧x.1.length≤1000∧x.2.length≤x.1.length+1)∧pats.length≤1000∧1≤w.length∧w.length≤100 ∧
 ∀(t:Addr) (H':Hp),H' t=some (.tup ((gapsOf pats told hd tl w).map V.int))→Same H H'→Q (.ref t) H'
section
variable {P:Program} {w:World} {K:PySem.W.Frag} {mg:Str→Option Value} {base:Heap} {f:Addr} {fd:FuncData} {tk:Nat→Tok} {cO:Addr}
theorem ok_Breaker_init (T:Txt mg tk) (O:Ow K mg cO) (F:Fun K "__init__" "Breaker.__init__" s_Breaker_init f fd) (D_gaps_by_word:Dn P w K mg base "gaps_by_word" 1 ["told"] spGbw):FnOk P w K mg base CX0 2 f fd ["self","patterns","told","head","tail"] (spBrkI cO):=by
 refine F.ok sc_Breaker_init (fun vs H Q E h=>?_) (fun cdv A outer s H vs Q E hr h=>?_)
 ·obtain⟨p,a,b,dx,ya,yb,pats,told,hd,tl,rfl,_⟩:=h
  rfl
 obtain⟨p,a,b,dx,ya,yb,pats,told,hd,tl,rfl,hp,ha,hb,hya,hyb,hnd,ht1,ht2,q⟩:=h
 have nd:=sc_Breaker_init.nd
 have hl1:=hya.length
 rw[List.length_map] at hl1
 refine⟨_,(jc_ (ps_fld (pv 0) (ji_ D_gaps_by_word (hr.mono (by first | decide | omega)) rfl (ja_ (pv 2) pa_nil)) rfl)
  (jc_ (ps_fld (pv 0) (pe_callTy c_list rfl T.z_list (by decide +kernel) (ja_ (pv 1) pa_nil)) rfl)
  (jc_ (ps_fld (pv 0) (pv 3) rfl)
  (jh_ (ps_fld (pv 0) (pv 4) rfl))))),?_⟩
 rw[show L2.jz_ ["self","patterns","told","head","tail"] [.ref p,.ref a,.ref b,.int hd,.int tl]=[some (.ref p),some (.ref a),some (.ref b),some (.int hd),some (.int tl)] from rfl]
 refine i_seq (i_fldS ?_)
 walk_at "go"
 refine⟨b,yb,told,rfl,hb,hyb,hnd,ht1,fun kd kvs H2 hkd ekd hN s2=>?_⟩
 have hp2:=s2 _ _ hp
 walk_at "go"
 refine i_fld2 hp2 O.cl O.n_told_gaps (by decide) ?_
 have d2:=Dat.ins hp2 (.ins cO dx (putF ("told_gaps":Str) (.ref kd) []))
 have d02:=s2.dat.trans d2
 have e2:=jb_ (H:=H2) (a:=p) (o:=.ins cO dx (putF ("told_gaps":Str) (.ref kd) []))
 have o2:=off_upd (p:=p) (x:=.ins cO dx (putF ("told_gaps":Str) (.ref kd) [])) (fun b o _ e=>s2 b o e)
 have ekd2:=d2.2.2 _ _ ekd
 have hN2:=hN.dat d2
 generalize upd H2 p (.ins cO dx (putF ("told_gaps":Str) (.ref kd) []))=H3 at d02 e2 o2 ekd2 hN2 ⊢
 walk_at "go"
 refine i_seq (i_fldS ?_)
 walk_at "go"
 refine i_listR (jn_ (d02.1 _ _ ha)) fun ld hld=>?_
 have s4:=jg_ hld (.lst ya)
 have eld:=jb_ (H:=H3) (a:=ld) (o:=.lst ya)
 generalize upd H3 ld (.lst ya)=H4 at s4 eld ⊢
 walk_at "go"
 refine i_fld2 (s4 _ _ e2) O.cl O.n_patterns (show 1 < 1000 by decide) ?_
 have d4:=Dat.ins (s4 _ _ e2) (.ins cO dx (putF ("patterns":Str) (.ref ld) (putF ("told_gaps":Str) (.ref kd) [])))
 have d04:=(d02.trans s4.dat).trans d4
 have e4:=jb_ (H:=H4) (a:=p) (o:=.ins cO dx (putF ("patterns":Str) (.ref ld) (putF ("told_gaps":Str) (.ref kd) [])))
 have o4:=off_upd (p:=p) (x:=.ins cO dx (putF ("patterns":Str) (.ref ld) (putF ("told_gaps":Str) (.ref kd) []))) (off_new o2 s4)
 have ekd4:=d4.2.2 _ _ (s4 _ _ ekd2)
 have hN4:=(hN2.same s4).dat d4
 have eld4:=d4.1 _ _ eld
 have hld0:H ld=none:=by
  cases e:H ld with
  | none=>rfl
  | some o =>
   exfalso
   by_cases z:ld=p
   ·rw[z,e2] at hld;cases hld
   ·have:=o2 ld o z e;rw[hld] at this;cases this
 generalize upd H4 p (.ins cO dx (putF ("patterns":Str) (.ref ld) (putF ("told_gaps":Str) (.ref kd) [])))=H5 at d04 e4 o4 ekd4 hN4 eld4 ⊢
 walk_at "go"
 refine i_seq (i_fldS ?_)
 walk_at "go"
 refine i_fld2 e4 O.cl O.n_head (show 2 < 1000 by decide) ?_
 have d5:=Dat.ins e4 (.ins cO dx (putF ("head":Str) (.int hd) (putF ("patterns":Str) (.ref ld) (putF ("told_gaps":Str) (.ref kd) []))))
 have d05:=d04.trans d5
 have e5:=jb_ (H:=H5) (a:=p) (o:=.ins cO dx (putF ("head":Str) (.int hd) (putF ("patterns":Str) (.ref ld) (putF ("told_gaps":Str) (.ref kd) []))))
 have o5:=off_upd (p:=p) (x:=.ins cO dx (putF ("head":Str) (.int hd) (putF ("patterns":Str) (.ref ld) (putF ("told_gaps":Str) (.ref kd) [])))) o4
 have ekd5:=d5.2.2 _ _ ekd4
 have hN5:=hN4.dat d5
 have eld5:=d5.1 _ _ eld4
 generalize upd H5 p (.ins cO dx (putF ("head":Str) (.int hd) (putF ("patterns":Str) (.ref ld) (putF ("told_gaps":Str) (.ref kd) []))))=H6 at d05 e5 o5 ekd5 hN5 eld5 ⊢
 walk_at "go"
 refine i_fldS ?_
 walk_at "go"
 refine i_fld2 e5 O.cl O.n_tail (show 3 < 1000 by decide) ?_
 have d6:=Dat.ins e5 (.ins cO dx (putF ("tail":Str) (.int tl) (putF ("head":Str) (.int hd) (putF ("patterns":Str) (.ref ld) (putF ("told_gaps":Str) (.ref kd) [])))))
 walk_at "go"
 exact q kd ld _ hkd hld0 ⟨dx,ya,kvs,jb_,d6.2.2 _ _ ekd5,hN5.dat d6,d6.1 _ _ eld5,IsL.dat (d05.trans d6) hya⟩ (off_upd o5)
theorem ok_Breaker_gaps (T:Txt mg tk) (O:Ow K mg cO) (F:Fun K "gaps" "Breaker.gaps" s_Breaker_gaps f fd) (D_breaks:Dn P w K mg base "breaks" 3 ["patterns","word"] spBreaks):FnOk P w K mg base CX0 4 f fd ["self","word"] (spBrkG cO):=by
 refine F.ok sc_Breaker_gaps (fun vs H Q E h=>?_) (fun cdv A outer s H vs Q E hr h=>?_)
 ·obtain⟨p,kd,ld,pats,told,hd,tl,w',rfl,_⟩:=h
  rfl
 obtain⟨p,kd,ld,pats,told,hd,tl,w',rfl,hB,hps,hpl,hw1,hw2,q⟩:=h
 obtain⟨dx,ys,kvs,e1,e2,hN,e3,hys⟩:=id hB
 have nd:=sc_Breaker_gaps.nd
 refine⟨_,(jc_ (j6_ (pt_cmp (pc_din (hu_of hr) (pv 1) (pe_fld (pv 0) rfl)))
   (jh_ (jo_ (pe_dget (hu_of hr) (pe_fld (pv 0) rfl) (pv 1) (fun _ _=>rfl))))
   ju_)
  (jc_ (jj_ (i:=2) nd rfl (Or.inr rfl) (jp_ o_sub (jk_ (c_len (K:=K)) rfl T.z_len (by decide +kernel) (ja_ (pv 1) pa_nil)) (pe_fld (pv 0) rfl)))
  (jh_ (jo_ (pe_callTy c_tuple rfl T.z_tuple (by decide +kernel) (ja_ (pe_comp ["self","last","gap"] [some 0,some 2,none] rfl (by kernel_rfl) rfl (pi_any (K:=K) (ji_ D_breaks (hr.mono (by first | decide | omega)) rfl (ja_ (pe_fld (pv 0) rfl) (ja_ (pv 1) pa_nil)))) (fun _ _ _ _=>(jq_ (i:=2) (show (["self","last","gap"]:List Str).Nodup by decide +kernel) rfl (Or.inl rfl) (Or.inr rfl))) (fun _ _ _ _=>(pts_one (pt_chain o_le o_le (pe_fldK (K:=K) rfl (pv 0) rfl) (pv 2) (pv 1)))) (fun _ _ _ _=>(pv 2))) pa_nil)))))),?_⟩
 rw[show L2.jz_ ["self","word","last"] [.ref p,.str (S w')]=[some (.ref p),some (.str (S w')),none] from rfl]
 have hsz:(S w').length≤sizeLine:=szn (by rw[jt_];omega)
 walk_at "go"
 refine i_tB (i_din ?_)
 walk_at "go"
 refine i_fldE ?_
 walk_at "go"
 refine i_fld1 e1 O.cl O.n_told_gaps rfl ?_
 refine⟨kd,_,rfl,DGet.k (k:=Sum.inr (S w')) e2,?_⟩
 rcases hN.val (z:=w') with ⟨q1,q2⟩ | ⟨g,t,q1,hgm,hgz,q2,q3⟩
 ·rw[q2]
  walk_at "go"
  refine i_fldE ?_
  walk_at "go"
  refine i_fld1 e1 O.cl O.n_tail rfl ?_
  walk_at "go"
  refine i_fldE ?_
  walk_at "go"
  refine i_fld1 e1 O.cl O.n_patterns rfl ?_
  walk_at "go"
  have hbl:(brks (vals pats w')).length≤100:=by
   unfold brks
   rw[List.length_map]
   refine Nat.le_trans (List.length_filter_le _ _) ?_
   rw[List.length_range,vals_length];omega
  refine⟨.ref ld,pats,w',rfl,?_,hps,hpl,hw1,hw2,fun t H1 et s1=>?_⟩
  ·simp only[Is,patsD]
   exact⟨ld,ys,rfl,e3,hys⟩
  refine i_anyT (SqT.of et) ?_
  intro r hr0
  refine comp_tup (K:=K) (a:=t) (xs:=(brks (vals pats w')).map V.int) (fun i acc σ H'=>∃ v,σ=[some (.ref p),some (.int ((w'.length:Int) - tl)),v]∧acc=(((brks (vals pats w')).take i).filter (letG hd tl w'.length)).map V.int∧Same H1 H'∧H' r=some (.lst acc))
   (fun i acc σ H' _ ⟨_,_,_,s2,_⟩=>SqT.of (s2 _ _ et)) ⟨none,rfl,rfl,jg_ hr0 _,jb_⟩ (fun i acc σ H' ⟨_,_,e,_,e2⟩=>⟨e2,by rw[e,List.length_map];exact Nat.le_trans (List.length_filter_le _ _) (by rw[List.length_take];omega)⟩) (szn (by rw[List.length_map];omega)) ?_ ?_
  ·rintro i acc σ H2 hi ⟨v,rfl,rfl,s2,e2'⟩
   rw[List.length_map] at hi
   have hgd:((brks (vals pats w')).map V.int).getD i .non=V.int (brks (vals pats w'))[i]:=by simp[List.getD_eq_getElem?_getD,hi]
   rw[hgd]
   have htk:(brks (vals pats w')).take (i+1)=(brks (vals pats w')).take i++[(brks (vals pats w'))[i]]:=by rw[List.take_succ,List.getElem?_eq_getElem hi];rfl
   have ep:=s2 _ _ (s1 _ _ e1)
   generalize (brks (vals pats w'))[i]=g at htk ⊢
   walk_at "go"
   refine i_fldE ?_
   walk_at "go"
   refine i_fld1 ep O.cl O.n_head rfl ?_
   walk_at "go"
   have keep:∀ b' o,H1 b'=some o→b'≠r:=fun b' o e z=>by rw[z,hr0] at e;cases e
   have no:letG hd tl w'.length g=false→∃ v_1,[some (V.ref p),some (V.int ((w'.length:Int) - tl)),some (V.int g)]=[some (V.ref p),some (V.int ((w'.length:Int) - tl)),v_1]∧(((brks (vals pats w')).take i).filter (letG hd tl w'.length)).map V.int=(((brks (vals pats w')).take (i+1)).filter (letG hd tl w'.length)).map V.int∧Same H1 H2∧H2 r=some (.lst ((((brks (vals pats w')).take i).filter (letG hd tl w'.length)).map V.int)):=fun hl =>
    ⟨_,rfl,by rw[htk,List.filter_append];simp[hl],s2,e2'⟩
   by_cases c:hd≤g
   ·rw[if_pos (decide_eq_true c)]
    walk_at "go"
    by_cases c2:g≤(w'.length:Int) - tl
    ·rw[if_pos (decide_eq_true c2)]
     walk_at "go"
     have hl:letG hd tl w'.length g=true:=by unfold letG;rw[decide_eq_true c,decide_eq_true c2];rfl
     refine⟨e2',_,rfl,by rw[htk,List.filter_append,List.map_append];simp[hl],fun b' o e=>by rw[jd_ (keep b' o e)];exact s2 b' o e,jb_⟩
    ·rw[if_neg (by rw[decide_eq_false c2];exact Bool.false_ne_true)]
     exact no (by unfold letG;rw[decide_eq_false c2,Bool.and_false])
   ·rw[if_neg (by rw[decide_eq_false c];exact Bool.false_ne_true)]
    refine⟨false,rfl,?_⟩
    rw[if_neg Bool.false_ne_true]
    exact no (by unfold letG;rw[decide_eq_false c,Bool.false_and])
  ·rintro acc σ H2 ⟨v,rfl,rfl,s2,e2'⟩
   rw[List.length_map,List.take_length] at e2'
   walk_at "go"
   refine i_tupleR (jn_ e2') fun t2 H3 ht k3=>?_
   walk_at "go"
   refine q t2 H3 ?_ ((s1.trans s2).trans k3)
   unfold gapsOf
   rw[q1]
   exact ht
 ·rw[q2]
  walk_at "go"
  refine i_dget ?_
  walk_at "go"
  refine i_fldE ?_
  walk_at "go"
  refine i_fld1 e1 O.cl O.n_told_gaps rfl ?_
  walk_at "go"
  refine⟨kd,_,rfl,q2▸DGet.k (k:=Sum.inr (S w')) e2,?_⟩
  walk_at "go"
  refine q t H ?_ (fun _ _ e=>e)
  unfold gapsOf
  rw[q1]
  exact q3
end
abbrev s_law_some_gaps:Stmt:=top 45
theorem sc_law_some_gaps:FnScope ["_law_feed_here","_law_word_here","_law_few"] ["_law_feed_here","_law_word_here"] (jf_ s_law_some_gaps):=⟨rfl,rfl,rfl,by decide +kernel,rfl,by decide +kernel,by decide +kernel⟩
theorem Rise_snoc:∀{b m:Nat} {g:List Nat},Rise b m g→b < m→Rise b (m+1) (g++[m])
 | b,m,[],_,h=>⟨h,Nat.lt_succ_self _,trivial⟩
 | b,m,x::g,r,h=>⟨r.1,Nat.lt_succ_of_lt r.2.1,Rise_snoc r.2.2 r.2.1⟩
theorem Rise_mono:∀{b m k:Nat} {g:List Nat},Rise b m g→m≤k→Rise b k g
 | b,m,k,[],_,_=>trivial
 | b,m,k,x::g,r,h=>⟨r.1,Nat.lt_of_lt_of_le r.2.1 h,Rise_mono r.2.2 h⟩
theorem cut_to {α:Type} (l:List α) (j:Nat) (h:j≤l.length):cutA l none (some (j:Int))=l.take j:=by
 have:=cut_plain l 0 j h (Nat.zero_le _)
 rw[List.drop_zero,Nat.sub_zero] at this
 rw[← this]
 simp[cutA,sx]
def spSG:Sp:=fun vs H Q _=>∃(p:Addr) (n:Nat) (w:List Nat),vs=[.ref p,.str (S w)]∧FeedAt H p n∧n+40 < feedTop∧1≤w.length∧w.length≤20 ∧
 ∀(t:Addr) (g:List Nat) (H':Hp),H' t=some (.tup (g.map fun k:Nat=>V.int (k:Int)))→Rise 0 w.length g→FeedAt H' p (n+40)→Kept p H H'→t≠p→Q (.ref t) H'
def PartsX (H:Hp) (pa pl tdl:Addr) (pats told:List Pat) (hd tl:Int):Prop:=∃(yp yt:List V),H pa=some (.tup [.ref pl,.ref tdl,.int hd,.int tl])∧H pl=some (.lst yp)∧L2.IsL H yp (pats.map patD)∧H tdl=some (.lst yt)∧L2.IsL H yt (told.map patD)
def PartsAt (H:Hp) (pa:Addr) (pats told:List Pat) (hd tl:Int):Prop:=∃(pl tdl:Addr) (yp yt:List V),H pa=some (.tup [.ref pl,.ref tdl,.int hd,.int tl])∧H pl=some (.lst yp)∧L2.IsL H yp (pats.map patD)∧H tdl=some (.lst yt)∧L2.IsL H yt (told.map patD)
theorem PartsAt.same {H H':Hp} {pa:Addr} {pats told:List Pat} {hd tl:Int} (s:Same H H') (h:PartsAt H pa pats told hd tl):PartsAt H' pa pats told hd tl:=by
 obtain⟨pl,tdl,yp,yt,h1,h2,h3,h4,h5⟩:=h
 exact⟨pl,tdl,yp,yt,s _ _ h1,s _ _ h2,IsL.same s h3,s _ _ h4,IsL.same s h5⟩
section
variable {P:Program} {w:World} {K:PySem.W.Frag} {mg:Str→Option Value} {base:Heap} {f:Addr} {fd:FuncData} {tk:Nat→Tok} {cO:Addr}
theorem ok_law_some_gaps (T:Txt mg tk) (F:Fun K "_law_some_gaps" "_law_some_gaps" s_law_some_gaps f fd) (D_law_next:Dn P w K mg base "_law_next" 1 ["_law_feed_here","_law_many"] spNext):FnOk P w K mg base CX0 2 f fd ["_law_feed_here","_law_word_here"] spSG:=by
 refine F.ok sc_law_some_gaps (fun vs H Q E h=>?_) (fun cdv A outer s H vs Q E hr h=>?_)
 ·obtain⟨p,n,w',rfl,_⟩:=h
  rfl
 obtain⟨p,n,w',rfl,hf,hn,hw1,hw2,q⟩:=h
 have nd:=sc_law_some_gaps.nd
 have hsz:(S w').length≤sizeLine:=szn (by rw[jt_];omega)
 refine⟨_,(jc_ (jj_ (i:=2) nd rfl (Or.inr rfl) (jp_ j0_ pe_int (ji_ D_law_next (hr.mono (by first | decide | omega)) rfl (ja_ (pv 0) (ja_ pe_int pa_nil)))))
  (jh_ (jo_ (pe_callTy c_tuple rfl T.z_tuple (by decide +kernel) (ja_ (pe_comp ["_law_feed_here","_law_few","_law_gap"] [some 0,some 2,none] rfl (by kernel_rfl) rfl (pi_range2 rfl T.z_range (ja_ pe_int (ja_ (jk_ (c_len (K:=K)) rfl T.z_len (by decide +kernel) (ja_ (pv 1) pa_nil)) pa_nil))) (fun _ _ _ _=>(jq_ (i:=2) (show (["_law_feed_here","_law_few","_law_gap"]:List Str).Nodup by decide +kernel) rfl (Or.inl rfl) (Or.inr rfl))) (fun _ _ _ _=>(pts_one (jr_ (o_eq hr.units) (ji_ D_law_next (hr.mono (by first | decide | omega)) rfl (ja_ (pv 0) (ja_ (pv 1) pa_nil))) pe_int (jy_ _)))) (fun _ _ _ _=>(pv 2))) pa_nil))))),?_⟩
 rw[show L2.jz_ ["_law_feed_here","_law_word_here","_law_few"] [.ref p,.str (S w')]=[some (.ref p),some (.str (S w')),none] from rfl]
 walk_at "go"
 refine⟨p,3,n,rfl,hf,by omega,by decide,by decide,fun few H1 hf0 hf1 hfe1 o1=>?_⟩
 walk_at "go"
 intro r hr0
 have pr:p≠r:=by obtain⟨o,e⟩:=hfe1.some;exact je_ e hr0
 refine comp_range (fun i acc σ H'=>∃(v:Option V) (g:List Nat),σ=[some (.ref p),some (.int (2+few)),v]∧acc=g.map (fun k:Nat=>V.int (k:Int))∧g.length≤i∧Rise 0 (i+1) g∧FeedAt H' p (n+1+i)∧Kept p H H'∧H' r=some (.lst acc))
  ⟨none,[],rfl,rfl,Nat.le_refl _,trivial,hfe1.new hr0,(o1.kept).new hr0 _,jb_⟩ (fun i acc σ H' ⟨_,g,_,e,hl,_,_,_,e2⟩=>⟨e2,by rw[e,List.length_map];exact hl⟩) (szn (by omega)) ?_ ?_
 ·rintro i acc σ H2 hi ⟨v,g,rfl,rfl,hgl,hgr,hf2,k2,e2⟩
  walk_at "go"
  refine⟨p,2+few,n+1+i,rfl,hf2,by omega,by omega,by omega,fun d H3 hd0 hd1 hf3 o3=>?_⟩
  have e3:H3 r=_:=(o3 r pr.symm).trans e2
  have k3:Kept p H H3:=k2.trans o3.kept
  have keep:∀ b o,b≠p→H b=some o→b≠r:=fun b o hb e z=>by
   have:=o1.kept b o hb e
   rw[z,hr0] at this;cases this
  walk_at "go"
  by_cases c:d=0
  ·rw[if_pos (by rw[c];exact decide_eq_true rfl)]
   walk_at "go"
   refine⟨e3,_,g++[i+1],rfl,?_,by simp;omega,Rise_snoc hgr (by omega),?_,fun b o hb e=>?_,jb_⟩
   ·rw[List.map_append]
    simp only[List.map_cons,List.map_nil]
    congr 3
    omega
   ·obtain⟨a1,b1,c1,g1,g2⟩:=hf3
    exact⟨a1,b1,c1,by rw[jd_ pr];exact g1,by omega⟩
   ·rw[jd_ (keep b o hb e)];exact k3 b o hb e
  ·rw[if_neg (by rw[decide_eq_false (fun z=>c (by injection z))];exact Bool.false_ne_true)]
   exact⟨_,g,rfl,rfl,by omega,Rise_mono hgr (by omega),hf3.mono (by omega),k3,e3⟩
 ·rintro acc σ H2 ⟨v,g,rfl,rfl,hgl,hgr,hf2,k2,e2⟩
  walk_at "go"
  refine i_tupleR (jn_ e2) fun t H3 ht k3=>?_
  walk_at "go"
  refine q t g H3 ht ?_ ?_ ?_ ?_
  ·exact Rise_mono hgr (by omega)
  ·obtain⟨a1,b1,c1,g1,g2⟩:=hf2
   exact⟨a1,b1,c1,k3 _ _ g1,by omega⟩
  ·exact fun b o hb e=>k3 _ _ (k2 b o hb e)
  ·intro z
   obtain⟨a1,b1,c1,g1,g2⟩:=hf2
   have:=k3 _ _ g1
   rw[← z,ht] at this
   cases this
theorem filter_brks (vs:List Int) (p:Int→Bool):(brks vs).filter p=((List.range vs.length).filter fun j=>oddAt vs j&&p ((j:Int)+1)).map fun j:Nat=>(j:Int)+1:=by
 unfold brks
 rw[List.filter_map,List.filter_filter]
 congr 2
 funext j
 rw[Bool.and_comm];rfl
theorem i_enumL {te:TE} {σ:St} {H:Hp} {R:It→Hp→Prop} (h:te σ H (enItS 0 R)):iEnumL te σ H R:=h
end
structure OkB (pats told:List Pat):Prop where
 ps:∀ x∈pats,1≤x.1.length∧x.1.length≤1000∧x.2.length≤x.1.length+1
 pl:pats.length≤100
 tl:told.length≤100
 nd:(told.map (·.1)).Nodup
 pc:∀ x∈pats,∀ c∈x.1,c < 128
 tc:∀ x∈told,∀ c∈x.1,c < 128
 tg:∀ x∈told,∃ g:List Nat,x.2=g.map (fun k:Nat=>(k:Int))∧Rise 0 x.1.length g
theorem Rise_low {n:Nat}:∀{b b':Nat} {g:List Nat},Rise b' n g→b≤b'→Rise b n g
 | _,_,[],_,_=>trivial
 | _,_,x::g,r,h=>⟨Nat.lt_of_le_of_lt h r.1,r.2⟩
theorem gaps_rise {pats told:List Pat} (o:OkB pats told) (hd tl:Int) {w:List Nat} (hw:1≤w.length):∃ g:List Nat,gapsOf pats told hd tl w=g.map (fun k:Nat=>(k:Int))∧Rise 0 w.length g:=by
 unfold gapsOf
 cases h:lookP told w with
 | some x =>
  have hm:=List.mem_of_find?_eq_some h
  have he:x.1=w:=by have:=List.find?_some h;simpa using this
  obtain⟨g,h1,h2⟩:=o.tg x hm
  exact⟨g,h1,he▸h2⟩
 | none =>
  refine⟨((List.range (vals pats w).length).filter fun j=>oddAt (vals pats w) j&&letG hd tl w.length ((j:Int)+1)).map (·+1),?_,?_⟩
  ·rw[filter_brks,List.map_map]
   apply List.map_congr_left
   intro j _
   simp
  ·rw[vals_length]
   have key:∀(p:Nat→Bool) (m b:Nat),b≤w.length→Rise b w.length (((List.range' b m).filter p).map (·+1))∨w.length≤b+m:=by
    intro p m
    induction m with
    | zero=>intro b _;exact .inl trivial
    | succ m ih =>
     intro b hb
     by_cases c:w.length≤b+(m+1)
     ·exact .inr c
     ·left
      rw[List.range'_succ,List.filter_cons]
      have h1:=(ih (b+1) (by omega)).resolve_right (by omega)
      split
      ·exact⟨Nat.lt_succ_self _,by show b+1 < _;omega,h1⟩
      ·exact Rise_low h1 (Nat.le_succ _)
   rw[List.range_eq_range']
   exact(key _ (w.length - 1) 0 (Nat.zero_le _)).resolve_right (by omega)
structure Ow2 (K:PySem.W.Frag) (mg:Str→Option Value) (cO:Addr):Prop where
 m_Tongues:mg "Tongues"=some (.ref cO)
 cl:Cls K cO
 n_breakers:NoAttr K cO "breakers"
abbrev s_Tongues_init:Stmt:=inClass (top 26) 0
theorem sc_Tongues_init:FnScope ["self"] ["self"] (jf_ s_Tongues_init):=⟨rfl,rfl,rfl,by decide +kernel,rfl,by decide +kernel,by decide +kernel⟩
abbrev s_Tongues_put:Stmt:=inClass (top 26) 1
theorem sc_Tongues_put:FnScope ["self","name","breaker"] ["self","name","breaker"] (jf_ s_Tongues_put):=⟨rfl,rfl,rfl,by decide +kernel,rfl,by decide +kernel,by decide +kernel⟩
abbrev s_Tongues_breaker_of:Stmt:=inClass (top 26) 2
theorem sc_Tongues_breaker_of:FnScope ["self","name"] ["self","name"] (jf_ s_Tongues_breaker_of):=⟨rfl,rfl,rfl,by decide +kernel,rfl,by decide +kernel,by decide +kernel⟩
abbrev s_Tongues_names:Stmt:=inClass (top 26) 5
theorem sc_Tongues_names:FnScope ["self"] ["self"] (jf_ s_Tongues_names):=⟨rfl,rfl,rfl,by decide +kernel,rfl,by decide +kernel,by decide +kernel⟩
abbrev s_with_patterns:Stmt:=top 22
theorem sc_with_patterns:FnScope ["breaker","patterns"] ["breaker","patterns"] (jf_ s_with_patterns):=⟨rfl,rfl,rfl,by decide +kernel,rfl,by decide +kernel,by decide +kernel⟩
theorem i_dget0 {td ty:TE} {σ:St} {H:Hp} {Q:VK} (h:td σ H fun x H1=>ty σ H1 fun y H2=>∃ a v,x=.ref a∧DGet H2 a y (some v)∧Q v H2):tDGet td ty σ H Q:=h
theorem i_dnotin {ty td:TE} {σ:St} {H:Hp} {Q:VK} (h:ty σ H fun y H1=>td σ H1 fun x H2=>∃ a o,x=.ref a∧DGet H2 a y o∧Q (.bl (!o.isSome)) H2):tDNotIn ty td σ H Q:=h
theorem IsL_tks {H H':Hp} (tks:∀ b zs,H b=some (.tup zs)→H' b=some (.tup zs)):∀{xs:List Pat} {ys:List V},L2.IsL H ys (xs.map patD)→L2.IsL H' ys (xs.map patD)
 | [],[],_=>by simp only[List.map_nil,L2.IsL]
 | [],_::_,h=>by simp only[List.map_nil,L2.IsL] at h
 | _::_,[],h=>by simp only[List.map_cons,L2.IsL] at h
 | x::xs,y::ys,h=>by
  simp only[List.map_cons,L2.IsL] at h ⊢
  refine⟨?_,IsL_tks tks h.2⟩
  obtain⟨a,t,rfl,h1,h2⟩:=isPat h.1
  exact isPat_mk (tks a _ h1) (tks t _ h2)
theorem nt_list {H H2:Hp} (s:Same H H2):∀{kvs:List (Key×V)} {told:List Pat} {Ts:List Addr},NT H kvs told→Ts.length=kvs.length→(∀(j:Nat) T,Ts[j]?=some T→∃ kv,kvs[j]?=some kv∧H2 T=some (.tup [kV kv.1,kv.2]))→L2.IsL H2 (Ts.map V.ref) (told.map patD)
 | [],[],[],_,_,_=>by simp only[List.map_nil,L2.IsL]
 | [],[],_::_,_,h,_=>by simp at h
 | [],_::_,_,h,_,_=>h.elim
 | _::_,[],_,h,_,_=>h.elim
 | kv::kvs,g::told,[],_,h,_=>by simp at h
 | kv::kvs,g::told,T::Ts,h,hl,hj=>by
  obtain⟨h1,⟨t,h2,h3⟩,h4⟩:=h
  obtain⟨kv',e1,e2⟩:=hj 0 T rfl
  have e1:kv=kv':=by simpa using e1
  subst e1
  rw[h1,h2] at e2
  simp only[List.map_cons,L2.IsL]
  exact⟨isPat_mk e2 (s _ _ h3),nt_list s h4 (by simpa using hl) fun j T' e=>by simpa using hj (j+1) T' (by simpa using e)⟩
def spWP (C:Addr):Sp:=fun vs H Q _=>∃(bp bkd bld a:Addr) (ya:List V) (pats0 pats told:List Pat) (hd tl:Int),vs=[.ref bp,.ref a]∧BrkAt C H bp bkd bld pats0 told hd tl∧H a=some (.lst ya)∧L2.IsL H ya (pats.map patD)∧pats.length≤1000∧told.length≤1000∧(told.map (·.1)).Nodup ∧
 ∀(p kd ld:Addr) (H':Hp),H p=none→H kd=none→H ld=none→BrkAt C H' p kd ld pats told hd tl→Same H H'→Q (.ref p) H'
def TgAt (CT:Addr) (H:Hp) (tp td:Addr) (kvs:List (Key×V)):Prop:=∃ dx,H tp=some (.ins CT dx [(("breakers":Str),.ref td)])∧H td=some (.dK kvs)
theorem TgAt.same {CT:Addr} {H H':Hp} {tp td:Addr} {kvs:List (Key×V)} (s:Same H H') (h:TgAt CT H tp td kvs):TgAt CT H' tp td kvs:=by
 obtain⟨dx,h1,h2⟩:=h
 exact⟨dx,s _ _ h1,s _ _ h2⟩
def spTgI (CT:Addr):Sp:=fun vs H Q _=>∃(p dx:Addr),vs=[.ref p]∧H p=some (.ins CT dx [])∧∀(td:Addr) (H':Hp),H td=none→TgAt CT H' p td []→(∀ b o,b≠p→H b=some o→H' b=some o)→Q .non H'
def spPut (C CT:Addr):Sp:=fun vs H Q _=>∃(tp td bp bkd bld:Addr) (kvs:List (Key×V)) (nm:List Nat) (pats told:List Pat) (hd tl:Int),vs=[.ref tp,.str (S nm),.ref bp]∧TgAt CT H tp td kvs∧BrkAt C H bp bkd bld pats told hd tl∧pats.length≤1000∧told.length≤1000∧(told.map (·.1)).Nodup∧kvs.length≤1000 ∧
 ∀(p kd ld:Addr) (H':Hp),H p=none→H kd=none→H ld=none→BrkAt C H' p kd ld pats told hd tl→H' td=some (.dK (putK kvs (Sum.inr (S nm)) (.ref p)))→(∀ b o,b≠td→H b=some o→H' b=some o)→Q .non H'
section
variable {P:Program} {w:World} {K:PySem.W.Frag} {mg:Str→Option Value} {base:Heap} {f:Addr} {fd:FuncData} {tk:Nat→Tok} {cO cO2:Addr} {ad:Nat→Addr}
theorem ok_with_patterns (T:Txt mg tk) (O:Ow K mg cO) (F:Fun K "with_patterns" "with_patterns" s_with_patterns f fd) (D_Breaker_init:Dk P w K mg base cO 2 ["self","patterns","told","head","tail"] (spBrkI cO)):FnOk P w K mg base CX0 4 f fd ["breaker","patterns"] (spWP cO):=by
 refine F.ok sc_with_patterns (fun vs H Q E h=>?_) (fun cdv A outer s H vs Q E hr h=>?_)
 ·obtain⟨bp,bkd,bld,a,ya,pats0,pats,told,hd,tl,rfl,_⟩:=h
  rfl
 obtain⟨bp,bkd,bld,a,ya,pats0,pats,told,hd,tl,rfl,hB,ha,hya,hpl,htl,hnd,q⟩:=h
 obtain⟨dx0,ys0,kvs,e1,e2,hN,e3,hys0⟩:=id hB
 have nd:=sc_with_patterns.nd
 refine⟨_,(jh_ (jo_ (pe_makeD D_Breaker_init (hr.mono (by first | decide | omega)) rfl O.m_Breaker (ja_ (pv 1) (ja_ (pe_callTy (c_listI rfl) rfl T.z_list (by decide +kernel) (ja_ (pe_bm0K (K:=K) PySem.F.plainAttrs_dict PySem.F.slot_dict_items PySem.F.type_dict_items m_items (pe_fld (pv 0) rfl)) pa_nil)) (ja_ (pe_fld (pv 0) rfl) (ja_ (pe_fld (pv 0) rfl) pa_nil))))))),?_⟩
 rw[show L2.jz_ ["breaker","patterns"] [.ref bp,.ref a]=[some (.ref bp),some (.ref a)] from rfl]
 walk_at "go"
 refine i_make ?_
 walk_at "go"
 refine i_fldE ?_
 walk_at "go"
 refine i_fld1 e1 O.cl O.n_told_gaps rfl ?_
 refine⟨Or.inr (Or.inr (Or.inl ⟨rfl,Or.inl ⟨_,e2⟩⟩)),i_items e2 fun v hv=>?_⟩
 have s1:=jg_ hv (VW v bkd)
 have ev:=jb_ (H:=H) (a:=v) (o:=VW v bkd)
 generalize upd H v (VW v bkd)=H1 at s1 ev ⊢
 walk_at "go"
 refine i_listI ev (s1 _ _ e2) fun l Ts H2 hl el hTl hTs s2=>?_
 have s02:=s1.trans s2
 have hyb:L2.IsL H2 (Ts.map V.ref) (told.map patD):=nt_list s2 (hN.same s1) hTl hTs
 walk_at "go"
 refine i_fldE ?_
 walk_at "go"
 refine i_fld1 (s02 _ _ e1) O.cl O.n_head rfl ?_
 walk_at "go"
 refine i_fldE ?_
 walk_at "go"
 refine i_fld1 (s02 _ _ e1) O.cl O.n_tail rfl ?_
 walk_at "go"
 intro x dx hx hdx hne
 have s3:Same H2 (upd (upd H2 dx (.own x)) x (.ins cO dx [])):=fun b o e=>by
  rw[jd_ (je_ e hx),jd_ (je_ e hdx)];exact e
 have e4:=jb_ (H:=upd H2 dx (.own x)) (a:=x) (o:=.ins cO dx [])
 generalize upd (upd H2 dx (.own x)) x (.ins cO dx [])=H3 at s3 e4 ⊢
 have s03:=s02.trans s3
 refine⟨x,a,l,dx,ya,Ts.map V.ref,pats,told,hd,tl,rfl,e4,s03 _ _ ha,s3 _ _ el,IsL.same s03 hya,IsL.same s3 hyb,hnd,htl,hpl,fun kd ld H5 hkd hld hB5 off=>⟨rfl,?_⟩⟩
 walk_at "go"
 exact q x kd ld H5 (s02.free hx) (s03.free hkd) (s03.free hld) hB5 fun b o e=>off b o (je_ (s02 _ _ e) hx) (s03 _ _ e)
theorem ok_Tongues_init (T:Txt mg tk) (O2:Ow2 K mg cO2) (F:Fun K "__init__" "Tongues.__init__" s_Tongues_init f fd):FnOk P w K mg base CX0 1 f fd ["self"] (spTgI cO2):=by
 refine F.ok sc_Tongues_init (fun vs H Q E h=>?_) (fun cdv A outer s H vs Q E hr h=>?_)
 ·obtain⟨p,dx,rfl,_⟩:=h
  rfl
 obtain⟨p,dx,rfl,hp,q⟩:=h
 have nd:=sc_Tongues_init.nd
 refine⟨_,(jh_ (ps_fld (pv 0) pe_dnewK rfl)),?_⟩
 rw[show L2.jz_ ["self"] [.ref p]=[some (.ref p)] from rfl]
 refine i_fldS ?_
 refine i_dnewK fun td htd=>?_
 have s1:=jg_ htd (.dK [])
 have etd:=jb_ (H:=H) (a:=td) (o:=.dK [])
 generalize upd H td (.dK [])=H1 at s1 etd ⊢
 walk_at "go"
 refine i_fld2 (s1 _ _ hp) O2.cl O2.n_breakers (by decide) ?_
 walk_at "go"
 have hne:td≠p:=fun z=>by rw[z,hp] at htd;cases htd
 exact q td _ htd ⟨dx,jb_,by rw[jd_ hne];exact etd⟩ (off_upd fun b o _ e=>s1 b o e)
theorem ok_Tongues_put (T:Txt mg tk) (O:Ow K mg cO) (O2:Ow2 K mg cO2) (F:Fun K "put" "Tongues.put" s_Tongues_put f fd) (D_with_patterns:Dn P w K mg base "with_patterns" 4 ["breaker","patterns"] (spWP cO)):FnOk P w K mg base CX0 5 f fd ["self","name","breaker"] (spPut cO cO2):=by
 refine F.ok sc_Tongues_put (fun vs H Q E h=>?_) (fun cdv A outer s H vs Q E hr h=>?_)
 ·obtain⟨tp,td,bp,bkd,bld,kvs,nm,pats,told,hd,tl,rfl,_⟩:=h
  rfl
 obtain⟨tp,td,bp,bkd,bld,kvs,nm,pats,told,hd,tl,rfl,hT,hB,hpl,htl,hnd,hkl,q⟩:=h
 obtain⟨dxt,t1,t2⟩:=id hT
 obtain⟨dx0,ys0,kvs0,e1,e2,hN,e3,hys0⟩:=id hB
 have nd:=sc_Tongues_put.nd
 refine⟨_,(jh_ (ps_dput (hu_of hr) (pe_fld (pv 0) rfl) (pv 1) (ji_ D_with_patterns (hr.mono (by first | decide | omega)) rfl (ja_ (pv 2) (ja_ (pe_fld (pv 2) rfl) pa_nil))) rfl)),?_⟩
 rw[show L2.jz_ ["self","name","breaker"] [.ref tp,.str (S nm),.ref bp]=[some (.ref tp),some (.str (S nm)),some (.ref bp)] from rfl]
 refine i_dput ?_
 walk_at "go"
 refine i_fldE ?_
 walk_at "go"
 refine i_fld1 e1 O.cl O.n_patterns rfl ?_
 walk_at "go"
 refine⟨bp,bkd,bld,bld,ys0,pats,pats,told,hd,tl,rfl,hB,e3,hys0,hpl,htl,hnd,fun p kd ld H1 hp hkd hld hB1 s1=>?_⟩
 walk_at "go"
 refine i_fldE ?_
 walk_at "go"
 refine i_fld1 (s1 _ _ t1) O2.cl O2.n_breakers rfl ?_
 walk_at "go"
 refine⟨td,_,rfl,DPut.k (k:=Sum.inr (S nm)) (s1 _ _ t2) (Nat.lt_of_le_of_lt hkl (by decide)),?_⟩
 walk_at "go"
 have kne:kd≠td:=fun z=>by rw[z,t2] at hkd;cases hkd
 have pne:p≠td:=fun z=>by rw[z,t2] at hp;cases hp
 have lne:ld≠td:=fun z=>by rw[z,t2] at hld;cases hld
 have up:∀ b o,H1 b=some o→b≠td→(upd H1 td (.dK (putK kvs (Sum.inr (S nm)) (.ref p)))) b=some o:=fun b o e hb=>by rw[jd_ hb];exact e
 have tks:∀ b zs,H1 b=some (.tup zs)→(upd H1 td (.dK (putK kvs (Sum.inr (S nm)) (.ref p)))) b=some (.tup zs):=fun b zs e=>up b _ e fun z=>by
  have:=s1 _ _ t2
  rw[z,this] at e;cases e
 obtain⟨dx1,ys1,kvs1,b1,b2,b3,b4,b5⟩:=hB1
 exact q p kd ld _ hp hkd hld ⟨dx1,ys1,kvs1,up _ _ b1 pne,up _ _ b2 kne,NT.tups tks b3,up _ _ b4 lne,IsL_tks tks b5⟩ jb_ fun b o hb e=>up b o (s1 _ _ e) hb
end
structure Bp where
 pats:List Pat
 told:List Pat
 hd:Int
 tl:Int
def TR (C:Addr) (H:Hp):List (Key×V)→List (Key×V)→List (List Nat×Bp)→Prop
 | [],[],[]=>True
 | kv::kvs,kw::kws,m::ms=>kv.1=Sum.inr (S m.1)∧kw.1=Sum.inr (S m.1)∧(∃ p kd ld,kv.2=.ref p∧BrkAt C H p kd ld m.2.pats m.2.told m.2.hd m.2.tl)∧(∃ pa,kw.2=.ref pa∧PartsAt H pa m.2.pats m.2.told m.2.hd m.2.tl)∧OkB m.2.pats m.2.told∧TR C H kvs kws ms
 | _,_,_=>False
theorem TR.ind {C:Addr} {H:Hp} {M:List (Key×V)→List (Key×V)→List (List Nat×Bp)→Prop} (h0:M [] [] [])
  (h1:∀ kv kvs kw kws m ms,kv.1=Sum.inr (S m.1)→kw.1=Sum.inr (S m.1)→(∃ p kd ld,kv.2=.ref p∧BrkAt C H p kd ld m.2.pats m.2.told m.2.hd m.2.tl)→(∃ pa,kw.2=.ref pa∧PartsAt H pa m.2.pats m.2.told m.2.hd m.2.tl)→OkB m.2.pats m.2.told→TR C H kvs kws ms→M kvs kws ms→M (kv::kvs) (kw::kws) (m::ms)) :
  ∀{kvs kws:List (Key×V)} {ms:List (List Nat×Bp)},TR C H kvs kws ms→M kvs kws ms
 | [],[],[],_=>h0
 | [],[],_::_,h=>h.elim
 | [],_::_,_,h=>h.elim
 | _::_,[],_,h=>h.elim
 | _::_,_::_,[],h=>h.elim
 | kv::kvs,kw::kws,m::ms,h=>h1 kv kvs kw kws m ms h.1 h.2.1 h.2.2.1 h.2.2.2.1 h.2.2.2.2.1 h.2.2.2.2.2 (TR.ind h0 h1 h.2.2.2.2.2)
theorem TR.same {C:Addr} {H H':Hp} (s:Same H H') {kvs kws:List (Key×V)} {ms:List (List Nat×Bp)} (h:TR C H kvs kws ms):TR C H' kvs kws ms :=
 TR.ind (M:=fun kvs kws ms=>TR C H' kvs kws ms) trivial (fun _ _ _ _ _ _ a b ⟨p,kd,ld,c1,c2⟩ ⟨pa,d1,d2⟩ e _ ih=>⟨a,b,⟨p,kd,ld,c1,c2.same s⟩,⟨pa,d1,d2.same s⟩,e,ih⟩) h
theorem TR.keys {C:Addr} {H:Hp} {kvs kws:List (Key×V)} {ms:List (List Nat×Bp)} (h:TR C H kvs kws ms):kvs.map (·.1)=(ms.map fun m=>S m.1).map Sum.inr∧kws.map (·.1)=(ms.map fun m=>S m.1).map Sum.inr :=
 TR.ind (M:=fun kvs kws ms=>kvs.map (·.1)=(ms.map fun m=>S m.1).map Sum.inr∧kws.map (·.1)=(ms.map fun m=>S m.1).map Sum.inr) ⟨rfl,rfl⟩ (fun _ _ _ _ _ _ a b _ _ _ _ ih=>by
  simp only[List.map_cons]
  rw[ih.1,ih.2,a,b]
  exact⟨rfl,rfl⟩) h
theorem TR.lens {C:Addr} {H:Hp} {kvs kws:List (Key×V)} {ms:List (List Nat×Bp)} (h:TR C H kvs kws ms):kvs.length=ms.length∧kws.length=ms.length:=by
 have:=h.keys
 have a:=congrArg List.length this.1
 have b:=congrArg List.length this.2
 simp only[List.length_map] at a b
 exact⟨a,b⟩
def putM (ms:List (List Nat×Bp)) (z:List Nat) (b:Bp):List (List Nat×Bp):=if (ms.any fun m=>decide (m.1=z))=true then ms.map (fun m=>if m.1=z then (m.1,b) else m) else ms++[(z,b)]
theorem putM_len (ms:List (List Nat×Bp)) (z:List Nat) (b:Bp):(putM ms z b).length≤ms.length+1:=by
 unfold putM
 split
 ·rw[List.length_map];omega
 ·rw[List.length_append];simp
theorem TR.any {C:Addr} {H:Hp} (z:List Nat) {kvs kws:List (Key×V)} {ms:List (List Nat×Bp)} (h:TR C H kvs kws ms) :
  (kvs.any fun kv=>decide (kv.1=(Sum.inr (S z):Key)))=(ms.any fun m=>decide (m.1=z))∧(kws.any fun kv=>decide (kv.1=(Sum.inr (S z):Key)))=(ms.any fun m=>decide (m.1=z)):=by
 refine TR.ind (M:=fun kvs kws ms=>(kvs.any fun kv=>decide (kv.1=(Sum.inr (S z):Key)))=(ms.any fun m=>decide (m.1=z))∧(kws.any fun kv=>decide (kv.1=(Sum.inr (S z):Key)))=(ms.any fun m=>decide (m.1=z))) ⟨rfl,rfl⟩ ?_ h
 intro kv kvs kw kws m ms a b _ _ _ _ ih
 rw[List.any_cons,List.any_cons,List.any_cons,ih.1,ih.2,a,b]
 have e:decide ((Sum.inr (S m.1):Key)=Sum.inr (S z))=decide (m.1=z):=by
  by_cases e:m.1=z
  ·rw[decide_eq_true e,decide_eq_true (by rw[e])]
  ·rw[decide_eq_false e,decide_eq_false fun q=>e (kS_inj q)]
 rw[e]
 exact⟨rfl,rfl⟩
theorem TR.append {C:Addr} {H:Hp} {kvs kws kvs' kws':List (Key×V)} {ms ms':List (List Nat×Bp)} (h:TR C H kvs kws ms) (h':TR C H kvs' kws' ms'):TR C H (kvs++kvs') (kws++kws') (ms++ms') :=
 TR.ind (M:=fun kvs kws ms=>TR C H (kvs++kvs') (kws++kws') (ms++ms')) h' (fun _ _ _ _ _ _ a b c d e _ ih=>⟨a,b,c,d,e,ih⟩) h
def offH (H:Hp) (D:List Addr):Hp:=fun b=>if b∈D then none else H b
theorem offH_get {H:Hp} {D:List Addr} {b:Addr} (h:b∉D):offH H D b=H b:=by unfold offH;rw[if_neg h]
theorem offH_some {H:Hp} {D:List Addr} {b:Addr} {o:HO} (h:offH H D b=some o):b∉D∧H b=some o:=by
 unfold offH at h
 split at h
 ·cases h
 ·rename_i hb;exact⟨hb,h⟩
theorem offH_sub (H:Hp) (D:List Addr):Same (offH H D) H:=fun b o e=>(offH_some e).2
theorem offH_mono {H H':Hp} {D D':List Addr} (h:∀ b o,b∉D→H b=some o→b∉D'∧H' b=some o):Same (offH H D) (offH H' D'):=fun b o e=>by
 obtain⟨h1,h2⟩:=offH_some e
 obtain⟨h3,h4⟩:=h b o h1 h2
 rw[offH_get h3];exact h4
theorem BrkAt.offD {C:Addr} {H:Hp} {D:List Addr} {p kd ld:Addr} {pats told:List Pat} {hd tl:Int} (hD:∀ b∈D,∀ zs,H b≠some (.tup zs)) (h1:p∉D) (h2:kd∉D) (h3:ld∉D) (h:BrkAt C H p kd ld pats told hd tl):BrkAt C (offH H D) p kd ld pats told hd tl:=by
 obtain⟨dx,ys,kvs,b1,b2,b3,b4,b5⟩:=h
 have tks:∀ b zs,H b=some (.tup zs)→offH H D b=some (.tup zs):=fun b zs e=>by rw[offH_get fun hb=>hD b hb zs e];exact e
 exact⟨dx,ys,kvs,by rw[offH_get h1];exact b1,by rw[offH_get h2];exact b2,NT.tups tks b3,by rw[offH_get h3];exact b4,IsL_tks tks b5⟩
theorem PartsX.offD {H:Hp} {D:List Addr} {pa pl tdl:Addr} {pats told:List Pat} {hd tl:Int} (hD:∀ b∈D,∀ zs,H b≠some (.tup zs)) (h2:pl∉D) (h3:tdl∉D) (h:PartsX H pa pl tdl pats told hd tl):PartsAt (offH H D) pa pats told hd tl:=by
 obtain⟨yp,yt,a1,a2,a3,a4,a5⟩:=h
 have tks:∀ b zs,H b=some (.tup zs)→offH H D b=some (.tup zs):=fun b zs e=>by rw[offH_get fun hb=>hD b hb zs e];exact e
 exact⟨pl,tdl,yp,yt,tks _ _ a1,by rw[offH_get h2];exact a2,IsL_tks tks a3,by rw[offH_get h3];exact a4,IsL_tks tks a5⟩
abbrev s_is_letter:Stmt:=top 17
theorem sc_is_letter:FnScope ["sign"] ["sign"] (jf_ s_is_letter):=⟨rfl,rfl,rfl,by decide +kernel,rfl,by decide +kernel,by decide +kernel⟩
abbrev s_is_word:Stmt:=top 18
theorem sc_is_word:FnScope ["text"] ["text"] (jf_ s_is_word):=⟨rfl,rfl,rfl,by decide +kernel,rfl,by decide +kernel,by decide +kernel⟩
def spIsLetter:Sp:=fun vs H Q _=>∃ c:Nat,vs=[.str (S [c])]∧Q (.bl (isLow c)) H
def spIsWord:Sp:=fun vs H Q _=>∃ l:List Nat,vs=[.str (S l)]∧l.length≤1000∧∀ H',Same H H'→Q (.bl (isWord l)) H'
section
variable {P:Program} {w:World} {K:PySem.W.Frag} {mg:Str→Option Value} {base:Heap} {f:Addr} {fd:FuncData} {tk:Nat→Tok}
theorem ok_is_letter (T:Txt mg tk) (F:Fun K "is_letter" "is_letter" s_is_letter f fd):FnOk P w K mg base CX0 1 f fd ["sign"] spIsLetter:=by
 refine F.ok sc_is_letter (fun vs H Q E h=>?_) (fun cdv A outer s H vs Q E hr h=>?_)
 ·obtain⟨c,rfl,_⟩:=h
  rfl
 obtain⟨c,rfl,q⟩:=h
 have nd:=sc_is_letter.nd
 refine⟨_,(jh_ (jo_ (pe_cmpR o_in (pv 0) (pe_glob (v:=.str "abcdefghijklmnopqrstuvwxyz") rfl T.m_LETTERS ⟨_,rfl⟩) (by with_unfolding_all rfl)))),?_⟩
 rw[show L2.jz_ ["sign"] [.str (S [c])]=[some (.str (S [c]))] from rfl]
 rw[t_let]
 walk_at "go"
 rw[let_in,Bool.false_xor]
 exact q
theorem ok_is_word (T:Txt mg tk) (F:Fun K "is_word" "is_word" s_is_word f fd) (D_is_letter:Dn P w K mg base "is_letter" 1 ["sign"] spIsLetter):FnOk P w K mg base CX0 2 f fd ["text"] spIsWord:=by
 refine F.ok sc_is_word (fun vs H Q E h=>?_) (fun cdv A outer s H vs Q E hr h=>?_)
 ·obtain⟨l,rfl,_⟩:=h
  rfl
 obtain⟨l,rfl,hl,q⟩:=h
 have nd:=sc_is_word.nd
 refine⟨_,(jh_ (jo_ (pe_and (pe_cmpR o_gt (jk_ (c_len (K:=K)) rfl T.z_len (by decide +kernel) (ja_ (pv 0) pa_nil)) pe_int (jy_ _)) (pe_one (jk_ (c_all rfl) rfl T.z_all (by decide +kernel) (ja_ (pe_comp ["sign"] [none] rfl (by kernel_rfl) rfl (pi_any (K:=K) (pv 0)) (fun _ _ _ _=>(jq_ (i:=0) (show (["sign"]:List Str).Nodup by decide +kernel) rfl (Or.inl rfl) (Or.inr rfl))) (fun _ _ _ _=>pts_nil) (fun _ _ _ _=>(ji_ D_is_letter (hr.mono (by first | decide | omega)) rfl (ja_ (pv 0) pa_nil)))) pa_nil)))))),?_⟩
 rw[show L2.jz_ ["text"] [.str (S l)]=[some (.str (S l))] from rfl]
 have hll:(S l).length≤sizeLine:=szn (by rw[jt_];omega)
 walk_at "go"
 try rw[jt_]
 refine iteD (fun c=>?_) (fun c=>?_)
 ·walk_at "go"
  intro r hr0
  refine comp_its (fun i acc σ H'=>∃ v,σ=[v]∧acc=((l.take i).map isLow).map V.bl∧Same H H'∧H' r=some (.lst acc))
   ⟨none,rfl,rfl,jg_ hr0 _,jb_⟩ (fun i acc σ H' ⟨_,_,e,_,e2⟩=>⟨e2,by rw[e];simp;omega⟩) (szn (by rw[chs_length,jt_];omega)) ?_ ?_
  ·rintro i acc σ H' hi ⟨v,rfl,rfl,s1,e1⟩
   rw[chs_length,jt_] at hi
   rw[chs_get hi]
   walk_at "go"
   refine⟨l[i],rfl,e1,_,rfl,?_,fun c o e=>?_,jb_⟩
   ·rw[List.take_succ,List.getElem?_eq_getElem hi,List.map_append,List.map_append];rfl
   ·have hcr:c≠r:=fun z=>by rw[z,hr0] at e;cases e
    rw[jd_ hcr];exact s1 _ _ e
  ·rintro acc σ H' ⟨v,rfl,rfl,s1,e1⟩
   walk_at "go"
   refine i_allL (lstR_of e1) ?_
   walk_at "go"
   rw[chs_length,jt_,List.take_length]
   have e:(l.map isLow).all id=isWord l:=by
    unfold isWord
    rw[decide_eq_true (by omega),Bool.true_and,List.all_map];rfl
   rw[e]
   exact q H' s1
 ·have e:isWord l=false:=by
   unfold isWord
   rw[decide_eq_false (by omega),Bool.false_and]
  walk_at "go"
  rw[← e]
  exact q H (Same.refl H)
end
abbrev s_mark_of:Stmt:=top 29
theorem sc_mark_of:FnScope ["thing","last"] ["thing"] (jf_ s_mark_of):=⟨rfl,rfl,rfl,by decide +kernel,rfl,by decide +kernel,by decide +kernel⟩
abbrev s_word_of:Stmt:=top 30
theorem sc_word_of:FnScope ["thing"] ["thing"] (jf_ s_word_of):=⟨rfl,rfl,rfl,by decide +kernel,rfl,by decide +kernel,by decide +kernel⟩
abbrev s_is_name:Stmt:=top 25
theorem sc_is_name:FnScope ["text"] ["text"] (jf_ s_is_name):=⟨rfl,rfl,rfl,by decide +kernel,rfl,by decide +kernel,by decide +kernel⟩
abbrev s_is_thing:Stmt:=top 31
theorem sc_is_thing:FnScope ["thing"] ["thing"] (jf_ s_is_thing):=⟨rfl,rfl,rfl,by decide +kernel,rfl,by decide +kernel,by decide +kernel⟩
abbrev s_check_things:Stmt:=top 32
theorem sc_check_things:FnScope ["text","place","thing"] ["text"] (jf_ s_check_things):=⟨rfl,rfl,rfl,by decide +kernel,rfl,by decide +kernel,by decide +kernel⟩
abbrev s_pieces:Stmt:=top 33
theorem sc_pieces:FnScope ["tongues","text","told","breaker","place","thing","word"] ["tongues","text"] (jf_ s_pieces):=⟨rfl,rfl,rfl,by decide +kernel,rfl,by decide +kernel,by decide +kernel⟩
structure Tc (K:PySem.W.Frag) (mg:Str→Option Value) (mkT:Addr):Prop where
 m:mg "MARKS"=some (.ref mkT)
 s:∀ H,SqT K H mkT [V.str ",",V.str ".",V.str ";",V.str ":",V.str "!",V.str "?"]
def isMark (c:Nat):Bool:=[44,46,59,58,33,63].contains c
def lastL (l:List Nat):List Nat:=l.drop (l.length - 1)
def markL (l:List Nat):List Nat:=if (lastL l).any isMark=true then lastL l else []
def wordL (l:List Nat):List Nat:=l.take (l.length - (markL l).length)
def isAt (l:List Nat):Bool:=l.head? == some 64
def isNm (l:List Nat):Bool:=isWord l&&decide (l.length≤8)
def isThing (l:List Nat):Bool:=if isAt l=true then isNm l.tail else isWord (wordL l)
theorem lastL_len (l:List Nat):(lastL l).length≤1:=by unfold lastL;rw[List.length_drop];omega
theorem markL_len (l:List Nat):(markL l).length≤1:=by
 unfold markL
 split
 ·exact lastL_len l
 ·exact Nat.zero_le _
theorem cut_last (l:List Nat):cutA l (some (-1)) none=lastL l:=by
 unfold cutA lastL
 have h1:sx l.length 0 (some (-1))=l.length - 1:=by simp only[sx];rw[if_pos (by decide)];omega
 have h2:sx l.length l.length none=l.length:=rfl
 rw[h1,h2]
 exact List.take_of_length_le (by rw[List.length_drop];exact Nat.le_refl _)
theorem marks_in {x:List Nat} (hx:x.length≤1):inV (.str (S x)) [V.str ",",V.str ".",V.str ";",V.str ":",V.str "!",V.str "?"]=x.any isMark:=by
 match x,hx with
 | [],_=>decide +kernel
 | [c],_ =>
  have e:[V.str ",",V.str ".",V.str ";",V.str ":",V.str "!",V.str "?"]=[44,46,59,58,33,63].map fun d=>V.str (S [d]):=by decide +kernel
  rw[e]
  unfold inV isMark
  rw[List.any_map]
  simp only[List.any_cons,List.any_nil,Bool.or_false,List.contains_eq_any_beq]
  have q:∀ d:Nat,(eqV (V.str (S [d])) (V.str (S [c])))=(c == d):=fun d=>by
   by_cases h:c=d
   ·subst h;simp[eqV]
   ·have h2:(S [d] == S [c])=false:=by
     rw[beq_eq_false_iff_ne]
     intro z
     have:=S_inj z
     injection this with this
     exact h this.symm
    rw[show (c == d)=false by rw[beq_eq_false_iff_ne];exact h]
    simp[eqV,h2]
  simp only[Function.comp,q]
def spMark:Sp:=fun vs H Q _=>∃ l:List Nat,vs=[.str (S l)]∧l.length≤1000∧Q (.str (S (markL l))) H
def spWordOf:Sp:=fun vs H Q _=>∃ l:List Nat,vs=[.str (S l)]∧l.length≤1000∧Q (.str (S (wordL l))) H
def spIsName:Sp:=fun vs H Q _=>∃ l:List Nat,vs=[.str (S l)]∧l.length≤1000∧∀ H',Same H H'→Q (.bl (isNm l)) H'
def spIsThing:Sp:=fun vs H Q _=>∃ l:List Nat,vs=[.str (S l)]∧l.length≤1000∧∀ H',Same H H'→Q (.bl (isThing l)) H'
theorem t_at:Str.ofString "@"=S [64]:=by decide +kernel
theorem starts_at (l:List Nat):Txt.startswith (S l) (S [64])=isAt l:=by
 unfold Txt.startswith
 rw[subAt_S,jt_,jt_]
 cases l with
 | nil=>rfl
 | cons x r =>
  simp only[List.drop_zero,List.length_cons,List.length_nil,isAt,List.head?_cons]
  by_cases h:x=64
  ·subst h;simp
  ·simp[h]
section
variable {P:Program} {w:World} {K:PySem.W.Frag} {mg:Str→Option Value} {base:Heap} {f:Addr} {fd:FuncData} {tk:Nat→Tok} {cO cO2 mkT:Addr}
theorem ok_mark_of (T:Txt mg tk) (TC:Tc K mg mkT) (F:Fun K "mark_of" "mark_of" s_mark_of f fd):FnOk P w K mg base CX0 1 f fd ["thing"] spMark:=by
 refine F.ok sc_mark_of (fun vs H Q E h=>?_) (fun cdv A outer s H vs Q E hr h=>?_)
 ·obtain⟨l,rfl,_⟩:=h
  rfl
 obtain⟨l,rfl,hl,q⟩:=h
 have nd:=sc_mark_of.nd
 refine⟨_,(jc_ (jj_ (i:=1) nd rfl (Or.inl rfl) (js_ (j4_ (K:=K)) (pv 0) (jv_ (pe_un o_neg pe_int)) j1_))
  (jh_ (jo_ (pe_ifExp (jr_ (o_inK (K:=K)) (pv 1) (pe_glob (v:=.ref mkT) rfl TC.m rfl) (by with_unfolding_all rfl)) (pv 1) pe_str)))),?_⟩
 rw[show L2.jz_ ["thing","last"] [.str (S l)]=[some (.str (S l)),none] from rfl]
 rw[t_empty]
 walk_at "go"
 rw[cut_last]
 walk_at "go"
 refine⟨mkT,_,rfl,.inr (TC.s H),rfl,rfl,?_⟩
 rw[if_neg Bool.false_ne_true,marks_in (lastL_len l)]
 walk_at "go"
 refine iteB (fun c=>?_) (fun c=>?_)
 ·have e:markL l=lastL l:=by unfold markL;rw[if_pos c]
  rw[e] at q
  walk_at "go"
  exact q
 ·have e:markL l=[]:=by unfold markL;rw[if_neg (by rw[c];exact Bool.false_ne_true)]
  rw[e] at q
  walk_at "go"
  exact q
theorem ok_word_of (T:Txt mg tk) (F:Fun K "word_of" "word_of" s_word_of f fd) (D_mark_of:Dn P w K mg base "mark_of" 1 ["thing"] spMark):FnOk P w K mg base CX0 2 f fd ["thing"] spWordOf:=by
 refine F.ok sc_word_of (fun vs H Q E h=>?_) (fun cdv A outer s H vs Q E hr h=>?_)
 ·obtain⟨l,rfl,_⟩:=h
  rfl
 obtain⟨l,rfl,hl,q⟩:=h
 have nd:=sc_word_of.nd
 have hm:=markL_len l
 refine⟨_,(jh_ (jo_ (js_ (j4_ (K:=K)) (pv 0) j1_ (jv_ (jp_ o_sub (jk_ (c_len (K:=K)) rfl T.z_len (by decide +kernel) (ja_ (pv 0) pa_nil)) (jk_ (c_len (K:=K)) rfl T.z_len (by decide +kernel) (ja_ (ji_ D_mark_of (hr.mono (by first | decide | omega)) rfl (ja_ (pv 0) pa_nil)) pa_nil))))))),?_⟩
 rw[show L2.jz_ ["thing"] [.str (S l)]=[some (.str (S l))] from rfl]
 walk_at "go"
 refine⟨l,rfl,hl,?_⟩
 walk_at "go"
 have hle:(markL l).length≤l.length:=by
  unfold markL
  split
  ·unfold lastL;rw[List.length_drop];omega
  ·exact Nat.zero_le _
 have e:cutA l none (some ((l.length:Int) - ((markL l).length:Int)))=wordL l:=by
  rw[show (l.length:Int) - ((markL l).length:Int)=((l.length - (markL l).length:Nat):Int) by omega]
  exact cut_to l _ (by omega)
 rw[e]
 walk_at "go"
 exact q
theorem ok_is_name (T:Txt mg tk) (F:Fun K "is_name" "is_name" s_is_name f fd) (D_is_word:Dn P w K mg base "is_word" 2 ["text"] spIsWord):FnOk P w K mg base CX0 3 f fd ["text"] spIsName:=by
 refine F.ok sc_is_name (fun vs H Q E h=>?_) (fun cdv A outer s H vs Q E hr h=>?_)
 ·obtain⟨l,rfl,_⟩:=h
  rfl
 obtain⟨l,rfl,hl,q⟩:=h
 have nd:=sc_is_name.nd
 refine⟨_,(jh_ (jo_ (pe_and (ji_ D_is_word (hr.mono (by first | decide | omega)) rfl (ja_ (pv 0) pa_nil)) (pe_one (pe_cmpR o_le (jk_ (c_len (K:=K)) rfl T.z_len (by decide +kernel) (ja_ (pv 0) pa_nil)) (pe_glob (v:=.int 8) rfl T.m_MOST_LETTERS ⟨_,rfl⟩) (jy_ _)))))),?_⟩
 rw[show L2.jz_ ["text"] [.str (S l)]=[some (.str (S l))] from rfl]
 walk_at "go"
 refine⟨l,rfl,hl,fun H1 s1=>?_⟩
 have q1:=q H1 s1
 walk_at "go"
 cases e:isWord l with
 | false =>
  walk_at "go"
  have:isNm l=false:=by unfold isNm;rw[e];rfl
  rw[this] at q1
  exact q1
 | true =>
  walk_at "go"
  have:isNm l=decide ((l.length:Int)≤8):=by
   unfold isNm;rw[e,Bool.true_and]
   by_cases c:l.length≤8
   ·rw[decide_eq_true c,decide_eq_true (by omega)]
   ·rw[decide_eq_false c,decide_eq_false (by omega)]
  rw[this] at q1
  exact q1
theorem ok_is_thing (T:Txt mg tk) (F:Fun K "is_thing" "is_thing" s_is_thing f fd) (D_is_word:Dn P w K mg base "is_word" 2 ["text"] spIsWord) (D_is_name:Dn P w K mg base "is_name" 3 ["text"] spIsName) (D_word_of:Dn P w K mg base "word_of" 2 ["thing"] spWordOf):FnOk P w K mg base CX0 4 f fd ["thing"] spIsThing:=by
 refine F.ok sc_is_thing (fun vs H Q E h=>?_) (fun cdv A outer s H vs Q E hr h=>?_)
 ·obtain⟨l,rfl,_⟩:=h
  rfl
 obtain⟨l,rfl,hl,q⟩:=h
 have nd:=sc_is_thing.nd
 refine⟨_,(jc_ (j6_ (pt_tru (pe_bmK (K:=K) PySem.F.plainAttrs_str PySem.F.slot_str_startswith PySem.F.type_str_startswith m_startswith1 (pv 0) (ja_ pe_str pa_nil)) (fun _=>rfl))
   (jh_ (jo_ (ji_ D_is_name (hr.mono (by first | decide | omega)) rfl (ja_ (js_ (j4_ (K:=K)) (pv 0) (jv_ pe_int) j1_) pa_nil))))
   ju_)
  (jh_ (jo_ (ji_ D_is_word (hr.mono (by first | decide | omega)) rfl (ja_ (ji_ D_word_of (hr.mono (by first | decide | omega)) rfl (ja_ (pv 0) pa_nil)) pa_nil))))),?_⟩
 rw[show L2.jz_ ["thing"] [.str (S l)]=[some (.str (S l))] from rfl]
 rw[t_at]
 walk_at "go"
 rw[starts_at]
 walk_at "go"
 cases e:isAt l with
 | true =>
  walk_at "go"
  have hc:cutA l (some 1) none=l.tail:=by
   have:=cut_from l 1 (by
    cases l with
    | nil=>simp[isAt] at e
    | cons x r=>simp)
   rw[List.drop_one] at this
   exact this
  rw[hc]
  refine⟨l.tail,rfl,by rw[List.length_tail];omega,fun H1 s1=>?_⟩
  walk_at "go"
  have q1:=q H1 s1
  unfold isThing at q1
  rw[e,if_pos rfl] at q1
  exact q1
 | false =>
  walk_at "go"
  refine⟨l,rfl,hl,?_⟩
  walk_at "go"
  refine⟨wordL l,rfl,by unfold wordL;rw[List.length_take];omega,fun H1 s1=>?_⟩
  walk_at "go"
  have q1:=q H1 s1
  unfold isThing at q1
  rw[e,if_neg Bool.false_ne_true] at q1
  exact q1
end
theorem small_tx {n:Nat} (h:n≤1000):okTx (.int (n:Int)):=.inl ⟨(n:Int),rfl,by
 have h2:((n:Int)).natAbs=n:=by omega
 rw[h2]
 by_cases z:n=0
 ·rw[z];decide
 ·have:=(Nat.log2_lt z).mpr (show n < 2 ^ 10 by omega)
  omega⟩
def refuses (C:Addr) (f:Str) (y:V) (H:Hp) (E:XK):Prop:=∀ e d H',H' e=some (XO e C (some d) false)→H' d=some (.xd [(f,y)])→Same H H'→E (.ref e) (some d) H'
def j3_:List (List Nat)→Nat→Option Nat
 | [],_=>none
 | l::r,k=>if isThing l=true then j3_ r (k+1) else some k
def spCheckX (NTh:Addr):Sp:=fun vs H Q E=>∃(a:Addr) (ls:List (List Nat)),vs=[.ref a]∧H a=some (.lst (ls.map fun l=>V.str (S l)))∧ls.length≤1000∧(∀ l∈ls,l.length≤1000) ∧
 (j3_ ls 0=none→∀ H',Same H H'→Q .non H')∧∀ k:Nat,j3_ ls 0=some k→refuses NTh "place" (.int (k:Int)) H E
theorem drop_at {α:Type} {ls:List α} {i:Nat} {l:α} (h:ls[i]?=some l):ls.drop i=l::ls.drop (i+1):=by
 obtain⟨h1,h2⟩:=List.getElem?_eq_some_iff.mp h
 rw[← h2];exact List.drop_eq_getElem_cons h1
section
variable {P:Program} {w:World} {K:PySem.W.Frag} {mg:Str→Option Value} {base:Heap} {f:Addr} {fd:FuncData} {tk:Nat→Tok} {cO cO2 mkT:Addr} {ad:Nat→Addr}
theorem ok_check_things (T:Txt mg tk) (Z:Cs K mg ad) (F:Fun K "check_things" "check_things" s_check_things f fd) (D_is_thing:Dn P w K mg base "is_thing" 4 ["thing"] spIsThing) (D_NoThing_init:Ini P w K mg base (ad 3) 1 ["self","place"] (spIni okTx (ad 3) "place")):FnOk P w K mg base (CXx P w) 5 f fd ["text"] (spCheckX (ad 3)):=by
 refine F.okX sc_check_things (fun vs H Q E h=>?_) (fun cdv A outer s H vs Q E hr h=>?_)
 ·obtain⟨a,ls,rfl,_⟩:=h
  rfl
 obtain⟨a,ls,rfl,ha,hll,hls,q,qe⟩:=h
 have nd:=sc_check_things.nd
 refine⟨_,(jh_ (ps_for PassesOwn.leaving rfl (pi_enumL rfl T.z_enumerate (pv 0)) (pg_tup rfl (zb_ (jq_ (i:=1) nd rfl (Or.inl rfl)) (zb_ (jq_ (i:=2) nd rfl (Or.inl rfl)) pgs_nil)))
   (jh_ (j6_ (pt_not (pt_tru (ji_ D_is_thing (hr.mono (by first | decide | omega)) rfl (ja_ (pv 2) pa_nil)) (fun _=>rfl)))
   (jh_ (ps_raise rfl thr_body (pe_makeI Z.x_NoThing D_NoThing_init (hr.mono (by first | decide | omega)) rfl Z.m_NoThing (ja_ (pv 1) pa_nil))))
   ju_)))),?_⟩
 rw[show L2.jz_ ["text","place","thing"] [.ref a]=[some (.ref a),none,none] from rfl]
 walk_at "go"
 refine i_enumL ?_
 walk_at "go"
 refine i_enSL ha ?_
 refine for_en (fun i σ H'=>∃(v1 v2:Option V),σ=[some (.ref a),v1,v2]∧j3_ ls 0=j3_ (ls.drop i) i∧Same H H')
  ⟨none,none,rfl,rfl,Same.refl _⟩ (fun _ _ H' _ ⟨_,_,_,_,s⟩=>s _ _ ha) ?_ ?_
 ·rintro i v σ H2 T2 hv ⟨v1,v2,rfl,hfb,s2⟩ hT
  rw[List.getElem?_map] at hv
  obtain⟨l,hl,rfl⟩:∃ l,ls[i]?=some l∧v=V.str (S l):=by
   cases e:ls[i]? with
   | none=>rw[e] at hv;cases hv
   | some l=>rw[e] at hv;cases hv;exact⟨l,rfl,rfl⟩
  have hi:=(List.getElem?_eq_some_iff.mp hl).1
  rw[drop_at hl] at hfb
  refine i_gtup jb_ rfl (i_gcons (i_name (i_gcons (i_name (i_gnil ?_)))))
  have s3:=s2.trans (jg_ hT (.tup [.int (((0:Nat):Int)+(i:Int)),.str (S l)]))
  have hii:V.int (((0:Nat):Int)+(i:Int))=V.int (i:Int):=by congr 1;omega
  walk_at "go"
  refine⟨l,rfl,hls l (List.mem_of_getElem? hl),fun H3 s4=>?_⟩
  cases e:isThing l with
  | true =>
   have e2:j3_ (l::ls.drop (i+1)) i=j3_ (ls.drop (i+1)) (i+1):=by simp only[j3_];rw[if_pos e]
   walk_at "go"
   exact⟨_,_,rfl,hfb.trans e2,s3.trans s4⟩
  | false =>
   have e2:j3_ (l::ls.drop (i+1)) i=some i:=by simp only[j3_];rw[if_neg (by rw[e];exact Bool.false_ne_true)]
   walk_at "go"
   refine i_raise (i_makeX ?_)
   walk_at "go"
   rw[hii]
   refine mk_ini (small_tx (by omega)) fun x d hx hd hne=>⟨x,ad 3,ad 0,some d,rfl,jb_,Z.x_NoThing,qe i (hfb.trans e2) x d _ jb_ ?_ ?_⟩
   ·rw[jd_ hne,jd_ hne,jb_]
   ·rw[upd_upd]
    exact(s3.trans s4).trans ((jg_ hd _).trans (jg_ (by rw[jd_ (Ne.symm hne)];exact hx) _))
 ·rintro σ H2 ⟨v1,v2,rfl,hfb,s2⟩
  rw[List.length_map,List.drop_length] at hfb
  walk_at "go"
  exact q hfb H2 s2
end
theorem List.reverseRec' {α:Type} {M:List α→Prop} (nil:M []) (snoc:∀ l a,M l→M (l++[a])) (l:List α):M l:=by
 have h:∀ r:List α,M r.reverse:=fun r=>by
  induction r with
  | nil=>exact nil
  | cons x r ih=>rw[List.reverse_cons];exact snoc _ _ ih
 have:=h l.reverse
 rwa [List.reverse_reverse] at this
theorem isTupsG {H:Hp} {t:Addr} {ns:List Int} (h:H t=some (.tup (ns.map V.int))):Is H (.ref t) (.tup (ns.map Dt.int)):=by
 simp only[Is]
 refine⟨t,_,rfl,h,?_⟩
 clear h
 induction ns with
 | nil=>simp only[List.map_nil,L2.IsL]
 | cons x ns ih=>simp only[List.map_cons,L2.IsL,Is];exact⟨by first | rfl | trivial,ih⟩
def pieceD (k:Nat) (w m:List Nat) (g:List Int):Dt:=.tup [.int (k:Int),.str (S w),.str (S m),.tup (g.map Dt.int)]
def gapsB (b:Bp) (w:List Nat):List Int:=gapsOf b.pats b.told b.hd b.tl w
def lookM (ms:List (List Nat×Bp)) (z:List Nat):Option Bp:=(ms.find? fun m=>decide (m.1=z)).map (·.2)
structure Pc where
 b:Option (List Nat×Bp)
 ds:List Dt
 k:Nat
def pstep (ms:List (List Nat×Bp)) (s:Pc) (l:List Nat):Pc :=
 if isAt l=true then ⟨(lookM ms l.tail).map fun b=>(l.tail,b),s.ds,s.k+1⟩
 else ⟨s.b,s.ds++(match s.b with | some b=>[pieceD s.k (wordL l) (markL l) (gapsB b.2 (wordL l))] | none=>[]),s.k+1⟩
def prun (ms:List (List Nat×Bp)) (ls:List (List Nat)):Pc:=ls.foldl (pstep ms) ⟨none,[],0⟩
theorem prun_snoc (ms:List (List Nat×Bp)) (ls:List (List Nat)) (l:List Nat):prun ms (ls++[l])=pstep ms (prun ms ls) l:=by unfold prun;rw[List.foldl_append];rfl
theorem prun_k (ms:List (List Nat×Bp)) (ls:List (List Nat)):(prun ms ls).k=ls.length:=by
 induction ls using List.reverseRec' with
 | nil=>rfl
 | snoc ls l ih =>
  rw[prun_snoc,List.length_append]
  unfold pstep
  split <;> (simp only[ih];rfl)
def ThOk (ms:List (List Nat×Bp)) (l:List Nat):Prop:=(∃ nm,l=64::nm∧isNm nm=true∧lookM ms nm≠none)∨(∃ w m,GW w∧(m=[]∨∃ c,isMark c=true∧m=[c])∧l=w++m)
theorem mark_high {c:Nat} (h:isMark c=true):isLow c=false:=by
 unfold isMark at h
 simp only[List.contains_eq_any_beq,List.any_cons,List.any_nil,Bool.or_false,Bool.or_eq_true,beq_iff_eq] at h
 rcases h with rfl | rfl | rfl | rfl | rfl | rfl <;> decide
theorem low_mark {c:Nat} (h:isLow c=true):isMark c=false:=by
 cases e:isMark c with
 | false=>rfl
 | true=>rw[mark_high e] at h;cases h
theorem last_snoc (w:List Nat) (c:Nat):lastL (w++[c])=[c]:=by
 unfold lastL
 rw[List.length_append,List.length_singleton,Nat.add_sub_cancel,List.drop_left]
theorem word_parts {w m:List Nat} (hw:GW w) (hm:m=[]∨∃ c,isMark c=true∧m=[c]):markL (w++m)=m∧wordL (w++m)=w∧isAt (w++m)=false∧isThing (w++m)=true:=by
 have hl1:=hw.2.1
 have h1:markL (w++m)=m:=by
  rcases hm with rfl | ⟨c,hc,rfl⟩
  ·rw[List.append_nil]
   have hne:w≠[]:=fun z=>by rw[z] at hl1;simp at hl1
   have e:w=w.dropLast++[w.getLast hne]:=(List.dropLast_concat_getLast hne).symm
   unfold markL
   rw[e,last_snoc]
   have:=low_mark (hw.1 _ (List.getLast_mem hne))
   rw[if_neg (by simp[this])]
  ·unfold markL
   rw[last_snoc,if_pos (by simp[hc])]
 have h2:wordL (w++m)=w:=by
  unfold wordL
  rw[h1,List.length_append,Nat.add_sub_cancel,List.take_left]
 have h3:isAt (w++m)=false:=by
  cases w with
  | nil=>simp at hl1
  | cons x r =>
   have hx:=hw.1 x List.mem_cons_self
   unfold isAt
   rw[List.cons_append,List.head?_cons]
   by_cases e:x=64
   ·subst e;cases hx
   ·simp[e]
 refine⟨h1,h2,h3,?_⟩
 unfold isThing
 rw[h3,if_neg Bool.false_ne_true,h2]
 unfold isWord
 rw[decide_eq_true (by omega),Bool.true_and,List.all_eq_true]
 exact hw.1
theorem ThOk.thing {ms:List (List Nat×Bp)} {l:List Nat} (h:ThOk ms l):l.length≤30∧isThing l=true:=by
 rcases h with ⟨nm,rfl,h1,_⟩ | ⟨w,m,hw,hm,rfl⟩
 ·refine⟨?_,?_⟩
  ·unfold isNm at h1
   simp only[Bool.and_eq_true,decide_eq_true_eq] at h1
   rw[List.length_cons];omega
  ·unfold isThing
   rw[if_pos (by simp[isAt])]
   exact h1
 ·refine⟨?_,(word_parts hw hm).2.2.2⟩
  have:=hw.2.2
  rw[List.length_append]
  rcases hm with rfl | ⟨c,_,rfl⟩ <;> simp <;> omega
def TxOk (ms:List (List Nat×Bp)) (ls:List (List Nat)):Prop:=(∀ l∈ls,ThOk ms l)∧∀ l,ls[0]?=some l→isAt l=true
theorem TR.look {C:Addr} {H:Hp} (z:List Nat) {kvs kws:List (Key×V)} {ms:List (List Nat×Bp)} (h:TR C H kvs kws ms):∀ b,lookM ms z=some b→∃ p kd ld pa:Addr,valV kvs (Sum.inr (S z))=some (.ref p)∧valV kws (Sum.inr (S z))=some (.ref pa)∧BrkAt C H p kd ld b.pats b.told b.hd b.tl∧PartsAt H pa b.pats b.told b.hd b.tl∧OkB b.pats b.told:=by
 refine TR.ind (M:=fun kvs kws ms=>∀ b,lookM ms z=some b→∃ p kd ld pa:Addr,valV kvs (Sum.inr (S z))=some (.ref p)∧valV kws (Sum.inr (S z))=some (.ref pa)∧BrkAt C H p kd ld b.pats b.told b.hd b.tl∧PartsAt H pa b.pats b.told b.hd b.tl∧OkB b.pats b.told) (fun b e=>by cases e) ?_ h
 rintro kv kvs kw kws m ms a b ⟨p,kd,ld,c1,c2⟩ ⟨pa,d1,d2⟩ e _ ih b' hb
 by_cases hz:m.1=z
 ·have e1:lookM (m::ms) z=some m.2:=by unfold lookM;rw[List.find?_cons,decide_eq_true hz];rfl
  rw[e1] at hb
  cases hb
  exact⟨p,kd,ld,pa,by rw[valV_pos (by rw[a,hz]),c1],by rw[valV_pos (by rw[b,hz]),d1],c2,d2,e⟩
 ·have e1:lookM (m::ms) z=lookM ms z:=by unfold lookM;rw[List.find?_cons,decide_eq_false hz]
  rw[e1] at hb
  rw[valV_neg fun q=>hz (kS_inj (a.symm.trans q)),valV_neg fun q=>hz (kS_inj (b.symm.trans q))]
  exact ih b' hb
theorem pieceD_only (k:Nat) (w m:List Nat) (g:List Int):tOnly (pieceD k w m g)=true:=by
 have hi:∀ g:List Int,tOnlyL (g.map Dt.int)=true:=fun g=>by
  induction g with
  | nil=>rfl
  | cons x g ih=>simp only[List.map_cons,tOnlyL,tOnly,ih];rfl
 unfold pieceD
 simp only[tOnly,tOnlyL,hi g];rfl
theorem tOnlyL_app (l1 l2:List Dt):tOnlyL (l1++l2)=(tOnlyL l1&&tOnlyL l2):=by
 induction l1 with
 | nil=>simp[tOnlyL]
 | cons x l ih=>simp[tOnlyL,ih,Bool.and_assoc]
theorem prun_only (ms:List (List Nat×Bp)) (ls:List (List Nat)):tOnlyL (prun ms ls).ds=true:=by
 induction ls using List.reverseRec' with
 | nil=>rfl
 | snoc ls l ih =>
  rw[prun_snoc]
  unfold pstep
  split
  ·exact ih
  ·rw[tOnlyL_app,ih]
   cases (prun ms ls).b with
   | none=>rfl
   | some b=>simp only[tOnlyL,pieceD_only];rfl
inductive R3 where
 | thing (k:Nat)
 | tongue (nm:List Nat)
 | told
def due2 (ms:List (List Nat×Bp)):Bool→List (List Nat)→R3
 | _,[]=>.told
 | h,l::r=>if isAt l=true then (if (lookM ms l.tail).isSome=true then due2 ms true r else .tongue l.tail) else if h=true then due2 ms true r else .tongue []
def due (ms:List (List Nat×Bp)) (ls:List (List Nat)):R3:=match j3_ ls 0 with
 | some k=>.thing k
 | none=>due2 ms false ls
theorem due_bad {ms:List (List Nat×Bp)} {ls:List (List Nat)} {k:Nat} (h:j3_ ls 0=some k):due ms ls=.thing k:=by unfold due;rw[h]
theorem due_ok {ms:List (List Nat×Bp)} {ls:List (List Nat)} (h:j3_ ls 0=none):due ms ls=due2 ms false ls:=by unfold due;rw[h]
theorem firstBad_none:∀{ls:List (List Nat)} {k:Nat},j3_ ls k=none→∀ l∈ls,isThing l=true
 | [],_,_,_,h=>nomatch h
 | x::r,k,h,l,hl=>by
  simp only[j3_] at h
  split at h
  ·rename_i hx
   rcases List.mem_cons.mp hl with rfl | hl
   ·exact hx
   ·exact firstBad_none h l hl
  ·cases h
theorem TR.look0 {C:Addr} {H:Hp} (z:List Nat) {kvs kws:List (Key×V)} {ms:List (List Nat×Bp)} (h:TR C H kvs kws ms):lookM ms z=none→valV kvs (Sum.inr (S z))=none∧valV kws (Sum.inr (S z))=none:=by
 refine TR.ind (M:=fun kvs kws ms=>lookM ms z=none→valV kvs (Sum.inr (S z))=none∧valV kws (Sum.inr (S z))=none) (fun _=>⟨rfl,rfl⟩) ?_ h
 rintro kv kvs kw kws m ms a b _ _ e _ ih hb
 by_cases hz:m.1=z
 ·have e1:lookM (m::ms) z=some m.2:=by unfold lookM;rw[List.find?_cons,decide_eq_true hz];rfl
  rw[e1] at hb;cases hb
 ·have e1:lookM (m::ms) z=lookM ms z:=by unfold lookM;rw[List.find?_cons,decide_eq_false hz]
  rw[e1] at hb
  rw[valV_neg fun q=>hz (kS_inj (a.symm.trans q)),valV_neg fun q=>hz (kS_inj (b.symm.trans q))]
  exact ih hb
def PcOk (d:Dt):Prop:=∃(k:Nat) (w m:List Nat) (g:List Nat),d=pieceD k w m (g.map fun j:Nat=>(j:Int))∧k≤1000∧1≤w.length∧w.length≤100∧m.length≤1∧Rise 0 w.length g
theorem isWord_ge {l:List Nat} (h:isWord l=true):1≤l.length:=by
 unfold isWord at h
 simp only[Bool.and_eq_true,decide_eq_true_eq] at h
 omega
def Th1 (l:List Nat):Prop:=(∀ c∈l,c < 128)∧l.length≤40
def spBof (CT NT:Addr):Sp:=fun vs H Q E=>∃(tp td:Addr) (kvs:List (Key×V)) (nm:List Nat),vs=[.ref tp,.str (S nm)]∧TgAt CT H tp td kvs∧(∀ c∈nm,c < 128)∧nm.length≤50 ∧
 ((∃ v,valV kvs (Sum.inr (S nm))=some v∧Q v H)∨(valV kvs (Sum.inr (S nm))=none∧refuses NT "name" (.str (S nm)) H E))
def spPiecesX (C CT NTh NTo:Addr):Sp:=fun vs H Q E=>∃(tp td a:Addr) (kvs kws:List (Key×V)) (ms:List (List Nat×Bp)) (ls:List (List Nat)),vs=[.ref tp,.ref a]∧TgAt CT H tp td kvs∧TR C H kvs kws ms∧H a=some (.lst (ls.map fun l=>V.str (S l)))∧ls.length≤100∧(∀ l∈ls,Th1 l) ∧
 (∀ k,due ms ls=.thing k→refuses NTh "place" (.int (k:Int)) H E)∧(∀ nm,due ms ls=.tongue nm→refuses NTo "name" (.str (S nm)) H E) ∧
 (due ms ls=.told→∀(r:Addr) (xs:List V) (H':Hp),H r=none→H' r=some (.lst xs)→L2.IsL H' xs (prun ms ls).ds→xs.length≤ls.length→(∀ d∈(prun ms ls).ds,PcOk d)→Same H H'→Q (.ref r) H')
theorem cut_tail {l:List Nat} (h:isAt l=true):cutA l (some 1) none=l.tail:=by
 have:=cut_from l 1 (by
  cases l with
  | nil=>simp[isAt] at h
  | cons x r=>simp)
 rw[List.drop_one] at this
 exact this
theorem wordL_le (l:List Nat):(wordL l).length≤l.length:=by unfold wordL;rw[List.length_take];omega
section
variable {P:Program} {w:World} {K:PySem.W.Frag} {mg:Str→Option Value} {base:Heap} {f:Addr} {fd:FuncData} {tk:Nat→Tok} {cO cO2 mkT:Addr} {ad:Nat→Addr}
theorem ok_Tongues_breaker_of (T:Txt mg tk) (Z:Cs K mg ad) (O2:Ow2 K mg cO2) (F:Fun K "breaker_of" "Tongues.breaker_of" s_Tongues_breaker_of f fd) (D_NoTongue_init:Ini P w K mg base (ad 6) 1 ["self","name"] (spIni okTs (ad 6) "name")):FnOk P w K mg base (CXx P w) 3 f fd ["self","name"] (spBof cO2 (ad 6)):=by
 refine F.okX sc_Tongues_breaker_of (fun vs H Q E h=>?_) (fun cdv A outer s H vs Q E hr h=>?_)
 ·obtain⟨tp,td,kvs,nm,rfl,_⟩:=h
  rfl
 obtain⟨tp,td,kvs,nm,rfl,hT,hnm,hnl,q⟩:=h
 obtain⟨dxt,t1,t2⟩:=id hT
 have nd:=sc_Tongues_breaker_of.nd
 refine⟨_,(jc_ (j6_ (pt_cmp (pc_dnotin (hu_of hr) (pv 1) (pe_fld (pv 0) rfl)))
   (jh_ (ps_raise rfl thr_body (pe_makeI Z.x_NoTongue D_NoTongue_init (hr.mono (by first | decide | omega)) rfl Z.m_NoTongue (ja_ (pv 1) pa_nil))))
   ju_)
  (jh_ (jo_ (pe_dget (hu_of hr) (pe_fld (pv 0) rfl) (pv 1) (fun _ _=>rfl))))),?_⟩
 rw[show L2.jz_ ["self","name"] [.ref tp,.str (S nm)]=[some (.ref tp),some (.str (S nm))] from rfl]
 walk_at "go"
 refine i_tB (i_dnotin ?_)
 walk_at "go"
 refine i_fldE ?_
 walk_at "go"
 refine i_fld1 t1 O2.cl O2.n_breakers rfl ?_
 refine⟨td,_,rfl,DGet.k (k:=Sum.inr (S nm)) t2,?_⟩
 rcases q with ⟨v,hv,q⟩ | ⟨hv,qe⟩
 ·rw[hv]
  walk_at "go"
  refine i_dget0 ?_
  walk_at "go"
  refine i_fldE ?_
  walk_at "go"
  refine i_fld1 t1 O2.cl O2.n_breakers rfl ?_
  walk_at "go"
  refine⟨td,_,rfl,hv▸DGet.k (k:=Sum.inr (S nm)) t2,?_⟩
  walk_at "go"
  exact q
 ·rw[hv]
  walk_at "go"
  refine i_raise (i_makeX ?_)
  walk_at "go"
  refine mk_ini ⟨_,rfl,repr_small hnm hnl⟩ fun x d hx hd hne=>⟨x,ad 6,ad 0,some d,rfl,jb_,Z.x_NoTongue,qe x d _ jb_ ?_ ?_⟩
  ·rw[jd_ hne,jd_ hne,jb_]
  ·rw[upd_upd]
   exact(jg_ hd _).trans (jg_ (by rw[jd_ (Ne.symm hne)];exact hx) _)
theorem ok_pieces (T:Txt mg tk) (Z:Cs K mg ad) (O:Ow K mg cO) (O2:Ow2 K mg cO2) (F:Fun K "pieces" "pieces" s_pieces f fd) (D_check_things:DnX P w K mg base "check_things" 5 ["text"] (spCheckX (ad 3))) (D_mark_of:Dn P w K mg base "mark_of" 1 ["thing"] spMark) (D_word_of:Dn P w K mg base "word_of" 2 ["thing"] spWordOf) (D_Tongues_breaker_of:DmX P w K mg base cO2 "breaker_of" 3 ["self","name"] (spBof cO2 (ad 6))) (D_Breaker_gaps:Dm P w K mg base cO "gaps" 4 ["self","word"] (spBrkG cO)) (D_NoTongue_init:Ini P w K mg base (ad 6) 1 ["self","name"] (spIni okTs (ad 6) "name")):FnOk P w K mg base (CXx P w) 6 f fd ["tongues","text"] (spPiecesX cO cO2 (ad 3) (ad 6)):=by
 refine F.okX sc_pieces (fun vs H Q E h=>?_) (fun cdv A outer s H vs Q E hr h=>?_)
 ·obtain⟨tp,td,a,kvs,kws,ms,ls,rfl,_⟩:=h
  rfl
 obtain⟨tp,td,a,kvs,kws,ms,ls,rfl,hT,hR,ha,hll,hth,qk,qn,q⟩:=h
 have nd:=sc_pieces.nd
 refine⟨_,(jc_ (ps_expr (pe_callX D_check_things (hr.mono (by first | decide | omega)) rfl (pass_body (fun _ _ _ z=>z)) (ja_ (pv 1) pa_nil)))
  (jc_ (jj_ (i:=2) nd rfl (Or.inl rfl) (j9_ pa_nil))
  (jc_ (jj_ (i:=3) nd rfl (Or.inl rfl) pe_non)
  (jc_ (ps_for PassesOwn.leaving rfl (pi_enumL rfl T.z_enumerate (pv 1)) (pg_tup rfl (zb_ (jq_ (i:=4) nd rfl (Or.inl rfl)) (zb_ (jq_ (i:=5) nd rfl (Or.inl rfl)) pgs_nil)))
   (jh_ (j6_ (pt_tru (pe_bmK (K:=K) PySem.F.plainAttrs_str PySem.F.slot_str_startswith PySem.F.type_str_startswith m_startswith1 (pv 5) (ja_ pe_str pa_nil)) (fun _=>rfl))
   (jh_ (jj_ (i:=3) nd rfl (Or.inl rfl) (pe_methDX (pv 0) O2.cl D_Tongues_breaker_of (hr.mono (by first | decide | omega)) (pass_body (fun _ _ _ z=>z)) (ja_ (js_ (j4_ (K:=K)) (pv 5) (jv_ pe_int) j1_) pa_nil))))
   (jh_ (j6_ (jr_ o_is (pv 3) pe_non (jy_ _))
   (jh_ (ps_raise rfl thr_body (pe_makeI Z.x_NoTongue D_NoTongue_init (hr.mono (by first | decide | omega)) rfl Z.m_NoTongue (ja_ pe_str pa_nil))))
   (jc_ (jj_ (i:=6) nd rfl (Or.inl rfl) (ji_ D_word_of (hr.mono (by first | decide | omega)) rfl (ja_ (pv 5) pa_nil)))
  (jh_ (ps_expr (pe_bmK (K:=K) PySem.F.plainAttrs_list PySem.F.slot_list_append PySem.F.type_list_append m_append1 (pv 2) (ja_ (pe_tup (ja_ (pv 4) (ja_ (pv 6) (ja_ (ji_ D_mark_of (hr.mono (by first | decide | omega)) rfl (ja_ (pv 5) pa_nil)) (ja_ (pe_methD (pv 3) O.cl D_Breaker_gaps (hr.mono (by first | decide | omega)) (ja_ (pv 6) pa_nil)) pa_nil))))) pa_nil))))))))))
  (jh_ (jo_ (pv 2))))))),?_⟩
 rw[show L2.jz_ ["tongues","text","told","breaker","place","thing","word"] [.ref tp,.ref a]=[some (.ref tp),some (.ref a),none,none,none,none,none] from rfl]
 rw[t_at,t_empty]
 walk_at "go"
 refine⟨a,ls,rfl,ha,by omega,fun l hl=>by have:=(hth l hl).2;omega,fun hfb H1 s1=>?_,fun k hk=>qk k (due_bad hk)⟩
 have hgood:=firstBad_none hfb
 have hdue:=due_ok (ms:=ms) hfb
 rw[hdue] at qn q
 clear qk hdue
 walk_at "go"
 intro r hr0
 have s2:=s1.trans (jg_ hr0 (.lst []))
 have er:=jb_ (H:=H1) (a:=r) (o:=.lst [])
 have hrH:H r=none:=s1.free hr0
 generalize upd H1 r (.lst [])=H2 at s2 er ⊢
 walk_at "go"
 refine i_enumL ?_
 walk_at "go"
 refine i_enSL (s2 _ _ ha) ?_
 refine for_en (fun i σ H'=>∃(v3:V) (v4 v5 v6:Option V) (xs:List V),σ=[some (.ref tp),some (.ref a),some (.ref r),some v3,v4,v5,v6]∧H' r=some (.lst xs)∧L2.IsL H' xs (prun ms (ls.take i)).ds∧xs.length≤i∧Same H H'∧(∀ d∈(prun ms (ls.take i)).ds,PcOk d)∧due2 ms false ls=due2 ms (prun ms (ls.take i)).b.isSome (ls.drop i) ∧
   (match (prun ms (ls.take i)).b with | none=>v3=.non | some nb=>lookM ms nb.1=some nb.2∧∃ p,v3=.ref p∧valV kvs (Sum.inr (S nb.1))=some (.ref p)))
  ⟨.non,none,none,none,[],rfl,er,(by simp only[List.take_zero,prun,List.foldl_nil,L2.IsL]),Nat.le_refl _,s2,(fun d hd=>by simp[prun] at hd),rfl,rfl⟩ (fun _ _ H' _ ⟨_,_,_,_,_,_,_,_,_,s,_⟩=>s _ _ ha) ?_ ?_
 ·rintro i v σ H3 T3 hv ⟨v3,v4,v5,v6,xs,rfl,er3,hxs,hxl,s3,hpc,hd2,hb⟩ hT3
  rw[List.getElem?_map] at hv
  obtain⟨l,hl,rfl⟩:∃ l,ls[i]?=some l∧v=V.str (S l):=by
   cases e:ls[i]? with
   | none=>rw[e] at hv;cases hv
   | some l=>rw[e] at hv;cases hv;exact⟨l,rfl,rfl⟩
  have hi:=(List.getElem?_eq_some_iff.mp hl).1
  have htk:ls.take (i+1)=ls.take i++[l]:=by rw[List.take_succ,hl];rfl
  have hpk:(prun ms (ls.take i)).k=i:=by rw[prun_k,List.length_take];omega
  have hlm:=List.mem_of_getElem? hl
  obtain⟨hc128,hlen⟩:=hth l hlm
  have hgl:=hgood l hlm
  rw[drop_at hl] at hd2
  have sT:=jg_ hT3 (.tup [.int (((0:Nat):Int)+(i:Int)),.str (S l)])
  refine i_gtup jb_ rfl (i_gcons (i_name (i_gcons (i_name (i_gnil ?_)))))
  have s4:=s3.trans sT
  have er4:=sT _ _ er3
  have hxs4:=IsL.same sT hxs
  generalize upd H3 T3 (.tup [.int (((0:Nat):Int)+(i:Int)),.str (S l)])=H4 at s4 er4 hxs4 ⊢
  have hii:V.int (((0:Nat):Int)+(i:Int))=V.int (i:Int):=by congr 1;omega
  rw[hii]
  walk_at "go"
  rw[starts_at]
  cases hat:isAt l with
  | true =>
   walk_at "go"
   refine i_meth ?_
   walk_at "go"
   obtain⟨dxt,t1,t2⟩:=id (hT.same s4)
   refine i_self t1 rfl ?_
   walk_at "go"
   rw[cut_tail hat]
   have htl:∀ c∈l.tail,c < 128:=fun c hc=>hc128 c (List.mem_of_mem_tail hc)
   have htl2:l.tail.length≤50:=by rw[List.length_tail];omega
   refine⟨tp,td,kvs,l.tail,rfl,hT.same s4,htl,htl2,?_⟩
   cases hlk:lookM ms l.tail with
   | none =>
    refine .inr ⟨((hR.same s4).look0 _ hlk).1,fun e d H' h1 h2 h3=>qn l.tail ?_ e d H' h1 h2 (s4.trans h3)⟩
    rw[hd2]
    simp only[due2]
    rw[if_pos hat,hlk];rfl
   | some b =>
    obtain⟨p,kd,ld,pa,q1,q2,hB,hP,hO⟩:=(hR.same s4).look l.tail b hlk
    refine .inl ⟨.ref p,q1,?_⟩
    walk_at "go"
    have hst:prun ms (ls.take (i+1))=⟨some (l.tail,b),(prun ms (ls.take i)).ds,(prun ms (ls.take i)).k+1⟩:=by
     rw[htk,prun_snoc]
     unfold pstep
     rw[if_pos hat,hlk];rfl
    refine⟨.ref p,_,_,_,xs,rfl,er4,?_,by omega,s4,?_,?_,?_⟩
    ·rw[hst];exact hxs4
    ·rw[hst];exact hpc
    ·rw[hst,hd2]
     simp only[due2]
     rw[if_pos hat,hlk];rfl
    ·rw[hst]
     exact⟨hlk,p,rfl,q1⟩
  | false =>
   walk_at "go"
   cases hb0:(prun ms (ls.take i)).b with
   | none =>
    rw[hb0] at hb hd2
    have hb:v3=.non:=hb
    subst hb
    walk_at "go"
    refine i_raise (i_makeX ?_)
    walk_at "go"
    have hdu:due2 ms false ls=.tongue []:=by
     rw[hd2]
     simp only[due2]
     rw[if_neg (by rw[hat];exact Bool.false_ne_true)];rfl
    refine mk_ini ⟨_,rfl,repr_small (fun c hc=>nomatch hc) (by decide)⟩ fun x d hx hd hne=>⟨x,ad 6,ad 0,some d,rfl,jb_,Z.x_NoTongue,qn [] hdu x d _ jb_ ?_ ?_⟩
    ·rw[jd_ hne,jd_ hne,jb_]
    ·rw[upd_upd]
     exact s4.trans ((jg_ hd _).trans (jg_ (by rw[jd_ (Ne.symm hne)];exact hx) _))
   | some nb =>
    rw[hb0] at hb hd2
    obtain⟨hnl,p,rfl,q1'⟩:=hb
    obtain⟨p',kd,ld,pa,q1,q2,hB,hP,hO⟩:=(hR.same s4).look nb.1 nb.2 hnl
    have ep:p'=p:=by rw[q1'] at q1;injection q1 with q1;injection q1 with q1;exact q1.symm
    subst ep
    walk_at "go"
    refine⟨l,rfl,by omega,?_⟩
    walk_at "go"
    refine⟨l,rfl,by omega,?_⟩
    walk_at "go"
    refine i_meth ?_
    walk_at "go"
    obtain⟨dxb,ysb,kvb,b1,_⟩:=id hB
    refine i_self b1 rfl ?_
    walk_at "go"
    have hz:=hO.pl
    have hwd:isWord (wordL l)=true:=by
     unfold isThing at hgl
     rw[hat,if_neg Bool.false_ne_true] at hgl
     exact hgl
    have hw1:=isWord_ge hwd
    have hw2:=wordL_le l
    have hm1:=markL_len l
    obtain⟨g,hg,hRi⟩:=gaps_rise hO nb.2.hd nb.2.tl (w:=wordL l) hw1
    have hst:prun ms (ls.take (i+1))=⟨some nb,(prun ms (ls.take i)).ds++[pieceD i (wordL l) (markL l) (g.map fun j:Nat=>(j:Int))],(prun ms (ls.take i)).k+1⟩:=by
     rw[htk,prun_snoc]
     unfold pstep
     rw[hat,if_neg Bool.false_ne_true,hb0,hpk,← hg];rfl
    generalize wordL l=wd at hw1 hw2 hwd hg hRi hst ⊢
    generalize markL l=m at hm1 hst ⊢
    refine⟨p',kd,ld,nb.2.pats,nb.2.told,nb.2.hd,nb.2.tl,wd,rfl,hB,hO.ps,by omega,hw1,by omega,fun t H5 et s5=>?_⟩
    rw[hg] at et
    walk_at "go"
    intro t6 ht6
    have s6:=jg_ ht6 (.tup [.int (i:Int),.str (S wd),.str (S m),.ref t])
    have et6:=jb_ (H:=H5) (a:=t6) (o:=.tup [.int (i:Int),.str (S wd),.str (S m),.ref t])
    have s46:=s5.trans s6
    have et':=s6 _ _ et
    generalize upd H5 t6 (.tup [.int (i:Int),.str (S wd),.str (S m),.ref t])=H6 at s6 et6 s46 et' ⊢
    have er6:=s46 _ _ er4
    have hszx:xs.length < sizeLine:=szn (by omega)
    walk_at "go"
    have tks:Tk H6 (upd H6 r (.lst (xs++[.ref t6]))):=fun b zs e=>by
     have hb:b≠r:=fun z=>by rw[z,er6] at e;cases e
     rw[jd_ hb];exact e
    have hp:Is H6 (.ref t6) (pieceD i wd m (g.map fun j:Nat=>(j:Int))):=by
     unfold pieceD
     have:=isTupsG et'
     simp only[Is,L2.IsL] at this ⊢
     exact⟨t6,_,rfl,et6,rfl,rfl,rfl,this,trivial⟩
    refine⟨.ref p',_,_,_,xs++[.ref t6],rfl,jb_,?_,by rw[List.length_append];show _+1≤_;omega,fun b o e=>?_,?_,?_,?_⟩
    ·rw[hst]
     refine IsL.append (IsL.tk tks (prun_only ms _) (IsL.same s46 hxs4)) ?_
     simp only[L2.IsL]
     exact⟨Is.tk tks (pieceD_only _ _ _ _) hp,trivial⟩
    ·have hbr:b≠r:=fun z=>by rw[z,hrH] at e;cases e
     rw[jd_ hbr];exact s46 _ _ (s4 _ _ e)
    ·rw[hst]
     intro d hd
     rcases List.mem_append.mp hd with h | h
     ·exact hpc d h
     ·have:d=pieceD i wd m (g.map fun j:Nat=>(j:Int)):=by simpa using h
      exact⟨i,wd,m,g,this,by omega,hw1,by omega,hm1,hRi⟩
    ·rw[hst,hd2]
     simp only[due2,Option.isSome_some]
     rw[if_neg (by rw[hat];exact Bool.false_ne_true),if_pos trivial]
    ·rw[hst]
     exact⟨hnl,p',rfl,q1⟩
 ·rintro σ H3 ⟨v3,v4,v5,v6,xs,rfl,er3,hxs,hxl,s3,hpc,hd2,hb⟩
  rw[List.length_map] at hxs hxl hpc hd2
  rw[List.take_length] at hxs hpc hd2
  rw[List.drop_length] at hd2
  walk_at "go"
  exact q (by rw[hd2];rfl) r xs H3 hrH er3 hxs hxl hpc s3
end
abbrev s_farthest_end:Stmt:=top 35
theorem sc_farthest_end:FnScope ["gaps","begin","room"] ["gaps","begin","room"] (jf_ s_farthest_end):=⟨rfl,rfl,rfl,by decide +kernel,rfl,by decide +kernel,by decide +kernel⟩
abbrev s_pressed:Stmt:=top 36
theorem sc_pressed:FnScope ["tongues","text","width","lines","ahead","place","word","mark","gaps","begin","end"] ["tongues","text","width"] (jf_ s_pressed):=⟨rfl,rfl,rfl,by decide +kernel,rfl,by decide +kernel,by decide +kernel⟩
theorem isTupZ {H:Hp} {v:V} {ns:List Int} (h:Is H v (.tup (ns.map Dt.int))):∃ t,v=.ref t∧H t=some (.tup (ns.map V.int)):=by
 simp only[Is] at h
 obtain⟨t,vs,rfl,e,h⟩:=h
 refine⟨t,rfl,?_⟩
 rw[e]
 congr 2
 clear e
 induction ns generalizing vs with
 | nil =>
  cases vs with
  | nil=>rfl
  | cons x r=>simp[L2.IsL] at h
 | cons n ns ih =>
  cases vs with
  | nil=>simp[L2.IsL] at h
  | cons x r =>
   simp only[List.map_cons,L2.IsL,Is] at h
   rw[h.1,ih r h.2];rfl
def inR (b:Nat) (room:Int) (k:Nat):Bool:=decide ((b:Int) < (k:Int))&&decide ((k:Int) < (b:Int)+room)
def spFar:Sp:=fun vs H Q _=>∃(t:Addr) (g:List Nat) (b:Nat) (room:Int),vs=[.ref t,.int (b:Int),.int room]∧H t=some (.tup (g.map fun k:Nat=>V.int (k:Int)))∧g.length≤1000 ∧
 ∀(H':Hp) (e:Nat),Same H H'→((e=b∧∀ x∈g,inR b room x=false)∨(e∈g∧inR b room e=true∧∀ y∈g,inR b room y=true→y≤e))→Q (.int (e:Int)) H'
theorem isPiece {H:Hp} {v:V} {k:Nat} {w m:List Nat} {g:List Int} (h:Is H v (pieceD k w m g)):∃ t6 t:Addr,v=.ref t6∧H t6=some (.tup [.int (k:Int),.str (S w),.str (S m),.ref t])∧H t=some (.tup (g.map V.int)):=by
 unfold pieceD at h
 have h:∃ a xs,v=.ref a∧H a=some (.tup xs)∧L2.IsL H xs [.int (k:Int),.str (S w),.str (S m),.tup (g.map Dt.int)]:=by
  rw[L2.Is.eq_def] at h
  exact h
 obtain⟨t6,vs,rfl,e,h⟩:=h
 match vs,h with
 | [a,b,c,d],h =>
  simp only[L2.IsL] at h
  obtain⟨h1,h2,h3,h4,_⟩:=h
  have h1:a=.int (k:Int):=by simpa only [Is] using h1
  have h2:b=.str (S w):=by simpa only [Is] using h2
  have h3:c=.str (S m):=by simpa only [Is] using h3
  subst h1 h2 h3
  obtain⟨t,rfl,et⟩:=isTupZ h4
  exact⟨t6,t,rfl,e,et⟩
 | [],h=>simp[L2.IsL] at h
 | [_],h=>simp[L2.IsL] at h
 | [_,_],h=>simp[L2.IsL] at h
 | [_,_,_],h=>simp[L2.IsL] at h
 | _::_::_::_::_::_,h=>simp[L2.IsL] at h
theorem Rise_len71 {n:Nat}:∀{b:Nat} {g:List Nat},Rise b n g→b≤n→g.length≤n - b
 | b,[],_,_=>by simp
 | b,x::g,r,h=>by
  have:=Rise_len71 r.2.2 (Nat.le_of_lt r.2.1)
  have h1:=r.1
  have h2:=r.2.1
  simp;omega
theorem cut_le {α:Type} (l:List α) (lo hi:Option Int):(cutA l lo hi).length≤l.length:=by
 rw[zd_]
 have:=sx_le l.length l.length (Nat.le_refl _) hi
 omega
theorem rise_lt {n:Nat}:∀{b:Nat} {g:List Nat},Rise b n g→∀ x∈g,x < n
 | _,[],_,_,h=>nomatch h
 | b,y::g,r,x,h=>by
  rcases List.mem_cons.mp h with rfl | h
  ·exact r.2.1
  ·exact rise_lt r.2.2 x h
def spPressX (C CT NTh NTo TN:Addr):Sp:=fun vs H Q E=>∃(tp td a:Addr) (kvs kws:List (Key×V)) (ms:List (List Nat×Bp)) (ls:List (List Nat)) (wd:Nat),vs=[.ref tp,.ref a,.int (wd:Int)]∧TgAt CT H tp td kvs∧TR C H kvs kws ms∧H a=some (.lst (ls.map fun l=>V.str (S l)))∧ls.length≤100∧(∀ l∈ls,Th1 l)∧1≤wd∧wd≤1000 ∧
 (∀ k,due ms ls=.thing k→refuses NTh "place" (.int (k:Int)) H E)∧(∀ nm,due ms ls=.tongue nm→refuses NTo "name" (.str (S nm)) H E) ∧
 (due ms ls=.told→∀ k:Nat,refuses TN "place" (.int (k:Int)) H E) ∧
 (due ms ls=.told→∀(r:Addr) (H':Hp),Same H H'→Q (.ref r) H')
theorem t_dash:Str.ofString "-"=S [45]:=by decide +kernel
theorem t_blank:Str.ofString " "=S [32]:=by decide +kernel
section
variable {P:Program} {w:World} {K:PySem.W.Frag} {mg:Str→Option Value} {base:Heap} {f:Addr} {fd:FuncData} {tk:Nat→Tok} {cO cO2 mkT:Addr} {ad:Nat→Addr}
theorem ok_farthest_end (T:Txt mg tk) (F:Fun K "farthest_end" "farthest_end" s_farthest_end f fd):FnOk P w K mg base CX0 1 f fd ["gaps","begin","room"] spFar:=by
 refine F.ok sc_farthest_end (fun vs H Q E h=>?_) (fun cdv A outer s H vs Q E hr h=>?_)
 ·obtain⟨t,g,b,room,rfl,_⟩:=h
  rfl
 obtain⟨t,g,b,room,rfl,ht,hgl,q⟩:=h
 have nd:=sc_farthest_end.nd
 refine⟨_,(jh_ (jo_ (pe_maxD rfl rfl T.z_max (pe_comp ["begin","room","gap"] [some 1,some 2,none] rfl (by kernel_rfl) rfl (pi_any (K:=K) (pv 0)) (fun _ _ _ _=>(jq_ (i:=2) (show (["begin","room","gap"]:List Str).Nodup by decide +kernel) rfl (Or.inl rfl) (Or.inr rfl))) (fun _ _ _ _=>(pts_one (pt_chain o_lt o_lt (pv 0) (pv 2) (jp_ j0_ (pv 0) (pv 1))))) (fun _ _ _ _=>(pv 2))) (pv 1)))),?_⟩
 rw[show L2.jz_ ["gaps","begin","room"] [.ref t,.int (b:Int),.int room]=[some (.ref t),some (.int (b:Int)),some (.int room)] from rfl]
 walk_at "go"
 refine i_maxD ?_
 walk_at "go"
 intro r hr0
 refine comp_tup (K:=K) (xs:=g.map fun k:Nat=>V.int (k:Int)) (fun i acc σ H'=>∃(v:Option V),σ=[some (.int (b:Int)),some (.int room),v]∧acc=((g.take i).filter (inR b room)).map (fun k:Nat=>V.int (k:Int))∧H' r=some (.lst acc)∧Same H H')
  (fun i acc σ H' _ ⟨_,_,_,_,s⟩=>SqT.of (s _ _ ht)) ⟨none,rfl,rfl,jb_,jg_ hr0 _⟩ (fun i acc σ H' ⟨_,_,e,e2,_⟩=>⟨e2,by
   rw[e,List.length_map]
   exact Nat.le_trans (List.length_filter_le _ _) (by rw[List.length_take];omega)⟩) (szn (by rw[List.length_map];omega)) ?_ ?_
 ·rintro i acc σ H1 hi ⟨v,rfl,rfl,e1,s1⟩
  rw[List.length_map] at hi
  have hgi:(g.map fun k:Nat=>V.int (k:Int)).getD i .non=.int (g[i]:Int):=by
   rw[List.getD_eq_getElem?_getD,List.getElem?_map,List.getElem?_eq_getElem hi];rfl
  rw[hgi]
  have htk:g.take (i+1)=g.take i++[g[i]]:=by rw[List.take_succ,List.getElem?_eq_getElem hi];rfl
  generalize g[i]=x at htk ⊢
  walk_at "go"
  have keep:∀ b' o,H b'=some o→b'≠r:=fun b' o e z=>by rw[z,hr0] at e;cases e
  have no:inR b room x=false→∃ v_1,[some (V.int (b:Int)),some (V.int room),some (V.int (x:Int))]=[some (V.int (b:Int)),some (V.int room),v_1]∧((g.take i).filter (inR b room)).map (fun k:Nat=>V.int (k:Int))=((g.take (i+1)).filter (inR b room)).map (fun k:Nat=>V.int (k:Int))∧H1 r=some (.lst (((g.take i).filter (inR b room)).map (fun k:Nat=>V.int (k:Int))))∧Same H H1:=fun hl =>
   ⟨_,rfl,by rw[htk,List.filter_append];simp[hl],e1,s1⟩
  by_cases c:(b:Int) < (x:Int)
  ·rw[if_pos (decide_eq_true c)]
   walk_at "go"
   by_cases c2:(x:Int) < (b:Int)+room
   ·rw[if_pos (decide_eq_true c2)]
    walk_at "go"
    have hl:inR b room x=true:=by unfold inR;rw[decide_eq_true c,decide_eq_true c2];rfl
    exact⟨e1,_,rfl,by rw[htk,List.filter_append,List.map_append];simp[hl],jb_,fun b' o e=>by rw[jd_ (keep b' o e)];exact s1 b' o e⟩
   ·rw[if_neg (by rw[decide_eq_false c2];exact Bool.false_ne_true)]
    exact no (by unfold inR;rw[decide_eq_false c2,Bool.and_false])
  ·rw[if_neg (by rw[decide_eq_false c];exact Bool.false_ne_true)]
   refine⟨false,rfl,?_⟩
   rw[if_neg Bool.false_ne_true]
   exact no (by unfold inR;rw[decide_eq_false c,Bool.false_and])
 ·rintro acc σ H1 ⟨v,rfl,rfl,e1,s1⟩
  rw[List.length_map,List.take_length] at e1
  walk_at "go"
  have hm:((g.filter (inR b room)).map fun k:Nat=>V.int (k:Int))=((g.filter (inR b room)).map fun k:Nat=>(k:Int)).map V.int:=by rw[List.map_map];rfl
  rw[hm] at e1
  refine⟨r,_,rfl,e1,fun h0=>?_,fun m hm1 hm2=>?_⟩
  ·refine q H1 b s1 (.inl ⟨rfl,fun x hx=>?_⟩)
   have h0:g.filter (inR b room)=[]:=by simpa using h0
   have:=List.filter_eq_nil_iff.mp h0 x hx
   simpa using this
  ·obtain⟨e,he,rfl⟩:=List.mem_map.mp hm1
   obtain⟨h1,h2⟩:=List.mem_filter.mp he
   refine q H1 e s1 (.inr ⟨h1,h2,fun y hy hy2=>?_⟩)
   have:=hm2 (y:Int) (List.mem_map.mpr ⟨y,List.mem_filter.mpr ⟨hy,hy2⟩,rfl⟩)
   omega
theorem ok_pressed (T:Txt mg tk) (Z:Cs K mg ad) (F:Fun K "pressed" "pressed" s_pressed f fd) (D_pieces:DnX P w K mg base "pieces" 6 ["tongues","text"] (spPiecesX cO cO2 (ad 3) (ad 6))) (D_farthest_end:Dn P w K mg base "farthest_end" 1 ["gaps","begin","room"] spFar) (D_TooNarrow_init:Ini P w K mg base (ad 4) 1 ["self","place"] (spIni okTx (ad 4) "place")):FnOk P w K mg base (CXx P w) 7 f fd ["tongues","text","width"] (spPressX cO cO2 (ad 3) (ad 6) (ad 4)):=by
 refine F.okX sc_pressed (fun vs H Q E h=>?_) (fun cdv A outer s H vs Q E hr h=>?_)
 ·obtain⟨tp,td,a,kvs,kws,ms,ls,wd,rfl,_⟩:=h
  rfl
 obtain⟨tp,td,a,kvs,kws,ms,ls,wd,rfl,hT,hR,ha,hll,hth,hw1,hw2,qk,qn,qw,q⟩:=h
 have nd:=sc_pressed.nd
 refine⟨_,(jc_ (jj_ (i:=3) nd rfl (Or.inl rfl) (j9_ pa_nil))
  (jc_ (jj_ (i:=4) nd rfl (Or.inl rfl) pe_str)
  (jc_ (ps_for PassesOwn.leaving rfl (pi_any (K:=K) (pe_callX D_pieces (hr.mono (by first | decide | omega)) rfl (pass_body (fun _ _ _ z=>z)) (ja_ (pv 0) (ja_ (pv 1) pa_nil)))) (pg_tup rfl (zb_ (jq_ (i:=5) nd rfl (Or.inl rfl)) (zb_ (jq_ (i:=6) nd rfl (Or.inl rfl)) (zb_ (jq_ (i:=7) nd rfl (Or.inl rfl)) (zb_ (jq_ (i:=8) nd rfl (Or.inl rfl)) pgs_nil)))))
   (jc_ (jj_ (i:=9) nd rfl (Or.inl rfl) pe_int)
  (jc_ (ps_while PassesOwn.leaving (jr_ o_gt (jk_ (c_len (K:=K)) rfl T.z_len (by decide +kernel) (ja_ (jp_ j0_ (jp_ j0_ (pv 4) (js_ (j4_ (K:=K)) (pv 6) (jv_ (pv 9)) j1_)) (pv 7)) pa_nil)) (pv 2) (jy_ _))
   (jc_ (jj_ (i:=10) nd rfl (Or.inl rfl) (ji_ D_farthest_end (hr.mono (by first | decide | omega)) rfl (ja_ (pv 8) (ja_ (pv 9) (ja_ (jp_ o_sub (pv 2) (jk_ (c_len (K:=K)) rfl T.z_len (by decide +kernel) (ja_ (pv 4) pa_nil))) pa_nil)))))
  (jc_ (j6_ (jr_ o_gt (pv 10) (pv 9) (jy_ _))
   (jh_ (ps_expr (pe_bmK (K:=K) PySem.F.plainAttrs_list PySem.F.slot_list_append PySem.F.type_list_append m_append1 (pv 3) (ja_ (jp_ j0_ (jp_ j0_ (pv 4) (js_ (j4_ (K:=K)) (pv 6) (jv_ (pv 9)) (jv_ (pv 10)))) pe_str) pa_nil))))
   (jh_ (j6_ (jr_ (o_ne hr.units) (pv 4) pe_str (jy_ _))
   (jh_ (ps_expr (pe_bmK (K:=K) PySem.F.plainAttrs_list PySem.F.slot_list_append PySem.F.type_list_append m_append1 (pv 3) (ja_ (js_ (j4_ (K:=K)) (pv 4) j1_ (jv_ (pe_un o_neg pe_int))) pa_nil))))
   (jh_ (ps_raise rfl thr_body (pe_makeI Z.x_TooNarrow D_TooNarrow_init (hr.mono (by first | decide | omega)) rfl Z.m_TooNarrow (ja_ (pv 5) pa_nil)))))))
  (jc_ (jj_ (i:=4) nd rfl (Or.inl rfl) pe_str)
  (jh_ (jj_ (i:=9) nd rfl (Or.inl rfl) (pv 10)))))))
  (jh_ (jj_ (i:=4) nd rfl (Or.inl rfl) (jp_ j0_ (jp_ j0_ (jp_ j0_ (pv 4) (js_ (j4_ (K:=K)) (pv 6) (jv_ (pv 9)) j1_)) (pv 7)) pe_str))))))
  (jc_ (j6_ (jr_ (o_ne hr.units) (pv 4) pe_str (jy_ _))
   (jh_ (ps_expr (pe_bmK (K:=K) PySem.F.plainAttrs_list PySem.F.slot_list_append PySem.F.type_list_append m_append1 (pv 3) (ja_ (js_ (j4_ (K:=K)) (pv 4) j1_ (jv_ (pe_un o_neg pe_int))) pa_nil))))
   ju_)
  (jh_ (jo_ (pv 3))))))),?_⟩
 rw[show L2.jz_ ["tongues","text","width","lines","ahead","place","word","mark","gaps","begin","end"] [.ref tp,.ref a,.int (wd:Int)]=[some (.ref tp),some (.ref a),some (.int (wd:Int)),none,none,none,none,none,none,none,none] from rfl]
 rw[t_empty,t_dash,t_blank]
 walk_at "go"
 intro r hr0
 have s1:=jg_ hr0 (.lst [])
 have er:=jb_ (H:=H) (a:=r) (o:=.lst [])
 generalize upd H r (.lst [])=H1 at s1 er ⊢
 walk_at "go"
 refine⟨tp,td,a,kvs,kws,ms,ls,rfl,hT.same s1,hR.same s1,s1 _ _ ha,hll,hth,fun k hk e d H' h1 h2 h3=>qk k hk e d H' h1 h2 (s1.trans h3),fun nm hn e d H' h1 h2 h3=>qn nm hn e d H' h1 h2 (s1.trans h3),fun htold pr xs H2 hpr epr hxs hxl hpc s2=>?_⟩
 have qw:=qw htold
 have q:=q htold
 walk_at "go"
 refine for_list (K:=K) (xs:=xs) (fun i σ H'=>∃(la:List Nat) (v5 v6 v7 v8 v9 v10:Option V) (lns:List V),σ=[some (.ref tp),some (.ref a),some (.int (wd:Int)),some (.ref r),some (.str (S la)),v5,v6,v7,v8,v9,v10]∧la.length≤wd+1∧H' r=some (.lst lns)∧lns.length≤300 * i∧∀ b o,b≠r→H2 b=some o→H' b=some o)
  ⟨[],none,none,none,none,none,none,[],rfl,by simp,s2 _ _ er,Nat.le_refl _,fun b o _ e=>e⟩ (fun i σ H' _ ⟨_,_,_,_,_,_,_,_,_,_,_,_,k⟩=>SqL.of (k _ _ (fun z=>by rw[z,er] at hpr;cases hpr) epr)) ?_ ?_
 ·rintro i x σ Ha hx ⟨la,v5,v6,v7,v8,v9,v10,lns,rfl,hla,era,hlns,ka⟩
  have hil:=(List.getElem?_eq_some_iff.mp hx).1
  obtain⟨x',d,hx1,hx2,hx3⟩:=IsL.get hxs (i:=i) (by rw[← hxs.length];exact hil)
  rw[hx] at hx1
  cases hx1
  obtain⟨k,w',m,g,rfl,hk,hwl1,hwl2,hml,hRi⟩:=hpc d (List.mem_of_getElem? hx2)
  obtain⟨t6,t,rfl,e6,et⟩:=isPiece hx3
  have nr:∀ b o,H2 b=some o→(∀ zs,o≠.lst zs)→b≠r:=fun b o e h z=>by
   rw[z,s2 _ _ er] at e
   cases e
   exact h _ rfl
  have e6r:=nr _ _ e6 (fun zs z=>by cases z)
  have etr:=nr _ _ et (fun zs z=>by cases z)
  have hgl:g.length≤100:=by have:=Rise_len71 hRi (Nat.zero_le _);omega
  refine i_gtup (ka _ _ e6r e6) rfl (i_gcons (i_name (i_gcons (i_name (i_gcons (i_name (i_gcons (i_name (i_gnil ?_)))))))))
  walk_at "go"
  refine i_while ⟨fun μ σ H'=>∃(la:List Nat) (b:Nat) (ve:Option V) (lns:List V),σ=[some (.ref tp),some (.ref a),some (.int (wd:Int)),some (.ref r),some (.str (S la)),some (.int (k:Int)),some (.str (S w')),some (.str (S m)),some (.ref t),some (.int (b:Int)),ve]∧la.length≤wd+1∧b≤w'.length∧H' r=some (.lst lns)∧lns.length+μ≤300 * (i+1)∧μ=2 * (w'.length - b)+(if la=[] then 0 else 1)∧∀ b o,b≠r→H2 b=some o→H' b=some o,⟨_,la,0,v10,lns,rfl,hla,Nat.zero_le _,era,?_,rfl,ka⟩,?_⟩
  ·split <;> omega
  rintro μ σ Hb ⟨la,b,ve,lns,rfl,hla,hbw,erb,hln,hμ,kb⟩
  have hcl:(cutA w' (some (b:Int)) none).length≤w'.length:=cut_le _ _ _
  have hsz:lns.length < sizeLine:=szn (by omega)
  walk_at "go"
  refine iteB (fun cc=>?_) (fun cc=>?_)
  ·have cc:(wd:Int) < ((la++cutA w' (some (b:Int)) none++m).length:Int):=by simpa using cc
   refine⟨fun σ H'=>∃ m',m' < μ∧∃(la:List Nat) (b:Nat) (ve:Option V) (lns:List V),σ=[some (.ref tp),some (.ref a),some (.int (wd:Int)),some (.ref r),some (.str (S la)),some (.int (k:Int)),some (.str (S w')),some (.str (S m)),some (.ref t),some (.int (b:Int)),ve]∧la.length≤wd+1∧b≤w'.length∧H' r=some (.lst lns)∧lns.length+m'≤300 * (i+1)∧m'=2 * (w'.length - b)+(if la=[] then 0 else 1)∧∀ b o,b≠r→H2 b=some o→H' b=some o,fun _ _ h=>h,?_⟩
   walk_at "go"
   have et2:Hb t=some (.tup (g.map fun k:Nat=>V.int (k:Int))):=by
    rw[kb _ _ etr et,List.map_map];rfl
   refine⟨t,g,b,_,rfl,et2,by omega,fun Hc e sc hcase=>?_⟩
   have erc:=sc _ _ erb
   have kc:∀ b o,b≠r→H2 b=some o→Hc b=some o:=fun b o h1 h2=>sc _ _ (kb b o h1 h2)
   rcases hcase with ⟨rfl,hno⟩ | ⟨heg,hin,hmx⟩
   ·walk_at "go"
    refine iteBF (by simp) ?_
    walk_at "go"
    by_cases hla0:la=[]
    ·subst hla0
     try refine iteBF (by simp) ?_
     walk_at "go"
     refine i_raise (i_makeX ?_)
     walk_at "go"
     refine mk_ini (small_tx (by omega)) fun x d hx hd hne=>⟨x,ad 4,ad 0,some d,rfl,jb_,Z.x_TooNarrow,qw k x d _ jb_ ?_ fun b o eb=>?_⟩
     ·rw[jd_ hne,jd_ hne,jb_]
     ·have hbr:b≠r:=fun z=>by rw[z,hr0] at eb;cases eb
      rw[upd_upd]
      exact((jg_ hd _).trans (jg_ (by rw[jd_ (Ne.symm hne)];exact hx) _)) _ _ (kc _ _ hbr (s2 _ _ (s1 _ _ eb)))
    ·refine iteBT (by rw[decide_eq_false fun z=>hla0 (S_inj (by injection z))];rfl) ?_
     walk_at "go"
     refine⟨_,?_,[],e,_,_,rfl,Nat.zero_le _,hbw,jb_,?_,rfl,fun b o h1 h2=>?_⟩
     ·rw[hμ,if_pos rfl,if_neg hla0];omega
     ·rw[List.length_append,List.length_singleton,if_pos rfl];rw[hμ,if_neg hla0] at hln;omega
     ·rw[jd_ h1];exact kc b o h1 h2
   ·have he1:=rise_lt hRi e heg
    have hin2:b < e:=by
     unfold inR at hin
     simp only[Bool.and_eq_true,decide_eq_true_eq] at hin
     omega
    have hcl2:(cutA w' (some (b:Int)) (some (e:Int))).length≤w'.length:=cut_le _ _ _
    walk_at "go"
    refine iteBT (by simp;omega) ?_
    walk_at "go"
    refine⟨_,?_,[],e,_,_,rfl,Nat.zero_le _,by omega,jb_,?_,rfl,fun b o h1 h2=>?_⟩
    ·rw[hμ,if_pos rfl];split <;> omega
    ·rw[List.length_append,List.length_singleton,if_pos rfl];rw[hμ] at hln;split at hln <;> omega
    ·rw[jd_ h1];exact kc b o h1 h2
  ·have cc:¬ (wd:Int) < ((la++cutA w' (some (b:Int)) none++m).length:Int):=by simpa using cc
   walk_at "go"
   refine⟨_,_,_,_,_,_,_,_,rfl,?_,erb,by omega,kb⟩
   rw[List.length_append,List.length_singleton]
   omega
 ·rintro σ Ha ⟨la,v5,v6,v7,v8,v9,v10,lns,rfl,hla,era,hlns,ka⟩
  have hsz:lns.length < sizeLine:=szn (by omega)
  have fin:∀ H',(∀ b o,b≠r→H2 b=some o→H' b=some o)→Same H H':=fun H' k b o eb=>by
   have hbr:b≠r:=fun z=>by rw[z,hr0] at eb;cases eb
   exact k _ _ hbr (s2 _ _ (s1 _ _ eb))
  walk_at "go"
  by_cases hla0:la=[]
  ·subst hla0
   try refine iteBF (by simp) ?_
   walk_at "go"
   exact q r Ha (fin Ha ka)
  ·refine iteBT (by rw[decide_eq_false fun z=>hla0 (S_inj (by injection z))];rfl) ?_
   walk_at "go"
   exact q r _ (fin _ fun b o h1 h2=>by rw[jd_ h1];exact ka b o h1 h2)
end
abbrev s_law_parts:Stmt:=top 47
theorem sc_law_parts:FnScope ["_law_feed_here","_law_letters_here","_law_words","_law_patterns","_law_k","_law_word_here","_law_told","_law_head"] ["_law_feed_here","_law_letters_here","_law_words"] (jf_ s_law_parts):=⟨rfl,rfl,rfl,by decide +kernel,rfl,by decide +kernel,by decide +kernel⟩
def spParts:Sp:=fun vs H Q _=>∃(p:Addr) (n:Nat) (l:List Nat) (wa:Addr) (ws:List (List Nat)),vs=[.ref p,.str (S l),.ref wa]∧FeedAt H p n∧n+5000 < feedTop∧Low l∧1≤l.length∧l.length≤26∧H wa=some (.lst (ws.map fun w=>V.str (S w)))∧ws.length=6∧(∀ w∈ws,GW w)∧wa≠p ∧
 ∀(pa pl tdl:Addr) (pats told:List Pat) (hd tl:Int) (H':Hp),H pl=none→H tdl=none→PartsX H' pa pl tdl pats told hd tl→OkB pats told→FeedAt H' p (n+5000)→Kept p H H'→Q (.ref pa) H'
theorem flat_strs (l:List Pat):(l.map fun x=>V.str (S x.1)).all flatV=true:=by
 rw[List.all_map,List.all_eq_true];intro x _;rfl
structure TwoL (H:Hp) (r r2:Addr) (ys yt:List V) (xs told:List Pat):Prop where
 a:H r=some (.lst ys)
 b:L2.IsL H ys (xs.map patD)
 c:H r2=some (.lst yt)
 d:L2.IsL H yt (told.map patD)
theorem TwoL.same {H H':Hp} {r r2:Addr} {ys yt:List V} {xs told:List Pat} (s:Same H H') (h:TwoL H r r2 ys yt xs told):TwoL H' r r2 ys yt xs told:=⟨s _ _ h.a,IsL.same s h.b,s _ _ h.c,IsL.same s h.d⟩
theorem TwoL.kept {H H':Hp} {p r r2:Addr} {n:Nat} {ys yt:List V} {xs told:List Pat} (k:Kept p H H') (hf:FeedAt H p n) (h1:r≠p) (h2:r2≠p) (h:TwoL H r r2 ys yt xs told):TwoL H' r r2 ys yt xs told :=
 ⟨k _ _ h1 h.a,IsL_kept (fun b o e hb=>k b o hb e) (FeedAt.ex hf) h.b,k _ _ h2 h.c,IsL_kept (fun b o e hb=>k b o hb e) (FeedAt.ex hf) h.d⟩
def OkT (x:Pat):Prop:=GW x.1∧∃ g:List Nat,x.2=g.map (fun k:Nat=>(k:Int))∧Rise 0 x.1.length g
section
variable {P:Program} {w:World} {K:PySem.W.Frag} {mg:Str→Option Value} {base:Heap} {f:Addr} {fd:FuncData} {tk:Nat→Tok} {cO:Addr}
theorem ok_law_parts (T:Txt mg tk) (F:Fun K "_law_parts" "_law_parts" s_law_parts f fd) (D_law_next:Dn P w K mg base "_law_next" 1 ["_law_feed_here","_law_many"] spNext) (D_law_pattern:Dn P w K mg base "_law_pattern" 3 ["_law_feed_here","_law_letters_here","_law_word_here","_law_most"] spPattern) (D_law_some_gaps:Dn P w K mg base "_law_some_gaps" 2 ["_law_feed_here","_law_word_here"] spSG):FnOk P w K mg base CX0 4 f fd ["_law_feed_here","_law_letters_here","_law_words"] spParts:=by
 refine F.ok sc_law_parts (fun vs H Q E h=>?_) (fun cdv A outer s H vs Q E hr h=>?_)
 ·obtain⟨p,n,l,a,ws,rfl,_⟩:=h
  rfl
 obtain⟨p,n,l,a,ws,rfl,hf,hn,hl,hl1,hl2,ha,hws1,hws3,hap,q⟩:=h
 have nd:=sc_law_parts.nd
 refine⟨_,(jc_ (jj_ (i:=3) nd rfl (Or.inl rfl) (j9_ pa_nil))
  (jc_ (ps_for PassesOwn.never rfl (pi_range1 rfl T.z_range (ja_ (ji_ D_law_next (hr.mono (by first | decide | omega)) rfl (ja_ (pv 0) (ja_ pe_int pa_nil))) pa_nil)) (jq_ (i:=4) nd rfl (Or.inl rfl))
   (jc_ (jj_ (i:=5) nd rfl (Or.inl rfl) (j2_ (jw_ (K:=K)) (pv 2) (ji_ D_law_next (hr.mono (by first | decide | omega)) rfl (ja_ (pv 0) (ja_ (jk_ (c_len (K:=K)) rfl T.z_len (by decide +kernel) (ja_ (pv 2) pa_nil)) pa_nil))) (fun _ _=>rfl)))
  (jh_ (ps_expr (pe_bmK (K:=K) PySem.F.plainAttrs_list PySem.F.slot_list_append PySem.F.type_list_append m_append1 (pv 3) (ja_ (ji_ D_law_pattern (hr.mono (by first | decide | omega)) rfl (ja_ (pv 0) (ja_ (pv 1) (ja_ (pv 5) (ja_ (j2_ (jw_ (K:=K)) (j9_ (ja_ pe_int (ja_ pe_int (ja_ pe_int pa_nil)))) (ji_ D_law_next (hr.mono (by first | decide | omega)) rfl (ja_ (pv 0) (ja_ pe_int pa_nil))) (fun _ _=>rfl)) pa_nil))))) pa_nil))))))
  (jc_ (jj_ (i:=6) nd rfl (Or.inl rfl) (j9_ pa_nil))
  (jc_ (ps_for PassesOwn.never rfl (pi_range1 rfl T.z_range (ja_ (ji_ D_law_next (hr.mono (by first | decide | omega)) rfl (ja_ (pv 0) (ja_ (j2_ (jw_ (K:=K)) (j9_ (ja_ pe_int (ja_ pe_int (ja_ pe_int pa_nil)))) (ji_ D_law_next (hr.mono (by first | decide | omega)) rfl (ja_ (pv 0) (ja_ pe_int pa_nil))) (fun _ _=>rfl)) pa_nil))) pa_nil)) (jq_ (i:=4) nd rfl (Or.inl rfl))
   (jc_ (jj_ (i:=5) nd rfl (Or.inl rfl) (j2_ (jw_ (K:=K)) (pv 2) (ji_ D_law_next (hr.mono (by first | decide | omega)) rfl (ja_ (pv 0) (ja_ (jk_ (c_len (K:=K)) rfl T.z_len (by decide +kernel) (ja_ (pv 2) pa_nil)) pa_nil))) (fun _ _=>rfl)))
  (jh_ (j6_ (jr_ o_notin (pv 5) (pe_comp ["_law_one"] [none] rfl (by kernel_rfl) rfl (pi_any (K:=K) (pv 6)) (fun _ _ _ _=>(jq_ (i:=0) (show (["_law_one"]:List Str).Nodup by decide +kernel) rfl (Or.inl rfl) (Or.inr rfl))) (fun _ _ _ _=>pts_nil) (fun _ _ _ _=>(j2_ (jw_ (K:=K)) (pv 0) pe_int (fun _ _=>rfl)))) (by with_unfolding_all rfl))
   (jh_ (ps_expr (pe_bmK (K:=K) PySem.F.plainAttrs_list PySem.F.slot_list_append PySem.F.type_list_append m_append1 (pv 6) (ja_ (pe_tup (ja_ (pv 5) (ja_ (ji_ D_law_some_gaps (hr.mono (by first | decide | omega)) rfl (ja_ (pv 0) (ja_ (pv 5) pa_nil))) pa_nil))) pa_nil))))
   ju_))))
  (jc_ (jj_ (i:=7) nd rfl (Or.inl rfl) (jp_ j0_ pe_int (ji_ D_law_next (hr.mono (by first | decide | omega)) rfl (ja_ (pv 0) (ja_ (j2_ (jw_ (K:=K)) (j9_ (ja_ pe_int (ja_ pe_int (ja_ pe_int pa_nil)))) (ji_ D_law_next (hr.mono (by first | decide | omega)) rfl (ja_ (pv 0) (ja_ pe_int pa_nil))) (fun _ _=>rfl)) pa_nil)))))
  (jh_ (jo_ (pe_tup (ja_ (pv 3) (ja_ (pv 6) (ja_ (pv 7) (ja_ (jp_ j0_ pe_int (ji_ D_law_next (hr.mono (by first | decide | omega)) rfl (ja_ (pv 0) (ja_ (j2_ (jw_ (K:=K)) (j9_ (ja_ pe_int (ja_ pe_int (ja_ pe_int pa_nil)))) (ji_ D_law_next (hr.mono (by first | decide | omega)) rfl (ja_ (pv 0) (ja_ pe_int pa_nil))) (fun _ _=>rfl)) pa_nil)))) pa_nil)))))))))))),?_⟩
 rw[show L2.jz_ ["_law_feed_here","_law_letters_here","_law_words","_law_patterns","_law_k","_law_word_here","_law_told","_law_head"] [.ref p,.str (S l),.ref a]=[some (.ref p),some (.str (S l)),some (.ref a),none,none,none,none,none] from rfl]
 walk_at "go"
 intro r hr0
 have pr:p≠r:=by obtain⟨o,e⟩:=hf.some;exact je_ e hr0
 have ar:a≠r:=je_ ha hr0
 walk_at "go"
 refine⟨p,_,n,rfl,hf.new hr0,by omega,by omega,by omega,fun d H1 hd0 hd1 hf1 o1=>?_⟩
 have e1:H1 r=some (.lst []):=(o1 r pr.symm).trans jb_
 have k1:Kept p H H1:=((Kept.refl p H).new hr0 _).off o1
 walk_at "go"
 refine for_range (fun i σ H'=>∃(v4 v5:Option V) (ys:List V) (xs:List Pat),σ=[some (.ref p),some (.str (S l)),some (.ref a),some (.ref r),v4,v5,none,none]∧xs.length=i∧H' r=some (.lst ys)∧L2.IsL H' ys (xs.map patD)∧(∀ x∈xs,GP x)∧FeedAt H' p (n+1+300 * i)∧Kept p H H')
  ⟨none,none,[],[],rfl,rfl,e1,(by simp only[List.map_nil,L2.IsL]),(fun x hx=>nomatch hx),hf1,k1⟩ ?_ ?_
 ·rintro i σ H2 hi ⟨v4,v5,ys,xs,rfl,hxl,e2,hys,hgp,hf2,k2⟩
  have ha2:=k2 a _ hap ha
  have hyl:=hys.length
  rw[List.length_map] at hyl
  walk_at "go"
  rw[List.length_map]
  refine⟨p,_,n+1+300 * i,rfl,hf2,by omega,by omega,by omega,fun c H3 hc0 hc1 hf3 o3=>?_⟩
  have ha3:H3 a=_:=(o3 a hap).trans ha2
  have hcl:c.toNat < ws.length:=by omega
  refine i_ixR (v:=.str (S ws[c.toNat])) (jn_ ha3) (atI_of hc0 (by rw[List.getElem?_map,List.getElem?_eq_getElem hcl];rfl)) ?_
  have hg:=hws3 _ (List.getElem_mem hcl)
  have e3:H3 r=some (.lst ys):=(o3 r pr.symm).trans e2
  have hys3:L2.IsL H3 ys (xs.map patD):=IsL_kept (fun b o e hb=>(o3 b hb).trans e) (FeedAt.ex hf2) hys
  walk_at "go"
  intro d1 hd1
  have pd1:p≠d1:=by obtain⟨o,e⟩:=hf3.some;exact je_ e hd1
  have rd1:r≠d1:=je_ e3 hd1
  have sd:=jg_ hd1 (.lst [.int 3,.int 4,.int 22])
  walk_at "go"
  refine⟨p,3,n+2+300 * i,rfl,(hf3.mono (by omega)).new hd1,by omega,by decide,by decide,fun c1 Hb hb0 hb1 hfb ob=>?_⟩
  obtain⟨m1,hm2,hm3⟩:=pick3 (a:=3) (b:=4) (c:=22) hb0 hb1
  refine i_ixR (jn_ ((ob d1 pd1.symm).trans jb_)) hm2 ?_
  have eb:Hb r=some (.lst ys):=(ob r pr.symm).trans (sd _ _ e3)
  have hysb:L2.IsL Hb ys (xs.map patD):=IsL_kept (fun b o e hb=>(ob b hb).trans e) (FeedAt.ex (hf3.new hd1)) (IsL.same sd hys3)
  walk_at "go"
  refine⟨p,n+3+300 * i,l,ws[c.toNat],m1,rfl,hfb.mono (by omega),by omega,hl,hl1,hl2,hg.1,hg.2.1,hg.2.2,by omega,by omega,fun v x H4 hv hx hf4 k4=>?_⟩
  have e4:H4 r=some (.lst ys):=k4 r _ pr.symm eb
  have hys4:L2.IsL H4 ys (xs.map patD):=IsL_kept (fun b o e hb=>k4 b o hb e) (FeedAt.ex hfb) hysb
  have hsz:ys.length < sizeLine:=szn (by omega)
  walk_at "go"
  have up:∀ b o,H4 b=some o→b≠r→(upd H4 r (.lst (ys++[v]))) b=some o:=fun b o e hb=>by rw[jd_ hb];exact e
  refine⟨_,_,ys++[v],xs++[x],rfl,by simp[hxl],jb_,?_,?_,?_,fun b o hb e=>?_⟩
  ·rw[List.map_append]
   refine IsL.append (IsL_mono up e4 hys4) ?_
   have h1:L2.IsL H4 [v] ([x].map patD):=by simp only[List.map_cons,List.map_nil,L2.IsL];exact⟨hv,trivial⟩
   exact IsL_mono up e4 h1
  ·intro z hz
   rcases List.mem_append.mp hz with h | h
   ·exact hgp z h
   ·have:z=x:=by simpa using h
    rw[this];exact hx
  ·obtain⟨a1,b1,c1,g1,g2⟩:=hf4
   exact⟨a1,b1,c1,by rw[jd_ pr];exact g1,by omega⟩
  ·have hbr:b≠r:=fun z=>by rw[z,hr0] at e;cases e
   rw[jd_ hbr]
   exact k4 b o hb ((ob b hb).trans (sd _ _ ((o3 b hb).trans (k2 b o hb e))))
 ·rintro σ H2 ⟨v4,v5,ys,xs,rfl,hxl,e2,hys,hgp,hf2,k2⟩
  have hxl8:xs.length≤8:=by omega
  have hf2':FeedAt H2 p (n+2500):=hf2.mono (by omega)
  clear hf2
  walk_at "go"
  intro r2 hr20
  have pr2:p≠r2:=by obtain⟨o,e⟩:=hf2'.some;exact je_ e hr20
  have rr2:r≠r2:=je_ e2 hr20
  have sr:=jg_ hr20 (.lst [])
  have er2:=jb_ (H:=H2) (a:=r2) (o:=.lst [])
  have e2':=sr _ _ e2
  have hys':=IsL.same sr hys
  have hf3:FeedAt (upd H2 r2 (.lst [])) p (n+2500):=hf2'.new hr20
  have k3:Kept p H (upd H2 r2 (.lst [])):=k2.new hr20 _
  have hr2H:H r2=none:=by
   cases e:H r2 with
   | none=>rfl
   | some o=>exact absurd (k2 r2 o pr2.symm e) (by rw[hr20];exact fun z=>nomatch z)
  have tw3:TwoL (upd H2 r2 (.lst [])) r r2 ys [] xs []:=⟨e2',hys',er2,by simp only[List.map_nil,L2.IsL]⟩
  generalize upd H2 r2 (.lst [])=H3 at tw3 hf3 k3 ⊢
  walk_at "go"
  intro d2 hd2
  have pd2:p≠d2:=by obtain⟨o,e⟩:=hf3.some;exact je_ e hd2
  have sd2:=jg_ hd2 (.lst [.int 4,.int 4,.int 9])
  have kd2:Kept p H (upd H3 d2 (.lst [.int 4,.int 4,.int 9])):=k3.new hd2 _
  walk_at "go"
  refine⟨p,3,n+2500,rfl,hf3.new hd2,by omega,by decide,by decide,fun c1 H4 hb0 hb1 hf4 o4=>?_⟩
  obtain⟨m1,hm2,hm3⟩:=pick3 (a:=4) (b:=4) (c:=9) hb0 hb1
  refine i_ixR (jn_ ((o4 d2 pd2.symm).trans jb_)) hm2 ?_
  have tw4:TwoL H4 r r2 ys [] xs []:=(tw3.same sd2).kept o4.kept (hf3.new hd2) pr.symm pr2.symm
  have k4:Kept p H H4:=kd2.trans o4.kept
  walk_at "go"
  refine⟨p,m1,n+2501,rfl,hf4,by omega,by omega,by omega,fun cnt H5 hc0 hc1 hf5 o5=>?_⟩
  have tw5:TwoL H5 r r2 ys [] xs []:=tw4.kept o5.kept hf4 pr.symm pr2.symm
  have k5:Kept p H H5:=k4.trans o5.kept
  have hcnt:cnt.toNat≤8:=by omega
  walk_at "go"
  refine for_range (fun i σ H'=>∃(v4 v5:Option V) (yt:List V) (told:List Pat),σ=[some (.ref p),some (.str (S l)),some (.ref a),some (.ref r),v4,v5,some (.ref r2),none]∧TwoL H' r r2 ys yt xs told∧told.length≤i∧(told.map (·.1)).Nodup∧(∀ x∈told,OkT x)∧FeedAt H' p (n+2502+100 * i)∧Kept p H H')
   ⟨_,_,[],[],rfl,tw5,Nat.le_refl _,List.nodup_nil,(fun x hx=>nomatch hx),hf5,k5⟩ ?_ ?_
  ·rintro i σ H6 hi ⟨v4,v5,yt,told,rfl,tw6,htl,hnd,hok,hf6,k6⟩
   have ha6:=k6 a _ hap ha
   walk_at "go"
   rw[List.length_map]
   refine⟨p,_,n+2502+100 * i,rfl,hf6,by omega,by omega,by omega,fun c H7 hc0 hc1 hf7 o7=>?_⟩
   have ha7:H7 a=_:=(o7 a hap).trans ha6
   have hcl:c.toNat < ws.length:=by omega
   refine i_ixR (v:=.str (S ws[c.toNat])) (jn_ ha7) (atI_of hc0 (by rw[List.getElem?_map,List.getElem?_eq_getElem hcl];rfl)) ?_
   have hg:=hws3 _ (List.getElem_mem hcl)
   generalize ws[c.toNat]=wd at hg ⊢
   have tw7:=tw6.kept o7.kept hf6 pr.symm pr2.symm
   have k7:Kept p H H7:=k6.trans o7.kept
   have et7:=tw7.c
   have hyt7:=tw7.d
   have hytl:yt.length=told.length:=by have:=hyt7.length;simpa using this
   walk_at "go"
   intro m hm0
   refine comp_list (K:=K) (xs:=yt) (fun j acc σ H'=>∃(v:Option V),σ=[v]∧acc=(told.take j).map (fun x=>V.str (S x.1))∧H' m=some (.lst acc)∧Same H7 H')
    (fun j acc σ H' _ ⟨_,_,_,_,s3⟩=>SqL.of (s3 _ _ et7)) ⟨none,rfl,rfl,jb_,jg_ hm0 _⟩ (fun j acc σ H' ⟨_,_,e,e3,_⟩=>⟨e3,by rw[e,List.length_map,List.length_take];omega⟩) (szn (by omega)) ?_ ?_
   ·rintro j acc σ H8 hj ⟨v,rfl,rfl,e8,s8⟩
    have hjl:j < told.length:=by omega
    obtain⟨x',d,hx1,hx2,hx3⟩:=IsL.get hyt7 (i:=j) (by rw[List.length_map];exact hjl)
    rw[List.getElem?_map,List.getElem?_eq_getElem hjl] at hx2
    cases hx2
    have hgd:yt.getD j .non=x':=by rw[List.getD_eq_getElem?_getD,hx1];rfl
    rw[hgd]
    obtain⟨pa,nt,rfl,hpa,hnt⟩:=isPat hx3
    have hpa8:=s8 _ _ hpa
    walk_at "go"
    refine⟨e8,_,rfl,?_,jb_,fun b' o e=>?_⟩
    ·rw[List.take_succ,List.getElem?_eq_getElem hjl,List.map_append];rfl
    ·have hbr:b'≠m:=fun z=>by rw[z,hm0] at e;cases e
     rw[jd_ hbr];exact s8 b' o e
   ·rintro acc σ H8 ⟨v,rfl,rfl,e8,s8⟩
    rw[hytl,List.take_length] at e8
    have tw8:=tw7.same s8
    have e8c:=tw8.c
    have k8:Kept p H H8:=fun b o hb e=>s8 _ _ (k7 b o hb e)
    have hf8:FeedAt H8 p (n+2502+100 * i+1):=by
     obtain⟨a1,b1,c1,g1,g2⟩:=hf7
     exact⟨a1,b1,c1,s8 _ _ g1,g2⟩
    refine i_inR (jn_ e8) ⟨rfl,flat_strs _⟩ ?_
    walk_at "go"
    refine iteB (fun c=>?_) (fun c=>?_)
    ·have hfr:wd∉told.map (·.1):=fun hm=>by
      obtain⟨x,hx,rfl⟩:=List.mem_map.mp hm
      have:inV (.str (S x.1)) (told.map fun x=>V.str (S x.1))=true:=by
       unfold inV
       rw[List.any_eq_true]
       exact⟨V.str (S x.1),List.mem_map.mpr ⟨x,hx,rfl⟩,by simp[eqV]⟩
      rw[this] at c
      simp at c
     walk_at "go"
     refine⟨p,n+2502+100 * i+1,wd,rfl,hf8,by omega,hg.2.1,hg.2.2,fun t g H9 ht hR hf9 k9 htp=>?_⟩
     have tw9:=tw8.kept k9 hf8 pr.symm pr2.symm
     walk_at "go"
     intro y hy0
     have yr:r2≠y:=je_ tw9.c hy0
     have e10:(upd H9 y (.tup [.str (S wd),.ref t])) r2=some (.lst yt):=by rw[jd_ yr];exact tw9.c
     have hsz:yt.length < sizeLine:=szn (by omega)
     walk_at "go"
     have up:∀ b o,(upd H9 y (.tup [.str (S wd),.ref t])) b=some o→b≠r2→(upd (upd H9 y (.tup [.str (S wd),.ref t])) r2 (.lst (yt++[.ref y]))) b=some o:=fun b o e hb=>by rw[jd_ hb];exact e
     have sy:=jg_ hy0 (.tup [.str (S wd),.ref t])
     have py:p≠y:=by obtain⟨o,e⟩:=hf9.some;exact je_ e hy0
     refine⟨_,_,yt++[.ref y],told++[(wd,g.map fun k:Nat=>(k:Int))],rfl,⟨up _ _ (sy _ _ tw9.a) rr2,IsL_mono up e10 (IsL.same sy tw9.b),jb_,?_⟩,by rw[List.length_append];show _+1≤_;omega,?_,fun x hx=>?_,?_,fun b o hb e=>?_⟩
     ·rw[List.map_append]
      refine IsL.append (IsL_mono up e10 (IsL.same sy tw9.d)) ?_
      have h1:L2.IsL (upd H9 y (.tup [.str (S wd),.ref t])) [.ref y] ([(wd,g.map fun k:Nat=>(k:Int))].map patD):=by
       simp only[List.map_cons,List.map_nil,L2.IsL]
       refine⟨isPat_mk (x:=(wd,g.map fun k:Nat=>(k:Int))) jb_ ?_,trivial⟩
       have:=sy _ _ ht
       rw[List.map_map]
       exact this
      exact IsL_mono up e10 h1
     ·rw[List.map_append,List.nodup_append]
      refine⟨hnd,by simp,fun x hx y hy=>?_⟩
      have:y=wd:=by simpa using hy
      rw[this]
      exact fun z=>hfr (z▸hx)
     ·rcases List.mem_append.mp hx with h | h
      ·exact hok x h
      ·have:x=(wd,g.map fun k:Nat=>(k:Int)):=by simpa using h
       rw[this];exact⟨hg,g,rfl,hR⟩
     ·obtain⟨a1,b1,c1,g1,g2⟩:=hf9
      exact⟨a1,b1,c1,by rw[jd_ pr2,jd_ py];exact g1,by omega⟩
     ·have hbr:b≠r2:=fun z=>by rw[z,hr2H] at e;cases e
      rw[jd_ hbr];exact sy _ _ (k9 b o hb (k8 b o hb e))
    ·walk_at "go"
     exact⟨_,_,yt,told,rfl,tw8,by omega,hnd,hok,hf8.mono (by omega),k8⟩
  ·rintro σ H6 ⟨v4,v5,yt,told,rfl,tw6,htl,hnd,hok,hf6,k6⟩
   have hf6':FeedAt H6 p (n+3400):=hf6.mono (by omega)
   clear hf6
   walk_at "go"
   intro d3 hd3
   have pd3:p≠d3:=by obtain⟨o,e⟩:=hf6'.some;exact je_ e hd3
   have sd3:=jg_ hd3 (.lst [.int 1,.int 3,.int 20])
   walk_at "go"
   refine⟨p,3,n+3400,rfl,hf6'.new hd3,by omega,by decide,by decide,fun c1 H7 hb0 hb1 hf7 o7=>?_⟩
   obtain⟨m1,hm2,hm3⟩:=pick3 (a:=1) (b:=3) (c:=20) hb0 hb1
   refine i_ixR (jn_ ((o7 d3 pd3.symm).trans jb_)) hm2 ?_
   have tw7:=(tw6.same sd3).kept o7.kept (hf6'.new hd3) pr.symm pr2.symm
   have k7:Kept p H H7:=(k6.new hd3 _).trans o7.kept
   walk_at "go"
   refine⟨p,m1,n+3401,rfl,hf7,by omega,by omega,by omega,fun hd H8 hc0 hc1 hf8 o8=>?_⟩
   have tw8:=tw7.kept o8.kept hf7 pr.symm pr2.symm
   have k8:Kept p H H8:=k7.trans o8.kept
   walk_at "go"
   intro d4 hd4
   have pd4:p≠d4:=by obtain⟨o,e⟩:=hf8.some;exact je_ e hd4
   have sd4:=jg_ hd4 (.lst [.int 1,.int 3,.int 20])
   walk_at "go"
   refine⟨p,3,n+3402,rfl,hf8.new hd4,by omega,by decide,by decide,fun c2 H9 hb2 hb3 hf9 o9=>?_⟩
   obtain⟨m2,hm4,hm5⟩:=pick3 (a:=1) (b:=3) (c:=20) hb2 hb3
   refine i_ixR (jn_ ((o9 d4 pd4.symm).trans jb_)) hm4 ?_
   have tw9:=(tw8.same sd4).kept o9.kept (hf8.new hd4) pr.symm pr2.symm
   have k9:Kept p H H9:=(k8.new hd4 _).trans o9.kept
   walk_at "go"
   refine⟨p,m2,n+3403,rfl,hf9,by omega,by omega,by omega,fun tl H10 hc2 hc3 hf10 o10=>?_⟩
   have tw10:=tw9.kept o10.kept hf9 pr.symm pr2.symm
   have k10:Kept p H H10:=k9.trans o10.kept
   walk_at "go"
   intro pa hpa
   have sp:=jg_ hpa (.tup [.ref r,.ref r2,.int (1+hd),.int (1+tl)])
   walk_at "go"
   have tw11:=tw10.same sp
   refine q pa r r2 xs told (1+hd) (1+tl) _ hr0 hr2H ⟨ys,yt,jb_,tw11.a,tw11.b,tw11.c,tw11.d⟩ ⟨fun x hx=>GP_vals (hgp x hx),by omega,by omega,hnd,fun x hx=>(hgp x hx).cs,fun x hx=>Low_lt (hok x hx).1.1,fun x hx=>(hok x hx).2⟩ ((hf10.new hpa).mono (by omega)) (k10.new hpa _)
end
abbrev s_law_names:Stmt:=top 48
theorem sc_law_names:FnScope ["_law_feed_here","_law_letters_here","_law_base","_law_at","_law_first","_law_found","_law_k","_law_sign"] ["_law_feed_here"] (jf_ s_law_names):=⟨rfl,rfl,rfl,by decide +kernel,rfl,by decide +kernel,by decide +kernel⟩
theorem cut_in {α:Type} {l:List α} {lo hi:Option Int} {c:α} (h:c∈cutA l lo hi):c∈l:=List.mem_of_mem_drop (List.mem_of_mem_take h)
def GN (nm:List Nat):Prop:=Low nm∧1≤nm.length∧nm.length≤8
def Odd (nms:List (List Nat)):Prop:=∃ bad,(bad=[113]∨bad=[122,122])∧∀ z∈nms,z≠bad
theorem head_cut {l:List Nat} {k:Int} (h:1≤k):(cutA l none (some k)).head?=l.head?:=by
 unfold cutA
 have h1:sx l.length 0 none=0:=rfl
 have h2:sx l.length l.length (some k)=min k.toNat l.length:=by simp only[sx];rw[if_neg (by omega)]
 rw[h1,h2,List.drop_zero]
 cases l with
 | nil=>simp
 | cons x r =>
  obtain⟨j,hj⟩:∃ j,min k.toNat (x::r).length - 0=j+1:=⟨min k.toNat (x::r).length - 1,by rw[List.length_cons];omega⟩
  rw[hj];rfl
def spNames:Sp:=fun vs H Q _=>∃(p:Addr) (n:Nat),vs=[.ref p]∧FeedAt H p n∧n+20 < feedTop∧∀(r:Addr) (nms:List (List Nat)) (H':Hp),H' r=some (.lst (nms.map fun z=>V.str (S z)))→nms.length=4→(∀ z∈nms,GN z)→Odd nms→FeedAt H' p (n+20)→Kept p H H'→r≠p→Q (.ref r) H'
section
variable {P:Program} {w:World} {K:PySem.W.Frag} {mg:Str→Option Value} {base:Heap} {f:Addr} {fd:FuncData} {tk:Nat→Tok} {cO cO2:Addr} {ad:Nat→Addr}
theorem ok_law_names (T:Txt mg tk) (F:Fun K "_law_names" "_law_names" s_law_names f fd) (D_law_next:Dn P w K mg base "_law_next" 1 ["_law_feed_here","_law_many"] spNext):FnOk P w K mg base CX0 2 f fd ["_law_feed_here"] spNames:=by
 refine F.ok sc_law_names (fun vs H Q E h=>?_) (fun cdv A outer s H vs Q E hr h=>?_)
 ·obtain⟨p,n,rfl,_⟩:=h
  rfl
 obtain⟨p,n,rfl,hf,hn,q⟩:=h
 have nd:=sc_law_names.nd
 refine⟨_,(jc_ (jj_ (i:=1) nd rfl (Or.inr rfl) pe_str)
  (jc_ (jj_ (i:=2) nd rfl (Or.inr rfl) (pe_bmK (K:=K) PySem.F.plainAttrs_str PySem.F.slot_str_join PySem.F.type_str_join m_join1 pe_str (ja_ (pe_comp ["_law_letters_here","_law_feed_here","_law_k"] [some 1,some 0,none] rfl (by kernel_rfl) rfl (pi_range1 rfl T.z_range (ja_ pe_int pa_nil)) (fun _ _ _ _=>(jq_ (i:=2) (show (["_law_letters_here","_law_feed_here","_law_k"]:List Str).Nodup by decide +kernel) rfl (Or.inl rfl) (Or.inr rfl))) (fun _ _ _ _=>pts_nil) (fun _ _ _ _=>(j2_ (jw_ (K:=K)) (pv 0) (ji_ D_law_next (hr.mono (by first | decide | omega)) rfl (ja_ (pv 1) (ja_ pe_int pa_nil))) (fun _ _=>rfl)))) pa_nil)))
  (jc_ (j6_ (jr_ (o_eq hr.units) (ji_ D_law_next (hr.mono (by first | decide | omega)) rfl (ja_ (pv 0) (ja_ pe_int pa_nil))) pe_int (jy_ _))
   (jh_ (jo_ (pe_comp ["_law_base","_law_k"] [some 2,none] rfl (by kernel_rfl) rfl (pi_any (K:=K) (j9_ (ja_ pe_int (ja_ pe_int (ja_ pe_int (ja_ pe_int pa_nil)))))) (fun _ _ _ _=>(jq_ (i:=1) (show (["_law_base","_law_k"]:List Str).Nodup by decide +kernel) rfl (Or.inl rfl) (Or.inr rfl))) (fun _ _ _ _=>pts_nil) (fun _ _ _ _=>(js_ (j4_ (K:=K)) (pv 0) j1_ (jv_ (pv 1)))))))
   ju_)
  (jc_ (jj_ (i:=3) nd rfl (Or.inl rfl) (ji_ D_law_next (hr.mono (by first | decide | omega)) rfl (ja_ (pv 0) (ja_ pe_int pa_nil))))
  (jc_ (jj_ (i:=4) nd rfl (Or.inl rfl) (ji_ D_law_next (hr.mono (by first | decide | omega)) rfl (ja_ (pv 0) (ja_ pe_int pa_nil))))
  (jc_ (jj_ (i:=5) nd rfl (Or.inl rfl) (j9_ pa_nil))
  (jc_ (ps_for PassesOwn.never rfl (pi_range1 rfl T.z_range (ja_ pe_int pa_nil)) (jq_ (i:=6) nd rfl (Or.inl rfl))
   (jc_ (jj_ (i:=7) nd rfl (Or.inl rfl) (j2_ (jw_ (K:=K)) (pv 1) (jp_ o_mod (jp_ j0_ (pv 4) (jp_ o_mul pe_int (pv 6))) pe_int) (fun _ _=>rfl)))
  (jh_ (ps_expr (pe_bmK (K:=K) PySem.F.plainAttrs_list PySem.F.slot_list_append PySem.F.type_list_append m_append1 (pv 5) (ja_ (jp_ j0_ (jp_ j0_ (js_ (j4_ (K:=K)) (pv 2) j1_ (jv_ (pv 3))) (pv 7)) (js_ (j4_ (K:=K)) (pv 2) (jv_ (jp_ j0_ (pv 3) pe_int)) (jv_ (jp_ o_sub pe_int (pv 6))))) pa_nil))))))
  (jh_ (jo_ (pv 5)))))))))),?_⟩
 rw[show L2.jz_ ["_law_feed_here","_law_letters_here","_law_base","_law_at","_law_first","_law_found","_law_k","_law_sign"] [.ref p]=[some (.ref p),none,none,none,none,none,none,none] from rfl]
 rw[t_let,t_empty]
 have hl26:LETL.length=26:=rfl
 walk_at "go"
 intro r hr0
 have pr:p≠r:=by obtain⟨o,e⟩:=hf.some;exact je_ e hr0
 have k1:Kept p H (upd H r (.lst [])):=(Kept.refl p H).new hr0 _
 refine comp_range (fun i acc σ H'=>∃(v:Option V) (ws:List Nat),σ=[some (.str (S LETL)),some (.ref p),v]∧acc=(ws.map fun c=>V.str (S [c]))∧ws.length=i∧Low ws∧FeedAt H' p (n+i)∧Kept p H H'∧H' r=some (.lst acc))
  ⟨none,[],rfl,rfl,rfl,(fun c hc=>nomatch hc),hf.new hr0,k1,jb_⟩ (fun i acc σ H' ⟨_,ws,_,e,e1,_,_,_,e2⟩=>⟨e2,by rw[e,List.length_map];omega⟩) (szn (by omega)) ?_ ?_
 ·rintro i acc σ H' hi ⟨v,ws,rfl,rfl,hw1,hw2,hf2,k2,e2⟩
  have hll:(S LETL).length≤sizeLine:=szn (by rw[jt_];decide)
  walk_at "go"
  refine⟨p,_,n+i,rfl,hf2,by omega,by omega,by omega,fun c H3 hc0 hc1 hf3 o3=>?_⟩
  have hcl:c.toNat < LETL.length:=by rw[hl26];omega
  refine i_ixS (c:=LETL[c.toNat]) hll (atI_of hc0 (by rw[S_cps];simp[hcl])) ?_
  have e3:H3 r=some (.lst (ws.map fun c=>V.str (S [c]))):=(o3 r pr.symm).trans e2
  refine⟨e3,_,ws++[LETL[c.toNat]],rfl,by rw[List.map_append];rfl,by rw[List.length_append,hw1];rfl,Low_append hw2 (fun x hx=>?_),?_,?_,jb_⟩
  ·have:x=LETL[c.toNat]:=by simpa using hx
   rw[this]
   exact low_LETL _ (List.getElem_mem _)
  ·obtain⟨a1,b1,c1,g1,g2⟩:=hf3
   exact⟨a1,b1,c1,by rw[jd_ pr];exact g1,by omega⟩
  ·intro b o hb e
   have hbr:b≠r:=fun z=>by rw[z,hr0] at e;cases e
   rw[jd_ hbr]
   exact(o3 b hb).trans (k2 b o hb e)
 ·rintro acc σ H1 ⟨v,bs,rfl,rfl,hb1,hb2,hf1,kk1,e1⟩
  have hb8:bs.length=8:=by omega
  have hf1:FeedAt H1 p (n+8):=hf1.mono (by omega)
  walk_at "go"
  have hs:=sum_one bs
  refine i_join (ys:=bs.map fun c=>S [c]) (by rw[← map_one];exact lstR_of e1) ?_ ?_
  ·rw[hs,List.length_map,jt_]
   simp only[List.length_nil,Nat.mul_zero]
   omega
  rw[joined_one]
  walk_at "go"
  refine⟨p,2,n+8,rfl,hf1,by omega,by decide,by decide,fun d H2 hd0 hd1 hf2 o2=>?_⟩
  have k2:=kk1.trans o2.kept
  have cutOk:∀ k:Int,1≤k→k≤8→GN (cutA bs none (some k)):=fun k h1 h2=>by
   have hc:=zd_ bs none (some k)
   have e1:sx bs.length 0 none=0:=rfl
   have e2:sx bs.length bs.length (some k)=min k.toNat bs.length:=by simp only[sx];rw[if_neg (by omega)]
   rw[e1,e2] at hc
   exact⟨Low_cut hb2 _ _,by omega,by omega⟩
  walk_at "go"
  refine iteD (fun cc=>?_) (fun cc=>?_)
  ·walk_at "go"
   intro l1 hl1
   have p1:p≠l1:=by obtain⟨o,e⟩:=hf2.some;exact je_ e hl1
   have s1:=jg_ hl1 (.lst [.int 1,.int 2,.int 8,.int 5])
   have el1:=jb_ (H:=H2) (a:=l1) (o:=.lst [.int 1,.int 2,.int 8,.int 5])
   have k3:=k2.new hl1 (.lst [.int 1,.int 2,.int 8,.int 5])
   have hf3:FeedAt (upd H2 l1 (.lst [.int 1,.int 2,.int 8,.int 5])) p (n+8+1):=hf2.new hl1
   generalize upd H2 l1 (.lst [.int 1,.int 2,.int 8,.int 5])=H3 at s1 el1 k3 hf3 ⊢
   walk_at "go"
   intro m hm0
   have pm:p≠m:=by obtain⟨o,e⟩:=hf3.some;exact je_ e hm0
   refine comp_list (K:=K) (xs:=[V.int 1,.int 2,.int 8,.int 5]) (fun j acc σ H'=>∃(v:Option V) (zs:List (List Nat)),σ=[some (.str (S bs)),v]∧acc=zs.map (fun z=>V.str (S z))∧zs.length=j∧(∀ z∈zs,GN z∧z.head?=bs.head?)∧H' m=some (.lst acc)∧Same H3 H')
    (fun j acc σ H' _ ⟨_,_,_,_,_,_,_,s3⟩=>SqL.of (s3 _ _ el1)) ⟨none,[],rfl,rfl,rfl,(fun z hz=>nomatch hz),jb_,jg_ hm0 _⟩ (fun j acc σ H' ⟨_,_,_,e,e0,_,e3,_⟩=>⟨e3,by rw[e,List.length_map];omega⟩) (szn (by decide)) ?_ ?_
   ·rintro j acc σ H4 hj ⟨v,zs,rfl,rfl,hz1,hz2,e4,s4⟩
    have hj4:j < 4:=hj
    obtain⟨k,hk,hk1,hk2⟩:∃ k:Int,([V.int 1,.int 2,.int 8,.int 5]:List V).getD j .non=.int k∧1≤k∧k≤8:=by
     match j,hj4 with
     | 0,_=>exact⟨1,rfl,by decide,by decide⟩
     | 1,_=>exact⟨2,rfl,by decide,by decide⟩
     | 2,_=>exact⟨8,rfl,by decide,by decide⟩
     | 3,_=>exact⟨5,rfl,by decide,by decide⟩
    rw[hk]
    walk_at "go"
    refine⟨e4,_,zs++[cutA bs none (some k)],rfl,by rw[List.map_append];rfl,by rw[List.length_append,hz1];rfl,fun z hz=>?_,jb_,fun b o e=>?_⟩
    ·rcases List.mem_append.mp hz with h | h
     ·exact hz2 z h
     ·have:z=cutA bs none (some k):=by simpa using h
      rw[this];exact⟨cutOk k hk1 hk2,head_cut hk1⟩
    ·have hbr:b≠m:=fun z=>by rw[z,hm0] at e;cases e
     rw[jd_ hbr];exact s4 b o e
   ·rintro acc σ H4 ⟨v,zs,rfl,rfl,hz1,hz2,e4,s4⟩
    walk_at "go"
    refine q m zs H4 e4 (by simpa using hz1) (fun z hz=>(hz2 z hz).1) ?_ ((FeedAt.same hf3 s4).mono (by omega)) (k3.same s4) pm.symm
    by_cases hq:bs.head?=some 113
    ·refine⟨[122,122],.inr rfl,fun z hz e=>?_⟩
     have:=(hz2 z hz).2
     rw[e,hq] at this;cases this
    ·refine⟨[113],.inl rfl,fun z hz e=>hq ?_⟩
     have:=(hz2 z hz).2
     rw[e] at this;exact this.symm
  ·walk_at "go"
   refine⟨p,8,n+8+1,rfl,hf2,by omega,by decide,by decide,fun at_ H3 ha0 ha1 hf3 o3=>?_⟩
   walk_at "go"
   refine⟨p,26,n+8+1+1,rfl,hf3,by omega,by decide,by decide,fun fi H4 hi0 hi1 hf4 o4=>?_⟩
   have k4:=(k2.trans o3.kept).trans o4.kept
   walk_at "go"
   intro m hm0
   have pm:p≠m:=by obtain⟨o,e⟩:=hf4.some;exact je_ e hm0
   have s5:=jg_ hm0 (.lst [])
   have em:=jb_ (H:=H4) (a:=m) (o:=.lst [])
   generalize upd H4 m (.lst [])=H5 at s5 em ⊢
   walk_at "go"
   refine for_range (fun i σ H'=>∃(v5 v6:Option V) (zs:List (List Nat)),σ=[some (.ref p),some (.str (S LETL)),some (.str (S bs)),some (.int at_),some (.int fi),some (.ref m),v5,v6]∧zs.length=i∧(∀ z∈zs,GN z∧2≤z.length)∧H' m=some (.lst (zs.map fun z=>V.str (S z)))∧Same H4 H')
    ⟨none,none,[],rfl,rfl,(fun z hz=>nomatch hz),em,s5⟩ ?_ ?_
   ·rintro i σ H6 hi ⟨v5,v6,zs,rfl,hz1,hz2,e6,s6⟩
    have hi4:i < 4:=by omega
    walk_at "go"
    have hm0':0≤(fi+5 * (0+(i:Int))) % 26:=Int.emod_nonneg _ (by decide)
    have hm1':(fi+5 * (0+(i:Int))) % 26 < 26:=Int.emod_lt_of_pos _ (by decide)
    have hcl:((fi+5 * (0+(i:Int))) % 26).toNat < LETL.length:=by rw[hl26];omega
    refine i_ixC (l:=LETL) (c:=LETL[((fi+5 * (0+(i:Int))) % 26).toNat]) (by decide) (atI_of hm0' (List.getElem?_eq_getElem hcl)) ?_
    have hlow:=low_LETL _ (List.getElem_mem hcl)
    generalize LETL[((fi+5 * (0+(i:Int))) % 26).toNat]=c at hlow ⊢
    have hc1:=cut_le bs none (some at_)
    have hc2:=cut_le bs (some (at_+1)) (some (8 - (0+(i:Int))))
    walk_at "go"
    try refine i_addC (by simp only[List.length_cons,List.length_nil];omega) ?_
    walk_at "go"
    try refine i_addC (by simp only[List.length_append,List.length_cons,List.length_nil];omega) ?_
    have hsz:(zs.map fun z=>V.str (S z)).length < sizeLine:=szn (by rw[List.length_map];omega)
    walk_at "go"
    refine⟨_,_,zs++[cutA bs none (some at_)++[c]++cutA bs (some (at_+1)) (some (8 - (0+(i:Int))))],rfl,by rw[List.length_append,hz1];rfl,fun z hz=>?_,by rw[List.map_append];exact jb_,fun b o e=>?_⟩
    ·rcases List.mem_append.mp hz with h | h
     ·exact hz2 z h
     ·have:z=cutA bs none (some at_)++[c]++cutA bs (some (at_+1)) (some (8 - (0+(i:Int)))):=by simpa using h
      rw[this]
      have g1:=zd_ bs none (some at_)
      have g2:=zd_ bs (some (at_+1)) (some (8 - (0+(i:Int))))
      have e1:sx bs.length 0 none=0:=rfl
      have e2:sx bs.length bs.length (some at_)=min at_.toNat bs.length:=by simp only[sx];rw[if_neg (by omega)]
      have e3:sx bs.length bs.length (some (8 - (0+(i:Int))))=min (8 - (0+(i:Int))).toNat bs.length:=by simp only[sx];rw[if_neg (by omega)]
      have e4:sx bs.length 0 (some (at_+1))=min (at_+1).toNat bs.length:=by simp only[sx];rw[if_neg (by omega)]
      rw[e1,e2] at g1
      rw[e3,e4] at g2
      refine⟨⟨Low_append (Low_append (Low_cut hb2 _ _) (fun d hd=>?_)) (Low_cut hb2 _ _),?_,?_⟩,?_⟩
      ·have:d=c:=by simpa using hd
       rw[this];exact hlow
      ·simp only[List.length_append,List.length_cons,List.length_nil];omega
      ·simp only[List.length_append,List.length_cons,List.length_nil];omega
      ·simp only[List.length_append,List.length_cons,List.length_nil];omega
    ·have hbr:b≠m:=fun z=>by rw[z,hm0] at e;cases e
     rw[jd_ hbr];exact s6 b o e
   ·rintro σ H6 ⟨v5,v6,zs,rfl,hz1,hz2,e6,s6⟩
    walk_at "go"
    exact q m zs H6 e6 (by simpa using hz1) (fun z hz=>(hz2 z hz).1) ⟨[113],.inl rfl,fun z hz e=>by have:=(hz2 z hz).2;rw[e] at this;simp at this⟩ ((FeedAt.same hf4 s6).mono (by omega)) (k4.same s6) pm.symm
end
abbrev s_law_some:Stmt:=top 50
theorem sc_law_some:FnScope ["_law_feed_here","_law_letters_here","_law_words","_law_some_here","_law_name"] ["_law_feed_here","_law_letters_here","_law_words"] (jf_ s_law_some):=⟨rfl,rfl,rfl,by decide +kernel,rfl,by decide +kernel,by decide +kernel⟩
abbrev s_law_made:Stmt:=top 49
theorem sc_law_made:FnScope ["_law_some_here","_law_tongues","_law_name","_law_parts_here"] ["_law_some_here"] (jf_ s_law_made):=⟨rfl,rfl,rfl,by decide +kernel,rfl,by decide +kernel,by decide +kernel⟩
abbrev s_law_things:Stmt:=top 51
theorem sc_law_things:FnScope ["_law_feed_here","_law_some_here","_law_words","_law_letters_here","_law_names_here","_law_things_here","_law_k","_law_way","_law_word_here"] ["_law_feed_here","_law_some_here","_law_words","_law_letters_here"] (jf_ s_law_things):=⟨rfl,rfl,rfl,by decide +kernel,rfl,by decide +kernel,by decide +kernel⟩
theorem GN.nm {nm:List Nat} (h:GN nm):isNm nm=true:=by
 unfold isNm isWord
 rw[decide_eq_true (by have:=h.2.1;omega),decide_eq_true h.2.2,Bool.true_and,Bool.and_true,List.all_eq_true]
 exact h.1
def Ndk (H H':Hp):Prop:=∀ b o,(∀ kk,o≠.dK kk)→H b=some o→H' b=some o
theorem PartsAt.ndk {H H':Hp} {pa:Addr} {pats told:List Pat} {hd tl:Int} (s:Ndk H H') (h:PartsAt H pa pats told hd tl):PartsAt H' pa pats told hd tl:=by
 obtain⟨pl,tdl,yp,yt,a1,a2,a3,a4,a5⟩:=h
 have tks:∀ b zs,H b=some (.tup zs)→H' b=some (.tup zs):=fun b zs e=>s b _ (fun kk z=>nomatch z) e
 exact⟨pl,tdl,yp,yt,tks _ _ a1,s _ _ (fun kk z=>nomatch z) a2,IsL_tks tks a3,s _ _ (fun kk z=>nomatch z) a4,IsL_tks tks a5⟩
def PR (H:Hp):List (Key×V)→List (List Nat×Bp)→Prop
 | [],[]=>True
 | kw::kws,m::ms=>kw.1=Sum.inr (S m.1)∧(∃ pa,kw.2=.ref pa∧PartsAt H pa m.2.pats m.2.told m.2.hd m.2.tl)∧OkB m.2.pats m.2.told∧PR H kws ms
 | _,_=>False
theorem PR.ind {H:Hp} {M:List (Key×V)→List (List Nat×Bp)→Prop} (h0:M [] []) (h1:∀ kw kws m ms,kw.1=Sum.inr (S m.1)→(∃ pa,kw.2=.ref pa∧PartsAt H pa m.2.pats m.2.told m.2.hd m.2.tl)→OkB m.2.pats m.2.told→PR H kws ms→M kws ms→M (kw::kws) (m::ms)) :
  ∀{kws:List (Key×V)} {ms:List (List Nat×Bp)},PR H kws ms→M kws ms
 | [],[],_=>h0
 | [],_::_,h=>h.elim
 | _::_,[],h=>h.elim
 | kw::kws,m::ms,h=>h1 kw kws m ms h.1 h.2.1 h.2.2.1 h.2.2.2 (PR.ind h0 h1 h.2.2.2)
theorem PR.ndk {H H':Hp} (s:Ndk H H') {kws:List (Key×V)} {ms:List (List Nat×Bp)} (h:PR H kws ms):PR H' kws ms :=
 PR.ind (M:=fun kws ms=>PR H' kws ms) trivial (fun _ _ _ _ a ⟨pa,d1,d2⟩ e _ ih=>⟨a,⟨pa,d1,d2.ndk s⟩,e,ih⟩) h
theorem Same.ndk {H H':Hp} (s:Same H H'):Ndk H H':=fun b o _ e=>s b o e
theorem PR.same {H H':Hp} (s:Same H H') {kws:List (Key×V)} {ms:List (List Nat×Bp)} (h:PR H kws ms):PR H' kws ms:=h.ndk (Same.ndk s)
theorem PR.keys {H:Hp} {kws:List (Key×V)} {ms:List (List Nat×Bp)} (h:PR H kws ms):kws.map (·.1)=(ms.map fun m=>S m.1).map Sum.inr :=
 PR.ind (M:=fun kws ms=>kws.map (·.1)=(ms.map fun m=>S m.1).map Sum.inr) rfl (fun _ _ _ _ a _ _ _ ih=>by
  simp only[List.map_cons]
  rw[ih,a]) h
theorem PR.len {H:Hp} {kws:List (Key×V)} {ms:List (List Nat×Bp)} (h:PR H kws ms):kws.length=ms.length:=by
 have a:=congrArg List.length h.keys
 simpa only [List.length_map] using a
theorem PR.get {H:Hp} {kws:List (Key×V)} {ms:List (List Nat×Bp)} (h:PR H kws ms):∀(i:Nat) (kw:Key×V),kws[i]?=some kw→∃ m,ms[i]?=some m∧kw.1=Sum.inr (S m.1)∧(∃ pa,kw.2=.ref pa∧PartsAt H pa m.2.pats m.2.told m.2.hd m.2.tl)∧OkB m.2.pats m.2.told:=by
 refine PR.ind (M:=fun kws ms=>∀(i:Nat) (kw:Key×V),kws[i]?=some kw→∃ m,ms[i]?=some m∧kw.1=Sum.inr (S m.1)∧(∃ pa,kw.2=.ref pa∧PartsAt H pa m.2.pats m.2.told m.2.hd m.2.tl)∧OkB m.2.pats m.2.told) (fun i kw e=>by simp at e) ?_ h
 intro kw kws m ms a b c _ ih i kw' e
 cases i with
 | zero =>
  have e:kw=kw':=by simpa using e
  subst e
  exact⟨m,rfl,a,b,c⟩
 | succ i =>
  obtain⟨m',h1,h2⟩:=ih i kw' (by simpa using e)
  exact⟨m',by simpa using h1,h2⟩
theorem PR.any {H:Hp} (z:List Nat) {kws:List (Key×V)} {ms:List (List Nat×Bp)} (h:PR H kws ms):(kws.any fun kv=>decide (kv.1=(Sum.inr (S z):Key)))=(ms.any fun m=>decide (m.1=z)):=by
 refine PR.ind (M:=fun kws ms=>(kws.any fun kv=>decide (kv.1=(Sum.inr (S z):Key)))=(ms.any fun m=>decide (m.1=z))) rfl ?_ h
 intro kw kws m ms b _ _ _ ih
 rw[List.any_cons,List.any_cons,ih,b]
 congr 1
 by_cases e:m.1=z
 ·rw[decide_eq_true e,decide_eq_true (by rw[e])]
 ·rw[decide_eq_false e,decide_eq_false fun q=>e (kS_inj q)]
theorem PR.append {H:Hp} {kws kws':List (Key×V)} {ms ms':List (List Nat×Bp)} (h:PR H kws ms) (h':PR H kws' ms'):PR H (kws++kws') (ms++ms') :=
 PR.ind (M:=fun kws ms=>PR H (kws++kws') (ms++ms')) h' (fun _ _ _ _ b d e _ ih=>⟨b,d,e,ih⟩) h
theorem PR.put {H:Hp} {z:List Nat} {pa:Addr} {b:Bp} {kws:List (Key×V)} {ms:List (List Nat×Bp)} (h:PR H kws ms) (hP:PartsAt H pa b.pats b.told b.hd b.tl) (hO:OkB b.pats b.told):PR H (putK kws (Sum.inr (S z)) (.ref pa)) (putM ms z b):=by
 unfold putK putM
 rw[h.any z]
 by_cases c:(ms.any fun m=>decide (m.1=z))=true
 ·rw[if_pos c,if_pos c]
  refine PR.ind (M:=fun kws ms=>PR H (kws.map fun kv=>if kv.1=(Sum.inr (S z):Key) then (kv.1,.ref pa) else kv) (ms.map fun m=>if m.1=z then (m.1,b) else m)) trivial ?_ h
  intro kw kws m ms b' d e _ ih
  simp only[List.map_cons]
  by_cases hz:m.1=z
  ·rw[if_pos (by rw[b',hz]),if_pos hz]
   exact⟨b',⟨pa,rfl,hP⟩,hO,ih⟩
  ·rw[if_neg (by rw[b'];exact fun q=>hz (kS_inj q)),if_neg hz]
   exact⟨b',d,e,ih⟩
 ·rw[if_neg c,if_neg c]
  exact h.append ⟨rfl,⟨pa,rfl,hP⟩,hO,trivial⟩
theorem putM_names {ms:List (List Nat×Bp)} {z:List Nat} {b:Bp} {M:List Nat→Prop} (h:∀ m∈ms,M m.1) (hz:M z):∀ m∈putM ms z b,M m.1:=fun m hm=>by
 unfold putM at hm
 split at hm
 ·obtain⟨m',h1,rfl⟩:=List.mem_map.mp hm
  split
  ·exact h m' h1
  ·exact h m' h1
 ·rcases List.mem_append.mp hm with h1 | h1
  ·exact h m h1
  ·have:m=(z,b):=by simpa using h1
   rw[this];exact hz
theorem putM_nd {ms:List (List Nat×Bp)} {z:List Nat} {b:Bp} (h:(ms.map (·.1)).Nodup):((putM ms z b).map (·.1)).Nodup:=by
 unfold putM
 split
 ·have e:(ms.map fun m=>if m.1=z then (m.1,b) else m).map (·.1)=ms.map (·.1):=by
   rw[List.map_map]
   apply List.map_congr_left
   intro m _
   simp only[Function.comp]
   split <;> rfl
  rw[e];exact h
 ·rename_i c
  rw[List.map_append,List.nodup_append]
  refine⟨h,by simp,fun x hx y hy=>?_⟩
  have:y=z:=by simpa using hy
  rw[this]
  intro e
  obtain⟨m,hm,rfl⟩:=List.mem_map.mp hx
  exact c (List.any_eq_true.mpr ⟨m,hm,by simpa using e⟩)
theorem putM_len1 (ms:List (List Nat×Bp)) (z:List Nat) (b:Bp):1≤(putM ms z b).length:=by
 unfold putM
 split
 ·rename_i c
  obtain⟨m,hm,_⟩:=List.any_eq_true.mp c
  rw[List.length_map]
  exact List.length_pos_of_mem hm
 ·rw[List.length_append];simp
theorem lookM_mem {ms:List (List Nat×Bp)} {m:List Nat×Bp} (h:m∈ms):lookM ms m.1≠none:=by
 unfold lookM
 intro e
 have:=Option.map_eq_none_iff.mp e
 exact List.find?_eq_none.mp this m h (by simp)
def spSome:Sp:=fun vs H Q _=>∃(p:Addr) (n:Nat) (l:List Nat) (wa:Addr) (ws:List (List Nat)),vs=[.ref p,.str (S l),.ref wa]∧FeedAt H p n∧n+30000 < feedTop∧Low l∧1≤l.length∧l.length≤26∧H wa=some (.lst (ws.map fun w=>V.str (S w)))∧ws.length=6∧(∀ w∈ws,GW w)∧wa≠p ∧
 ∀(sd:Addr) (kws:List (Key×V)) (ms:List (List Nat×Bp)) (H':Hp),H sd=none→sd≠p→H' sd=some (.dK kws)→PR (offH H' [p,sd]) kws ms→(ms.map (·.1)).Nodup→1≤ms.length→ms.length≤10→(∀ m∈ms,GN m.1)→Odd (ms.map (·.1))→FeedAt H' p (n+30000)→Kept p H H'→Q (.ref sd) H'
def spMadeT (C CT:Addr):Sp:=fun vs H Q _=>∃(sd:Addr) (kws:List (Key×V)) (ms:List (List Nat×Bp)) (D:List Addr),vs=[.ref sd]∧H sd=some (.dK kws)∧sd∈D∧(∀ b∈D,∃ o,H b=some o∧∀ zs,o≠.tup zs)∧PR (offH H D) kws ms∧(ms.map (·.1)).Nodup∧ms.length≤100 ∧
 ∀(tp td:Addr) (kvs:List (Key×V)) (H':Hp),H tp=none→H td=none→TgAt CT H' tp td kvs→TR C (offH H' (td::D)) kvs kws ms→Same H H'→Q (.ref tp) H'
def spThings:Sp:=fun vs H Q _=>∃(p sd wa:Addr) (n:Nat) (l:List Nat) (ws:List (List Nat)) (kws:List (Key×V)) (ms:List (List Nat×Bp)),vs=[.ref p,.ref sd,.ref wa,.str (S l)]∧FeedAt H p n∧n+5000 < feedTop∧Low l∧1≤l.length∧l.length≤26∧H wa=some (.lst (ws.map fun w=>V.str (S w)))∧ws.length=6∧(∀ w∈ws,GW w)∧wa≠p∧H sd=some (.dK kws)∧kws.map (·.1)=(ms.map fun m=>S m.1).map Sum.inr∧1≤ms.length∧ms.length≤100∧(∀ m∈ms,GN m.1) ∧
 ∀(r:Addr) (ls:List (List Nat)) (H':Hp),H r=none→r≠p→H' r=some (.lst (ls.map fun l=>V.str (S l)))→ls.length≤20→TxOk ms ls→FeedAt H' p (n+5000)→Kept p H H'→Q (.ref r) H'
def MKL:List Nat:=[44,46,59,58,33,63]
theorem t_marks:Str.ofString ",.;:!?"=S MKL:=by decide +kernel
theorem marks_has (c:Nat):Txt.contains (S MKL) (S [c])=isMark c:=by
 rw[contains_S]
 show decide (c∈MKL)=MKL.contains c
 first | exact(List.elem_eq_mem _ _).symm | simp
theorem th_low {ms:List (List Nat×Bp)} {l:List Nat} (h:ThOk ms l):∀ c∈l,c < 128:=fun c hc=>by
 rcases h with ⟨nm,rfl,h1,_⟩ | ⟨w,m,hw,hm,rfl⟩
 ·rcases List.mem_cons.mp hc with rfl | hc
  ·decide
  ·unfold isNm isWord at h1
   simp only[Bool.and_eq_true,List.all_eq_true] at h1
   exact Low_lt (l:=nm) h1.1.2 c hc
 ·rcases List.mem_append.mp hc with hc | hc
  ·exact Low_lt hw.1 c hc
  ·rcases hm with rfl | ⟨d,hd,rfl⟩
   ·cases hc
   ·have:c=d:=by simpa using hc
    subst this
    unfold isMark at hd
    simp only[List.contains_eq_any_beq,List.any_cons,List.any_nil,Bool.or_false,Bool.or_eq_true,beq_iff_eq] at hd
    omega
theorem valV_at {κ:Type} [DecidableEq κ]:∀{kws:List (κ×V)} {i:Nat} {kw:κ×V},(kws.map (·.1)).Nodup→kws[i]?=some kw→valV kws kw.1=some kw.2
 | [],_,_,_,h=>by simp at h
 | k::kws,0,kw,_,h=>by
  have h:k=kw:=by simpa using h
  subst h
  exact valV_pos rfl
 | k::kws,i+1,kw,hn,h=>by
  have h:kws[i]?=some kw:=by simpa using h
  have hn2:=List.nodup_cons.mp hn
  rw[valV_neg fun e=>hn2.1 (by show k.1∈kws.map (·.1);rw[e];exact List.mem_map.mpr ⟨kw,List.mem_of_getElem? h,rfl⟩)]
  exact valV_at hn2.2 h
section
variable {P:Program} {w:World} {K:PySem.W.Frag} {mg:Str→Option Value} {base:Heap} {f:Addr} {fd:FuncData} {tk:Nat→Tok} {cO cO2 mkT:Addr}
theorem ok_law_some (T:Txt mg tk) (F:Fun K "_law_some" "_law_some" s_law_some f fd) (D_law_names:Dn P w K mg base "_law_names" 2 ["_law_feed_here"] spNames) (D_law_next:Dn P w K mg base "_law_next" 1 ["_law_feed_here","_law_many"] spNext) (D_law_parts:Dn P w K mg base "_law_parts" 4 ["_law_feed_here","_law_letters_here","_law_words"] spParts):FnOk P w K mg base CX0 5 f fd ["_law_feed_here","_law_letters_here","_law_words"] spSome:=by
 refine F.ok sc_law_some (fun vs H Q E h=>?_) (fun cdv A outer s H vs Q E hr h=>?_)
 ·obtain⟨p,n,l,wa,ws,rfl,_⟩:=h
  rfl
 obtain⟨p,n,l,wa,ws,rfl,hf,hn,hl,hl1,hl2,hwa,hws,hgw,hwp,q⟩:=h
 have nd:=sc_law_some.nd
 refine⟨_,(jc_ (jj_ (i:=3) nd rfl (Or.inl rfl) pe_dnewK)
  (jc_ (ps_for PassesOwn.never rfl (pi_any (K:=K) (js_ (j4_ (K:=K)) (ji_ D_law_names (hr.mono (by first | decide | omega)) rfl (ja_ (pv 0) pa_nil)) j1_ (jv_ (jp_ j0_ pe_int (ji_ D_law_next (hr.mono (by first | decide | omega)) rfl (ja_ (pv 0) (ja_ pe_int pa_nil))))))) (jq_ (i:=4) nd rfl (Or.inl rfl))
   (jh_ (ps_dput (hu_of hr) (pv 3) (pv 4) (ji_ D_law_parts (hr.mono (by first | decide | omega)) rfl (ja_ (pv 0) (ja_ (pv 1) (ja_ (pv 2) pa_nil)))) rfl)))
  (jh_ (jo_ (pv 3))))),?_⟩
 rw[show L2.jz_ ["_law_feed_here","_law_letters_here","_law_words","_law_some_here","_law_name"] [.ref p,.str (S l),.ref wa]=[some (.ref p),some (.str (S l)),some (.ref wa),none,none] from rfl]
 walk_at "go"
 refine i_dnewK fun sd hsd=>?_
 have psd:p≠sd:=by obtain⟨o,e⟩:=hf.some;exact je_ e hsd
 have k1:Kept p H (upd H sd (.dK [])):=(Kept.refl p H).new hsd _
 have esd:=jb_ (H:=H) (a:=sd) (o:=.dK [])
 have hf1:FeedAt (upd H sd (.dK [])) p n:=hf.new hsd
 generalize upd H sd (.dK [])=H1 at k1 esd hf1 ⊢
 walk_at "go"
 refine⟨p,n,rfl,hf1,by omega,fun na nms H2 ena hnl hnms0 hodd hf2 k2 hnp=>?_⟩
 obtain⟨bad,hbad,hbne⟩:=hodd
 have hnms:∀ z∈nms,GN z∧z≠bad:=fun z hz=>⟨hnms0 z hz,hbne z hz⟩
 have esd2:=k2 _ _ psd.symm esd
 walk_at "go"
 refine⟨p,3,n+20,rfl,hf2,by omega,by decide,by decide,fun d H3 hd0 hd1 hf3 o3=>?_⟩
 have ena3:H3 na=_:=(o3 na hnp).trans ena
 walk_at "go"
 refine i_slL (SqL.of ena3) fun sl hsl=>?_
 obtain⟨zs,hzs,hzl1,hzl2,hzg⟩:∃ zs:List (List Nat),cutV (nms.map fun z=>V.str (S z)) none (some (1+d))=zs.map (fun z=>V.str (S z))∧1≤zs.length∧zs.length≤4∧∀ z∈zs,GN z∧z≠bad:=by
  refine⟨cutA nms none (some (1+d)),by rw[cutV_eq,cutA_map],?_,?_,fun z hz=>hnms z (cut_in hz)⟩
  ·have hc:=zd_ nms none (some (1+d))
   have e1:sx nms.length 0 none=0:=rfl
   have e2:sx nms.length nms.length (some (1+d))=min (1+d).toNat nms.length:=by simp only[sx];rw[if_neg (by omega)]
   rw[e1,e2] at hc
   omega
  ·have:=cut_le nms none (some (1+d))
   omega
 rw[hzs]
 have k3:=((k1.trans k2).trans o3.kept).new hsl (.lst (zs.map fun z=>V.str (S z)))
 have esl:=jb_ (H:=H3) (a:=sl) (o:=.lst (zs.map fun z=>V.str (S z)))
 have esd3:=jg_ hsl (.lst (zs.map fun z=>V.str (S z))) _ _ ((o3 sd psd.symm).trans esd2)
 have psl:p≠sl:=by obtain⟨o,e⟩:=hf3.some;exact je_ e hsl
 have ssl:sl≠sd:=fun z=>by rw[z] at hsl;rw[(o3 sd psd.symm).trans esd2] at hsl;cases hsl
 have hf4:FeedAt (upd H3 sl (.lst (zs.map fun z=>V.str (S z)))) p (n+20+1):=hf3.new hsl
 generalize upd H3 sl (.lst (zs.map fun z=>V.str (S z)))=H4 at k3 esl esd3 hf4 ⊢
 walk_at "go"
 refine for_list (K:=K) (xs:=zs.map fun z=>V.str (S z)) (fun i σ H'=>∃(v4:Option V) (kws:List (Key×V)) (ms:List (List Nat×Bp)),σ=[some (.ref p),some (.str (S l)),some (.ref wa),some (.ref sd),v4]∧H' sd=some (.dK kws)∧PR (offH H' [p,sd]) kws ms∧(ms.map (·.1)).Nodup∧(1≤i→1≤ms.length)∧ms.length≤i∧(∀ m∈ms,GN m.1∧m.1≠bad)∧FeedAt H' p (n+21+5000 * i)∧Kept p H H'∧H' sl=some (.lst (zs.map fun z=>V.str (S z))))
  ⟨none,[],[],rfl,esd3,trivial,List.nodup_nil,by omega,Nat.le_refl _,(fun m hm=>nomatch hm),hf4,k3,esl⟩ (fun i σ H' _ ⟨_,_,_,_,_,_,_,_,_,_,_,_,e⟩=>SqL.of e) ?_ ?_
 ·rintro i x σ Ha hx ⟨v4,kws,ms,rfl,esda,hR,hnd,_,hml,hgn,hfa,ka,esla⟩
  rw[List.getElem?_map] at hx
  obtain⟨z,hz,rfl⟩:∃ z,zs[i]?=some z∧x=V.str (S z):=by
   cases e:zs[i]? with
   | none=>rw[e] at hx;cases hx
   | some z=>rw[e] at hx;cases hx;exact⟨z,rfl,rfl⟩
  have hi:=(List.getElem?_eq_some_iff.mp hz).1
  have hkl:=hR.len
  walk_at "go"
  refine i_dput ?_
  walk_at "go"
  refine⟨p,n+21+5000 * i,l,wa,ws,rfl,hfa,by omega,hl,hl1,hl2,ka _ _ hwp hwa,hws,hgw,hwp,fun pa pl tdl pats told hd tl Hb hpl htdl hP hO hfb kb=>?_⟩
  have esdb:=kb _ _ psd.symm esda
  walk_at "go"
  refine⟨sd,_,rfl,DPut.k (k:=Sum.inr (S z)) esdb (Nat.lt_of_le_of_lt (show kws.length≤1000 by omega) (by decide)),?_⟩
  have up:∀ b o,b≠sd→Hb b=some o→(upd Hb sd (.dK (putK kws (Sum.inr (S z)) (.ref pa)))) b=some o:=fun b o hb e=>by rw[jd_ hb];exact e
  have esdc:=jb_ (H:=Hb) (a:=sd) (o:=.dK (putK kws (Sum.inr (S z)) (.ref pa)))
  generalize upd Hb sd (.dK (putK kws (Sum.inr (S z)) (.ref pa)))=Hc at up esdc ⊢
  obtain⟨z1,z2,z3,ezp⟩:=FeedAt.ex hfb
  have hDb:∀ b∈[p,sd],∀ zs,Hb b≠some (.tup zs):=fun b hb zs e=>by
   simp only[List.mem_cons,List.not_mem_nil,or_false] at hb
   rcases hb with rfl | rfl
   ·rw[ezp] at e;cases e
   ·rw[esdb] at e;cases e
  have noA:∀ b,Ha b=none→b∉[p,sd]:=fun b e hb=>by
   simp only[List.mem_cons,List.not_mem_nil,or_false] at hb
   rcases hb with rfl | rfl
   ·obtain⟨_,_,_,e2⟩:=FeedAt.ex hfa
    rw[e] at e2;cases e2
   ·rw[esda] at e;cases e
  have hPc:PartsAt (offH Hc [p,sd]) pa pats told hd tl:=(hP.offD hDb (noA _ hpl) (noA _ htdl)).same (offH_mono fun b o hb e=>⟨hb,up b o (fun q=>hb (by simp[q])) e⟩)
  have hRc:PR (offH Hc [p,sd]) kws ms:=hR.same (offH_mono fun b o hb e=>⟨hb,up b o (fun q=>hb (by simp[q])) (kb b o (fun q=>hb (by simp[q])) e)⟩)
  refine⟨_,_,_,rfl,esdc,hRc.put (b:=⟨pats,told,hd,tl⟩) hPc hO,putM_nd hnd,fun _=>putM_len1 _ _ _,by have:=putM_len ms z ⟨pats,told,hd,tl⟩;omega,putM_names (M:=fun z=>GN z∧z≠bad) hgn (hzg z (List.mem_of_getElem? hz)),?_,fun b o hb e=>?_,?_⟩
  ·obtain⟨a1,b1,c1,f1,f2⟩:=hfb
   exact⟨a1,b1,c1,up _ _ psd f1,by omega⟩
  ·exact up _ _ (je_ e hsd) (kb b o hb (ka b o hb e))
  ·exact up _ _ ssl (kb _ _ psl.symm esla)
 ·rintro σ Ha ⟨v4,kws,ms,rfl,esda,hR,hnd,hm1,hml,hgn,hfa,ka,esla⟩
  rw[List.length_map] at hm1 hml hfa
  walk_at "go"
  exact q sd kws ms Ha hsd psd.symm esda hR hnd (hm1 hzl1) (by omega) (fun m hm=>(hgn m hm).1) ⟨bad,hbad,fun z hz=>by obtain⟨m,hm,rfl⟩:=List.mem_map.mp hz;exact(hgn m hm).2⟩ (hfa.mono (by omega)) ka
theorem ok_law_made (T:Txt mg tk) (O:Ow K mg cO) (O2:Ow2 K mg cO2) (F:Fun K "_law_made" "_law_made" s_law_made f fd) (D_Tongues_init:Dk P w K mg base cO2 1 ["self"] (spTgI cO2)) (D_Breaker_init:Dk P w K mg base cO 2 ["self","patterns","told","head","tail"] (spBrkI cO)) (D_Tongues_put:Dm P w K mg base cO2 "put" 5 ["self","name","breaker"] (spPut cO cO2)):FnOk P w K mg base CX0 6 f fd ["_law_some_here"] (spMadeT cO cO2):=by
 refine F.ok sc_law_made (fun vs H Q E h=>?_) (fun cdv A outer s H vs Q E hr h=>?_)
 ·obtain⟨sd,kws,ms,D,rfl,_⟩:=h
  rfl
 obtain⟨sd,kws,ms,D,rfl,hsd,hsD,hDo,hR0,hnd,hml,q⟩:=h
 have hR:PR H kws ms:=hR0.same (offH_sub _ _)
 have nd:=sc_law_made.nd
 have hkl:=hR.len
 refine⟨_,(jc_ (jj_ (i:=1) nd rfl (Or.inl rfl) (pe_makeD0 D_Tongues_init (hr.mono (by first | decide | omega)) rfl O2.m_Tongues))
  (jc_ (ps_thaw (ps_for PassesOwn.never rfl (pi_dict (pv 0)) (jq_ (i:=2) nd rfl (Or.inl rfl))
   (jc_ (jj_ (i:=3) nd rfl (Or.inl rfl) (pe_dget (hu_of hr) (pv 0) (pv 2) (fun _ _=>rfl)))
  (jh_ (ps_expr (pe_methD (pv 1) O2.cl D_Tongues_put (hr.mono (by first | decide | omega)) (ja_ (pv 2) (ja_ (pe_makeD D_Breaker_init (hr.mono (by first | decide | omega)) rfl O.m_Breaker (ja_ (j2_ (jw_ (K:=K)) (pv 3) pe_int (fun _ _=>rfl)) (ja_ (j2_ (jw_ (K:=K)) (pv 3) pe_int (fun _ _=>rfl)) (ja_ (j2_ (jw_ (K:=K)) (pv 3) pe_int (fun _ _=>rfl)) (ja_ (j2_ (jw_ (K:=K)) (pv 3) pe_int (fun _ _=>rfl)) pa_nil))))) pa_nil))))))))
  (jh_ (jo_ (pv 1))))),?_⟩
 rw[show L2.jz_ ["_law_some_here","_law_tongues","_law_name","_law_parts_here"] [.ref sd]=[some (.ref sd),none,none,none] from rfl]
 walk_at "go"
 refine i_make ?_
 walk_at "go"
 intro tp dx0 htp hdx0 hne0
 have s1:Same H (upd (upd H dx0 (.own tp)) tp (.ins cO2 dx0 [])):=fun b o e=>by
  rw[jd_ (je_ e htp),jd_ (je_ e hdx0)];exact e
 have e1:=jb_ (H:=upd H dx0 (.own tp)) (a:=tp) (o:=.ins cO2 dx0 [])
 generalize upd (upd H dx0 (.own tp)) tp (.ins cO2 dx0 [])=H1 at s1 e1 ⊢
 refine⟨tp,dx0,rfl,e1,fun td H2 htd tg off=>⟨rfl,?_⟩⟩
 have s2:Same H H2:=fun b o e=>off b o (je_ e htp) (s1 b o e)
 have htdH:H td=none:=s1.free htd
 have esd2:=s2 _ _ hsd
 walk_at "go"
 refine i_thaw sd kws (fun o u e=>by
  have e:H sd=some (.frz o u):=e
  rw[hsd] at e;cases e) ?_
 walk_at "go"
 refine i_dict ?_
 walk_at "go"
 refine⟨sd,kws,rfl,esd2,fun ob=>?_⟩
 obtain⟨dxt,t1,t2⟩:=tg
 have tpsd:tp≠sd:=ne_of t1 esd2 (by intro z;cases z)
 have tdsd:td≠sd:=fun z=>by rw[z,hsd] at htdH;cases htdH
 have up2:∀ b o,b≠sd→H2 b=some o→(upd H2 sd (.frz ob (.dK kws))) b=some o:=fun b o hb e=>by rw[jd_ hb];exact e
 have esd3:=jb_ (H:=H2) (a:=sd) (o:=.frz ob (.dK kws))
 generalize upd H2 sd (.frz ob (.dK kws))=H3 at up2 esd3 ⊢
 refine for_dict (a:=sd) (o:=ob) (kvs:=kws) (fun i σ H'=>∃(v2 v3:Option V) (kvs:List (Key×V)),σ=[some (.ref sd),some (.ref tp),v2,v3]∧H' sd=some (.frz ob (.dK kws))∧TgAt cO2 H' tp td kvs∧TR cO (offH H' (td::D)) kvs (kws.take i) (ms.take i)∧∀ b o,b≠sd→H b=some o→H' b=some o)
  ⟨none,none,[],rfl,esd3,⟨dxt,up2 _ _ tpsd t1,up2 _ _ tdsd t2⟩,trivial,fun b o hb e=>up2 b o hb (s2 b o e)⟩ (fun i σ H' _ ⟨_,_,_,_,e,_⟩=>e) ?_ ?_
 ·rintro i kw σ Ha hkw ⟨v2,v3,kvs,rfl,esda,tga,hTR,oa⟩
  obtain⟨m,hm,hk1,⟨pa,hpa,hP0⟩,hO⟩:=hR0.get i kw hkw
  have hP:=hP0.same (offH_sub _ _)
  have hi:=(List.getElem?_eq_some_iff.mp hkw).1
  rw[show kV kw.1=V.str (S m.1) by rw[hk1];rfl]
  have hval:valV kws (Sum.inr (S m.1))=some (.ref pa):=by
   have hnd2:(kws.map (·.1)).Nodup:=by
    rw[hR.keys]
    have:(ms.map fun m=>S m.1).map Sum.inr=(ms.map (·.1)).map fun z=>(Sum.inr (S z):Key):=by rw[List.map_map,List.map_map];rfl
    rw[this]
    exact List.Pairwise.map _ (fun a b hab e=>hab (kS_inj e)) hnd
   rw[← hk1,valV_at hnd2 hkw,hpa]
  have ndk:Ndk H Ha:=fun b o ho e=>oa b o (fun z=>by rw[z,hsd] at e;injection e with e;exact ho _ e.symm) e
  have hPa:=hP.ndk ndk
  obtain⟨pl,tdl,yp,yt,g1,g2,g3,g4,g5⟩:=id hPa
  obtain⟨dxa,ta1,ta2⟩:=id tga
  walk_at "go"
  refine i_dget0 ?_
  walk_at "go"
  refine⟨sd,_,rfl,hval▸(Or.inl ⟨kws,Sum.inr (S m.1),.inr ⟨ob,esda⟩,rfl,rfl⟩:DGet Ha sd (kV (Sum.inr (S m.1))) (valV kws (Sum.inr (S m.1)))),?_⟩
  walk_at "go"
  refine i_meth ?_
  walk_at "go"
  refine i_self ta1 rfl ?_
  walk_at "go"
  refine i_make ?_
  walk_at "go"
  intro x dx hx hdx hne
  have s6:Same Ha (upd (upd Ha dx (.own x)) x (.ins cO dx [])):=fun b o e=>by
   rw[jd_ (je_ e hx),jd_ (je_ e hdx)];exact e
  have e6:=jb_ (H:=upd Ha dx (.own x)) (a:=x) (o:=.ins cO dx [])
  generalize upd (upd Ha dx (.own x)) x (.ins cO dx [])=Hf at s6 e6 ⊢
  refine⟨x,pl,tdl,dx,yp,yt,m.2.pats,m.2.told,m.2.hd,m.2.tl,rfl,e6,s6 _ _ g2,s6 _ _ g4,IsL.same s6 g3,IsL.same s6 g5,hO.nd,by have:=hO.tl;omega,by have:=hO.pl;omega,fun kd ld Hg hkd hld hB off6=>⟨rfl,?_⟩⟩
  have sag:Same Ha Hg:=fun b o e=>off6 b o (je_ e hx) (s6 b o e)
  have hlk:=hTR.lens
  rw[List.length_take] at hlk
  walk_at "go"
  refine⟨tp,td,x,kd,ld,kvs,m.1,m.2.pats,m.2.told,m.2.hd,m.2.tl,rfl,tga.same sag,hB,by have:=hO.pl;omega,by have:=hO.tl;omega,hO.nd,by omega,fun p2 kd2 ld2 Hh hp2 hkd2 hld2 hB2 etd keep=>?_⟩
  walk_at "go"
  have hmi:ms.take (i+1)=ms.take i++[m]:=by rw[List.take_succ,hm];rfl
  have hki:kws.take (i+1)=kws.take i++[kw]:=by rw[List.take_succ,hkw];rfl
  have hnew:((ms.take i).any fun g=>decide (g.1=m.1))=false:=by
   rw[List.any_eq_false]
   intro g hg hd
   obtain⟨j,hj⟩:=List.getElem?_of_mem hg
   rw[List.getElem?_take] at hj
   split at hj
   ·rename_i hji
    have hjl:=(List.getElem?_eq_some_iff.mp hj).1
    have hil:=(List.getElem?_eq_some_iff.mp hm).1
    have:=List.pairwise_iff_getElem.mp hnd j i (by simpa using hjl) (by simpa using hil) hji
    apply this
    rw[List.getElem_map,List.getElem_map]
    rw[List.getElem?_eq_getElem hjl] at hj
    rw[List.getElem?_eq_getElem hil] at hm
    cases hj;cases hm
    simpa using hd
   ·cases hj
  have hputE:putK kvs (Sum.inr (S m.1):Key) (V.ref p2)=kvs++[(Sum.inr (S m.1),.ref p2)]:=putK_new (by rw[(hTR.any m.1).1];exact hnew)
  have tdg:Hg td=some (.dK kvs):=sag _ _ ta2
  have hTRh:TR cO (offH Hh (td::D)) kvs (kws.take i) (ms.take i):=hTR.same (offH_mono fun b o hb e=>⟨hb,keep b o (fun z=>hb (by simp[z])) (sag _ _ e)⟩)
  have sdg:=sag _ _ esda
  have sdh:=keep _ _ (Ne.symm tdsd) sdg
  have exg:∀ b∈D,b≠sd→∃ o,Hg b=some o∧∀ zs,o≠.tup zs:=fun b hb hbs=>by
   obtain⟨o,e,h⟩:=hDo b hb
   exact⟨o,sag _ _ (oa b o hbs e),h⟩
  have ntd:∀ b,Hg b=none→b∉td::D:=fun b e hb=>by
   rcases List.mem_cons.mp hb with rfl | hb
   ·rw[tdg] at e;cases e
   ·by_cases hbs:b=sd
    ·rw[hbs,sdg] at e;cases e
    ·obtain⟨o,e2,_⟩:=exg b hb hbs
     rw[e] at e2;cases e2
  have hBh:BrkAt cO (offH Hh (td::D)) p2 kd2 ld2 m.2.pats m.2.told m.2.hd m.2.tl:=hB2.offD (fun b hb zs e=>by
   rcases List.mem_cons.mp hb with rfl | hb
   ·rw[etd] at e;cases e
   ·by_cases hbs:b=sd
    ·rw[hbs,sdh] at e;cases e
    ·obtain⟨o,e2,h2⟩:=exg b hb hbs
     have hbt:b≠td:=fun z=>by obtain⟨o',e',_⟩:=hDo b hb;rw[z,htdH] at e';cases e'
     rw[keep b o hbt e2] at e
     exact h2 zs (by injection e)) (ntd _ hp2) (ntd _ hkd2) (ntd _ hld2)
  have hPh:PartsAt (offH Hh (td::D)) pa m.2.pats m.2.told m.2.hd m.2.tl:=hP0.same (offH_mono fun b o hb e=>by
   have hbt:b≠td:=je_ e htdH
   have hbs:b≠sd:=fun z=>hb (z▸hsD)
   exact⟨by simp[hbt,hb],keep b o hbt (sag _ _ (oa b o hbs e))⟩)
  refine⟨_,_,_,rfl,keep _ _ (Ne.symm tdsd) (sag _ _ esda),⟨dxa,keep _ _ (ne_of ta1 ta2 (by intro z;cases z)) (sag _ _ ta1),etd⟩,?_,fun b o hb e=>keep b o (je_ e htdH) (sag _ _ (oa b o hb e))⟩
  rw[hputE,hki,hmi]
  exact hTRh.append ⟨rfl,hk1,⟨p2,kd2,ld2,rfl,hBh⟩,⟨pa,hpa,hPh⟩,hO,trivial⟩
 ·rintro σ Ha ⟨v2,v3,kvs,rfl,esda,tga,hTR,oa⟩
  rw[List.take_length,hkl,List.take_length] at hTR
  refine⟨⟨ob,esda⟩,?_⟩
  have up3:∀ b o,b≠sd→Ha b=some o→(upd Ha sd (.dK kws)) b=some o:=fun b o hb e=>by rw[jd_ hb];exact e
  have esd4:=jb_ (H:=Ha) (a:=sd) (o:=.dK kws)
  generalize upd Ha sd (.dK kws)=Hb at up3 esd4 ⊢
  obtain⟨dxa,ta1,ta2⟩:=id tga
  walk_at "go"
  refine q tp td kvs Hb htp htdH ⟨dxa,up3 _ _ tpsd ta1,up3 _ _ tdsd ta2⟩ (hTR.same fun b o e=>?_) fun b o e=>?_
  ·obtain⟨h1,h2⟩:=offH_some e
   rw[offH_get h1]
   exact up3 b o (fun z=>h1 (List.mem_cons_of_mem _ (z▸hsD))) h2
  ·by_cases hb:b=sd
   ·rw[hb,hsd] at e
    cases e
    rw[hb];exact esd4
   ·exact up3 b o hb (oa b o hb e)
end
theorem pick2 {a b:Nat} {d:Int} (h0:0≤d) (h1:d < 2):∃ m:Nat,atI [V.int (a:Int),.int (b:Int)] d=some (.int (m:Int))∧(m=a∨m=b):=by
 have hc:d=0∨d=1:=by omega
 rcases hc with rfl | rfl
 ·exact⟨a,atI_0 _ _,.inl rfl⟩
 ·exact⟨b,atI_1 _ _ _,.inr rfl⟩
theorem TxOk.snoc {ms:List (List Nat×Bp)} {ls:List (List Nat)} {l:List Nat} (h:TxOk ms ls) (h1:1≤ls.length) (hl:ThOk ms l):TxOk ms (ls++[l]):=by
 refine⟨fun x hx=>?_,fun x hx=>?_⟩
 ·rcases List.mem_append.mp hx with h2 | h2
  ·exact h.1 x h2
  ·have:x=l:=by simpa using h2
   rw[this];exact hl
 ·rw[List.getElem?_append_left (by omega)] at hx
  exact h.2 x hx
theorem th_at {ms:List (List Nat×Bp)} {m:List Nat×Bp} (hm:m∈ms) (hg:GN m.1):ThOk ms ([64]++m.1):=.inl ⟨m.1,rfl,hg.nm,lookM_mem hm⟩
theorem atI_last {α:Type} (y:List α) (c:α):atI (y++[c]) (-1)=some c:=by
 have h:ixN (y++[c]).length (-1)=some y.length:=by
  unfold ixN
  rw[List.length_append,List.length_singleton]
  simp
  try omega
 unfold atI
 rw[h]
 simp
theorem cut_init {α:Type} (y:List α) (c:α):cutA (y++[c]) none (some (-1))=y:=by
 have h1:sx (y++[c]).length 0 none=0:=rfl
 have h2:sx (y++[c]).length (y++[c]).length (some (-1))=y.length:=by simp only[sx];rw[if_pos (by decide),List.length_append,List.length_singleton];omega
 unfold cutA
 rw[h1,h2,List.drop_zero,Nat.sub_zero,List.take_left]
section
variable {P:Program} {w:World} {K:PySem.W.Frag} {mg:Str→Option Value} {base:Heap} {f:Addr} {fd:FuncData} {tk:Nat→Tok} {cO cO2 mkT:Addr}
theorem ok_law_things (T:Txt mg tk) (F:Fun K "_law_things" "_law_things" s_law_things f fd) (D_law_next:Dn P w K mg base "_law_next" 1 ["_law_feed_here","_law_many"] spNext) (D_law_word:Dn P w K mg base "_law_word" 2 ["_law_feed_here","_law_letters_here","_law_most"] spWord):FnOk P w K mg base CX0 3 f fd ["_law_feed_here","_law_some_here","_law_words","_law_letters_here"] spThings:=by
 refine F.ok sc_law_things (fun vs H Q E h=>?_) (fun cdv A outer s H vs Q E hr h=>?_)
 ·obtain⟨p,sd,wa,n,l,ws,kws,ms,rfl,_⟩:=h
  rfl
 obtain⟨p,sd,wa,n,l,ws,kws,ms,rfl,hf,hn,hl,hl1,hl2,hwa,hws,hgw,hwp,hsd,hkeys,hm1,hm2,hgn,q⟩:=h
 have nd:=sc_law_things.nd
 have hkn:(kws.map fun kv=>kV kv.1)=ms.map fun m=>V.str (S m.1):=by
  have:=congrArg (List.map kV) hkeys
  rw[List.map_map,List.map_map,List.map_map] at this
  exact this
 refine⟨_,(jc_ (jj_ (i:=4) nd rfl (Or.inl rfl) (pe_callTy (c_listD rfl) rfl T.z_list (by decide +kernel) (ja_ (pv 1) pa_nil)))
  (jc_ (jj_ (i:=5) nd rfl (Or.inl rfl) (j9_ (ja_ (jp_ j0_ pe_str (j2_ (jw_ (K:=K)) (pv 4) (ji_ D_law_next (hr.mono (by first | decide | omega)) rfl (ja_ (pv 0) (ja_ (jk_ (c_len (K:=K)) rfl T.z_len (by decide +kernel) (ja_ (pv 4) pa_nil)) pa_nil))) (fun _ _=>rfl))) pa_nil)))
  (jc_ (ps_for PassesOwn.never rfl (pi_range1 rfl T.z_range (ja_ (ji_ D_law_next (hr.mono (by first | decide | omega)) rfl (ja_ (pv 0) (ja_ pe_int pa_nil))) pa_nil)) (jq_ (i:=6) nd rfl (Or.inl rfl))
   (jc_ (jj_ (i:=7) nd rfl (Or.inl rfl) (ji_ D_law_next (hr.mono (by first | decide | omega)) rfl (ja_ (pv 0) (ja_ pe_int pa_nil))))
  (jc_ (jj_ (i:=8) nd rfl (Or.inl rfl) (j2_ (jw_ (K:=K)) (pv 2) (ji_ D_law_next (hr.mono (by first | decide | omega)) rfl (ja_ (pv 0) (ja_ pe_int pa_nil))) (fun _ _=>rfl)))
  (jc_ (j6_ (jr_ (o_eq hr.units) (pv 7) pe_int (jy_ _))
   (jh_ (jj_ (i:=8) nd rfl (Or.inl rfl) (ji_ D_law_word (hr.mono (by first | decide | omega)) rfl (ja_ (pv 0) (ja_ (pv 3) (ja_ (j2_ (jw_ (K:=K)) (j9_ (ja_ pe_int (ja_ pe_int pa_nil))) (ji_ D_law_next (hr.mono (by first | decide | omega)) rfl (ja_ (pv 0) (ja_ pe_int pa_nil))) (fun _ _=>rfl)) pa_nil))))))
   ju_)
  (jc_ (j6_ (jr_ (o_eq hr.units) (ji_ D_law_next (hr.mono (by first | decide | omega)) rfl (ja_ (pv 0) (ja_ pe_int pa_nil))) pe_int (jy_ _))
   (jh_ (jj_ (i:=8) nd rfl (Or.inl rfl) (jp_ j0_ (pv 8) (j2_ (jw_ (K:=K)) pe_str (ji_ D_law_next (hr.mono (by first | decide | omega)) rfl (ja_ (pv 0) (ja_ pe_int pa_nil))) (fun _ _=>rfl)))))
   ju_)
  (jc_ (j6_ (jr_ (o_eq hr.units) (pv 7) pe_int (jy_ _))
   (jh_ (jj_ (i:=8) nd rfl (Or.inl rfl) (jp_ j0_ pe_str (j2_ (jw_ (K:=K)) (pv 4) (ji_ D_law_next (hr.mono (by first | decide | omega)) rfl (ja_ (pv 0) (ja_ (jk_ (c_len (K:=K)) rfl T.z_len (by decide +kernel) (ja_ (pv 4) pa_nil)) pa_nil))) (fun _ _=>rfl)))))
   ju_)
  (jh_ (ps_expr (pe_bmK (K:=K) PySem.F.plainAttrs_list PySem.F.slot_list_append PySem.F.type_list_append m_append1 (pv 5) (ja_ (pv 8) pa_nil))))))))))
  (jh_ (jo_ (pv 5)))))),?_⟩
 rw[show L2.jz_ ["_law_feed_here","_law_some_here","_law_words","_law_letters_here","_law_names_here","_law_things_here","_law_k","_law_way","_law_word_here"] [.ref p,.ref sd,.ref wa,.str (S l)]=[some (.ref p),some (.ref sd),some (.ref wa),some (.str (S l)),none,none,none,none,none] from rfl]
 rw[t_at,t_marks]
 walk_at "go"
 refine i_listD hsd fun nk hnk=>?_
 rw[hkn]
 have pnk:p≠nk:=by obtain⟨o,e⟩:=hf.some;exact je_ e hnk
 have k1:Kept p H (upd H nk (.lst (ms.map fun m=>V.str (S m.1)))):=(Kept.refl p H).new hnk _
 have enk:=jb_ (H:=H) (a:=nk) (o:=.lst (ms.map fun m=>V.str (S m.1)))
 have hf1:FeedAt (upd H nk (.lst (ms.map fun m=>V.str (S m.1)))) p n:=hf.new hnk
 generalize upd H nk (.lst (ms.map fun m=>V.str (S m.1)))=H1 at k1 enk hf1 ⊢
 walk_at "go"
 rw[List.length_map]
 refine⟨p,_,n,rfl,hf1,by omega,by omega,by omega,fun d H2 hd0 hd1 hf2 o2=>?_⟩
 have enk2:H2 nk=_:=(o2 nk pnk.symm).trans enk
 have hdl:d.toNat < ms.length:=by omega
 refine i_ixR (v:=.str (S ms[d.toNat].1)) (jn_ enk2) (atI_of hd0 (by rw[List.getElem?_map,List.getElem?_eq_getElem hdl];rfl)) ?_
 have hmem:=List.getElem_mem hdl
 have hg0:=hgn _ hmem
 have hT0:=th_at hmem hg0
 generalize ms[d.toNat]=m0 at hmem hg0 hT0 ⊢
 have hgl:=hg0.2.2
 walk_at "go"
 try refine i_addC (by simp only[List.length_cons,List.length_nil];omega) ?_
 walk_at "go"
 intro r hr0
 have pr:p≠r:=by obtain⟨o,e⟩:=hf2.some;exact je_ e hr0
 have k2:=k1.trans o2.kept
 have hrH:H r=none:=by
  cases e:H r with
  | none=>rfl
  | some o=>exact absurd (k2 r o pr.symm e) (by rw[hr0];exact fun z=>nomatch z)
 have rnk:nk≠r:=je_ enk2 hr0
 have s3:=jg_ hr0 (.lst [.str (S ([64]++m0.1))])
 have er:=jb_ (H:=H2) (a:=r) (o:=.lst [.str (S ([64]++m0.1))])
 have k3:=k2.new hr0 (.lst [.str (S ([64]++m0.1))])
 have hf3:FeedAt (upd H2 r (.lst [.str (S ([64]++m0.1))])) p (n+1):=hf2.new hr0
 have enk3:=s3 _ _ enk2
 generalize upd H2 r (.lst [.str (S ([64]++m0.1))])=H3 at er k3 hf3 enk3 ⊢
 walk_at "go"
 refine⟨p,12,n+1,rfl,hf3,by omega,by decide,by decide,fun cnt H6 hc0 hc1 hf6 o6=>?_⟩
 walk_at "go"
 have hTX0:TxOk ms [[64]++m0.1]:=by
  refine⟨fun x hx=>?_,fun x hx=>?_⟩
  ·have:x=[64]++m0.1:=by simpa using hx
   rw[this];exact hT0
  ·have:[64]++m0.1=x:=by simpa using hx
   rw[← this];simp[isAt]
 refine for_range (fun i σ H'=>∃(v6 v7 v8:Option V) (ls:List (List Nat)),σ=[some (.ref p),some (.ref sd),some (.ref wa),some (.str (S l)),some (.ref nk),some (.ref r),v6,v7,v8]∧ls.length=i+1∧H' r=some (.lst (ls.map fun l=>V.str (S l)))∧TxOk ms ls∧FeedAt H' p (n+3+60 * i)∧Kept p H H'∧H' nk=some (.lst (ms.map fun m=>V.str (S m.1))))
  ⟨none,none,none,[[64]++m0.1],rfl,rfl,(o6 r pr.symm).trans er,hTX0,hf6.mono (by omega),k3.trans o6.kept,(o6 nk pnk.symm).trans enk3⟩ ?_ ?_
 ·rintro i σ Ha hi ⟨v6,v7,v8,ls,rfl,hlsl,era,hTX,hfa,ka,enka⟩
  have hi60:i < 60:=by omega
  walk_at "go"
  refine⟨p,12,n+3+60 * i,rfl,hfa,by omega,by decide,by decide,fun wy Hb hy0 hy1 hfb ob=>?_⟩
  walk_at "go"
  refine⟨p,6,n+3+60 * i+1,rfl,hfb,by omega,by decide,by decide,fun c6 Hc hc60 hc61 hfc oc=>?_⟩
  have kc:=(ka.trans ob.kept).trans oc.kept
  have hc6l:c6.toNat < ws.length:=by omega
  refine i_ixR (v:=.str (S ws[c6.toNat])) (jn_ (kc _ _ hwp hwa)) (atI_of hc60 (by rw[List.getElem?_map,List.getElem?_eq_getElem hc6l];rfl)) ?_
  have hGW1:=hgw _ (List.getElem_mem hc6l)
  generalize ws[c6.toNat]=w0 at hGW1 ⊢
  have erc:Hc r=_:=(oc r pr.symm).trans ((ob r pr.symm).trans era)
  have enkc:Hc nk=_:=(oc nk pnk.symm).trans ((ob nk pnk.symm).trans enka)
  walk_at "go"
  refine iteD (fun cy=>?_) (fun cy=>?_)
  ·walk_at "go"
   intro d2 hd2
   have pd2:p≠d2:=by obtain⟨o,e⟩:=hfc.some;exact je_ e hd2
   have s7:=jg_ hd2 (.lst [.int 2,.int 20])
   have k7:=kc.new hd2 (.lst [.int 2,.int 20])
   walk_at "go"
   refine⟨p,2,n+3+60 * i+1+1,rfl,hfc.new hd2,by omega,by decide,by decide,fun c2 Hd hc20 hc21 hfd od=>?_⟩
   obtain⟨m2,hmm2,hmm3⟩:=pick2 (a:=2) (b:=20) hc20 hc21
   refine i_ixR (jn_ ((od d2 pd2.symm).trans jb_)) hmm2 ?_
   have erd:Hd r=_:=(od r pr.symm).trans (s7 _ _ erc)
   have enkd:Hd nk=_:=(od nk pnk.symm).trans (s7 _ _ enkc)
   walk_at "go"
   refine⟨p,n+3+60 * i+1+1+1,l,m2,rfl,hfd,by omega,hl,hl1,hl2,by omega,by omega,fun wd Hx hw0 hw1 hw2 hfx kx0=>?_⟩
   have hg:GW wd:=⟨hw0,hw1,by omega⟩
   have hfx:FeedAt Hx p (n+3+60 * i+40):=hfx.mono (by omega)
   have kx:=(k7.trans od.kept).trans kx0
   have erx:=kx0 _ _ pr.symm erd
   have enkx:=kx0 _ _ pnk.symm enkd
   walk_at "go"
   refine⟨p,5,n+3+60 * i+40,rfl,hfx,by omega,by decide,by decide,fun e5 Hy he50 he51 hfy oy=>?_⟩
   have ky:=kx.trans oy.kept
   have ery:Hy r=_:=(oy r pr.symm).trans erx
   have enky:Hy nk=_:=(oy nk pnk.symm).trans enkx
   have hgl2:=hg.2.2
   walk_at "go"
   refine iteD (fun c5=>?_) (fun c5=>?_)
   ·walk_at "go"
    refine⟨p,6,n+3+60 * i+40+1,rfl,hfy,by omega,by decide,by decide,fun e6 Hz he60 he61 hfz oz=>?_⟩
    have h6:e6.toNat < MKL.length:=by show e6.toNat < 6;omega
    refine i_ixC (l:=MKL) (c:=MKL[e6.toNat]) (by decide) (atI_of he60 (List.getElem?_eq_getElem h6)) ?_
    have hmk:isMark MKL[e6.toNat]=true:=by
     have:∀ c∈MKL,isMark c=true:=by decide
     exact this _ (List.getElem_mem h6)
    generalize MKL[e6.toNat]=mk at hmk ⊢
    have kz:=ky.trans oz.kept
    have erz:Hz r=_:=(oz r pr.symm).trans ery
    have enkz:Hz nk=_:=(oz nk pnk.symm).trans enky
    have hfz:FeedAt Hz p (n+3+60 * i+45):=hfz.mono (by omega)
    have hth:ThOk ms (wd++[mk]):=.inr ⟨wd,[mk],hg,.inr ⟨mk,hmk,rfl⟩,rfl⟩
    walk_at "go"
    try refine i_addC (by simp only[List.length_cons,List.length_nil];omega) ?_
    have htl:(wd++[mk]).length≤30:=by rw[List.length_append];simp;omega
    generalize wd++[mk]=th at hth htl ⊢
    walk_at "go"
    refine iteD (fun c1'=>?_) (fun c1'=>?_)
    ·walk_at "go"
     rw[List.length_map]
     refine⟨p,_,n+3+60 * i+45,rfl,hfz,by omega,by omega,by omega,fun e7 Hu he70 he71 hfu ou=>?_⟩
     have enku:Hu nk=_:=(ou nk pnk.symm).trans enkz
     have h7:e7.toNat < ms.length:=by omega
     refine i_ixR (v:=.str (S ms[e7.toNat].1)) (jn_ enku) (atI_of he70 (by rw[List.getElem?_map,List.getElem?_eq_getElem h7];rfl)) ?_
     have hmem7:=List.getElem_mem h7
     have hg7:=hgn _ hmem7
     have hT7:=th_at hmem7 hg7
     generalize ms[e7.toNat]=m7 at hmem7 hg7 hT7 ⊢
     have hg7l:=hg7.2.2
     have ku:=kz.trans ou.kept
     have eru:Hu r=_:=(ou r pr.symm).trans erz
     have hszl:(ls.map fun l=>V.str (S l)).length < sizeLine:=szn (by rw[List.length_map];omega)
     walk_at "go"
     try refine i_addC (by simp only[List.length_cons,List.length_nil];omega) ?_
     walk_at "go"
     refine⟨_,_,_,ls++[[64]++m7.1],rfl,by rw[List.length_append,hlsl];rfl,by rw[List.map_append];exact jb_,hTX.snoc (by omega) hT7,?_,fun b o hb e=>?_,?_⟩
     ·obtain⟨a1,b1,f1,g1,g2⟩:=hfu
      exact⟨a1,b1,f1,by rw[jd_ pr];exact g1,by omega⟩
     ·have hbr:b≠r:=fun z=>by rw[z,hrH] at e;cases e
      rw[jd_ hbr];exact ku b o hb e
     ·rw[jd_ rnk];exact enku
    ·have hszl:(ls.map fun l=>V.str (S l)).length < sizeLine:=szn (by rw[List.length_map];omega)
     walk_at "go"
     refine⟨_,_,_,ls++[th],rfl,by rw[List.length_append,hlsl];rfl,by rw[List.map_append];exact jb_,hTX.snoc (by omega) hth,?_,fun b o hb e=>?_,?_⟩
     ·obtain⟨a1,b1,f1,g1,g2⟩:=hfz
      exact⟨a1,b1,f1,by rw[jd_ pr];exact g1,by omega⟩
     ·have hbr:b≠r:=fun z=>by rw[z,hrH] at e;cases e
      rw[jd_ hbr];exact kz b o hb e
     ·rw[jd_ rnk];exact enkz
   ·have hth:ThOk ms wd:=.inr ⟨wd,[],hg,.inl rfl,by rw[List.append_nil]⟩
    obtain⟨th,hthd⟩:∃ th,th=wd:=⟨_,rfl⟩
    have htl:wd.length≤30:=by omega
    rw[← hthd] at hth htl ⊢
    obtain⟨Hz,hHz⟩:∃ Hz,Hz=Hy:=⟨_,rfl⟩
    have hfz:FeedAt Hy p (n+3+60 * i+45):=hfy.mono (by omega)
    have kz:=ky
    have erz:=ery
    have enkz:=enky
    rw[← hHz] at hfz kz erz enkz ⊢
    walk_at "go"
    refine iteD (fun c1'=>?_) (fun c1'=>?_)
    ·walk_at "go"
     rw[List.length_map]
     refine⟨p,_,n+3+60 * i+45,rfl,hfz,by omega,by omega,by omega,fun e7 Hu he70 he71 hfu ou=>?_⟩
     have enku:Hu nk=_:=(ou nk pnk.symm).trans enkz
     have h7:e7.toNat < ms.length:=by omega
     refine i_ixR (v:=.str (S ms[e7.toNat].1)) (jn_ enku) (atI_of he70 (by rw[List.getElem?_map,List.getElem?_eq_getElem h7];rfl)) ?_
     have hmem7:=List.getElem_mem h7
     have hg7:=hgn _ hmem7
     have hT7:=th_at hmem7 hg7
     generalize ms[e7.toNat]=m7 at hmem7 hg7 hT7 ⊢
     have hg7l:=hg7.2.2
     have ku:=kz.trans ou.kept
     have eru:Hu r=_:=(ou r pr.symm).trans erz
     have hszl:(ls.map fun l=>V.str (S l)).length < sizeLine:=szn (by rw[List.length_map];omega)
     walk_at "go"
     try refine i_addC (by simp only[List.length_cons,List.length_nil];omega) ?_
     walk_at "go"
     refine⟨_,_,_,ls++[[64]++m7.1],rfl,by rw[List.length_append,hlsl];rfl,by rw[List.map_append];exact jb_,hTX.snoc (by omega) hT7,?_,fun b o hb e=>?_,?_⟩
     ·obtain⟨a1,b1,f1,g1,g2⟩:=hfu
      exact⟨a1,b1,f1,by rw[jd_ pr];exact g1,by omega⟩
     ·have hbr:b≠r:=fun z=>by rw[z,hrH] at e;cases e
      rw[jd_ hbr];exact ku b o hb e
     ·rw[jd_ rnk];exact enku
    ·have hszl:(ls.map fun l=>V.str (S l)).length < sizeLine:=szn (by rw[List.length_map];omega)
     walk_at "go"
     refine⟨_,_,_,ls++[th],rfl,by rw[List.length_append,hlsl];rfl,by rw[List.map_append];exact jb_,hTX.snoc (by omega) hth,?_,fun b o hb e=>?_,?_⟩
     ·obtain⟨a1,b1,f1,g1,g2⟩:=hfz
      exact⟨a1,b1,f1,by rw[jd_ pr];exact g1,by omega⟩
     ·have hbr:b≠r:=fun z=>by rw[z,hrH] at e;cases e
      rw[jd_ hbr];exact kz b o hb e
     ·rw[jd_ rnk];exact enkz
  ·obtain⟨wd,hwd⟩:∃ wd,wd=w0:=⟨_,rfl⟩
   rw[← hwd] at hGW1 ⊢
   have hg:=hGW1
   obtain⟨Hx,hHx⟩:∃ Hx,Hx=Hc:=⟨_,rfl⟩
   have hfx:FeedAt Hc p (n+3+60 * i+40):=hfc.mono (by omega)
   have kx:=kc
   have erx:=erc
   have enkx:=enkc
   rw[← hHx] at hfx kx erx enkx ⊢
   walk_at "go"
   refine⟨p,5,n+3+60 * i+40,rfl,hfx,by omega,by decide,by decide,fun e5 Hy he50 he51 hfy oy=>?_⟩
   have ky:=kx.trans oy.kept
   have ery:Hy r=_:=(oy r pr.symm).trans erx
   have enky:Hy nk=_:=(oy nk pnk.symm).trans enkx
   have hgl2:=hg.2.2
   walk_at "go"
   refine iteD (fun c5=>?_) (fun c5=>?_)
   ·walk_at "go"
    refine⟨p,6,n+3+60 * i+40+1,rfl,hfy,by omega,by decide,by decide,fun e6 Hz he60 he61 hfz oz=>?_⟩
    have h6:e6.toNat < MKL.length:=by show e6.toNat < 6;omega
    refine i_ixC (l:=MKL) (c:=MKL[e6.toNat]) (by decide) (atI_of he60 (List.getElem?_eq_getElem h6)) ?_
    have hmk:isMark MKL[e6.toNat]=true:=by
     have:∀ c∈MKL,isMark c=true:=by decide
     exact this _ (List.getElem_mem h6)
    generalize MKL[e6.toNat]=mk at hmk ⊢
    have kz:=ky.trans oz.kept
    have erz:Hz r=_:=(oz r pr.symm).trans ery
    have enkz:Hz nk=_:=(oz nk pnk.symm).trans enky
    have hfz:FeedAt Hz p (n+3+60 * i+45):=hfz.mono (by omega)
    have hth:ThOk ms (wd++[mk]):=.inr ⟨wd,[mk],hg,.inr ⟨mk,hmk,rfl⟩,rfl⟩
    walk_at "go"
    try refine i_addC (by simp only[List.length_cons,List.length_nil];omega) ?_
    have htl:(wd++[mk]).length≤30:=by rw[List.length_append];simp;omega
    generalize wd++[mk]=th at hth htl ⊢
    walk_at "go"
    refine iteD (fun c1'=>?_) (fun c1'=>?_)
    ·walk_at "go"
     rw[List.length_map]
     refine⟨p,_,n+3+60 * i+45,rfl,hfz,by omega,by omega,by omega,fun e7 Hu he70 he71 hfu ou=>?_⟩
     have enku:Hu nk=_:=(ou nk pnk.symm).trans enkz
     have h7:e7.toNat < ms.length:=by omega
     refine i_ixR (v:=.str (S ms[e7.toNat].1)) (jn_ enku) (atI_of he70 (by rw[List.getElem?_map,List.getElem?_eq_getElem h7];rfl)) ?_
     have hmem7:=List.getElem_mem h7
     have hg7:=hgn _ hmem7
     have hT7:=th_at hmem7 hg7
     generalize ms[e7.toNat]=m7 at hmem7 hg7 hT7 ⊢
     have hg7l:=hg7.2.2
     have ku:=kz.trans ou.kept
     have eru:Hu r=_:=(ou r pr.symm).trans erz
     have hszl:(ls.map fun l=>V.str (S l)).length < sizeLine:=szn (by rw[List.length_map];omega)
     walk_at "go"
     try refine i_addC (by simp only[List.length_cons,List.length_nil];omega) ?_
     walk_at "go"
     refine⟨_,_,_,ls++[[64]++m7.1],rfl,by rw[List.length_append,hlsl];rfl,by rw[List.map_append];exact jb_,hTX.snoc (by omega) hT7,?_,fun b o hb e=>?_,?_⟩
     ·obtain⟨a1,b1,f1,g1,g2⟩:=hfu
      exact⟨a1,b1,f1,by rw[jd_ pr];exact g1,by omega⟩
     ·have hbr:b≠r:=fun z=>by rw[z,hrH] at e;cases e
      rw[jd_ hbr];exact ku b o hb e
     ·rw[jd_ rnk];exact enku
    ·have hszl:(ls.map fun l=>V.str (S l)).length < sizeLine:=szn (by rw[List.length_map];omega)
     walk_at "go"
     refine⟨_,_,_,ls++[th],rfl,by rw[List.length_append,hlsl];rfl,by rw[List.map_append];exact jb_,hTX.snoc (by omega) hth,?_,fun b o hb e=>?_,?_⟩
     ·obtain⟨a1,b1,f1,g1,g2⟩:=hfz
      exact⟨a1,b1,f1,by rw[jd_ pr];exact g1,by omega⟩
     ·have hbr:b≠r:=fun z=>by rw[z,hrH] at e;cases e
      rw[jd_ hbr];exact kz b o hb e
     ·rw[jd_ rnk];exact enkz
   ·have hth:ThOk ms wd:=.inr ⟨wd,[],hg,.inl rfl,by rw[List.append_nil]⟩
    obtain⟨th,hthd⟩:∃ th,th=wd:=⟨_,rfl⟩
    have htl:wd.length≤30:=by omega
    rw[← hthd] at hth htl ⊢
    obtain⟨Hz,hHz⟩:∃ Hz,Hz=Hy:=⟨_,rfl⟩
    have hfz:FeedAt Hy p (n+3+60 * i+45):=hfy.mono (by omega)
    have kz:=ky
    have erz:=ery
    have enkz:=enky
    rw[← hHz] at hfz kz erz enkz ⊢
    walk_at "go"
    refine iteD (fun c1'=>?_) (fun c1'=>?_)
    ·walk_at "go"
     rw[List.length_map]
     refine⟨p,_,n+3+60 * i+45,rfl,hfz,by omega,by omega,by omega,fun e7 Hu he70 he71 hfu ou=>?_⟩
     have enku:Hu nk=_:=(ou nk pnk.symm).trans enkz
     have h7:e7.toNat < ms.length:=by omega
     refine i_ixR (v:=.str (S ms[e7.toNat].1)) (jn_ enku) (atI_of he70 (by rw[List.getElem?_map,List.getElem?_eq_getElem h7];rfl)) ?_
     have hmem7:=List.getElem_mem h7
     have hg7:=hgn _ hmem7
     have hT7:=th_at hmem7 hg7
     generalize ms[e7.toNat]=m7 at hmem7 hg7 hT7 ⊢
     have hg7l:=hg7.2.2
     have ku:=kz.trans ou.kept
     have eru:Hu r=_:=(ou r pr.symm).trans erz
     have hszl:(ls.map fun l=>V.str (S l)).length < sizeLine:=szn (by rw[List.length_map];omega)
     walk_at "go"
     try refine i_addC (by simp only[List.length_cons,List.length_nil];omega) ?_
     walk_at "go"
     refine⟨_,_,_,ls++[[64]++m7.1],rfl,by rw[List.length_append,hlsl];rfl,by rw[List.map_append];exact jb_,hTX.snoc (by omega) hT7,?_,fun b o hb e=>?_,?_⟩
     ·obtain⟨a1,b1,f1,g1,g2⟩:=hfu
      exact⟨a1,b1,f1,by rw[jd_ pr];exact g1,by omega⟩
     ·have hbr:b≠r:=fun z=>by rw[z,hrH] at e;cases e
      rw[jd_ hbr];exact ku b o hb e
     ·rw[jd_ rnk];exact enku
    ·have hszl:(ls.map fun l=>V.str (S l)).length < sizeLine:=szn (by rw[List.length_map];omega)
     walk_at "go"
     refine⟨_,_,_,ls++[th],rfl,by rw[List.length_append,hlsl];rfl,by rw[List.map_append];exact jb_,hTX.snoc (by omega) hth,?_,fun b o hb e=>?_,?_⟩
     ·obtain⟨a1,b1,f1,g1,g2⟩:=hfz
      exact⟨a1,b1,f1,by rw[jd_ pr];exact g1,by omega⟩
     ·have hbr:b≠r:=fun z=>by rw[z,hrH] at e;cases e
      rw[jd_ hbr];exact kz b o hb e
     ·rw[jd_ rnk];exact enkz
 ·rintro σ Ha ⟨v6,v7,v8,ls,rfl,hlsl,era,hTX,hfa,ka,enka⟩
  walk_at "go"
  exact q r ls Ha hrH pr.symm era (by omega) hTX (hfa.mono (by omega)) ka
end
abbrev s_law_is_word:Stmt:=top 53
theorem sc_law_is_word:FnScope ["_law_text"] ["_law_text"] (jf_ s_law_is_word):=⟨rfl,rfl,rfl,by decide +kernel,rfl,by decide +kernel,by decide +kernel⟩
abbrev s_law_is_thing:Stmt:=top 54
theorem sc_law_is_thing:FnScope ["_law_thing"] ["_law_thing"] (jf_ s_law_is_thing):=⟨rfl,rfl,rfl,by decide +kernel,rfl,by decide +kernel,by decide +kernel⟩
abbrev s_law_due:Stmt:=top 55
theorem sc_law_due:FnScope ["_law_some_here","_law_things_here","_law_place","_law_thing","_law_here"] ["_law_some_here","_law_things_here"] (jf_ s_law_due):=⟨rfl,rfl,rfl,by decide +kernel,rfl,by decide +kernel,by decide +kernel⟩
section
variable {P:Program} {w:World} {K:PySem.W.Frag} {mg:Str→Option Value} {base:Heap} {f:Addr} {fd:FuncData} {tk:Nat→Tok} {cO cO2 mkT:Addr}
theorem ok_law_is_word (T:Txt mg tk) (F:Fun K "_law_is_word" "_law_is_word" s_law_is_word f fd):FnOk P w K mg base CX0 1 f fd ["_law_text"] spIsWord:=by
 refine F.ok sc_law_is_word (fun vs H Q E h=>?_) (fun cdv A outer s H vs Q E hr h=>?_)
 ·obtain⟨l,rfl,_⟩:=h
  rfl
 obtain⟨l,rfl,hl,q⟩:=h
 have nd:=sc_law_is_word.nd
 refine⟨_,(jh_ (jo_ (pe_and (pe_cmpR (o_ne hr.units) (pv 0) pe_str (jy_ _)) (pe_one (pe_cmpR o_notin pe_bl (pe_comp ["_law_sign"] [none] rfl (by kernel_rfl) rfl (pi_any (K:=K) (pv 0)) (fun _ _ _ _=>(jq_ (i:=0) (show (["_law_sign"]:List Str).Nodup by decide +kernel) rfl (Or.inl rfl) (Or.inr rfl))) (fun _ _ _ _=>pts_nil) (fun _ _ _ _=>(pe_cmpR o_in (pv 0) pe_str (by with_unfolding_all rfl)))) (by with_unfolding_all rfl)))))),?_⟩
 rw[show L2.jz_ ["_law_text"] [.str (S l)]=[some (.str (S l))] from rfl]
 rw[t_let,t_empty]
 have hll:(S l).length≤sizeLine:=szn (by rw[jt_];omega)
 walk_at "go"
 by_cases c:l=[]
 ·have e:isWord l=false:=by rw[c];rfl
  refine iteBF (by rw[c];simp) ?_
  walk_at "go"
  have:=q H (Same.refl H)
  rw[e] at this
  exact this
 ·refine iteBT (by rw[decide_eq_false fun z=>c (S_inj (by injection z))];rfl) ?_
  have hl1:1≤l.length:=by
   cases l with
   | nil=>exact absurd rfl c
   | cons x r=>simp
  walk_at "go"
  intro r hr0
  refine comp_its (fun i acc σ H'=>∃ v,σ=[v]∧acc=((l.take i).map isLow).map V.bl∧Same H H'∧H' r=some (.lst acc))
   ⟨none,rfl,rfl,jg_ hr0 _,jb_⟩ (fun i acc σ H' ⟨_,_,e,_,e2⟩=>⟨e2,by rw[e];simp;omega⟩) (szn (by rw[chs_length,jt_];omega)) ?_ ?_
  ·rintro i acc σ H' hi ⟨v,rfl,rfl,s1,e1⟩
   rw[chs_length,jt_] at hi
   rw[chs_get hi]
   walk_at "go"
   rw[let_in,Bool.false_xor]
   refine⟨e1,_,rfl,?_,fun c o e=>?_,jb_⟩
   ·rw[List.take_succ,List.getElem?_eq_getElem hi,List.map_append,List.map_append];rfl
   ·have hcr:c≠r:=fun z=>by rw[z,hr0] at e;cases e
    rw[jd_ hcr];exact s1 _ _ e
  ·rintro acc σ H' ⟨v,rfl,rfl,s1,e1⟩
   refine i_inR (jn_ e1) ⟨rfl,flat_bls _⟩ ?_
   rw[inV_bls,chs_length,jt_,List.take_length]
   walk_at "go"
   have e:(l.map isLow).all id=isWord l:=by
    unfold isWord
    rw[decide_eq_true (by omega),Bool.true_and,List.all_map];rfl
   rw[if_pos rfl,Bool.not_not,e]
   exact q H' s1
theorem ok_law_is_thing (T:Txt mg tk) (F:Fun K "_law_is_thing" "_law_is_thing" s_law_is_thing f fd) (D_law_is_word:Dn P w K mg base "_law_is_word" 1 ["_law_text"] spIsWord):FnOk P w K mg base CX0 2 f fd ["_law_thing"] spIsThing:=by
 refine F.ok sc_law_is_thing (fun vs H Q E h=>?_) (fun cdv A outer s H vs Q E hr h=>?_)
 ·obtain⟨l,rfl,_⟩:=h
  rfl
 obtain⟨l,rfl,hl,q⟩:=h
 have nd:=sc_law_is_thing.nd
 refine⟨_,(jc_ (j6_ (pt_tru (pe_bmK (K:=K) PySem.F.plainAttrs_str PySem.F.slot_str_startswith PySem.F.type_str_startswith m_startswith1 (pv 0) (ja_ pe_str pa_nil)) (fun _=>rfl))
   (jh_ (jo_ (pe_and (ji_ D_law_is_word (hr.mono (by first | decide | omega)) rfl (ja_ (js_ (j4_ (K:=K)) (pv 0) (jv_ pe_int) j1_) pa_nil)) (pe_one (pe_cmpR o_lt (jk_ (c_len (K:=K)) rfl T.z_len (by decide +kernel) (ja_ (pv 0) pa_nil)) pe_int (jy_ _))))))
   ju_)
  (jc_ (j6_ (PW.pt (pw_and (jr_ (o_ne hr.units) (pv 0) pe_str (jy_ _)) (pw_and1 (jr_ o_in (j2_ (jw_ (K:=K)) (pv 0) (pe_un o_neg pe_int) (fun _ _=>rfl)) pe_str (by with_unfolding_all rfl)))))
   (jh_ (jj_ (i:=0) nd rfl (Or.inl rfl) (js_ (j4_ (K:=K)) (pv 0) j1_ (jv_ (pe_un o_neg pe_int)))))
   ju_)
  (jh_ (jo_ (ji_ D_law_is_word (hr.mono (by first | decide | omega)) rfl (ja_ (pv 0) pa_nil)))))),?_⟩
 rw[show L2.jz_ ["_law_thing"] [.str (S l)]=[some (.str (S l))] from rfl]
 rw[t_at,t_empty,t_marks]
 have hll:(S l).length≤sizeLine:=szn (by rw[jt_];omega)
 walk_at "go"
 rw[starts_at]
 cases e:isAt l with
 | true =>
  walk_at "go"
  rw[cut_tail e]
  refine⟨l.tail,rfl,by rw[List.length_tail];omega,fun H1 s1=>?_⟩
  have q1:=q H1 s1
  unfold isThing isNm at q1
  rw[e,if_pos rfl] at q1
  have hl1:1≤l.length:=by
   cases l with
   | nil=>simp[isAt] at e
   | cons x r=>simp
  walk_at "go"
  cases e2:isWord l.tail with
  | false =>
   rw[e2] at q1
   walk_at "go"
   exact q1
  | true =>
   rw[e2,Bool.true_and] at q1
   walk_at "go"
   have e3:decide ((l.length:Int) < 10)=decide (l.tail.length≤8):=by
    rw[List.length_tail]
    by_cases c:l.length < 10
    ·rw[decide_eq_true (by omega),decide_eq_true (by omega)]
    ·rw[decide_eq_false (by omega),decide_eq_false (by omega)]
   rw[e3]
   exact q1
 | false =>
  have hq:∀ H',Same H H'→Q (.bl (isWord (wordL l))) H':=fun H1 s1=>by
   have q1:=q H1 s1
   unfold isThing at q1
   rw[e,if_neg Bool.false_ne_true] at q1
   exact q1
  clear q
  walk_at "go"
  rcases List.eq_nil_or_concat l with rfl | ⟨y,c,rfl⟩
  ·refine iteBF (by simp) ?_
   walk_at "go"
   refine⟨[],rfl,by decide,fun H1 s1=>?_⟩
   walk_at "go"
   exact hq H1 s1
  ·rw[List.concat_eq_append] at hl hll e hq ⊢
   have hyl:y.length+1≤1000:=by rw[List.length_append,List.length_singleton] at hl;exact hl
   refine iteBT (by rw[decide_eq_false fun z=>by have:=S_inj (by injection z);simp at this];rfl) ?_
   walk_at "go"
   refine i_ixS (c:=c) hll (by rw[S_cps];exact atI_last y c) ?_
   walk_at "go"
   rw[show ({ cps:=#[c] }:Str)=S [c] from rfl,marks_has,Bool.false_xor]
   cases hm:isMark c with
   | true =>
    walk_at "go"
    rw[cut_init]
    have hw:wordL (y++[c])=y:=by
     unfold wordL markL
     rw[last_snoc,if_pos (by simp[hm]),List.length_append,List.length_singleton,Nat.add_sub_cancel,List.take_left]
    refine⟨y,rfl,by omega,fun H1 s1=>?_⟩
    walk_at "go"
    rw[← hw]
    exact hq H1 s1
   | false =>
    walk_at "go"
    have hw:wordL (y++[c])=y++[c]:=by
     unfold wordL markL
     rw[last_snoc,if_neg (by simp[hm])]
     exact List.take_length
    refine⟨y++[c],rfl,hl,fun H1 s1=>?_⟩
    walk_at "go"
    rw[hw] at hq
    exact hq H1 s1
end
def dueD:R3→Dt
 | .thing k=>.tup [.str (Str.ofString "thing"),.int (k:Int)]
 | .tongue nm=>.tup [.str (Str.ofString "tongue"),.str (S nm)]
 | .told=>.tup [.str (Str.ofString "told"),.non]
def Names (kws:List (Key×V)) (ms:List (List Nat×Bp)):Prop:=∀ z,(valV kws (Sum.inr (S z))).isSome=(lookM ms z).isSome
theorem TR.names {C:Addr} {H:Hp} {kvs kws:List (Key×V)} {ms:List (List Nat×Bp)} (h:TR C H kvs kws ms):Names kws ms:=fun z=>by
 cases e:lookM ms z with
 | none=>rw[(h.look0 z e).2];rfl
 | some b =>
  obtain⟨_,_,_,_,_,e2,_⟩:=h.look z b e
  rw[e2];rfl
def spDue:Sp:=fun vs H Q _=>∃(sd a:Addr) (kws:List (Key×V)) (ms:List (List Nat×Bp)) (ls:List (List Nat)),vs=[.ref sd,.ref a]∧H sd=some (.dK kws)∧Names kws ms∧H a=some (.lst (ls.map fun l=>V.str (S l)))∧ls.length≤100∧(∀ l∈ls,Th1 l) ∧
 ∀ v H',Same H H'→Is H' v (dueD (due ms ls))→Q v H'
section
variable {P:Program} {w:World} {K:PySem.W.Frag} {mg:Str→Option Value} {base:Heap} {f:Addr} {fd:FuncData} {tk:Nat→Tok} {cO cO2 mkT:Addr}
theorem ok_law_due (T:Txt mg tk) (F:Fun K "_law_due" "_law_due" s_law_due f fd) (D_law_is_thing:Dn P w K mg base "_law_is_thing" 2 ["_law_thing"] spIsThing):FnOk P w K mg base CX0 3 f fd ["_law_some_here","_law_things_here"] spDue:=by
 refine F.ok sc_law_due (fun vs H Q E h=>?_) (fun cdv A outer s H vs Q E hr h=>?_)
 ·obtain⟨sd,a,kws,ms,ls,rfl,_⟩:=h
  rfl
 obtain⟨sd,a,kws,ms,ls,rfl,hsd,hnm,ha,hll,hth,q⟩:=h
 have nd:=sc_law_due.nd
 refine⟨_,(jc_ (ps_for PassesOwn.never rfl (pi_enumL rfl T.z_enumerate (pv 1)) (pg_tup rfl (zb_ (jq_ (i:=2) nd rfl (Or.inl rfl)) (zb_ (jq_ (i:=3) nd rfl (Or.inl rfl)) pgs_nil)))
   (jh_ (j6_ (pt_not (pt_tru (ji_ D_law_is_thing (hr.mono (by first | decide | omega)) rfl (ja_ (pv 3) pa_nil)) (fun _=>rfl)))
   (jh_ (jo_ (pe_tup (ja_ pe_str (ja_ (pv 2) pa_nil)))))
   ju_)))
  (jc_ (jj_ (i:=4) nd rfl (Or.inl rfl) pe_bl)
  (jc_ (ps_for PassesOwn.never rfl (pi_any (K:=K) (pv 1)) (jq_ (i:=3) nd rfl (Or.inl rfl))
   (jh_ (j6_ (pt_tru (pe_bmK (K:=K) PySem.F.plainAttrs_str PySem.F.slot_str_startswith PySem.F.type_str_startswith m_startswith1 (pv 3) (ja_ pe_str pa_nil)) (fun _=>rfl))
   (jc_ (jj_ (i:=4) nd rfl (Or.inl rfl) pe_bl)
  (jh_ (j6_ (pt_cmp (pc_dnotin (hu_of hr) (js_ (j4_ (K:=K)) (pv 3) (jv_ pe_int) j1_) (pv 0)))
   (jh_ (jo_ (pe_tup (ja_ pe_str (ja_ (js_ (j4_ (K:=K)) (pv 3) (jv_ pe_int) j1_) pa_nil)))))
   ju_)))
   (jh_ (j6_ (pt_not (pt_tru (pv 4) (fun _=>rfl)))
   (jh_ (jo_ (pe_tup (ja_ pe_str (ja_ pe_str pa_nil)))))
   ju_)))))
  (jh_ (jo_ (pe_tup (ja_ pe_str (ja_ pe_non pa_nil)))))))),?_⟩
 rw[show L2.jz_ ["_law_some_here","_law_things_here","_law_place","_law_thing","_law_here"] [.ref sd,.ref a]=[some (.ref sd),some (.ref a),none,none,none] from rfl]
 rw[t_at,t_empty]
 walk_at "go"
 refine i_enumL ?_
 walk_at "go"
 refine i_enSL ha ?_
 refine for_en (fun i σ H'=>∃(v1 v2:Option V),σ=[some (.ref sd),some (.ref a),v1,v2,none]∧j3_ ls 0=j3_ (ls.drop i) i∧Same H H')
  ⟨none,none,rfl,rfl,Same.refl _⟩ (fun _ _ H' _ ⟨_,_,_,_,s⟩=>s _ _ ha) ?_ ?_
 ·rintro i v σ H2 T2 hv ⟨v1,v2,rfl,hfb,s2⟩ hT
  rw[List.getElem?_map] at hv
  obtain⟨l,hl,rfl⟩:∃ l,ls[i]?=some l∧v=V.str (S l):=by
   cases e:ls[i]? with
   | none=>rw[e] at hv;cases hv
   | some l=>rw[e] at hv;cases hv;exact⟨l,rfl,rfl⟩
  have hi:=(List.getElem?_eq_some_iff.mp hl).1
  rw[drop_at hl] at hfb
  refine i_gtup jb_ rfl (i_gcons (i_name (i_gcons (i_name (i_gnil ?_)))))
  have s3:=s2.trans (jg_ hT (.tup [.int (((0:Nat):Int)+(i:Int)),.str (S l)]))
  have hii:V.int (((0:Nat):Int)+(i:Int))=V.int (i:Int):=by congr 1;omega
  rw[hii] at s3 ⊢
  walk_at "go"
  refine⟨l,rfl,by have:=(hth l (List.mem_of_getElem? hl)).2;omega,fun H3 s4=>?_⟩
  cases e:isThing l with
  | true =>
   have e2:j3_ (l::ls.drop (i+1)) i=j3_ (ls.drop (i+1)) (i+1):=by simp only[j3_];rw[if_pos e]
   walk_at "go"
   exact⟨_,_,rfl,hfb.trans e2,s3.trans s4⟩
  | false =>
   have e2:j3_ (l::ls.drop (i+1)) i=some i:=by simp only[j3_];rw[if_neg (by rw[e];exact Bool.false_ne_true)]
   walk_at "go"
   intro t ht
   have s5:=(s3.trans s4).trans (jg_ ht (.tup [.str (Str.ofString "thing"),.int (i:Int)]))
   refine q _ _ s5 ?_
   rw[due_bad (hfb.trans e2)]
   unfold dueD
   simp only[Is,L2.IsL]
   exact⟨t,_,rfl,jb_,rfl,rfl,trivial⟩
 ·rintro σ H2 ⟨v1,v2,rfl,hfb,s2⟩
  rw[List.length_map,List.drop_length] at hfb
  walk_at "go"
  rw[due_ok hfb] at q
  refine i_anyL (SqL.of (s2 _ _ ha)) ?_
  refine for_list (K:=K) (xs:=ls.map fun l=>V.str (S l)) (fun i σ H'=>∃(v1 v2:Option V) (h:Bool),σ=[some (.ref sd),some (.ref a),v1,v2,some (.bl h)]∧due2 ms false ls=due2 ms h (ls.drop i)∧Same H H')
   ⟨v1,v2,false,rfl,rfl,s2⟩ (fun i σ H' _ ⟨_,_,_,_,_,s⟩=>SqL.of (s _ _ ha)) ?_ ?_
  ·rintro i x σ H3 hx ⟨v1,v2,h,rfl,hd2,s3⟩
   rw[List.getElem?_map] at hx
   obtain⟨l,hl,rfl⟩:∃ l,ls[i]?=some l∧x=V.str (S l):=by
    cases e:ls[i]? with
    | none=>rw[e] at hx;cases hx
    | some l=>rw[e] at hx;cases hx;exact⟨l,rfl,rfl⟩
   have hlen:=(hth l (List.mem_of_getElem? hl)).2
   rw[drop_at hl] at hd2
   walk_at "go"
   rw[starts_at]
   cases hat:isAt l with
   | true =>
    walk_at "go"
    refine i_tB (i_dnotin ?_)
    walk_at "go"
    rw[cut_tail hat]
    refine⟨sd,_,rfl,DGet.k (k:=Sum.inr (S l.tail)) (s3 _ _ hsd),?_⟩
    have hn:=hnm l.tail
    simp only[due2] at hd2
    rw[if_pos hat] at hd2
    cases e:valV kws (Sum.inr (S l.tail)) with
    | none =>
     rw[e] at hn
     rw[← hn,if_neg (by exact Bool.false_ne_true)] at hd2
     walk_at "go"
     rw[cut_tail hat]
     intro t ht
     have s5:=s3.trans (jg_ ht (.tup [.str (Str.ofString "tongue"),.str (S l.tail)]))
     refine q _ _ s5 ?_
     rw[hd2]
     unfold dueD
     simp only[Is,L2.IsL]
     exact⟨t,_,rfl,jb_,rfl,rfl,trivial⟩
    | some v =>
     rw[e] at hn
     rw[← hn,if_pos (by rfl)] at hd2
     walk_at "go"
     exact⟨_,_,true,rfl,hd2,s3⟩
   | false =>
    simp only[due2] at hd2
    rw[if_neg (by rw[hat];exact Bool.false_ne_true)] at hd2
    walk_at "go"
    cases h with
    | true =>
     rw[if_pos rfl] at hd2
     walk_at "go"
     exact⟨_,_,true,rfl,hd2,s3⟩
    | false =>
     rw[if_neg Bool.false_ne_true] at hd2
     walk_at "go"
     intro t ht
     have s5:=s3.trans (jg_ ht (.tup [.str (Str.ofString "tongue"),.str (S [])]))
     refine q _ _ s5 ?_
     rw[hd2]
     unfold dueD
     simp only[Is,L2.IsL]
     exact⟨t,_,rfl,jb_,rfl,rfl,trivial⟩
  ·rintro σ H3 ⟨v1,v2,h,rfl,hd2,s3⟩
   rw[List.length_map,List.drop_length] at hd2
   simp only[due2] at hd2
   walk_at "go"
   intro t ht
   have s5:=s3.trans (jg_ ht (.tup [.str (Str.ofString "told"),.non]))
   refine q _ _ s5 ?_
   rw[hd2]
   unfold dueD
   simp only[Is,L2.IsL]
   exact⟨t,_,rfl,jb_,rfl,rfl,trivial⟩
end
abbrev s_law_spoilt:Stmt:=top 52
theorem sc_law_spoilt:FnScope ["_law_feed_here","_law_some_here","_law_things_here","_law_names_here","_law_odd","_law_strange","_law_at","_law_way","_law_name"] ["_law_feed_here","_law_some_here","_law_things_here"] (jf_ s_law_spoilt):=⟨rfl,rfl,rfl,by decide +kernel,rfl,by decide +kernel,by decide +kernel⟩
def spSpoilt:Sp:=fun vs H Q _=>∃(p sd a:Addr) (n:Nat) (kws:List (Key×V)) (ms:List (List Nat×Bp)) (ls:List (List Nat)),vs=[.ref p,.ref sd,.ref a]∧FeedAt H p n∧n+10 < feedTop∧H sd=some (.dK kws)∧kws.map (·.1)=(ms.map fun m=>S m.1).map Sum.inr∧1≤ms.length∧ms.length≤10∧(∀ m∈ms,GN m.1)∧Odd (ms.map (·.1))∧H a=some (.lst (ls.map fun l=>V.str (S l)))∧a≠p∧ls.length≤100∧(∀ l∈ls,Th1 l) ∧
 ∀(r:Addr) (ls':List (List Nat)) (H':Hp),r≠p→H' r=some (.lst (ls'.map fun l=>V.str (S l)))→ls'.length≤ls.length+1→(∀ l∈ls',Th1 l)→FeedAt H' p (n+10)→Kept p H H'→Q (.ref r) H'
def ODD:List (List Nat):=[[],[64],[44],[97,45,98],[65,98],[97,49],[97,44,44],[44,97],[97,32,98],[64,65,98],[64,97,44],[64,97,98,99,100,101,102,103,104,105],[64,64,97],[64,49]]
theorem oddE:[Str.ofString "",Str.ofString "@",Str.ofString ",",Str.ofString "a-b",Str.ofString "Ab",Str.ofString "a1",Str.ofString "a,,",Str.ofString ",a",Str.ofString "a b",Str.ofString "@Ab",Str.ofString "@a,",Str.ofString "@abcdefghi",Str.ofString "@@a",Str.ofString "@1"]=ODD.map S:=by decide +kernel
theorem oddD:[Dt.str (Str.ofString ""),Dt.str (Str.ofString "@"),Dt.str (Str.ofString ","),Dt.str (Str.ofString "a-b"),Dt.str (Str.ofString "Ab"),Dt.str (Str.ofString "a1"),Dt.str (Str.ofString "a,,"),Dt.str (Str.ofString ",a"),Dt.str (Str.ofString "a b"),Dt.str (Str.ofString "@Ab"),Dt.str (Str.ofString "@a,"),Dt.str (Str.ofString "@abcdefghi"),Dt.str (Str.ofString "@@a"),Dt.str (Str.ofString "@1")]=ODD.map fun l=>Dt.str (S l):=by
 have:=congrArg (List.map Dt.str) oddE
 rw[List.map_map] at this
 exact this
theorem odd_th:∀ l∈ODD,Th1 l:=by
 unfold Th1
 decide
theorem isL_txt {H:Hp}:∀{ls:List (List Nat)} {vs:List V},L2.IsL H vs (ls.map fun l=>Dt.str (S l))→vs=ls.map fun l=>V.str (S l)
 | [],[],_=>rfl
 | [],_::_,h=>by simp[L2.IsL] at h
 | _::_,[],h=>by simp[L2.IsL] at h
 | l::ls,v::vs,h=>by
  simp only[List.map_cons,L2.IsL,Is] at h
  rw[h.1,isL_txt h.2];rfl
theorem t_q:Str.ofString "q"=S [113]:=by decide +kernel
theorem t_zz:Str.ofString "zz"=S [122,122]:=by decide +kernel
theorem t_zq:Str.ofString "@zq"=S [64,122,113]:=by decide +kernel
theorem in_txt (z:List Nat):∀ l:List (List Nat),inV (.str (S z)) (l.map fun x=>V.str (S x))=decide (z∈l)
 | []=>rfl
 | x::r=>by
  have ih:=in_txt z r
  unfold inV at ih ⊢
  rw[List.map_cons,List.any_cons,ih]
  by_cases h:x=z
  ·subst h;simp[eqV]
  ·have h2:(S x == S z)=false:=by
    rw[beq_eq_false_iff_ne];exact fun e=>h (S_inj e)
   have h3:z≠x:=fun e=>h e.symm
   simp[eqV,h2,h3]
theorem flat_txt (ls:List (List Nat)):(ls.map fun l=>V.str (S l)).all flatV=true:=by
 rw[List.all_map,List.all_eq_true]
 intro x _;rfl
theorem Th1.cons {c:Nat} {l:List Nat} (hc:c < 128) (h:∀ x∈l,x < 128) (hl:l.length≤39):Th1 ([c]++l):=by
 refine⟨fun x hx=>?_,by rw[List.length_append];simp;omega⟩
 rcases List.mem_append.mp hx with h1 | h1
 ·have:x=c:=by simpa using h1
  omega
 ·exact h x h1
section
variable {P:Program} {w:World} {K:PySem.W.Frag} {mg:Str→Option Value} {base:Heap} {f:Addr} {fd:FuncData} {tk:Nat→Tok} {cO cO2 mkT:Addr}
theorem ok_law_spoilt (T:Txt mg tk) (F:Fun K "_law_spoilt" "_law_spoilt" s_law_spoilt f fd) (D_law_next:Dn P w K mg base "_law_next" 1 ["_law_feed_here","_law_many"] spNext):FnOk P w K mg base CX0 2 f fd ["_law_feed_here","_law_some_here","_law_things_here"] spSpoilt:=by
 refine F.ok sc_law_spoilt (fun vs H Q E h=>?_) (fun cdv A outer s H vs Q E hr h=>?_)
 ·obtain⟨p,sd,a,n,kws,ms,ls,rfl,_⟩:=h
  rfl
 obtain⟨p,sd,a,n,kws,ms,ls,rfl,hf,hn,hsd,hkeys,hm1,hm2,hgn,hodd,ha,hap,hll,hth,q⟩:=h
 have nd:=sc_law_spoilt.nd
 obtain⟨nms,hnms⟩:∃ nms,nms=ms.map (·.1):=⟨_,rfl⟩
 have hkn:(kws.map fun kv=>kV kv.1)=nms.map fun m=>V.str (S m):=by
  have:=congrArg (List.map kV) hkeys
  rw[List.map_map,List.map_map,List.map_map] at this
  rw[hnms,List.map_map]
  exact this
 have hgn:∀ z∈nms,GN z:=fun z hz=>by rw[hnms] at hz;obtain⟨m,hm,rfl⟩:=List.mem_map.mp hz;exact hgn m hm
 have hnl:nms.length=ms.length:=by rw[hnms,List.length_map]
 rw[← hnms] at hodd
 clear hnms hkeys
 rw[← hnl] at hm1 hm2
 clear hnl
 refine⟨_,(jc_ (jj_ (i:=3) nd rfl (Or.inr rfl) (pe_callTy (c_listD rfl) rfl T.z_list (by decide +kernel) (ja_ (pv 1) pa_nil)))
  (jc_ (jj_ (i:=4) nd rfl (Or.inl rfl) (pe_cst (.lst [.str "",.str "@",.str ",",.str "a-b",.str "Ab",.str "a1",.str "a,,",.str ",a",.str "a b",.str "@Ab",.str "@a,",.str "@abcdefghi",.str "@@a",.str "@1"]) (by kernel_rfl)))
  (jc_ (ps_setC (i:=5) ["_law_names_here","_law_name"] [some 3,none] rfl (by kernel_rfl) rfl nd rfl rfl (pi_any (K:=K) (j9_ (ja_ (jp_ j0_ (j2_ (jw_ (K:=K)) (pv 3) pe_int (fun _ _=>rfl)) pe_str) (ja_ pe_str (ja_ pe_str (ja_ (js_ (j4_ (K:=K)) (j2_ (jw_ (K:=K)) (pv 3) (pe_un o_neg pe_int) (fun _ _=>rfl)) j1_ (jv_ (pe_un o_neg pe_int))) pa_nil)))))) (fun _ _ _ _=>(jq_ (i:=1) (show (["_law_names_here","_law_name"]:List Str).Nodup by decide +kernel) rfl (Or.inl rfl) (Or.inr rfl))) (fun _ _ _ _=>(pts_one (jr_ o_notin (pv 1) (jp_ j0_ (pv 0) (j9_ (ja_ pe_str pa_nil))) (by with_unfolding_all rfl)))) (fun _ _ _ _=>(jp_ j0_ pe_str (pv 1))))
  (jc_ (jj_ (i:=6) nd rfl (Or.inl rfl) (ji_ D_law_next (hr.mono (by first | decide | omega)) rfl (ja_ (pv 0) (ja_ (jp_ j0_ (jk_ (c_len (K:=K)) rfl T.z_len (by decide +kernel) (ja_ (pv 2) pa_nil)) pe_int) pa_nil))))
  (jc_ (jj_ (i:=7) nd rfl (Or.inl rfl) (ji_ D_law_next (hr.mono (by first | decide | omega)) rfl (ja_ (pv 0) (ja_ pe_int pa_nil))))
  (jc_ (j6_ (jr_ (o_eq hr.units) (pv 7) pe_int (jy_ _))
   (jh_ (jo_ (js_ (j4_ (K:=K)) (pv 2) (jv_ pe_int) j1_)))
   ju_)
  (jc_ (j6_ (jr_ o_lt (pv 7) pe_int (jy_ _))
   (jh_ (jo_ (jp_ j0_ (jp_ j0_ (js_ (j4_ (K:=K)) (pv 2) j1_ (jv_ (pv 6))) (j9_ (ja_ (j2_ (jw_ (K:=K)) (pv 4) (ji_ D_law_next (hr.mono (by first | decide | omega)) rfl (ja_ (pv 0) (ja_ (jk_ (c_len (K:=K)) rfl T.z_len (by decide +kernel) (ja_ (pv 4) pa_nil)) pa_nil))) (fun _ _=>rfl)) pa_nil))) (js_ (j4_ (K:=K)) (pv 2) (jv_ (pv 6)) j1_))))
   ju_)
  (jc_ (jj_ (i:=8) nd rfl (Or.inl rfl) (j2_ (jw_ (K:=K)) (pv 5) (ji_ D_law_next (hr.mono (by first | decide | omega)) rfl (ja_ (pv 0) (ja_ (jk_ (c_len (K:=K)) rfl T.z_len (by decide +kernel) (ja_ (pv 5) pa_nil)) pa_nil))) (fun _ _=>rfl)))
  (jc_ (j6_ (jr_ o_gt (jk_ (c_len (K:=K)) rfl T.z_len (by decide +kernel) (ja_ (pv 8) pa_nil)) pe_int (jy_ _))
   (jh_ (jj_ (i:=8) nd rfl (Or.inl rfl) pe_str))
   ju_)
  (jc_ (j6_ (jr_ o_in (js_ (j4_ (K:=K)) (pv 8) (jv_ pe_int) j1_) (pv 3) (by with_unfolding_all rfl))
   (jh_ (jo_ (pv 2)))
   ju_)
  (jh_ (jo_ (jp_ j0_ (jp_ j0_ (js_ (j4_ (K:=K)) (pv 2) j1_ (jv_ (pv 6))) (j9_ (ja_ (pv 8) pa_nil))) (js_ (j4_ (K:=K)) (pv 2) (jv_ (pv 6)) j1_)))))))))))))),?_⟩
 rw[show L2.jz_ ["_law_feed_here","_law_some_here","_law_things_here","_law_names_here","_law_odd","_law_strange","_law_at","_law_way","_law_name"] [.ref p,.ref sd,.ref a]=[some (.ref p),some (.ref sd),some (.ref a),none,none,none,none,none,none] from rfl]
 rw[oddD,t_at,t_empty,t_q,t_zz,t_zq]
 walk_at "go"
 refine i_listD hsd fun nk hnk=>?_
 rw[hkn]
 have pnk:p≠nk:=by obtain⟨o,e⟩:=hf.some;exact je_ e hnk
 have k1:Kept p H (upd H nk (.lst (nms.map fun m=>V.str (S m)))):=(Kept.refl p H).new hnk _
 have enk:=jb_ (H:=H) (a:=nk) (o:=.lst (nms.map fun m=>V.str (S m)))
 have hf1:FeedAt (upd H nk (.lst (nms.map fun m=>V.str (S m)))) p n:=hf.new hnk
 have ea1:=jg_ hnk (.lst (nms.map fun m=>V.str (S m))) _ _ ha
 generalize upd H nk (.lst (nms.map fun m=>V.str (S m)))=H1 at k1 enk hf1 ea1 ⊢
 walk_at "go"
 intro ov H2 hov s2
 simp only[Is] at hov
 obtain⟨oa,ovs,rfl,eoa,hovs⟩:=hov
 obtain rfl:=isL_txt hovs
 clear hovs
 have k2:=k1.trans (fun b o _ e=>s2 b o e)
 have enk2:=s2 _ _ enk
 have ea2:=s2 _ _ ea1
 have hf2:=hf1.same s2
 clear hf1 enk ea1 k1 s2 H1
 have poa:oa≠p:=fun z=>by
  obtain⟨z1,z2,z3,ezp⟩:=FeedAt.ex hf2
  rw[z,ezp] at eoa;simp[ODD] at eoa
 obtain⟨m0,hm0,hat0⟩:∃ m0,m0∈nms∧nms[0]?=some m0:=⟨nms[0],List.getElem_mem _,List.getElem?_eq_getElem (by omega)⟩
 obtain⟨ml,hml,hatl⟩:∃ ml,ml∈nms∧atI (nms.map fun m=>V.str (S m)) (-1)=some (.str (S ml)):=by
  rcases List.eq_nil_or_concat nms with rfl | ⟨y,c,rfl⟩
  ·simp at hm1
  ·rw[List.concat_eq_append]
   refine⟨c,by simp,?_⟩
   rw[List.map_append]
   exact atI_last _ _
 have hg0:=hgn _ hm0
 have hgl:=hgn _ hml
 have hl01:=hg0.2.2
 have hll1:=hgl.2.2
 walk_at "go"
 refine i_ixR (v:=.str (S m0)) (jn_ enk2) (atI_of (Int.le_refl 0) (by rw[List.getElem?_map];show Option.map _ nms[0]?=_;rw[hat0];rfl)) ?_
 walk_at "go"
 try refine i_addC (by simp only[List.length_cons,List.length_nil];omega) ?_
 walk_at "go"
 obtain⟨zs,hzs⟩:∃ zs:List (List Nat),zs=[m0++[113],[122,122],[113],cutA ml none (some (-1))]:=⟨_,rfl⟩
 have hzv:[V.str (S (m0++[113])),V.str (S [122,122]),V.str (S [113]),V.str (S (cutA ml none (some (-1))))]=zs.map fun z=>V.str (S z):=by rw[hzs];rfl
 rw[hzv]
 have hzl:zs.length=4:=by rw[hzs];rfl
 have hzg:∀ z∈zs,(∀ c∈z,c < 128)∧z.length≤9:=fun z hz=>by
  have c1:=Low_lt hg0.1
  have c2:=Low_lt hgl.1
  rw[hzs] at hz
  simp only[List.mem_cons,List.not_mem_nil,or_false] at hz
  rcases hz with rfl | rfl | rfl | rfl
  ·refine⟨fun c hc=>?_,by rw[List.length_append];simp;omega⟩
   rcases List.mem_append.mp hc with h | h
   ·exact c1 c h
   ·have:c=113:=by simpa using h
    omega
  ·exact⟨by decide,by decide⟩
  ·exact⟨by decide,by decide⟩
  ·exact⟨fun c hc=>c2 c (cut_in hc),by have:=cut_le ml none (some (-1));omega⟩
 have hzb:∃ z∈zs,decide (z∈nms++[[]])=false:=by
  obtain⟨bad,hb,hb2⟩:=hodd
  refine⟨bad,?_,decide_eq_false fun h=>?_⟩
  ·rw[hzs];rcases hb with rfl | rfl <;> simp
  ·rcases List.mem_append.mp h with h | h
   ·exact hb2 bad h rfl
   ·have:bad=[]:=by simpa using h
    rcases hb with rfl | rfl <;> cases this
 clear hzv hzs
 intro it hit
 have s3:=jg_ hit (.lst (zs.map fun z=>V.str (S z)))
 have pit:p≠it:=by obtain⟨o,e⟩:=hf2.some;exact je_ e hit
 have eit:=jb_ (H:=H2) (a:=it) (o:=.lst (zs.map fun z=>V.str (S z)))
 generalize upd H2 it (.lst (zs.map fun z=>V.str (S z)))=H3 at s3 eit ⊢
 have k3:=k2.same s3
 have enk3:=s3 _ _ enk2
 have ea3:=s3 _ _ ea2
 have eoa3:=s3 _ _ eoa
 have hf3:=hf2.same s3
 clear hf2 enk2 ea2 eoa k2 s3 hit
 clear H2
 refine i_anyL (SqL.of eit) ?_
 intro r hr0
 have pr:p≠r:=by obtain⟨o,e⟩:=hf3.some;exact je_ e hr0
 obtain⟨str,hstr⟩:∃ str:List Nat→Bool,str=fun z=>!decide (z∈nms++[[]]):=⟨_,rfl⟩
 refine comp_list (K:=K) (xs:=zs.map fun z=>V.str (S z)) (fun j acc σ H'=>∃(v:Option V),σ=[some (.ref nk),v]∧acc=((zs.take j).filter str).map (fun z=>V.str (S ([64]++z)))∧H' r=some (.lst acc)∧Same H3 H')
  (fun i acc σ H' _ ⟨_,_,_,_,s⟩=>SqL.of (s _ _ eit)) ⟨none,rfl,rfl,jb_,jg_ hr0 _⟩ (fun i acc σ H' ⟨_,_,e,e2,_⟩=>⟨e2,by
   rw[e,List.length_map]
   exact Nat.le_trans (List.length_filter_le _ _) (by rw[List.length_take];omega)⟩) (szn (by rw[List.length_map];omega)) ?_ ?_
 ·rintro i acc σ Ha hi ⟨v,rfl,rfl,e1,s1⟩
  rw[List.length_map] at hi
  have hgi:(zs.map fun z=>V.str (S z)).getD i .non=.str (S zs[i]):=by
   rw[List.getD_eq_getElem?_getD,List.getElem?_map,List.getElem?_eq_getElem hi];rfl
  rw[hgi]
  have hzi:=hzg _ (List.getElem_mem hi)
  have htk:zs.take (i+1)=zs.take i++[zs[i]]:=by rw[List.take_succ,List.getElem?_eq_getElem hi];rfl
  generalize zs[i]=z at htk hzi ⊢
  walk_at "go"
  intro e0 he0
  have sa:=jg_ he0 (.lst [.str (S [])])
  have ee0:=jb_ (H:=Ha) (a:=e0) (o:=.lst [.str (S [])])
  generalize upd Ha e0 (.lst [.str (S [])])=Hb at sa ee0 ⊢
  refine i_addL (sa _ _ (s1 _ _ enk3)) ee0 (szn (by rw[List.length_map];simp;omega)) fun e2 he2=>?_
  have hmm:(nms.map fun m=>V.str (S m))++[V.str (S [])]=(nms++[[]]).map fun m=>V.str (S m):=by rw[List.map_append];rfl
  rw[hmm]
  have sb:=sa.trans (jg_ he2 (.lst ((nms++[[]]).map fun m=>V.str (S m))))
  have ee2:=jb_ (H:=Hb) (a:=e2) (o:=.lst ((nms++[[]]).map fun m=>V.str (S m)))
  generalize upd Hb e2 (.lst ((nms++[[]]).map fun m=>V.str (S m)))=Hc at sb ee2 ⊢
  refine i_inR (jn_ ee2) ⟨rfl,flat_txt _⟩ ?_
  rw[in_txt,if_pos rfl]
  refine⟨_,rfl,?_⟩
  have hsz:str z=!decide (z∈nms++[[]]):=by rw[hstr]
  rw[← hsz]
  have e1c:=sb _ _ e1
  have keep:∀ b' o,H3 b'=some o→b'≠r:=fun b' o e z=>by rw[z,hr0] at e;cases e
  cases e:str z with
  | true =>
   rw[if_pos rfl]
   have hzi2:=hzi.2
   walk_at "go"
   try refine i_addC (by simp only[List.length_cons,List.length_nil];omega) ?_
   exact⟨e1c,_,rfl,by rw[htk,List.filter_append,List.map_append];simp[e],jb_,fun b' o e'=>by rw[jd_ (keep b' o e')];exact sb _ _ (s1 b' o e')⟩
  | false =>
   rw[if_neg Bool.false_ne_true]
   exact⟨_,rfl,by rw[htk,List.filter_append];simp[e],e1c,s1.trans sb⟩
 ·rintro acc σ Ha ⟨v,rfl,rfl,e1,s1⟩
  rw[List.length_map,List.take_length] at e1
  obtain⟨ss,hss⟩:∃ ss,ss=(zs.filter str).map fun z=>[64]++z:=⟨_,rfl⟩
  have e1:Ha r=some (.lst (ss.map fun z=>V.str (S z))):=by rw[hss,List.map_map];exact e1
  have hss1:1≤ss.length:=by
   obtain⟨z,hz,hz2⟩:=hzb
   have:z∈zs.filter str:=List.mem_filter.mpr ⟨hz,by rw[hstr];simp only[hz2];rfl⟩
   rw[hss,List.length_map]
   exact List.length_pos_of_mem this
  have hss2:ss.length≤4:=by
   rw[hss,List.length_map,← hzl]
   exact List.length_filter_le _ _
  have hss3:∀ z∈ss,Th1 z:=fun z hz=>by
   rw[hss] at hz
   obtain⟨y,hy,rfl⟩:=List.mem_map.mp hz
   have:=hzg y (List.mem_filter.mp hy).1
   exact Th1.cons (by decide) this.1 (by omega)
  have k4:=k3.same s1
  have enk4:=s1 _ _ enk3
  have ea4:=s1 _ _ ea3
  have eoa4:=s1 _ _ eoa3
  have hf4:=hf3.same s1
  clear hss hstr hzb hzg hf3 k3 enk3 ea3 eoa3 eit hr0 s1
  walk_at "go"
  try rw[List.length_map]
  refine⟨p,_,n,rfl,hf4,by omega,by omega,by omega,fun d1 H5 hd10 hd11 hf5 o5=>?_⟩
  obtain⟨da,rfl⟩:∃ da:Nat,d1=(da:Int):=⟨d1.toNat,by omega⟩
  have hda:da≤ls.length:=by omega
  walk_at "go"
  refine⟨p,5,n+1,rfl,hf5,by omega,by decide,by decide,fun wy H6 hy0 hy1 hf6 o6=>?_⟩
  have k6:=(k4.off o5).off o6
  have ea6:H6 a=_:=(o6 a hap).trans ((o5 a hap).trans ea4)
  have er6:H6 r=_:=(o6 r pr.symm).trans ((o5 r pr.symm).trans e1)
  have eoa6:H6 oa=_:=(o6 oa poa).trans ((o5 oa poa).trans eoa4)
  have enk6:H6 nk=_:=(o6 nk pnk.symm).trans ((o5 nk pnk.symm).trans enk4)
  clear k4 o5 o6 ea4 e1 eoa4 enk4 hf5 hf4
  walk_at "go"
  refine iteD (fun cy=>?_) (fun cy=>?_)
  ·walk_at "go"
   refine i_slL (SqL.of ea6) fun t1 ht1=>?_
   have pt1:p≠t1:=by obtain⟨o,e⟩:=hf6.some;exact je_ e ht1
   rw[cutV_eq,cutA_map]
   walk_at "go"
   refine q t1 (cutA ls (some 1) none) _ pt1.symm jb_ (by have:=cut_le ls (some 1) none;omega) (fun l hl=>hth l (cut_in hl)) ((hf6.mono (by omega)).new ht1) (k6.new ht1 _)
  ·walk_at "go"
   refine iteD (fun cy2=>?_) (fun cy2=>?_)
   ·walk_at "go"
    refine i_slL (SqL.of ea6) fun t0 ht0=>?_
    have pt0:p≠t0:=by obtain⟨o,e⟩:=hf6.some;exact je_ e ht0
    rw[cutV_eq,cutA_map,cut_to ls da hda]
    have s7:=jg_ ht0 (.lst ((ls.take da).map fun l=>V.str (S l)))
    have e07:=jb_ (H:=H6) (a:=t0) (o:=.lst ((ls.take da).map fun l=>V.str (S l)))
    generalize upd H6 t0 (.lst ((ls.take da).map fun l=>V.str (S l)))=H7 at s7 e07 ⊢
    have eoa7:=s7 _ _ eoa6
    walk_at "go"
    have hol:ODD.length=14:=rfl
    try rw[List.length_map]
    refine⟨p,_,n+1+1,rfl,hf6.same s7,by omega,by omega,by omega,fun c Hx hc0 hc1 hfx ox=>?_⟩
    have hcl:c.toNat < ODD.length:=by omega
    refine i_ixR (v:=.str (S ODD[c.toNat])) (jn_ ((ox oa poa).trans eoa7)) (atI_of hc0 (by rw[List.getElem?_map,List.getElem?_eq_getElem hcl];rfl)) ?_
    have hx:=odd_th _ (List.getElem_mem hcl)
    generalize ODD[c.toNat]=x at hx ⊢
    have e1x:Hx t0=_:=(ox t0 pt0.symm).trans e07
    have eax:Hx a=_:=(ox a hap).trans (s7 _ _ ea6)
    have kx:=(k6.same s7).off ox
    have hfx:FeedAt Hx p (n+10):=hfx.mono (by omega)
    walk_at "go"
    intro t1 ht1
    have sx1:=jg_ ht1 (.lst [.str (S x)])
    have et1:=jb_ (H:=Hx) (a:=t1) (o:=.lst [.str (S x)])
    generalize upd Hx t1 (.lst [.str (S x)])=Hx1 at sx1 et1 ⊢
    walk_at "go"
    refine i_addL (sx1 _ _ e1x) et1 (szn (by rw[List.length_map,List.length_take];simp;omega)) fun t2 ht2=>?_
    have hmm1:((ls.take da).map fun l=>V.str (S l))++[V.str (S x)]=(ls.take da++[x]).map fun l=>V.str (S l):=by rw[List.map_append];rfl
    rw[hmm1]
    have sx2:=sx1.trans (jg_ ht2 (.lst ((ls.take da++[x]).map fun l=>V.str (S l))))
    have et2:=jb_ (H:=Hx1) (a:=t2) (o:=.lst ((ls.take da++[x]).map fun l=>V.str (S l)))
    generalize upd Hx1 t2 (.lst ((ls.take da++[x]).map fun l=>V.str (S l)))=Hx2 at sx2 et2 ⊢
    walk_at "go"
    refine i_slL (SqL.of (sx2 _ _ eax)) fun t3 ht3=>?_
    rw[cutV_eq,cutA_map,cut_from ls da hda]
    have sx3:=sx2.trans (jg_ ht3 (.lst ((ls.drop da).map fun l=>V.str (S l))))
    have et3:=jb_ (H:=Hx2) (a:=t3) (o:=.lst ((ls.drop da).map fun l=>V.str (S l)))
    have et23:=jg_ ht3 (.lst ((ls.drop da).map fun l=>V.str (S l))) _ _ et2
    generalize upd Hx2 t3 (.lst ((ls.drop da).map fun l=>V.str (S l)))=Hx3 at sx3 et3 et23 ⊢
    walk_at "go"
    refine i_addL et23 et3 (szn (by rw[List.length_map,List.length_map,List.length_append,List.length_take,List.length_drop];simp;omega)) fun t4 ht4=>?_
    have hmm2:((ls.take da++[x]).map fun l=>V.str (S l))++((ls.drop da).map fun l=>V.str (S l))=(ls.take da++[x]++ls.drop da).map fun l=>V.str (S l):=by rw[List.map_append (l₁:=ls.take da++[x])]
    rw[hmm2]
    have hf9:=hfx.same sx3
    have pt4:p≠t4:=by obtain⟨o,e⟩:=hf9.some;exact je_ e ht4
    walk_at "go"
    refine q t4 (ls.take da++[x]++ls.drop da) _ pt4.symm jb_ ?_ ?_ (hf9.new ht4) ((kx.same sx3).new ht4 _)
    ·rw[List.length_append,List.length_append,List.length_take,List.length_drop];simp;omega
    ·intro l hl
     rcases List.mem_append.mp hl with hl | hl
     ·rcases List.mem_append.mp hl with hl | hl
      ·exact hth l (List.mem_of_mem_take hl)
      ·have:l=x:=by simpa using hl
       rw[this];exact hx
     ·exact hth l (List.mem_of_mem_drop hl)
   ·walk_at "go"
    try rw[List.length_map]
    refine⟨p,_,n+1+1,rfl,hf6,by omega,by omega,by omega,fun c H7 hc0 hc1 hf7 o7=>?_⟩
    have hcl:c.toNat < ss.length:=by omega
    refine i_ixR (v:=.str (S ss[c.toNat])) (jn_ ((o7 r pr.symm).trans er6)) (atI_of hc0 (by rw[List.getElem?_map,List.getElem?_eq_getElem hcl];rfl)) ?_
    have hx0:=hss3 _ (List.getElem_mem hcl)
    generalize ss[c.toNat]=x0 at hx0 ⊢
    have ea7:H7 a=_:=(o7 a hap).trans ea6
    have enk7:H7 nk=_:=(o7 nk pnk.symm).trans enk6
    have k7:=k6.off o7
    have hf7:FeedAt H7 p (n+10):=hf7.mono (by omega)
    have hx0l:=hx0.2
    walk_at "go"
    refine iteD (fun cl=>?_) (fun cl=>?_)
    ·obtain⟨x,hxe⟩:∃ x:List Nat,x=[64,122,113]:=⟨_,rfl⟩
     have hx:Th1 x:=by rw[hxe];exact⟨by decide,by decide⟩
     walk_at "go"
     rw[← hxe]
     refine i_inR (jn_ enk7) ⟨rfl,flat_txt _⟩ ?_
     rw[in_txt,if_neg Bool.false_ne_true]
     refine⟨_,rfl,?_⟩
     refine iteB (fun ci=>?_) (fun ci=>?_)
     ·walk_at "go"
      exact q a ls H7 hap ea7 (by omega) hth hf7 k7
     ·walk_at "go"
      refine i_slL (SqL.of ea7) fun t0 ht0=>?_
      rw[cutV_eq,cutA_map,cut_to ls da hda]
      have s7:=jg_ ht0 (.lst ((ls.take da).map fun l=>V.str (S l)))
      have e1x:=jb_ (H:=H7) (a:=t0) (o:=.lst ((ls.take da).map fun l=>V.str (S l)))
      generalize upd H7 t0 (.lst ((ls.take da).map fun l=>V.str (S l)))=Hx at s7 e1x ⊢
      have eax:=s7 _ _ ea7
      have kx:=k7.same s7
      have hfx:=hf7.same s7
      walk_at "go"
      intro t1 ht1
      have sx1:=jg_ ht1 (.lst [.str (S x)])
      have et1:=jb_ (H:=Hx) (a:=t1) (o:=.lst [.str (S x)])
      generalize upd Hx t1 (.lst [.str (S x)])=Hx1 at sx1 et1 ⊢
      walk_at "go"
      refine i_addL (sx1 _ _ e1x) et1 (szn (by rw[List.length_map,List.length_take];simp;omega)) fun t2 ht2=>?_
      have hmm1:((ls.take da).map fun l=>V.str (S l))++[V.str (S x)]=(ls.take da++[x]).map fun l=>V.str (S l):=by rw[List.map_append];rfl
      rw[hmm1]
      have sx2:=sx1.trans (jg_ ht2 (.lst ((ls.take da++[x]).map fun l=>V.str (S l))))
      have et2:=jb_ (H:=Hx1) (a:=t2) (o:=.lst ((ls.take da++[x]).map fun l=>V.str (S l)))
      generalize upd Hx1 t2 (.lst ((ls.take da++[x]).map fun l=>V.str (S l)))=Hx2 at sx2 et2 ⊢
      walk_at "go"
      refine i_slL (SqL.of (sx2 _ _ eax)) fun t3 ht3=>?_
      rw[cutV_eq,cutA_map,cut_from ls da hda]
      have sx3:=sx2.trans (jg_ ht3 (.lst ((ls.drop da).map fun l=>V.str (S l))))
      have et3:=jb_ (H:=Hx2) (a:=t3) (o:=.lst ((ls.drop da).map fun l=>V.str (S l)))
      have et23:=jg_ ht3 (.lst ((ls.drop da).map fun l=>V.str (S l))) _ _ et2
      generalize upd Hx2 t3 (.lst ((ls.drop da).map fun l=>V.str (S l)))=Hx3 at sx3 et3 et23 ⊢
      walk_at "go"
      refine i_addL et23 et3 (szn (by rw[List.length_map,List.length_map,List.length_append,List.length_take,List.length_drop];simp;omega)) fun t4 ht4=>?_
      have hmm2:((ls.take da++[x]).map fun l=>V.str (S l))++((ls.drop da).map fun l=>V.str (S l))=(ls.take da++[x]++ls.drop da).map fun l=>V.str (S l):=by rw[List.map_append (l₁:=ls.take da++[x])]
      rw[hmm2]
      have hf9:=hfx.same sx3
      have pt4:p≠t4:=by obtain⟨o,e⟩:=hf9.some;exact je_ e ht4
      walk_at "go"
      refine q t4 (ls.take da++[x]++ls.drop da) _ pt4.symm jb_ ?_ ?_ (hf9.new ht4) ((kx.same sx3).new ht4 _)
      ·rw[List.length_append,List.length_append,List.length_take,List.length_drop];simp;omega
      ·intro l hl
       rcases List.mem_append.mp hl with hl | hl
       ·rcases List.mem_append.mp hl with hl | hl
        ·exact hth l (List.mem_of_mem_take hl)
        ·have:l=x:=by simpa using hl
         rw[this];exact hx
       ·exact hth l (List.mem_of_mem_drop hl)
    ·obtain⟨x,hxe⟩:∃ x:List Nat,x=x0:=⟨_,rfl⟩
     have hx:Th1 x:=by rw[hxe];exact hx0
     rw[← hxe]
     have hxl:=hx.2
     walk_at "go"
     refine i_inR (jn_ enk7) ⟨rfl,flat_txt _⟩ ?_
     rw[in_txt,if_neg Bool.false_ne_true]
     refine⟨_,rfl,?_⟩
     refine iteB (fun ci=>?_) (fun ci=>?_)
     ·walk_at "go"
      exact q a ls H7 hap ea7 (by omega) hth hf7 k7
     ·walk_at "go"
      refine i_slL (SqL.of ea7) fun t0 ht0=>?_
      rw[cutV_eq,cutA_map,cut_to ls da hda]
      have s7:=jg_ ht0 (.lst ((ls.take da).map fun l=>V.str (S l)))
      have e1x:=jb_ (H:=H7) (a:=t0) (o:=.lst ((ls.take da).map fun l=>V.str (S l)))
      generalize upd H7 t0 (.lst ((ls.take da).map fun l=>V.str (S l)))=Hx at s7 e1x ⊢
      have eax:=s7 _ _ ea7
      have kx:=k7.same s7
      have hfx:=hf7.same s7
      walk_at "go"
      intro t1 ht1
      have sx1:=jg_ ht1 (.lst [.str (S x)])
      have et1:=jb_ (H:=Hx) (a:=t1) (o:=.lst [.str (S x)])
      generalize upd Hx t1 (.lst [.str (S x)])=Hx1 at sx1 et1 ⊢
      walk_at "go"
      refine i_addL (sx1 _ _ e1x) et1 (szn (by rw[List.length_map,List.length_take];simp;omega)) fun t2 ht2=>?_
      have hmm1:((ls.take da).map fun l=>V.str (S l))++[V.str (S x)]=(ls.take da++[x]).map fun l=>V.str (S l):=by rw[List.map_append];rfl
      rw[hmm1]
      have sx2:=sx1.trans (jg_ ht2 (.lst ((ls.take da++[x]).map fun l=>V.str (S l))))
      have et2:=jb_ (H:=Hx1) (a:=t2) (o:=.lst ((ls.take da++[x]).map fun l=>V.str (S l)))
      generalize upd Hx1 t2 (.lst ((ls.take da++[x]).map fun l=>V.str (S l)))=Hx2 at sx2 et2 ⊢
      walk_at "go"
      refine i_slL (SqL.of (sx2 _ _ eax)) fun t3 ht3=>?_
      rw[cutV_eq,cutA_map,cut_from ls da hda]
      have sx3:=sx2.trans (jg_ ht3 (.lst ((ls.drop da).map fun l=>V.str (S l))))
      have et3:=jb_ (H:=Hx2) (a:=t3) (o:=.lst ((ls.drop da).map fun l=>V.str (S l)))
      have et23:=jg_ ht3 (.lst ((ls.drop da).map fun l=>V.str (S l))) _ _ et2
      generalize upd Hx2 t3 (.lst ((ls.drop da).map fun l=>V.str (S l)))=Hx3 at sx3 et3 et23 ⊢
      walk_at "go"
      refine i_addL et23 et3 (szn (by rw[List.length_map,List.length_map,List.length_append,List.length_take,List.length_drop];simp;omega)) fun t4 ht4=>?_
      have hmm2:((ls.take da++[x]).map fun l=>V.str (S l))++((ls.drop da).map fun l=>V.str (S l))=(ls.take da++[x]++ls.drop da).map fun l=>V.str (S l):=by rw[List.map_append (l₁:=ls.take da++[x])]
      rw[hmm2]
      have hf9:=hfx.same sx3
      have pt4:p≠t4:=by obtain⟨o,e⟩:=hf9.some;exact je_ e ht4
      walk_at "go"
      refine q t4 (ls.take da++[x]++ls.drop da) _ pt4.symm jb_ ?_ ?_ (hf9.new ht4) ((kx.same sx3).new ht4 _)
      ·rw[List.length_append,List.length_append,List.length_take,List.length_drop];simp;omega
      ·intro l hl
       rcases List.mem_append.mp hl with hl | hl
       ·rcases List.mem_append.mp hl with hl | hl
        ·exact hth l (List.mem_of_mem_take hl)
        ·have:l=x:=by simpa using hl
         rw[this];exact hx
       ·exact hth l (List.mem_of_mem_drop hl)
end
abbrev s_law_asked:Stmt:=top 56
theorem sc_law_asked:FnScope ["_law_tongues","_law_things_here","_law_width","_law_told","e","_law_kinds"] ["_law_tongues","_law_things_here","_law_width"] (jf_ s_law_asked):=⟨rfl,rfl,rfl,by decide +kernel,rfl,by decide +kernel,by decide +kernel⟩
def spAsked (C CT:Addr):Sp:=fun vs H Q _=>∃(tp td a:Addr) (kvs kws:List (Key×V)) (ms:List (List Nat×Bp)) (ls:List (List Nat)) (wd:Nat),vs=[.ref tp,.ref a,.int (wd:Int)]∧TgAt CT H tp td kvs∧TR C H kvs kws ms∧H a=some (.lst (ls.map fun l=>V.str (S l)))∧ls.length≤100∧(∀ l∈ls,Th1 l)∧wd≤1000 ∧
 ∀ v H',Same H H'→Is H' v (dueD (due ms ls))→Q v H'
section
variable {P:Program} {w:World} {K:PySem.W.Frag} {mg:Str→Option Value} {base:Heap} {f:Addr} {fd:FuncData} {tk:Nat→Tok} {cO cO2 mkT:Addr} {ad:Nat→Addr}
theorem Cs.ne (Z:Cs K mg ad) (i j:Nat) (hi:i < 8) (hj:j < 8) (h:i≠j):ad i≠ad j:=fun e=>by
 have nd:=Z.nd
 have h1:∀ k,k < 8→([ad 0,ad 1,ad 2,ad 3,ad 4,ad 5,ad 6,ad 7]:List Addr)[k]?=some (ad k):=fun k hk=>by
  match k,hk with
  | 0,_=>rfl
  | 1,_=>rfl
  | 2,_=>rfl
  | 3,_=>rfl
  | 4,_=>rfl
  | 5,_=>rfl
  | 6,_=>rfl
  | 7,_=>rfl
 exact h ((List.getElem?_inj (by show i < 8;exact hi) nd).mp (by rw[h1 i hi,h1 j hj,e]))
theorem ok_law_asked (T:Txt mg tk) (Z:Cs K mg ad) (F:Fun K "_law_asked" "_law_asked" s_law_asked f fd) (D_pieces:DnX P w K mg base "pieces" 6 ["tongues","text"] (spPiecesX cO cO2 (ad 3) (ad 6))) (D_pressed:DnX P w K mg base "pressed" 7 ["tongues","text","width"] (spPressX cO cO2 (ad 3) (ad 6) (ad 4))):FnOk P w K mg base CX0 8 f fd ["_law_tongues","_law_things_here","_law_width"] (spAsked cO cO2):=by
 refine F.ok sc_law_asked (fun vs H Q E h=>?_) (fun cdv A outer s H vs Q E hr h=>?_)
 ·obtain⟨tp,td,a,kvs,kws,ms,ls,wd,rfl,_⟩:=h
  rfl
 obtain⟨tp,td,a,kvs,kws,ms,ls,wd,rfl,hT,hR,ha,hll,hth,hwd,q⟩:=h
 have nd:=sc_law_asked.nd
 obtain⟨EXC,hX⟩:∃ EXC:St→XK,EXC=fun σ v od H'=>∃(e d t0:Addr) (C:Addr) (fl:List (Str×V)),v=.ref e∧od=some d∧σ[3]?=some (some (.ref t0))∧H' t0=some (.tup [.str (Str.ofString "told"),.non])∧H' e=some (XO e C (some d) false)∧H' d=some (.xd fl)∧Same H H' ∧
  ((C=ad 3∧∃ k:Nat,due ms ls=.thing k∧fl=[((Str.ofString "place":Str),.int (k:Int))])∨(C=ad 6∧∃ nm,due ms ls=.tongue nm∧fl=[((Str.ofString "name":Str),.str (S nm))])∨(C=ad 4∧due ms ls=.told)):=⟨_,rfl⟩
 have hEXC:∀ σ x od H',EXC σ (.ref x) od H'→∃ C,H' x=some (XO x C od false)∧Exc K (ad 0) C:=fun σ x od H' h=>by
  rw[hX] at h
  obtain⟨e,d,t0,C,fl,e1,rfl,_,_,h1,_,_,hc⟩:=h
  cases e1
  rcases hc with ⟨rfl,_⟩ | ⟨rfl,_⟩ | ⟨rfl,_⟩
  ·exact⟨ad 3,h1,Z.x_NoThing⟩
  ·exact⟨ad 6,h1,Z.x_NoTongue⟩
  ·exact⟨ad 4,h1,Z.x_TooNarrow⟩
 refine⟨_,(jc_ (jj_ (i:=3) nd rfl (Or.inl rfl) (pe_tup (ja_ pe_str (ja_ pe_non pa_nil))))
  (jc_ (ps_tryK (i:=4) (EX:=EXC) rfl rfl nd rfl rfl rfl Z.m_WordError Z.w_WordError hEXC (fun pn xe σs hxe=>(psat_if (jr_ (o_eq hr.units) (pv 2) pe_int (jy_ _)) (psat_expr (pa_callX D_pieces (hr.mono (by first | decide | omega)) rfl hxe (ja_ (pv 0) (ja_ (pv 1) pa_nil)))) (psat_expr (pa_callX D_pressed (hr.mono (by first | decide | omega)) rfl hxe (ja_ (pv 0) (ja_ (pv 1) (ja_ (pv 2) pa_nil)))))))
   (fun pn xe=>ju_)
   (fun xx=>(jc_ (jj_ (i:=5) nd rfl (Or.inl rfl) (j9_ (ja_ (jk_ (c_isiX (K:=K)) rfl T.z_isinstance (by decide +kernel) (ja_ (pv 4) (ja_ (pe_glob (v:=.ref _) rfl Z.m_NoThing rfl) pa_nil))) (ja_ (jk_ (c_isiX (K:=K)) rfl T.z_isinstance (by decide +kernel) (ja_ (pv 4) (ja_ (pe_glob (v:=.ref _) rfl Z.m_NoTongue rfl) pa_nil))) (ja_ (jk_ (c_isiX (K:=K)) rfl T.z_isinstance (by decide +kernel) (ja_ (pv 4) (ja_ (pe_glob (v:=.ref _) rfl Z.m_TooNarrow rfl) pa_nil))) pa_nil)))))
  (jh_ (j6_ (PW.pt (pw_or (pt_tru (jk_ (c_isiXT (K:=K)) rfl T.z_isinstance (by decide +kernel) (ja_ (pv 4) (ja_ (pe_tup (ja_ (pe_glob (v:=.ref _) rfl Z.m_NoPattern rfl) (ja_ (pe_glob (v:=.ref _) rfl Z.m_NoRow rfl) (ja_ (pe_glob (v:=.ref _) rfl Z.m_NoWord rfl) (ja_ (pe_glob (v:=.ref _) rfl Z.m_Twice rfl) pa_nil))))) pa_nil))) (fun _=>rfl)) (pw_or (jr_ (o_ne hr.units) (pe_bmK (K:=K) PySem.F.plainAttrs_list PySem.F.slot_list_count PySem.F.type_list_count m_count1 (pv 5) (ja_ pe_bl pa_nil)) pe_int (jy_ _)) (pw_or1 (pt_not (pt_tru (jk_ (c_isiX (K:=K)) rfl T.z_isinstance (by decide +kernel) (ja_ (pv 4) (ja_ (pe_bltn (v:=.ty "ValueError") rfl T.z_ValueError (by decide +kernel) rfl) pa_nil))) (fun _=>rfl)))))))
   (jh_ (jj_ (i:=3) nd rfl (Or.inl rfl) (pe_tup (ja_ pe_str (ja_ pe_non pa_nil)))))
   (jh_ (j6_ (pt_tru (j2_ (jw_ (K:=K)) (pv 5) pe_int (fun _ _=>rfl)) (fun _=>rfl))
   (jh_ (jj_ (i:=3) nd rfl (Or.inl rfl) (pe_tup (ja_ pe_str (ja_ (pe_fldX (K:=K) (pv 4) rfl) pa_nil)))))
   (jh_ (j6_ (pt_tru (j2_ (jw_ (K:=K)) (pv 5) pe_int (fun _ _=>rfl)) (fun _=>rfl))
   (jh_ (jj_ (i:=3) nd rfl (Or.inl rfl) (pe_tup (ja_ pe_str (ja_ (pe_fldX (K:=K) (pv 4) rfl) pa_nil)))))
   ju_)))))))))
  (jh_ (jo_ (pv 3))))),?_⟩
 rw[show L2.jz_ ["_law_tongues","_law_things_here","_law_width","_law_told","e","_law_kinds"] [.ref tp,.ref a,.int (wd:Int)]=[some (.ref tp),some (.ref a),some (.int (wd:Int)),none,none,none] from rfl]
 walk_at "go"
 intro t0 ht0
 have s1:=jg_ ht0 (.tup [.str (Str.ofString "told"),.non])
 have et0:=jb_ (H:=H) (a:=t0) (o:=.tup [.str (Str.ofString "told"),.non])
 generalize upd H t0 (.tup [.str (Str.ofString "told"),.non])=H1 at s1 et0 ⊢
 walk_at "go"
 have thr3:∀ e d H' (k:Nat),H' e=some (XO e (ad 3) (some d) false)→H' d=some (.xd [((Str.ofString "place":Str),.int (k:Int))])→Same H1 H'→due ms ls=.thing k→EXC [some (.ref tp),some (.ref a),some (.int (wd:Int)),some (.ref t0),none,none] (.ref e) (some d) H':=fun e d H' k h1 h2 s hk=>by
  rw[hX];exact⟨e,d,t0,ad 3,_,rfl,rfl,rfl,s _ _ et0,h1,h2,s1.trans s,.inl ⟨rfl,k,hk,rfl⟩⟩
 have thr6:∀ e d H' nm,H' e=some (XO e (ad 6) (some d) false)→H' d=some (.xd [((Str.ofString "name":Str),.str (S nm))])→Same H1 H'→due ms ls=.tongue nm→EXC [some (.ref tp),some (.ref a),some (.int (wd:Int)),some (.ref t0),none,none] (.ref e) (some d) H':=fun e d H' nm h1 h2 s hk=>by
  rw[hX];exact⟨e,d,t0,ad 6,_,rfl,rfl,rfl,s _ _ et0,h1,h2,s1.trans s,.inr (.inl ⟨rfl,nm,hk,rfl⟩)⟩
 have thr4:∀ e d H' (k:Nat),H' e=some (XO e (ad 4) (some d) false)→H' d=some (.xd [((Str.ofString "place":Str),.int (k:Int))])→Same H1 H'→due ms ls=.told→EXC [some (.ref tp),some (.ref a),some (.int (wd:Int)),some (.ref t0),none,none] (.ref e) (some d) H':=fun e d H' k h1 h2 s hk=>by
  rw[hX];exact⟨e,d,t0,ad 4,_,rfl,rfl,rfl,s _ _ et0,h1,h2,s1.trans s,.inr (.inr ⟨rfl,hk⟩)⟩
 have fin:∀ H',Same H1 H'→due ms ls=.told→Q (.ref t0) H':=fun H' s hd=>by
  refine q _ _ (s1.trans s) ?_
  rw[hd]
  unfold dueD
  simp only[Is,L2.IsL]
  exact⟨t0,_,rfl,s _ _ et0,rfl,rfl,trivial⟩
 refine i_tryK ?_ ?_
 ·walk_at "go"
  refine iteD (fun cc=>?_) (fun cc=>?_)
  ·walk_at "go"
   refine⟨tp,td,a,kvs,kws,ms,ls,rfl,hT.same s1,hR.same s1,s1 _ _ ha,hll,hth,fun k hk e d H' h1 h2 s=>thr3 e d H' k h1 h2 s hk,fun nm hk e d H' h1 h2 s=>thr6 e d H' nm h1 h2 s hk,fun hd r xs H' _ _ _ _ _ s=>?_⟩
   walk_at "go"
   exact fin H' s hd
  ·have hw1:1≤wd:=by
    rcases Nat.eq_zero_or_pos wd with rfl | h
    ·exact absurd rfl cc
    ·exact h
   walk_at "go"
   refine⟨tp,td,a,kvs,kws,ms,ls,wd,rfl,hT.same s1,hR.same s1,s1 _ _ ha,hll,hth,hw1,hwd,fun k hk e d H' h1 h2 s=>thr3 e d H' k h1 h2 s hk,fun nm hk e d H' h1 h2 s=>thr6 e d H' nm h1 h2 s hk,fun hk k e d H' h1 h2 s=>thr4 e d H' k h1 h2 s hk,fun hd r H' s=>?_⟩
   walk_at "go"
   exact fin H' s hd
 ·intro e od H' hE
  rw[hX] at hE
  obtain⟨e',d,t0',C,fl,e1,rfl,e2,et,h1,h2,s',hc⟩:=hE
  cases e1
  cases (show some (some (V.ref t0))=some (some (V.ref t0')) from e2)
  have hne:=Z.ne
  have hD:∀ d',some d=some d'→∃ fs,H' d'=some (.xd fs):=fun d' e=>by cases e;exact⟨_,h2⟩
  rcases hc with ⟨rfl,k,hdu,rfl⟩ | ⟨rfl,nm,hdu,rfl⟩ | ⟨rfl,hdu⟩
  ·walk_at "go"
   refine i_isiX h1 hD Z.x_NoThing (fun u h=>h) (kit_self Z.x_NoThing) ?_
   walk_at "go"
   refine i_isiX h1 hD Z.x_NoThing (fun u h=>h) (j7_ Z.x_NoThing Z.x_NoTongue (hne 3 6 (by decide) (by decide) (by decide)) (hne 6 0 (by decide) (by decide) (by decide))) ?_
   walk_at "go"
   refine i_isiX h1 hD Z.x_NoThing (fun u h=>h) (j7_ Z.x_NoThing Z.x_TooNarrow (hne 3 4 (by decide) (by decide) (by decide)) (hne 4 0 (by decide) (by decide) (by decide))) ?_
   walk_at "go"
   intro l5 hl5
   have s5:=jg_ hl5 (.lst [.bl true,.bl false,.bl false])
   have e5:=jb_ (H:=H') (a:=l5) (o:=.lst [.bl true,.bl false,.bl false])
   have h1:=s5 _ _ h1
   have h2:=s5 _ _ h2
   have et:=s5 _ _ et
   have s':=s'.trans s5
   generalize upd H' l5 (.lst [.bl true,.bl false,.bl false])=H5 at e5 h1 h2 et s' ⊢
   clear hD
   walk_at "go"
   intro t6 ht6
   have s6:=jg_ ht6 (.tup [.ref (ad 2),.ref (ad 7),.ref (ad 1),.ref (ad 5)])
   have e6:=jb_ (H:=H5) (a:=t6) (o:=.tup [.ref (ad 2),.ref (ad 7),.ref (ad 1),.ref (ad 5)])
   have h1:=s6 _ _ h1
   have h2:=s6 _ _ h2
   have et:=s6 _ _ et
   have e5:=s6 _ _ e5
   have s':=s'.trans s6
   generalize upd H5 t6 (.tup [.ref (ad 2),.ref (ad 7),.ref (ad 1),.ref (ad 5)])=H6 at e5 e6 h1 h2 et s' ⊢
   have hD:∀ d',some d=some d'→∃ fs,H6 d'=some (.xd fs):=fun d' e=>by cases e;exact⟨_,h2⟩
   walk_at "go"
   refine i_isiXT (cs:=[ad 2,ad 7,ad 1,ad 5]) e6 h1 hD Z.x_NoThing ?_ ?_
   ·intro c hc
    simp only[List.mem_cons,List.not_mem_nil,or_false] at hc
    rcases hc with rfl | rfl | rfl | rfl
    ·exact j7_ Z.x_NoThing Z.x_NoPattern (hne 3 2 (by decide) (by decide) (by decide)) (hne 2 0 (by decide) (by decide) (by decide))
    ·exact j7_ Z.x_NoThing Z.x_NoRow (hne 3 7 (by decide) (by decide) (by decide)) (hne 7 0 (by decide) (by decide) (by decide))
    ·exact j7_ Z.x_NoThing Z.x_NoWord (hne 3 1 (by decide) (by decide) (by decide)) (hne 1 0 (by decide) (by decide) (by decide))
    ·exact j7_ Z.x_NoThing Z.x_Twice (hne 3 5 (by decide) (by decide) (by decide)) (hne 5 0 (by decide) (by decide) (by decide))
   walk_at "go"
   refine i_countB (bs:=[true,false,false]) e5 ?_
   walk_at "go"
   try refine iteBF (by decide) ?_
   walk_at "go"
   refine i_isiX h1 hD Z.x_NoThing (fun u h=>h) (kit_ve Z.x_NoThing) ?_
   walk_at "go"
   try refine i_ixR (v:=.bl true) (jn_ e5) rfl ?_
   walk_at "go"
   refine i_fldX ?_
   walk_at "go"
   refine⟨e,ad 3,ad 0,d,false,_,.int (k:Int),rfl,h1,h2,Z.x_NoThing,Z.n_NoThing,rfl,?_⟩
   walk_at "go"
   intro t7 ht7
   have s7:=jg_ ht7 (.tup [.str (Str.ofString "thing"),.int (k:Int)])
   walk_at "go"
   refine q _ _ (s'.trans s7) ?_
   rw[hdu]
   unfold dueD
   simp only[Is,L2.IsL]
   exact⟨t7,_,rfl,jb_,rfl,rfl,trivial⟩
  ·walk_at "go"
   refine i_isiX h1 hD Z.x_NoTongue (fun u h=>h) (j7_ Z.x_NoTongue Z.x_NoThing (hne 6 3 (by decide) (by decide) (by decide)) (hne 3 0 (by decide) (by decide) (by decide))) ?_
   walk_at "go"
   refine i_isiX h1 hD Z.x_NoTongue (fun u h=>h) (kit_self Z.x_NoTongue) ?_
   walk_at "go"
   refine i_isiX h1 hD Z.x_NoTongue (fun u h=>h) (j7_ Z.x_NoTongue Z.x_TooNarrow (hne 6 4 (by decide) (by decide) (by decide)) (hne 4 0 (by decide) (by decide) (by decide))) ?_
   walk_at "go"
   intro l5 hl5
   have s5:=jg_ hl5 (.lst [.bl false,.bl true,.bl false])
   have e5:=jb_ (H:=H') (a:=l5) (o:=.lst [.bl false,.bl true,.bl false])
   have h1:=s5 _ _ h1
   have h2:=s5 _ _ h2
   have et:=s5 _ _ et
   have s':=s'.trans s5
   generalize upd H' l5 (.lst [.bl false,.bl true,.bl false])=H5 at e5 h1 h2 et s' ⊢
   clear hD
   walk_at "go"
   intro t6 ht6
   have s6:=jg_ ht6 (.tup [.ref (ad 2),.ref (ad 7),.ref (ad 1),.ref (ad 5)])
   have e6:=jb_ (H:=H5) (a:=t6) (o:=.tup [.ref (ad 2),.ref (ad 7),.ref (ad 1),.ref (ad 5)])
   have h1:=s6 _ _ h1
   have h2:=s6 _ _ h2
   have et:=s6 _ _ et
   have e5:=s6 _ _ e5
   have s':=s'.trans s6
   generalize upd H5 t6 (.tup [.ref (ad 2),.ref (ad 7),.ref (ad 1),.ref (ad 5)])=H6 at e5 e6 h1 h2 et s' ⊢
   have hD:∀ d',some d=some d'→∃ fs,H6 d'=some (.xd fs):=fun d' e=>by cases e;exact⟨_,h2⟩
   walk_at "go"
   refine i_isiXT (cs:=[ad 2,ad 7,ad 1,ad 5]) e6 h1 hD Z.x_NoTongue ?_ ?_
   ·intro c hc
    simp only[List.mem_cons,List.not_mem_nil,or_false] at hc
    rcases hc with rfl | rfl | rfl | rfl
    ·exact j7_ Z.x_NoTongue Z.x_NoPattern (hne 6 2 (by decide) (by decide) (by decide)) (hne 2 0 (by decide) (by decide) (by decide))
    ·exact j7_ Z.x_NoTongue Z.x_NoRow (hne 6 7 (by decide) (by decide) (by decide)) (hne 7 0 (by decide) (by decide) (by decide))
    ·exact j7_ Z.x_NoTongue Z.x_NoWord (hne 6 1 (by decide) (by decide) (by decide)) (hne 1 0 (by decide) (by decide) (by decide))
    ·exact j7_ Z.x_NoTongue Z.x_Twice (hne 6 5 (by decide) (by decide) (by decide)) (hne 5 0 (by decide) (by decide) (by decide))
   walk_at "go"
   refine i_countB (bs:=[false,true,false]) e5 ?_
   walk_at "go"
   try refine iteBF (by decide) ?_
   walk_at "go"
   refine i_isiX h1 hD Z.x_NoTongue (fun u h=>h) (kit_ve Z.x_NoTongue) ?_
   walk_at "go"
   try refine i_ixR (v:=.bl false) (jn_ e5) rfl ?_
   walk_at "go"
   try refine i_ixR (v:=.bl true) (jn_ e5) rfl ?_
   walk_at "go"
   refine i_fldX ?_
   walk_at "go"
   refine⟨e,ad 6,ad 0,d,false,_,.str (S nm),rfl,h1,h2,Z.x_NoTongue,Z.n_NoTongue,rfl,?_⟩
   walk_at "go"
   intro t7 ht7
   have s7:=jg_ ht7 (.tup [.str (Str.ofString "tongue"),.str (S nm)])
   walk_at "go"
   refine q _ _ (s'.trans s7) ?_
   rw[hdu]
   unfold dueD
   simp only[Is,L2.IsL]
   exact⟨t7,_,rfl,jb_,rfl,rfl,trivial⟩
  ·walk_at "go"
   refine i_isiX h1 hD Z.x_TooNarrow (fun u h=>h) (j7_ Z.x_TooNarrow Z.x_NoThing (hne 4 3 (by decide) (by decide) (by decide)) (hne 3 0 (by decide) (by decide) (by decide))) ?_
   walk_at "go"
   refine i_isiX h1 hD Z.x_TooNarrow (fun u h=>h) (j7_ Z.x_TooNarrow Z.x_NoTongue (hne 4 6 (by decide) (by decide) (by decide)) (hne 6 0 (by decide) (by decide) (by decide))) ?_
   walk_at "go"
   refine i_isiX h1 hD Z.x_TooNarrow (fun u h=>h) (kit_self Z.x_TooNarrow) ?_
   walk_at "go"
   intro l5 hl5
   have s5:=jg_ hl5 (.lst [.bl false,.bl false,.bl true])
   have e5:=jb_ (H:=H') (a:=l5) (o:=.lst [.bl false,.bl false,.bl true])
   have h1:=s5 _ _ h1
   have h2:=s5 _ _ h2
   have et:=s5 _ _ et
   have s':=s'.trans s5
   generalize upd H' l5 (.lst [.bl false,.bl false,.bl true])=H5 at e5 h1 h2 et s' ⊢
   clear hD
   walk_at "go"
   intro t6 ht6
   have s6:=jg_ ht6 (.tup [.ref (ad 2),.ref (ad 7),.ref (ad 1),.ref (ad 5)])
   have e6:=jb_ (H:=H5) (a:=t6) (o:=.tup [.ref (ad 2),.ref (ad 7),.ref (ad 1),.ref (ad 5)])
   have h1:=s6 _ _ h1
   have h2:=s6 _ _ h2
   have et:=s6 _ _ et
   have e5:=s6 _ _ e5
   have s':=s'.trans s6
   generalize upd H5 t6 (.tup [.ref (ad 2),.ref (ad 7),.ref (ad 1),.ref (ad 5)])=H6 at e5 e6 h1 h2 et s' ⊢
   have hD:∀ d',some d=some d'→∃ fs,H6 d'=some (.xd fs):=fun d' e=>by cases e;exact⟨_,h2⟩
   walk_at "go"
   refine i_isiXT (cs:=[ad 2,ad 7,ad 1,ad 5]) e6 h1 hD Z.x_TooNarrow ?_ ?_
   ·intro c hc
    simp only[List.mem_cons,List.not_mem_nil,or_false] at hc
    rcases hc with rfl | rfl | rfl | rfl
    ·exact j7_ Z.x_TooNarrow Z.x_NoPattern (hne 4 2 (by decide) (by decide) (by decide)) (hne 2 0 (by decide) (by decide) (by decide))
    ·exact j7_ Z.x_TooNarrow Z.x_NoRow (hne 4 7 (by decide) (by decide) (by decide)) (hne 7 0 (by decide) (by decide) (by decide))
    ·exact j7_ Z.x_TooNarrow Z.x_NoWord (hne 4 1 (by decide) (by decide) (by decide)) (hne 1 0 (by decide) (by decide) (by decide))
    ·exact j7_ Z.x_TooNarrow Z.x_Twice (hne 4 5 (by decide) (by decide) (by decide)) (hne 5 0 (by decide) (by decide) (by decide))
   walk_at "go"
   refine i_countB (bs:=[false,false,true]) e5 ?_
   walk_at "go"
   try refine iteBF (by decide) ?_
   walk_at "go"
   refine i_isiX h1 hD Z.x_TooNarrow (fun u h=>h) (kit_ve Z.x_TooNarrow) ?_
   walk_at "go"
   try refine i_ixR (v:=.bl false) (jn_ e5) rfl ?_
   walk_at "go"
   try refine i_ixR (v:=.bl false) (jn_ e5) rfl ?_
   walk_at "go"
   refine q _ _ s' ?_
   rw[hdu]
   unfold dueD
   simp only[Is,L2.IsL]
   exact⟨t0,_,rfl,et,rfl,rfl,trivial⟩
end
abbrev s_law:Stmt:=top 57
theorem sc_law:FnScope ["_law_script","_law_cell","_law_feed_here","_law_letters_here","_law_words","_law_some_here","_law_tongues","_law_things_here","_law_k","_law_due_here","_law_width","_law_handed"] ["_law_script"] (jf_ s_law):=⟨rfl,rfl,rfl,by decide +kernel,rfl,by decide +kernel,by decide +kernel⟩
def spTgN (CT:Addr):Sp:=fun vs H Q _=>∃(tp td:Addr) (kvs:List (Key×V)) (ss:List Str),vs=[.ref tp]∧TgAt CT H tp td kvs∧kvs.map (·.1)=ss.map Sum.inr∧ss.length < 64 ∧
 ∀(q:Addr) (ms:List Str) (H':Hp),H q=none→ms.Perm ss→PyProof.Rows.sortedS ms=true→H' q=some (.lst (ms.map V.str))→Same H H'→Q (.ref q) H'
def spLaw (K:PySem.W.Frag):Sp:=fun vs H Q _=>∃(a:Addr) (ns:List Int),vs=[.ref a]∧SqL K H a (ns.map V.int)∧ns.length≤63∧∀ H',Q (.bl true) H'
theorem isL_strs {H:Hp}:∀ ss:List Str,L2.IsL H (ss.map V.str) (ss.map Dt.str)
 | []=>by simp only[List.map_nil,L2.IsL]
 | s::ss=>by simp only[List.map_cons,L2.IsL,Is];exact⟨by first | rfl | trivial,isL_strs ss⟩
theorem depL_strs:∀ ss:List Str,depL (ss.map Dt.str)=0
 | []=>rfl
 | x::ns=>by simp only[List.map_cons,depL,dep,depL_strs ns];rfl
theorem widL_strs:∀ ss:List Str,widL (ss.map Dt.str)=0
 | []=>rfl
 | x::ns=>by simp only[List.map_cons,widL,wid,widL_strs ns];rfl
theorem dueD_only (r:R3):tOnly (dueD r)=true:=by cases r <;> rfl
theorem dueD_dep (r:R3):dep (dueD r) < 6:=by
 cases r <;> (simp only[dueD,dep,depL];decide)
theorem dueD_wid (r:R3):wid (dueD r)≤100000:=by
 cases r <;> (simp only[dueD,wid,widL];simp)
theorem ThOk.th1 {ms:List (List Nat×Bp)} {l:List Nat} (h:ThOk ms l):Th1 l:=⟨th_low h,by have:=h.thing.1;omega⟩
theorem isTxt {ls:List (List Nat)} {H:Hp} {b:Addr} (e:H b=some (.lst (ls.map fun l=>V.str (S l)))):Is H (.ref b) (.lst (ls.map fun l=>Dt.str (S l))):=by
 simp only[Is]
 refine⟨b,_,rfl,e,?_⟩
 clear e
 induction ls with
 | nil=>simp only[List.map_nil,L2.IsL]
 | cons x ls ih=>simp only[List.map_cons,L2.IsL,Is];exact⟨by first | rfl | trivial,ih⟩
section
variable {P:Program} {w:World} {K:PySem.W.Frag} {mg:Str→Option Value} {base:Heap} {f:Addr} {fd:FuncData} {tk:Nat→Tok} {cO cO2 mkT:Addr}
theorem ok_Tongues_names (T:Txt mg tk) (O2:Ow2 K mg cO2) (F:Fun K "names" "Tongues.names" s_Tongues_names f fd):FnOk P w K mg base CX0 1 f fd ["self"] (spTgN cO2):=by
 refine F.ok sc_Tongues_names (fun vs H Q E h=>?_) (fun cdv A outer s H vs Q E hr h=>?_)
 ·obtain⟨tp,td,kvs,ss,rfl,_⟩:=h
  rfl
 obtain⟨tp,td,kvs,ss,rfl,hT,hk,hl,q⟩:=h
 obtain⟨dxt,t1,t2⟩:=id hT
 have nd:=sc_Tongues_names.nd
 refine⟨_,(jh_ (jo_ (jk_ (c_sortD rfl) rfl T.z_sorted (by decide +kernel) (ja_ (pe_fld (pv 0) rfl) pa_nil)))),?_⟩
 rw[show L2.jz_ ["self"] [.ref tp]=[some (.ref tp)] from rfl]
 walk_at "go"
 refine i_fldE ?_
 walk_at "go"
 refine i_fld1 t1 O2.cl O2.n_breakers rfl ?_
 walk_at "go"
 refine sortDS t2 hk hl fun r ms hr0 hp hs=>?_
 walk_at "go"
 exact q r ms _ hr0 hp hs jb_ (jg_ hr0 _)
theorem ok_law (T:Txt mg tk) (O2:Ow2 K mg cO2) (O:Ow K mg cO) (F:Fun K "law" "law" s_law f fd) (D_law_feed:Dn P w K mg base "_law_feed" 1 ["_law_script","_law_k"] (spFeed K)) (D_law_next:Dn P w K mg base "_law_next" 1 ["_law_feed_here","_law_many"] spNext) (D_law_alike:Dn P w K mg base "_law_alike" 6 ["_law_found","_law_due_here"] (spAlike 6)) (D_law_letters:Dn P w K mg base "_law_letters" 2 ["_law_feed_here"] spLetters) (D_law_six:Dn P w K mg base "_law_six" 3 ["_law_feed_here","_law_letters_here"] spSix) (D_law_some:Dn P w K mg base "_law_some" 5 ["_law_feed_here","_law_letters_here","_law_words"] spSome) (D_law_made:Dn P w K mg base "_law_made" 6 ["_law_some_here"] (spMadeT cO cO2)) (D_law_things:Dn P w K mg base "_law_things" 3 ["_law_feed_here","_law_some_here","_law_words","_law_letters_here"] spThings) (D_law_spoilt:Dn P w K mg base "_law_spoilt" 2 ["_law_feed_here","_law_some_here","_law_things_here"] spSpoilt) (D_law_due:Dn P w K mg base "_law_due" 3 ["_law_some_here","_law_things_here"] spDue) (D_law_asked:Dn P w K mg base "_law_asked" 8 ["_law_tongues","_law_things_here","_law_width"] (spAsked cO cO2)) (D_Tongues_names:Dm P w K mg base cO2 "names" 1 ["self"] (spTgN cO2)):FnOk P w K mg base CX0 9 f fd ["_law_script"] (spLaw K):=by
 refine F.ok sc_law (fun vs H Q E h=>?_) (fun cdv A outer s H vs Q E hr h=>?_)
 ·obtain⟨a,ns,rfl,_⟩:=h
  rfl
 obtain⟨a,ns,rfl,hS,hlen,q⟩:=h
 have nd:=sc_law.nd
 refine⟨_,(jc_ (ps_for PassesOwn.never rfl (pi_any (K:=K) (jp_ j0_ (j9_ (ja_ pe_int pa_nil)) (js_ (j4_ (K:=K)) (pv 0) j1_ (jv_ pe_int)))) (jq_ (i:=1) nd rfl (Or.inl rfl))
   (jc_ (jj_ (i:=2) nd rfl (Or.inl rfl) (ji_ D_law_feed (hr.mono (by first | decide | omega)) rfl (ja_ (j9_ (ja_ (pv 1) pa_nil)) (ja_ pe_int pa_nil))))
  (jc_ (jj_ (i:=3) nd rfl (Or.inl rfl) (ji_ D_law_letters (hr.mono (by first | decide | omega)) rfl (ja_ (pv 2) pa_nil)))
  (jc_ (jj_ (i:=4) nd rfl (Or.inl rfl) (ji_ D_law_six (hr.mono (by first | decide | omega)) rfl (ja_ (pv 2) (ja_ (pv 3) pa_nil))))
  (jc_ (jj_ (i:=5) nd rfl (Or.inl rfl) (ji_ D_law_some (hr.mono (by first | decide | omega)) rfl (ja_ (pv 2) (ja_ (pv 3) (ja_ (pv 4) pa_nil)))))
  (jc_ (jj_ (i:=6) nd rfl (Or.inl rfl) (ji_ D_law_made (hr.mono (by first | decide | omega)) rfl (ja_ (pv 5) pa_nil)))
  (jc_ (jj_ (i:=7) nd rfl (Or.inl rfl) (ji_ D_law_things (hr.mono (by first | decide | omega)) rfl (ja_ (pv 2) (ja_ (pv 5) (ja_ (pv 4) (ja_ (pv 3) pa_nil))))))
  (jc_ (ps_for PassesOwn.never rfl (pi_range1 rfl T.z_range (ja_ (jp_ j0_ pe_int (ji_ D_law_next (hr.mono (by first | decide | omega)) rfl (ja_ (pv 2) (ja_ pe_int pa_nil)))) pa_nil)) (jq_ (i:=8) nd rfl (Or.inl rfl))
   (jh_ (jj_ (i:=7) nd rfl (Or.inl rfl) (ji_ D_law_spoilt (hr.mono (by first | decide | omega)) rfl (ja_ (pv 2) (ja_ (pv 5) (ja_ (pv 7) pa_nil)))))))
  (jc_ (jj_ (i:=9) nd rfl (Or.inl rfl) (ji_ D_law_due (hr.mono (by first | decide | omega)) rfl (ja_ (pv 5) (ja_ (pv 7) pa_nil))))
  (jc_ (ps_for PassesOwn.never rfl (pi_any (K:=K) (j9_ (ja_ pe_int (ja_ (jp_ j0_ pe_int (ji_ D_law_next (hr.mono (by first | decide | omega)) rfl (ja_ (pv 2) (ja_ pe_int pa_nil)))) pa_nil)))) (jq_ (i:=10) nd rfl (Or.inl rfl))
   (jc_ (jj_ (i:=11) nd rfl (Or.inl rfl) (pe_callTy c_list rfl T.z_list (by decide +kernel) (ja_ (pv 7) pa_nil)))
  (jh_ (j6_ (PW.pt (pw_or (pt_not (pt_tru (ji_ D_law_alike (hr.mono (by first | decide | omega)) rfl (ja_ (ji_ D_law_asked (hr.mono (by first | decide | omega)) rfl (ja_ (pv 6) (ja_ (pv 11) (ja_ (pv 10) pa_nil)))) (ja_ (pv 9) pa_nil))) (fun _=>rfl))) (pw_or1 (jr_ (o_ne hr.units) (pv 11) (pv 7) (jy_ _)))))
   (jh_ (jo_ pe_bl))
   ju_))))
  (jh_ (j6_ (pt_not (pt_tru (ji_ D_law_alike (hr.mono (by first | decide | omega)) rfl (ja_ (pe_methD0 (pv 6) O2.cl D_Tongues_names (hr.mono (by first | decide | omega))) (ja_ (jk_ (c_sortD rfl) rfl T.z_sorted (by decide +kernel) (ja_ (pv 5) pa_nil)) pa_nil))) (fun _=>rfl)))
   (jh_ (jo_ pe_bl))
   ju_))))))))))))
  (jh_ (jo_ pe_bl))),?_⟩
 rw[show L2.jz_ ["_law_script","_law_cell","_law_feed_here","_law_letters_here","_law_words","_law_some_here","_law_tongues","_law_things_here","_law_k","_law_due_here","_law_width","_law_handed"] [.ref a]=[some (.ref a),none,none,none,none,none,none,none,none,none,none,none] from rfl]
 walk_at "go"
 intro l0 hl0
 have s10:=jg_ hl0 (.lst [.int 0])
 have el0:=jb_ (H:=H) (a:=l0) (o:=.lst [.int 0])
 have hS10:=s10.seq hS
 generalize upd H l0 (.lst [.int 0])=H10 at s10 el0 hS10 ⊢
 walk_at "go"
 refine i_slL hS10 fun l1 hl1'=>?_
 have s11:=jg_ hl1' (.lst (cutV (ns.map V.int) none (some 30)))
 have el1:=jb_ (H:=H10) (a:=l1) (o:=.lst (cutV (ns.map V.int) none (some 30)))
 have el01:=s11 _ _ el0
 generalize upd H10 l1 (.lst (cutV (ns.map V.int) none (some 30)))=H11 at s11 el1 el01 ⊢
 obtain⟨cs,hcs,hcl⟩:∃ cs:List Int,cutV (ns.map V.int) none (some 30)=cs.map V.int∧cs.length≤63:=⟨cutA ns none (some 30),by rw[cutV_eq,cutA_map],by have:=cut_le ns none (some 30);omega⟩
 rw[hcs] at el1
 refine i_addL el01 el1 (szn (by rw[List.length_map];simp;omega)) fun l2 hl2'=>?_
 have s12:=jg_ hl2' (.lst ([V.int 0]++cs.map V.int))
 have el2:=jb_ (H:=H11) (a:=l2) (o:=.lst ([V.int 0]++cs.map V.int))
 generalize upd H11 l2 (.lst ([V.int 0]++cs.map V.int))=H12 at s12 el2 ⊢
 have hint:∀ i x,([V.int 0]++cs.map V.int)[i]?=some x→∃ c:Int,x=V.int c:=fun i x hx=>by
  have hm:=List.mem_of_getElem? hx
  rcases List.mem_append.mp hm with h | h
  ·exact⟨0,by simpa using h⟩
  ·obtain⟨c,_,rfl⟩:=List.mem_map.mp h
   exact⟨c,rfl⟩
 walk_at "go"
 try refine i_anyL (SqL.of el2) ?_
 refine for_list (K:=K) (xs:=[V.int 0]++cs.map V.int) (fun i σ H'=>∃(v1 v2 v3 v4 v5 v6 v7 v8 v9 v10 v11:Option V),σ=[some (.ref a),v1,v2,v3,v4,v5,v6,v7,v8,v9,v10,v11]∧Same H12 H')
  ⟨none,none,none,none,none,none,none,none,none,none,none,rfl,Same.refl _⟩ (fun i σ H' _ ⟨_,_,_,_,_,_,_,_,_,_,_,_,s⟩=>SqL.of (s _ _ el2)) ?_ ?_
 ·rintro i x σ Ha hx ⟨v1,v2,v3,v4,v5,v6,v7,v8,v9,v10,v11,rfl,sa⟩
  obtain⟨c,rfl⟩:=hint i x hx
  clear s10 el0 hS10 s11 el1 el01 s12 hcs hcl hint hl0 hl1' hl2' hx
  walk_at "go"
  intro lc hlc
  have sb:=jg_ hlc (.lst [.int c])
  have elc:=jb_ (H:=Ha) (a:=lc) (o:=.lst [.int c])
  generalize upd Ha lc (.lst [.int c])=Hb at sb elc ⊢
  walk_at "go"
  refine⟨lc,[c],0,rfl,SqL.of elc,by decide,by decide,fun p H1 hp0 hf1 o1=>?_⟩
  have sH:∀ H',Kept p H1 H'→Same H12 H':=fun H' k b u e=>by
   have e':=sb _ _ (sa _ _ e)
   exact k b u (je_ e' hp0) ((o1 b (je_ e' hp0)).trans e')
  walk_at "go"
  refine⟨p,0,rfl,hf1,by decide,fun l H2 hl hl1 hl2 hf2 o2=>?_⟩
  walk_at "go"
  refine⟨p,0+3,l,rfl,hf2,by decide,hl,by omega,hl2,fun wa ws H3 ewa hws hgw hf3 k3 hwp=>?_⟩
  walk_at "go"
  refine⟨p,0+3+400,l,wa,ws,rfl,hf3,by decide,hl,by omega,hl2,ewa,hws,hgw,hwp,fun sd kws ms H4 hsd hsp esd hPR hnd hm1 hm2 hgn hodd hf4 k4=>?_⟩
  have k14:=(o2.kept.trans k3).trans k4
  have ewa4:=k4 _ _ hwp ewa
  obtain⟨z1,z2,z3,ezp⟩:=FeedAt.ex hf4
  walk_at "go"
  refine⟨sd,kws,ms,[p,sd],rfl,esd,by simp,fun b hb=>?_,hPR,hnd,by omega,fun tp td kvs H5 htp htd tg hTR s5=>?_⟩
  ·have:b=p∨b=sd:=by simpa using hb
   rcases this with rfl | rfl
   ·exact⟨_,ezp,fun zs z=>nomatch z⟩
   ·exact⟨_,esd,fun zs z=>nomatch z⟩
  have ewa5:=s5 _ _ ewa4
  have esd5:=s5 _ _ esd
  have hf5:FeedAt H5 p (0+3+400+30000):=FeedAt.same hf4 s5
  have k15:=k14.same s5
  have hkeys:=(hTR.keys).2
  have hkeys1:=(hTR.keys).1
  have hnames:=hTR.names
  have tdp:td≠p:=fun z=>by rw[z,ezp] at htd;cases htd
  have tpp:tp≠p:=fun z=>by rw[z,ezp] at htp;cases htp
  have tgK:∀ H',Kept p H5 H'→TgAt cO2 H' tp td kvs:=fun H' k=>by
   obtain⟨dxt,t1,t2⟩:=tg
   exact⟨dxt,k _ _ tpp t1,k _ _ tdp t2⟩
  have trK:∀ H',Kept p H5 H'→TR cO H' kvs kws ms:=fun H' k=>(hTR.same (offH_mono (D':=td::[p,sd]) fun b o hb e=>⟨hb,k b o (fun z=>hb (by simp[z])) e⟩)).same (offH_sub _ _)
  clear k3 hf3 ewa o2 hf2 hf1 hPR ezp k4 k14 hf4 ewa4 esd htp htd s5 hTR tg elc
  walk_at "go"
  refine⟨p,sd,wa,0+3+400+30000,l,ws,kws,ms,rfl,hf5,by decide,hl,by omega,hl2,ewa5,hws,hgw,hwp,esd5,hkeys,hm1,by omega,hgn,fun r ls H6 hr hrp er hll hX hf6 k6=>?_⟩
  have hth:∀ l∈ls,Th1 l:=fun l hl=>(hX.1 l hl).th1
  clear hX hr
  walk_at "go"
  refine⟨p,3,0+3+400+30000+5000,rfl,hf6,by decide,by decide,by decide,fun d H7 hd0 hd1 hf7 o7=>?_⟩
  have k57:=k6.off o7
  have er7:H7 r=_:=(o7 r hrp).trans er
  walk_at "go"
  refine for_range (fun j σ H'=>∃(v8:Option V) (r:Addr) (ls:List (List Nat)),σ=[some (.ref a),some (.int c),some (.ref p),some (.str (S l)),some (.ref wa),some (.ref sd),some (.ref tp),some (.ref r),v8,v9,v10,v11]∧H' r=some (.lst (ls.map fun l=>V.str (S l)))∧r≠p∧ls.length≤20+j∧(∀ l∈ls,Th1 l)∧FeedAt H' p (0+3+400+30000+5000+1+10 * j)∧Kept p H5 H')
   ⟨v8,r,ls,rfl,er7,hrp,by omega,hth,hf7,k57⟩ ?_ ?_
  ·clear er7 hrp hll hth hf7 k57 o7 hf6 k6 er
   clear r ls
   rintro j σ H8 hj ⟨v8,r,ls,rfl,er,hrp,hll,hth,hf8,k8⟩
   have hj3:j < 3:=by omega
   walk_at "go"
   refine⟨p,sd,r,0+3+400+30000+5000+1+10 * j,kws,ms,ls,rfl,hf8,Nat.lt_of_le_of_lt (show _≤50000 by omega) (by decide),k8 _ _ hsp esd5,hkeys,hm1,hm2,hgn,hodd,er,hrp,by omega,hth,fun r' ls' H9 hrp' er' hll' hth' hf9 k9=>?_⟩
   walk_at "go"
   exact⟨_,r',ls',rfl,er',hrp',by omega,hth',hf9,k8.trans k9⟩
  ·clear er7 hrp hll hth hf7 k57 o7 hf6 k6 er
   clear r ls
   rintro σ H8 ⟨v8,r,ls,rfl,er,hrp,hll,hth,hf8,k8⟩
   have hf8:FeedAt H8 p 50000:=hf8.mono (by omega)
   have hll:ls.length≤50:=by omega
   walk_at "go"
   refine⟨sd,r,kws,ms,ls,rfl,k8 _ _ hsp esd5,hnames,er,by omega,hth,fun dv H9 s9 hdv=>?_⟩
   have hf9:=hf8.same s9
   have k9:=k8.same s9
   have er9:=s9 _ _ er
   walk_at "go"
   refine⟨p,199,50000,rfl,hf9,by decide,by decide,by decide,fun d2 H10 hd20 hd21 hf10 o10=>?_⟩
   have hdv10:Is H10 dv (dueD (due ms ls)):=Is.tk (fun b zs e=>by
    have hb:b≠p:=fun z=>by
     obtain⟨_,_,_,ez⟩:=FeedAt.ex hf9
     rw[z,ez] at e;cases e
    exact(o10 b hb).trans e) (dueD_only _) hdv
   have k10:=k9.off o10
   have er10:H10 r=_:=(o10 r hrp).trans er9
   obtain⟨wd,hwd⟩:∃ wd:Nat,2+d2=(wd:Int):=⟨(2+d2).toNat,by omega⟩
   have hwl:wd≤1000:=by omega
   walk_at "go"
   rw[hwd]
   intro wl hwl0
   have s11:=jg_ hwl0 (.lst [.int 0,.int (wd:Int)])
   have ewl:=jb_ (H:=H10) (a:=wl) (o:=.lst [.int 0,.int (wd:Int)])
   generalize upd H10 wl (.lst [.int 0,.int (wd:Int)])=H11 at s11 ewl ⊢
   have hdv:=Is.same s11 hdv10
   have tg:=tgK _ (k10.same s11)
   have tr:=trK _ (k10.same s11)
   have er:=s11 _ _ er10
   have esd:=(k10.same s11) _ _ hsp esd5
   have s12:=sH _ ((k15.trans k10).same s11)
   have okl:okD (.lst (ls.map fun l=>Dt.str (S l))):=(Lay.lst (n:=0) fun d hd=>by
    obtain⟨l,hl,rfl⟩:=List.mem_map.mp hd
    exact Lay.str (hth l hl).1).ok (by decide)
   clear hdv10 er10 er9 hf9 hf8 hf10 o10 k9 k10 k8 s9 s11 hwl0 hd20 hd21 hwd
   walk_at "go"
   try refine i_anyL (SqL.of ewl) ?_
   refine for_list (K:=K) (xs:=[V.int 0,.int (wd:Int)]) (fun j σ H'=>∃(v10 v11:Option V),σ=[some (.ref a),some (.int c),some (.ref p),some (.str (S l)),some (.ref wa),some (.ref sd),some (.ref tp),some (.ref r),v8,some dv,v10,v11]∧Same H11 H')
    ⟨v10,v11,rfl,Same.refl _⟩ (fun i σ H' _ ⟨_,_,_,s⟩=>SqL.of (s _ _ ewl)) ?_ ?_
   ·rintro j x σ Hc hx ⟨v10,v11,rfl,sc⟩
    obtain⟨wd',rfl,hwl'⟩:∃ wd':Nat,x=V.int (wd':Int)∧wd'≤1000:=by
     have hm:=List.mem_of_getElem? hx
     simp only[List.mem_cons,List.not_mem_nil,or_false] at hm
     rcases hm with rfl | rfl
     ·exact⟨0,rfl,by decide⟩
     ·exact⟨wd,rfl,hwl⟩
    walk_at "go"
    refine i_listR (jn_ (sc _ _ er)) fun hd hhd=>?_
    have sd1:=jg_ hhd (.lst (ls.map fun l=>V.str (S l)))
    have ehd:=jb_ (H:=Hc) (a:=hd) (o:=.lst (ls.map fun l=>V.str (S l)))
    generalize upd Hc hd (.lst (ls.map fun l=>V.str (S l)))=Hd at sd1 ehd ⊢
    have sd:=sc.trans sd1
    walk_at "go"
    refine⟨tp,td,hd,kvs,kws,ms,ls,wd',rfl,tg.same sd,tr.same sd,ehd,by omega,hth,hwl',fun av He se hav=>?_⟩
    have s0e:=sd.trans se
    walk_at "go"
    refine⟨av,dv,dueD (due ms ls),rfl,hav,Is.same s0e hdv,dueD_dep _,dueD_wid _,fun Hf sf=>?_⟩
    walk_at "go"
    refine i_neD (d:=.lst (ls.map fun l=>Dt.str (S l))) (isTxt (sf _ _ (se _ _ ehd))) (isTxt (sf _ _ (s0e _ _ er))) okl ?_
    walk_at "go"
    exact⟨_,_,rfl,s0e.trans sf⟩
   ·rintro σ Hc ⟨v10,v11,rfl,sc⟩
    have tgc:=tg.same sc
    obtain⟨dxt,t1,t2⟩:=id tgc
    walk_at "go"
    refine i_meth ?_
    walk_at "go"
    refine i_self t1 rfl ?_
    refine⟨tp,td,kvs,_,rfl,tgc,hkeys1,by rw[List.length_map];omega,fun fo m1 Hd hfo hp1 hs1 efo s1=>?_⟩
    walk_at "go"
    refine sortDS (s1 _ _ (sc _ _ esd)) hkeys (by rw[List.length_map];omega) fun so m2 hso hp2 hs2=>?_
    have s2:=jg_ hso (.lst (m2.map V.str))
    have eso:=jb_ (H:=Hd) (a:=so) (o:=.lst (m2.map V.str))
    have efo2:=s2 _ _ efo
    generalize upd Hd so (.lst (m2.map V.str))=He at s2 eso efo2 ⊢
    have e:=sortedS_one hp1 hp2 hs1 hs2
    subst e
    walk_at "go"
    refine⟨_,_,.lst (m1.map Dt.str),rfl,?_,?_,?_,?_,fun Hf sf=>?_⟩
    ·simp only[Is];exact⟨fo,_,rfl,efo2,isL_strs _⟩
    ·simp only[Is];exact⟨so,_,rfl,eso,isL_strs _⟩
    ·simp only[dep,depL_strs];decide
    ·simp only[wid,widL_strs];rw[List.length_map,hp1.length_eq,List.length_map];omega
    walk_at "go"
    exact⟨_,_,_,_,_,_,_,_,_,_,_,rfl,(((s12.trans sc).trans s1).trans s2).trans sf⟩
 ·rintro σ Ha ⟨v1,v2,v3,v4,v5,v6,v7,v8,v9,v10,v11,rfl,sa⟩
  walk_at "go"
  exact q Ha
end
theorem all_mk {l:PySem.W.OpenLaw} {w:World} {K:PySem.W.Frag} {h:Heap} {mg:Str→Option Value} {fa f3 f4 f5 f6 f7 f8 f9 f10 f11 f12 f13 f14 f15 f16 f17 f18 f19 f20 f21 f22 f23 f24 f25 f26 f27 f28 f29 f30 f31 f32 f33 f34 f35 f36 f37 f38 f39 f40 f41 f42 f43 f44:Addr} (X:K.In h) (G:h.Ns mainGlobals mg) (hfa:mg "law"=some (.ref fa))
  {c0:Addr} {nm0 q0:Str} {N0:Addr} {bs0 sub0:List Value} {hd0 ab0:Bool} {sn0:List Str} {col0:Option Bool} {dd0:Option Addr} {u0a u0b u0c u0d u0e:Option Value} {nw0:String}
  (aC0:PySem.W.nsIn K mainGlobals "WordError"=some (some (.ref c0))) (oC0:K.lookup c0=some (excClassObj nm0 q0 c0 N0 bs0 vBM hd0 sn0 sub0 ab0 col0 dd0 u0a u0b u0c u0d u0e nw0)) (rC0:PySem.W.readsIn K c0 (.type "type")=true) (gC0:PySem.W.specialIn K (.ref c0) "__getattribute__"=some (some (.builtin "type.__getattribute__"))) (iC0:PySem.W.findCls K (.ref c0) (.type "type") "__init__"=some (.val (.builtin xIni)))
  {c1:Addr} {nm1 q1:Str} {N1:Addr} {bs1 sub1:List Value} {ab1:Bool} {sn1:List Str} {col1:Option Bool} {dd1:Option Addr} {u1a u1b u1c u1d u1e:Option Value}
  (aC1:PySem.W.nsIn K mainGlobals "NoWord"=some (some (.ref c1))) (oC1:K.lookup c1=some (excClassObj nm1 q1 c1 N1 bs1 (.ref c0::vBM) true sn1 sub1 ab1 col1 dd1 u1a u1b u1c u1d u1e xNew)) (pC1:PySem.W.findIn K (.ref c1) "__getattribute__"=some (some (.builtin xGa))) (rC1:PySem.W.findIn K (.ref c1) "__getattr__"=some none) (sC1:PySem.W.findIn K (.ref c1) "__setattr__"=some (some (.builtin "object.__setattr__"))) (kC1:PySem.W.keepIn K (.ref c1)=true) (lC1:PySem.W.findIn K (.ref c1) "__class__"=some (some (.builtin "object.__class__")))
  {g1:Addr} (iC1:PySem.W.findIn K (.ref c1) "__init__"=some (some (.ref g1))) (fC1:PySem.W.isFn K (.ref g1)=true) (nC1:PySem.W.findIn K (.ref c1) "place"=some none)
  {c2:Addr} {nm2 q2:Str} {N2:Addr} {bs2 sub2:List Value} {ab2:Bool} {sn2:List Str} {col2:Option Bool} {dd2:Option Addr} {u2a u2b u2c u2d u2e:Option Value}
  (aC2:PySem.W.nsIn K mainGlobals "NoPattern"=some (some (.ref c2))) (oC2:K.lookup c2=some (excClassObj nm2 q2 c2 N2 bs2 (.ref c0::vBM) true sn2 sub2 ab2 col2 dd2 u2a u2b u2c u2d u2e xNew)) (pC2:PySem.W.findIn K (.ref c2) "__getattribute__"=some (some (.builtin xGa))) (rC2:PySem.W.findIn K (.ref c2) "__getattr__"=some none) (sC2:PySem.W.findIn K (.ref c2) "__setattr__"=some (some (.builtin "object.__setattr__"))) (kC2:PySem.W.keepIn K (.ref c2)=true) (lC2:PySem.W.findIn K (.ref c2) "__class__"=some (some (.builtin "object.__class__")))
  {g2:Addr} (iC2:PySem.W.findIn K (.ref c2) "__init__"=some (some (.ref g2))) (fC2:PySem.W.isFn K (.ref g2)=true) (nC2:PySem.W.findIn K (.ref c2) "place"=some none)
  {c3:Addr} {nm3 q3:Str} {N3:Addr} {bs3 sub3:List Value} {ab3:Bool} {sn3:List Str} {col3:Option Bool} {dd3:Option Addr} {u3a u3b u3c u3d u3e:Option Value}
  (aC3:PySem.W.nsIn K mainGlobals "NoThing"=some (some (.ref c3))) (oC3:K.lookup c3=some (excClassObj nm3 q3 c3 N3 bs3 (.ref c0::vBM) true sn3 sub3 ab3 col3 dd3 u3a u3b u3c u3d u3e xNew)) (pC3:PySem.W.findIn K (.ref c3) "__getattribute__"=some (some (.builtin xGa))) (rC3:PySem.W.findIn K (.ref c3) "__getattr__"=some none) (sC3:PySem.W.findIn K (.ref c3) "__setattr__"=some (some (.builtin "object.__setattr__"))) (kC3:PySem.W.keepIn K (.ref c3)=true) (lC3:PySem.W.findIn K (.ref c3) "__class__"=some (some (.builtin "object.__class__")))
  {g3:Addr} (iC3:PySem.W.findIn K (.ref c3) "__init__"=some (some (.ref g3))) (fC3:PySem.W.isFn K (.ref g3)=true) (nC3:PySem.W.findIn K (.ref c3) "place"=some none)
  {c4:Addr} {nm4 q4:Str} {N4:Addr} {bs4 sub4:List Value} {ab4:Bool} {sn4:List Str} {col4:Option Bool} {dd4:Option Addr} {u4a u4b u4c u4d u4e:Option Value}
  (aC4:PySem.W.nsIn K mainGlobals "TooNarrow"=some (some (.ref c4))) (oC4:K.lookup c4=some (excClassObj nm4 q4 c4 N4 bs4 (.ref c0::vBM) true sn4 sub4 ab4 col4 dd4 u4a u4b u4c u4d u4e xNew)) (pC4:PySem.W.findIn K (.ref c4) "__getattribute__"=some (some (.builtin xGa))) (rC4:PySem.W.findIn K (.ref c4) "__getattr__"=some none) (sC4:PySem.W.findIn K (.ref c4) "__setattr__"=some (some (.builtin "object.__setattr__"))) (kC4:PySem.W.keepIn K (.ref c4)=true) (lC4:PySem.W.findIn K (.ref c4) "__class__"=some (some (.builtin "object.__class__")))
  {g4:Addr} (iC4:PySem.W.findIn K (.ref c4) "__init__"=some (some (.ref g4))) (fC4:PySem.W.isFn K (.ref g4)=true) (nC4:PySem.W.findIn K (.ref c4) "place"=some none)
  {c5:Addr} {nm5 q5:Str} {N5:Addr} {bs5 sub5:List Value} {ab5:Bool} {sn5:List Str} {col5:Option Bool} {dd5:Option Addr} {u5a u5b u5c u5d u5e:Option Value}
  (aC5:PySem.W.nsIn K mainGlobals "Twice"=some (some (.ref c5))) (oC5:K.lookup c5=some (excClassObj nm5 q5 c5 N5 bs5 (.ref c0::vBM) true sn5 sub5 ab5 col5 dd5 u5a u5b u5c u5d u5e xNew)) (pC5:PySem.W.findIn K (.ref c5) "__getattribute__"=some (some (.builtin xGa))) (rC5:PySem.W.findIn K (.ref c5) "__getattr__"=some none) (sC5:PySem.W.findIn K (.ref c5) "__setattr__"=some (some (.builtin "object.__setattr__"))) (kC5:PySem.W.keepIn K (.ref c5)=true) (lC5:PySem.W.findIn K (.ref c5) "__class__"=some (some (.builtin "object.__class__")))
  {g5:Addr} (iC5:PySem.W.findIn K (.ref c5) "__init__"=some (some (.ref g5))) (fC5:PySem.W.isFn K (.ref g5)=true) (nC5:PySem.W.findIn K (.ref c5) "word"=some none)
  {c6:Addr} {nm6 q6:Str} {N6:Addr} {bs6 sub6:List Value} {ab6:Bool} {sn6:List Str} {col6:Option Bool} {dd6:Option Addr} {u6a u6b u6c u6d u6e:Option Value}
  (aC6:PySem.W.nsIn K mainGlobals "NoTongue"=some (some (.ref c6))) (oC6:K.lookup c6=some (excClassObj nm6 q6 c6 N6 bs6 (.ref c0::vBM) true sn6 sub6 ab6 col6 dd6 u6a u6b u6c u6d u6e xNew)) (pC6:PySem.W.findIn K (.ref c6) "__getattribute__"=some (some (.builtin xGa))) (rC6:PySem.W.findIn K (.ref c6) "__getattr__"=some none) (sC6:PySem.W.findIn K (.ref c6) "__setattr__"=some (some (.builtin "object.__setattr__"))) (kC6:PySem.W.keepIn K (.ref c6)=true) (lC6:PySem.W.findIn K (.ref c6) "__class__"=some (some (.builtin "object.__class__")))
  {g6:Addr} (iC6:PySem.W.findIn K (.ref c6) "__init__"=some (some (.ref g6))) (fC6:PySem.W.isFn K (.ref g6)=true) (nC6:PySem.W.findIn K (.ref c6) "name"=some none)
  {c7:Addr} {nm7 q7:Str} {N7:Addr} {bs7 sub7:List Value} {ab7:Bool} {sn7:List Str} {col7:Option Bool} {dd7:Option Addr} {u7a u7b u7c u7d u7e:Option Value}
  (aC7:PySem.W.nsIn K mainGlobals "NoRow"=some (some (.ref c7))) (oC7:K.lookup c7=some (excClassObj nm7 q7 c7 N7 bs7 (.ref c0::vBM) true sn7 sub7 ab7 col7 dd7 u7a u7b u7c u7d u7e xNew)) (pC7:PySem.W.findIn K (.ref c7) "__getattribute__"=some (some (.builtin xGa))) (rC7:PySem.W.findIn K (.ref c7) "__getattr__"=some none) (sC7:PySem.W.findIn K (.ref c7) "__setattr__"=some (some (.builtin "object.__setattr__"))) (kC7:PySem.W.keepIn K (.ref c7)=true) (lC7:PySem.W.findIn K (.ref c7) "__class__"=some (some (.builtin "object.__class__")))
  (iC7:PySem.W.findIn K (.ref c7) "__init__"=some (some (.builtin xIni)))
  (ndC:([c0,c1,c2,c3,c4,c5,c6,c7]:List Addr).Nodup)
  {cO:Addr} (aO:PySem.W.nsIn K mainGlobals "Breaker"=some (some (.ref cO))) (pO:PySem.W.plainGet K cO Str.empty=true) (dO:PySem.W.hasDictIn K cO=true) (vO:PySem.W.plainOver K cO=true) (sO:PySem.W.findIn K (.ref cO) "__setattr__"=some (some (.builtin "object.__setattr__"))) (mO:PySem.W.makesIn K cO=true) (kO:PySem.W.keepIn K (.ref cO)=true)
  (n_told_gaps:PySem.W.findIn K (.ref cO) "told_gaps"=some none)
  (n_patterns:PySem.W.findIn K (.ref cO) "patterns"=some none)
  (n_head:PySem.W.findIn K (.ref cO) "head"=some none)
  (n_tail:PySem.W.findIn K (.ref cO) "tail"=some none)
  {cO2:Addr} (aO2:PySem.W.nsIn K mainGlobals "Tongues"=some (some (.ref cO2))) (pO2:PySem.W.plainGet K cO2 Str.empty=true) (dO2:PySem.W.hasDictIn K cO2=true) (vO2:PySem.W.plainOver K cO2=true) (sO2:PySem.W.findIn K (.ref cO2) "__setattr__"=some (some (.builtin "object.__setattr__"))) (mO2:PySem.W.makesIn K cO2=true) (kO2:PySem.W.keepIn K (.ref cO2)=true)
  (n2_breakers:PySem.W.findIn K (.ref cO2) "breakers"=some none)
  {od0 an0:Option Addr} {sl0:Array (Option Value)} {oc0 kV0 dc0 pm0 cd0 ct0:Value}
  (l0:K.lookup g3=some ⟨oc0,od0,.func (PySem.W.fnOf "__init__" "NoThing.__init__" (jm_ s_NoThing_init) (jl_ s_NoThing_init) (jf_ s_NoThing_init) .none kV0 dc0 pm0 an0 cd0 ct0),sl0⟩) (c_0:PySem.W.codeIn K cd0 "NoThing.__init__"=true) (k0:PySem.W.keepIn K (.ref g3)=true)
  {od1 an1:Option Addr} {sl1:Array (Option Value)} {oc1 kV1 dc1 pm1 cd1 ct1:Value}
  (l1:K.lookup g4=some ⟨oc1,od1,.func (PySem.W.fnOf "__init__" "TooNarrow.__init__" (jm_ s_TooNarrow_init) (jl_ s_TooNarrow_init) (jf_ s_TooNarrow_init) .none kV1 dc1 pm1 an1 cd1 ct1),sl1⟩) (c_1:PySem.W.codeIn K cd1 "TooNarrow.__init__"=true) (k1:PySem.W.keepIn K (.ref g4)=true)
  {od2 an2:Option Addr} {sl2:Array (Option Value)} {oc2 kV2 dc2 pm2 cd2 ct2:Value}
  (l2:K.lookup g6=some ⟨oc2,od2,.func (PySem.W.fnOf "__init__" "NoTongue.__init__" (jm_ s_NoTongue_init) (jl_ s_NoTongue_init) (jf_ s_NoTongue_init) .none kV2 dc2 pm2 an2 cd2 ct2),sl2⟩) (c_2:PySem.W.codeIn K cd2 "NoTongue.__init__"=true) (k2:PySem.W.keepIn K (.ref g6)=true)
  {od3 an3:Option Addr} {sl3:Array (Option Value)} {oc3 kV3 dc3 pm3 cd3 ct3:Value}
  (a3:PySem.W.nsIn K mainGlobals "fitting_places"=some (some (.ref f3))) (l3:K.lookup f3=some ⟨oc3,od3,.func (PySem.W.fnOf "fitting_places" "fitting_places" (jm_ s_fitting_places) (jl_ s_fitting_places) (jf_ s_fitting_places) .none kV3 dc3 pm3 an3 cd3 ct3),sl3⟩) (c_3:PySem.W.codeIn K cd3 "fitting_places"=true) (k3:PySem.W.keepIn K (.ref f3)=true)
  {od4 an4:Option Addr} {sl4:Array (Option Value)} {oc4 kV4 dc4 pm4 cd4 ct4:Value}
  (a4:PySem.W.nsIn K mainGlobals "values_by_fits"=some (some (.ref f4))) (l4:K.lookup f4=some ⟨oc4,od4,.func (PySem.W.fnOf "values_by_fits" "values_by_fits" (jm_ s_values_by_fits) (jl_ s_values_by_fits) (jf_ s_values_by_fits) .none kV4 dc4 pm4 an4 cd4 ct4),sl4⟩) (c_4:PySem.W.codeIn K cd4 "values_by_fits"=true) (k4:PySem.W.keepIn K (.ref f4)=true)
  {od5 an5:Option Addr} {sl5:Array (Option Value)} {oc5 kV5 dc5 pm5 cd5 ct5:Value}
  (a5:PySem.W.nsIn K mainGlobals "values"=some (some (.ref f5))) (l5:K.lookup f5=some ⟨oc5,od5,.func (PySem.W.fnOf "values" "values" (jm_ s_values) (jl_ s_values) (jf_ s_values) .none kV5 dc5 pm5 an5 cd5 ct5),sl5⟩) (c_5:PySem.W.codeIn K cd5 "values"=true) (k5:PySem.W.keepIn K (.ref f5)=true)
  {od6 an6:Option Addr} {sl6:Array (Option Value)} {oc6 kV6 dc6 pm6 cd6 ct6:Value}
  (a6:PySem.W.nsIn K mainGlobals "breaks"=some (some (.ref f6))) (l6:K.lookup f6=some ⟨oc6,od6,.func (PySem.W.fnOf "breaks" "breaks" (jm_ s_breaks) (jl_ s_breaks) (jf_ s_breaks) .none kV6 dc6 pm6 an6 cd6 ct6),sl6⟩) (c_6:PySem.W.codeIn K cd6 "breaks"=true) (k6:PySem.W.keepIn K (.ref f6)=true)
  {od7 an7:Option Addr} {sl7:Array (Option Value)} {oc7 kV7 dc7 pm7 cd7 ct7:Value}
  (a7:PySem.W.nsIn K mainGlobals "is_letter"=some (some (.ref f7))) (l7:K.lookup f7=some ⟨oc7,od7,.func (PySem.W.fnOf "is_letter" "is_letter" (jm_ s_is_letter) (jl_ s_is_letter) (jf_ s_is_letter) .none kV7 dc7 pm7 an7 cd7 ct7),sl7⟩) (c_7:PySem.W.codeIn K cd7 "is_letter"=true) (k7:PySem.W.keepIn K (.ref f7)=true)
  {od8 an8:Option Addr} {sl8:Array (Option Value)} {oc8 kV8 dc8 pm8 cd8 ct8:Value}
  (a8:PySem.W.nsIn K mainGlobals "is_word"=some (some (.ref f8))) (l8:K.lookup f8=some ⟨oc8,od8,.func (PySem.W.fnOf "is_word" "is_word" (jm_ s_is_word) (jl_ s_is_word) (jf_ s_is_word) .none kV8 dc8 pm8 an8 cd8 ct8),sl8⟩) (c_8:PySem.W.codeIn K cd8 "is_word"=true) (k8:PySem.W.keepIn K (.ref f8)=true)
  {od9 an9:Option Addr} {sl9:Array (Option Value)} {oc9 kV9 dc9 pm9 cd9 ct9:Value}
  (a9:PySem.W.nsIn K mainGlobals "gaps_by_word"=some (some (.ref f9))) (l9:K.lookup f9=some ⟨oc9,od9,.func (PySem.W.fnOf "gaps_by_word" "gaps_by_word" (jm_ s_gaps_by_word) (jl_ s_gaps_by_word) (jf_ s_gaps_by_word) .none kV9 dc9 pm9 an9 cd9 ct9),sl9⟩) (c_9:PySem.W.codeIn K cd9 "gaps_by_word"=true) (k9:PySem.W.keepIn K (.ref f9)=true)
  {od10 an10:Option Addr} {sl10:Array (Option Value)} {oc10 kV10 dc10 pm10 cd10 ct10:Value}
  (iOX10:PySem.W.findIn K (.ref cO) "__init__"=some (some (.ref f10))) (fOX10:PySem.W.isFn K (.ref f10)=true) (l10:K.lookup f10=some ⟨oc10,od10,.func (PySem.W.fnOf "__init__" "Breaker.__init__" (jm_ s_Breaker_init) (jl_ s_Breaker_init) (jf_ s_Breaker_init) .none kV10 dc10 pm10 an10 cd10 ct10),sl10⟩) (c_10:PySem.W.codeIn K cd10 "Breaker.__init__"=true) (k10:PySem.W.keepIn K (.ref f10)=true)
  {od11 an11:Option Addr} {sl11:Array (Option Value)} {oc11 kV11 dc11 pm11 cd11 ct11:Value}
  (iOX11:PySem.W.findIn K (.ref cO) "gaps"=some (some (.ref f11))) (fOX11:PySem.W.isFn K (.ref f11)=true) (l11:K.lookup f11=some ⟨oc11,od11,.func (PySem.W.fnOf "gaps" "Breaker.gaps" (jm_ s_Breaker_gaps) (jl_ s_Breaker_gaps) (jf_ s_Breaker_gaps) .none kV11 dc11 pm11 an11 cd11 ct11),sl11⟩) (c_11:PySem.W.codeIn K cd11 "Breaker.gaps"=true) (k11:PySem.W.keepIn K (.ref f11)=true)
  {od12 an12:Option Addr} {sl12:Array (Option Value)} {oc12 kV12 dc12 pm12 cd12 ct12:Value}
  (a12:PySem.W.nsIn K mainGlobals "with_patterns"=some (some (.ref f12))) (l12:K.lookup f12=some ⟨oc12,od12,.func (PySem.W.fnOf "with_patterns" "with_patterns" (jm_ s_with_patterns) (jl_ s_with_patterns) (jf_ s_with_patterns) .none kV12 dc12 pm12 an12 cd12 ct12),sl12⟩) (c_12:PySem.W.codeIn K cd12 "with_patterns"=true) (k12:PySem.W.keepIn K (.ref f12)=true)
  {od13 an13:Option Addr} {sl13:Array (Option Value)} {oc13 kV13 dc13 pm13 cd13 ct13:Value}
  (iOX13:PySem.W.findIn K (.ref cO2) "__init__"=some (some (.ref f13))) (fOX13:PySem.W.isFn K (.ref f13)=true) (l13:K.lookup f13=some ⟨oc13,od13,.func (PySem.W.fnOf "__init__" "Tongues.__init__" (jm_ s_Tongues_init) (jl_ s_Tongues_init) (jf_ s_Tongues_init) .none kV13 dc13 pm13 an13 cd13 ct13),sl13⟩) (c_13:PySem.W.codeIn K cd13 "Tongues.__init__"=true) (k13:PySem.W.keepIn K (.ref f13)=true)
  {od14 an14:Option Addr} {sl14:Array (Option Value)} {oc14 kV14 dc14 pm14 cd14 ct14:Value}
  (iOX14:PySem.W.findIn K (.ref cO2) "put"=some (some (.ref f14))) (fOX14:PySem.W.isFn K (.ref f14)=true) (l14:K.lookup f14=some ⟨oc14,od14,.func (PySem.W.fnOf "put" "Tongues.put" (jm_ s_Tongues_put) (jl_ s_Tongues_put) (jf_ s_Tongues_put) .none kV14 dc14 pm14 an14 cd14 ct14),sl14⟩) (c_14:PySem.W.codeIn K cd14 "Tongues.put"=true) (k14:PySem.W.keepIn K (.ref f14)=true)
  {od15 an15:Option Addr} {sl15:Array (Option Value)} {oc15 kV15 dc15 pm15 cd15 ct15:Value}
  (iOX15:PySem.W.findIn K (.ref cO2) "breaker_of"=some (some (.ref f15))) (fOX15:PySem.W.isFn K (.ref f15)=true) (l15:K.lookup f15=some ⟨oc15,od15,.func (PySem.W.fnOf "breaker_of" "Tongues.breaker_of" (jm_ s_Tongues_breaker_of) (jl_ s_Tongues_breaker_of) (jf_ s_Tongues_breaker_of) .none kV15 dc15 pm15 an15 cd15 ct15),sl15⟩) (c_15:PySem.W.codeIn K cd15 "Tongues.breaker_of"=true) (k15:PySem.W.keepIn K (.ref f15)=true)
  {od16 an16:Option Addr} {sl16:Array (Option Value)} {oc16 kV16 dc16 pm16 cd16 ct16:Value}
  (iOX16:PySem.W.findIn K (.ref cO2) "names"=some (some (.ref f16))) (fOX16:PySem.W.isFn K (.ref f16)=true) (l16:K.lookup f16=some ⟨oc16,od16,.func (PySem.W.fnOf "names" "Tongues.names" (jm_ s_Tongues_names) (jl_ s_Tongues_names) (jf_ s_Tongues_names) .none kV16 dc16 pm16 an16 cd16 ct16),sl16⟩) (c_16:PySem.W.codeIn K cd16 "Tongues.names"=true) (k16:PySem.W.keepIn K (.ref f16)=true)
  {od17 an17:Option Addr} {sl17:Array (Option Value)} {oc17 kV17 dc17 pm17 cd17 ct17:Value}
  (a17:PySem.W.nsIn K mainGlobals "mark_of"=some (some (.ref f17))) (l17:K.lookup f17=some ⟨oc17,od17,.func (PySem.W.fnOf "mark_of" "mark_of" (jm_ s_mark_of) (jl_ s_mark_of) (jf_ s_mark_of) .none kV17 dc17 pm17 an17 cd17 ct17),sl17⟩) (c_17:PySem.W.codeIn K cd17 "mark_of"=true) (k17:PySem.W.keepIn K (.ref f17)=true)
  {od18 an18:Option Addr} {sl18:Array (Option Value)} {oc18 kV18 dc18 pm18 cd18 ct18:Value}
  (a18:PySem.W.nsIn K mainGlobals "word_of"=some (some (.ref f18))) (l18:K.lookup f18=some ⟨oc18,od18,.func (PySem.W.fnOf "word_of" "word_of" (jm_ s_word_of) (jl_ s_word_of) (jf_ s_word_of) .none kV18 dc18 pm18 an18 cd18 ct18),sl18⟩) (c_18:PySem.W.codeIn K cd18 "word_of"=true) (k18:PySem.W.keepIn K (.ref f18)=true)
  {od19 an19:Option Addr} {sl19:Array (Option Value)} {oc19 kV19 dc19 pm19 cd19 ct19:Value}
  (a19:PySem.W.nsIn K mainGlobals "is_name"=some (some (.ref f19))) (l19:K.lookup f19=some ⟨oc19,od19,.func (PySem.W.fnOf "is_name" "is_name" (jm_ s_is_name) (jl_ s_is_name) (jf_ s_is_name) .none kV19 dc19 pm19 an19 cd19 ct19),sl19⟩) (c_19:PySem.W.codeIn K cd19 "is_name"=true) (k19:PySem.W.keepIn K (.ref f19)=true)
  {od20 an20:Option Addr} {sl20:Array (Option Value)} {oc20 kV20 dc20 pm20 cd20 ct20:Value}
  (a20:PySem.W.nsIn K mainGlobals "is_thing"=some (some (.ref f20))) (l20:K.lookup f20=some ⟨oc20,od20,.func (PySem.W.fnOf "is_thing" "is_thing" (jm_ s_is_thing) (jl_ s_is_thing) (jf_ s_is_thing) .none kV20 dc20 pm20 an20 cd20 ct20),sl20⟩) (c_20:PySem.W.codeIn K cd20 "is_thing"=true) (k20:PySem.W.keepIn K (.ref f20)=true)
  {od21 an21:Option Addr} {sl21:Array (Option Value)} {oc21 kV21 dc21 pm21 cd21 ct21:Value}
  (a21:PySem.W.nsIn K mainGlobals "check_things"=some (some (.ref f21))) (l21:K.lookup f21=some ⟨oc21,od21,.func (PySem.W.fnOf "check_things" "check_things" (jm_ s_check_things) (jl_ s_check_things) (jf_ s_check_things) .none kV21 dc21 pm21 an21 cd21 ct21),sl21⟩) (c_21:PySem.W.codeIn K cd21 "check_things"=true) (k21:PySem.W.keepIn K (.ref f21)=true)
  {od22 an22:Option Addr} {sl22:Array (Option Value)} {oc22 kV22 dc22 pm22 cd22 ct22:Value}
  (a22:PySem.W.nsIn K mainGlobals "pieces"=some (some (.ref f22))) (l22:K.lookup f22=some ⟨oc22,od22,.func (PySem.W.fnOf "pieces" "pieces" (jm_ s_pieces) (jl_ s_pieces) (jf_ s_pieces) .none kV22 dc22 pm22 an22 cd22 ct22),sl22⟩) (c_22:PySem.W.codeIn K cd22 "pieces"=true) (k22:PySem.W.keepIn K (.ref f22)=true)
  {od23 an23:Option Addr} {sl23:Array (Option Value)} {oc23 kV23 dc23 pm23 cd23 ct23:Value}
  (a23:PySem.W.nsIn K mainGlobals "farthest_end"=some (some (.ref f23))) (l23:K.lookup f23=some ⟨oc23,od23,.func (PySem.W.fnOf "farthest_end" "farthest_end" (jm_ s_farthest_end) (jl_ s_farthest_end) (jf_ s_farthest_end) .none kV23 dc23 pm23 an23 cd23 ct23),sl23⟩) (c_23:PySem.W.codeIn K cd23 "farthest_end"=true) (k23:PySem.W.keepIn K (.ref f23)=true)
  {od24 an24:Option Addr} {sl24:Array (Option Value)} {oc24 kV24 dc24 pm24 cd24 ct24:Value}
  (a24:PySem.W.nsIn K mainGlobals "pressed"=some (some (.ref f24))) (l24:K.lookup f24=some ⟨oc24,od24,.func (PySem.W.fnOf "pressed" "pressed" (jm_ s_pressed) (jl_ s_pressed) (jf_ s_pressed) .none kV24 dc24 pm24 an24 cd24 ct24),sl24⟩) (c_24:PySem.W.codeIn K cd24 "pressed"=true) (k24:PySem.W.keepIn K (.ref f24)=true)
  {od25 an25:Option Addr} {sl25:Array (Option Value)} {oc25 kV25 dc25 pm25 cd25 ct25:Value}
  (a25:PySem.W.nsIn K mainGlobals "_law_feed"=some (some (.ref f25))) (l25:K.lookup f25=some ⟨oc25,od25,.func (PySem.W.fnOf "_law_feed" "_law_feed" (jm_ s_law_feed) (jl_ s_law_feed) (jf_ s_law_feed) .none kV25 dc25 pm25 an25 cd25 ct25),sl25⟩) (c_25:PySem.W.codeIn K cd25 "_law_feed"=true) (k25:PySem.W.keepIn K (.ref f25)=true)
  {od26 an26:Option Addr} {sl26:Array (Option Value)} {oc26 kV26 dc26 pm26 cd26 ct26:Value}
  (a26:PySem.W.nsIn K mainGlobals "_law_next"=some (some (.ref f26))) (l26:K.lookup f26=some ⟨oc26,od26,.func (PySem.W.fnOf "_law_next" "_law_next" (jm_ s_law_next) (jl_ s_law_next) (jf_ s_law_next) .none kV26 dc26 pm26 an26 cd26 ct26),sl26⟩) (c_26:PySem.W.codeIn K cd26 "_law_next"=true) (k26:PySem.W.keepIn K (.ref f26)=true)
  {od27 an27:Option Addr} {sl27:Array (Option Value)} {oc27 kV27 dc27 pm27 cd27 ct27:Value}
  (a27:PySem.W.nsIn K mainGlobals "_law_alike"=some (some (.ref f27))) (l27:K.lookup f27=some ⟨oc27,od27,.func (PySem.W.fnOf "_law_alike" "_law_alike" (jm_ s_law_alike) (jl_ s_law_alike) (jf_ s_law_alike) .none kV27 dc27 pm27 an27 cd27 ct27),sl27⟩) (c_27:PySem.W.codeIn K cd27 "_law_alike"=true) (k27:PySem.W.keepIn K (.ref f27)=true)
  {od28 an28:Option Addr} {sl28:Array (Option Value)} {oc28 kV28 dc28 pm28 cd28 ct28:Value}
  (a28:PySem.W.nsIn K mainGlobals "_law_letters"=some (some (.ref f28))) (l28:K.lookup f28=some ⟨oc28,od28,.func (PySem.W.fnOf "_law_letters" "_law_letters" (jm_ s_law_letters) (jl_ s_law_letters) (jf_ s_law_letters) .none kV28 dc28 pm28 an28 cd28 ct28),sl28⟩) (c_28:PySem.W.codeIn K cd28 "_law_letters"=true) (k28:PySem.W.keepIn K (.ref f28)=true)
  {od29 an29:Option Addr} {sl29:Array (Option Value)} {oc29 kV29 dc29 pm29 cd29 ct29:Value}
  (a29:PySem.W.nsIn K mainGlobals "_law_word"=some (some (.ref f29))) (l29:K.lookup f29=some ⟨oc29,od29,.func (PySem.W.fnOf "_law_word" "_law_word" (jm_ s_law_word) (jl_ s_law_word) (jf_ s_law_word) .none kV29 dc29 pm29 an29 cd29 ct29),sl29⟩) (c_29:PySem.W.codeIn K cd29 "_law_word"=true) (k29:PySem.W.keepIn K (.ref f29)=true)
  {od30 an30:Option Addr} {sl30:Array (Option Value)} {oc30 kV30 dc30 pm30 cd30 ct30:Value}
  (a30:PySem.W.nsIn K mainGlobals "_law_numbers"=some (some (.ref f30))) (l30:K.lookup f30=some ⟨oc30,od30,.func (PySem.W.fnOf "_law_numbers" "_law_numbers" (jm_ s_law_numbers) (jl_ s_law_numbers) (jf_ s_law_numbers) .none kV30 dc30 pm30 an30 cd30 ct30),sl30⟩) (c_30:PySem.W.codeIn K cd30 "_law_numbers"=true) (k30:PySem.W.keepIn K (.ref f30)=true)
  {od31 an31:Option Addr} {sl31:Array (Option Value)} {oc31 kV31 dc31 pm31 cd31 ct31:Value}
  (a31:PySem.W.nsIn K mainGlobals "_law_pattern"=some (some (.ref f31))) (l31:K.lookup f31=some ⟨oc31,od31,.func (PySem.W.fnOf "_law_pattern" "_law_pattern" (jm_ s_law_pattern) (jl_ s_law_pattern) (jf_ s_law_pattern) .none kV31 dc31 pm31 an31 cd31 ct31),sl31⟩) (c_31:PySem.W.codeIn K cd31 "_law_pattern"=true) (k31:PySem.W.keepIn K (.ref f31)=true)
  {od32 an32:Option Addr} {sl32:Array (Option Value)} {oc32 kV32 dc32 pm32 cd32 ct32:Value}
  (a32:PySem.W.nsIn K mainGlobals "_law_some_gaps"=some (some (.ref f32))) (l32:K.lookup f32=some ⟨oc32,od32,.func (PySem.W.fnOf "_law_some_gaps" "_law_some_gaps" (jm_ s_law_some_gaps) (jl_ s_law_some_gaps) (jf_ s_law_some_gaps) .none kV32 dc32 pm32 an32 cd32 ct32),sl32⟩) (c_32:PySem.W.codeIn K cd32 "_law_some_gaps"=true) (k32:PySem.W.keepIn K (.ref f32)=true)
  {od33 an33:Option Addr} {sl33:Array (Option Value)} {oc33 kV33 dc33 pm33 cd33 ct33:Value}
  (a33:PySem.W.nsIn K mainGlobals "_law_six"=some (some (.ref f33))) (l33:K.lookup f33=some ⟨oc33,od33,.func (PySem.W.fnOf "_law_six" "_law_six" (jm_ s_law_six) (jl_ s_law_six) (jf_ s_law_six) .none kV33 dc33 pm33 an33 cd33 ct33),sl33⟩) (c_33:PySem.W.codeIn K cd33 "_law_six"=true) (k33:PySem.W.keepIn K (.ref f33)=true)
  {od34 an34:Option Addr} {sl34:Array (Option Value)} {oc34 kV34 dc34 pm34 cd34 ct34:Value}
  (a34:PySem.W.nsIn K mainGlobals "_law_parts"=some (some (.ref f34))) (l34:K.lookup f34=some ⟨oc34,od34,.func (PySem.W.fnOf "_law_parts" "_law_parts" (jm_ s_law_parts) (jl_ s_law_parts) (jf_ s_law_parts) .none kV34 dc34 pm34 an34 cd34 ct34),sl34⟩) (c_34:PySem.W.codeIn K cd34 "_law_parts"=true) (k34:PySem.W.keepIn K (.ref f34)=true)
  {od35 an35:Option Addr} {sl35:Array (Option Value)} {oc35 kV35 dc35 pm35 cd35 ct35:Value}
  (a35:PySem.W.nsIn K mainGlobals "_law_names"=some (some (.ref f35))) (l35:K.lookup f35=some ⟨oc35,od35,.func (PySem.W.fnOf "_law_names" "_law_names" (jm_ s_law_names) (jl_ s_law_names) (jf_ s_law_names) .none kV35 dc35 pm35 an35 cd35 ct35),sl35⟩) (c_35:PySem.W.codeIn K cd35 "_law_names"=true) (k35:PySem.W.keepIn K (.ref f35)=true)
  {od36 an36:Option Addr} {sl36:Array (Option Value)} {oc36 kV36 dc36 pm36 cd36 ct36:Value}
  (a36:PySem.W.nsIn K mainGlobals "_law_made"=some (some (.ref f36))) (l36:K.lookup f36=some ⟨oc36,od36,.func (PySem.W.fnOf "_law_made" "_law_made" (jm_ s_law_made) (jl_ s_law_made) (jf_ s_law_made) .none kV36 dc36 pm36 an36 cd36 ct36),sl36⟩) (c_36:PySem.W.codeIn K cd36 "_law_made"=true) (k36:PySem.W.keepIn K (.ref f36)=true)
  {od37 an37:Option Addr} {sl37:Array (Option Value)} {oc37 kV37 dc37 pm37 cd37 ct37:Value}
  (a37:PySem.W.nsIn K mainGlobals "_law_some"=some (some (.ref f37))) (l37:K.lookup f37=some ⟨oc37,od37,.func (PySem.W.fnOf "_law_some" "_law_some" (jm_ s_law_some) (jl_ s_law_some) (jf_ s_law_some) .none kV37 dc37 pm37 an37 cd37 ct37),sl37⟩) (c_37:PySem.W.codeIn K cd37 "_law_some"=true) (k37:PySem.W.keepIn K (.ref f37)=true)
  {od38 an38:Option Addr} {sl38:Array (Option Value)} {oc38 kV38 dc38 pm38 cd38 ct38:Value}
  (a38:PySem.W.nsIn K mainGlobals "_law_things"=some (some (.ref f38))) (l38:K.lookup f38=some ⟨oc38,od38,.func (PySem.W.fnOf "_law_things" "_law_things" (jm_ s_law_things) (jl_ s_law_things) (jf_ s_law_things) .none kV38 dc38 pm38 an38 cd38 ct38),sl38⟩) (c_38:PySem.W.codeIn K cd38 "_law_things"=true) (k38:PySem.W.keepIn K (.ref f38)=true)
  {od39 an39:Option Addr} {sl39:Array (Option Value)} {oc39 kV39 dc39 pm39 cd39 ct39:Value}
  (a39:PySem.W.nsIn K mainGlobals "_law_spoilt"=some (some (.ref f39))) (l39:K.lookup f39=some ⟨oc39,od39,.func (PySem.W.fnOf "_law_spoilt" "_law_spoilt" (jm_ s_law_spoilt) (jl_ s_law_spoilt) (jf_ s_law_spoilt) .none kV39 dc39 pm39 an39 cd39 ct39),sl39⟩) (c_39:PySem.W.codeIn K cd39 "_law_spoilt"=true) (k39:PySem.W.keepIn K (.ref f39)=true)
  {od40 an40:Option Addr} {sl40:Array (Option Value)} {oc40 kV40 dc40 pm40 cd40 ct40:Value}
  (a40:PySem.W.nsIn K mainGlobals "_law_is_word"=some (some (.ref f40))) (l40:K.lookup f40=some ⟨oc40,od40,.func (PySem.W.fnOf "_law_is_word" "_law_is_word" (jm_ s_law_is_word) (jl_ s_law_is_word) (jf_ s_law_is_word) .none kV40 dc40 pm40 an40 cd40 ct40),sl40⟩) (c_40:PySem.W.codeIn K cd40 "_law_is_word"=true) (k40:PySem.W.keepIn K (.ref f40)=true)
  {od41 an41:Option Addr} {sl41:Array (Option Value)} {oc41 kV41 dc41 pm41 cd41 ct41:Value}
  (a41:PySem.W.nsIn K mainGlobals "_law_is_thing"=some (some (.ref f41))) (l41:K.lookup f41=some ⟨oc41,od41,.func (PySem.W.fnOf "_law_is_thing" "_law_is_thing" (jm_ s_law_is_thing) (jl_ s_law_is_thing) (jf_ s_law_is_thing) .none kV41 dc41 pm41 an41 cd41 ct41),sl41⟩) (c_41:PySem.W.codeIn K cd41 "_law_is_thing"=true) (k41:PySem.W.keepIn K (.ref f41)=true)
  {od42 an42:Option Addr} {sl42:Array (Option Value)} {oc42 kV42 dc42 pm42 cd42 ct42:Value}
  (a42:PySem.W.nsIn K mainGlobals "_law_due"=some (some (.ref f42))) (l42:K.lookup f42=some ⟨oc42,od42,.func (PySem.W.fnOf "_law_due" "_law_due" (jm_ s_law_due) (jl_ s_law_due) (jf_ s_law_due) .none kV42 dc42 pm42 an42 cd42 ct42),sl42⟩) (c_42:PySem.W.codeIn K cd42 "_law_due"=true) (k42:PySem.W.keepIn K (.ref f42)=true)
  {od43 an43:Option Addr} {sl43:Array (Option Value)} {oc43 kV43 dc43 pm43 cd43 ct43:Value}
  (a43:PySem.W.nsIn K mainGlobals "_law_asked"=some (some (.ref f43))) (l43:K.lookup f43=some ⟨oc43,od43,.func (PySem.W.fnOf "_law_asked" "_law_asked" (jm_ s_law_asked) (jl_ s_law_asked) (jf_ s_law_asked) .none kV43 dc43 pm43 an43 cd43 ct43),sl43⟩) (c_43:PySem.W.codeIn K cd43 "_law_asked"=true) (k43:PySem.W.keepIn K (.ref f43)=true)
  {od44 an44:Option Addr} {sl44:Array (Option Value)} {oc44 kV44 dc44 pm44 cd44 ct44:Value}
  (a44:PySem.W.nsIn K mainGlobals "law"=some (some (.ref f44))) (l44:K.lookup f44=some ⟨oc44,od44,.func (PySem.W.fnOf "law" "law" (jm_ s_law) (jl_ s_law) (jf_ s_law) .none kV44 dc44 pm44 an44 cd44 ct44),sl44⟩) (c_44:PySem.W.codeIn K cd44 "law"=true) (k44:PySem.W.keepIn K (.ref f44)=true)
  {mkT:Addr} {odT:Option Addr} {slT:Array (Option Value)} {nT tT0 tT1 tT2 tT3 tT4 tT5:Nat} (aT:PySem.W.nsIn K mainGlobals "MARKS"=some (some (.ref mkT))) (lT:K.lookup mkT=some ⟨.type "tuple",odT,.seq #[.str "," tT0,.str "." tT1,.str ";" tT2,.str ":" tT3,.str "!" tT4,.str "?" tT5] nT,slT⟩)
  {tkLETTERS:Tok} (gLETTERS:PySem.W.nsIn K mainGlobals "LETTERS"=some (some (.str "abcdefghijklmnopqrstuvwxyz" tkLETTERS)))
  {tkMOST_LETTERS:Tok} (gMOST_LETTERS:PySem.W.nsIn K mainGlobals "MOST_LETTERS"=some (some (.int 8 tkMOST_LETTERS)))
  (z_len:PySem.W.nsIn K mainGlobals "len"=some none)
  (z_abs:PySem.W.nsIn K mainGlobals "abs"=some none)
  (z_all:PySem.W.nsIn K mainGlobals "all"=some none)
  (z_range:PySem.W.nsIn K mainGlobals "range"=some none)
  (z_enumerate:PySem.W.nsIn K mainGlobals "enumerate"=some none)
  (z_isinstance:PySem.W.nsIn K mainGlobals "isinstance"=some none)
  (z_tuple:PySem.W.nsIn K mainGlobals "tuple"=some none)
  (z_list:PySem.W.nsIn K mainGlobals "list"=some none)
  (z_bool:PySem.W.nsIn K mainGlobals "bool"=some none)
  (z_str:PySem.W.nsIn K mainGlobals "str"=some none)
  (z_int:PySem.W.nsIn K mainGlobals "int"=some none)
  (z_min:PySem.W.nsIn K mainGlobals "min"=some none)
  (z_max:PySem.W.nsIn K mainGlobals "max"=some none)
  (z_sorted:PySem.W.nsIn K mainGlobals "sorted"=some none)
  (z_ValueError:PySem.W.nsIn K mainGlobals "ValueError"=some none)
  : ∃ fd:FuncData,(∀(s:Shared) (v:Value),BindsTo s fd ⟨[v],[]⟩ [("_law_script",v)])∧∀ base:Heap,K.In base→base.Ns mainGlobals mg→FnOk l.prog w K mg base CX0 9 fa fd ["_law_script"] (spLaw K):=by
 have e:=hfa.symm.trans (PySem.W.mg_of X G a44)
 cases e
 have T:Txt mg (fun i=>([tkLETTERS,tkMOST_LETTERS]:List Tok).getD i 0):=⟨PySem.W.mg_none_of X G z_len,PySem.W.mg_none_of X G z_abs,PySem.W.mg_none_of X G z_all,PySem.W.mg_none_of X G z_range,PySem.W.mg_none_of X G z_enumerate,PySem.W.mg_none_of X G z_isinstance,PySem.W.mg_none_of X G z_tuple,PySem.W.mg_none_of X G z_list,PySem.W.mg_none_of X G z_bool,PySem.W.mg_none_of X G z_str,PySem.W.mg_none_of X G z_int,PySem.W.mg_none_of X G z_min,PySem.W.mg_none_of X G z_max,PySem.W.mg_none_of X G z_sorted,PySem.W.mg_none_of X G z_ValueError,PySem.W.mg_of X G gLETTERS,PySem.W.mg_of X G gMOST_LETTERS⟩
 have TC:Tc K mg mkT:=⟨PySem.W.mg_of X G aT,fun H=>.inr ⟨_,_,_,lT,rfl,rfl,by show 6≤sizeLine;decide,.cons ⟨_,rfl⟩ (.cons ⟨_,rfl⟩ (.cons ⟨_,rfl⟩ (.cons ⟨_,rfl⟩ (.cons ⟨_,rfl⟩ (.cons ⟨_,rfl⟩ (.nil))))))⟩⟩
 have Z:Cs K mg (fun i=>([c0,c1,c2,c3,c4,c5,c6,c7]:List Addr).getD i 0):=⟨PySem.W.mg_of X G aC0,⟨rC0,gC0,iC0⟩,⟨_,_,_,_,_,_,_,_,_,_,_,_,_,_,_,_,oC0⟩,PySem.W.mg_of X G aC1,⟨⟨_,_,_,_,_,_,_,_,_,_,_,_,_,_,oC1⟩,pC1,rC1,sC1,kC1,lC1⟩,nC1,PySem.W.mg_of X G aC2,⟨⟨_,_,_,_,_,_,_,_,_,_,_,_,_,_,oC2⟩,pC2,rC2,sC2,kC2,lC2⟩,nC2,PySem.W.mg_of X G aC3,⟨⟨_,_,_,_,_,_,_,_,_,_,_,_,_,_,oC3⟩,pC3,rC3,sC3,kC3,lC3⟩,nC3,PySem.W.mg_of X G aC4,⟨⟨_,_,_,_,_,_,_,_,_,_,_,_,_,_,oC4⟩,pC4,rC4,sC4,kC4,lC4⟩,nC4,PySem.W.mg_of X G aC5,⟨⟨_,_,_,_,_,_,_,_,_,_,_,_,_,_,oC5⟩,pC5,rC5,sC5,kC5,lC5⟩,nC5,PySem.W.mg_of X G aC6,⟨⟨_,_,_,_,_,_,_,_,_,_,_,_,_,_,oC6⟩,pC6,rC6,sC6,kC6,lC6⟩,nC6,PySem.W.mg_of X G aC7,⟨⟨_,_,_,_,_,_,_,_,_,_,_,_,_,_,oC7⟩,pC7,rC7,sC7,kC7,lC7⟩,iC7,ndC⟩
 have O:Ow K mg cO:=⟨PySem.W.mg_of X G aO,⟨pO,dO,vO,sO⟩,n_told_gaps,n_patterns,n_head,n_tail⟩
 have O2:Ow2 K mg cO2:=⟨PySem.W.mg_of X G aO2,⟨pO2,dO2,vO2,sO2⟩,n2_breakers⟩
 have F_NoThing_init:=jx_ (st:=s_NoThing_init) l0 c_0 k0
 have b_NoThing_init:=F_NoThing_init.binds (ps:=["self","place"]) fun _ _ _ _ _ _ us hl=>match us,hl with | [_,_],_=>rfl
 have F_TooNarrow_init:=jx_ (st:=s_TooNarrow_init) l1 c_1 k1
 have b_TooNarrow_init:=F_TooNarrow_init.binds (ps:=["self","place"]) fun _ _ _ _ _ _ us hl=>match us,hl with | [_,_],_=>rfl
 have F_NoTongue_init:=jx_ (st:=s_NoTongue_init) l2 c_2 k2
 have b_NoTongue_init:=F_NoTongue_init.binds (ps:=["self","name"]) fun _ _ _ _ _ _ us hl=>match us,hl with | [_,_],_=>rfl
 have F_fitting_places:=jx_ (st:=s_fitting_places) l3 c_3 k3
 have b_fitting_places:=F_fitting_places.binds (ps:=["signs","framed"]) fun _ _ _ _ _ _ us hl=>match us,hl with | [_,_],_=>rfl
 have m_fitting_places:=PySem.W.mg_of X G a3
 have F_values_by_fits:=jx_ (st:=s_values_by_fits) l4 c_4 k4
 have b_values_by_fits:=F_values_by_fits.binds (ps:=["fits","word"]) fun _ _ _ _ _ _ us hl=>match us,hl with | [_,_],_=>rfl
 have m_values_by_fits:=PySem.W.mg_of X G a4
 have F_values:=jx_ (st:=s_values) l5 c_5 k5
 have b_values:=F_values.binds (ps:=["patterns","word"]) fun _ _ _ _ _ _ us hl=>match us,hl with | [_,_],_=>rfl
 have m_values:=PySem.W.mg_of X G a5
 have F_breaks:=jx_ (st:=s_breaks) l6 c_6 k6
 have b_breaks:=F_breaks.binds (ps:=["patterns","word"]) fun _ _ _ _ _ _ us hl=>match us,hl with | [_,_],_=>rfl
 have m_breaks:=PySem.W.mg_of X G a6
 have F_is_letter:=jx_ (st:=s_is_letter) l7 c_7 k7
 have b_is_letter:=F_is_letter.binds (ps:=["sign"]) fun _ _ _ _ _ _ us hl=>match us,hl with | [_],_=>rfl
 have m_is_letter:=PySem.W.mg_of X G a7
 have F_is_word:=jx_ (st:=s_is_word) l8 c_8 k8
 have b_is_word:=F_is_word.binds (ps:=["text"]) fun _ _ _ _ _ _ us hl=>match us,hl with | [_],_=>rfl
 have m_is_word:=PySem.W.mg_of X G a8
 have F_gaps_by_word:=jx_ (st:=s_gaps_by_word) l9 c_9 k9
 have b_gaps_by_word:=F_gaps_by_word.binds (ps:=["told"]) fun _ _ _ _ _ _ us hl=>match us,hl with | [_],_=>rfl
 have m_gaps_by_word:=PySem.W.mg_of X G a9
 have F_Breaker_init:=jx_ (st:=s_Breaker_init) l10 c_10 k10
 have b_Breaker_init:=F_Breaker_init.binds (ps:=["self","patterns","told","head","tail"]) fun _ _ _ _ _ _ us hl=>match us,hl with | [_,_,_,_,_],_=>rfl
 have F_Breaker_gaps:=jx_ (st:=s_Breaker_gaps) l11 c_11 k11
 have b_Breaker_gaps:=F_Breaker_gaps.binds (ps:=["self","word"]) fun _ _ _ _ _ _ us hl=>match us,hl with | [_,_],_=>rfl
 have F_with_patterns:=jx_ (st:=s_with_patterns) l12 c_12 k12
 have b_with_patterns:=F_with_patterns.binds (ps:=["breaker","patterns"]) fun _ _ _ _ _ _ us hl=>match us,hl with | [_,_],_=>rfl
 have m_with_patterns:=PySem.W.mg_of X G a12
 have F_Tongues_init:=jx_ (st:=s_Tongues_init) l13 c_13 k13
 have b_Tongues_init:=F_Tongues_init.binds (ps:=["self"]) fun _ _ _ _ _ _ us hl=>match us,hl with | [_],_=>rfl
 have F_Tongues_put:=jx_ (st:=s_Tongues_put) l14 c_14 k14
 have b_Tongues_put:=F_Tongues_put.binds (ps:=["self","name","breaker"]) fun _ _ _ _ _ _ us hl=>match us,hl with | [_,_,_],_=>rfl
 have F_Tongues_breaker_of:=jx_ (st:=s_Tongues_breaker_of) l15 c_15 k15
 have b_Tongues_breaker_of:=F_Tongues_breaker_of.binds (ps:=["self","name"]) fun _ _ _ _ _ _ us hl=>match us,hl with | [_,_],_=>rfl
 have F_Tongues_names:=jx_ (st:=s_Tongues_names) l16 c_16 k16
 have b_Tongues_names:=F_Tongues_names.binds (ps:=["self"]) fun _ _ _ _ _ _ us hl=>match us,hl with | [_],_=>rfl
 have F_mark_of:=jx_ (st:=s_mark_of) l17 c_17 k17
 have b_mark_of:=F_mark_of.binds (ps:=["thing"]) fun _ _ _ _ _ _ us hl=>match us,hl with | [_],_=>rfl
 have m_mark_of:=PySem.W.mg_of X G a17
 have F_word_of:=jx_ (st:=s_word_of) l18 c_18 k18
 have b_word_of:=F_word_of.binds (ps:=["thing"]) fun _ _ _ _ _ _ us hl=>match us,hl with | [_],_=>rfl
 have m_word_of:=PySem.W.mg_of X G a18
 have F_is_name:=jx_ (st:=s_is_name) l19 c_19 k19
 have b_is_name:=F_is_name.binds (ps:=["text"]) fun _ _ _ _ _ _ us hl=>match us,hl with | [_],_=>rfl
 have m_is_name:=PySem.W.mg_of X G a19
 have F_is_thing:=jx_ (st:=s_is_thing) l20 c_20 k20
 have b_is_thing:=F_is_thing.binds (ps:=["thing"]) fun _ _ _ _ _ _ us hl=>match us,hl with | [_],_=>rfl
 have m_is_thing:=PySem.W.mg_of X G a20
 have F_check_things:=jx_ (st:=s_check_things) l21 c_21 k21
 have b_check_things:=F_check_things.binds (ps:=["text"]) fun _ _ _ _ _ _ us hl=>match us,hl with | [_],_=>rfl
 have m_check_things:=PySem.W.mg_of X G a21
 have F_pieces:=jx_ (st:=s_pieces) l22 c_22 k22
 have b_pieces:=F_pieces.binds (ps:=["tongues","text"]) fun _ _ _ _ _ _ us hl=>match us,hl with | [_,_],_=>rfl
 have m_pieces:=PySem.W.mg_of X G a22
 have F_farthest_end:=jx_ (st:=s_farthest_end) l23 c_23 k23
 have b_farthest_end:=F_farthest_end.binds (ps:=["gaps","begin","room"]) fun _ _ _ _ _ _ us hl=>match us,hl with | [_,_,_],_=>rfl
 have m_farthest_end:=PySem.W.mg_of X G a23
 have F_pressed:=jx_ (st:=s_pressed) l24 c_24 k24
 have b_pressed:=F_pressed.binds (ps:=["tongues","text","width"]) fun _ _ _ _ _ _ us hl=>match us,hl with | [_,_,_],_=>rfl
 have m_pressed:=PySem.W.mg_of X G a24
 have F_law_feed:=jx_ (st:=s_law_feed) l25 c_25 k25
 have b_law_feed:=F_law_feed.binds (ps:=["_law_script","_law_k"]) fun _ _ _ _ _ _ us hl=>match us,hl with | [_,_],_=>rfl
 have m_law_feed:=PySem.W.mg_of X G a25
 have F_law_next:=jx_ (st:=s_law_next) l26 c_26 k26
 have b_law_next:=F_law_next.binds (ps:=["_law_feed_here","_law_many"]) fun _ _ _ _ _ _ us hl=>match us,hl with | [_,_],_=>rfl
 have m_law_next:=PySem.W.mg_of X G a26
 have F_law_alike:=jx_ (st:=s_law_alike) l27 c_27 k27
 have b_law_alike:=F_law_alike.binds (ps:=["_law_found","_law_due_here"]) fun _ _ _ _ _ _ us hl=>match us,hl with | [_,_],_=>rfl
 have m_law_alike:=PySem.W.mg_of X G a27
 have F_law_letters:=jx_ (st:=s_law_letters) l28 c_28 k28
 have b_law_letters:=F_law_letters.binds (ps:=["_law_feed_here"]) fun _ _ _ _ _ _ us hl=>match us,hl with | [_],_=>rfl
 have m_law_letters:=PySem.W.mg_of X G a28
 have F_law_word:=jx_ (st:=s_law_word) l29 c_29 k29
 have b_law_word:=F_law_word.binds (ps:=["_law_feed_here","_law_letters_here","_law_most"]) fun _ _ _ _ _ _ us hl=>match us,hl with | [_,_,_],_=>rfl
 have m_law_word:=PySem.W.mg_of X G a29
 have F_law_numbers:=jx_ (st:=s_law_numbers) l30 c_30 k30
 have b_law_numbers:=F_law_numbers.binds (ps:=["_law_feed_here","_law_signs","_law_few"]) fun _ _ _ _ _ _ us hl=>match us,hl with | [_,_,_],_=>rfl
 have m_law_numbers:=PySem.W.mg_of X G a30
 have F_law_pattern:=jx_ (st:=s_law_pattern) l31 c_31 k31
 have b_law_pattern:=F_law_pattern.binds (ps:=["_law_feed_here","_law_letters_here","_law_word_here","_law_most"]) fun _ _ _ _ _ _ us hl=>match us,hl with | [_,_,_,_],_=>rfl
 have m_law_pattern:=PySem.W.mg_of X G a31
 have F_law_some_gaps:=jx_ (st:=s_law_some_gaps) l32 c_32 k32
 have b_law_some_gaps:=F_law_some_gaps.binds (ps:=["_law_feed_here","_law_word_here"]) fun _ _ _ _ _ _ us hl=>match us,hl with | [_,_],_=>rfl
 have m_law_some_gaps:=PySem.W.mg_of X G a32
 have F_law_six:=jx_ (st:=s_law_six) l33 c_33 k33
 have b_law_six:=F_law_six.binds (ps:=["_law_feed_here","_law_letters_here"]) fun _ _ _ _ _ _ us hl=>match us,hl with | [_,_],_=>rfl
 have m_law_six:=PySem.W.mg_of X G a33
 have F_law_parts:=jx_ (st:=s_law_parts) l34 c_34 k34
 have b_law_parts:=F_law_parts.binds (ps:=["_law_feed_here","_law_letters_here","_law_words"]) fun _ _ _ _ _ _ us hl=>match us,hl with | [_,_,_],_=>rfl
 have m_law_parts:=PySem.W.mg_of X G a34
 have F_law_names:=jx_ (st:=s_law_names) l35 c_35 k35
 have b_law_names:=F_law_names.binds (ps:=["_law_feed_here"]) fun _ _ _ _ _ _ us hl=>match us,hl with | [_],_=>rfl
 have m_law_names:=PySem.W.mg_of X G a35
 have F_law_made:=jx_ (st:=s_law_made) l36 c_36 k36
 have b_law_made:=F_law_made.binds (ps:=["_law_some_here"]) fun _ _ _ _ _ _ us hl=>match us,hl with | [_],_=>rfl
 have m_law_made:=PySem.W.mg_of X G a36
 have F_law_some:=jx_ (st:=s_law_some) l37 c_37 k37
 have b_law_some:=F_law_some.binds (ps:=["_law_feed_here","_law_letters_here","_law_words"]) fun _ _ _ _ _ _ us hl=>match us,hl with | [_,_,_],_=>rfl
 have m_law_some:=PySem.W.mg_of X G a37
 have F_law_things:=jx_ (st:=s_law_things) l38 c_38 k38
 have b_law_things:=F_law_things.binds (ps:=["_law_feed_here","_law_some_here","_law_words","_law_letters_here"]) fun _ _ _ _ _ _ us hl=>match us,hl with | [_,_,_,_],_=>rfl
 have m_law_things:=PySem.W.mg_of X G a38
 have F_law_spoilt:=jx_ (st:=s_law_spoilt) l39 c_39 k39
 have b_law_spoilt:=F_law_spoilt.binds (ps:=["_law_feed_here","_law_some_here","_law_things_here"]) fun _ _ _ _ _ _ us hl=>match us,hl with | [_,_,_],_=>rfl
 have m_law_spoilt:=PySem.W.mg_of X G a39
 have F_law_is_word:=jx_ (st:=s_law_is_word) l40 c_40 k40
 have b_law_is_word:=F_law_is_word.binds (ps:=["_law_text"]) fun _ _ _ _ _ _ us hl=>match us,hl with | [_],_=>rfl
 have m_law_is_word:=PySem.W.mg_of X G a40
 have F_law_is_thing:=jx_ (st:=s_law_is_thing) l41 c_41 k41
 have b_law_is_thing:=F_law_is_thing.binds (ps:=["_law_thing"]) fun _ _ _ _ _ _ us hl=>match us,hl with | [_],_=>rfl
 have m_law_is_thing:=PySem.W.mg_of X G a41
 have F_law_due:=jx_ (st:=s_law_due) l42 c_42 k42
 have b_law_due:=F_law_due.binds (ps:=["_law_some_here","_law_things_here"]) fun _ _ _ _ _ _ us hl=>match us,hl with | [_,_],_=>rfl
 have m_law_due:=PySem.W.mg_of X G a42
 have F_law_asked:=jx_ (st:=s_law_asked) l43 c_43 k43
 have b_law_asked:=F_law_asked.binds (ps:=["_law_tongues","_law_things_here","_law_width"]) fun _ _ _ _ _ _ us hl=>match us,hl with | [_,_,_],_=>rfl
 have m_law_asked:=PySem.W.mg_of X G a43
 have F_law:=jx_ (st:=s_law) l44 c_44 k44
 have b_law:=F_law.binds (ps:=["_law_script"]) fun _ _ _ _ _ _ us hl=>match us,hl with | [_],_=>rfl
 have m_law:=PySem.W.mg_of X G a44
 refine⟨PySem.W.fnOf "law" "law" (jm_ s_law) (jl_ s_law) (jf_ s_law) .none kV44 dc44 pm44 an44 cd44 ct44,fun s v=>.of_eq rfl,fun base _ _=>?_⟩
 have D_NoThing_init:Ini l.prog w K mg base ((fun i=>([c0,c1,c2,c3,c4,c5,c6,c7]:List Addr).getD i 0) 3) 1 ["self","place"] (spIni okTx ((fun i=>([c0,c1,c2,c3,c4,c5,c6,c7]:List Addr).getD i 0) 3) "place"):=⟨_,_,iC3,fC3,b_NoThing_init,ok_NoThing_init Z F_NoThing_init⟩
 have D_TooNarrow_init:Ini l.prog w K mg base ((fun i=>([c0,c1,c2,c3,c4,c5,c6,c7]:List Addr).getD i 0) 4) 1 ["self","place"] (spIni okTx ((fun i=>([c0,c1,c2,c3,c4,c5,c6,c7]:List Addr).getD i 0) 4) "place"):=⟨_,_,iC4,fC4,b_TooNarrow_init,ok_TooNarrow_init Z F_TooNarrow_init⟩
 have D_NoTongue_init:Ini l.prog w K mg base ((fun i=>([c0,c1,c2,c3,c4,c5,c6,c7]:List Addr).getD i 0) 6) 1 ["self","name"] (spIni okTs ((fun i=>([c0,c1,c2,c3,c4,c5,c6,c7]:List Addr).getD i 0) 6) "name"):=⟨_,_,iC6,fC6,b_NoTongue_init,ok_NoTongue_init Z F_NoTongue_init⟩
 have D_fitting_places:Dn l.prog w K mg base "fitting_places" 1 ["signs","framed"] spFit:=⟨_,_,m_fitting_places,F_fitting_places.kp,b_fitting_places,ok_fitting_places T F_fitting_places⟩
 have D_values_by_fits:Dn l.prog w K mg base "values_by_fits" 1 ["fits","word"] spByFits:=⟨_,_,m_values_by_fits,F_values_by_fits.kp,b_values_by_fits,ok_values_by_fits T F_values_by_fits⟩
 have D_values:Dn l.prog w K mg base "values" 2 ["patterns","word"] spValues:=⟨_,_,m_values,F_values.kp,b_values,ok_values T F_values D_fitting_places D_values_by_fits⟩
 have D_breaks:Dn l.prog w K mg base "breaks" 3 ["patterns","word"] spBreaks:=⟨_,_,m_breaks,F_breaks.kp,b_breaks,ok_breaks T F_breaks D_values⟩
 have D_is_letter:Dn l.prog w K mg base "is_letter" 1 ["sign"] spIsLetter:=⟨_,_,m_is_letter,F_is_letter.kp,b_is_letter,ok_is_letter T F_is_letter⟩
 have D_is_word:Dn l.prog w K mg base "is_word" 2 ["text"] spIsWord:=⟨_,_,m_is_word,F_is_word.kp,b_is_word,ok_is_word T F_is_word D_is_letter⟩
 have D_gaps_by_word:Dn l.prog w K mg base "gaps_by_word" 1 ["told"] spGbw:=⟨_,_,m_gaps_by_word,F_gaps_by_word.kp,b_gaps_by_word,ok_gaps_by_word T F_gaps_by_word⟩
 have D_Breaker_init:Dk l.prog w K mg base cO 2 ["self","patterns","told","head","tail"] (spBrkI cO):=⟨_,_,⟨mO,iOX10,fOX10,kO⟩,b_Breaker_init,ok_Breaker_init T O F_Breaker_init D_gaps_by_word⟩
 have D_Breaker_gaps:Dm l.prog w K mg base cO "gaps" 4 ["self","word"] (spBrkG cO):=⟨_,_,⟨iOX11,fOX11,k11⟩,b_Breaker_gaps,ok_Breaker_gaps T O F_Breaker_gaps D_breaks⟩
 have D_with_patterns:Dn l.prog w K mg base "with_patterns" 4 ["breaker","patterns"] (spWP cO):=⟨_,_,m_with_patterns,F_with_patterns.kp,b_with_patterns,ok_with_patterns T O F_with_patterns D_Breaker_init⟩
 have D_Tongues_init:Dk l.prog w K mg base cO2 1 ["self"] (spTgI cO2):=⟨_,_,⟨mO2,iOX13,fOX13,kO2⟩,b_Tongues_init,ok_Tongues_init T O2 F_Tongues_init⟩
 have D_Tongues_put:Dm l.prog w K mg base cO2 "put" 5 ["self","name","breaker"] (spPut cO cO2):=⟨_,_,⟨iOX14,fOX14,k14⟩,b_Tongues_put,ok_Tongues_put T O O2 F_Tongues_put D_with_patterns⟩
 have D_Tongues_breaker_of:DmX l.prog w K mg base cO2 "breaker_of" 3 ["self","name"] (spBof cO2 c6):=⟨_,_,⟨iOX15,fOX15,k15⟩,b_Tongues_breaker_of,ok_Tongues_breaker_of T Z O2 F_Tongues_breaker_of D_NoTongue_init⟩
 have D_Tongues_names:Dm l.prog w K mg base cO2 "names" 1 ["self"] (spTgN cO2):=⟨_,_,⟨iOX16,fOX16,k16⟩,b_Tongues_names,ok_Tongues_names T O2 F_Tongues_names⟩
 have D_mark_of:Dn l.prog w K mg base "mark_of" 1 ["thing"] spMark:=⟨_,_,m_mark_of,F_mark_of.kp,b_mark_of,ok_mark_of T TC F_mark_of⟩
 have D_word_of:Dn l.prog w K mg base "word_of" 2 ["thing"] spWordOf:=⟨_,_,m_word_of,F_word_of.kp,b_word_of,ok_word_of T F_word_of D_mark_of⟩
 have D_is_name:Dn l.prog w K mg base "is_name" 3 ["text"] spIsName:=⟨_,_,m_is_name,F_is_name.kp,b_is_name,ok_is_name T F_is_name D_is_word⟩
 have D_is_thing:Dn l.prog w K mg base "is_thing" 4 ["thing"] spIsThing:=⟨_,_,m_is_thing,F_is_thing.kp,b_is_thing,ok_is_thing T F_is_thing D_is_word D_is_name D_word_of⟩
 have D_check_things:DnX l.prog w K mg base "check_things" 5 ["text"] (spCheckX c3):=⟨_,_,m_check_things,F_check_things.kp,b_check_things,ok_check_things T Z F_check_things D_is_thing D_NoThing_init⟩
 have D_pieces:DnX l.prog w K mg base "pieces" 6 ["tongues","text"] (spPiecesX cO cO2 c3 c6):=⟨_,_,m_pieces,F_pieces.kp,b_pieces,ok_pieces T Z O O2 F_pieces D_check_things D_mark_of D_word_of D_Tongues_breaker_of D_Breaker_gaps D_NoTongue_init⟩
 have D_farthest_end:Dn l.prog w K mg base "farthest_end" 1 ["gaps","begin","room"] spFar:=⟨_,_,m_farthest_end,F_farthest_end.kp,b_farthest_end,ok_farthest_end T F_farthest_end⟩
 have D_pressed:DnX l.prog w K mg base "pressed" 7 ["tongues","text","width"] (spPressX cO cO2 c3 c6 c4):=⟨_,_,m_pressed,F_pressed.kp,b_pressed,ok_pressed T Z F_pressed D_pieces D_farthest_end D_TooNarrow_init⟩
 have D_law_feed:Dn l.prog w K mg base "_law_feed" 1 ["_law_script","_law_k"] (spFeed K):=⟨_,_,m_law_feed,F_law_feed.kp,b_law_feed,ok_law_feed T F_law_feed⟩
 have D_law_next:Dn l.prog w K mg base "_law_next" 1 ["_law_feed_here","_law_many"] spNext:=⟨_,_,m_law_next,F_law_next.kp,b_law_next,ok_law_next F_law_next⟩
 have D_law_alike:Dn l.prog w K mg base "_law_alike" 6 ["_law_found","_law_due_here"] (spAlike 6):=⟨_,_,m_law_alike,F_law_alike.kp,b_law_alike,ok_law_alike T F_law_alike b_law_alike m_law_alike 6⟩
 have D_law_letters:Dn l.prog w K mg base "_law_letters" 2 ["_law_feed_here"] spLetters:=⟨_,_,m_law_letters,F_law_letters.kp,b_law_letters,ok_law_letters T F_law_letters D_law_next⟩
 have D_law_word:Dn l.prog w K mg base "_law_word" 2 ["_law_feed_here","_law_letters_here","_law_most"] spWord:=⟨_,_,m_law_word,F_law_word.kp,b_law_word,ok_law_word T F_law_word D_law_next⟩
 have D_law_numbers:Dn l.prog w K mg base "_law_numbers" 2 ["_law_feed_here","_law_signs","_law_few"] spNumbers:=⟨_,_,m_law_numbers,F_law_numbers.kp,b_law_numbers,ok_law_numbers T F_law_numbers D_law_next⟩
 have D_law_pattern:Dn l.prog w K mg base "_law_pattern" 3 ["_law_feed_here","_law_letters_here","_law_word_here","_law_most"] spPattern:=⟨_,_,m_law_pattern,F_law_pattern.kp,b_law_pattern,ok_law_pattern T F_law_pattern D_law_next D_law_word D_law_numbers⟩
 have D_law_some_gaps:Dn l.prog w K mg base "_law_some_gaps" 2 ["_law_feed_here","_law_word_here"] spSG:=⟨_,_,m_law_some_gaps,F_law_some_gaps.kp,b_law_some_gaps,ok_law_some_gaps T F_law_some_gaps D_law_next⟩
 have D_law_six:Dn l.prog w K mg base "_law_six" 3 ["_law_feed_here","_law_letters_here"] spSix:=⟨_,_,m_law_six,F_law_six.kp,b_law_six,ok_law_six T F_law_six D_law_next D_law_word⟩
 have D_law_parts:Dn l.prog w K mg base "_law_parts" 4 ["_law_feed_here","_law_letters_here","_law_words"] spParts:=⟨_,_,m_law_parts,F_law_parts.kp,b_law_parts,ok_law_parts T F_law_parts D_law_next D_law_pattern D_law_some_gaps⟩
 have D_law_names:Dn l.prog w K mg base "_law_names" 2 ["_law_feed_here"] spNames:=⟨_,_,m_law_names,F_law_names.kp,b_law_names,ok_law_names T F_law_names D_law_next⟩
 have D_law_made:Dn l.prog w K mg base "_law_made" 6 ["_law_some_here"] (spMadeT cO cO2):=⟨_,_,m_law_made,F_law_made.kp,b_law_made,ok_law_made T O O2 F_law_made D_Tongues_init D_Breaker_init D_Tongues_put⟩
 have D_law_some:Dn l.prog w K mg base "_law_some" 5 ["_law_feed_here","_law_letters_here","_law_words"] spSome:=⟨_,_,m_law_some,F_law_some.kp,b_law_some,ok_law_some T F_law_some D_law_names D_law_next D_law_parts⟩
 have D_law_things:Dn l.prog w K mg base "_law_things" 3 ["_law_feed_here","_law_some_here","_law_words","_law_letters_here"] spThings:=⟨_,_,m_law_things,F_law_things.kp,b_law_things,ok_law_things T F_law_things D_law_next D_law_word⟩
 have D_law_spoilt:Dn l.prog w K mg base "_law_spoilt" 2 ["_law_feed_here","_law_some_here","_law_things_here"] spSpoilt:=⟨_,_,m_law_spoilt,F_law_spoilt.kp,b_law_spoilt,ok_law_spoilt T F_law_spoilt D_law_next⟩
 have D_law_is_word:Dn l.prog w K mg base "_law_is_word" 1 ["_law_text"] spIsWord:=⟨_,_,m_law_is_word,F_law_is_word.kp,b_law_is_word,ok_law_is_word T F_law_is_word⟩
 have D_law_is_thing:Dn l.prog w K mg base "_law_is_thing" 2 ["_law_thing"] spIsThing:=⟨_,_,m_law_is_thing,F_law_is_thing.kp,b_law_is_thing,ok_law_is_thing T F_law_is_thing D_law_is_word⟩
 have D_law_due:Dn l.prog w K mg base "_law_due" 3 ["_law_some_here","_law_things_here"] spDue:=⟨_,_,m_law_due,F_law_due.kp,b_law_due,ok_law_due T F_law_due D_law_is_thing⟩
 have D_law_asked:Dn l.prog w K mg base "_law_asked" 8 ["_law_tongues","_law_things_here","_law_width"] (spAsked cO cO2):=⟨_,_,m_law_asked,F_law_asked.kp,b_law_asked,ok_law_asked T Z F_law_asked D_pieces D_pressed⟩
 exact ok_law T O2 O F_law D_law_feed D_law_next D_law_alike D_law_letters D_law_six D_law_some D_law_made D_law_things D_law_spoilt D_law_due D_law_asked D_Tongues_names
theorem walk {l:PySem.W.OpenLaw} {q:Program} {loose:List Str} {XP:(Str→Option Value)→Heap→Prop} {YP:World→Heap→Prop} {d:DefRec} {K:Params→PySem.W.Frag} (hn:l.most=some 63) (hdf:d.params.defaults=[])
  (hY:∀(w:World) (h:Heap),YP w h→(K w.params).In h)
  (F:∀(w:World) (mg:Str→Option Value) (fa:Addr) (h:Heap),(K w.params).In h→h.Ns mainGlobals mg→mg d.name=some (.ref fa) →
   ∃ fd:FuncData,(∀(s:Shared) (u:Value),BindsTo s fd ⟨[u],[]⟩ [("_law_script",u)])∧∀ base:Heap,(K w.params).In base→base.Ns mainGlobals mg→FnOk l.prog w (K w.params) mg base CX0 9 fa fd ["_law_script"] (spLaw (K w.params))) :
  PySem.W.WalkO q loose XP YP l.row.toRowW d [] (fun f vs=>PySem.call f vs) :=
 L2.walk_of (n:=63) (k:=9) (x:="_law_script") (CX:=fun _=>CX0) (sp:=fun w=>spLaw (K w.params)) hn (by decide) hdf ⟨rfl,by decide,by decide⟩ hY F (fun _ _ a ns hl _ hS=>⟨a,ns,rfl,hS,hl,fun _=>rfl⟩) fun _ _ _ _ _ z=>z
end K71
open PySem PySem.W PyProof.Rows
set_option maxRecDepth 100000 in
set_option maxHeartbeats 0 in
theorem PySem.Challenge.cw_breakwords_k71_texts_refused_holds : PySem.Challenge.rw_breakwords_k71_texts_refused.Holds := by
 w_on;o_law;k_head;(case hw=>w_witness2)
 k_fill
 refine K71.walk (l:=PySem.Challenge.rw_breakwords_k71_texts_refused) rfl rfl (fun w h Y=>PySem.W.kIn_of Y) ?F
 case F =>
  intro w mg fa h KX G hmg
  refine' K71.all_mk KX G hmg ?aC0 ?oC0 ?rC0 ?gC0 ?iC0 ?aC1 ?oC1 ?pC1 ?rC1 ?sC1 ?kC1 ?lC1 ?iC1 ?fC1 ?nC1 ?aC2 ?oC2 ?pC2 ?rC2 ?sC2 ?kC2 ?lC2 ?iC2 ?fC2 ?nC2 ?aC3 ?oC3 ?pC3 ?rC3 ?sC3 ?kC3 ?lC3 ?iC3 ?fC3 ?nC3 ?aC4 ?oC4 ?pC4 ?rC4 ?sC4 ?kC4 ?lC4 ?iC4 ?fC4 ?nC4 ?aC5 ?oC5 ?pC5 ?rC5 ?sC5 ?kC5 ?lC5 ?iC5 ?fC5 ?nC5 ?aC6 ?oC6 ?pC6 ?rC6 ?sC6 ?kC6 ?lC6 ?iC6 ?fC6 ?nC6 ?aC7 ?oC7 ?pC7 ?rC7 ?sC7 ?kC7 ?lC7 ?iC7 ?ndC ?aO ?pO ?dO ?vO ?sO ?mO ?kO ?n_told_gaps ?n_patterns ?n_head ?n_tail ?aO2 ?pO2 ?dO2 ?vO2 ?sO2 ?mO2 ?kO2 ?n2_breakers ?l0 ?c_0 ?k0 ?l1 ?c_1 ?k1 ?l2 ?c_2 ?k2 ?a3 ?l3 ?c_3 ?k3 ?a4 ?l4 ?c_4 ?k4 ?a5 ?l5 ?c_5 ?k5 ?a6 ?l6 ?c_6 ?k6 ?a7 ?l7 ?c_7 ?k7 ?a8 ?l8 ?c_8 ?k8 ?a9 ?l9 ?c_9 ?k9 ?iOX10 ?fOX10 ?l10 ?c_10 ?k10 ?iOX11 ?fOX11 ?l11 ?c_11 ?k11 ?a12 ?l12 ?c_12 ?k12 ?iOX13 ?fOX13 ?l13 ?c_13 ?k13 ?iOX14 ?fOX14 ?l14 ?c_14 ?k14 ?iOX15 ?fOX15 ?l15 ?c_15 ?k15 ?iOX16 ?fOX16 ?l16 ?c_16 ?k16 ?a17 ?l17 ?c_17 ?k17 ?a18 ?l18 ?c_18 ?k18 ?a19 ?l19 ?c_19 ?k19 ?a20 ?l20 ?c_20 ?k20 ?a21 ?l21 ?c_21 ?k21 ?a22 ?l22 ?c_22 ?k22 ?a23 ?l23 ?c_23 ?k23 ?a24 ?l24 ?c_24 ?k24 ?a25 ?l25 ?c_25 ?k25 ?a26 ?l26 ?c_26 ?k26 ?a27 ?l27 ?c_27 ?k27 ?a28 ?l28 ?c_28 ?k28 ?a29 ?l29 ?c_29 ?k29 ?a30 ?l30 ?c_30 ?k30 ?a31 ?l31 ?c_31 ?k31 ?a32 ?l32 ?c_32 ?k32 ?a33 ?l33 ?c_33 ?k33 ?a34 ?l34 ?c_34 ?k34 ?a35 ?l35 ?c_35 ?k35 ?a36 ?l36 ?c_36 ?k36 ?a37 ?l37 ?c_37 ?k37 ?a38 ?l38 ?c_38 ?k38 ?a39 ?l39 ?c_39 ?k39 ?a40 ?l40 ?c_40 ?k40 ?a41 ?l41 ?c_41 ?k41 ?a42 ?l42 ?c_42 ?k42 ?a43 ?l43 ?c_43 ?k43 ?a44 ?l44 ?c_44 ?k44 ?aT ?lT ?gLETTERS ?gMOST_LETTERS ?z_len ?z_abs ?z_all ?z_range ?z_enumerate ?z_isinstance ?z_tuple ?z_list ?z_bool ?z_str ?z_int ?z_min ?z_max ?z_sorted ?z_ValueError
  (case aC0=>k_is)
  (case oC0=>k_is)
  (case rC0=>k_is)
  (case gC0=>k_is)
  (case iC0=>k_is)
  (case aC1=>k_is)
  (case oC1=>k_is)
  (case pC1=>k_is)
  (case rC1=>k_is)
  (case sC1=>k_is)
  (case kC1=>k_is)
  (case lC1=>k_is)
  (case iC1=>k_is)
  (case fC1=>k_is)
  (case nC1=>k_is)
  (case aC2=>k_is)
  (case oC2=>k_is)
  (case pC2=>k_is)
  (case rC2=>k_is)
  (case sC2=>k_is)
  (case kC2=>k_is)
  (case lC2=>k_is)
  (case iC2=>k_is)
  (case fC2=>k_is)
  (case nC2=>k_is)
  (case aC3=>k_is)
  (case oC3=>k_is)
  (case pC3=>k_is)
  (case rC3=>k_is)
  (case sC3=>k_is)
  (case kC3=>k_is)
  (case lC3=>k_is)
  (case iC3=>k_is)
  (case fC3=>k_is)
  (case nC3=>k_is)
  (case aC4=>k_is)
  (case oC4=>k_is)
  (case pC4=>k_is)
  (case rC4=>k_is)
  (case sC4=>k_is)
  (case kC4=>k_is)
  (case lC4=>k_is)
  (case iC4=>k_is)
  (case fC4=>k_is)
  (case nC4=>k_is)
  (case aC5=>k_is)
  (case oC5=>k_is)
  (case pC5=>k_is)
  (case rC5=>k_is)
  (case sC5=>k_is)
  (case kC5=>k_is)
  (case lC5=>k_is)
  (case iC5=>k_is)
  (case fC5=>k_is)
  (case nC5=>k_is)
  (case aC6=>k_is)
  (case oC6=>k_is)
  (case pC6=>k_is)
  (case rC6=>k_is)
  (case sC6=>k_is)
  (case kC6=>k_is)
  (case lC6=>k_is)
  (case iC6=>k_is)
  (case fC6=>k_is)
  (case nC6=>k_is)
  (case aC7=>k_is)
  (case oC7=>k_is)
  (case pC7=>k_is)
  (case rC7=>k_is)
  (case sC7=>k_is)
  (case kC7=>k_is)
  (case lC7=>k_is)
  (case iC7=>k_is)
  (case ndC=>decide)
  (case aO=>k_is)
  (case pO=>k_is)
  (case dO=>k_is)
  (case vO=>k_is)
  (case sO=>k_is)
  (case mO=>k_is)
  (case kO=>k_is)
  (case n_told_gaps=>k_is)
  (case n_patterns=>k_is)
  (case n_head=>k_is)
  (case n_tail=>k_is)
  (case aO2=>k_is)
  (case pO2=>k_is)
  (case dO2=>k_is)
  (case vO2=>k_is)
  (case sO2=>k_is)
  (case mO2=>k_is)
  (case kO2=>k_is)
  (case n2_breakers=>k_is)
  (case l0=>k_is)
  (case c_0=>k_is)
  (case k0=>k_is)
  (case l1=>k_is)
  (case c_1=>k_is)
  (case k1=>k_is)
  (case l2=>k_is)
  (case c_2=>k_is)
  (case k2=>k_is)
  (case a3=>k_is)
  (case l3=>k_is)
  (case c_3=>k_is)
  (case k3=>k_is)
  (case a4=>k_is)
  (case l4=>k_is)
  (case c_4=>k_is)
  (case k4=>k_is)
  (case a5=>k_is)
  (case l5=>k_is)
  (case c_5=>k_is)
  (case k5=>k_is)
  (case a6=>k_is)
  (case l6=>k_is)
  (case c_6=>k_is)
  (case k6=>k_is)
  (case a7=>k_is)
  (case l7=>k_is)
  (case c_7=>k_is)
  (case k7=>k_is)
  (case a8=>k_is)
  (case l8=>k_is)
  (case c_8=>k_is)
  (case k8=>k_is)
  (case a9=>k_is)
  (case l9=>k_is)
  (case c_9=>k_is)
  (case k9=>k_is)
  (case iOX10=>k_is)
  (case fOX10=>k_is)
  (case l10=>k_is)
  (case c_10=>k_is)
  (case k10=>k_is)
  (case iOX11=>k_is)
  (case fOX11=>k_is)
  (case l11=>k_is)
  (case c_11=>k_is)
  (case k11=>k_is)
  (case a12=>k_is)
  (case l12=>k_is)
  (case c_12=>k_is)
  (case k12=>k_is)
  (case iOX13=>k_is)
  (case fOX13=>k_is)
  (case l13=>k_is)
  (case c_13=>k_is)
  (case k13=>k_is)
  (case iOX14=>k_is)
  (case fOX14=>k_is)
  (case l14=>k_is)
  (case c_14=>k_is)
  (case k14=>k_is)
  (case iOX15=>k_is)
  (case fOX15=>k_is)
  (case l15=>k_is)
  (case c_15=>k_is)
  (case k15=>k_is)
  (case iOX16=>k_is)
  (case fOX16=>k_is)
  (case l16=>k_is)
  (case c_16=>k_is)
  (case k16=>k_is)
  (case a17=>k_is)
  (case l17=>k_is)
  (case c_17=>k_is)
  (case k17=>k_is)
  (case a18=>k_is)
  (case l18=>k_is)
  (case c_18=>k_is)
  (case k18=>k_is)
  (case a19=>k_is)
  (case l19=>k_is)
  (case c_19=>k_is)
  (case k19=>k_is)
  (case a20=>k_is)
  (case l20=>k_is)
  (case c_20=>k_is)
  (case k20=>k_is)
  (case a21=>k_is)
  (case l21=>k_is)
  (case c_21=>k_is)
  (case k21=>k_is)
  (case a22=>k_is)
  (case l22=>k_is)
  (case c_22=>k_is)
  (case k22=>k_is)
  (case a23=>k_is)
  (case l23=>k_is)
  (case c_23=>k_is)
  (case k23=>k_is)
  (case a24=>k_is)
  (case l24=>k_is)
  (case c_24=>k_is)
  (case k24=>k_is)
  (case a25=>k_is)
  (case l25=>k_is)
  (case c_25=>k_is)
  (case k25=>k_is)
  (case a26=>k_is)
  (case l26=>k_is)
  (case c_26=>k_is)
  (case k26=>k_is)
  (case a27=>k_is)
  (case l27=>k_is)
  (case c_27=>k_is)
  (case k27=>k_is)
  (case a28=>k_is)
  (case l28=>k_is)
  (case c_28=>k_is)
  (case k28=>k_is)
  (case a29=>k_is)
  (case l29=>k_is)
  (case c_29=>k_is)
  (case k29=>k_is)
  (case a30=>k_is)
  (case l30=>k_is)
  (case c_30=>k_is)
  (case k30=>k_is)
  (case a31=>k_is)
  (case l31=>k_is)
  (case c_31=>k_is)
  (case k31=>k_is)
  (case a32=>k_is)
  (case l32=>k_is)
  (case c_32=>k_is)
  (case k32=>k_is)
  (case a33=>k_is)
  (case l33=>k_is)
  (case c_33=>k_is)
  (case k33=>k_is)
  (case a34=>k_is)
  (case l34=>k_is)
  (case c_34=>k_is)
  (case k34=>k_is)
  (case a35=>k_is)
  (case l35=>k_is)
  (case c_35=>k_is)
  (case k35=>k_is)
  (case a36=>k_is)
  (case l36=>k_is)
  (case c_36=>k_is)
  (case k36=>k_is)
  (case a37=>k_is)
  (case l37=>k_is)
  (case c_37=>k_is)
  (case k37=>k_is)
  (case a38=>k_is)
  (case l38=>k_is)
  (case c_38=>k_is)
  (case k38=>k_is)
  (case a39=>k_is)
  (case l39=>k_is)
  (case c_39=>k_is)
  (case k39=>k_is)
  (case a40=>k_is)
  (case l40=>k_is)
  (case c_40=>k_is)
  (case k40=>k_is)
  (case a41=>k_is)
  (case l41=>k_is)
  (case c_41=>k_is)
  (case k41=>k_is)
  (case a42=>k_is)
  (case l42=>k_is)
  (case c_42=>k_is)
  (case k42=>k_is)
  (case a43=>k_is)
  (case l43=>k_is)
  (case c_43=>k_is)
  (case k43=>k_is)
  (case a44=>k_is)
  (case l44=>k_is)
  (case c_44=>k_is)
  (case k44=>k_is)
  (case aT=>k_is)
  (case lT=>k_is)
  (case gLETTERS=>k_is)
  (case gMOST_LETTERS=>k_is)
  (case z_len=>k_is)
  (case z_abs=>k_is)
  (case z_all=>k_is)
  (case z_range=>k_is)
  (case z_enumerate=>k_is)
  (case z_isinstance=>k_is)
  (case z_tuple=>k_is)
  (case z_list=>k_is)
  (case z_bool=>k_is)
  (case z_str=>k_is)
  (case z_int=>k_is)
  (case z_min=>k_is)
  (case z_max=>k_is)
  (case z_sorted=>k_is)
  (case z_ValueError=>k_is)
#print axioms PySem.Challenge.cw_breakwords_k71_texts_refused_holds
namespace K71
end K71
