import PyProof.Rows.All
import Wide.All
import OpenK.AllK
import Wide.FinOn
import Lean
import PyProof.EqAt
import PyProof.EqKinds
import PyProof.TupleCall
import PyProof.CompFree
import PyProof.P3Eq
import PyProof.Draws
import PyProof.EnumMake
import PyProof.WalksMore
import PyProof.StrLawsIn
import KE.KDictOf
import PyProof.ZipIter
import PyProof.CollectIter
import PyProof.TupleOfGen
import PyProof.ListRange
import KE.KRevIter
import PyProof.CollectWalk
import PyProof.ListNew
import PyProof.WalkInts
import PyProof.SeqI3
import KE.KIntText
import PyProof.AutoListH
import PyProof.ConsumeWalk
import PyProof.Rows.SortShellK
import PyProof.Rows.SortStr
import KE.KDictSum
import KE.KDictList
import PyProof.DictTruth
import PyProof.DictWalks
import KE.KDictLaws
import PyProof.Rows.TupDisplay
import KE.KItemsList
import PyProof.DictValues
import PyProof.MeetsSeq
import PyProof.FactsAll.list_4
import PyProof.FactsAll.list_3
import PyProof.Rows.StrMeet
import PyProof.StrLawsRepr
import PyProof.ExcClass2
import PyProof.ExcBaseAll.ValueError
import PyProof.InstStore
import PyProof.InstStoreFacts
import PyProof.StationsW
import PyProof.ExcArgsOwn
import PyProof.ExcAttrAll.ValueError
import PyProof.FString
import PyProof.FitsInt
import PyProof.PureStr
import PyProof.Rows.FactsFmt
import OpenK.KRaise
import PyProof.RulesAs
import PyProof.RulesDel
import PyProof.Rows.CountFlat
import PyProof.StrCalls2
import PyProof.StrLawsChain
import PyProof.StrLawsTight
import PyProof.FString5
import PyProof.CallFns
import PyProof.FactsAll.str_8
import PyProof.DictStraight
import PySem.Challenge.RW_breakwords_k90_whole_for_all_words
open PySem renaming wpAny_bind→Aa,Value→Ab,Addr→Ac,wpAny_pure→Ad,Shared→Ae,sizeLine→Af,Program→Ag,starEach→Ah,mainGlobals→Ai,model→Aj,World→Ak,wpAny_field→Al,wpAny_callSpecial?_slot→Am,compareOp→An,Heap→Ao,Around→Ap,wpAny_call_entry→Aq,sysModules→Ar,wpAny_setField_rec→As,wpAny_newObj_type→At,Stmt→Au,wpAny_seqItems→Av,IsPair→Aw,eval→Ax,Expr→Ay,wpAny_mono→Az,wpAny_truthy_bool→AA,FuncData→AB,wpAny_holding→AC,wpAny_pyIter_tuple→AD,backTo→AE,bootBuiltins→AF,tupleKind_room_in1→AG,rawInt→AH,binaryOp→AI,wpAny_updateSeq_pair→AJ,wpAny_typeNameOfWhole_keyiter→AK,wpAny_typeNameOfWhole_valiter→AL,wpAny_dictEntries→AM,wpAny_loadPart'→AN,attributeBase→AO,strIterType→AQ,cLine→AR,wpAny_Call_Name_kw→AS,wpAny_passesOwn→AT,keywordEach→AU,wpAny_pyIter_list→AV,call_meets→AW,wpAny_onRaise→AX,wpAny_attempt→AY,wpAny_typeNameOf_keyiter→AZ,wpAny_typeNameOf_valiter→A0,NameKind→A1,wpAny_dictEpoch→A2,wpAny_setField→A3,firstArgMember→A4,wpAny_pyIter_zip→A5,Draws→A6,assignEach→A7,sliceBounds→A8,wpAny_letGo→A9,pyNext→A_,foldedSetIterable→A',backToKw→Ba,codeAny_mono→Bb,wpAny_pyIter_enum→Bc,call_meetsIn→Bd,IsZip→Be,wpAny_isOneOf_valiter→Bf,tupleKind→Bg,swapsWith→Bh,wpAny_isInstance→Bj,behindInMarks→Bk,wpAny_standAt→Bl,wpAny_execs_nil→Bm,letOwnedTupleGo→Bo,getItem→Bp,getMethod→Bq,typeIs_str→Br,field→Bs,isSubtype_stop→Bt,wpAny_fieldsOf→Bu,Scope→Bv,spliced→Bx,holding→By,sizeLine_eq→Bz,Keyword→BA,atKey→BB,wpAny_pyIter_slot→BC,standAt→BD,wpAny_rule→BG,valueAt→BH,wpAny_Assign_Subscript→BI,wpAny_specialOf→BJ,wpAny_isTrue_Compare1→BK,wpAny_isOneOf_keyiter→BL,callWith→BM,subscripted→BN,wpAny_of_eq→BO,codeAny_call_builtin→BP,wpAny_newTuple→BQ,loadIfAlive→BR,BindsTo→BS,callerA→BU,fromIndex→BV,pairTrees_cons_walk→BW,wpAny_handled→BY,PlainAttrs→BZ,seqIndex_neg→B0
open PyProof.Rows renaming AllBare→Bw,envOfC→BE,subscriptTail_builtinR→BF,subscriptTail→BX
theorem B1 {p:Prop}[Decidable p](h:¬p):decide p=false:=decide_eq_false h
theorem B2 {p:Prop}[Decidable p](h:p):decide p=true:=decide_eq_true h
theorem B3 {c:Prop}{_:Decidable c}(h:¬c){α:Sort _}{t e:α}:ite c t e=e:=if_neg h
theorem B4 {c:Prop}{_:Decidable c}(h:c){α:Sort _}{t e:α}:ite c t e=t:=if_pos h
set_option hygiene false
set_option compiler.extract_closed false
local macro_rules | `(tactic| omega)=>`(tactic| lia)
local macro_rules | `(tactic| obtain $p:rcasesPatMed:=$h:term)=>`(tactic| (refine Classical.byContradiction fun hg9=>?_;rcases $h:term with $p:rcasesPatMed;refine hg9 ?_;clear hg9))
namespace PySem.W.Fast
def tw6068870427604578825:=0
def tw270300091052523702:=0
def tw11046756685733090132:=0
def tw12001162037549506984:=0
def tw16368799517918084772:=0
def tw10936834508246313030:=0
def tw10363307315507695259:=0
def tw15391101092139458467:=0
def tw17358866294688913641:=0
def tw5744696387255318243:=0
def tw16984443203139119629:=0
def tw10088317057249911060:=0
def tw11828417554762286415:=0
def tw8771020703047005545:=0
def tw17447858564613399913:=0
def tw6480935541863334900:=0
def tw12340498779191225964:=0
def tw17650919427706983869:=0
def tw16044883759438117913:=0
def tw10537170594009968124:=0
def tw4393239337739960548:=0
def tw8519438386404802048:=0
def tw16548840273409251272:=0
def tw15845014110046509323:=0
def tw98064881462737500:=0
def tw15840322150262539298:=0
def tw17734136121375584988:=0
def tw3381036974668404497:=0
def tw5174069371697015793:=0
def tw1605985057398972077:=0
def tw10147404221961073756:=0
def tw4512928076675849463:=0
def tw17217875816103672464:=0
def tw17035410539792036525:=0
def tw388088525343114438:=0
def tw12678089396383184531:=0
def tw14717386501638071877:=0
def tw14707138438847374066:=0
def tw5709284606753746556:=0
def tw16532145925891023503:=0
def tw14528806816015987829:=0
def tw6422889272227893373:=0
def tw16785680389866394385:=0
def tw1293381115685216487:=0
def tw13611131288404191466:=0
def tw5990568550851884572:=0
def tw7212684076176396690:=0
def tw10441565842150615341:=0
def tw9839793965749895465:=0
def tw4497442644884233136:=0
def tw6174657415228722009:=0
def tw17913684690965935093:=0
def tw15298393426983037976:=0
def tw10410139073437355555:=0
def tw1690985389713038464:=0
def tw12437155504079471438:=0
def tw6810565121412633109:=0
def tw4123080516011117019:=0
def tw13766543563375610487:=0
def tw17816525602466121956:=0
def tw13718693674414888725:=0
def tw12169903487956056572:=0
def tw2677508848268651575:=0
def tw12341558027495743307:=0
def tw7885584448414807455:=0
def tw2148249469728504824:=0
def tw14328902943148126266:=0
def tw15464143565886514010:=0
def tw15633883292391074287:=0
def tw18083043012655695447:=0
def tw13858893718247745739:=0
def tw15795108887245464503:=0
def tw10658027805151363276:=0
def tw16761402172220797710:=0
def tw10781898419898110994:=0
def tw16658738102644106699:=0
def tw3943102825296778785:=0
def tw12333288554055715414:=0
def tw9379775333025199571:=0
def tw11186660043248619925:=0
def tw16150004051308872353:=0
def tw5646880990593464195:=0
def tw8240634178167141626:=0
def tw14480101716114977680:=0
def tw8276860861656457821:=0
def tw1497237654910207688:=0
def tw2689070583656472243:=0
def tw10765320137090225717:=0
def tw9837299685520158751:=0
def tw14856760667720200478:=0
def tw7675539817727005142:=0
def tw10070105030979777615:=0
def tw10695010225905385954:=0
def tw18021153743070956312:=0
def tw8277120296450399741:=0
def tw6416971928834810562:=0
def tw87453657504116306:=0
def tw4286454759289573093:=0
def tw12369541319548366080:=0
def tw9115387476647389273:=0
def tw3966882819185854667:=0
def tw15082982285329878852:=0
def tw12165310254470791622:=0
def tw11939281715846443398:=0
def tw7871658333175137829:=0
def tw5764335977921497288:=0
def tw1593611004616316983:=0
def tw4771069720636892623:=0
def tw12058835774185888914:=0
def tw6959234845388140940:=0
def tw10389356129514453761:=0
def tw163572842562712872:=0
def tw8769974251009554242:=0
def tw8910840312108115307:=0
def tw1178384155431274045:=0
def tw10104611710342322004:=0
def tw12710069665798632509:=0
def tw11484450761774044517:=0
def tw1322158529349153614:=0
def tw11045077485678580837:=0
def tw5335223434975659636:=0
def tw10741416655876992155:=0
def tw15576207484743974856:=0
def tw10416795208197902619:=0
def tw17277736980851131517:=0
def tw17540017240277819872:=0
def tw16055572813537761991:=0
def tw6280285365337853592:=0
def tw452277952463850168:=0
def tw9595192044415361649:=0
def tw11060954818951589282:=0
def tw10459243969831968400:=0
def tw10909716565072940510:=0
def tw1265286198214651460:=0
def tw10483312299826629129:=0
def tw10698853013672112562:=0
def tw14881978013378138895:=0
def tw5515454982955647732:=0
def tw13882562854416544128:=0
def tw16743124383837080008:=0
def tw17681193945182453697:=0
def tw11868414527363973574:=0
def tw3433637969542233034:=0
def tw11269159106370494182:=0
def tw17657455698733598443:=0
def tw2148319725716983177:=0
def tw12557106948121536444:=0
def tw15142920685345475103:=0
def tw7955664628924606030:=0
def tw11349200424970811021:=0
def tw12604199741427817585:=0
def tw2799999745452396815:=0
def tw5537363975998889767:=0
def tw16813279533819412581:=0
def tw2417829813409009493:=0
def tw11998344681675061030:=0
def tw13068313687689241854:=0
def tw14856758547943155941:=0
def tw7598372347084081475:=0
def tw15565766227773546698:=0
def tw2364124323804796531:=0
def tw7812675844436858559:=0
def tw7992808939701056155:=0
def tw15041328775569221196:=0
def tw5834749859899863043:=0
def tw16011918942238316761:=0
def tw15560675715777242:=0
def tw7436039236619388294:=0
def tw12866137031927681093:=0
def tw8654266974375094991:=0
def tw6865739013148835915:=0
def tw5098612144483572979:=0
def tw15380262762841817746:=0
def tw8879073693448214793:=0
def tw4686553975941141633:=0
def tw6662292873149575921:=0
def tw2278261642018145493:=0
def tw6601535649587646211:=0
def tw8358390650599984730:=0
def tw10045136729955946331:=0
def tw15919274665599562206:=0
def tw13313189470206076358:=0
def tw12381130763918117867:=0
def tw16482963685572642626:=0
def tw8712385627236253870:=0
def tw5910359448750821453:=0
def tw12657763511265305855:=0
def tw16549265692311403765:=0
def tw11225563589044120986:=0
def tw10020977821966603520:=0
def tw3652537066755918185:=0
def tw9181602429008395457:=0
def tw3147696087498426872:=0
def tw16559031764030008889:=0
def tw4823883542359176214:=0
def tw5137061523604484674:=0
def tw11622521301258979836:=0
def tw17883737280097447046:=0
def tw8273042937090461877:=0
def tw13516991240839530327:=0
def tw18144149190054858069:=0
def tw1475225333867500091:=0
def tw5020650509942045458:=0
def tw9823164724271854030:=0
def tw17101918361407531303:=0
def tw1881347004207581132:=0
def tw605282757627719127:=0
def tw15491870920934243077:=0
def tw9166760404969487136:=0
def tw5636836831651538479:=0
def tw14815993867613399360:=0
def tw5522825770710661796:=0
def tw11606723948799790237:=0
def tw4820466869385336323:=0
def tw15169369483579000329:=0
def tw6616177613516833829:=0
def tw16090626881003574898:=0
def tw4599890157911552823:=0
def tw17612572885797295808:=0
def tw9065689872777093588:=0
def tw11814243361858426028:=0
def tw17037023306102655205:=0
def tw9048211451822730173:=0
def tw10930636082691073619:=0
def tw3667584727610548654:=0
def tw11125281151379316486:=0
def tw4139602526930036163:=0
def tw2035725846195494217:=0
def tw7438470468168396385:=0
def tw3961606293716954317:=0
def tw17687759915727288015:=0
def tw15025699115437287484:=0
def tw6995717958384865686:=0
def tw9257721864116419137:=0
def tw6953268961932655819:=0
def tw16655062191715895801:=0
def tw14500783033863775342:=0
def tw4583242196876846327:=0
def tw16966797129687852678:=0
def tw14799296727692803164:=0
def tw15421988064975801664:=0
def tw5943678982587878800:=0
def tw18306137372359179744:=0
def tw17502539945651643592:=0
def tw18423631898221259087:=0
def tw10578860024632833857:=0
def tw10856430062679932389:=0
def tw8852032574663945210:=0
def tw7070748998075408161:=0
def tw6357206476677454209:=0
def tw4074744855467961471:=0
def tw14760921485812568816:=0
def tw843485231174032733:=0
def tw3147174888675241244:=0
def tw15660245163100378443:=0
def tw9286458317330132457:=0
def tw14383939995230322736:=0
def tw10211779216832402692:=0
def tw14524509113539181664:=0
def tw1949302713878615871:=0
def tw14258399329891939476:=0
def tw4464638692894173323:=0
def tw5342160600988402175:=0
def tw10675291899660736339:=0
def tw17811385016102407092:=0
def tw7452823430165894462:=0
def tw13106475617050232018:=0
def tw9430078850812895974:=0
def tw2182742887522566435:=0
def tw5622453051380679072:=0
def tw13109443934997755700:=0
def tw374193414425874457:=0
def tw7123208145183338971:=0
def tw7781439700903568791:=0
def tw15150165598024544049:=0
def tw11502419266349393885:=0
def tw8217365780982694253:=0
def tw1858538042686987586:=0
def tw14795656519873920017:=0
def tw687414029120709428:=0
def tw4873676341506337528:=0
def tw14130882453483828401:=0
def tw10861822369858228735:=0
def tw15087479077941881477:=0
def tw2665946459385196010:=0
def tw9362761079804937081:=0
def tw9907068729221213746:=0
def tw17298303409219522963:=0
def tw4997690522788893250:=0
def tw17695918652634721393:=0
def tw3673843215061238115:=0
def tw15441494374897878418:=0
def tw18043231522490728820:=0
def tw16572256297422496835:=0
def tw15998209162354520696:=0
def tw1368317728489013188:=0
def tw16717068640626427060:=0
def tw2272245454264085466:=0
def tw18296762850662233527:=0
def tw6635490135766105933:=0
def tw15503062326531356088:=0
def tw4661223537873092202:=0
def tw4095848352948046843:=0
def tw18295770571423043859:=0
def tw17786526778685807732:=0
def tw8233983792801049768:=0
def tw4677560443918378061:=0
def tw3458011350718627578:=0
def tw7902298198538090705:=0
def tw1786943651945154968:=0
def tw13048095377817636131:=0
def tw9717197631071382125:=0
def tw10373209816906968653:=0
def tw2650554965688485986:=0
def tw17623314455168957950:=0
def tw9722315628424872986:=0
def tw14763443841191818379:=0
def tw11945984723484145083:=0
def tw12948485585599472075:=0
def tw8482842992113863069:=0
def tw3115706746300473256:=0
def tw2136193454678958929:=0
def tw8310576995461989189:=0
def tw6121175422896598311:=0
def tw3657125792203619312:=0
def tw5588067044567494037:=0
def tw5114147588881721399:=0
def tw10535824188832021159:=0
def tw13470239212907680857:=0
def tw9781581561567096019:=0
def tw9730278394194911875:=0
def tw610558842306353694:=0
def tw1761097206284183629:=0
def tw16581743080966628486:=0
def tw12564161090831210768:=0
def tw455389804114331398:=0
def tw17399741439980293690:=0
def tw17390348427464424185:=0
def tw16679146139802501630:=0
def tw9857161625910014468:=0
def tw6382116704650642543:=0
def tw4541247557816524237:=0
def tw3546082247297530360:=0
def tw3026996901171540346:=0
def tw8801388737247948265:=0
def tw3113035967312349105:=0
def tw16449519523032152233:=0
def tw11630390336322827745:=0
def tw17031094358148462326:=0
def tw13424684701610236317:=0
def tw6569261695738192054:=0
def tw5096968734408576864:=0
def tw3587442445273443906:=0
def tw2074096864685434278:=0
def tw18396591497610385575:=0
def tw7812564862648741901:=0
def tw119879027222198052:=0
def tw15907086409975301052:=0
def tw4069432115244661011:=0
def tw2855034911786180020:=0
def tw16306187345759186592:=0
def tw1587706360647527305:=0
def tw14597716939756646055:=0
def tw8149884251457727485:=0
def tw16877957273106658029:=0
def tw13666849498928310921:=0
def tw1278858270151903639:=0
def tw554146668694232072:=0
def tw5159395692220916572:=0
def tw12053270926652706722:=0
def tw11841992338752075968:=0
def tw17379896472282386880:=0
def tw9221514852219001083:=0
def tw2724349595597626951:=0
def tw18137534628384222669:=0
def tw3059876742310282550:=0
def tw2484090513398612997:=0
def tw13176648320403664671:=0
def tw2467963316601790204:=0
def tw9737604679228819393:=0
def tw12187740832895250227:=0
def tw10881747801655834188:=0
def tw4572719309730416742:=0
def tw13318046400251087012:=0
def tw3636658137478000201:=0
def tw18423696001241293271:=0
def tw17910830668143084143:=0
def tw8646453596320960154:=0
def tw7296557639094415274:=0
def tw16436309530993765007:=0
def tw17342433398913403068:=0
def tw10425078311376457224:=0
def tw13144804056243532361:=0
def tw12804374146003901812:=0
def tw5317787410379218618:=0
def tw3169534341679988435:=0
def tw8066006084944404373:=0
def tw10660668348223863505:=0
def tw3939504855996204098:=0
def tw14294350664194101990:=0
def tw12422163492998092382:=0
def tw7569856677803825171:=0
def tw12557213605342991499:=0
def tw4654863298671454974:=0
def tw17188762852103404437:=0
def tw9771796527066021291:=0
def tw5631339208969040203:=0
def tw14582620583372071323:=0
def tw702341020401064910:=0
def tw2669527028062962058:=0
def tw4763940330359905096:=0
def tw4624425151590028758:=0
def tw15625683587481998374:=0
def tw8063726106268765155:=0
def tw2119835771224519478:=0
def tw1539628334934201659:=0
def tw14194459447238295408:=0
def tw11040418885079150281:=0
def tw5792092850465286698:=0
def tw16237831377693221758:=0
def tw15069187899839770659:=0
def tw8025404305609362815:=0
def tw7287659791899644974:=0
def tw3846180215730918883:=0
def tw16354360788400285303:=0
def tw12394758372394861571:=0
def tw12138649243278067108:=0
def tw16680192126697089930:=0
def tw12853976392172524685:=0
def tw17305965304144473736:=0
def tw8776600163662360234:=0
def tw6058310644307209900:=0
def tw18076153483990205660:=0
def tw17350289492085150288:=0
def tw17204785414588237684:=0
def tw13908305963915525951:=0
def tw110748529047113089:=0
def tw10069462383340926805:=0
def tw8696200152828393043:=0
def tw2539644868215046486:=0
def tw1705950105179446528:=0
def tw1587087975707174852:=0
def tw6762768603066072297:=0
def tw5512843147415429966:=0
def tw8962520621937042764:=0
def tw7636531375869176528:=0
def tw18258262171574836782:=0
def tw13025596852090642551:=0
def tw12617637474828789163:=0
def tw6437312169697325481:=0
def tw6048783334190303200:=0
def tw18086575451613497145:=0
def tw15165928526231326003:=0
def tw8742764545547387014:=0
def tw3656523977631031520:=0
def tw2388994293632688822:=0
def tw14514911729224717988:=0
def tw10779937393412264758:=0
def tw17251416037715462218:=0
def tw15392428053587381942:=0
def tw18207827352612184428:=0
def tw3912645672904173283:=0
def tw8414838773757401437:=0
def tw13145517066576610072:=0
end PySem.W.Fast
set_option Elab.async false
set_option linter.all false
set_option maxRecDepth 100000
open List renaming getElem?_eq_getElem→LS,length_map→LP,getD_eq_getElem?_getD→L4,map_append→L3,length_append→Md,mem_append→L7,getElem?_map→Ma,mem_cons_of_mem→Mp,mem_singleton→Ml,mem_cons_self→Mn,getElem?_eq_some_iff→MJ,map_cons→L',mem_cons→Mc,size_toArray→Mu,length_cons→Mr,length_take→Mt,range→L5,take_length→Mz,getElem_mem→MD,replicate→Mw,take_succ→MA,mem_map→MC,length_drop→Ng,map_map→MQ,map_nil→MT,find?_cons→Nv,length_filter_le→Oz,length_singleton→O_,filter_append→Op,length_pos_iff→OA,mem_of_getElem?→Pa,length_nil→NO,Sublist→NY,range'→Nh,mem_append_right→Qc,lookup_cons→OB,not_mem_nil→OC,append_nil→OD,drop_eq_getElem_cons→RP,range_succ→Pb,mem_range→OE,mem_of_mem_take→Ro,all_eq_true→Qd,drop_append_of_le_length→UU,append_assoc→Qp,length_range→Qq,foldl_append→Qr,forIn_cons→Qe,filter_cons_of_pos→Ud,filter_cons_of_neg→Ue,any_eq_true→Qs,take_of_length_le→Uf,map_congr_left→RQ,any_cons→Pq,getLast?_eq_getElem?→UV,mem_filter→Qt,take_append_of_le_length→Zm,mem_iff_getElem→Ug,flatten_cons→RR,nodup_cons→Rp,replicate_succ→Uh,getElem?_append_right→Zn,range'_succ→RT,cons_append→RU,filter_cons→RV,flatMap_cons→Ui,eq_nil_of_length_eq_zero→ah,forIn_nil→RW,find?_eq_none→UW,foldl_cons→Uj,getElem?_eq_none→Zo,range_eq_range'→Zp,erase_cons_tail→Zq,getElem?_append_left→ai,getLast?_eq_some_iff→aj,pairwise_iff_getElem→ak,filterMap_cons→Zr,take_succ_cons→Zs,suffix_iff_eq_drop→al,filter_nil→UX,singleton_inj→Zt,any_eq_false→Zu,lookup→RX,length_replicate→am,drop_suffix→Zv,zipIdx_cons→Zw,mem_flatMap→Zx,getElem_map→Zy,sum_cons→UY,map_take→UZ,length→Uk,flatMap_append→ao,zipIdx_nil→Zz,getElem_of_mem→aq,drop_succ_cons→au,drop_zero→ZB,getElem?_take_of_lt→io,length_erase_of_mem→ip,ext_getElem?→aw,getElem?_replicate→iq,prefix_iff_eq_take→ir,drop_length→ax,nodup_range→az,getElem?_set_self→iu,filter_eq_nil_iff→iw,of_mem_zip→aA,mem_range'→aB,mem_iff_getElem?→iy,take_append_drop→iz,mem_append_left→iA,getElem?_set_ne→iB,mem_of_mem_drop→iC,mem_erase_of_ne→iD,erase_cons_head→iE,all_cons→aC,map_drop→aE,foldl→ZC,find?→ZD,any_map→aF
open PySem.Heap renaming get?_push_of_some→L1,get?_push_size→Ms,lt_size→Mh,size_push→NZ,SameBut→OF,get?_update_self→ZE,get?_update_other→iF,ExtBut→ZF,IsTuple→aG
open PySem.W renaming Frag→LR,findIn→MM,mg_none_of→Nz,nsIn→MK,keepIn→OG,mg_of→OH,emptyDict→Qu,plainGet→Rq,hasDictIn→RY,instObj→Rr,plainOver→Ul,makesIn→RZ,fnOf→Rs,methodCall_KW→aH,plainGet_of→aI,isFn→U0,callWith_K→aJ,lookIn→ZG,codeIn→ZH,methodObj→aK,specialIn→aL,cellsFrom_some→iG,takerIn→aM,OpenLaw→aN,callWith_K0→iH,kitx_list→iI
open Bool renaming false_ne_true→Mj,and_eq_true→Nn,eq_iff_iff→Oq,false_eq_true→Um,not_eq_true→Uo,true_and→R0,false_xor→Up,false_or→Uq,false_and→U1,true_or→U2,true_xor→aP
open Nat renaming le_refl→LZ,ne_of_lt→MI,lt_of_lt_of_le→NA,le_trans→MX,zero_le→MR,lt_of_le_of_lt→Qv,le_of_lt→OI,add_sub_cancel_left→U3,not_lt_zero→R1,lt_succ_self→Ur,le_succ→Qw,lt_irrefl→R3,ne_of_gt→Us,succ_mul→U4,lt_succ_of_lt→aQ,exists_eq_add_of_le'→iJ,succ_ne_self→aR,sub_self→ZI,min_eq_left→aS,mul_zero→ZJ,le_of_eq→aU,add_comm→aV,sub_zero→aW,zero_add→aX
open PySem.Str renaming ofString→Mm,empty→U5,join→Ut
open PySem.PassesOwn renaming never→MH
open PySem.Builtin.SmallTypes renaming ownedTupleIsFree→Pc,nextOf→N0,fitsIndex→Uu,ownedTupleHandOut→ZK
open PySem.F renaming plainAttrs_str→OJ,plainAttrs_list→Pd,slot_str_join→Rt,type_str_join→Ru,slot_dict_valueiterator_next→U6,slot_list_append→Uv,type_list_append→Uw,slot_dict_keyiterator_next→U7,slot_dict_get→Ux,slot_zip_next→Qx,slot_tuple_iterator_next→ZL,called_enumerate→Uy,entry_dict_get→ZM,slot_NoneType_hash→ZN,slot_dict_getitem→aY,plainAttrs_dict→aZ,args_dict_valueiterator_next_1→iK,args_zip_next_1→ZO,entry_dict_valueiterator_next→iL,args_dict_keyiterator_next_1→iM,entry_zip_next→ZP,entry_dict_keyiterator_next→iN,args_tuple_iterator_next_1→iO,entry_tuple_iterator_next→iP,args_str_split_2→a6,args_tuple_add_2→iQ,entry_str_split→a7,slot_list_extend→iR,type_list_extend→iS,entry_tuple_add→iT,args_dict_get_2→iU,args_dict_get_3→iV,slot_dict_items→iW,slot_dict_values_iter→iX,slot_str_split→a8,slot_tuple_add→iY,type_dict_get→iZ,slot_str_find→i3,type_str_find→i4
open PyProof.Rows renaming callWith_type1→Rv,slot_tuple_getitem→a9
open Int renaming toNat_natCast→OK,le_refl→OL,emod_nonneg→U8,emod_lt_of_pos→ZQ,le_trans→Uz,zero_add→UA,le_antisymm→ZR
open PySem.SeqAt renaming EqAt→OM
open PySem.Calls renaming spliced_cons→Pr,spliced_nil→Rw,callWith_builtin→ZS,evalArgs_plain→a_,Name_function_global→i5
open PySem.PyData renaming keyHash→Os,eqvAll→ZT
open Option renaming map_eq_some_iff→Rx,getD_some→Ps,bind_some→Qy,map_some→UB,isSome_map→ZU,getD_none→ba
open PySem.Builtin.Dict_items renaming ownsTuple→U9
open PySem.Value renaming isStrOf→Qf,isInt→Qg
open PySem.Heap.SameBut renaming update→UC
open PySem.Txt renaming split→N1,contains→Ry,join→Qh,startswith3→bc,slice→U_,endswith→bd
open False renaming elim→ON
open Array renaming getElem?_toList→U',toArray_toList→ZV,length_toList→ZW,toList→Va,getElem?_eq_getElem→i6,toList_inj→bf,getElem?_eq_none→i7
open PySem.Obj renaming data_mapFields→UD,isFreed_of_fields→bg,mapFields→Vb,cls_mapFields→bh,mapSeq→Vc
open PySem.Builtin.Slice renaming slicePlaces→ZX,sliceAdjust→bi,sliceApplied→i8
open PySem.Builtin.Tuple renaming tupleExact→ZY
open PySem.Builtin.List renaming listTooLong→ZZ,listFitsIndex→i9
open PySem.Builtin.Str renaming occurrences→Z0
open PySem renaming mem_of_lookup→Vd,Within→Z1,intText?→bj
open List.Sublist renaming refl→Ve
open Ne renaming symm→N2
open PySem.Paired renaming length→UE
open PySem.StrLaws renaming occBody→Vf,found_one→i_
open List.cons renaming injEq→Z2
open Classical renaming byContradiction→ja
open PySem.Sem renaming wp_loadIfAlive→jb
open Option.some renaming injEq→bm
open PySem.Builtin.Range renaming rangeSize→jc
open PySem.Builtin.Dict renaming showsAll→jd
open PySem.SeqAt.EqAt renaming none_int→je,none_str→jf,int_none→jg,str_none→jh,int_str→ji,str_int→jj
open PySem.Shared renaming heap→Z3
open Decidable renaming not_not→jk
open PySem.Around renaming under→bo
open PySem.Code renaming isFrame→bq
-- CHANGE: your row's module here,as the last of these rows
namespace L2
open PySem PySem.Spec PyProof.Rows
noncomputable abbrev Key:=Sum Int Str
noncomputable def NI:Key->Ab->Bool
 | .inl k,v=>Qg k v
 | .inr x,v=>Qf x v
noncomputable def keyH (w:Ak):Key->Int
 | .inl k=>hashInt k
 | .inr x=>hashStr w x
theorem Pe:∀{k:Key}{v:Ab},NI k v=true->(∃ i t,k=Sum.inl i/\v=Value.int i t)∨(∃ x t,k=Sum.inr x/\v=Value.str x t)
 | .inl i,v,h=>by
  obtain⟨t,e⟩:=Value.isInt_shape (k:=i) (v:=v) h
  exact .inl ⟨i,t,rfl,e⟩
 | .inr x,v,h=>by
  obtain⟨t,e⟩:=Value.isStrOf_shape (x:=x) (v:=v) h
  exact .inr ⟨x,t,rfl,e⟩
theorem br (i:Int)(t:Tok):NI (.inl i) (.int i t)=true:=by simp[NI,Qg]
theorem bt (x:Str)(t:Tok):NI (.inr x) (.str x t)=true:=by simp[NI,Qf]
theorem key_ll (a b:Int):decide ((Sum.inl a:Key)=Sum.inl b)=(a == b):=by
 by_cases e:a=b
 ·subst e;simp
 ·have h:¬ (Sum.inl a:Key)=Sum.inl b:=fun q=>e (Sum.inl.inj q)
  rw[B1 h]
  exact(beq_eq_false_iff_ne.mpr e).symm
theorem key_rr (a b:Str):decide ((Sum.inr a:Key)=Sum.inr b)=decide (a=b):=by
 by_cases e:a=b
 ·subst e;simp
 ·have h:¬ (Sum.inr a:Key)=Sum.inr b:=fun q=>e (Sum.inr.inj q)
  rw[B1 h,B1 e]
theorem key_lr (a:Int)(b:Str):decide ((Sum.inl a:Key)=Sum.inr b)=false:=B1 (fun q=>nomatch q)
theorem key_rl (a:Str)(b:Int):decide ((Sum.inr a:Key)=Sum.inl b)=false:=B1 (fun q=>nomatch q)
noncomputable def MB (prog:Ag)(w:Ak):PySem.KeyKind prog w Key where
 is:=NI
 hash:=keyH w
 inj:=fun v a b ha hb=>by
  rcases Pe ha with ⟨i,t,rfl,rfl⟩ | ⟨x,t,rfl,rfl⟩
  ·rcases Pe hb with ⟨j,u,rfl,e⟩ | ⟨y,u,rfl,e⟩
   ·injection e with e1 _;rw[e1]
   ·exact nomatch e
  ·rcases Pe hb with ⟨j,u,rfl,e⟩ | ⟨y,u,rfl,e⟩
   ·exact nomatch e
   ·injection e with e1 _;rw[e1]
 byValue:=fun k v h=>by
  rcases Pe h with ⟨i,t,rfl,rfl⟩ | ⟨x,t,rfl,rfl⟩ <;> rfl
 pyHash:=fun hv h=>by
  rcases Pe hv with ⟨i,t,rfl,rfl⟩ | ⟨x,t,rfl,rfl⟩
  ·exact wpAny_pyHash_int h
  ·exact wpAny_pyHash_str h
 eqBool:=fun hu hv h=>by
  rcases Pe hu with ⟨i,t,rfl,rfl⟩ | ⟨x,t,rfl,rfl⟩
  ·rcases Pe hv with ⟨j,u,rfl,rfl⟩ | ⟨y,u,rfl,rfl⟩
   ·rw[key_ll] at h;exact wpAny_eqBool_int h
   ·rw[key_lr] at h;exact ji i t y u _ _ _ _ h
  ·rcases Pe hv with ⟨j,u,rfl,rfl⟩ | ⟨y,u,rfl,rfl⟩
   ·rw[key_rl] at h;exact jj x t j u _ _ _ _ h
   ·rw[key_rr] at h;exact wpAny_eqBool_str h
 «strs»:=fun k x t v h=>by
  rcases Pe h with ⟨i,u,rfl,e⟩ | ⟨y,u,rfl,e⟩
  ·exact nomatch e
  ·injection e with e1 _
   subst e1
   cases v <;> rfl
theorem bu (prog:Ag)(w:Ak)(i:Int)(t:Tok):(MB prog w).is (.inl i) (.int i t)=true:=br i t
theorem bw (prog:Ag)(w:Ak)(x:Str)(t:Tok):(MB prog w).is (.inr x) (.str x t)=true:=bt x t
inductive V where
 | non | bl (b:Bool) | int (i:Int) | str (x:Str) | byt (b:Array UInt8) | flt (b:UInt64) | ref (a:Ac) | ty (n:String)
 deriving DecidableEq
def RelV:V->Ab->Prop
 | .non,u=>u=Value.none
 | .bl b,u=>u=Value.bool b
 | .int i,u=>∃ t,u=Value.int i t
 | .str x,u=>∃ t,u=Value.str x t
 | .byt b,u=>∃ t,u=Value.bytes b t
 | .flt b,u=>∃ t,u=Value.float b t
 | .ref a,u=>u=Value.ref a
 | .ty n,u=>u=Value.type n
abbrev Vals:List V->List Ab->Prop:=Paired RelV
theorem Vals.length (r:Vals xs us):xs.length=us.length:=UE r
theorem Vals.get:∀{xs:List V}{us:List Ab}{i:Nat}{x:V},Vals xs us->xs[i]?=some x->∃ u,us[i]?=some u/\RelV x u
 | _,_,_,_,.nil,e=>by simp at e
 | _,_,0,_,.cons r _,e=>by simp at e;subst e;exact⟨_,rfl,r⟩
 | _,_,i+1,x,.cons _ t,e=>by
  obtain⟨u,h1,h2⟩:=Vals.get (i:=i) (x:=x) t (by simpa using e)
  exact⟨u,by simpa using h1,h2⟩
theorem Vals.set {x:V}{u:Ab}(r:RelV x u):∀{xs:List V}{us:List Ab} (i:Nat),Vals xs us->Vals (xs.set i x) (us.set i u)
 | _,_,_,.nil=>.nil
 | _,_,0,.cons _ t=>.cons r t
 | _,_,i+1,.cons q t=>.cons q (Vals.set r i t)
theorem Vals.append:∀{xs ys:List V}{us ws:List Ab},Vals xs us->Vals ys ws->Vals (xs++ys) (us++ws)
 | _,_,_,_,.nil,s=>s
 | _,_,_,_,.cons r t,s=>.cons r (Vals.append t s)
theorem Vals.take:∀{xs:List V}{us:List Ab} (n:Nat),Vals xs us->Vals (xs.take n) (us.take n)
 | _,_,0,_=>.nil
 | _,_,_+1,.nil=>.nil
 | _,_,n+1,.cons r t=>.cons r (Vals.take n t)
theorem Vals.drop:∀{xs:List V}{us:List Ab} (n:Nat),Vals xs us->Vals (xs.drop n) (us.drop n)
 | _,_,0,r=>r
 | _,_,_+1,.nil=>.nil
 | _,_,n+1,.cons _ t=>Vals.drop n t
def RelO:Option V->Option Ab->Prop
 | some v,some u=>RelV v u
 | none,none=>True
 | _,_=>False
def KV {κ:Type}:List (κ×V)->List (κ×Ab)->Prop:=Paired fun(p:κ×V) (q:κ×Ab)=>p.1=q.1/\RelV p.2 q.2
noncomputable def kV:Key->V
 | .inl i=>.int i
 | .inr x=>.str x
inductive HO where
 | lst (xs:List V)
 | tup (xs:List V)
 | dK (B7:List (Key×V)) | dT (B7:List (List Key×V))
 | set (S:Int->Bool) (n:Nat)
 | ins (C dx:Ac) (fs:List (Str×V))
 | own (x:Ac)
 | xd (fs:List (Str×V))
 | met (f x:Ac)
 | rng (lo hi:Int)
 | frz (o:Obj) (u:HO)
 | tbl (ps:Array Ab)
 | ext (φ:Ao->Prop)
noncomputable abbrev Hp:=Ac->Option HO
noncomputable def upd (H:Hp)(a:Ac)(o:HO):Hp:=fun b=>if b=a then some o else H b
theorem LN :upd H a o a=some o:=by unfold upd;rw[B4 rfl]
theorem LU (h:b≠a):upd H a o b=H b:=by unfold upd;rw[B3 h]
theorem upd_upd :upd (upd H a o) a u=upd H a u:=by
 funext b;unfold upd;split <;> rfl
theorem Qi {H:Hp}{a b:Ac}{o u:HO}(h:H a=some o)(h':H b=some u)(d:o≠u):a≠b:=by
 intro e;subst e;rw[h] at h';exact d (Option.some.inj h')
theorem Mo {H:Hp}{a b:Ac}{o:HO}(h:H a=some o)(h':H b=none):a≠b:=by
 intro e;subst e;rw[h] at h';cases h'
def DcN (h:Ao)(a:Ac):Prop:=∀ o,h.get? a=some o->o.dict=none
theorem DcN.new (h:Ao) (items:Array Ab):DcN (h.push { cls:=.type "tuple",data:=.seq items n }) h.objs.size:=fun o e=>by
 rw[Ms _ rfl] at e;cases e;rfl
section
variable (P:Ag) (w:Ak)
def ObjOk (H:Hp)(h:Ao)(a:Ac):HO->Prop
 | .lst xs=>xs.length<=Af/\∃(its:List Ab) (n:Nat),Vals xs its/\h.get? a=some { cls:=.type "list",data:=.seq its.toArray n }
 | .tup xs=>xs.length<=Af/\∃ its:List Ab,Vals xs its/\IsTup h a its.toArray/\DcN h a
 | .dK B7=>B7.length<=Af/\(a == Ar)=false/\∃ vs,KV B7 vs/\h.DictOf (MB P w) a vs
 | .dT B7=>B7.length<=Af/\(a == Ar)=false/\∃ xs:List (List Key×Ac×Ab),
   Paired (fun(p:List Key×V) (q:List Key×Ac×Ab)=>p.1=q.1/\H q.2.1=some (.tup (p.1.map kV))/\RelV p.2 q.2.2) B7 xs /\
   ∃ o es ep,h.get? a=some o/\o.ExactDict/\o.data=.dict es ep/\es.toList=xs.map (entryOfKey (Bg (MB P w)))/\(xs.map (·.1)).Nodup
 | .set S n=>h.SetOf (intKind P w) a S n
 | .ins C dx fs=>H dx=some (.own a)/\fs.length<=1000/\dx≠a/\h.get? a=some (Rr C dx) /\
   ∃ mA,h.Ns1 dx mA/\(∀ f,RelO (fs.lookup f) (mA f))/\Z1 mA (fs.map (·.1))
 | .own _=>∃ o,h.get? a=some o
 | .xd fs=>∃ mA,h.Ns1 a mA/\∀ f,RelO (fs.lookup f) (mA f)
 | .rng lo hi=>∃ t u v,h.get? a=some { cls:=.type "range",data:=.fields #[.int lo t,.int hi u,.int 1 v] }
 | .frz o u=>h.get? a=some o/\ObjOk H h a u
 | .tbl ps=>h.get? a=some { cls:=.none,data:=.fields ps }
 | .met f x=>h.get? a=some (aK (.ref f) (.ref x))
 | .ext φ=>φ h/\(∃ o,h.get? a=some o)/\∀ h1 h2:Ao,φ h1->(∀ o,h1.get? a=some o->h2.get? a=some o)->φ h2
def HOk (H:Hp)(h:Ao):Prop:=∀ a o,H a=some o->ObjOk P w H h a o
end
section
variable {P:Ag}{w:Ak}{H H':Hp}{h h':Ao}{a:Ac}{o:HO}
theorem ObjOk.lt (x:ObjOk P w H h a o):a < h.objs.size:=by
 cases o with
 | lst xs=>obtain⟨_,_,_,_,e⟩:=x;exact Mh e
 | tup xs=>obtain⟨_,_,_,p⟩:=x;exact p.1.lt
 | dK B7=>obtain⟨_,_,_,_,o,_,_,e,_⟩:=x;exact Mh e
 | dT B7=>obtain⟨_,_,_,_,o,_,_,e,_⟩:=x;exact Mh e
 | set S n=>obtain⟨o,_,_,_,e,_⟩:=x;exact Mh e
 | ins C dx fs=>obtain⟨_,_,_,e,_⟩:=x;exact Mh e
 | own y=>obtain⟨_,e⟩:=x;exact Mh e
 | xd fs=>obtain⟨_,⟨_,_,_,e,_⟩,_⟩:=x;exact Mh e
 | rng lo hi=>obtain⟨_,_,_,e⟩:=x;exact Mh e
 | frz ob u=>obtain⟨e,_⟩:=x;exact Mh e
 | tbl ps=>exact Mh (show h.get? a=some _ from x)
 | met f y=>exact Mh (show h.get? a=some _ from x)
 | ext φ=>obtain⟨_,⟨_,e⟩,_⟩:=x;exact Mh e
theorem Paired.mapP {α β:Type}{F G:α->β->Prop}:∀{l₁:List α}{l₂:List β},Paired F l₁ l₂->(∀ a b,F a b->G a b)->Paired G l₁ l₂
 | _,_,.nil,_=>.nil
 | _,_,.cons r t,f=>.cons (f _ _ r) (Paired.mapP t f)
theorem ObjOk.stay (x:ObjOk P w H h a o)(k:∀ b u,(b=a∨H b=some (.own a))->h.get? b=some u->h'.get? b=some u)
  (ho:∀ b,H b=some (.own a)->H' b=some (.own a)) (ht:∀ b xs,H b=some (.tup xs)->H' b=some (.tup xs)):ObjOk P w H' h' a o:=by
 induction o with
 | lst xs=>obtain⟨z,its,n,r,e⟩:=x;exact⟨z,its,n,r,k _ _ (.inl rfl) e⟩
 | tup xs=>obtain⟨z,its,r,⟨ob,e,c⟩,dn⟩:=x;exact⟨z,its,r,⟨ob,k _ _ (.inl rfl) e,c⟩,fun o' e'=>by rw[k _ _ (.inl rfl) e] at e';cases e';exact dn ob e⟩
 | dK B7=>obtain⟨z,y,vs,r,ob,es,ep,e,c⟩:=x;exact⟨z,y,vs,r,ob,es,ep,k _ _ (.inl rfl) e,c⟩
 | dT B7 =>
  obtain⟨z,y,xs,r,ob,es,ep,e,c⟩:=x
  exact⟨z,y,xs,Paired.mapP r fun p q z=>⟨z.1,ht _ _ z.2.1,z.2.2⟩,ob,es,ep,k _ _ (.inl rfl) e,c⟩
 | set S n=>obtain⟨ob,es,ep,t,e,c⟩:=x;exact⟨ob,es,ep,t,k _ _ (.inl rfl) e,c⟩
 | ins C dx fs =>
  obtain⟨d,z,ne,e,mA,⟨od,es,ep,e2,c⟩,r⟩:=x
  exact⟨ho _ d,z,ne,k _ _ (.inl rfl) e,mA,⟨od,es,ep,k _ _ (.inr d) e2,c⟩,r⟩
 | own y=>obtain⟨ob,e⟩:=x;exact⟨ob,k _ _ (.inl rfl) e⟩
 | xd fs=>obtain⟨mA,⟨od,es,ep,e,c⟩,r⟩:=x;exact⟨mA,⟨od,es,ep,k _ _ (.inl rfl) e,c⟩,r⟩
 | rng lo hi=>obtain⟨t,u,v,e⟩:=x;exact⟨t,u,v,k _ _ (.inl rfl) e⟩
 | frz ob u ih=>obtain⟨e,q⟩:=x;exact⟨k _ _ (.inl rfl) e,ih q⟩
 | tbl ps =>
  have e:h.get? a=some { cls:=.none,data:=.fields ps }:=x
  show h'.get? a=some { cls:=.none,data:=.fields ps }
  exact k a _ (.inl rfl) e
 | met f y =>
  have e:h.get? a=some (aK (.ref f) (.ref y)):=x
  show h'.get? a=some (aK (.ref f) (.ref y))
  exact k a _ (.inl rfl) e
 | ext φ=>obtain⟨p,⟨o,e⟩,st⟩:=x;exact⟨st _ _ p fun o q=>k _ _ (.inl rfl) q,⟨o,k _ _ (.inl rfl) e⟩,st⟩
theorem HOk.lt (x:HOk P w H h)(e:H a=some o):a < h.objs.size:=(x a o e).lt
theorem HOk.fresh (x:HOk P w H h)(e:h.objs.size<=a):H a=none:=by
 cases q:H a with
 | none=>rfl
 | some u=>exact absurd (NA (x.lt q) e) (R3 _)
theorem HOk.kept (x:HOk P w H h)(k:∀ b u,h.get? b=some u->h'.get? b=some u):HOk P w H h':=fun a o e =>
 (x a o e).stay (fun b u _ q=>k b u q) (fun _ q=>q) fun _ _ q=>q
theorem HOk.laid (x:HOk P w H h)(k:∀ b u,h.get? b=some u->h'.get? b=some u)(hp:h.objs.size<=a)(new:ObjOk P w (upd H a o) h' a o):HOk P w (upd H a o) h':=fun b u e=>by
 have hn:=x.fresh hp
 by_cases hb:b=a
 ·subst hb;rw[LN] at e;cases e;exact new
 ·rw[LU hb] at e
  exact(x b u e).stay (fun c v _ q=>k c v q) (fun c q=>by rw[LU (Mo q hn)];exact q) fun c xs q=>by rw[LU (Mo q hn)];exact q
end
def Rd (H:Hp)(a:Ac)(u:HO):Prop:=H a=some u∨∃ o,H a=some (.frz o u)
theorem Rd.ok (r:Rd H a u) (x:HOk P w H h):ObjOk P w H h a u:=by
 rcases r with r | ⟨o,r⟩
 ·exact x a u r
 ·obtain⟨_,q⟩:=x a _ r
  exact q
def Mut:Option HO->Prop
 | some (.lst _)=>True
 | some (.dK _)=>True
 | some (.dT _)=>True
 | some (.set _ _)=>True
 | some (.ins _ _ _)=>True
 | some (.ext _)=>True
 | _=>False
section
variable {P:Ag}{w:Ak}{H:Hp}{h h':Ao}{x e:Ac}{o':HO}
theorem HOk.write (ok:HOk P w H h)(mu:Mut (H x))(he:e=x∨H e=some (.own x))(k:∀ b u,b≠e->h.get? b=some u->h'.get? b=some u)(GJ:∃ u,h'.get? e=some u)
  (new:ObjOk P w (upd H x o') h' x o'):HOk P w (upd H x o') h':=fun b u q=>by
 have nown:∀ c y,H c=some (.own y)->c≠x:=fun c y r z=>by subst z;rw[r] at mu;exact mu
 have ntup:∀ c xs,H c=some (.tup xs)->c≠x:=fun c xs r z=>by subst z;rw[r] at mu;exact mu
 by_cases hb:b=x
 ·subst hb;rw[LN] at q;cases q;exact new
 ·rw[LU hb] at q
  by_cases F6:b=e
  ·have q':H b=some (.own x):=by
    rcases he with z | z
    ·exact absurd (F6.trans z) hb
    ·rw[F6];exact z
   rw[q] at q';cases q'
   obtain⟨v,hv⟩:=GJ
   exact⟨v,by rw[F6];exact hv⟩
  ·refine(ok b u q).stay (fun c v hc r=>k c v ?_ r) (fun c r=>by rw[LU (nown c b r)];exact r) fun c xs r=>by rw[LU (ntup c xs r)];exact r
   rcases hc with rfl | hc
   ·exact F6
   ·rintro rfl
    rcases he with z | z
    ·exact nown c b hc z
    ·rw[hc] at z;cases z;exact hb rfl
end
structure Un (fs ex:List Ac)(H H':Hp)(h h':Ao):Prop where
 keep:∀ b o,h.get? b=some o->H b=none->b∉fs->b∉ex->h'.get? b=some o
 slot:∀ b o,h.get? b=some o->H b=none->b∈fs->b∉ex->∃ sl,h'.get? b=some { o with slots:=sl }
 free:∀ b o,h.get? b=some o->H b=none->b∉ex->H' b=none
 there:∀ b o,h.get? b=some o->b∉ex->∃ o',h'.get? b=some o'
 tups:∀ b xs,H b=some (.tup xs)->H' b=some (.tup xs)
 frzs:∀ b o u,H b=some (.frz o u)->H' b=some (.frz o u)
 tbls:∀ b ps,H b=some (.tbl ps)->∃ more,H' b=some (.tbl (ps++more))
section
variable {fs fs' ex ex':List Ac}{H H1 H2:Hp}{h h1 h2 h':Ao}{a x e:Ac}{o:HO}
theorem Un.any (u:Un fs ex H H1 h h1) (q:h.get? b=some ob) (n:H b=none) (hx:b∉ex):∃ sl,h1.get? b=some { ob with slots:=sl }:=by
 by_cases hb:b∈fs
 ·exact u.slot b ob q n hb hx
 ·exact⟨ob.slots,u.keep b ob q n hb hx⟩
theorem Un.kept (k:∀ b u,h.get? b=some u->h'.get? b=some u):Un fs ex H H h h' :=
 ⟨fun b ob q _ _ _=>k b ob q,fun b ob q _ _ _=>⟨ob.slots,k b ob q⟩,fun _ _ _ n _=>n,fun b ob q _=>⟨ob,k b ob q⟩,fun _ _ q=>q,fun _ _ _ q=>q,fun _ ps q=>⟨#[],by rw[q];simp⟩⟩
theorem Un.refl:Un fs ex H H h h:=Un.kept fun _ _ q=>q
theorem Un.laid (k:∀ b u,h.get? b=some u->h'.get? b=some u)(hp:h.objs.size<=a)(hn:H a=none):Un fs ex H (upd H a o) h h' where
 keep:=fun b u q _ _ _=>k b u q
 slot:=fun b u q _ _ _=>⟨u.slots,k b u q⟩
 free:=fun b u q n _=>by rw[LU (MI (NA (Mh q) hp))];exact n
 there:=fun b u q _=>⟨u,k b u q⟩
 tups:=fun b xs q=>by rw[LU (Mo q hn)];exact q
 frzs:=fun b u xs q=>by rw[LU (Mo q hn)];exact q
 tbls:=fun b ps q=>⟨#[],by rw[LU (Mo q hn),q];simp⟩
theorem Un.write (mu:Mut (H x))(he:e=x∨H e=some (.own x))(k:∀ b u,b≠e->h.get? b=some u->h'.get? b=some u)(GJ:∃ u,h'.get? e=some u):Un fs ex H (upd H x o) h h':=by
 have hx:∀ b,H b=none->b≠x:=fun b n z=>by subst z;rw[n] at mu;exact mu
 have hb:∀ b,H b=none->b≠e:=fun b n z=>by
  subst z
  rcases he with r | r
  ·exact hx b n r
  ·rw[n] at r;cases r
 have hm:∀ b u,H b=some u->¬ Mut (some u)->b≠x:=fun b u q nm z=>by subst z;rw[q] at mu;exact nm mu
 refine⟨fun b u q n _ _=>k b u (hb b n) q,fun b u q n _ _=>⟨u.slots,k b u (hb b n) q⟩,fun b u q n _=>by rw[LU (hx b n)];exact n,fun b u q _=>?_,
  fun b xs q=>by rw[LU (hm b _ q fun z=>z)];exact q,fun b u xs q=>by rw[LU (hm b _ q fun z=>z)];exact q,fun b ps q=>⟨#[],by rw[LU (hm b _ q fun z=>z),q];simp⟩⟩
 by_cases F6:b=e
 ·subst F6;exact GJ
 ·exact⟨u,k b u F6 q⟩
end
noncomputable def trk (h:Ao)(H:Hp):List Ac:=(L5 h.objs.size).filter fun a=>(H a).isSome
noncomputable def hidT (h:Ao)(H:Hp):Ao:=PySem.W.hideAll h (trk h H)
theorem bx (h:Ao)(H:Hp):(hidT h H).objs.size=h.objs.size:=PySem.W.hideAll_size _ _
theorem bz (e:h.get? b=some o) (n:H b=none):(hidT h H).get? b=some o :=
 PySem.W.hideAll_get _ e fun hm=>by
  have q:(H b).isSome=true:=(Qt.mp hm).2
  rw[n] at q;simp at q
theorem of_hidT (e:(hidT h H).get? b=some o):h.get? b=some o/\H b=none:=by
 have e':h.get? b=some o:=PySem.W.of_hideAll (trk h H) e
 refine⟨e',?_⟩
 cases q:H b with
 | none=>rfl
 | some x =>
  have hm:b∈trk h H:=Qt.mpr ⟨OE.mpr (Mh e'),by simp[q]⟩
  have z:(hidT h H).get? b=none:=PySem.W.hideAll_none (trk h H) hm
  rw[z] at e;cases e
structure Mod (K:LR)(mg:Str->Option Ab)(base:Ao):Prop where
 kin:K.In base
 glob:base.Ns Ai mg
 blt:∃ mb,base.Ns builtinsNs mb/\∀ x:Str,x≠"__name__"->mb x=AF x
 nolimit:base.NoLimit
structure Cx where
 prog:Ag
 w:Ak
 K:LR
 mg:Str->Option Ab
 base:Ao
 A:Ap
 N:List Str
 s₀:Ae
 H₀:Hp
 env:Env
 outer:List Env
 stack:List Env
 ex:List Ac
 fn:Str->Bool
 calm:Bool
 pn:List (Ac×Obj)
 xe:Ab->Ae->Prop
noncomputable def frs (l:List Env):List Ac:=l.filterMap (·.frame)
noncomputable abbrev Cx.fs (X:Cx):List Ac:=frs X.outer
def Vis (sc:Bv)(x:Str):Prop:=sc.names.lookup x=some .local∨sc.names.lookup x=some .cell∨sc.names.lookup x=some .free
def Loc (sc:Bv)(x:Str):Prop:=sc.names.lookup x=some .local∨sc.names.lookup x=some .cell
noncomputable def Look (env:Env)(h:Ao)(m:Str->Option Ab)(x:Str)(u:Ab):Prop :=
 (env.kindOf x=some .local/\m x=some u)∨((env.kindOf x=some .cell∨env.kindOf x=some .free)/\∃ c,env.cells.lookup x=some c/\h.IsCell c (some u))
structure Cx.Ok (X:Cx):Prop where
 mod:Mod X.K X.mg X.base
 kind:X.env.scope.kind=.function
 glob:X.env.globals=Ai
 blt:X.env.builtins=builtinsNs
 above:X.s₀.heap.objs.size<=X.env.locals
 inj:∀ x y c,X.env.cells.lookup x=some c->X.env.cells.lookup y=some c->x=y
 has:∀ x,(X.env.kindOf x=some .cell∨X.env.kindOf x=some .free)->∃ c,X.env.cells.lookup x=some c
 cab:∀ x c,X.fn x=true->X.env.cells.lookup x=some c->X.s₀.heap.objs.size<=c
 hd:X.calm=true->X.A.handled=none
 frames:X.A.frames=some X.stack
 stk:X.stack=X.outer∨(X.stack=X.env::X.outer/\X.env.frame=some X.env.locals)
 exf:∀ b∈X.ex,b≠X.env.locals/\∀ x c,X.env.cells.lookup x=some c->c≠b
 bs:∀ b o,X.base.get? b=some o->X.s₀.heap.get? b=some o/\X.H₀ b=none
 bsz:X.base.objs.size<=X.s₀.heap.objs.size
 noex:∀ b o,X.base.get? b=some o->b∉X.ex
 exfs:∀ b∈X.ex,b∉X.fs
 funs:X.s₀.heap.FunFrames X.base X.outer
 frf:∀ b∈X.fs,X.H₀ b=none
structure Inv (X:Cx)(B5:List (Ac×Obj))(σ:List (Option V))(H:Hp)(s:Ae):Prop where
 ok:X.Ok
 os:s.os=X.s₀.os
 bare:Bw s.gens
 base:Un X.fs X.ex X.H₀ H X.s₀.heap s.heap
 loc:∃ m,s.heap.Ns X.env.locals m/\∀(i:Nat) (x:Str) (v:V),X.N[i]?=some x->σ[i]?=some (some v)->Vis X.env.scope x->∃ u,RelV v u/\Look X.env s.heap m x u
 cell:∀ x c,X.env.cells.lookup x=some c->∃ v,s.heap.IsCell c v
 free:H X.env.locals=none
 freeC:∀ x c,X.env.cells.lookup x=some c->H c=none
 pin:∀ p∈X.pn++B5,s.heap.get? p.1=some p.2/\H p.1=none/\p.1≠X.env.locals/\p.1∉X.fs/\∀ v,p.2.data≠.cell v
 hok:HOk X.prog X.w H s.heap
 len:σ.length=X.N.length
section
variable {X:Cx}{B5:List (Ac×Obj)}{σ:List (Option V)}{H H':Hp}{s:Ae}{h':Ao}
theorem Cx.Ok.nofr (ok:X.Ok) (e:X.base.get? b=some o):b∉X.fs:=fun hb=>by
 have:=(ok.funs.mem hb).1
 rw[e] at this;cases this
theorem Inv.bs (I:Inv X B5 σ H s):∀ b o,X.base.get? b=some o->s.heap.get? b=some o/\H b=none:=fun b o e =>
 ⟨I.base.keep b o (I.ok.bs b o e).1 (I.ok.bs b o e).2 (I.ok.nofr e) (I.ok.noex b o e),I.base.free b o (I.ok.bs b o e).1 (I.ok.bs b o e).2 (I.ok.noex b o e)⟩
theorem Inv.bk (I:Inv X B5 σ H s):∀ b o,X.base.get? b=some o->s.heap.get? b=some o:=fun b o e=>(I.bs b o e).1
theorem Inv.mod (I:Inv X B5 σ H s):Mod X.K X.mg X.base:=I.ok.mod
theorem Inv.kIn (I:Inv X B5 σ H s):X.K.In s.heap:=I.ok.mod.kin.keeps I.bk
theorem Inv.lt (I:Inv X B5 σ H s):X.env.locals < s.heap.objs.size:=let ⟨_,hn,_⟩:=I.loc;hn.lt
theorem Inv.sz (I:Inv X B5 σ H s):X.s₀.heap.objs.size<=s.heap.objs.size:=MX I.ok.above (OI I.lt)
theorem Inv.nofs (I:Inv X B5 σ H s) (h:s.heap.objs.size<=a):a∉X.fs:=fun hb=>by
 obtain⟨_,o,ho,_⟩:=I.ok.funs.mem hb
 exact absurd (NA (Mh ho) (MX I.sz h)) (R3 _)
theorem Inv.cne (I:Inv X B5 σ H s):∀ x c,X.env.cells.lookup x=some c->c≠X.env.locals:=fun x c e z=>by
 obtain⟨v,o,ho,hd⟩:=I.cell x c e
 obtain⟨m,⟨o',es,ep,ho',hd',_⟩,_⟩:=I.loc
 rw[z,ho'] at ho;cases ho;rw[hd'] at hd;cases hd
theorem Inv.funs (I:Inv X B5 σ H s):s.heap.FunFrames X.base X.outer:=by
 have all:∀(l:List Env),(∀ b∈frs l,b∈X.fs)->X.s₀.heap.FunFrames X.base l->s.heap.FunFrames X.base l:=by
  intro l
  induction l with
  | nil=>intro _ _;trivial
  | cons env r ih =>
   intro hs hl
   obtain⟨hk,⟨L,o,hf,hn,ho,hd⟩,hr⟩:=hl
   have hL:L∈X.fs:=hs L (by unfold frs;rw[Zr,hf];exact Mn)
   obtain⟨sl,e⟩:=I.base.slot L o ho (I.ok.frf L hL) hL fun z=>I.ok.exfs L z hL
   exact⟨hk,⟨L,_,hf,hn,e,hd⟩,ih (fun b hb=>hs b (by unfold frs;rw[Zr,hf];exact Mp _ hb)) hr⟩
 exact all X.outer (fun _ hb=>hb) I.ok.funs
theorem Inv.stack (I:Inv X B5 σ H s):s.heap.FunFrames X.base X.stack:=by
 rcases I.ok.stk with e | ⟨e,hf⟩
 ·rw[e];exact I.funs
 ·rw[e]
  obtain⟨m,hn,_⟩:=I.loc
  refine .cons (by rw[I.ok.kind];decide) hf hn ?_ I.funs
  exact Heap.get?_none_of_le (MX I.ok.bsz I.ok.above)
theorem Inv.stkSub (I:Inv X B5 σ H s):∀ b∈frs X.stack,b∈X.env.locals::X.fs:=fun b hb=>by
 rcases I.ok.stk with e | ⟨e,hf⟩
 ·rw[e] at hb;exact Mp _ hb
 ·rw[e] at hb
  unfold frs at hb
  rw[Zr,hf] at hb
  exact hb
theorem Inv.stkFree (I:Inv X B5 σ H s):∀ b∈frs X.stack,H b=none:=fun b hb=>by
 rcases Mc.mp (I.stkSub b hb) with e | hb
 ·rw[e];exact I.free
 ·obtain⟨_,o,ho,_⟩:=I.ok.funs.mem hb
  exact I.base.free b o ho (I.ok.frf b hb) fun z=>I.ok.exfs b z hb
theorem Inv.step {g':Array GenState}{t':Nat}{d':Drawn}{ch:List Ac}(I:Inv X B5 σ H s)
  (Eg:∀ b∈ch,(b∈X.ex∨X.s₀.heap.objs.size<=b)/\b≠X.env.locals/\(∀ x c,X.env.cells.lookup x=some c->c≠b)/\∀ p∈X.pn++B5,p.1≠b)
  (keep:∀ b o,b≠X.env.locals->b∉X.fs->b∉ch->s.heap.get? b=some o->H b=none->h'.get? b=some o)
  (slot:∀ b o,b≠X.env.locals->b∈X.fs->b∉ch->s.heap.get? b=some o->H b=none->∃ sl,h'.get? b=some { o with slots:=sl }) (free:∀ b o,b∉ch->s.heap.get? b=some o->H b=none->H' b=none)
  (there:∀ b o,b∉ch->s.heap.get? b=some o->∃ o',h'.get? b=some o')
  (tups:∀ b xs,H b=some (.tup xs)->H' b=some (.tup xs)) (frzs:∀ b o u,H b=some (.frz o u)->H' b=some (.frz o u)) (tbls:∀ b ps,H b=some (.tbl ps)->∃ more,H' b=some (.tbl (ps++more)))
  (ns:∀ m,s.heap.Ns X.env.locals m->h'.Ns X.env.locals m) (hok:HOk X.prog X.w H' h') (hg:Bw g') :
  Inv X B5 σ H' { s with heap:=h',gens:=g',drawn:=d',toks:=t' }:=by
 have neL:∀ b o,X.s₀.heap.get? b=some o->b≠X.env.locals:=fun b o e=>MI (NA (Mh e) I.ok.above)
 have neC:∀ b o,X.s₀.heap.get? b=some o->b∉X.ex->b∉ch:=fun b o e hx hb=>by
  rcases (Eg b hb).1 with z | z
  ·exact hx z
  ·exact absurd (NA (Mh e) z) (R3 _)
 have cellK:∀ x c,X.env.cells.lookup x=some c->∀ v,s.heap.IsCell c v->h'.IsCell c v:=fun x c e v ⟨o,ho,hd⟩=>by
  have nch:c∉ch:=fun z=>(Eg c z).2.2.1 x c e rfl
  by_cases hc:c∈X.fs
  ·obtain⟨sl,q⟩:=slot c o (I.cne x c e) hc nch ho (I.freeC x c e)
   exact⟨_,q,hd⟩
  ·exact⟨o,keep c o (I.cne x c e) hc nch ho (I.freeC x c e),hd⟩
 refine⟨I.ok,I.os,hg,⟨fun b o e n hb hx=>?_,fun b o e n hb hx=>?_,fun b o e n hx=>?_,fun b o e hx=>?_,fun b xs e=>tups b xs (I.base.tups b xs e),fun b o xs e=>frzs b o xs (I.base.frzs b o xs e),fun b ps e=>?_⟩,?_,fun x c e=>?_,?_,fun x c e=>?_,fun p hp=>?_,hok,I.len⟩
 ·exact keep b o (neL b o e) hb (neC b o e hx) (I.base.keep b o e n hb hx) (I.base.free b o e n hx)
 ·obtain⟨sl,e1⟩:=I.base.slot b o e n hb hx
  obtain⟨sl',e2⟩:=slot b _ (neL b o e) hb (neC b o e hx) e1 (I.base.free b o e n hx)
  exact⟨sl',e2⟩
 ·obtain⟨o',e1⟩:=I.base.there b o e hx
  exact free b o' (neC b o e hx) e1 (I.base.free b o e n hx)
 ·obtain⟨o',e1⟩:=I.base.there b o e hx
  exact there b o' (neC b o e hx) e1
 ·obtain⟨m1,e1⟩:=I.base.tbls b ps e
  obtain⟨m2,e2⟩:=tbls b _ e1
  exact⟨m1++m2,by rw[e2,Array.append_assoc]⟩
 ·obtain⟨m,hn,hl⟩:=I.loc
  refine⟨m,ns m hn,fun i x v e1 e2 e3=>?_⟩
  obtain⟨u,r,l⟩:=hl i x v e1 e2 e3
  refine⟨u,r,?_⟩
  rcases l with l | ⟨k,c,e,z⟩
  ·exact .inl l
  ·exact .inr ⟨k,c,e,cellK x c e _ z⟩
 ·obtain⟨v,z⟩:=I.cell x c e
  exact⟨v,cellK x c e v z⟩
 ·obtain⟨m,⟨o,_,_,ho,_⟩,_⟩:=I.loc
  exact free _ o (fun z=>(Eg _ z).2.1 rfl) ho I.free
 ·obtain⟨v,o,ho,hd⟩:=I.cell x c e
  exact free c o (fun z=>(Eg c z).2.2.1 x c e rfl) ho (I.freeC x c e)
 ·obtain⟨e,n,ne,nf,d⟩:=I.pin p hp
  have nch:p.1∉ch:=fun z=>(Eg p.1 z).2.2.2 p hp rfl
  exact⟨keep p.1 p.2 ne nf nch e n,free p.1 p.2 nch e n,ne,nf,d⟩
theorem Inv.un (I:Inv X B5 σ H s) (u:Un X.fs [] H H' s.heap h') (hok:HOk X.prog X.w H' h'):Inv X B5 σ H' { s with heap:=h',toks:=t' }:=by
 obtain⟨m,⟨o,es,ep,ho,r⟩,_⟩:=id I.loc
 obtain⟨sl,hL⟩:=u.any ho I.free (by simp)
 exact I.step (g':=s.gens) (d':=s.drawn) (ch:=[]) (fun _ z=>nomatch z) (fun b o _ hb _ e n=>u.keep b o e n hb (by simp)) (fun b o _ hb _ e n=>u.slot b o e n hb (by simp)) (fun b o _ e n=>u.free b o e n (by simp)) (fun b o _ e=>u.there b o e (by simp)) u.tups u.frzs u.tbls (fun m' hm=>by
  obtain⟨o',es',ep',ho',r'⟩:=hm
  rw[ho] at ho';cases ho'
  exact⟨_,es',ep',hL,r'⟩) hok I.bare
theorem Inv.call (I:Inv X B5 σ H s) (u:Un (frs X.stack) ch H H' s.heap h') (hok:HOk X.prog X.w H' h') (hg:Bw g') (Eg:∀ b∈ch,(b∈X.ex∨X.s₀.heap.objs.size<=b)/\b≠X.env.locals/\(∀ x c,X.env.cells.lookup x=some c->c≠b)/\∀ p∈X.pn++B5,p.1≠b):
  Inv X B5 σ H' { s with heap:=h',gens:=g',drawn:=d',toks:=t' }:=by
 obtain⟨m,⟨o,es,ep,ho,r⟩,_⟩:=id I.loc
 obtain⟨sl,hL⟩:=u.any ho I.free fun z=>(Eg _ z).2.1 rfl
 exact I.step (ch:=ch) Eg (fun b o hL hb hc e n=>u.keep b o e n (fun z=>(Mc.mp (I.stkSub b z)).elim hL hb) hc) (fun b o _ _ hc e n=>u.any e n hc) (fun b o hc e n=>u.free b o e n hc) (fun b o hc e=>u.there b o e hc) u.tups u.frzs u.tbls (fun m' hm=>by
  obtain⟨o',es',ep',ho',r'⟩:=hm
  rw[ho] at ho';cases ho'
  exact⟨_,es',ep',hL,r'⟩) hok hg
theorem Inv.turned (I:Inv X B5 σ H s) (k:∀ b o,b≠it->s.heap.get? b=some o->h'.get? b=some o) (hn:H it=none) (hL:it≠X.env.locals) (h1:it∈X.ex∨X.s₀.heap.objs.size<=it) (h2:∀ x c,X.env.cells.lookup x=some c->c≠it) (h3:∀ p∈X.pn++B5,p.1≠it):Inv X B5 σ H { s with heap:=h',toks:=t' }:=by
 have nit:∀ b u,H b=some u->b≠it:=fun b u e z=>by rw[z,hn] at e;cases e
 refine I.step (g':=s.gens) (d':=s.drawn) (ch:=[it]) (fun b hb=>?_) (fun b o _ _ hc e _=>k b o (fun z=>hc (by simp[z])) e) (fun b o _ _ hc e _=>⟨o.slots,k b o (fun z=>hc (by simp[z])) e⟩) (fun _ _ _ _ n=>n)
  (fun b o hc e=>⟨o,k b o (fun z=>hc (by simp[z])) e⟩) (fun _ _ e=>e) (fun _ _ _ e=>e) (fun b ps e=>⟨#[],by rw[e];simp⟩) (fun m hm=>?_) (fun b u e=>?_) I.bare
 ·have e:b=it:=by simpa using hb
  subst e
  exact⟨h1,hL,h2,h3⟩
 ·obtain⟨o,es,ep,ho,r⟩:=hm
  exact⟨o,es,ep,k _ o (N2 hL) ho,r⟩
 ·refine(I.hok b u e).stay (fun c v hc q=>k c v ?_ q) (fun _ q=>q) fun _ _ q=>q
  rcases hc with z | z
  ·rw[z];exact nit b u e
  ·exact nit c _ z
theorem Inv.tok (I:Inv X B5 σ H s)(t:Nat):Inv X B5 σ H { s with toks:=t }:=I.un (h':=s.heap) (t':=t) Un.refl I.hok
theorem Inv.kept (I:Inv X B5 σ H s) (k:∀ b u,s.heap.get? b=some u->h'.get? b=some u):Inv X B5 σ H { s with heap:=h',toks:=t' }:=I.un (Un.kept k) (I.hok.kept k)
theorem Inv.laid (I:Inv X B5 σ H s) (k:∀ b u,s.heap.get? b=some u->h'.get? b=some u) (hp:s.heap.objs.size<=a) (new:ObjOk X.prog X.w (upd H a o) h' a o):
  Inv X B5 σ (upd H a o) { s with heap:=h',toks:=t' }:=I.un (Un.laid k hp (I.hok.fresh hp)) (I.hok.laid k hp new)
theorem Inv.write (I:Inv X B5 σ H s) (mu:Mut (H x)) (he:e=x∨H e=some (.own x)) (k:∀ b u,b≠e->s.heap.get? b=some u->h'.get? b=some u) (GJ:∃ u,h'.get? e=some u) (new:ObjOk X.prog X.w (upd H x o) h' x o):Inv X B5 σ (upd H x o) { s with heap:=h',toks:=t' }:=I.un (Un.write mu he k GJ) (I.hok.write mu he k GJ new)
theorem Inv.pins_of (I:Inv X B5 σ H s) (h:∀ p∈pins',s.heap.get? p.1=some p.2/\H p.1=none/\p.1≠X.env.locals/\p.1∉X.fs/\∀ v,p.2.data≠.cell v):Inv X pins' σ H s :=
 ⟨I.ok,I.os,I.bare,I.base,I.loc,I.cell,I.free,I.freeC,fun p hp=>(L7.mp hp).elim (fun z=>I.pin p (iA _ z)) (h p),I.hok,I.len⟩
theorem Vg {N:List Str}(hN:N.Nodup){i j:Nat}{x:Str}(a:N[i]?=some x)(b:N[j]?=some x):i=j:=by
 obtain⟨h1,e1⟩:=MJ.mp a
 obtain⟨h2,e2⟩:=MJ.mp b
 exact(List.getElem_inj hN).mp (e1.trans e2.symm)
theorem Vh (I:Inv X B5 σ H s) (hN:X.N.Nodup) (hi:X.N[i]?=some x) (hx:Loc X.env.scope x) (r:RelV v u) (h:∀ s',Inv X B5 (σ.set i (some v)) H s'->(∃ a,OF a s.heap s'.heap/\(a=X.env.locals∨X.env.cells.lookup x=some a))->Q () s') (hf:X.fn x=true∨X.env.scope.names.lookup x=some .local:=by first | exact .inl rfl | exact .inr rfl | assumption):wpAny M A (storeName X.env x u) Q E s:=by
 obtain⟨m,hn,hl⟩:=id I.loc
 have Ip:(X.env.scope.kind == .class || (X.env.scope.kind == .module&&X.env.locals != X.env.globals))=false:=by rw[I.ok.kind];rfl
 have hiσ:i < σ.length:=by rw[I.len];exact(MJ.mp hi).1
 have cne:=I.cne
 have tracked:∀{a:Ac}{h':Ao},(∃ o,s.heap.get? a=some o/\H a=none)->OF a s.heap h'->HOk X.prog X.w H h':=fun{a h'} ha hs b ob e=>by
  obtain⟨_,_,FI⟩:=ha
  refine(I.hok b ob e).stay (fun c w' hc q=>(hs.2 c ?_).trans q) (fun _ q=>q) fun _ _ q=>q
  rintro rfl
  rcases hc with rfl | hc
  ·rw[FI] at e;cases e
  ·rw[FI] at hc;cases hc
 rcases hx with hk | hk
 ·refine wpAny_storeName_local hk hn (fun h' hn' hs=>?_) Ip
  obtain⟨oL,_,_,Kv,_⟩:=id hn
  refine h _ ⟨I.ok,I.os,I.bare,⟨fun b o e n hb hx=>?_,fun b o e n hb hx=>?_,I.base.free,fun b o e hx=>?_,I.base.tups,I.base.frzs,I.base.tbls⟩,⟨_,hn',fun j y v' e1 e2 e3=>?_⟩,fun y c e=>?_,I.free,I.freeC,fun p hp=>?_,tracked ⟨oL,Kv,I.free⟩ hs,by simpa using I.len⟩ ⟨_,hs,.inl rfl⟩
  ·exact(hs.2 b (MI (NA (Mh e) I.ok.above))).trans (I.base.keep b o e n hb hx)
  ·obtain⟨sl,e1⟩:=I.base.slot b o e n hb hx
   exact⟨sl,(hs.2 b (MI (NA (Mh e) I.ok.above))).trans e1⟩
  ·obtain⟨o',e1⟩:=I.base.there b o e hx
   exact⟨o',(hs.2 b (MI (NA (Mh e) I.ok.above))).trans e1⟩
  ·by_cases hj:j=i
   ·subst hj
    rw[hi] at e1;cases e1
    rw[iu hiσ] at e2
    cases e2
    exact⟨u,r,.inl ⟨hk,by simp⟩⟩
   ·rw[iB (N2 hj)] at e2
    obtain⟨u',r',q⟩:=hl j y v' e1 e2 e3
    refine⟨u',r',?_⟩
    rcases q with ⟨k,e⟩ | ⟨k,c,e,z⟩
    ·refine .inl ⟨k,?_⟩
     have:y≠x:=fun e=>hj (Vg hN e1 (e▸hi))
     simp[this,e]
    ·exact .inr ⟨k,c,e,z.sameBut hs (cne y c e)⟩
  ·obtain⟨w',z⟩:=I.cell y c e
   exact⟨w',z.sameBut hs (cne y c e)⟩
  ·obtain⟨e,n,ne,nf,d⟩:=I.pin p hp
   exact⟨(hs.2 p.1 ne).trans e,n,ne,nf,d⟩
 ·have Iq:X.fn x=true:=by
   rcases hf with z | z
   ·exact z
   ·rw[z] at hk;cases hk
  obtain⟨c,hc⟩:=I.ok.has x (.inl hk)
  obtain⟨w',z⟩:=I.cell x c hc
  refine wpAny_storeName_cell I.ok.kind hk hc z (fun h' hc' hs=>?_)
  obtain⟨oc,JF,Ir⟩:=id z
  refine h { s with heap:=h' } ⟨I.ok,I.os,I.bare,⟨fun b o e n hb hx=>?_,fun b o e n hb hx=>?_,I.base.free,fun b o e hx=>?_,I.base.tups,I.base.frzs,I.base.tbls⟩,⟨m,hn.sameBut hs (N2 (cne x c hc)),fun j y v' e1 e2 e3=>?_⟩,fun y c' e=>?_,I.free,I.freeC,fun p hp=>?_,tracked ⟨oc,JF,I.freeC x c hc⟩ hs,by simpa using I.len⟩ ⟨c,hs,.inr hc⟩
  ·exact(hs.2 b (MI (NA (Mh e) (I.ok.cab x c Iq hc)))).trans (I.base.keep b o e n hb hx)
  ·obtain⟨sl,e1⟩:=I.base.slot b o e n hb hx
   exact⟨sl,(hs.2 b (MI (NA (Mh e) (I.ok.cab x c Iq hc)))).trans e1⟩
  ·obtain⟨o',e1⟩:=I.base.there b o e hx
   exact⟨o',(hs.2 b (MI (NA (Mh e) (I.ok.cab x c Iq hc)))).trans e1⟩
  ·by_cases hj:j=i
   ·subst hj
    rw[hi] at e1;cases e1
    rw[iu hiσ] at e2
    cases e2
    exact⟨u,r,.inr ⟨.inl hk,c,hc,hc'⟩⟩
   ·rw[iB (N2 hj)] at e2
    obtain⟨u',r',q⟩:=hl j y v' e1 e2 e3
    refine⟨u',r',?_⟩
    rcases q with q | ⟨k,c',e,z'⟩
    ·exact .inl q
    ·refine .inr ⟨k,c',e,z'.sameBut hs ?_⟩
     rintro rfl
     exact hj (Vg hN e1 (I.ok.inj _ _ _ e hc▸hi))
  ·by_cases JG:c'=c
   ·subst JG;exact⟨_,hc'⟩
   ·obtain⟨w2,z2⟩:=I.cell y c' e
    exact⟨w2,z2.sameBut hs JG⟩
  ·obtain⟨e,n,ne,nf,d⟩:=I.pin p hp
   refine⟨(hs.2 p.1 ?_).trans e,n,ne,nf,d⟩
   intro q
   rw[q,JF] at e
   have q':oc=p.2:=Option.some.inj e
   exact d w' (by rw[<- q'];exact Ir)
theorem Vi (I:Inv X B5 σ H s) (hN:X.N.Nodup) (hi:X.N[i]?=some x) (hx:Loc X.env.scope x) (r:RelV v u) (h:∀ s',Inv X B5 (σ.set i (some v)) H s'->Q () s') (hf:X.fn x=true∨X.env.scope.names.lookup x=some .local:=by first | exact .inl rfl | exact .inr rfl | assumption):wpAny M A (storeName X.env x u) Q E s :=
 Vh I hN hi hx r (fun s' I' _=>h s' I') hf
theorem Inv.call' (I:Inv X B5 σ H s) (ho:s'.os=s.os) (u:Un (frs X.stack) ch H H' s.heap s'.heap) (hok:HOk X.prog X.w H' s'.heap) (hg:Bw s'.gens) (Eg:∀ b∈ch,(b∈X.ex∨X.s₀.heap.objs.size<=b)/\b≠X.env.locals/\(∀ x c,X.env.cells.lookup x=some c->c≠b)/\∀ p∈X.pn++B5,p.1≠b):Inv X B5 σ H' s':=by
 obtain⟨h',g',d',t',o'⟩:=s'
 have e:o'=s.os:=ho
 subst e
 exact I.call (g':=g') (t':=t') (d':=d') u hok hg Eg
end
abbrev XK:=Ab->Option Ac->Hp->Prop
noncomputable abbrev St:=List (Option V)
abbrev VK:=V->Hp->Prop
abbrev TE:=St->Hp->VK->Prop
abbrev TT:=St->Hp->(Bool->Hp->Prop)->Prop
abbrev TA:=St->Hp->(List V->Hp->Prop)->Prop
structure Ends where
 nx:St->Hp->Prop
 rt:VK
 bk:St->Hp->Prop:=fun _ _=>False
 ct:St->Hp->Prop:=fun _ _=>False
abbrev TS:=Ends->St->Hp->Prop
def EP (X:Cx)(B5:List (Ac×Obj))(σ:St)(Q:VK)(u:Ab)(s':Ae):Prop:=∃ v H',Inv X B5 σ H' s'/\RelV v u/\Q v H'
def TP (X:Cx)(B5:List (Ac×Obj))(σ:St)(Q:Bool->Hp->Prop)(b:Bool)(s':Ae):Prop:=∃ H',Inv X B5 σ H' s'/\Q b H'
def AP (X:Cx)(B5:List (Ac×Obj))(σ:St)(Q:List V->Hp->Prop)(us:List Ab)(s':Ae):Prop:=∃ vs H',Inv X B5 σ H' s'/\Vals vs us/\Q vs H'
noncomputable def SP (X:Cx)(B5:List (Ac×Obj))(D:Ends)(f:Flow)(s':Ae):Prop :=
 match f with
 | .next=>∃ σ' H',Inv X B5 σ' H' s'/\D.nx σ' H'
 | .brk=>∃ σ' H',Inv X B5 σ' H' s'/\D.bk σ' H'
 | .cont=>∃ σ' H',Inv X B5 σ' H' s'/\D.ct σ' H'
 | .ret u=>∃ v σ' H',Inv X B5 σ' H' s'/\RelV v u/\D.rt v H'
noncomputable def PE (X:Cx)(e:Ay)(t:TE):Prop :=
 ∀(B5:List (Ac×Obj)) (s:Ae) (σ:St) (H:Hp) (Q:VK),Inv X B5 σ H s->t σ H Q->wpAny (Aj X.prog X.w) X.A (Ax e X.env) (EP X B5 σ Q) X.xe s
noncomputable def PT (X:Cx)(e:Ay)(t:TT):Prop :=
 ∀(B5:List (Ac×Obj)) (s:Ae) (σ:St) (H:Hp) (Q:Bool->Hp->Prop),Inv X B5 σ H s->t σ H Q->wpAny (Aj X.prog X.w) X.A (isTrue e X.env (Ax e X.env)) (TP X B5 σ Q) X.xe s
noncomputable def PW (X:Cx)(e:Ay)(t:TT):Prop :=
 ∀(whole:Sem Ab) (B5:List (Ac×Obj)) (s:Ae) (σ:St) (H:Hp) (Q:Bool->Hp->Prop),Inv X B5 σ H s->t σ H Q->wpAny (Aj X.prog X.w) X.A (isTrue e X.env whole) (TP X B5 σ Q) X.xe s
theorem PW.pt (h:PW X e t):PT X e t:=h _
noncomputable def PA (X:Cx)(es:List Ay)(t:TA):Prop :=
 ∀(pos:Pos) (B5:List (Ac×Obj)) (s:Ae) (σ:St) (H:Hp) (Q:List V->Hp->Prop),Inv X B5 σ H s->t σ H Q->wpAny (Aj X.prog X.w) X.A (Bx (AE pos (Ah es X.env))) (AP X B5 σ Q) X.xe s
noncomputable def PS (X:Cx)(st:Au)(t:TS):Prop :=
 ∀(B5:List (Ac×Obj)) (s:Ae) (σ:St) (H:Hp) (D:Ends),Inv X B5 σ H s->t D σ H->wpAny (Aj X.prog X.w) X.A (exec st X.env) (SP X B5 D) X.xe s
noncomputable def PSs (X:Cx)(st:List Au)(t:TS):Prop :=
 ∀(B5:List (Ac×Obj)) (s:Ae) (σ:St) (H:Hp) (D:Ends),Inv X B5 σ H s->t D σ H->wpAny (Aj X.prog X.w) X.A (execs st X.env) (SP X B5 D) X.xe s
theorem thn (h:wpAny M A t Q E s) (hQ:∀ a s,Q a s->Q' a s):wpAny M A t Q' E s:=Az h hQ fun _ _ x=>x
section
variable {X:Cx}
theorem bin {a b:Ay}{ta tb:TE}(ha:PE X a ta)(hb:PE X b tb){B5:List (Ac×Obj)}{s:Ae}{σ:St}{H:Hp}{R:V->V->Hp->Prop}(I:Inv X B5 σ H s)(h:ta σ H fun x H1=>tb σ H1 fun y H2=>R x y H2)
  {α:Type}{Q:α->Ae->Prop}{f:Ab->Ab->Sem α}
  (hf:∀ v u s2 x y H2,Inv X B5 σ H2 s2->RelV x v->RelV y u->R x y H2->wpAny (Aj X.prog X.w) X.A (f v u) Q X.xe s2) :
  wpAny (Aj X.prog X.w) X.A (Ax a X.env) (fun v s₁=>wpAny (Aj X.prog X.w) X.A (Ax b X.env) (fun u s₂=>wpAny (Aj X.prog X.w) X.A (f v u) Q X.xe s₂) X.xe s₁) X.xe s:=by
 refine thn (ha B5 s σ H _ I h) fun v s1 hI9=>?_
 obtain⟨x,H1,I1,r1,q1⟩:=hI9
 refine thn (hb B5 s1 σ H1 _ I1 q1) fun u s2 hI9=>?_
 obtain⟨y,H2,I2,r2,q2⟩:=hI9
 exact hf v u s2 x y H2 I2 r1 r2 q2
def tVar (i:Nat):TE:=fun σ H Q=>∃ v,σ[i]?=some (some v)/\Q v H
def tC (v:V):TE:=fun _ H Q=>Q v H
theorem pe_var (hN:X.N[i]?=some x) (hv:Vis X.env.scope x) (hd:(x == ("__debug__":Str))=false:=by decide) (Ej:(x == ("__classdict__":Str))=false:=by decide):PE X (.Name x pos) (tVar i):=by
 intro B5 s σ H Q I h
 obtain⟨v,e,h⟩:=h
 obtain⟨m,hn,hl⟩:=I.loc
 obtain⟨u,r,l⟩:=hl i x v hN e hv
 have fin:EP X B5 σ Q u s:=⟨v,H,I,r,h⟩
 rcases l with ⟨hk,hm⟩ | ⟨hk,c,hc,FJ⟩
 ·exact wpAny_Name (wpAny_loadName_local I.ok.kind hk hn hm fin) hd
 ·rcases hk with hk | hk
  ·exact wpAny_Name (wpAny_loadName_cell I.ok.kind hk hc FJ fin) hd
  ·exact wpAny_Name (wpAny_loadName_free I.ok.kind hk hc FJ fin Ej) hd
theorem LL :PE X (.Constant (.int i) j pos) (tC (.int i)):=fun _ _ _ H _ I h=>wpAny_Constant_int ⟨.int i,H,I.tok _,⟨_,rfl⟩,h⟩
theorem Ni :PE X (.Constant (.bool b) j pos) (tC (.bl b)):=fun _ _ _ H _ I h=>Constant_bool ⟨.bl b,H,I,rfl,h⟩
theorem Qj :PE X (.Constant .none j pos) (tC .non):=fun _ _ _ H _ I h=>Constant_none ⟨.non,H,I,rfl,h⟩
theorem Vj :PE X (.Constant (.str x) j pos) (tC (.str x)):=fun _ _ _ H _ I h=>Calls.Constant_str ⟨.str x,H,I.tok _,⟨_,rfl⟩,h⟩
def Gl (X:Cx)(x:Str):Prop:=X.env.kindOf x=some .globalImplicit
theorem UF (I:Inv X B5 σ H s) (hg:Gl X x) (hm:X.mg x=some u) (h:Q u s) (hd:(x == ("__debug__":Str))=false:=by decide):wpAny (Aj X.prog X.w) X.A (Ax (.Name x pos) X.env) Q E s :=
 i5 I.ok.kind hg (Calls.loadGlobal_global (by rw[I.ok.glob];exact I.mod.glob.keeps I.bk) hm h) hd
theorem Pt (I:Inv X B5 σ H s) (hg:Gl X x) (hm:X.mg x=none) (hv:AF x=some u) (h:Q u s) (hn:x≠"__name__":=by decide) (hd:(x == ("__debug__":Str))=false:=by decide):wpAny (Aj X.prog X.w) X.A (Ax (.Name x pos) X.env) Q E s:=by
 obtain⟨mb,h1,h2⟩:=I.mod.blt
 exact i5 I.ok.kind hg (Calls.loadGlobal_builtin (by rw[I.ok.glob];exact I.mod.glob.keeps I.bk) hm (by rw[I.ok.blt];exact h1.keeps I.bk) ((h2 x hn).trans hv) h) hd
theorem Rz (hg:Gl X x) (hm:X.mg x=some u) (r:RelV v u) (hd:(x == ("__debug__":Str))=false:=by decide):PE X (.Name x pos) (tC v) :=
 fun _ _ _ H _ I h=>UF I hg hm ⟨v,H,I,r,h⟩ hd
theorem pe_bltn (hg:Gl X x) (hm:X.mg x=none) (hv:AF x=some u) (r:RelV v u) (hn:x≠"__name__":=by decide) (hd:(x == ("__debug__":Str))=false:=by decide):PE X (.Name x pos) (tC v) :=
 fun _ _ _ H _ I h=>Pt I hg hm hv ⟨v,H,I,r,h⟩ hn hd
variable {a b:Ay}{ta tb:TE}{pos:Pos}
noncomputable def PC (X:Cx)(op:CmpOp)(a b:Ay)(t:TE):Prop :=
 ∀(B5:List (Ac×Obj)) (s:Ae) (σ:St) (H:Hp) (Q:VK),Inv X B5 σ H s->t σ H Q ->
  wpAny (Aj X.prog X.w) X.A (Ax a X.env) (fun v s₁=>wpAny (Aj X.prog X.w) X.A (Ax b X.env) (fun u s₂=>wpAny (Aj X.prog X.w) X.A (An op v u) (EP X B5 σ Q) X.xe s₂) X.xe s₁) X.xe s
def tB (t:TE):TT:=fun σ H Q=>t σ H fun x H1=>∃ c,x=.bl c/\Q c H1
theorem RA (h:PC X op a b t) (h1:Bk op b=false:=by first | exact nobehind _ (by decide) (by decide) | rfl):PT X (.Compare a [op] [b] pos) (tB t):=by
 intro B5 s σ H Q I hw
 refine BK (thn (h B5 s σ H _ I hw) fun v s1 h1=>thn h1 fun u s2 h2=>thn h2 fun c s3 hI9=>?_) h1
 obtain⟨x,H1,I1,r1,q1⟩:=hI9
 obtain⟨d,rfl,q⟩:=q1
 cases r1
 exact AA ⟨H1,I1,q⟩
variable {tA tB':TT}{rest:List Ay}
def tAnd (t u:TT):TT:=fun σ H Q=>t σ H fun c H1=>if c=true then u σ H1 Q else Q false H1
def tOr (t u:TT):TT:=fun σ H Q=>t σ H fun c H1=>if c=true then Q true H1 else u σ H1 Q
def tNot (t:TT):TT:=fun σ H Q=>t σ H fun c H1=>Q (!c) H1
theorem Qz (ha:PT X a tA):PW X (.BoolOp .And [a] pos) tA:=by
 intro wh B5 s σ H Q I h
 refine isTrue_and (thn (ha B5 s σ H Q I h) fun c s1 e=>?_)
 cases c with
 | true=>exact isTrue_and_nil e
 | false=>exact e
theorem QC (ha:PT X a tA):PW X (.BoolOp .Or [a] pos) tA:=by
 intro wh B5 s σ H Q I h
 refine isTrue_or (thn (ha B5 s σ H Q I h) fun c s1 e=>?_)
 cases c with
 | false=>exact isTrue_or_nil e
 | true=>exact e
theorem QD (ha:PT X a tA)(hb:PW X (.BoolOp .And (b::rest) pos) tB'):PW X (.BoolOp .And (a::b::rest) pos) (tAnd tA tB'):=by
 intro wh B5 s σ H Q I h
 refine isTrue_and (thn (ha B5 s σ H _ I h) fun c s1 ⟨H1,I1,q1⟩=>?_)
 cases c with
 | true=>exact hb wh B5 s1 σ H1 Q I1 q1
 | false=>exact⟨H1,I1,q1⟩
theorem Pf (ha:PT X a tA)(hb:PW X (.BoolOp .Or (b::rest) pos) tB'):PW X (.BoolOp .Or (a::b::rest) pos) (tOr tA tB'):=by
 intro wh B5 s σ H Q I h
 refine isTrue_or (thn (ha B5 s σ H _ I h) fun c s1 ⟨H1,I1,q1⟩=>?_)
 cases c with
 | true=>exact⟨H1,I1,q1⟩
 | false=>exact hb wh B5 s1 σ H1 Q I1 q1
theorem OO (ha:PT X a tA):PT X (.UnaryOp .Not a pos) (tNot tA):=by
 intro B5 s σ H Q I h
 exact isTrue_not (ha B5 s σ H (fun c H1=>Q (!c) H1) I h)
def tAndV (ta tb:TE):TE:=fun σ H Q=>ta σ H fun x H1=>∃ c,x=.bl c/\if c=true then tb σ H1 Q else Q (.bl false) H1
def tOrV (ta tb:TE):TE:=fun σ H Q=>ta σ H fun x H1=>∃ c,x=.bl c/\if c=true then Q (.bl true) H1 else tb σ H1 Q
theorem Pu (h:PE X a t):PE X (.BoolOp op [a] pos) t:=fun B5 s σ H Q I hw=>BoolOp_one (h B5 s σ H Q I hw)
theorem RB (ha:PE X a ta)(hb:PE X (.BoolOp .And (b::rest) pos) tb):PE X (.BoolOp .And (a::b::rest) pos) (tAndV ta tb):=by
 intro B5 s σ H Q I h
 refine BoolOp_and (thn (ha B5 s σ H _ I h) fun v s1 hI9=>?_)
 obtain⟨x,H1,I1,r1,q1⟩:=hI9
 obtain⟨c,rfl,q1⟩:=q1
 cases r1
 refine AA ?_
 cases c with
 | true=>exact hb B5 s1 σ H1 Q I1 q1
 | false=>exact⟨.bl false,H1,I1,rfl,q1⟩
theorem R4 (ha:PE X a ta)(hb:PE X (.BoolOp .Or (b::rest) pos) tb):PE X (.BoolOp .Or (a::b::rest) pos) (tOrV ta tb):=by
 intro B5 s σ H Q I h
 refine BoolOp_or (thn (ha B5 s σ H _ I h) fun v s1 hI9=>?_)
 obtain⟨x,H1,I1,r1,q1⟩:=hI9
 obtain⟨c,rfl,q1⟩:=q1
 cases r1
 refine AA ?_
 cases c with
 | false=>exact hb B5 s1 σ H1 Q I1 q1
 | true=>exact⟨.bl true,H1,I1,rfl,q1⟩
def tIf (t:TT)(ta tb:TE):TE:=fun σ H Q=>t σ H fun c H1=>if c=true then ta σ H1 Q else tb σ H1 Q
theorem R5 (hc:PT X c tA) (ha:PE X a ta) (hb:PE X b tb):PE X (.IfExp c a b pos) (tIf tA ta tb):=by
 intro B5 s σ H Q I h
 refine wpAny_IfExp (thn (hc B5 s σ H _ I h) fun d s1 ⟨H1,I1,q1⟩=>?_)
 cases d with
 | true=>exact ha B5 s1 σ H1 Q I1 q1
 | false=>exact hb B5 s1 σ H1 Q I1 q1
end
noncomputable def SqL (K:LR)(H:Hp)(a:Ac)(xs:List V):Prop :=
 Rd H a (.lst xs) ∨
  ∃(o:Obj) (its:Array Ab) (n:Nat),K.lookup a=some o/\o.cls=.type "list"/\o.dict=none/\o.data=.seq its n/\its.size<=Af/\Vals xs its.toList
noncomputable def SqT (K:LR)(H:Hp)(a:Ac)(xs:List V):Prop :=
 Rd H a (.tup xs) ∨
  ∃(o:Obj) (its:Array Ab) (n:Nat),K.lookup a=some o/\o.cls=.type "tuple"/\o.data=.seq its n/\its.size<=Af/\Vals xs its.toList
noncomputable def absV:Ab->Option V
 | .none=>some .non
 | .bool b=>some (.bl b)
 | .int i _=>some (.int i)
 | .str x _=>some (.str x)
 | .bytes b _=>some (.byt b)
 | .float b _=>some (.flt b)
 | .ref a=>some (.ref a)
 | .type n=>some (.ty n)
 | _=>none
theorem RelV.abs (r:RelV x u):absV u=some x:=by
 cases x with
 | non=>cases r;rfl
 | bl _=>cases r;rfl
 | int _=>obtain⟨t,rfl⟩:=r;rfl
 | str _=>obtain⟨t,rfl⟩:=r;rfl
 | byt _=>obtain⟨t,rfl⟩:=r;rfl
 | flt _=>obtain⟨t,rfl⟩:=r;rfl
 | ref _=>cases r;rfl
 | ty _=>cases r;rfl
theorem RelV.inj (r:RelV x u) (q:RelV y u):x=y:=Option.some.inj (r.abs.symm.trans q.abs)
theorem Vals.inj:∀{xs ys:List V}{us:List Ab},Vals xs us->Vals ys us->xs=ys
 | _,_,_,.nil,.nil=>rfl
 | _,_,_,.cons r t,.cons r' t'=>by rw[r.inj r',Vals.inj t t']
section
variable {X:Cx}{B5:List (Ac×Obj)}{σ:St}{H:Hp}{s:Ae}{a:Ac}{xs ys:List V}
theorem SqL.of {K:LR}(h:H a=some (.lst xs)):SqL K H a xs:=.inl (.inl h)
theorem SqT.of {K:LR}(h:H a=some (.tup xs)):SqT K H a xs:=.inl (.inl h)
theorem Inv.list (I:Inv X B5 σ H s)(h:SqL X.K H a xs):∃ its:List Ab,Vals xs its/\PlainL s.heap a its.toArray/\xs.length<=Af:=by
 rcases h with h | ⟨o,its,n,hk,hc,hd,hs,hz,r⟩
 ·obtain⟨z,its,n,r,e⟩:=h.ok I.hok
  exact⟨its,r,⟨_,n,e,rfl,rfl,rfl⟩,z⟩
 ·refine⟨its.toList,r,⟨o,n,I.kIn a o hk,hc,hd,by simpa using hs⟩,?_⟩
  have e:=r.length
  simp only[ZW] at e
  omega
theorem Inv.tuple (I:Inv X B5 σ H s)(h:SqT X.K H a xs):∃ its:List Ab,Vals xs its/\IsTup s.heap a its.toArray/\xs.length<=Af:=by
 rcases h with h | ⟨o,its,n,hk,hc,hs,hz,r⟩
 ·obtain⟨z,its,r,p⟩:=h.ok I.hok
  exact⟨its,r,p.1,z⟩
 ·refine⟨its.toList,r,⟨o,I.kIn a o hk,hc,n,by simpa using hs⟩,?_⟩
  have e:=r.length
  simp only[ZW] at e
  omega
theorem Inv.list_inj (I:Inv X B5 σ H s)(h:SqL X.K H a xs)(h':SqL X.K H a ys):xs=ys:=by
 obtain⟨its,r,⟨o,n,e,_,_,d⟩,_⟩:=I.list h
 obtain⟨its',r',⟨o',n',e',_,_,d'⟩,_⟩:=I.list h'
 rw[e] at e';cases e'
 rw[d] at d'
 injection d' with d1 _
 have:its=its':=by simpa using congrArg Va d1
 subst this
 exact r.inj r'
theorem Inv.tuple_inj (I:Inv X B5 σ H s)(h:SqT X.K H a xs)(h':SqT X.K H a ys):xs=ys:=by
 obtain⟨its,r,⟨o,e,_,n,d⟩,_⟩:=I.tuple h
 obtain⟨its',r',⟨o',e',_,n',d'⟩,_⟩:=I.tuple h'
 rw[e] at e';cases e'
 rw[d] at d'
 injection d' with d1 _
 have:its=its':=by simpa using congrArg Va d1
 subst this
 exact r.inj r'
end
noncomputable abbrev Cx.wish (X:Cx)(E:Ab->Ae->Prop):Cx:={ X with xe:=E }
noncomputable abbrev Cx.nox (X:Cx):Cx:=X.wish fun _ _=>False
theorem Cx.Ok.wish {X:Cx}(ok:X.Ok)(E:Ab->Ae->Prop):(X.wish E).Ok :=
 ⟨ok.mod,ok.kind,ok.glob,ok.blt,ok.above,ok.inj,ok.has,ok.cab,ok.hd,ok.frames,ok.stk,ok.exf,ok.bs,ok.bsz,ok.noex,ok.exfs,ok.funs,ok.frf⟩
theorem Cx.Ok.unwish {X:Cx}{E:Ab->Ae->Prop}(ok:(X.wish E).Ok):X.Ok :=
 ⟨ok.mod,ok.kind,ok.glob,ok.blt,ok.above,ok.inj,ok.has,ok.cab,ok.hd,ok.frames,ok.stk,ok.exf,ok.bs,ok.bsz,ok.noex,ok.exfs,ok.funs,ok.frf⟩
section
variable {X:Cx}{B5:List (Ac×Obj)}{σ:St}{H:Hp}{s:Ae}{E:Ab->Ae->Prop}
theorem Inv.wish (I:Inv X B5 σ H s)(E:Ab->Ae->Prop):Inv (X.wish E) B5 σ H s:=⟨I.ok.wish E,I.os,I.bare,I.base,I.loc,I.cell,I.free,I.freeC,I.pin,I.hok,I.len⟩
theorem Inv.unwish (I:Inv (X.wish E) B5 σ H s):Inv X B5 σ H s:=⟨I.ok.unwish,I.os,I.bare,I.base,I.loc,I.cell,I.free,I.freeC,I.pin,I.hok,I.len⟩
theorem SP.unwish (h:SP (X.wish E) B5 D f s'):SP X B5 D f s':=by
 cases f with
 | next=>obtain⟨σ',H',I,q⟩:=h;exact⟨σ',H',I.unwish,q⟩
 | brk=>obtain⟨σ',H',I,q⟩:=h;exact⟨σ',H',I.unwish,q⟩
 | cont=>obtain⟨σ',H',I,q⟩:=h;exact⟨σ',H',I.unwish,q⟩
 | ret u=>obtain⟨v,σ',H',I,r,q⟩:=h;exact⟨v,σ',H',I.unwish,r,q⟩
theorem PSs.nox {st:List Au}{t:TS}(h:PSs X.nox st t):PSs X st t:=fun B5 s σ H D I hw =>
 Az (h B5 s σ H D (I.wish _) hw) (fun _ _ q=>q.unwish) fun _ _ z=>ON z
end
section
variable {X:Cx}{st:Au}{rest:List Au}{t u:TS}{e:Ay}{te:TE}{pos:Pos}
def tNext:TS:=fun D σ H=>D.nx σ H
def tSeq (t u:TS):TS:=fun D σ H=>t { D with nx:=u D } σ H
theorem Mg:PSs X [] tNext:=fun _ _ σ H _ I h=>Bm ⟨σ,H,I,h⟩
theorem LM (h1:PS X st t)(h2:PSs X rest u):PSs X (st::rest) (tSeq t u):=by
 intro B5 s σ H D I h
 refine wpAny_execs_cons (thn (h1 B5 s σ H { D with nx:=u D } I h) fun f s1 q=>?_)
 cases f with
 | next =>
  obtain⟨σ',H',I',q⟩:=q
  exact h2 B5 s1 σ' H' D I' q
 | ret v=>exact q
 | brk=>exact q
 | cont=>exact q
theorem LQ (h1:PS X st t):PSs X [st] t:=by
 intro B5 s σ H D I h
 refine wpAny_execs_cons (thn (h1 B5 s σ H D I h) fun f s1 q=>?_)
 cases f with
 | next=>exact Bm q
 | ret v=>exact q
 | brk=>exact q
 | cont=>exact q
theorem Inv.quiet (I:Inv X B5 σ H s):interactive X.env=false:=by simp[interactive,I.ok.kind]
def tDrop (te:TE):TS:=fun D σ H=>te σ H fun _ H1=>D.nx σ H1
theorem OP (he:PE X e te)(hs:Bh e none pos.line X.env=pure false:=by rfl):PS X (.Expr e pos) (tDrop te):=by
 intro B5 s σ H D I h
 exact wpAny_Expr_any (thn (he B5 s σ H _ I h) fun v s1 ⟨x,H1,I1,r1,q1⟩=>⟨σ,H1,I1,q1⟩) I.quiet hs
def tRet (te:TE):TS:=fun D σ H=>te σ H D.rt
theorem LY (he:PE X e te):PS X (.Return (some e) pos) (tRet te):=by
 intro B5 s σ H D I h
 exact wpAny_Return_some (thn (he B5 s σ H _ I h) fun v s1 ⟨x,H1,I1,r1,q1⟩=>⟨x,σ,H1,I1,r1,q1⟩)
def tIfS (c:TT)(t u:TS):TS:=fun D σ H=>c σ H fun b H1=>if b=true then t D σ H1 else u D σ H1
theorem Me (hc:PT X c tc) (ha:PSs X a t) (hb:PSs X b u):PS X (.If c a b pos) (tIfS tc t u):=by
 intro B5 s σ H D I h
 refine wpAny_If (thn (hc B5 s σ H _ I h) fun d s1 ⟨H1,I1,q1⟩=>?_)
 cases d with
 | true=>exact ha B5 s1 σ H1 D I1 q1
 | false=>exact hb B5 s1 σ H1 D I1 q1
def tNever:TS:=fun _ _ _=>False
theorem RC:PS X st tNever:=fun _ _ _ _ _ _ h=>h.elim
end
abbrev TG:=V->St->Hp->(St->Hp->Prop)->Prop
abbrev TGs:=List V->St->Hp->(St->Hp->Prop)->Prop
noncomputable def PG (X:Cx)(target:Ay)(t:TG):Prop :=
 ∀(B5:List (Ac×Obj)) (s:Ae) (σ:St) (H:Hp) (v:V) (u:Ab) (Q:St->Hp->Prop),Inv X B5 σ H s->RelV v u->t v σ H Q ->
  wpAny (Aj X.prog X.w) X.A (assign target X.env u) (fun _ s'=>∃ σ' H',Inv X B5 σ' H' s'/\Q σ' H') X.xe s
noncomputable def PGs (X:Cx)(ts:List Ay)(t:TGs):Prop :=
 ∀(B5:List (Ac×Obj)) (s:Ae) (σ:St) (H:Hp) (vs:List V) (us:List Ab) (Q:St->Hp->Prop),Inv X B5 σ H s->Vals vs us->t vs σ H Q ->
  wpAny (Aj X.prog X.w) X.A (assignInOrder ((A7 ts X.env).map (·.2)) us) (fun _ s'=>∃ σ' H',Inv X B5 σ' H' s'/\Q σ' H') X.xe s
abbrev TSet:=V->V->V->Hp->(Hp->Prop)->Prop
noncomputable def PSet (X:Cx)(t:TSet):Prop :=
 ∀(B5:List (Ac×Obj)) (s:Ae) (σ:St) (H:Hp) (o i v:V) (ov iv u:Ab) (Q:Hp->Prop),Inv X B5 σ H s->RelV o ov->RelV i iv->RelV v u->t o i v H Q ->
  wpAny (Aj X.prog X.w) X.A (setItem ov iv u) (fun _ s'=>∃ H',Inv X B5 σ H' s'/\Q H') X.xe s
section
variable {X:Cx}{pos:Pos}
def N7 (i:Nat):TG:=fun v σ H Q=>Q (σ.set i (some v)) H
theorem ME (hN:X.N.Nodup) (hi:X.N[i]?=some x) (hx:Loc X.env.scope x) (hf:X.fn x=true∨X.env.scope.names.lookup x=some .local:=by first | exact .inl rfl | exact .inr rfl | assumption):PG X (.Name x pos) (N7 i):=by
 intro B5 s σ H v u Q I r h
 exact wpAny_assign_Name (Vi I hN hi hx r (fun s' I'=>⟨_,H,I',h⟩) hf)
def gNil:TGs:=fun vs σ H Q=>vs=[]/\Q σ H
def gCons (t:TG)(u:TGs):TGs:=fun vs σ H Q=>∃ v r,vs=v::r/\t v σ H fun σ' H'=>u r σ' H' Q
theorem OQ:PGs X [] gNil:=by
 intro B5 s σ H vs us Q I r h
 obtain⟨e,h⟩:=h
 subst e
 cases r
 exact assignInOrder_nil ⟨σ,H,I,h⟩
theorem MU (h1:PG X e t) (h2:PGs X es u) (hs:(A7 (e::es) X.env).map (·.2)=assign e X.env::(A7 es X.env).map (·.2):=by rfl):PGs X (e::es) (gCons t u):=by
 intro B5 s σ H vs us Q I r h
 obtain⟨v,vr,e1,h⟩:=h
 subst e1
 cases r with
 | cons r rr =>
  rw[hs]
  refine assignInOrder_cons (thn (h1 B5 s σ H _ _ _ I r h) fun _ s1 ⟨σ1,H1,I1,q1⟩=>?_)
  exact h2 B5 s1 σ1 H1 _ _ Q I1 rr q1
noncomputable def PrX (a:Ac)(xs:List V):HO:=.ext fun h=>xs.length<=Af/\∃ its:List Ab,Vals xs its/\IsTup h a its.toArray
def gTup (K:LR)(n:Nat)(t:TGs):TG:=fun v σ H Q=>∃ a xs,v=.ref a/\(SqT K H a xs∨H a=some (PrX a xs))/\xs.length=n/\t xs σ H Q
theorem Pw (hc:X.calm=true) (h:PGs X es t) (hn:(A7 es X.env).length=n:=by rfl) (ED:(A7 es X.env).findIdx? (·.1)=none:=by rfl):PG X (.Tuple es k pos) (gTup X.K n t):=by
 intro B5 s σ H v u Q I r hw
 obtain⟨a,xs,e1,hq,hl,hw⟩:=hw
 subst e1
 cases r
 obtain⟨its,rv,ht,hz⟩:∃ its:List Ab,Vals xs its/\IsTup s.heap a its.toArray/\xs.length<=Af:=hq.elim (fun q=>I.tuple q) fun q=>by
  obtain⟨⟨z,its,r,p⟩,_⟩:=(show ObjOk X.prog X.w H s.heap a (PrX a xs) from I.hok a _ q)
  exact⟨its,r,p,z⟩
 refine assign_Tuple_tuple (I.ok.hd hc) ht (by simp[hn,<- hl,rv.length]) ED fun h' hx=>?_
 have I1:Inv X B5 σ H { s with heap:=h' }:=I.kept (t':=s.toks) fun b o e=>hx b o (MI (Mh e)) e
 exact h B5 _ σ H xs _ Q I1 (by simpa using rv) hw
def gSub (to ti:TE)(t:TSet):TG:=fun v σ H Q=>to σ H fun o H1=>ti σ H1 fun i H2=>t o i v H2 fun H3=>Q σ H3
theorem Px (ho:PE X o to) (hi:PE X i ti) (hs:PSet X t) (ha:∀ v,assign (.Subscript o i pos) X.env v=(do
   let ov <- By [v] (Ax o X.env)
   let iv <- By [v,ov] (Ax i X.env)
   BD pos
   By [v,ov,iv] (setItem ov iv v)
   release [v,ov,iv] []):=by intro _;rfl):PG X (.Subscript o i pos) (gSub to ti t):=by
 intro B5 s σ H v u Q I r h
 rw[ha]
 refine Aa (AC (thn (ho B5 s σ H _ I h) fun ov s1 hI9=>?_))
 obtain⟨x,H1,I1,r1,q1⟩:=hI9
 refine Aa (AC (thn (hi B5 s1 σ H1 _ I1 q1) fun iv s2 hI9=>?_))
 obtain⟨y,H2,I2,r2,q2⟩:=hI9
 refine Aa (Bl (Aa (AC (thn (hs B5 s2 σ H2 x y v ov iv u _ I2 r1 r2 r q2) fun _ s3 ⟨H3,I3,q3⟩=>?_))))
 exact wpAny_release ⟨σ,H3,I3,q3⟩
def tAsg (te:TE)(g:TG):TS:=fun D σ H=>te σ H fun x H1=>g x σ H1 D.nx
theorem N8 (he:PE X e te) (hg:PG X tg g) (hs:swapsWithSole [tg] e pos.line X.env=pure false:=by rfl) (hw:swappedStores [tg] e X.env=pure none:=by rfl) (h1:(A7 [tg] X.env).map (·.2)=[assign tg X.env]:=by rfl):PS X (.Assign [tg] e pos) (tAsg te g):=by
 intro B5 s σ H D I h
 refine wpAny_Assign_stores (thn (he B5 s σ H _ I h) fun v s1 hI9=>?_) hs hw
 obtain⟨x,H1,I1,r1,q1⟩:=hI9
 rw[h1]
 exact thn (hg B5 s1 σ H1 x v _ I1 r1 q1) fun _ s2 q=>q
theorem OR (hN:X.N.Nodup) (hi:X.N[i]?=some x) (hx:Loc X.env.scope x) (he:PE X e te) (hs:Bh e (some (.Name x pos')) pos.line X.env=pure false:=by rfl) (hf:X.fn x=true∨X.env.scope.names.lookup x=some .local:=by first | exact .inl rfl | exact .inr rfl | assumption):
  PS X (.Assign [.Name x pos'] e pos) (tAsg te (N7 i)):=by
 intro B5 s σ H D I h
 refine wpAny_Assign_Name (thn (he B5 s σ H _ I h) fun v s1 hI9=>?_) hs
 obtain⟨y,H1,I1,r1,q1⟩:=hI9
 exact Vi I1 hN hi hx r1 (fun s2 I2=>⟨_,H1,I2,q1⟩) hf
def Vk (c:TT)(tb:TS):TS:=fun D σ H=>∃ W:Nat->St->Hp->Prop,(∃ m,W m σ H)/\∀ m σ H,W m σ H ->
 c σ H fun b H1=>if b=true then ∃ N:St->Hp->Prop,(∀ σ' H',N σ' H'->∃ m',m' < m/\W m' σ' H')/\tb { D with nx:=N,ct:=N,bk:=D.nx } σ H1 else D.nx σ H1
theorem R6 (hp:PassesOwn (Aj X.prog X.w) X.A X.env X.xe) (hc:PT X c tc) (hb:PSs X body tb):PS X (.While c body [] pos) (Vk tc tb):=by
 intro B5 s σ H D I h
 obtain⟨W,⟨m0,w0⟩,turn⟩:=h
 refine wpAny_While (codeAny_whileLoop (fun n s'=>∃ σ' H',Inv X B5 σ' H' s'/\W n σ' H') ?_ m0 ⟨σ,H,I,w0⟩)
 intro n s1 hI9
 obtain⟨σ1,H1,I1,w1⟩:=hI9
 refine AT hp (thn (hc B5 s1 σ1 H1 _ I1 (turn n σ1 H1 w1)) fun b s2 ⟨H2,I2,q2⟩=>?_)
 cases b with
 | true =>
  obtain⟨N,hN,q2⟩:=q2
  rw[B4 rfl]
  refine AT hp (thn (hb B5 s2 σ1 H2 _ I2 q2) fun f s3 q3=>?_)
  cases f with
  | next =>
   obtain⟨σ3,H3,I3,n3⟩:=q3
   obtain⟨m',hm,w3⟩:=hN σ3 H3 n3
   exact⟨m',hm,σ3,H3,I3,w3⟩
  | cont =>
   obtain⟨σ3,H3,I3,n3⟩:=q3
   obtain⟨m',hm,w3⟩:=hN σ3 H3 n3
   exact⟨m',hm,σ3,H3,I3,w3⟩
  | brk=>exact q3
  | ret v=>exact q3
 | false =>
  rw[B3 Mj]
  exact Bm ⟨σ1,H2,I2,q2⟩
end
structure It where
 go:Nat->Hp->Prop
 yld:Nat->Hp->V->Hp->Prop
 stop:Nat->Hp->Prop
noncomputable def FpOk (X:Cx)(B5:List (Ac×Obj))(H:Hp)(b:Ac):Prop :=
 H b=none/\b≠X.env.locals/\b∉X.fs/\(b∈X.ex∨X.s₀.heap.objs.size<=b)/\(∀ x c,X.env.cells.lookup x=some c->c≠b)/\∀ p∈X.pn++B5,p.1≠b
theorem Inv.fpOk (I:Inv X B5 σ H s) (hb:s.heap.objs.size<=b) (hn:H' b=none):FpOk X B5 H' b:=by
 refine⟨hn,Us (NA I.lt hb),I.nofs hb,.inr (MX I.sz hb),fun x c e z=>?_,fun p hp z=>?_⟩
 ·obtain⟨v,q⟩:=I.cell x c e
  exact absurd (NA q.lt (by rw[z];exact hb)) (R3 _)
 ·exact absurd (NA (Mh (I.pin p hp).1) (by rw[z];exact hb)) (R3 _)
structure Turn (P:Ag)(w:Ak)(K:LR)(tg:Ay)(J:It)(fp:List Ac)(it:Ac)(tn:Nat->Ao->Prop):Prop where
 mem:it∈fp
 obj:∀ i h,tn i h->∀ b∈fp,∃ o,h.get? b=some o/\∀ v,o.data≠.cell v
 keep:∀ i h h',tn i h->(∀ b∈fp,∀ o,h.get? b=some o->h'.get? b=some o)->tn i h'
 item:∀(X:Cx),X.prog=P->X.w=w->X.K=K->X.calm=true->∀(i:Nat) (B5:List (Ac×Obj)) (s:Ae) (σ:St) (H:Hp) (E:Ab->Ae->Prop),Inv X B5 σ H s->(∀ b∈fp,FpOk X B5 H b)->tn i s.heap->J.go i H ->
  wpAny (Aj P w) X.A (A_ (.ref it)) (fun r s1=>∃ u,r=some u /\
   wpAny (Aj P w) X.A (Bo tg (.ref it) u) (fun _ s2=>∃ x H',Inv X B5 σ H' s2/\RelV x u/\J.yld i H x H'/\tn (i+1) s2.heap/\∀ b∈fp,H' b=none) E s1) E s
 done:∀(X:Cx),X.prog=P->X.w=w->X.K=K->X.calm=true->∀(i:Nat) (B5:List (Ac×Obj)) (s:Ae) (σ:St) (H:Hp) (E:Ab->Ae->Prop),Inv X B5 σ H s->(∀ b∈fp,FpOk X B5 H b)->tn i s.heap->J.stop i H ->
  wpAny (Aj P w) X.A (A_ (.ref it)) (fun r s1=>r=none/\Inv X B5 σ H s1) E s
 self:∀(A:Ap) (i:Nat) (s:Ae) (Q:Ab->Ae->Prop) (E:Ab->Ae->Prop),tn i s.heap->Q (.ref it) s->wpAny (Aj P w) A (pyIter (.ref it)) Q E s
abbrev TI:=St->Hp->(It->Hp->Prop)->Prop
noncomputable def PIE (X:Cx)(B5:List (Ac×Obj))(σ:St)(tg:Ay)(R:It->Hp->Prop)(itv:Ab)(s2:Ae):Prop :=
 ∃(it:Ac) (fp:List Ac) (tn:Nat->Ao->Prop) (J:It) (H':Hp),itv=.ref it/\Inv X B5 σ H' s2/\Turn X.prog X.w X.K tg J fp it tn/\tn 0 s2.heap/\(∀ b∈fp,FpOk X B5 H' b)/\R J H'
noncomputable def PI (X:Cx)(tg iter:Ay)(wi:TI):Prop :=
 ∀(B5:List (Ac×Obj)) (s:Ae) (σ:St) (H:Hp) (R:It->Hp->Prop),Inv X B5 σ H s->wi σ H R ->
  wpAny (Aj X.prog X.w) X.A (Ax iter X.env) (fun v s1=>wpAny (Aj X.prog X.w) X.A (pyIter v) (PIE X B5 σ tg R) X.xe s1) X.xe s
theorem QE (ho:s.heap.get? it=some o) (hc:o.cls=.type n) (hd:o.data=.fields vs) (hn:["enumerate","zip","dict_itemiterator","dict_reverseitemiterator","odict_iterator","itertools.zip_longest","itertools.pairwise"].contains n=false) (hQ:Q () s):wpAny M A (Bo tg (.ref it) u) Q E s:=by
 unfold Bo
 cases tg <;> first
  | exact Ad hQ
  | (cases u <;> first
    | exact Ad hQ
    | (refine Aa (wpAny_load ho ?_)
       rw[hc,hd]
       show wpAny M A (if (["enumerate","zip","dict_itemiterator","dict_reverseitemiterator","odict_iterator","itertools.zip_longest","itertools.pairwise"].contains n&&vs[0]? == some (AH _))=true then _ else _) Q E s
       rw[B3 (by intro h;rw[hn,U1] at h;cases h)]
       exact Ad hQ))
noncomputable def Itl (K:LR)(a:Ac):It :=
 ⟨fun i H=>∃ xs x,SqL K H a xs/\xs[i]?=some x,fun i H x H'=>H'=H/\∀ xs,SqL K H a xs->xs[i]?=some x,fun i H=>∃ xs,SqL K H a xs/\xs.length<=i⟩
noncomputable def Itt (K:LR)(a:Ac):It :=
 ⟨fun i H=>∃ xs x,SqT K H a xs/\xs[i]?=some x,fun i H x H'=>H'=H/\∀ xs,SqT K H a xs->xs[i]?=some x,fun i H=>∃ xs,SqT K H a xs/\xs.length<=i⟩
noncomputable def Itr (lo:Int)(n:Nat):It:=⟨fun i _=>i < n,fun i H x H'=>H'=H/\x=.int (lo+i),fun i _=>n<=i⟩
theorem bA {P:Ag}{w:Ak}{K:LR}{tg:Ay}(a it:Ac):Turn P w K tg (Itl K a) [it] it (fun i h=>h.IsListIter it a i) where
 mem:=by simp
 obj:=fun i h st b hb=>by
  have e:b=it:=by simpa using hb
  subst e
  obtain⟨o,e,c,d⟩:=st
  exact⟨o,e,fun v z=>by rw[d] at z;cases z⟩
 keep:=fun i h h' st k=>st.at fun o e=>k it (by simp) o e
 item:=by
  intro X hP hw hK hc i B5 s σ H E I hf st hg
  subst hP hw hK
  obtain⟨xs,x,hq,hx⟩:=hg
  obtain⟨its,rv,p,hz⟩:=I.list hq
  obtain⟨u,hu,ru⟩:=rv.get hx
  obtain⟨f0,f1,f2,f3,f4,f5⟩:=hf it (by simp)
  refine wpAny_pyNext_list_item st p.isList (x:=u) (by simpa using hu) fun h' st' sb=>?_
  have I1:Inv X B5 σ H { s with heap:=h' }:=I.turned (t':=s.toks) (fun b o hb e=>(sb.2 b hb).trans e) f0 f1 f3 f4 f5
  obtain⟨o,e,c,d⟩:=id st'
  exact⟨u,rfl,QE (s:={ s with heap:=h' }) e c d (by decide) ⟨x,H,I1,ru,⟨rfl,fun ys hy=>by rw[I.list_inj hy hq];exact hx⟩,st',fun b hb=>(hf b hb).1⟩⟩
 done:=by
  intro X hP hw hK hc i B5 s σ H E I hf st hg
  subst hP hw hK
  obtain⟨xs,hq,hx⟩:=hg
  obtain⟨its,rv,p,hz⟩:=I.list hq
  obtain⟨f0,f1,f2,f3,f4,f5⟩:=hf it (by simp)
  have hl:=rv.length
  exact wpAny_pyNext_list_end (I.ok.hd hc) st p.isList (by simp;omega) fun h' eb=>⟨rfl,I.turned (t':=s.toks) (fun b o hb e=>eb b o hb e) f0 f1 f3 f4 f5⟩
 self:=fun _ _ _ _ _ st h=>wpAny_pyIter_listiter st h
theorem bB {P:Ag}{w:Ak}{K:LR}{tg:Ay}(a it:Ac):Turn P w K tg (Itt K a) [it] it (fun i h=>h.IsTupleIter it a i) where
 mem:=by simp
 obj:=fun i h st b hb=>by
  have e:b=it:=by simpa using hb
  subst e
  obtain⟨o,e,c,d⟩:=st
  exact⟨o,e,fun v z=>by rw[d] at z;cases z⟩
 keep:=fun i h h' st k=>st.at fun o e=>k it (by simp) o e
 item:=by
  intro X hP hw hK hc i B5 s σ H E I hf st hg
  subst hP hw hK
  obtain⟨xs,x,hq,hx⟩:=hg
  obtain⟨its,rv,p,hz⟩:=I.tuple hq
  obtain⟨u,hu,ru⟩:=rv.get hx
  obtain⟨f0,f1,f2,f3,f4,f5⟩:=hf it (by simp)
  refine wpAny_pyNext_tuple_item st (show s.heap.IsTuple a its.toArray from p) (x:=u) (by simpa using hu) fun h' st' sb=>?_
  have I1:Inv X B5 σ H { s with heap:=h' }:=I.turned (t':=s.toks) (fun b o hb e=>(sb.2 b hb).trans e) f0 f1 f3 f4 f5
  obtain⟨o,e,c,d⟩:=id st'
  exact⟨u,rfl,QE (s:={ s with heap:=h' }) e c d (by decide) ⟨x,H,I1,ru,⟨rfl,fun ys hy=>by rw[I.tuple_inj hy hq];exact hx⟩,st',fun b hb=>(hf b hb).1⟩⟩
 done:=by
  intro X hP hw hK hc i B5 s σ H E I hf st hg
  subst hP hw hK
  obtain⟨xs,hq,hx⟩:=hg
  obtain⟨its,rv,p,hz⟩:=I.tuple hq
  obtain⟨f0,f1,f2,f3,f4,f5⟩:=hf it (by simp)
  have hl:=rv.length
  exact wpAny_pyNext_tuple_end (I.ok.hd hc) st (show s.heap.IsTuple a its.toArray from p) (by simp;omega) fun h' eb=>⟨rfl,I.turned (t':=s.toks) (fun b o hb e=>eb b o hb e) f0 f1 f3 f4 f5⟩
 self:=fun _ _ _ _ _ st h=>wpAny_pyIter_tupleiter st h
theorem bC {P:Ag}{w:Ak}{K:LR}{tg:Ay}(it:Ac)(lo:Int)(n:Nat):Turn P w K tg (Itr lo n) [it] it (fun i h=>IsRangeIter h it (lo+(i:Nat) * 1) ((n:Int) - (i:Nat)) 1) where
 mem:=by simp
 obj:=fun i h st b hb=>by
  have e:b=it:=by simpa using hb
  subst e
  exact⟨_,st,fun v z=>by
   have z':Data.fields _=Data.cell v:=z
   cases z'⟩
 keep:=fun i h h' st k=>k it (by simp) _ st
 item:=by
  intro X hP hw hK hc i B5 s σ H E I hf st hg
  subst hP hw hK
  obtain⟨f0,f1,f2,f3,f4,f5⟩:=hf it (by simp)
  have W:=Walks.range (prog:=X.prog) (w:=X.w) (I.ok.hd hc) it lo 1 n
  refine W.item i s _ _ hg st fun v h' tk hv st' kk=>?_
  obtain⟨t,rfl⟩:=hv
  have I1:Inv X B5 σ H { s with heap:=h',toks:=tk }:=I.turned (fun b o hb e=>kk b o (by simpa using hb) e) f0 f1 f3 f4 f5
  refine⟨_,rfl,QE (s:={ s with heap:=h',toks:=tk }) (n:="range_iterator") st' rfl rfl (by decide) ⟨.int (lo+i),H,I1,⟨t,?_⟩,⟨rfl,rfl⟩,st',fun b hb=>(hf b hb).1⟩⟩
  rw[Int.mul_one]
 done:=by
  intro X hP hw hK hc i B5 s σ H E I hf st hg
  subst hP hw hK
  obtain⟨f0,f1,f2,f3,f4,f5⟩:=hf it (by simp)
  exact wpAny_pyNext_range_end (I.ok.hd hc) st (by have:n<=i:=hg;omega) fun h' eb=>⟨rfl,I.turned (t':=s.toks) (fun b o hb e=>eb b o hb e) f0 f1 f3 f4 f5⟩
 self:=fun _ _ _ _ _ st h=>wpAny_pyIter_rangeiter st h
section
variable {X:Cx}{tg:Ay}
theorem Vl {lo hi:Int} {tk:Nat} (I:Inv X B5 σ H s) (h1:-(2 ^ 62)<=lo) (h2:lo < 2 ^ 62) (h3:-(2 ^ 62)<=hi) (h4:hi < 2 ^ 62) (q:R (Itr lo (hi - lo).toNat) H):wpAny (Aj X.prog X.w) X.A (pyIter (.ref s.heap.objs.size)) (PIE X B5 σ tg R) E { s with heap:=s.heap.push { cls:=.type "range",data:=.fields #[.int lo t,.int hi u,.int 1 v] },toks:=tk }:=by
 refine wpAny_pyIter_range (IsRange.new ..) (small_one h1 h2 h3 h4) ?_
 have I1:Inv X B5 σ H { s with heap:=s.heap.push { cls:=.type "range",data:=.fields #[.int lo t,.int hi u,.int 1 v] },toks:=tk }:=I.kept fun b o e=>L1 _ e
 refine⟨(s.heap.push { cls:=.type "range",data:=.fields #[.int lo t,.int hi u,.int 1 v] }).objs.size,[(s.heap.push { cls:=.type "range",data:=.fields #[.int lo t,.int hi u,.int 1 v] }).objs.size],_,_,H,rfl,
  I1.kept (t':=tk) fun b o e=>L1 _ e,bC _ lo (hi - lo).toNat,?_,fun b hb=>?_,q⟩
 ·have e1:lo+((0:Nat):Int) * 1=lo:=by simp
  have e2:(((hi - lo).toNat:Nat):Int) - ((0:Nat):Int)=jc lo hi 1:=by rw[rangeSize_one];split <;> omega
  show IsRangeIter _ _ (lo+((0:Nat):Int) * 1) ((((hi - lo).toNat:Nat):Int) - ((0:Nat):Int)) 1
  rw[e1,e2]
  exact Ms _ rfl
 ·have e:b=(s.heap.push { cls:=.type "range",data:=.fields #[.int lo t,.int hi u,.int 1 v] }).objs.size:=by simpa using hb
  subst e
  exact I1.fpOk (LZ _) (I1.hok.fresh (LZ _))
def iRng1 (ta:TA):TI:=fun σ H R=>ta σ H fun vs H1=>∃ j:Int,vs=[.int j]/\-(2 ^ 62)<=j/\j < 2 ^ 62/\R (Itr 0 j.toNat) H1
def iRng2 (ta:TA):TI:=fun σ H R=>ta σ H fun vs H1=>∃ i j:Int,vs=[.int i,.int j]/\(-(2 ^ 62)<=i/\i < 2 ^ 62/\-(2 ^ 62)<=j/\j < 2 ^ 62)/\R (Itr i (j - i).toNat) H1
theorem Pg (hg:Gl X "range") (hm:X.mg "range"=none) (ha:PA X [a] ta) (hs:Ah [a] X.env=[(false,Ax a X.env)]:=by rfl):PI X tg (.Call (.Name "range" p) [a] [] pos) (iRng1 ta):=by
 intro B5 s σ H R I h
 refine Call_ (Pt I hg hm boot_range (Rv (thn (ha pos B5 s σ H _ I h) fun us s1 hI9=>?_) hs rfl))
 obtain⟨vs,H1,I1,r1,q1⟩:=hI9
 obtain⟨j,e,q1,q2,q⟩:=q1
 subst e
 cases r1 with
 | cons r rr =>
  cases rr
  obtain⟨t,rfl⟩:=r
  exact call_range_1 (Vl I1 (by omega) (by omega) q1 q2 (by simpa using q))
theorem R7 (hg:Gl X "range") (hm:X.mg "range"=none) (ha:PA X [a,b] ta) (hs:Ah [a,b] X.env=[(false,Ax a X.env),(false,Ax b X.env)]:=by rfl) (DG:Ah [b] X.env=[(false,Ax b X.env)]:=by rfl):
  PI X tg (.Call (.Name "range" p) [a,b] [] pos) (iRng2 ta):=by
 intro B5 s σ H R I h
 refine Call_ (Pt I hg hm boot_range (Rv (thn (ha pos B5 s σ H _ I h) fun us s1 hI9=>?_) (by rw[hs,DG]) (by rw[DG];rfl)))
 obtain⟨vs,H1,I1,r1,q1⟩:=hI9
 obtain⟨i,j,e,⟨q1,q2,q3,q4⟩,q⟩:=q1
 subst e
 cases r1 with
 | cons r rr =>
  cases rr with
  | cons r' rr =>
   cases rr
   obtain⟨t,rfl⟩:=r
   obtain⟨t',rfl⟩:=r'
   exact call_range_2 (Vl I1 q1 q2 q3 q4 q)
def tFor (wi:TI)(g:TG)(tb:TS):TS:=fun D σ H=>wi σ H fun J H1=>∃ W:Nat->Nat->St->Hp->Prop,(∃ m,W 0 m σ H1)/\∀ i m σ H,W i m σ H ->
 (J.stop i H/\D.nx σ H)∨(J.go i H/\∃ N:St->Hp->Prop,(∀ σ' H',N σ' H'->∃ m',m' < m/\W (i+1) m' σ' H')/\∀ x H',J.yld i H x H'->g x σ H' fun σ2 H2=>tb { D with nx:=N,ct:=N,bk:=D.nx } σ2 H2)
noncomputable def Py (fp:List Ac)(h:Ao):List (Ac×Obj):=fp.filterMap fun b=>(h.get? b).map fun o=>(b,o)
theorem Z4 (hb:b∈fp) (e:h.get? b=some o):(b,o)∈Py fp h:=List.mem_filterMap.mpr ⟨b,hb,by rw[e];rfl⟩
theorem bE (hp:p∈Py fp h):p.1∈fp/\h.get? p.1=some p.2:=by
 obtain⟨b,hb,e⟩:=List.mem_filterMap.mp hp
 cases q:h.get? b with
 | none=>rw[q] at e;cases e
 | some o =>
  rw[q] at e
  have e':(b,o)=p:=Option.some.inj e
  subst e'
  exact⟨hb,q⟩
theorem Inv.pinned (I:Inv X B5 σ H s) (hf:∀ b∈fp,FpOk X B5 H b) (ho:∀ b∈fp,∃ o,s.heap.get? b=some o/\∀ v,o.data≠.cell v):Inv X (B5++Py fp s.heap) σ H s :=
 I.pins_of fun p hp=>(L7.mp hp).elim (fun z=>I.pin p (Qc _ z)) fun z=>by
  obtain⟨hb,e⟩:=bE z
  obtain⟨f0,f1,f2,_⟩:=hf p.1 hb
  obtain⟨o,e',d⟩:=ho p.1 hb
  rw[e] at e';cases e'
  exact⟨e,f0,f1,f2,d⟩
theorem Inv.unpinned (I:Inv X (B5++pl) σ H s):Inv X B5 σ H s:=I.pins_of fun p hp=>I.pin p (Qc _ (iA _ hp))
theorem MN (hp:PassesOwn (Aj X.prog X.w) X.A X.env X.xe) (hc:X.calm=true) (hi:PI X tg iter wi) (hg:PG X tg g) (hb:PSs X body tb) (hs:∀ x,A' iter X.env x=pure x:=by intro _;rfl):PS X (.For tg iter body [] pos) (tFor wi g tb):=by
 intro B5 s σ H D I h
 refine wpAny_For (thn (hi B5 s σ H _ I h) fun v s1 h1=>thn h1 fun itv s2 h2=>?_) hs
 obtain⟨it,fp,tn,J,H2,e,I2,T,st2,f2,W,⟨m0,w0⟩,turn⟩:=h2
 subst e
 -- what stays true of the iterator's objects through the loop
 have stat:∀{H':Hp},(∀ b∈fp,H' b=none)->∀ b∈fp,FpOk X B5 H' b:=fun hn b hb=>⟨hn b hb,(f2 b hb).2⟩
 refine codeAny_forLoop_any (fun n s'=>∃ i σ' H',Inv X B5 σ' H' s'/\tn i s'.heap/\(∀ b∈fp,H' b=none)/\W i n σ' H') ?_ m0 ⟨0,σ,H2,I2,st2,fun b hb=>(f2 b hb).1,w0⟩
 intro n s3 hI9
 obtain⟨i,σ3,H3,I3,st3,fr3,w3⟩:=hI9
 rcases turn i n σ3 H3 w3 with ⟨stop,qn⟩ | ⟨go,N,hN,step⟩
 ·refine AT hp (thn (T.done X rfl rfl rfl hc i B5 s3 σ3 H3 X.xe I3 (stat fr3) st3 stop) fun r s4 ⟨hr,I4⟩=>?_)
  subst hr
  exact Bm ⟨σ3,H3,I4,qn⟩
 ·refine AT hp (thn (T.item X rfl rfl rfl hc i B5 s3 σ3 H3 X.xe I3 (stat fr3) st3 go) fun r s4 ⟨u,hr,h4⟩=>?_)
  subst hr
  refine AT hp (thn h4 fun _ s5 hI9=>?_)
  obtain⟨x,H5,I5,r5,y5,st5,fr5⟩:=hI9
  have I5':=I5.pinned (stat fr5) (T.obj _ _ st5)
  refine AT hp (thn (hg _ s5 σ3 H5 x u _ I5' r5 (step x H5 y5)) fun _ s6 ⟨σ6,H6,I6,q6⟩=>?_)
  refine AT hp (thn (hb _ s6 σ6 H6 _ I6 q6) fun f s7 q7=>?_)
  have again:∀{σ7:St}{H7:Hp},Inv X (B5++Py fp s5.heap) σ7 H7 s7->N σ7 H7->∃ m,m < n/\∃ i σ' H',Inv X B5 σ' H' s7/\tn i s7.heap/\(∀ b∈fp,H' b=none)/\W i m σ' H':=fun{σ7 H7} I7 n7=>by
   obtain⟨m',hm,w7⟩:=hN σ7 H7 n7
   refine⟨m',hm,i+1,σ7,H7,I7.unpinned,T.keep _ _ _ st5 fun b hb o e=>(I7.pin (b,o) (Qc _ (Qc _ (Z4 hb e)))).1,fun b hb=>?_,w7⟩
   obtain⟨o,e,d⟩:=T.obj _ _ st5 b hb
   exact(I7.pin (b,o) (Qc _ (Qc _ (Z4 hb e)))).2.1
  cases f with
  | next=>obtain⟨σ7,H7,I7,n7⟩:=q7;exact again I7 n7
  | cont=>obtain⟨σ7,H7,I7,n7⟩:=q7;exact again I7 n7
  | brk=>obtain⟨σ7,H7,I7,q7⟩:=q7;exact⟨σ7,H7,I7.unpinned,q7⟩
  | ret v=>obtain⟨x7,σ7,H7,I7,r7,q7⟩:=q7;exact⟨x7,σ7,H7,I7.unpinned,r7,q7⟩
end
theorem NJ {K:LR}{a:Ac}{xs:List V}{g:TG}{tb:TS}{D:Ends}{σ:St}{H:Hp}(Pv:Nat->St->Hp->Prop)(h0:Pv 0 σ H)(hl:∀ i σ H,i<=xs.length->Pv i σ H->SqL K H a xs)
  (hs:∀ i x σ H,xs[i]?=some x->Pv i σ H->g x σ H fun σ2 H2=>tb { D with nx:=Pv (i+1),ct:=Pv (i+1),bk:=D.nx } σ2 H2) (hd:∀ σ H,Pv xs.length σ H->D.nx σ H) :
  ∃ W:Nat->Nat->St->Hp->Prop,(∃ m,W 0 m σ H)/\∀ i m σ H,W i m σ H ->
   ((Itl K a).stop i H/\D.nx σ H)∨((Itl K a).go i H/\∃ N:St->Hp->Prop,(∀ σ' H',N σ' H'->∃ m',m' < m/\W (i+1) m' σ' H')/\∀ x H',(Itl K a).yld i H x H'->g x σ H' fun σ2 H2=>tb { D with nx:=N,ct:=N,bk:=D.nx } σ2 H2):=by
 refine⟨fun i m σ H=>m=xs.length - i/\i<=xs.length/\Pv i σ H,⟨xs.length,by simp,MR _,h0⟩,?_⟩
 intro i m σ H hI9
 obtain⟨rfl,hi,p⟩:=hI9
 have q:=hl i σ H hi p
 by_cases Cm:i < xs.length
 ·refine .inr ⟨⟨xs,xs[i],q,by simp[Cm]⟩,Pv (i+1),fun σ' H' p'=>⟨xs.length - (i+1),by omega,rfl,Cm,p'⟩,fun x H' y=>?_⟩
  obtain⟨e,y⟩:=y
  subst e
  exact hs i x σ _ (y xs q) p
 ·have e:i=xs.length:=by omega
  subst e
  exact .inl ⟨⟨xs,q,LZ _⟩,hd σ H p⟩
theorem for_tup {K:LR}{a:Ac}{xs:List V}{g:TG}{tb:TS}{D:Ends}{σ:St}{H:Hp}(Pv:Nat->St->Hp->Prop)(h0:Pv 0 σ H)(hl:∀ i σ H,i<=xs.length->Pv i σ H->SqT K H a xs)
  (hs:∀ i x σ H,xs[i]?=some x->Pv i σ H->g x σ H fun σ2 H2=>tb { D with nx:=Pv (i+1),ct:=Pv (i+1),bk:=D.nx } σ2 H2) (hd:∀ σ H,Pv xs.length σ H->D.nx σ H) :
  ∃ W:Nat->Nat->St->Hp->Prop,(∃ m,W 0 m σ H)/\∀ i m σ H,W i m σ H ->
   ((Itt K a).stop i H/\D.nx σ H)∨((Itt K a).go i H/\∃ N:St->Hp->Prop,(∀ σ' H',N σ' H'->∃ m',m' < m/\W (i+1) m' σ' H')/\∀ x H',(Itt K a).yld i H x H'->g x σ H' fun σ2 H2=>tb { D with nx:=N,ct:=N,bk:=D.nx } σ2 H2):=by
 refine⟨fun i m σ H=>m=xs.length - i/\i<=xs.length/\Pv i σ H,⟨xs.length,by simp,MR _,h0⟩,?_⟩
 intro i m σ H hI9
 obtain⟨rfl,hi,p⟩:=hI9
 have q:=hl i σ H hi p
 by_cases Cm:i < xs.length
 ·refine .inr ⟨⟨xs,xs[i],q,by simp[Cm]⟩,Pv (i+1),fun σ' H' p'=>⟨xs.length - (i+1),by omega,rfl,Cm,p'⟩,fun x H' y=>?_⟩
  obtain⟨e,y⟩:=y
  subst e
  exact hs i x σ _ (y xs q) p
 ·have e:i=xs.length:=by omega
  subst e
  exact .inl ⟨⟨xs,q,LZ _⟩,hd σ H p⟩
theorem RD {lo:Int}{n:Nat}{g:TG}{tb:TS}{D:Ends}{σ:St}{H:Hp}(Pv:Nat->St->Hp->Prop)(h0:Pv 0 σ H)
  (hs:∀ i σ H,i < n->Pv i σ H->g (.int (lo+i)) σ H fun σ2 H2=>tb { D with nx:=Pv (i+1),ct:=Pv (i+1),bk:=D.nx } σ2 H2) (hd:∀ σ H,Pv n σ H->D.nx σ H) :
  ∃ W:Nat->Nat->St->Hp->Prop,(∃ m,W 0 m σ H)/\∀ i m σ H,W i m σ H ->
   ((Itr lo n).stop i H/\D.nx σ H)∨((Itr lo n).go i H/\∃ N:St->Hp->Prop,(∀ σ' H',N σ' H'->∃ m',m' < m/\W (i+1) m' σ' H')/\∀ x H',(Itr lo n).yld i H x H'->g x σ H' fun σ2 H2=>tb { D with nx:=N,ct:=N,bk:=D.nx } σ2 H2):=by
 refine⟨fun i m σ H=>m=n - i/\i<=n/\Pv i σ H,⟨n,by simp,MR _,h0⟩,?_⟩
 intro i m σ H hI9
 obtain⟨rfl,hi,p⟩:=hI9
 by_cases Cm:i < n
 ·refine .inr ⟨Cm,Pv (i+1),fun σ' H' p'=>⟨n - (i+1),by omega,rfl,Cm,p'⟩,fun x H' y=>?_⟩
  obtain⟨e,y⟩:=y
  subst e y
  exact hs i σ _ Cm p
 ·have e:i=n:=by omega
  subst e
  exact .inl ⟨LZ _,hd σ H p⟩
abbrev R2:=V->V->Hp->VK->Prop
noncomputable def OpR (X:Cx)(f:Ab->Ab->Sem Ab)(r:R2):Prop :=
 ∀(B5:List (Ac×Obj)) (s:Ae) (σ:St) (H:Hp) (x y:V) (v u:Ab) (Q:VK),Inv X B5 σ H s->RelV x v->RelV y u->r x y H Q ->
  wpAny (Aj X.prog X.w) X.A (f v u) (EP X B5 σ Q) X.xe s
noncomputable def UnR (X:Cx)(f:Ab->Sem Ab)(r:V->Hp->VK->Prop):Prop :=
 ∀(B5:List (Ac×Obj)) (s:Ae) (σ:St) (H:Hp) (x:V) (v:Ab) (Q:VK),Inv X B5 σ H s->RelV x v->r x H Q ->
  wpAny (Aj X.prog X.w) X.A (f v) (EP X B5 σ Q) X.xe s
noncomputable def CallR (X:Cx)(f:Ab)(r:List V->Hp->VK->Prop):Prop :=
 ∀(B5:List (Ac×Obj)) (s:Ae) (σ:St) (H:Hp) (xs:List V) (us:List Ab) (Q:VK),Inv X B5 σ H s->Vals xs us->r xs H Q ->
  wpAny (Aj X.prog X.w) X.A (call f us) (EP X B5 σ Q) X.xe s
noncomputable def TruR (X:Cx)(r:V->Hp->(Bool->Hp->Prop)->Prop):Prop :=
 ∀(B5:List (Ac×Obj)) (s:Ae) (σ:St) (H:Hp) (x:V) (v:Ab) (Q:Bool->Hp->Prop),Inv X B5 σ H s->RelV x v->r x H Q ->
  wpAny (Aj X.prog X.w) X.A (truthy v) (TP X B5 σ Q) X.xe s
def tOp (r:R2)(ta tb:TE):TE:=fun σ H Q=>ta σ H fun x H1=>tb σ H1 fun y H2=>r x y H2 Q
def tUn (r:V->Hp->VK->Prop)(ta:TE):TE:=fun σ H Q=>ta σ H fun x H1=>r x H1 Q
def rI (C:Int->Int->Prop)(g:Int->Int->V):R2:=fun x y H Q=>∃ i j,x=.int i/\y=.int j/\C i j/\Q (g i j) H
def rI0 (g:Int->Int->V):R2:=fun x y H Q=>∃ i j,x=.int i/\y=.int j/\Q (g i j) H
def rU (g:Int->V):V->Hp->VK->Prop:=fun x H Q=>∃ i,x=.int i/\Q (g i) H
section
variable {X:Cx}{a b c:Ay}{ta tb tc:TE}{pos:Pos}
theorem binT (ha:PE X a ta)(hb:PE X b tb){B5:List (Ac×Obj)}{s:Ae}{σ:St}{H:Hp}{R:V->V->Hp->Prop}(I:Inv X B5 σ H s)
  (h:ta σ H fun x H1=>tb σ H1 fun y H2=>R x y H2) {Q:Ab->Ae->Prop}{f:Ab->Ab->Sem Ab}
  (hf:∀ v u s2 x y H2,Inv X B5 σ H2 s2->RelV x v->RelV y u->R x y H2->wpAny (Aj X.prog X.w) X.A (f v u) Q X.xe s2) :
  wpAny (Aj X.prog X.w) X.A (Ax a X.env) (fun v s₁=>wpAny (Aj X.prog X.w) X.A (Ax b X.env) (fun u s₂=>wpAny (Aj X.prog X.w) X.A (f v u) Q X.xe s₂) X.xe s₁) X.xe s:=by
 refine thn (ha B5 s σ H _ I h) fun v s1 hI9=>?_
 obtain⟨x,H1,I1,r1,q1⟩:=hI9
 refine thn (hb B5 s1 σ H1 _ I1 q1) fun u s2 hI9=>?_
 obtain⟨y,H2,I2,r2,q2⟩:=hI9
 exact hf v u s2 x y H2 I2 r1 r2 q2
theorem LX (ho:OpR X (AI op) r) (ha:PE X a ta) (hb:PE X b tb):PE X (.BinOp a op b pos) (tOp r ta tb):=by
 intro B5 s σ H Q I h
 exact wpAny_BinOp (binT ha hb I h fun v u s2 x y H2 I2 rx ry q=>ho B5 s2 σ H2 x y v u Q I2 rx ry q)
theorem OS (ho:UnR X (unaryOp op) r) (ha:PE X a ta):PE X (.UnaryOp op a pos) (tUn r ta):=by
 intro B5 s σ H Q I h
 exact UnaryOp_ (thn (ha B5 s σ H _ I h) fun v s1 ⟨x,H1,I1,r1,q1⟩=>ho B5 s1 σ H1 x v Q I1 r1 q1)
theorem opI {f:Ab->Ab->Sem Ab}{C:Int->Int->Prop}{g:Int->Int->Int}
  (rule:∀(i j:Int) (t u:Tok) (s:Ae) (Q:Ab->Ae->Prop) (E:Ab->Ae->Prop),C i j->Q (.int (g i j) s.toks) { s with toks:=s.toks+1 }->wpAny (Aj X.prog X.w) X.A (f (.int i t) (.int j u)) Q E s) :
  OpR X f (rI C fun i j=>.int (g i j)):=by
 intro B5 s σ H x y v u Q I rx ry h
 obtain⟨i,j,rfl,rfl,hc,q⟩:=h
 obtain⟨t,rfl⟩:=rx
 obtain⟨t',rfl⟩:=ry
 exact rule i j t t' s _ _ hc ⟨.int (g i j),H,I.tok _,⟨_,rfl⟩,q⟩
theorem opI0 {f:Ab->Ab->Sem Ab}{g:Int->Int->Int}
  (rule:∀(i j:Int) (t u:Tok) (s:Ae) (Q:Ab->Ae->Prop) (E:Ab->Ae->Prop),Q (.int (g i j) s.toks) { s with toks:=s.toks+1 }->wpAny (Aj X.prog X.w) X.A (f (.int i t) (.int j u)) Q E s) :
  OpR X f (rI0 fun i j=>.int (g i j)):=by
 intro B5 s σ H x y v u Q I rx ry h
 obtain⟨i,j,rfl,rfl,q⟩:=h
 obtain⟨t,rfl⟩:=rx
 obtain⟨t',rfl⟩:=ry
 exact rule i j t t' s _ _ ⟨.int (g i j),H,I.tok _,⟨_,rfl⟩,q⟩
theorem opB0 {f:Ab->Ab->Sem Ab}{g:Int->Int->Bool}
  (rule:∀(i j:Int) (t u:Tok) (s:Ae) (Q:Ab->Ae->Prop) (E:Ab->Ae->Prop),Q (.bool (g i j)) s->wpAny (Aj X.prog X.w) X.A (f (.int i t) (.int j u)) Q E s) :
  OpR X f (rI0 fun i j=>.bl (g i j)):=by
 intro B5 s σ H x y v u Q I rx ry h
 obtain⟨i,j,rfl,rfl,q⟩:=h
 obtain⟨t,rfl⟩:=rx
 obtain⟨t',rfl⟩:=ry
 exact rule i j t t' s _ _ ⟨.bl (g i j),H,I,rfl,q⟩
def CDiv (i j:Int):Prop:=0 < j/\j < 1073741824
def CPow (i j:Int):Prop:=0<=j/\j<=1000000/\i.natAbs < 2 ^ 64
def CMul (i j:Int):Prop:=(-(2 ^ 64) < i/\i < 2 ^ 64)∨(-(2 ^ 64) < j/\j < 2 ^ 64)
theorem CMul.ok (h:CMul i j):IntMulOk i j:=by
 rcases h with ⟨h1,h2⟩ | ⟨h1,h2⟩
 ·exact .of_left (intBits_le_64 h1 h2)
 ·exact .of_right (intBits_le_64 h1 h2)
theorem op_add:OpR X (AI .Add) (rI0 fun i j=>.int (i+j)):=opI0 fun _ _ _ _ _ _ _ q=>add_int q
theorem op_sub:OpR X (AI .Sub) (rI0 fun i j=>.int (i - j)):=opI0 fun _ _ _ _ _ _ _ q=>sub_int q
theorem op_mul:OpR X (AI .Mult) (rI CMul fun i j=>.int (i * j)):=opI fun _ _ _ _ _ _ _ hc q=>mul_int q hc.ok
theorem op_fdiv:OpR X (AI .FloorDiv) (rI CDiv fun i j=>.int (i / j)):=opI fun i j _ _ _ _ _ hc q=>by
 have h1:(0:Int) < j:=hc.1
 have h2:j < 1073741824:=hc.2
 exact floordiv_int (by omega) (by rw[Int.fdiv_eq_ediv_of_nonneg i (by omega)];exact q) (.inl (PyProof.noPylong_small (by omega)))
theorem op_mod:OpR X (AI .Mod) (rI (fun _ j=>0 < j) fun i j=>.int (i % j)):=opI fun i j _ _ _ _ _ hc q=>by
 have h1:(0:Int) < j:=hc
 exact mod_int' (by omega) (by rw[Int.fmod_eq_emod_of_nonneg i (by omega)];exact q)
theorem op_pow:OpR X (AI .Pow) (rI CPow fun i j=>.int (i ^ j.toNat)):=opI fun _ _ _ _ _ _ _ hc q=>pow_int_small hc.1 hc.2.1 hc.2.2 q
theorem unI {f:Ab->Sem Ab}{g:Int->Int}
  (rule:∀(i:Int) (t:Tok) (s:Ae) (Q:Ab->Ae->Prop) (E:Ab->Ae->Prop),Q (.int (g i) s.toks) { s with toks:=s.toks+1 }->wpAny (Aj X.prog X.w) X.A (f (.int i t)) Q E s) :
  UnR X f (rU fun i=>.int (g i)):=by
 intro B5 s σ H x v Q I rx h
 obtain⟨i,rfl,q⟩:=h
 obtain⟨t,rfl⟩:=rx
 exact rule i t s _ _ ⟨.int (g i),H,I.tok _,⟨_,rfl⟩,q⟩
theorem un_neg:UnR X (unaryOp .USub) (rU fun i=>.int (-i)):=unI fun _ _ _ _ _ q=>neg_int q
end
noncomputable def scal:V->V->Bool
 | .non,.non=>true | .non,.int _=>true | .int _,.non=>true | .non,.bl _=>true | .bl _,.non=>true | .non,.str _=>true | .str _,.non=>true
 | .int _,.int _=>true | .bl _,.bl _=>true | .str _,.str _=>true | .byt _,.byt _=>true
 | .int _,.str _=>true | .str _,.int _=>true | .bl _,.str _=>true | .str _,.bl _=>true
 | _,_=>false
def rEq:R2:=fun x y H Q=>scal x y=true/\Q (.bl (decide (x=y))) H
def rNe:R2:=fun x y H Q=>scal x y=true/\Q (.bl (!decide (x=y))) H
theorem Vm :decide (V.int i=V.int j)=(i == j):=by
 rw[Oq]
 simp
theorem Vn :decide (V.bl i=V.bl j)=(i == j):=by
 rw[Oq]
 simp
theorem Vo :decide (V.str i=V.str j)=(i == j):=by
 rw[Oq]
 simp
theorem Vp :decide (V.byt i=V.byt j)=(i.toList == j.toList):=by
 rw[Oq]
 cases i
 cases j
 simp
section
variable {X:Cx}{a b c:Ay}{ta tb tc:TE}{pos:Pos}
theorem MF (I:Inv X B5 σ H s) (q:Q (.bl k) H) (e:k=k'):EP X B5 σ Q (.bool k') s:=by
 subst e
 exact⟨.bl k,H,I,rfl,q⟩
theorem op_eq:OpR X (An .Eq) rEq:=by
 intro B5 s σ H x y v u Q I rx ry h
 obtain⟨hs,q⟩:=h
 cases x with
 | non =>
  cases rx
  cases y with
  | non=>cases ry;exact PySem.EqNone.eq_none_none (MF I q (by simp))
  | bl j=>cases ry;exact PySem.EqNone.eq_none_bool (MF I q (by simp))
  | int j=>obtain⟨t',rfl⟩:=ry;exact PySem.EqNone.eq_none_int (MF I q (by simp))
  | str j=>obtain⟨t',rfl⟩:=ry;exact PySem.EqNone.eq_none_str (MF I q (by simp))
  | _=>exact absurd (show false=true from hs) Mj
 | bl i =>
  cases rx
  cases y with
  | non=>cases ry;exact PySem.EqNone.eq_bool_none (MF I q (by simp))
  | bl j=>cases ry;exact eq_bool (MF I q Vn)
  | str j=>obtain⟨t',rfl⟩:=ry;exact PySem.EqMixed.eq_bool_str (MF I q (by simp))
  | _=>exact absurd (show false=true from hs) Mj
 | int i =>
  obtain⟨t,rfl⟩:=rx
  cases y with
  | non=>cases ry;exact PySem.EqNone.eq_int_none (MF I q (by simp))
  | int j=>obtain⟨t',rfl⟩:=ry;exact eq_int (MF I q Vm)
  | str j=>obtain⟨t',rfl⟩:=ry;exact PySem.EqMixed.eq_int_str (MF I q (by simp))
  | _=>exact absurd (show false=true from hs) Mj
 | str i =>
  obtain⟨t,rfl⟩:=rx
  cases y with
  | non=>cases ry;exact PySem.EqNone.eq_str_none (MF I q (by simp))
  | bl j=>cases ry;exact PySem.EqMixed.eq_str_bool (MF I q (by simp))
  | int j=>obtain⟨t',rfl⟩:=ry;exact PySem.EqMixed.eq_str_int (MF I q (by simp))
  | str j=>obtain⟨t',rfl⟩:=ry;exact eq_str (MF I q Vo)
  | _=>exact absurd (show false=true from hs) Mj
 | byt i =>
  obtain⟨t,rfl⟩:=rx
  cases y with
  | byt j=>obtain⟨t',rfl⟩:=ry;exact PySem.W.eq_bytes (MF I q Vp)
  | _=>exact absurd (show false=true from hs) Mj
 | _=>cases y <;> exact absurd (show false=true from hs) Mj
theorem op_ne:OpR X (An .NotEq) rNe:=by
 intro B5 s σ H x y v u Q I rx ry h
 obtain⟨hs,q⟩:=h
 cases x with
 | non =>
  cases rx
  cases y with
  | non=>cases ry;exact PySem.EqNone.ne_none_none (MF I q (by simp))
  | bl j=>cases ry;exact PySem.EqNone.ne_none_bool (MF I q (by simp))
  | int j=>obtain⟨t',rfl⟩:=ry;exact PySem.EqNone.ne_none_int (MF I q (by simp))
  | str j=>obtain⟨t',rfl⟩:=ry;exact PySem.EqNone.ne_none_str (MF I q (by simp))
  | _=>exact absurd (show false=true from hs) Mj
 | bl i =>
  cases rx
  cases y with
  | non=>cases ry;exact PySem.EqNone.ne_bool_none (MF I q (by simp))
  | bl j=>cases ry;exact ne_bool (MF I q (congrArg not Vn))
  | str j=>obtain⟨t',rfl⟩:=ry;exact PySem.EqMixed.ne_bool_str (MF I q (by simp))
  | _=>exact absurd (show false=true from hs) Mj
 | int i =>
  obtain⟨t,rfl⟩:=rx
  cases y with
  | non=>cases ry;exact PySem.EqNone.ne_int_none (MF I q (by simp))
  | int j=>obtain⟨t',rfl⟩:=ry;exact ne_int (MF I q (congrArg not Vm))
  | str j=>obtain⟨t',rfl⟩:=ry;exact PySem.EqMixed.ne_int_str (MF I q (by simp))
  | _=>exact absurd (show false=true from hs) Mj
 | str i =>
  obtain⟨t,rfl⟩:=rx
  cases y with
  | non=>cases ry;exact PySem.EqNone.ne_str_none (MF I q (by simp))
  | bl j=>cases ry;exact PySem.EqMixed.ne_str_bool (MF I q (by simp))
  | int j=>obtain⟨t',rfl⟩:=ry;exact PySem.EqMixed.ne_str_int (MF I q (by simp))
  | str j=>obtain⟨t',rfl⟩:=ry;exact ne_str (MF I q (congrArg not Vo))
  | _=>exact absurd (show false=true from hs) Mj
 | byt i =>
  obtain⟨t,rfl⟩:=rx
  cases y with
  | byt j=>obtain⟨t',rfl⟩:=ry;exact PySem.W.ne_bytes (MF I q (congrArg not Vp))
  | _=>exact absurd (show false=true from hs) Mj
 | _=>cases y <;> exact absurd (show false=true from hs) Mj
theorem op_lt:OpR X (An .Lt) (rI0 fun i j=>.bl (decide (i < j))):=opB0 fun _ _ _ _ _ _ _ q=>lt_int q
theorem op_le:OpR X (An .LtE) (rI0 fun i j=>.bl (decide (i<=j))):=opB0 fun _ _ _ _ _ _ _ q=>le_int q
theorem op_gt:OpR X (An .Gt) (rI0 fun i j=>.bl (decide (j < i))):=opB0 fun _ _ _ _ _ _ _ q=>gt_int q
theorem op_ge:OpR X (An .GtE) (rI0 fun i j=>.bl (decide (j<=i))):=opB0 fun _ _ _ _ _ _ _ q=>ge_int q
theorem bF:OpR X (An .In) (fun x y H Q=>∃ i j,x=.str i/\y=.str j/\Q (.bl (!(Z0 j i 0 j.length 1).isEmpty)) H):=by
 intro B5 s σ H x y v u Q I rx ry h
 obtain⟨i,j,rfl,rfl,q⟩:=h
 obtain⟨t,rfl⟩:=rx
 obtain⟨t',rfl⟩:=ry
 exact in_str (MF I q rfl)
theorem op_isN:OpR X (An .Is) (fun x y H Q=>y=.non/\Q (.bl (decide (x=.non))) H):=by
 intro B5 s σ H x y v u Q I rx ry h
 obtain⟨rfl,q⟩:=h
 cases ry
 refine is_none_gen (MF I q ?_)
 cases x <;> first
  | (cases rx;rfl)
  | (obtain⟨t,rfl⟩:=rx;rfl)
theorem op_notN:OpR X (An .IsNot) (fun x y H Q=>y=.non/\Q (.bl (!decide (x=.non))) H):=by
 intro B5 s σ H x y v u Q I rx ry h
 obtain⟨rfl,q⟩:=h
 cases ry
 refine isnot_none_gen (MF I q ?_)
 cases x <;> first
  | (cases rx;rfl)
  | (obtain⟨t,rfl⟩:=rx;rfl)
theorem bG:OpR X (An .NotIn) (fun x y H Q=>∃ i j,x=.str i/\y=.str j/\Q (.bl (!(!(Z0 j i 0 j.length 1).isEmpty))) H):=by
 intro B5 s σ H x y v u Q I rx ry h
 obtain⟨i,j,rfl,rfl,q⟩:=h
 obtain⟨t,rfl⟩:=rx
 obtain⟨t',rfl⟩:=ry
 exact notIn_str (MF I q rfl)
theorem L6 (b:Ay) (h:op≠.In:=by decide) (h2:op≠.NotIn:=by decide):Bk op b=false:=by
 have e1:(op == CmpOp.In)=false:=by cases op <;> first | rfl | exact absurd rfl h
 have e2:(op == CmpOp.NotIn)=false:=by cases op <;> first | rfl | exact absurd rfl h2
 cases b <;> simp[Bk,e1,e2]
theorem NK (ho:OpR X (An op) r) (ha:PE X a ta) (hb:PE X b tb) (hm:Bk op b=false):PE X (.Compare a [op] [b] pos) (tOp r ta tb):=by
 intro B5 s σ H Q I h
 exact wpAny_Compare1 (binT ha hb I h fun v u s2 x y H2 I2 rx ry q=>ho B5 s2 σ H2 x y v u Q I2 rx ry q) hm
def R8 (t:TE):TT:=fun σ H Q=>t σ H fun x H'=>∃ k,x=.bl k/\Q k H'
theorem L_ (ho:OpR X (An op) r) (ha:PE X a ta) (hb:PE X b tb) (hm:Bk op b=false):PT X (.Compare a [op] [b] pos) (R8 (tOp r ta tb)):=by
 intro B5 s σ H Q I h
 refine BK (thn (ha B5 s σ H _ I h) fun v s1 ⟨x,H1,I1,r1,q1⟩=>thn (hb B5 s1 σ H1 _ I1 q1) fun u s2 ⟨y,H2,I2,r2,q2⟩ =>
  thn (ho B5 s2 σ H2 x y v u _ I2 r1 r2 q2) fun c s3 ⟨z,H3,I3,r3,k,e,q3⟩=>?_) hm
 subst e
 cases r3
 exact AA ⟨H3,I3,q3⟩
def R9 (r r':R2)(ta tb tc:TE):TE:=fun σ H Q=>ta σ H fun x H1=>tb σ H1 fun y H2=>r x y H2 fun z H3=>∃ k,z=.bl k /\
 (if k=true then tc σ H3 fun w' H4=>r' y w' H4 Q else Q (.bl false) H3)
theorem bH (ho:OpR X (An op) r) (ho':OpR X (An op') r') (ha:PE X a ta) (hb:PE X b tb) (hc:PE X c tc) (hm:lastMarks [op,op'] [b,c]=false:=by with_unfolding_all rfl):PE X (.Compare a [op,op'] [b,c] pos) (R9 r r' ta tb tc):=by
 intro B5 s σ H Q I h
 refine Compare_chain (thn (ha B5 s σ H _ I h) fun v s1 ⟨x,H1,I1,r1,q1⟩=>chain_link (thn (hb B5 s1 σ H1 _ I1 q1) fun u s2 ⟨y,H2,I2,r2,q2⟩ =>
  thn (ho B5 s2 σ H2 x y v u _ I2 r1 r2 q2) fun d s3 ⟨z,H3,I3,r3,k,e,q3⟩=>?_)) hm
 subst e
 cases r3
 refine AA ?_
 cases k with
 | false=>exact ite_ff ⟨.bl false,H3,I3,rfl,q3⟩
 | true=>exact ite_tt (chain_last (thn (hc B5 s3 σ H3 _ I3 q3) fun w' s4 ⟨z',H4,I4,r4,q4⟩=>ho' B5 s4 σ H4 y z' u w' Q I4 r2 r4 q4))
theorem Vq (ho:OpR X (An op) r) (ho':OpR X (An op') r') (ha:PE X a ta) (hb:PE X b tb) (hc:PE X c tc) (hm:lastMarks [op,op'] [b,c]=false:=by with_unfolding_all rfl):PT X (.Compare a [op,op'] [b,c] pos) (R8 (R9 r r' ta tb tc)):=by
 intro B5 s σ H Q I h
 refine isTrue_chain (thn (ha B5 s σ H _ I h) fun v s1 ⟨x,H1,I1,r1,q1⟩=>test_link (thn (hb B5 s1 σ H1 _ I1 q1) fun u s2 ⟨y,H2,I2,r2,q2⟩ =>
  thn (ho B5 s2 σ H2 x y v u _ I2 r1 r2 q2) fun d s3 ⟨z,H3,I3,r3,k,e,q3⟩=>?_)) hm
 subst e
 cases r3
 refine AA ?_
 cases k with
 | false =>
  obtain⟨k',e',q'⟩:=q3
  cases e'
  exact ite_ff ⟨H3,I3,q'⟩
 | true =>
  refine ite_tt (test_last (thn (hc B5 s3 σ H3 _ I3 q3) fun w' s4 ⟨z',H4,I4,r4,q4⟩=>thn (ho' B5 s4 σ H4 y z' u w' _ I4 r2 r4 q4) fun d' s5 hI9=>?_))
  obtain⟨z2,H5,I5,r5,k2,e2,q5⟩:=hI9
  subst e2
  cases r5
  exact AA ⟨H5,I5,q5⟩
noncomputable def TruV (K:LR)(x:V)(H:Hp)(k:Bool):Prop :=
 match x with
 | .non=>k=false
 | .bl b=>k=b
 | .int i=>k=(i != 0)
 | .str y=>y.length<=Af/\k=((y.length:Int) != 0)
 | .byt y=>y.size<=Af/\k=((y.size:Int) != 0)
 | .ref p=>(∃ xs,SqL K H p xs/\k=!xs.isEmpty)∨(∃ xs,SqT K H p xs/\k=!xs.isEmpty)∨∃ B7,H p=some (.dK B7)/\k=!B7.isEmpty
 | _=>False
theorem bI (r:KV B7 vs):(!vs.isEmpty)=!B7.isEmpty:=by
 cases r <;> rfl
theorem Vr (r:Vals xs its):(!its.toArray.isEmpty)=!xs.isEmpty:=by
 cases r <;> simp
theorem N9:(Af:Nat) < 2 ^ 63:=by rw[Bz];decide
theorem tru_ok:TruR X (fun x H Q=>∃ k,TruV X.K x H k/\Q k H):=by
 intro B5 s σ H x v Q I rx h
 obtain⟨k,e,q⟩:=h
 have hl:=N9
 have hs:Af=16777216:=Bz
 cases x with
 | non =>
  cases rx
  have e':k=false:=e
  subst e'
  exact truthy_none ⟨H,I,q⟩
 | bl b =>
  cases rx
  have e':k=b:=e
  subst e'
  exact AA ⟨H,I,q⟩
 | int i =>
  obtain⟨t,rfl⟩:=rx
  have e':k=(i != 0):=e
  subst e'
  exact PySem.P.truthy_int ⟨H,I,q⟩
 | str y =>
  obtain⟨t,rfl⟩:=rx
  obtain⟨hy,e'⟩:y.length<=Af/\k=((y.length:Int) != 0):=e
  subst e'
  exact PySem.P.truthy_str (by omega) ⟨H,I.tok _,q⟩
 | byt y =>
  obtain⟨t,rfl⟩:=rx
  obtain⟨hy,e'⟩:y.size<=Af/\k=((y.size:Int) != 0):=e
  subst e'
  exact PySem.W.truthy_bytes (by omega) ⟨H,I.tok _,q⟩
 | ref p =>
  cases rx
  have e':(∃ xs,SqL X.K H p xs/\k=!xs.isEmpty)∨(∃ xs,SqT X.K H p xs/\k=!xs.isEmpty)∨∃ B7,H p=some (.dK B7)/\k=!B7.isEmpty:=e
  rcases e' with ⟨xs,hx,e'⟩ | ⟨xs,hx,e'⟩ | ⟨B7,hx,e'⟩
  ·subst e'
   obtain⟨its,r,pl,hz⟩:=I.list hx
   have Ca:=r.length
   exact wpAny_truthy_list pl.isList (by simp only[Mu];omega) ⟨H,I.tok _,by rw[Vr r];exact q⟩
  ·subst e'
   obtain⟨its,r,pl,hz⟩:=I.tuple hx
   have Ca:=r.length
   exact truthy_tuple pl (by simp only[Mu];omega) ⟨H,I.tok _,by rw[Vr r];exact q⟩
  ·subst e'
   obtain⟨hz,hS,vs,r,m⟩:B7.length<=Af/\(p == Ar)=false/\∃ vs,KV B7 vs/\s.heap.DictOf (MB X.prog X.w) p vs:=I.hok p _ hx
   have Ca:B7.length=vs.length:=UE r
   exact wpAny_truthy_dict hS m (by omega) ⟨H,I.tok _,by rw[bI r];exact q⟩
 | _=>exact(show False from e).elim
theorem bJ:OpR X (AI .Add) (fun x y H Q=>∃ i j,x=.str i/\y=.str j/\i.length+j.length<=Af/\Q (.str (i++j)) H):=by
 intro B5 s σ H x y v u Q I rx ry h
 obtain⟨i,j,rfl,rfl,hz,q⟩:=h
 obtain⟨t,rfl⟩:=rx
 obtain⟨t',rfl⟩:=ry
 exact add_str (fun t' tk=>⟨.str (i++j),H,I.tok _,⟨_,rfl⟩,q⟩) hz
theorem Np (r:Vals [x] us):∃ u,us=[u]/\RelV x u:=by
 cases r with
 | cons r1 r2=>cases r2;exact⟨_,rfl,r1⟩
theorem Pz (r:Vals [x,y] us):∃ u w',us=[u,w']/\RelV x u/\RelV y w':=by
 cases r with
 | cons r1 r2 =>
  cases r2 with
  | cons r3 r4=>cases r4;exact⟨_,_,rfl,r1,r3⟩
theorem call_abs:CallR X (.builtin "abs") (fun xs H Q=>∃ i,xs=[.int i]/\Q (.int (if i < 0 then -i else i)) H):=by
 intro B5 s σ H xs us Q I r h
 obtain⟨i,rfl,q⟩:=h
 obtain⟨u,rfl,t,rfl⟩:=Np r
 exact call_abs_int fun u tk=>⟨.int (if i < 0 then -i else i),H,I.tok _,⟨_,rfl⟩,q⟩
theorem bK (hc:X.calm=true):CallR X (.builtin "max") (fun xs H Q=>∃ i j,xs=[.int i,.int j]/\Q (.int (if j > i then j else i)) H):=by
 intro B5 s σ H xs us Q I r h
 obtain⟨i,j,rfl,q⟩:=h
 obtain⟨u,w',rfl,⟨t,rfl⟩,⟨t',rfl⟩⟩:=Pz r
 refine max_two_ints (I.ok.hd hc) fun h' tk k=>⟨_,H,I.kept k,?_,q⟩
 by_cases hj:j > i
 ·rw[B4 hj,B4 hj];exact⟨_,rfl⟩
 ·rw[B3 hj,B3 hj];exact⟨_,rfl⟩
theorem call_int1:CallR X (.type "int") (fun xs H Q=>(∃ i,xs=[.int i]/\Q (.int i) H)∨∃ k,xs=[.bl k]/\Q (.int (if k then 1 else 0)) H):=by
 intro B5 s σ H xs us Q I r h
 rcases h with ⟨i,rfl,q⟩ | ⟨k,rfl,q⟩
 ·obtain⟨u,rfl,t,rfl⟩:=Np r
  exact call_int_int ⟨.int i,H,I,⟨_,rfl⟩,q⟩
 ·obtain⟨u,rfl,r1⟩:=Np r
  cases r1
  exact call_int_bool ⟨.int (if k then 1 else 0),H,I.tok _,⟨_,rfl⟩,q⟩
theorem call_str_int:CallR X (.type "str") (fun xs H Q=>∃ i,xs=[.int i]/\i.natAbs.log2 < 1920/\Q (.str (toString i)) H):=by
 intro B5 s σ H xs us Q I r h
 obtain⟨i,rfl,hz,q⟩:=h
 obtain⟨u,rfl,t,rfl⟩:=Np r
 exact PySem.P.str_of_int hz ⟨.str _,H,I.tok _,⟨_,rfl⟩,q⟩
end
structure ObjM (h:Ao)(x dx C:Ac)(mA:Str->Option Ab):Prop where
 obj:h.get? x=some (Rr C dx)
 ns:h.Ns1 dx mA
 ne:dx≠x
theorem bL {h:Ao}{dx:Ac}{mA:Str->Option Ab}(n:h.Ns1 dx mA):∃ od,h.get? dx=some od/\∀ name,ZG name od=some (mA name):=by
 obtain⟨o,es,ep,ho,hd,hk,_,hm⟩:=n
 refine⟨o,ho,fun name=>?_⟩
 have e:=hm name
 unfold nsFind findBy at e
 rw[<- Array.find?_toList] at e
 unfold ZG
 rw[hd]
 dsimp only
 split
 ·rename_i y q
  rw[q] at e
  exact congrArg some e
 ·rename_i q
  rw[q] at e
  have a:es.toList.any (·.refKey)=false:=by
   rw[Zu]
   intro y hy
   obtain⟨z,t,F7⟩:=hk y (Array.mem_toList_iff.mp hy)
   simp[DictEntry.refKey,F7]
  have a':¬ es.toList.any (·.refKey)=true:=by rw[a];exact Mj
  rw[B3 a']
  exact congrArg some e
theorem ObjM.look (I:ObjM h x dx C mA):∃ od,PySem.W.InstAt h x (Rr C dx) C (some od)/\∀ name,ZG name od=some (mA name) :=
 let ⟨od,ho,hl⟩:=bL I.ns
 ⟨od,⟨I.obj,rfl,rfl,ho⟩,hl⟩
section
variable {prog:Ag}{w:Ak}{A:Ap}{E:Ab->Ae->Prop}{s:Ae}{K:LR}{x dx C f:Ac}{mA:Str->Option Ab}{name:Str}{v:Ab}
theorem get_map (X:K.In s.heap) (I:ObjM s.heap x dx C mA) (hg:Rq K C name=true) (hh:RY K C=true) (ha:MM K (.ref C) name=some none) (hv:mA name=some v) (hv':PySem.W.handedIn v=true) (h:Q v { s with toks:=s.toks+1 }):
  wpAny (Aj prog w) A (getAttr (.ref x) name expr) Q E s:=by
 obtain⟨od,J,hl⟩:=I.look
 exact PySem.W.get_value X J (aI hg).1 (PySem.W.findObj_own hh ha rfl (by rw[hl,hv])) hv' h
theorem bM (X:K.In s.heap) (I:ObjM s.heap x dx C mA) (hg:Rq K C name=true) (hf:MM K (.ref C) name=some (some (.ref f))) (ht:U0 K (.ref f)=true) (hv:mA name=none) (h:Q (.ref f,[.ref x]) s):
  wpAny (Aj prog w) A (Bq (.ref x) name pl) Q E s:=by
 obtain⟨od,J,hl⟩:=I.look
 exact PySem.W.method_fn X J (aI hg).1 (aI hg).2 hf (beq_iff_eq.mp ht) (by show (ZG name od).map (·.isSome)=some false;rw[hl,hv];rfl) h
theorem set_map (X:K.In s.heap) (I:ObjM s.heap x dx C mA) (hs:MM K (.ref C) "__setattr__"=some (some (.builtin "object.__setattr__"))) (hp:Ul K C=true) (ht:aM K C name=some none) (hh:RY K C=true) (hw:Z1 mA ns) (hsz:ns.length<=Af) (h:∀ h',ObjM h' x dx C (fun y=>if y=name then some v else mA y)->OF dx s.heap h'->Q () { s with heap:=h',toks:=s.toks+2 }):
  wpAny (Aj prog w) A (setAttr (.ref x) name v) Q E s:=by
 obtain⟨od,J,hl⟩:=I.look
 refine PySem.W.set_plain X J hs (PySem.W.osa_open (s:={ s with toks:=s.toks+1 }) (r:=none) X J hp ht fun b=>?_)
 obtain⟨cd,hc,hd'⟩:=PySem.W.any_some hh
 have hx:s.heap.get? x=some ⟨.ref C,some dx,.plain,#[]⟩:=I.obj
 refine Aa (Ad (Aa (Aa (wpAny_loadPart hx (Aa (PySem.W.Looks.here (s:={ s with toks:=s.toks+1 }) (PySem.W.looks_clsIn X hc) ?_))))))
 rw[hd']
 refine Ad (a:=some dx) (Aa (Ad (Aa ?_)))
 refine wpAny_nsSet1 (s:={ s with toks:=s.toks+1 }) I.ns fun h' F8 DG=>?_
 obtain⟨oD,esD,epD,Kw,Kx,Ky⟩:=F8.count (Z1.cons name v hw)
 refine Aa (wpAny_lookBehind Kw (by rw[Kx];exact pastItsLine_dict (MX Ky (by rw[Mr];omega))) ?_)
 exact Ad (h _ ⟨(DG.2 _ (N2 I.ne)).trans I.obj,F8,I.ne⟩ DG)
theorem bN (X:K.In s.heap) (hm:RZ K C=true) (hi:MM K (.ref C) "__init__"=some (some (.ref f))) (hf:PySem.W.typeIn K (.ref f)=some (.type "function")) (h:codeAny (Aj prog w) (A.under (.builtin "type.__call__" ⟨.ref C::vs,kw⟩)) (.call (.ref f) ⟨.ref (s.heap.objs.size+1)::vs,kw⟩) (PySem.W.InitBack (s.heap.objs.size+1) R)
   { s with heap:=(s.heap.push Qu).push (Rr C s.heap.objs.size) }):
  codeAny (Aj prog w) A (.call (.ref C) ⟨vs,kw⟩) R s:=by
 obtain⟨hh,g,d,t,os⟩:=s
 exact PySem.W.make_core (PySem.W.makes_of X hm) (PySem.W.looks_findIn X hi) (fun self=>PySem.W.bind_fn X self hf) (.inl rfl) h
end
noncomputable def putF (f:Str)(v:V):List (Str×V)->List (Str×V)
 | []=>[(f,v)]
 | (g,x)::r=>if g=f then (g,v)::r else (g,x)::putF f v r
theorem Vs (f g:Str)(v:V):∀ fs:List (Str×V),(putF f v fs).lookup g=if g=f then some v else fs.lookup g
 | []=>by
  show RX g [(f,v)]=_
  by_cases h:g=f
  ·have hb:(g == f)=true:=beq_iff_eq.mpr h
   simp only[RX,hb,B4 h]
  ·have hb:(g == f)=false:=beq_eq_false_iff_ne.mpr h
   simp only[RX,hb,B3 h]
 | (k,x)::r=>by
  have ih:=Vs f g v r
  rw[show putF f v ((k,x)::r)=(if k=f then (k,v)::r else (k,x)::putF f v r) from rfl]
  by_cases hk:k=f
  ·rw[B4 hk]
   by_cases h:g=k
   ·have hb:(g == k)=true:=beq_iff_eq.mpr h
    simp only[RX,hb,B4 (h.trans hk)]
   ·have hb:(g == k)=false:=beq_eq_false_iff_ne.mpr h
    simp only[RX,hb,B3 (fun e:g=f=>h (e.trans hk.symm))]
  ·rw[B3 hk]
   by_cases h:g=k
   ·have hb:(g == k)=true:=beq_iff_eq.mpr h
    simp only[RX,hb,B3 (fun e:g=f=>hk (h.symm.trans e))]
   ·have hb:(g == k)=false:=beq_eq_false_iff_ne.mpr h
    simp only[RX,hb]
    exact ih
theorem R_ (f:Str)(v:V):∀ fs:List (Str×V),f∈(putF f v fs).map (·.1)/\∀ g,g∈fs.map (·.1)->g∈(putF f v fs).map (·.1)
 | []=>⟨by simp[putF],fun g h=>by simp at h⟩
 | (k,x)::r=>by
  obtain⟨i1,i2⟩:=R_ f v r
  rw[show putF f v ((k,x)::r)=(if k=f then (k,v)::r else (k,x)::putF f v r) from rfl]
  by_cases hk:k=f
  ·rw[B4 hk]
   subst hk
   exact⟨by simp,fun g h=>by simpa using h⟩
  ·rw[B3 hk]
   refine⟨?_,fun g h=>?_⟩
   ·rw[L']
    exact Mp _ i1
   ·rw[L'] at h ⊢
    rcases Mc.mp h with e | e
    ·exact Mc.mpr (.inl e)
    ·exact Mp _ (i2 g e)
theorem Vt (f:Str)(v:V):∀ fs:List (Str×V),(putF f v fs).length<=fs.length+1
 | []=>by simp[putF]
 | (k,x)::r=>by
  have ih:=Vt f v r
  rw[show putF f v ((k,x)::r)=(if k=f then (k,v)::r else (k,x)::putF f v r) from rfl]
  by_cases hk:k=f
  ·rw[B4 hk,Mr,Mr];omega
  ·rw[B3 hk,Mr,Mr];omega
theorem RelO.some_of (r:RelO (some v) o):∃ u,o=some u/\RelV v u:=by
 cases o with
 | none=>exact(show False from r).elim
 | some u=>exact⟨u,rfl,r⟩
theorem RelO.none_of (r:RelO none o):o=none:=by
 cases o with
 | none=>rfl
 | some u=>exact(show False from r).elim
theorem bO (r:RelV v u):PySem.W.handedIn u=true:=by
 cases v with
 | non=>cases (show u=Value.none from r);rfl
 | bl b=>cases (show u=Value.bool b from r);rfl
 | int i=>obtain⟨t,e⟩:=(show ∃ t,u=Value.int i t from r);cases e;rfl
 | str x=>obtain⟨t,e⟩:=(show ∃ t,u=Value.str x t from r);cases e;rfl
 | byt b=>obtain⟨t,e⟩:=(show ∃ t,u=Value.bytes b t from r);cases e;rfl
 | flt b=>obtain⟨t,e⟩:=(show ∃ t,u=Value.float b t from r);cases e;rfl
 | ref a=>cases (show u=Value.ref a from r);rfl
 | ty n=>cases (show u=Value.type n from r);rfl
section
variable {P:Ag}{w:Ak}{H H':Hp}{h h':Ao}{a C dx:Ac}{fs fs':List (Str×V)}
theorem R' (hok:HOk P w H h)(e:H a=some (.ins C dx fs)):∃ mA,ObjM h a dx C mA/\(∀ f,RelO (fs.lookup f) (mA f))/\Z1 mA (fs.map (·.1))/\fs.length<=1000/\H dx=some (.own a):=by
 obtain⟨d,z,ne,ob,mA,n,r,q⟩:=(show ObjOk P w H h a (.ins C dx fs) from hok a _ e)
 exact⟨mA,⟨ob,n,ne⟩,r,q,z,d⟩
end
structure Cls (K:LR)(C:Ac):Prop where
 pg:Rq K C U5=true
 hd:RY K C=true
 po:Ul K C=true
 sa:MM K (.ref C) "__setattr__"=some (some (.builtin "object.__setattr__"))
theorem Cls.get {K:LR}{C:Ac}(c:Cls K C)(f:Str):Rq K C f=true:=c.pg
def NoAttr (K:LR)(C:Ac)(f:Str):Prop:=MM K (.ref C) f=some none
theorem NoAttr.taker {K:LR}{C:Ac}{f:Str}(n:NoAttr K C f):aM K C f=some none:=by
 unfold aM
 rw[show MM K (.ref C) f=some none from n]
 rfl
structure Con (K:LR)(C:Ac)(f:Str)(v:V)(u:Ab):Prop where
 at_:MM K (.ref C) f=some (some u)
 rel:RelV v u
 get:aL K u "__get__"=some none
 cp:PySem.W.copiedNames.contains f=false
structure Meth (K:LR)(C:Ac)(m:Str)(f:Ac):Prop where
 at_:MM K (.ref C) m=some (some (.ref f))
 fn:U0 K (.ref f)=true
 kp:OG K (.ref f)=true
section
variable {X:Cx}{B5:List (Ac×Obj)}{σ:St}{H:Hp}{s:Ae}{a C dx:Ac}{fs:List (Str×V)}{f:Str}{v:V}{A:Ap}{E:Ab->Ae->Prop}
theorem bP (I:Inv X B5 σ H s) (e:H a=some (.ins C dx fs)) (c:Cls X.K C) (n:NoAttr X.K C f) (l:fs.lookup f=some v) (h:∀ u s',Inv X B5 σ H s'->RelV v u->Q u s'):wpAny (Aj X.prog X.w) A (getAttr (.ref a) f b) Q E s:=by
 obtain⟨mA,O,r,_,_,_⟩:=R' I.hok e
 obtain⟨u,hu,ru⟩:=RelO.some_of (v:=v) (o:=mA f) (by rw[<- l];exact r f)
 exact get_map I.kIn O (c.get f) c.hd n hu (bO ru) (h u _ (I.tok _) ru)
theorem Sa (I:Inv X B5 σ H s) (e:H a=some (.ins C dx fs)) (c:Cls X.K C) (k:Meth X.K C m g) (l:fs.lookup m=none) (h:Q (.ref g,[.ref a]) s):wpAny (Aj X.prog X.w) A (Bq (.ref a) m pl) Q E s:=by
 obtain⟨mA,O,r,_,_,_⟩:=R' I.hok e
 have hn:mA m=none:=RelO.none_of (by rw[<- l];exact r m)
 exact bM I.kIn O (c.get m) k.at_ k.fn hn h
theorem bQ (I:Inv X B5 σ H s) (e:H a=some (.ins C dx fs)) (c:Cls X.K C) (n:NoAttr X.K C f) (hl:fs.length < 1000) (ry:RelV y u) (h:∀ s',Inv X B5 σ (upd H a (.ins C dx (putF f y fs))) s'->Q () s'):wpAny (Aj X.prog X.w) A (setAttr (.ref a) f u) Q E s:=by
 obtain⟨mA,O,r,wi,_,ho⟩:=R' I.hok e
 have hz:(fs.map (·.1)).length<=Af:=by rw[LP,Bz];omega
 refine set_map I.kIn O c.sa c.po n.taker c.hd wi hz fun h' O' sb=>h _ ?_
 have hd:∃ o,h'.get? dx=some o:=let ⟨o,_,_,e',_⟩:=O'.ns;⟨o,e'⟩
 refine I.write (x:=a) (e:=dx) (by rw[e];exact True.intro) (.inr ho) (fun b q hb z=>(sb.2 b hb).trans z) hd ?_
 refine⟨by rw[LU O.ne];exact ho,?_,O.ne,O'.obj,_,O'.ns,fun g=>?_,fun g hg=>?_⟩
 ·have:=Vt f y fs;omega
 ·show RelO ((putF f y fs).lookup g) (if g=f then some u else mA g)
  rw[Vs]
  by_cases q:g=f
  ·rw[B4 q,B4 q];exact ry
  ·rw[B3 q,B3 q];exact r g
 ·by_cases q:g=f
  ·rw[q];exact(R_ f y fs).1
  ·refine(R_ f y fs).2 g (wi g fun z=>hg ?_)
   show (if g=f then some u else mA g)=none
   rw[B3 q];exact z
theorem Inv.made (I:Inv X B5 σ H s):Inv X B5 σ (upd (upd H s.heap.objs.size (.own (s.heap.objs.size+1))) (s.heap.objs.size+1) (.ins C s.heap.objs.size []))
  { s with heap:=(s.heap.push Qu).push (Rr C s.heap.objs.size) }:=by
 have e1:(s.heap.push Qu).get? s.heap.objs.size=some Qu:=Ms s.heap rfl
 have e2:((s.heap.push Qu).push (Rr C s.heap.objs.size)).get? (s.heap.objs.size+1)=some (Rr C s.heap.objs.size):=by
  have:=Ms (s.heap.push Qu) (o:=Rr C s.heap.objs.size) rfl
  rwa [NZ] at this
 have e3:(s.heap.push Qu).Ns s.heap.objs.size (fun _=>none):=⟨Qu,#[],_,e1,rfl,(fun e he=>absurd he (by simp)),fun _=>rfl⟩
 have I1:=I.laid (a:=s.heap.objs.size) (o:=.own (s.heap.objs.size+1)) (h':=s.heap.push Qu) (t':=s.toks) (fun b u q=>L1 _ q) (LZ _) ⟨_,e1⟩
 refine I1.laid (a:=s.heap.objs.size+1) (o:=.ins C s.heap.objs.size []) (t':=s.toks) (fun b u q=>L1 _ q) (aU (NZ _ _)) ?_
 have ne:s.heap.objs.size≠s.heap.objs.size+1:=MI (Ur _)
 refine⟨by rw[LU ne,LN],MR _,ne,e2,fun _=>none,(Heap.Ns1.of_empty e3).at fun o q=>L1 _ q,fun _=>True.intro,fun y hy=>absurd rfl hy⟩
theorem attr_of (hb:AO e f env (Ax e env)=Ax e env) (h:wpAny (Aj prog w) A (Ax e env) (fun o s₁=>wpAny (Aj prog w) A (getAttr o f true) Q E s₁) E s):wpAny (Aj prog w) A (Ax (.Attribute e f pos) env) Q E s :=
 Attribute_any_ h (by rw[arm_eval_Attribute,hb])
end
def tFld (K:LR)(ta:TE)(f:Str):TE:=fun σ H Q=>ta σ H fun x H1=>∃ a C dx fs v,x=.ref a/\H1 a=some (.ins C dx fs)/\Cls K C/\NoAttr K C f/\fs.lookup f=some v/\Q v H1
def sFld (K:LR)(ta tv:TE)(f:Str):TS:=fun D σ H=>tv σ H fun y H1=>ta σ H1 fun x H2=>∃ a C dx fs,x=.ref a/\H2 a=some (.ins C dx fs)/\Cls K C/\NoAttr K C f/\fs.length < 1000 /\
 D.nx σ (upd H2 a (.ins C dx (putF f y fs)))
section
variable {X:Cx}{o e value:Ay}{f:Str}{pos pos' tpos:Pos}{ta tv:TE}
theorem Nj (he:PE X e ta)(hb:AO e f X.env (Ax e X.env)=Ax e X.env):PE X (.Attribute e f pos) (tFld X.K ta f):=by
 intro B5 s σ H Q I h
 refine attr_of hb (thn (he B5 s σ H _ I h) fun u s1 hI9=>?_)
 obtain⟨x,H1,I1,rx,a,C,dx,fs,v,ex,ea,c,n,l,q⟩:=hI9
 subst ex
 obtain rfl:u=Value.ref a:=rx
 exact bP I1 ea c n l fun u' s2 I2 ru=>⟨v,H1,I2,ru,q⟩
theorem QF (ha:PE X o ta)(hv:PE X value tv)(hs:Bh value (some (.Attribute o f pos')) pos.line X.env=pure false):PS X (.Assign [.Attribute o f pos'] value pos) (sFld X.K ta tv f):=by
 intro B5 s σ H D I h
 refine plainObj_wpAny_Assign_Attribute (thn (hv B5 s σ H _ I h) fun u s1 ⟨y,H1,I1,ry,q⟩=>thn (ha B5 s1 σ H1 _ I1 q) fun ov s2 hI9=>?_) hs
 obtain⟨x,H2,I2,rx,a,C,dx,fs,ex,ea,c,n,l,q2⟩:=hI9
 subst ex
 obtain rfl:ov=Value.ref a:=rx
 exact bQ I2 ea c n l ry fun s3 I3=>⟨σ,_,I3,q2⟩
theorem methcall_of (he:PE X e te) (I:Inv X B5 σ H s) (h:te σ H fun x H1=>∃ a C dx fs g,x=.ref a/\H1 a=some (.ins C dx fs)/\Cls X.K C/\Meth X.K C m g/\fs.lookup m=none /\
   ∀ s1,Inv X B5 σ H1 s1->wpAny (Aj X.prog X.w) X.A (BM pos (.ref g) [.ref a] (AE pos (Ah args X.env)) (Ba pos (AU [] X.env))) Q X.xe s1) (ht:Ax (.Call (.Attribute e m Cf) args [] pos) X.env=(do
   let ov <- Ax e X.env
   BD Cf.atName
   let (f,first) <- By [ov] (Bq ov m pl)
   BM pos f first (AE pos (Ah args X.env)) (Ba pos (AU [] X.env)))):
  wpAny (Aj X.prog X.w) X.A (Ax (.Call (.Attribute e m Cf) args [] pos) X.env) Q X.xe s:=by
 refine aH (pl:=pl) (thn (he B5 s σ H _ I h) fun u s1 hI9=>?_) ht
 obtain⟨x,H1,I1,rx,a,C,dx,fs,g,ex,ea,c,k,l,q⟩:=hI9
 subst ex
 obtain rfl:u=Value.ref a:=rx
 exact Sa I1 ea c k l (q s1 I1)
end
section
variable {X:Cx}{B5:List (Ac×Obj)}{σ:St}{H:Hp}{s:Ae}{A:Ap}{E:Ab->Ae->Prop}{Q:Ab->Ae->Prop}{c:Ab}{b:Bool}
inductive TyOf (K:LR) (H:Hp):V->Ab->Prop where
 | non:TyOf K H .non (.type "NoneType")
 | bl (x:Bool):TyOf K H (.bl x) (.type "bool")
 | int (i:Int):TyOf K H (.int i) (.type "int")
 | str (x:Str):TyOf K H (.str x) (.type "str")
 | flt (x:UInt64):TyOf K H (.flt x) (.type "float")
 | lst {a:Ac}{xs:List V} (e:H a=some (.lst xs)):TyOf K H (.ref a) (.type "list")
 | frz {a:Ac}{o:Obj}{xs:List V} (e:H a=some (.frz o (.lst xs))):TyOf K H (.ref a) (.type "list")
 | tup {a:Ac}{xs:List V} (e:H a=some (.tup xs)):TyOf K H (.ref a) (.type "tuple")
 | dK {a:Ac}{B7:List (Key×V)} (e:H a=some (.dK B7)):TyOf K H (.ref a) (.type "dict")
 | dT {a:Ac}{B7:List (List Key×V)} (e:H a=some (.dT B7)):TyOf K H (.ref a) (.type "dict")
 | ins {a C dx:Ac}{fs:List (Str×V)} (e:H a=some (.ins C dx fs)) (cl:Cls K C) (ha:MM K (.ref C) "__class__"=some (some (.builtin "object.__class__")))
   (hn:aL K (.builtin "object.__class__") "__get__"=some (some (.builtin "getset_descriptor.__get__"))) (Fe:PySem.W.takesIn K (.builtin "object.__class__")=some true)
   (hm:PySem.W.mroIn K C (.type "object")=some true):TyOf K H (.ref a) (.ref C)
end
structure Room (k:Nat)(A:Ap):Prop where
 hd:A.handled=none
 dp:A.depth+3 * k+5 < recursionLimit
 un:A.units+16 * k+200 < AR
theorem Room.mono (r:Room k A) (h:j<=k):Room j A:=⟨r.hd,by have:=r.dp;omega,by have:=r.un;omega⟩
theorem Room.deeper (r:Room (k+1) A) (env:Env):Room k (A.deeper env) :=
 ⟨r.hd,by have:=r.dp;show A.depth+1+3 * k+5 < _;omega,by have:=r.un;show A.units+3+16 * k+200 < _;omega⟩
theorem bR {A:Ap}{C:Ac}{us:List Ab}{kw:List (Str×Ab)}:(A.under (.builtin "type.__call__" ⟨.ref C::us,kw⟩)).depth=A.depth+1:=by
 first | rfl | simp[bo,Code.weight,Code.isCreation,Code.isGuard,Code.isCaller,Code.frames,bq,guardIds]
theorem bS {A:Ap}{C:Ac}{us:List Ab}{kw:List (Str×Ab)}:(A.under (.builtin "type.__call__" ⟨.ref C::us,kw⟩)).units=A.units+1:=by
 first | rfl | simp[bo,Code.cUnits,Code.frames,bq]
theorem Room.make (r:Room (k+1) A) (C:Ac) (us:List Ab) (kw:List (Str×Ab)):Room k (A.under (.builtin "type.__call__" ⟨.ref C::us,kw⟩)) :=
 ⟨r.hd,by have:=r.dp;rw[bR];omega,by have:=r.un;rw[bS];omega⟩
theorem Room.depth (r:Room k A):A.depth < recursionLimit:=by have:=r.dp;omega
theorem Room.units (r:Room k A):A.units+64 < AR:=by have:=r.un;omega
def tNil:TA:=fun _ H Q=>Q [] H
def Sb (ta:TE)(tr:TA):TA:=fun σ H Q=>ta σ H fun x H1=>tr σ H1 fun xs H2=>Q (x::xs) H2
section
variable {X:Cx}{e:Ay}{es:List Ay}{te:TE}{t:TA}{pos:Pos}
theorem Ph:PA X [] tNil:=fun _ _ _ _ H Q I h=>Rw ⟨[],H,I,.nil,h⟩
theorem LO (ha:PE X e te)(hr:PA X es t)(hs:Ah (e::es) X.env=(false,Ax e X.env)::Ah es X.env:=by rfl):PA X (e::es) (Sb te t):=by
 intro pos B5 s σ H Q I h
 rw[hs]
 show wpAny _ _ (Bx ((false,Ax e X.env)::AE pos (Ah es X.env))) _ _ s
 refine Pr (thn (ha B5 s σ H _ I h) fun u s1 hI9=>?_)
 obtain⟨x,H1,I1,r1,q1⟩:=hI9
 exact thn (hr pos B5 s1 σ H1 _ I1 q1) fun us s2 ⟨xs,H2,I2,r2,q2⟩=>⟨x::xs,H2,I2,.cons r1 r2,q2⟩
def tTup (t:TA):TE:=fun σ H Q=>t σ H fun xs H1=>xs.length<=Af/\∀ p,H1 p=none->Q (.ref p) (upd H1 p (.tup xs))
def tLst (t:TA):TE:=fun σ H Q=>t σ H fun xs H1=>xs.length<=Af/\∀ p,H1 p=none->Q (.ref p) (upd H1 p (.lst xs))
theorem Nw (h:PA X es t):PE X (.Tuple es x1 pos) (tTup t):=by
 intro B5 s σ H Q I hq
 refine wpAny_Tuple_spliced (thn (h pos B5 s σ H _ I hq) fun us s1 ⟨xs,H1,I1,r,z,q⟩=>⟨by rw[<- r.length];exact z,?_⟩)
 have hf:H1 s1.heap.objs.size=none:=I1.hok.fresh (LZ _)
 refine⟨.ref s1.heap.objs.size,upd H1 s1.heap.objs.size (.tup xs),I1.laid (t':=s1.toks) (fun b u e=>L1 _ e) (LZ _) ?_,rfl,q _ hf⟩
 exact⟨z,us,r,⟨_,Ms _ rfl,rfl,_,rfl⟩,DcN.new _ _⟩
theorem MZ (h:PA X es t):PE X (.List es pos) (tLst t):=by
 intro B5 s σ H Q I hq
 refine wpAny_List_spliced (thn (h pos B5 s σ H _ I hq) fun us s1 ⟨xs,H1,I1,r,z,q⟩=>⟨by rw[<- r.length];exact z,?_⟩)
 have hf:H1 s1.heap.objs.size=none:=I1.hok.fresh (LZ _)
 refine⟨.ref s1.heap.objs.size,upd H1 s1.heap.objs.size (.lst xs),I1.laid (t':=s1.toks) (fun b u e=>L1 _ e) (LZ _) ?_,rfl,q _ hf⟩
 exact⟨z,us,0,r,Ms _ rfl⟩
end
abbrev Sp:=List V->Hp->VK->XK->Prop
abbrev CXT:=List Env->Hp->Ae->XK->Ab->Ae->Prop
structure Env0 (P:Ag)(w:Ak)(K:LR)(mg:Str->Option Ab)(base:Ao)(A:Ap)(outer:List Env)(s:Ae)(H:Hp):Prop where
 frames:A.frames=some outer
 mod:Mod K mg base
 bs:∀ b o,base.get? b=some o->s.heap.get? b=some o/\H b=none
 bsz:base.objs.size<=s.heap.objs.size
 funs:s.heap.FunFrames base outer
 frf:∀ b∈frs outer,H b=none
 hok:HOk P w H s.heap
 bare:Bw s.gens
noncomputable def CE (outer:List Env)(P:Ag)(w:Ak)(H:Hp)(s:Ae)(Q:VK)(u:Ab)(s':Ae):Prop :=
 ∃ v H',s'.os=s.os/\Bw s'.gens/\Un (frs outer) [] H H' s.heap s'.heap/\HOk P w H' s'.heap/\RelV v u/\Q v H'
noncomputable def CR (CX:CXT)(outer:List Env)(P:Ag)(w:Ak)(H:Hp)(s:Ae)(Q:VK)(E:XK)(r:Result)(s':Ae):Prop :=
 match r with
 | .ok (.ret u)=>CE outer P w H s Q u s'
 | .ok _=>False
 | .error e=>CX outer H s E e s'
structure FnOk (P:Ag)(w:Ak)(K:LR)(mg:Str->Option Ab)(base:Ao)(CX:CXT)(k:Nat)(f:Ac)(fd:AB)(ps:List Str)(sp:Sp):Prop where
 len:∀ vs H Q E,sp vs H Q E->vs.length=ps.length
 run:∀(A:Ap) (outer:List Env) (s:Ae) (H:Hp) (args:Args) (us:List Ab) (vs:List V) (Q:VK) (E:XK),Room k A->Env0 P w K mg base A outer s H->BS s fd args (ps.zip us)->Vals vs us->sp vs H Q E ->
  codeAny (Aj P w) A (.call (.ref f) args) (CR CX outer P w H s Q E) s
theorem Env0.make {P:Ag}{w:Ak}{K:LR}{mg:Str->Option Ab}{base:Ao}{A:Ap}{outer:List Env}{s:Ae}{H:Hp}(e:Env0 P w K mg base A outer s H)(C:Ac)(us:List Ab)(kw:List (Str×Ab)) :
  Env0 P w K mg base (A.under (.builtin "type.__call__" ⟨.ref C::us,kw⟩)) outer s H:=⟨by first | exact e.frames | (simpa [bo,Code.envs,bq,pushEnvs] using e.frames),e.mod,e.bs,e.bsz,e.funs,e.frf,e.hok,e.bare⟩
section
variable {X:Cx}{B5:List (Ac×Obj)}{σ:St}{H:Hp}{s s':Ae}
theorem Inv.env0 (I:Inv X B5 σ H s):Env0 X.prog X.w X.K X.mg X.base X.A X.stack s H :=
 ⟨I.ok.frames,I.ok.mod,I.bs,MX I.ok.bsz I.sz,I.stack,I.stkFree,I.hok,I.bare⟩
theorem Inv.after (I:Inv X B5 σ H s) (h:CE X.stack X.prog X.w H s Q u s'):EP X B5 σ Q u s':=by
 obtain⟨v,H',os,bare,un,hok,r,q⟩:=h
 obtain⟨hh,g,d,t,os'⟩:=s'
 obtain rfl:os'=s.os:=os
 exact⟨v,H',I.call (h':=hh) (g':=g) (d':=d) (t':=t) (ch:=[]) un hok bare (fun b z=>absurd z (by simp)),r,q⟩
end
def Sc (sp:Sp)(dvs:List V)(E:XK)(t:TA):TE:=fun σ H Q=>t σ H fun vs H1=>sp (vs++dvs) H1 Q E
def PB (C:Ac)(m:Str)(sp:Sp)(dvs:List V)(E:XK)(ta:TE)(t:TA):TE:=fun σ H Q=>ta σ H fun x H1=>∃ a dx fs,x=.ref a/\H1 a=some (.ins C dx fs)/\fs.lookup m=none /\
 t σ H1 fun vs H2=>sp (x::(vs++dvs)) H2 Q E
def PD (C:Ac)(sp:Sp)(dvs:List V)(E:XK)(t:TA):TE:=fun σ H Q=>t σ H fun vs H1=>∀ x dx,H1 x=none->H1 dx=none->dx≠x ->
 sp (.ref x::(vs++dvs)) (upd (upd H1 dx (.own x)) x (.ins C dx [])) (fun v H2=>v=.non/\Q (.ref x) H2) E
noncomputable def Binds (K:LR)(fd:AB)(ps:List Str)(ds:List Ab):Prop :=
 ∀(s:Ae) (us:List Ab),K.In s.heap->(us++ds).length=ps.length->BS s fd ⟨us,[]⟩ (ps.zip (us++ds))
theorem Binds.all {K:LR}{fd:AB}{ps:List Str}(h:∀ us:List Ab,us.length=ps.length->bindArgs fd ⟨us,[]⟩=pure (ps.zip us)):Binds K fd ps []:=fun s us _ hl=>by
 rw[OD] at hl ⊢
 exact .of_eq (h us hl)
def RE (CX:CXT)(X:Cx)(E:XK):Prop:=∀(B5:List (Ac×Obj)) (σ:St) (H:Hp) (s:Ae) (e:Ab) (s':Ae),Inv X B5 σ H s->CX X.stack H s E e s'->X.xe e s'
section
variable {X:Cx}{CX:CXT}{k:Nat}{f C:Ac}{fd:AB}{ps:List Str}{sp:Sp}{dvs:List V}{ds:List Ab}{E:XK}{x m:Str}{p pos Cf:Pos}{e o:Ay}{es:List Ay}{ta:TE}{t:TA}
theorem Sd (F:FnOk X.prog X.w X.K X.mg X.base CX k f fd ps sp) (hr:Room k X.A) (hb:Binds X.K fd ps ds) (hd:Vals dvs ds) (hx:RE CX X E) (I:Inv X B5 σ H s) (r:Vals vs us) (h:sp (vs++dvs) H Q E):wpAny (Aj X.prog X.w) X.A (call (.ref f) us) (EP X B5 σ Q) X.xe s:=by
 have r2:Vals (vs++dvs) (us++ds):=r.append hd
 have hl:(us++ds).length=ps.length:=by rw[<- r2.length];exact F.len _ _ _ _ h
 refine wpAny_call (Bb (F.run X.A X.stack s H ⟨us,[]⟩ (us++ds) (vs++dvs) Q E hr I.env0 (hb s us I.kIn hl) r2 h) fun r s' hq=>?_)
 cases r with
 | error e=>exact hx B5 σ H s e s' I hq
 | ok fl =>
  cases fl with
  | ret u=>exact I.after hq
  | next=>exact ON hq
  | brk=>exact ON hq
  | cont=>exact ON hq
theorem pe_call (F:FnOk X.prog X.w X.K X.mg X.base CX k f fd ps sp)(hr:Room k X.A)(hg:Gl X x)(hm:X.mg x=some (.ref f))(hk:OG X.K (.ref f)=true)(hb:Binds X.K fd ps ds)(hd:Vals dvs ds)(hx:RE CX X E)
  (ha:PA X (e::es) t) (DW:(x == ("__debug__":Str))=false:=by decide) (he:Ah (e::es) X.env=(false,Ax e X.env)::Ah es X.env:=by rfl) (CG:(AE pos (Ah es X.env)).any (·.1)=false:=by rfl) :
  PE X (.Call (.Name x p) (e::es) [] pos) (Sc sp dvs E t):=by
 intro B5 s σ H Q I h
 refine AS (UF I hg hm ?_ DW)
 refine aJ (h₀:=X.base) I.ok.mod.kin hk (thn (ha pos B5 s σ H _ I h) fun us s1 ⟨vs,H1,I1,r,q⟩=>⟨I1.kIn,?_⟩) he CG
 exact Sd F hr hb hd hx I1 r q
theorem pe_meth (he:PE X o ta) (c:Cls X.K C) (hm:Meth X.K C m f) (F:FnOk X.prog X.w X.K X.mg X.base CX k f fd ps sp) (hr:Room k X.A) (hb:Binds X.K fd ps ds) (hd:Vals dvs ds) (hx:RE CX X E) (ha:PA X (e::es) t) (ED:Ah (e::es) X.env=(false,Ax e X.env)::Ah es X.env:=by rfl) (CG:(AE pos (Ah es X.env)).any (·.1)=false:=by rfl) (ht:Ax (.Call (.Attribute o m Cf) (e::es) [] pos) X.env=(do
   let ov <- Ax o X.env
   BD Cf.atName
   let (f,first) <- By [ov] (Bq ov m pl)
   BM pos f first (AE pos (Ah (e::es) X.env)) (Ba pos (AU [] X.env))):=by rfl):
  PE X (.Call (.Attribute o m Cf) (e::es) [] pos) (PB C m sp dvs E ta t):=by
 intro B5 s σ H Q I h
 refine aH (pl:=pl) (thn (he B5 s σ H _ I h) fun u s1 hI9=>?_) ht
 obtain⟨x,H1,I1,rx,a,dx,fs,ex,ea,l,q⟩:=hI9
 subst ex
 obtain rfl:u=Value.ref a:=rx
 refine Sa I1 ea c hm l ?_
 refine aJ (first:=[.ref a]) (h₀:=X.base) I.ok.mod.kin hm.kp (thn (ha pos B5 s1 σ H1 _ I1 q) fun us s2 ⟨vs,H2,I2,r,q2⟩=>⟨I2.kIn,?_⟩) ED CG
 exact Sd (us:=.ref a::us) (vs:=.ref a::vs) F hr hb hd hx I2 (.cons rfl r) q2
theorem bU (he:PE X o ta) (c:Cls X.K C) (hm:Meth X.K C m f) (F:FnOk X.prog X.w X.K X.mg X.base CX k f fd ps sp) (hr:Room k X.A) (hb:Binds X.K fd ps ds) (hd:Vals dvs ds) (hx:RE CX X E) (ht:Ax (.Call (.Attribute o m Cf) [] [] pos) X.env=(do
   let ov <- Ax o X.env
   BD Cf.atName
   let (f,first) <- By [ov] (Bq ov m pl)
   BM pos f first (AE pos (Ah [] X.env)) (Ba pos (AU [] X.env))):=by rfl):
  PE X (.Call (.Attribute o m Cf) [] [] pos) (PB C m sp dvs E ta tNil):=by
 intro B5 s σ H Q I h
 refine aH (pl:=pl) (thn (he B5 s σ H _ I h) fun u s1 hI9=>?_) ht
 obtain⟨x,H1,I1,rx,a,dx,fs,ex,ea,l,q⟩:=hI9
 subst ex
 obtain rfl:u=Value.ref a:=rx
 refine Sa I1 ea c hm l ?_
 exact iH (first:=[.ref a]) I1.kIn hm.kp (Sd (us:=[.ref a]) (vs:=[.ref a]) F hr hb hd hx I1 (.cons rfl .nil) q)
structure Mk (K:LR)(C f:Ac):Prop where
 makes:RZ K C=true
 init:MM K (.ref C) "__init__"=some (some (.ref f))
 fn:U0 K (.ref f)=true
 kp:OG K (.ref C)=true
theorem Vu (M:Mk X.K C f) (F:FnOk X.prog X.w X.K X.mg X.base CX k f fd ps sp) (hr:Room (k+1) X.A) (hb:Binds X.K fd ps ds) (hd:Vals dvs ds) (hx:RE CX X E) (I:Inv X B5 σ H s) (r:Vals vs us) (h:∀ x dx,H x=none->H dx=none->dx≠x->sp (.ref x::(vs++dvs)) (upd (upd H dx (.own x)) x (.ins C dx [])) (fun v H2=>v=.non/\Q (.ref x) H2) E):
  wpAny (Aj X.prog X.w) X.A (call (.ref C) us) (EP X B5 σ Q) X.xe s:=by
 have hq:=h (s.heap.objs.size+1) s.heap.objs.size (I.hok.fresh (Qw _)) (I.hok.fresh (LZ _)) (MI (Ur _))
 have I2:=Inv.made (C:=C) I
 have r2:Vals (V.ref (s.heap.objs.size+1)::(vs++dvs)) (Value.ref (s.heap.objs.size+1)::(us++ds)):=.cons rfl (r.append hd)
 have hl:(Value.ref (s.heap.objs.size+1)::us++ds).length=ps.length:=by
  have e:=r2.length
  rw[F.len _ _ _ _ hq] at e
  exact e.symm
 refine wpAny_call (bN (f:=f) I.kIn M.makes M.init (beq_iff_eq.mp M.fn) (Bb (F.run _ X.stack _ _ ⟨Value.ref (s.heap.objs.size+1)::us,[]⟩ (Value.ref (s.heap.objs.size+1)::(us++ds)) _ _ E (hr.make C us [])
  (I2.env0.make C us []) (hb _ (Value.ref (s.heap.objs.size+1)::us) I2.kIn hl) r2 hq) fun r s' hq'=>?_))
 cases r with
 | error e=>exact hx B5 σ _ _ e s' I2 hq'
 | ok fl =>
  cases fl with
  | ret u =>
   obtain⟨v,H',I3,rv,ev,q3⟩:=I2.after hq'
   subst ev
   exact⟨rv,⟨V.ref (s.heap.objs.size+1),H',I3,rfl,q3⟩⟩
  | next=>exact ON hq'
  | brk=>exact ON hq'
  | cont=>exact ON hq'
theorem pe_make (M:Mk X.K C f)(F:FnOk X.prog X.w X.K X.mg X.base CX k f fd ps sp)(hr:Room (k+1) X.A)(hg:Gl X x)(hm:X.mg x=some (.ref C))(hb:Binds X.K fd ps ds)(hd:Vals dvs ds)(hx:RE CX X E)
  (ha:PA X (e::es) t) (DW:(x == ("__debug__":Str))=false:=by decide) (he:Ah (e::es) X.env=(false,Ax e X.env)::Ah es X.env:=by rfl) (CG:(AE pos (Ah es X.env)).any (·.1)=false:=by rfl) :
  PE X (.Call (.Name x p) (e::es) [] pos) (PD C sp dvs E t):=by
 intro B5 s σ H Q I h
 refine AS (UF I hg hm ?_ DW)
 refine aJ (h₀:=X.base) I.ok.mod.kin M.kp (thn (ha pos B5 s σ H _ I h) fun us s1 ⟨vs,H1,I1,r,q⟩=>⟨I1.kIn,?_⟩) he CG
 exact Vu M F hr hb hd hx I1 r q
theorem bW (M:Mk X.K C f)(F:FnOk X.prog X.w X.K X.mg X.base CX k f fd ps sp)(hr:Room (k+1) X.A)(hg:Gl X x)(hm:X.mg x=some (.ref C))(hb:Binds X.K fd ps ds)(hd:Vals dvs ds)(hx:RE CX X E)
  (DW:(x == ("__debug__":Str))=false:=by decide):PE X (.Call (.Name x p) [] [] pos) (PD C sp dvs E tNil):=by
 intro B5 s σ H Q I h
 refine AS (UF I hg hm ?_ DW)
 exact iH I.kIn M.kp (Vu (us:=[]) M F hr hb hd hx I .nil h)
end
section
variable {X:Cx}{CX:CXT}{k:Nat}{f C:Ac}{fd:AB}{ps ks:List Str}{sp:Sp}{E:XK}{x m:Str}{p pos Cf kpos:Pos}{e o:Ay}{es:List Ay}{kws:List BA}{te ta:TE}{t tk:TA}{nm:Option Str}
structure KBinds (K:LR)(fd:AB)(ps ks:List Str)(g:List Ab->List Ab->List Ab)(gV:List V->List V->List V):Prop where
 to:∀(s:Ae) (us ws:List Ab),K.In s.heap->(g us ws).length=ps.length->BS s fd ⟨us,ks.zip ws⟩ (ps.zip (g us ws))
 rel:∀{vs:List V}{us:List Ab}{zs:List V}{ws:List Ab},Vals vs us->Vals zs ws->Vals (gV vs zs) (g us ws)
variable {g:List Ab->List Ab->List Ab}{gV:List V->List V->List V}
end
structure FnScope (N P:List Str)(sc:Bv):Prop where
 kind:sc.kind=.function
 co:sc.isCoroutine=false
 gen:sc.isGenerator=false
 nd:N.Nodup
 pre:N.take P.length=P
 par:∀ x∈P,sc.names.lookup x=some .local∨sc.names.lookup x=some .cell
 nofree:∀ y∈sc.names,y.2≠.free
theorem Vv {kindOf:Str->Option A1}{x:Str}:∀{binds:List (Str×Ab)}{m:Str->Option Ab},(∀ v,(x,v)∉binds)->bindL kindOf binds m x=m x
 | [],_,_=>rfl
 | (n,v)::r,m,h=>by
  unfold bindL
  rw[Vv fun w hw=>h w (Mp _ hw)]
  split
  ·have:x≠n:=by rintro rfl;exact h v Mn
   simp[this]
  ·rfl
theorem Vw {kindOf:Str->Option A1}{x:Str}:∀{binds:List (Str×Ab)}{m:Str->Option Ab},(∀ v,(x,v)∉binds)->bindC kindOf binds m x=m x
 | [],_,_=>rfl
 | (n,v)::r,m,h=>by
  unfold bindC
  rw[Vw fun w hw=>h w (Mp _ hw)]
  split
  ·rfl
  ·have:x≠n:=by rintro rfl;exact h v Mn
   simp[this]
theorem Vx {kindOf:Str->Option A1}{x:Str}{v:Ab}:∀{P:List Str}{vs:List Ab}{i:Nat}{m:Str->Option Ab},P.Nodup->P[i]?=some x->vs[i]?=some v->kindOf x=some .local ->
  bindL kindOf (P.zip vs) m x=some v
 | [],_,_,_,_,h,_,_=>by simp at h
 | _::_,[],_,_,_,_,h,_=>by simp at h
 | p::P,w::vs,0,m,nd,h1,h2,hk=>by
  simp at h1 h2;subst h1;subst h2
  show bindL kindOf ((p,w)::P.zip vs) m p=_
  unfold bindL
  rw[Vv fun v hv=>(Rp.mp nd).1 (aA hv).1,B4 hk]
  simp
 | p::P,w::vs,i+1,m,nd,h1,h2,hk=>by
  show bindL kindOf ((p,w)::P.zip vs) m x=_
  unfold bindL
  exact Vx (i:=i) (Rp.mp nd).2 (by simpa using h1) (by simpa using h2) hk
theorem Vy {kindOf:Str->Option A1}{x:Str}{v:Ab}:∀{P:List Str}{vs:List Ab}{i:Nat}{m:Str->Option Ab},P.Nodup->P[i]?=some x->vs[i]?=some v->kindOf x≠some .local ->
  bindC kindOf (P.zip vs) m x=some v
 | [],_,_,_,_,h,_,_=>by simp at h
 | _::_,[],_,_,_,_,h,_=>by simp at h
 | p::P,w::vs,0,m,nd,h1,h2,hk=>by
  simp at h1 h2;subst h1;subst h2
  show bindC kindOf ((p,w)::P.zip vs) m p=_
  unfold bindC
  rw[Vw fun v hv=>(Rp.mp nd).1 (aA hv).1,B3 hk]
  simp
 | p::P,w::vs,i+1,m,nd,h1,h2,hk=>by
  show bindC kindOf ((p,w)::P.zip vs) m x=_
  unfold bindC
  exact Vy (i:=i) (Rp.mp nd).2 (by simpa using h1) (by simpa using h2) hk
noncomputable def N_ (N:List Str)(vs:List V):St:=vs.map some++Mw (N.length - vs.length) none
noncomputable def cxOf (CX:CXT)(P:Ag)(w:Ak)(K:LR)(mg:Str->Option Ab)(base:Ao)(N:List Str)(Cj:Str)(scope:Bv)(f:Ac)(cd:Ab)(A:Ap)(outer:List Env)(s:Ae)(H:Hp)(E:XK):Cx where
 prog:=P
 w:=w
 K:=K
 mg:=mg
 base:=base
 A:=A.deeper (BE Cj scope s.heap.objs.size f cd)
 N:=N
 s₀:=s
 H₀:=H
 env:=BE Cj scope s.heap.objs.size f cd
 outer:=outer
 stack:=BE Cj scope s.heap.objs.size f cd::outer
 ex:=[]
 calm:=true
 fn:=fun _=>true
 pn:=[]
 xe:=fun e s'=>wpAny (Aj P w) (A.deeper (BE Cj scope s.heap.objs.size f cd)) (leaving (BE Cj scope s.heap.objs.size f cd) e) (fun _ s''=>CX outer H s E e s'') (fun e' s''=>CX outer H s E e' s'') s'
theorem Vz {sc:Bv}{n:Nat}{x:Str}(h:sc.names.lookup x=some .cell):∃ c,(cellsFrom n sc.names []).lookup x=some c:=by
 have q:=iG sc.names n [] (.inl h)
 exact Option.isSome_iff_exists.mp q
theorem bX {CX:CXT}{P:Ag}{w:Ak}{K:LR}{mg:Str->Option Ab}{base:Ao}{N ps:List Str}{Cj:Str}{scope:Bv}{f:Ac}{cd:Ab}{A:Ap}{outer:List Env}{s s1:Ae}{H:Hp}{E:XK}{us:List Ab}{vs:List V}
  (S:FnScope N ps scope) (hd:A.handled=none) (e0:Env0 P w K mg base A outer s H) (hl:vs.length=ps.length) (r:Vals vs us)
  (x:InCallC s s.heap.objs.size (bindL (BE Cj scope s.heap.objs.size f cd).kindOf (ps.zip us) fun _=>none) (cellsFrom (s.heap.objs.size+1) scope.names []) (bindC (BE Cj scope s.heap.objs.size f cd).kindOf (ps.zip us) fun _=>none) s1) :
  Inv (cxOf CX P w K mg base N Cj scope f cd A outer s H E) [] (N_ N vs) H s1:=by
 have CG:ps.length<=N.length:=by have:=congrArg Uk S.pre;rw[Mt] at this;omega
 obtain⟨h1,tk,rfl,hk⟩:=x.done
 have noA:∀ b:Ac,b∉(cxOf CX P w K mg base N Cj scope f cd A outer s H E).ex:=fun b z=>absurd (show b∈([]:List Ac) from z) (by simp)
 refine⟨⟨e0.mod,S.kind,rfl,rfl,LZ _,fun y z c h1 h2=>?_,fun y hy=>?_,fun y c _ h=>?_,fun _=>hd,Around.frames_deeper e0.frames,.inr ⟨rfl,rfl⟩,fun b z=>absurd z (noA b),e0.bs,e0.bsz,fun b _ _=>noA b,fun b z=>absurd z (noA b),e0.funs,e0.frf⟩,
  rfl,e0.bare,Un.kept hk,⟨_,x.toInCall.ns,fun i y v h1 h2 h3=>?_⟩,fun y c h=>⟨_,x.cell y c h⟩,e0.hok.fresh (LZ _),fun y c h=>?_,fun p hp=>absurd (show p∈([]:List (Ac×Obj)) from hp) (by simp),e0.hok.kept hk,?_⟩
 ·exact name_of_addr x.apart (Vd h1) (Vd h2)
 ·have hy:scope.names.lookup y=some .cell∨scope.names.lookup y=some .free:=hy
  rcases hy with hy | hy
  ·exact Vz hy
  ·exact absurd rfl (S.nofree _ (Vd hy))
 ·exact OI (x.above y c (Vd h))
 ·have hi:i < vs.length:=by
   unfold N_ at h2
   by_cases hi:i < vs.length
   ·exact hi
   ·rw[Zn (by simpa using hi)] at h2
    rw[iq] at h2
    split at h2 <;> cases h2
  have ha:vs[i]?=some v:=by
   unfold N_ at h2
   rw[ai (by simpa using hi),Ma] at h2
   cases e:vs[i]? with
   | none=>rw[e] at h2;cases h2
   | some a=>rw[e] at h2;cases h2;rfl
  obtain⟨u,hu,rv⟩:=r.get ha
  have hp:ps[i]?=some y:=by
   rw[<- S.pre,io (by omega)];exact h1
  have ndP:ps.Nodup:=by rw[<- S.pre];exact S.nd.sublist (List.take_sublist _ _)
  refine⟨u,rv,?_⟩
  rcases S.par y (Pa hp) with k | k
  ·exact .inl ⟨k,Vx ndP hp hu k⟩
  ·obtain⟨c,e⟩:=Vz (n:=s.heap.objs.size+1) k
   refine .inr ⟨.inl k,c,e,?_⟩
   have q:=x.cell y c e
   rw[Vy ndP hp hu (by show scope.names.lookup y≠_;rw[k];decide)] at q
   exact q
 ·exact e0.hok.fresh (OI (x.above y c (Vd h)))
 ·unfold N_
  show _=N.length
  rw[Md,LP,am]
  omega
theorem fn_of {CX:CXT}{P:Ag}{w:Ak}{K:LR}{mg:Str->Option Ab}{base:Ao}{k:Nat}{f:Ac}{name Cj:Str}{params:Arguments}{body:List Au}{scope:Bv}{dV kV doc pm cdv ct oc:Ab}{an od:Option Ac}
  {osl:Array (Option Ab)}{N ps:List Str}{sp:Sp} (lk:K.lookup f=some ⟨oc,od,.func (Rs name Cj params body scope dV kV doc pm an cdv ct),osl⟩) (Ej:ZH K cdv Cj=true) (S:FnScope N ps scope)
  (len:∀ vs H Q E,sp vs H Q E->vs.length=ps.length)
  (D8:∀(A:Ap) (outer:List Env) (s:Ae) (H:Hp) (vs:List V) (Q:VK) (E:XK),Room k (A.deeper (BE Cj scope s.heap.objs.size f cdv))->sp vs H Q E ->
   ∃ t,PSs (cxOf CX P w K mg base N Cj scope f cdv A outer s H E) body t/\t { nx:=fun _ H'=>Q .non H',rt:=Q } (N_ N vs) H) :
  FnOk P w K mg base CX (k+1) f (Rs name Cj params body scope dV kV doc pm an cdv ct) ps sp:=by
 refine⟨len,fun A outer s H args us vs Q E hr e0 hb r EQ=>?_⟩
 have hl:=len _ _ _ _ EQ
 have KX:K.In s.heap:=e0.mod.kin.keeps fun b o e=>(e0.bs b o e).1
 have lim:s.heap.NoLimit:=e0.mod.nolimit.keeps fun b o e=>(e0.bs b o e).1
 have GT:∀ y∈ps.zip us,scope.names.lookup y.1=some .local∨(scope.names.lookup y.1=some .cell/\((cellsFrom (s.heap.objs.size+1) scope.names []).lookup y.1).isSome=true):=fun⟨n,v⟩ hy=>by
  rcases S.par n (aA hy).1 with q | q
  ·exact .inl q
  ·exact .inr ⟨q,iG _ _ _ (.inl q)⟩
 refine codeAny_call_function hr.depth (KX _ _ lk) rfl S.co S.gen rfl (PySem.W.codeRec_of KX Ej) (hb _ _ _ _ ?_)
 refine wpAny_newFunctionEnv_cells S.kind GT fun env he s1 x=>?_
 subst he
 refine⟨lim.keeps x.toInCall.keep,codeAny_func ?_⟩
 obtain⟨t,ht,hq⟩:=D8 A outer s H vs Q E (hr.deeper _) EQ
 have I:Inv (cxOf CX P w K mg base N Cj scope f cdv A outer s H E) [] (N_ N vs) H s1:=bX S hr.hd e0 hl r x
 refine Az (ht [] s1 (N_ N vs) H _ I hq) (fun fl s' hs=>?_) fun e s' hs=>hs
 have fin:∀{σ':St}{H':Hp}{v:V}{u:Ab},Inv (cxOf CX P w K mg base N Cj scope f cdv A outer s H E) [] σ' H' s'->RelV v u->Q v H'->CE outer P w H s Q u s' :=
  fun{σ' H' v u} J rv q=>⟨v,H',J.os,J.bare,J.base,J.hok,rv,q⟩
 cases fl with
 | ret u =>
  obtain⟨v,σ',H',J,rv,q⟩:=hs
  exact fin J rv q
 | next =>
  obtain⟨σ',H',J,q⟩:=hs
  exact fin (v:=V.non) (u:=Value.none) J rfl q
 | brk =>
  obtain⟨_,_,_,q⟩:=hs
  exact ON q
 | cont =>
  obtain⟨_,_,_,q⟩:=hs
  exact ON q
section
variable {X:Cx}{x:Str}{p pos:Pos}{e:Ay}{es:List Ay}{t:TA}{id T:String}{r:List V->Hp->VK->Prop}
def tCB (r:List V->Hp->VK->Prop)(t:TA):TE:=fun σ H Q=>t σ H fun vs H1=>r vs H1 Q
theorem bY (hc:CallR X (.builtin id) r)(hg:Gl X x)(hm:X.mg x=none)(hv:AF x=some (.builtin id))(ha:PA X (e::es) t)(hn:x≠"__name__":=by decide)(DW:(x == ("__debug__":Str))=false:=by decide)
  (he:Ah (e::es) X.env=(false,Ax e X.env)::Ah es X.env:=by rfl) (CG:(AE pos (Ah es X.env)).any (·.1)=false:=by rfl):PE X (.Call (.Name x p) (e::es) [] pos) (tCB r t):=by
 intro B5 s σ H Q I h
 refine AS (Pt I hg hm hv ?_ hn DW)
 exact PyProof.Rows.callWith_builtin1 (thn (ha pos B5 s σ H _ I h) fun us s1 ⟨vs,H1,I1,r1,q1⟩=>hc B5 s1 σ H1 vs us Q I1 r1 q1) he CG
theorem bZ (hc:CallR X (.type T) r)(hg:Gl X x)(hm:X.mg x=none)(hv:AF x=some (.type T))(ha:PA X (e::es) t)(hn:x≠"__name__":=by decide)(DW:(x == ("__debug__":Str))=false:=by decide)
  (he:Ah (e::es) X.env=(false,Ax e X.env)::Ah es X.env:=by rfl) (CG:(AE pos (Ah es X.env)).any (·.1)=false:=by rfl):PE X (.Call (.Name x p) (e::es) [] pos) (tCB r t):=by
 intro B5 s σ H Q I h
 refine AS (Pt I hg hm hv ?_ hn DW)
 exact Rv (thn (ha pos B5 s σ H _ I h) fun us s1 ⟨vs,H1,I1,r1,q1⟩=>hc B5 s1 σ H1 vs us Q I1 r1 q1) he CG
end
end L2
namespace HT
open PySem PyProof.Rows
section
open PySem.SeqAt
open PySem.AutoSeq1 (wpAny_loadPart')
open PySem.MeetsSeq PySem.MeetsSeq2 PySem.MeetsSeq3
end
section
variable {prog:Ag}{w:Ak}{A:Ap}{E:Ab->Ae->Prop}{s:Ae}
theorem cat_tup (ht:IsTup s.heap t vs.toArray) (hb:IsTup s.heap b ws.toArray) (hv:vs≠[]) (h1:ws=[]->Q (.ref t) s) (h2:ws≠[]->Q (.ref s.heap.objs.size) { s with heap:=s.heap.push { cls:=.type "tuple",data:=.seq (vs++ws).toArray } }) (hsz:vs.length+ws.length<=Af):wpAny (Aj prog w) A (AI .Add (.ref t) (.ref b)) Q E s:=by
 obtain⟨⟨cls,dd,data,sl⟩,ho,hc,n,hd⟩:=id ht
 obtain⟨⟨cls2,dd2,data2,sl2⟩,DY,GU,n2,GV⟩:=id hb
 simp only at hc hd GU GV
 subst hc hd GU GV
 have e:vs.toArray++ws.toArray=(vs++ws).toArray:=by simp
 by_cases hw:ws=[]
 ·exact concat_meets ⟨_,ho,rfl⟩ ⟨_,DY,rfl⟩ noFill_tuple_add seq_tuple_add iY iT (iQ _ _)
   (tuple_addW1 t b vs.toArray ws.toArray n n2 dd dd2 sl sl2 (by simpa using hv) (by simp[hw])) ⟨ho,DY,h1 hw⟩
 ·refine concat_meets ⟨_,ho,rfl⟩ ⟨_,DY,rfl⟩ noFill_tuple_add seq_tuple_add iY iT (iQ _ _)
   (tuple_addW2 t b vs.toArray ws.toArray n n2 dd dd2 sl sl2 (by simpa using hv) (by simpa using hw) (by rw[Mu,Mu];exact hsz)) ⟨ho,DY,?_⟩
  rw[e]
  exact h2 hw
noncomputable def sIx (n d:Nat):Option Int->Nat
 | none=>d
 | some v=>if v < 0 then (v+(n:Int)).toNat else min v.toNat n
theorem sIx_le (n d:Nat)(hd:d<=n)(o:Option Int):sIx n d o<=n:=by
 cases o with
 | none=>exact hd
 | some v =>
  show (if v < 0 then (v+(n:Int)).toNat else min v.toNat n)<=n
  by_cases hv:v < 0
  ·rw[B4 hv];omega
  ·rw[B3 hv];exact Nat.min_le_right _ _
theorem VA (v:Int)(n d:Nat):(if v < 0 then max (v+(n:Int)) 0 else min v (n:Int))=((sIx n d (some v):Nat):Int):=by
 show (if v < 0 then max (v+(n:Int)) 0 else min v (n:Int))=(((if v < 0 then (v+(n:Int)).toNat else min v.toNat n):Nat):Int)
 by_cases hv:v < 0
 ·simp only[B4 hv];omega
 ·simp only[B3 hv];omega
theorem b6 (lo hi:Option Int)(n:Nat):bi lo hi 1 (n:Int)=(((sIx n 0 lo:Nat):Int),((sIx n n hi:Nat):Int)):=by
 have h1:¬ ((1:Int) < 0):=by omega
 unfold bi
 simp only[h1,if_false]
 refine Prod.ext ?_ ?_
 ·cases lo with
  | none=>rfl
  | some v=>exact VA v n 0
 ·cases hi with
  | none=>rfl
  | some v=>exact VA v n n
theorem b9 (i j:Nat):ZX (i:Int) (j:Int) 1=j - i:=by
 unfold ZX
 have h1:(1:Int) > 0:=by omega
 simp only[h1,if_true,Int.ediv_one]
 split <;> omega
theorem VB (p:IsPart v o) (h:Q o s):wpAny (Aj prog w) A (Builtin.Slice.slicePartIndex v) Q E s:=by
 cases p with
 | none=>exact slicePart_none h
 | int i t=>exact slicePart_int h
theorem b_ {sl:Ac}{vl vu:Ab}{lo hi:Option Int}{n:Nat}{Q:Int×Int×Nat->Ae->Prop}(hs:s.heap.IsSliceOf sl vl vu .none)(pl:IsPart vl lo)(pu:IsPart vu hi)
  (h:Q (((sIx n 0 lo:Nat):Int),1,sIx n n hi - sIx n 0 lo) s):wpAny (Aj prog w) A (i8 (.ref sl) (pure (n:Int))) Q E s:=by
 obtain⟨os,GW,HU,EK⟩:=id hs
 unfold i8 Builtin.Slice.sliceFields
 refine Aa (Aa (Al GW EK (x:=vl) rfl (Aa (Al GW EK (x:=vu) rfl (Aa (Al GW EK (x:=.none) rfl (Ad ?_)))))))
 refine Aa (slicePart_none ?_)
 show wpAny _ _ (if ((1:Int) == 0)=true then _ else _) _ _ s
 rw[B3 (by decide)]
 refine Aa (VB pl (Aa (VB pu (Aa (Ad ?_)))))
 show wpAny _ _ (match bi lo hi 1 (n:Int) with | (lo,hi)=>pure (lo,(1:Int),ZX lo hi 1)) _ _ s
 rw[b6 lo hi n]
 show wpAny _ _ (pure (((sIx n 0 lo:Nat):Int),(1:Int),ZX ((sIx n 0 lo:Nat):Int) ((sIx n n hi:Nat):Int) 1)) _ _ s
 rw[b9]
 exact Ad h
theorem ca (xs:Array Ab)(i k:Nat):((L5 k).filterMap fun(m:Nat)=>xs[((i:Int)+(m:Int) * 1).toNat]?).toArray=((xs.toList.drop i).take k).toArray:=by
 have e:(fun(m:Nat)=>xs[((i:Int)+(m:Int) * 1).toNat]?)=fun m=>xs[i+m]?:=by
  funext m
  have:((i:Int)+(m:Int) * 1).toNat=i+m:=by omega
  rw[this]
 rw[e]
 have:=pick_run xs i k
 rw[List.filterMap_map] at this
 have e2:((fun x=>xs[x]?)∘fun x=>i+x)=fun m=>xs[i+m]?:=rfl
 rw[e2] at this
 rw[this]
theorem getItem_tuple_cut {t sl:Ac}{items:Array Ab}{vl vu:Ab}{lo hi:Option Int}{Q:Ab->Ae->Prop}(ht:IsTup s.heap t items)(hs:s.heap.IsSliceOf sl vl vu .none)(pl:IsPart vl lo)(pu:IsPart vu hi)
  (hw:¬ (sIx items.size 0 lo=0/\sIx items.size items.size hi=items.size))
  (h:Q (.ref s.heap.objs.size) { s with heap:=s.heap.push { cls:=.type "tuple",data:=.seq ((items.toList.drop (sIx items.size 0 lo)).take (sIx items.size items.size hi - sIx items.size 0 lo)).toArray } })
  (hsz:items.size<=Af):wpAny (Aj prog w) A (Bp (.ref t) (.ref sl)) Q E s:=by
 have Ew:sizeOk (.seq ((items.toList.drop (sIx items.size 0 lo)).take (sIx items.size items.size hi - sIx items.size 0 lo)).toArray):=by
  show ((items.toList.drop (sIx items.size 0 lo)).take (sIx items.size items.size hi - sIx items.size 0 lo)).toArray.size<=Af
  rw[Mu,Mt,Ng,ZW]
  omega
 have hj:sIx items.size items.size hi<=items.size:=sIx_le _ _ (LZ _) hi
 obtain⟨os,GW,HU,EK⟩:=id hs
 have JH:s.TypeIs (.ref sl) "slice":=⟨os,GW,HU⟩
 unfold Bp
 try with_reducible refine AC ?_
 first | refine Aa (Ad ?_) | skip
 refine Aa (wpAny_sequenceKey ht.typeIs (by decide) ?_)
 refine Aa (Am (name:=Mm "__getitem__") ht.typeIs a9
  (Aq a9 ht.typeIs entry_tuple_getitem ?_ (args_tuple_getitem _ _)))
 show wpAny _ _ (Builtin.Tuple.tupleItemsOf (.ref t) >>= _) _ _ s
 refine Aa (tupleItemsOf_ ht ?_)
 refine Aa (wpAny_typeOf JH ?_)
 rw[B4 (by decide)]
 refine Aa (b_ hs pl pu ?_)
 have Iu:¬ ((((sIx items.size 0 lo:Nat):Int) == 0&&(1:Int) == 1&&(sIx items.size items.size hi - sIx items.size 0 lo) == items.size)=true):=by
  intro q
  rw[Nn,Nn] at q
  have q1:((sIx items.size 0 lo:Nat):Int)=0:=eq_of_beq q.1.1
  have q2:sIx items.size items.size hi - sIx items.size 0 lo=items.size:=eq_of_beq q.2
  exact hw ⟨by omega,by omega⟩
 show wpAny _ _ (if (((sIx items.size 0 lo:Nat):Int) == 0&&(1:Int) == 1&&(sIx items.size items.size hi - sIx items.size 0 lo) == items.size)=true then _ else _) _ _ s
 rw[B3 Iu,ca]
 first
  | exact Aa (m:=ZY _) (At (Ad ⟨_,rfl,Ad h⟩) Ew)
  | exact Aa (m:=ZY _) (At (Aa (Ad (Ad ⟨_,rfl,Ad h⟩))) Ew)
  | exact Aa (Aa (m:=ZY _) (At (Ad (Ad ⟨_,rfl,Ad h⟩)) Ew))
  | exact Aa (Aa (m:=ZY _) (At (Ad ⟨_,rfl,Ad h⟩) Ew))
end
end HT
namespace L2
open PySem PySem.Spec PyProof.Rows
abbrev TO:=St->Hp->(Option Int->Hp->Prop)->Prop
noncomputable def PO (X:Cx)(e:Option Ay)(t:TO):Prop :=
 ∀(B5:List (Ac×Obj)) (s:Ae) (σ:St) (H:Hp) (Q:Option Int->Hp->Prop),Inv X B5 σ H s->t σ H Q ->
  wpAny (Aj X.prog X.w) X.A (evalPart e X.env) (fun u s'=>∃ o H',Inv X B5 σ H' s'/\IsPart u o/\Q o H') X.xe s
def VC:TO:=fun _ H Q=>Q none H
def tPart (t:TE):TO:=fun σ H Q=>t σ H fun x H1=>∃ i,x=.int i/\Q (some i) H1
section
variable {X:Cx}{e:Ay}{te:TE}{lo hi:Option Ay}{tl th:TO}{pos p2:Pos}
theorem NL:PO X none VC:=by
 intro B5 s σ H Q I h
 rw[evalPart_none]
 exact Ad ⟨none,H,I,.none,h⟩
theorem MV (h:PE X e te):PO X (some e) (tPart te):=by
 intro B5 s σ H Q I hw
 rw[evalPart_some]
 refine thn (h B5 s σ H _ I hw) fun u s1 hI9=>?_
 obtain⟨x,H1,I1,r1,q1⟩:=hI9
 obtain⟨i,rfl,q⟩:=q1
 obtain⟨t,rfl⟩:=r1
 exact⟨some i,H1,I1,.int i t,q⟩
noncomputable def SlR (X:Cx)(r:V->Option Int->Option Int->Hp->VK->Prop):Prop :=
 ∀(B5:List (Ac×Obj)) (s:Ae) (σ:St) (H:Hp) (x:V) (v vl vu:Ab) (lo hi:Option Int) (sl:Ac) (Q:VK),Inv X B5 σ H s->RelV x v->s.heap.IsSliceOf sl vl vu .none->IsPart vl lo->IsPart vu hi->r x lo hi H Q ->
  ∃ T id,typeLookup (.type T) "__getitem__"=pure (some (.builtin id))/\s.TypeIs v T/\wpAny (Aj X.prog X.w) X.A (Bp v (.ref sl)) (EP X B5 σ Q) X.xe s
def tSl (r:V->Option Int->Option Int->Hp->VK->Prop)(te:TE)(tl th:TO):TE:=fun σ H Q=>te σ H fun x H1=>tl σ H1 fun l H2=>th σ H2 fun u H3=>r x l u H3 Q
theorem Nk (hr:SlR X r) (he:PE X e te) (hl:PO X lo tl) (hu:PO X hi th):PE X (.Subscript e (.Slice lo hi none p2) pos) (tSl r te tl th):=by
 intro B5 s σ H Q I h
 refine Subscript_ (thn (he B5 s σ H _ I h) fun v s1 hI9=>?_)
 obtain⟨x,H1,I1,r1,q1⟩:=hI9
 refine wpAny_Slice (thn (hl B5 s1 σ H1 _ I1 q1) fun vl s2 ⟨l,H2,I2,pl,q2⟩=>thn (hu B5 s2 σ H2 _ I2 q2) fun vu s3 hI9=>?_)
 obtain⟨u,H3,I3,pu,q3⟩:=hI9
 rw[evalPart_none]
 refine Ad ?_
 have I4:Inv X B5 σ H3 { s3 with heap:=s3.heap.push { cls:=.type "slice",data:=.fields #[vl,vu,.none] } }:=I3.kept (t':=s3.toks) fun b ob q=>L1 _ q
 obtain⟨T,id,hT,ht,hg⟩:=hr B5 { s3 with heap:=s3.heap.push { cls:=.type "slice",data:=.fields #[vl,vu,.none] } } σ H3 x v vl vu l u s3.heap.objs.size Q I4 r1 (Heap.IsSliceOf.new ..) pl pu q3
 show wpAny (Aj X.prog X.w) X.A (BX e (.Slice lo hi none p2) v (.ref s3.heap.objs.size)) (EP X B5 σ Q) X.xe { s3 with heap:=s3.heap.push { cls:=.type "slice",data:=.fields #[vl,vu,.none] } }
 exact tail_any (ops:=[.ref s3.heap.objs.size,v]) ht hT hg (by with_unfolding_all rfl)
noncomputable def cutV (xs:List V)(lo hi:Option Int):List V:=(xs.drop (HT.sIx xs.length 0 lo)).take (HT.sIx xs.length xs.length hi - HT.sIx xs.length 0 lo)
theorem RF (xs:List V)(lo hi:Option Int):(cutV xs lo hi).length<=xs.length:=by
 unfold cutV
 rw[Mt,Ng]
 omega
def rSlT (K:LR):V->Option Int->Option Int->Hp->VK->Prop:=fun x lo hi H Q=>∃ a xs,x=.ref a/\SqT K H a xs /\
 ¬ (HT.sIx xs.length 0 lo=0/\HT.sIx xs.length xs.length hi=xs.length)/\∀ p,H p=none->Q (.ref p) (upd H p (.tup (cutV xs lo hi)))
theorem sl_tup:SlR X (rSlT X.K):=by
 intro B5 s σ H x v vl vu lo hi sl Q I rx hs pl pu h
 obtain⟨a,xs,rfl,hx,hw,q⟩:=h
 cases rx
 obtain⟨its,r,ht,hz⟩:=I.tuple hx
 have Ca:its.toArray.size=xs.length:=by rw[Mu];exact r.length.symm
 refine⟨"tuple",_,a9.lookup,ht.typeIs,?_⟩
 refine HT.getItem_tuple_cut ht hs pl pu (by rw[Ca];exact hw) ?_ (by rw[Ca];exact hz)
 rw[Ca]
 refine⟨.ref s.heap.objs.size,_,I.laid (t':=s.toks) (o:=.tup (cutV xs lo hi)) (fun b ob q=>L1 _ q) (LZ _) ?_,rfl,q _ (I.hok.fresh (LZ _))⟩
 exact⟨MX (RF xs lo hi) hz,_,(r.drop (HT.sIx xs.length 0 lo)).take (HT.sIx xs.length xs.length hi - HT.sIx xs.length 0 lo),IsTup.new _ _,DcN.new _ _⟩
def rCatT (K:LR):R2:=fun x y H Q=>∃ a b xs ys,x=.ref a/\y=.ref b/\SqT K H a xs/\SqT K H b ys/\xs≠[]/\xs.length+ys.length<=Af /\
 (ys=[]->Q (.ref a) H)/\(ys≠[]->∀ p,H p=none->Q (.ref p) (upd H p (.tup (xs++ys))))
theorem Vals.nil_iff (r:Vals xs us):us=[]↔xs=[]:=by
 cases r with
 | nil=>simp
 | cons _ _=>simp
theorem op_catT:OpR X (AI .Add) (rCatT X.K):=by
 intro B5 s σ H x y v u Q I rx ry h
 obtain⟨a,b,xs,ys,rfl,rfl,ha,hb,hx,hz,q1,q2⟩:=h
 cases rx
 cases ry
 obtain⟨its,r1,p1,_⟩:=I.tuple ha
 obtain⟨its2,r2,p2,_⟩:=I.tuple hb
 refine HT.cat_tup p1 p2 (fun z=>hx (r1.nil_iff.mp z)) (fun z=>⟨.ref a,H,I,rfl,q1 (r2.nil_iff.mp z)⟩) (fun z=>?_) (by rw[<- r1.length,<- r2.length];exact hz)
 refine⟨.ref s.heap.objs.size,_,I.laid (t':=s.toks) (o:=.tup (xs++ys)) (fun b ob q=>L1 _ q) (LZ _) ?_,rfl,q2 (fun w=>z (r2.nil_iff.mpr w)) _ (I.hok.fresh (LZ _))⟩
 exact⟨by rw[Md];exact hz,_,r1.append r2,IsTup.new _ _,DcN.new _ _⟩
end
noncomputable def ixN (n:Nat)(i:Int):Option Nat:=if 0<=i then (if i < n then some i.toNat else none) else if -(n:Int)<=i then some (i+n).toNat else none
noncomputable def atI {α:Type}(xs:List α)(i:Int):Option α:=(ixN xs.length i).bind fun j=>xs[j]?
theorem VD (h:ixN n i=some j):seqIndex? i n=some j/\j < n/\-(n:Int)<=i/\i < n:=by
 unfold ixN at h
 by_cases h0:0<=i
 ·rw[B4 h0] at h
  by_cases h1:i < n
  ·rw[B4 h1] at h
   have e:i.toNat=j:=Option.some.inj h
   exact⟨by rw[seqIndex_of h0 h1,e],by omega,by omega,h1⟩
  ·rw[B3 h1] at h;cases h
 ·rw[B3 h0] at h
  by_cases h1:-(n:Int)<=i
  ·rw[B4 h1] at h
   have e:(i+n).toNat=j:=Option.some.inj h
   exact⟨by rw[B0 (by omega) h1,e],by omega,h1,by omega⟩
  ·rw[B3 h1] at h;cases h
theorem Se (h:atI xs i=some v):∃ j,seqIndex? i xs.length=some j/\xs[j]?=some v/\j < xs.length/\-(xs.length:Int)<=i/\i < xs.length:=by
 unfold atI at h
 cases e:ixN xs.length i with
 | none=>rw[e] at h;cases h
 | some j =>
  rw[e] at h
  obtain⟨h1,h2,h3,h4⟩:=VD e
  exact⟨j,h1,h,h2,h3,h4⟩
theorem PF {α:Type}{xs:List α}{j:Nat}{v:α}(h:xs[j]?=some v):atI xs (j:Int)=some v:=by
 have hj:j < xs.length:=(MJ.mp h).1
 have e:ixN xs.length (j:Int)=some j:=by
  unfold ixN
  rw[B4 (by omega),B4 (by omega)];simp
 unfold atI;rw[e];exact h
def VE (b:Ay):Prop:=∀ o i,BN b false o i=operate [o,i] (Bp o i)
noncomputable def IxR (X:Cx)(r:R2):Prop :=
 ∀(value slice:Ay) (B5:List (Ac×Obj)) (s:Ae) (σ:St) (H:Hp) (x y:V) (v u:Ab) (Q:VK),Inv X B5 σ H s->RelV x v->RelV y u->r x y H Q ->
  BN slice false v u=operate [v,u] (Bp v u)->wpAny (Aj X.prog X.w) X.A (BX value slice v u) (EP X B5 σ Q) X.xe s
noncomputable def MtR (X:Cx)(id:String)(r:V->List V->Hp->VK->Prop):Prop :=
 ∀(B5:List (Ac×Obj)) (s:Ae) (σ:St) (H:Hp) (x:V) (xs:List V) (v:Ab) (us:List Ab) (Q:VK),Inv X B5 σ H s->RelV x v->Vals xs us->r x xs H Q ->
  wpAny (Aj X.prog X.w) X.A (call (.builtin id) (v::us)) (EP X B5 σ Q) X.xe s
section
variable {X:Cx}{a b:Ay}{ta tb:TE}{pos:Pos}
theorem pe_ix (hr:IxR X r) (ha:PE X a ta) (hb:PE X b tb) (hs:VE b):PE X (.Subscript a b pos) (tOp r ta tb):=by
 intro B5 s σ H Q I h
 exact Subscript_ (binT ha hb I h fun v u s2 x y H2 I2 rx ry q=>hr a b B5 s2 σ H2 x y v u Q I2 rx ry q (hs _ _))
def rIxL (K:LR):R2:=fun x y H Q=>∃ p xs i v,x=.ref p/\y=.int i/\SqL K H p xs/\atI xs i=some v/\Q v H
def rIxT (K:LR):R2:=fun x y H Q=>∃ p xs i v,x=.ref p/\y=.int i/\SqT K H p xs/\atI xs i=some v/\Q v H
def rIxS:R2:=fun x y H Q=>∃ z i c,x=.str z/\y=.int i/\z.length<=Af/\atI z.cps.toList i=some c/\Q (.str ⟨#[c]⟩) H
theorem ix_list:IxR X (rIxL X.K):=by
 intro value slice B5 s σ H x y v u Q I rx ry h hs
 obtain⟨p,xs,i,z,rfl,rfl,hq,he,q⟩:=h
 cases rx
 obtain⟨t,rfl⟩:=ry
 obtain⟨its,r,pl,hz⟩:=I.list hq
 obtain⟨j,h1,h2,h3,h4,h5⟩:=Se he
 obtain⟨w,ew,rw'⟩:=r.get h2
 have hl:=r.length
 have hn:=N9
 have fin:EP X B5 σ Q w s:=⟨z,H,I,rw',q⟩
 by_cases h0:0<=i
 ·have hj:i.toNat=j:=by
   rw[seqIndex_of h0 h5] at h1
   exact Option.some.inj h1
  exact item_listR pl.isList h0 (by omega) (by rw[hj];simpa using ew) fin hs
 ·have hj:(i+(its.toArray.size:Int)).toNat=j:=by
   rw[B0 (by omega) h4] at h1
   rw[Mu,<- hl]
   exact Option.some.inj h1
  exact BF (x:=w) pl.isList.typeIs slot_list_getitem.lookup
   (wpAny_getItem_list_neg (Q:=fun r s'=>r=w/\EP X B5 σ Q r s') pl.isList (by omega) (by rw[Mu] <;> omega) (by omega) (by rw[hj];simpa using ew) ⟨rfl,fin⟩) hs
theorem ix_tup:IxR X (rIxT X.K):=by
 intro value slice B5 s σ H x y v u Q I rx ry h hs
 obtain⟨p,xs,i,z,rfl,rfl,hq,he,q⟩:=h
 cases rx
 obtain⟨t,rfl⟩:=ry
 obtain⟨its,r,pl,hz⟩:=I.tuple hq
 obtain⟨j,h1,h2,h3,h4,h5⟩:=Se he
 obtain⟨w,ew,rw'⟩:=r.get h2
 have hl:=r.length
 have hn:=N9
 have fin:EP X B5 σ Q w s:=⟨z,H,I,rw',q⟩
 exact BF (x:=w) pl.typeIs slot_tuple_getitem.lookup
  (getItem_tuple (j:=j) (Q:=fun r s'=>r=w/\EP X B5 σ Q r s') pl (by omega) (by omega) (by rw[Mu,<- hl];exact h1) (by simpa using ew) ⟨rfl,fin⟩) hs
theorem ix_str:IxR X rIxS:=by
 intro value slice B5 s σ H x y v u Q I rx ry h hs
 obtain⟨z,i,c,rfl,rfl,hz,he,q⟩:=h
 obtain⟨t,rfl⟩:=rx
 obtain⟨t',rfl⟩:=ry
 obtain⟨j,h1,h2,h3,h4,h5⟩:=Se he
 have hl:z.cps.toList.length=z.length:=by simp[Str.length]
 rw[hl] at h1 h4 h5
 have hn:=N9
 exact tail_any (Br s z t) slot_str_getitem.lookup (getItem_str (c:=c) (by
  have e1:decide (i < -(2 ^ 63:Int))=false:=B1 (by omega)
  have e2:decide (i≥2 ^ 63)=false:=B1 (by omega)
  rw[e1,e2,Bool.or_false]) (by rw[h1];simpa using h2) ⟨.str ⟨#[c]⟩,H,I.tok _,⟨_,rfl⟩,q⟩) hs
theorem cb (its:List Ab)(n j:Nat)(u:Ab):Vc (·.setIfInBounds j u) { cls:=.type "list",data:=.seq its.toArray n }={ cls:=.type "list",data:=.seq (its.set j u).toArray n }:=by
 simp[Vc]
theorem Inv.lst (I:Inv X B5 σ H s) (h:H p=some (.lst xs)):
  ∃(its:List Ab) (n:Nat),Vals xs its/\s.heap.get? p=some { cls:=.type "list",data:=.seq its.toArray n }/\xs.length<=Af:=by
 obtain⟨z,its,n,r,e⟩:=I.hok p _ h
 exact⟨its,n,r,e,z⟩
theorem Inv.lstUpd {B5:List (Ac×Obj)}{σ:St}{H:Hp}{s:Ae}{p:Ac}{xs ys:List V}{its its':List Ab}{n n':Nat}{f:Obj->Obj}(I:Inv X B5 σ H s)(h:H p=some (.lst xs))
  (ho:s.heap.get? p=some { cls:=.type "list",data:=.seq its.toArray n }) (hf:f { cls:=.type "list",data:=.seq its.toArray n }={ cls:=.type "list",data:=.seq its'.toArray n' }) (r:Vals ys its') (hz:ys.length<=Af) (t:Nat) :
  Inv X B5 σ (upd H p (.lst ys)) { s with heap:=s.heap.update p f,toks:=t }:=by
 have e:(s.heap.update p f).get? p=some { cls:=.type "list",data:=.seq its'.toArray n' }:=by
  rw[ZE f ho (by rw[hf] <;> rfl),hf]
 refine I.write (x:=p) (e:=p) (by rw[h];trivial) (.inl rfl) (fun b u hb q=>(iF _ _ (N2 hb)).trans q) ⟨_,e⟩ ?_
 exact⟨hz,its',n',r,e⟩
def rSetL:V->V->V->Hp->(Hp->Prop)->Prop:=fun o i v H Q=>∃ p xs k j,o=.ref p/\i=.int k/\H p=some (.lst xs)/\ixN xs.length k=some j/\Q (upd H p (.lst (xs.set j v)))
theorem cc:PSet X rSetL:=by
 intro B5 s σ H o i v ov iv u Q I ro ri rv h
 obtain⟨p,xs,k,j,rfl,rfl,hp,hj,q⟩:=h
 cases ro
 obtain⟨t,rfl⟩:=ri
 obtain⟨its,n,r,ho,hz⟩:=I.lst hp
 obtain⟨h1,h2,h3,h4⟩:=VD hj
 have hl:=r.length
 have hn:=N9
 have I':Inv X B5 σ (upd H p (.lst (xs.set j v))) { s with heap:=s.heap.update p (Vc (·.setIfInBounds j u)) } :=
  I.lstUpd hp ho (cb its n j u) (r.set rv j) (by rw[List.length_set];exact hz) s.toks
 by_cases h0:0<=k
 ·have hk:k.toNat=j:=by
   rw[seqIndex_of h0 h4] at h1
   exact Option.some.inj h1
  exact PySem.W.ki_setAt ho h0 (by omega) (by rw[Mu,<- hl];exact h4) (by rw[hk];exact⟨_,I',q⟩)
 ·have hk:(k+(its.toArray.size:Int)).toNat=j:=by
   rw[B0 (by omega) h3] at h1
   rw[Mu,<- hl]
   exact Option.some.inj h1
  exact PySem.W.ki_setBack ho (by omega) (by rw[Mu,<- hl];exact h3) (by omega) (by rw[hk];exact⟨_,I',q⟩)
theorem ce (lo hi:Option Int)(n:Nat):(A8 lo hi none n).1=((HT.sIx n 0 lo:Nat):Int)/\(A8 lo hi none n).2.1=((HT.sIx n n hi:Nat):Int)/\(A8 lo hi none n).2.2=1:=by
 refine⟨?_,?_,rfl⟩
 ·cases lo with
  | none=>simp[A8,HT.sIx]
  | some i =>
   simp only[A8,HT.sIx,ba,show (1:Int) > 0 by decide,if_true]
   by_cases h:i < 0
   ·simp only[h,if_true] <;> omega
   ·simp only[h,if_false] <;> omega
 ·cases hi with
  | none=>simp[A8,HT.sIx]
  | some i =>
   simp only[A8,HT.sIx,ba,show (1:Int) > 0 by decide,if_true]
   by_cases h:i < 0
   ·simp only[h,if_true] <;> omega
   ·simp only[h,if_false] <;> omega
theorem cf (its:List Ab)(lo hi:Option Int):slicePick its.toArray lo hi none=((its.drop (HT.sIx its.length 0 lo)).take (HT.sIx its.length its.length hi - HT.sIx its.length 0 lo)).toArray:=by
 obtain⟨h1,h2,h3⟩:=ce lo hi its.toArray.size
 unfold slicePick
 rw[h1,h2,h3]
 simp only[sliceRange_one,pick_run,Mu] <;> rfl
def rSlL (K:LR):V->Option Int->Option Int->Hp->VK->Prop:=fun x lo hi H Q=>∃ a xs,x=.ref a/\SqL K H a xs/\∀ p,H p=none->Q (.ref p) (upd H p (.lst (cutV xs lo hi)))
theorem sl_list:SlR X (rSlL X.K):=by
 intro B5 s σ H x v vl vu lo hi sl Q I rx hs pl pu h
 obtain⟨a,xs,rfl,hx,q⟩:=h
 cases rx
 obtain⟨its,r,ht,hz⟩:=I.list hx
 have Ca:=r.length
 refine⟨"list",_,slot_list_getitem.lookup,ht.isList.typeIs,?_⟩
 refine wpAny_getItem_list_slice ht.isList hs pl pu .none (by simp) ?_ (by rw[Mu] <;> omega)
 rw[cf,<- Ca]
 refine⟨.ref s.heap.objs.size,_,I.laid (t':=s.toks) (o:=.lst (cutV xs lo hi)) (fun b ob q=>L1 _ q) (LZ _) ?_,rfl,q _ (I.hok.fresh (LZ _))⟩
 exact⟨MX (RF xs lo hi) hz,_,0,(r.drop (HT.sIx xs.length 0 lo)).take (HT.sIx xs.length xs.length hi - HT.sIx xs.length 0 lo),Ms _ rfl⟩
noncomputable def OT:V->Bool
 | .non=>true
 | .bl _=>true
 | .int _=>true
 | .str _=>true
 | _=>false
noncomputable def eqV:V->V->Bool
 | .non,.non=>true
 | .bl a,.bl b=>a == b
 | .bl a,.int b=>(if a then 1 else 0) == b
 | .int a,.bl b=>a == (if b then 1 else 0)
 | .int a,.int b=>a == b
 | .str a,.str b=>a == b
 | _,_=>false
theorem VF (ry:RelV y u) (rx:RelV x v) (fy:OT y=true) (fx:OT x=true):OM A s u v (eqV y x):=by
 cases y with
 | non =>
  cases ry
  cases x with
  | non=>cases rx;exact OM.same _
  | bl b=>cases rx;exact OM.none_bool b
  | int b=>obtain⟨t,rfl⟩:=rx;exact je b t
  | str b=>obtain⟨t,rfl⟩:=rx;exact jf b t
  | _=>exact absurd (show false=true from fx) Mj
 | bl a =>
  cases ry
  cases x with
  | non=>cases rx;exact OM.bool_none a
  | bl b=>cases rx;exact OM.bool_bool a b
  | int b=>obtain⟨t,rfl⟩:=rx;exact OM.bool_int a b t
  | str b=>obtain⟨t,rfl⟩:=rx;exact OM.bool_str a b t
  | _=>exact absurd (show false=true from fx) Mj
 | int a =>
  obtain⟨t',rfl⟩:=ry
  cases x with
  | non=>cases rx;exact jg a t'
  | bl b=>cases rx;exact OM.int_bool a t' b
  | int b=>obtain⟨t,rfl⟩:=rx;exact OM.int_int a t' b t
  | str b=>obtain⟨t,rfl⟩:=rx;exact ji a t' b t
  | _=>exact absurd (show false=true from fx) Mj
 | str a =>
  obtain⟨t',rfl⟩:=ry
  cases x with
  | non=>cases rx;exact jh a t'
  | bl b=>cases rx;exact OM.str_bool a t' b
  | int b=>obtain⟨t,rfl⟩:=rx;exact jj a t' b t
  | str b=>obtain⟨t,rfl⟩:=rx;exact OM.str_str a t' b t
  | _=>exact absurd (show false=true from fx) Mj
 | _=>exact absurd (show false=true from fy) Mj
noncomputable def eqU (x:V)(u:Ab):Bool:=match u with
 | .none=>eqV .non x
 | .bool b=>eqV (.bl b) x
 | .int i _=>eqV (.int i) x
 | .str z _=>eqV (.str z) x
 | _=>false
theorem VG (r:RelV y u) (f:OT y=true):eqU x u=eqV y x:=by
 cases y with
 | non=>cases r;rfl
 | bl b=>cases r;rfl
 | int i=>obtain⟨t,rfl⟩:=r;rfl
 | str z=>obtain⟨t,rfl⟩:=r;rfl
 | _=>exact absurd (show false=true from f) Mj
theorem PH {x:V}:∀{xs:List V}{us:List Ab},Vals xs us->xs.all OT=true->us.any (eqU x)=xs.any fun y=>eqV y x
 | _,_,.nil,_=>rfl
 | y::xs,u::us,.cons r t,f=>by
  rw[aC,Nn] at f
  rw[Pq,Pq,VG r f.1,PH t f.2]
theorem VH {A:Ap}{s:Ae}{x:V}{v:Ab}(rx:RelV x v)(fx:OT x=true):∀{xs:List V}{us:List Ab},Vals xs us->xs.all OT=true->∀ u∈us,OM A s u v (eqU x u)
 | _,_,.nil,_=>fun u hu=>by cases hu
 | y::xs,u::us,.cons r t,f=>fun u' hu=>by
  rw[aC,Nn] at f
  rcases Mc.mp hu with rfl | hu
  ·rw[VG r f.1];exact VF r rx f.1 fx
  ·exact VH rx fx t f.2 u' hu
noncomputable def inV (x:V)(xs:List V):Bool:=xs.any fun y=>eqV y x
def rIn (K:LR)(neg:Bool):R2:=fun x y H Q=>∃ p xs,y=.ref p/\(SqL K H p xs∨SqT K H p xs)/\OT x=true/\xs.all OT=true/\Q (.bl (if neg then !inV x xs else inV x xs)) H
theorem cg:OpR X (An .In) (rIn X.K false):=by
 intro B5 s σ H x y v u Q I rx ry h
 obtain⟨p,xs,rfl,hq,fx,fs,q⟩:=h
 cases ry
 rcases hq with hq | hq
 ·obtain⟨its,r,pl,hz⟩:=I.list hq
  refine SeqAt.in_listAt (eqU x) pl.isList (fun w hw=>VH rx fx r fs w (by simpa using hw)) ⟨.bl _,H,I,rfl,?_⟩
  rw[show its.toArray.any (eqU x)=its.any (eqU x) by simp,PH r fs]
  exact q
 ·obtain⟨its,r,pl,hz⟩:=I.tuple hq
  refine SeqAt.in_tupleAt (eqU x) pl (fun w hw=>VH rx fx r fs w (by simpa using hw)) ⟨.bl _,H,I,rfl,?_⟩
  rw[show its.toArray.any (eqU x)=its.any (eqU x) by simp,PH r fs]
  exact q
theorem ci:OpR X (An .NotIn) (rIn X.K true):=by
 intro B5 s σ H x y v u Q I rx ry h
 obtain⟨p,xs,rfl,hq,fx,fs,q⟩:=h
 cases ry
 rcases hq with hq | hq
 ·obtain⟨its,r,pl,hz⟩:=I.list hq
  refine SeqAt.notIn_listAt (eqU x) pl.isList (fun w hw=>VH rx fx r fs w (by simpa using hw)) ⟨.bl _,H,I,rfl,?_⟩
  rw[show its.toArray.any (eqU x)=its.any (eqU x) by simp,PH r fs]
  exact q
 ·obtain⟨its,r,pl,hz⟩:=I.tuple hq
  refine SeqAt.notIn_tupleAt (eqU x) pl (fun w hw=>VH rx fx r fs w (by simpa using hw)) ⟨.bl _,H,I,rfl,?_⟩
  rw[show its.toArray.any (eqU x)=its.any (eqU x) by simp,PH r fs]
  exact q
theorem cj:CallR X (.builtin "len") (fun xs H Q=>∃ p ys,xs=[.ref p]/\(SqL X.K H p ys∨SqT X.K H p ys)/\Q (.int ys.length) H):=by
 intro B5 s σ H xs us Q I r h
 obtain⟨p,ys,rfl,hq,q⟩:=h
 obtain⟨u,rfl,rx⟩:=Np r
 cases rx
 have hn:=N9
 rcases hq with hq | hq
 ·obtain⟨its,r',pl,hz⟩:=I.list hq
  have Ca:=r'.length
  exact Calls.call_len_list pl.isList (by simp only[Mu] <;> omega) ⟨.int ys.length,H,I.tok _,⟨s.toks+1,by rw[Mu,Ca]⟩,q⟩
 ·obtain⟨its,r',pl,hz⟩:=I.tuple hq
  have Ca:=r'.length
  exact len_tuple pl (by simp only[Mu] <;> omega) ⟨.int ys.length,H,I.tok _,⟨s.toks+1,by rw[Mu,Ca]⟩,q⟩
theorem ck:CallR X (.builtin "len") (fun xs H Q=>∃ z,xs=[.str z]/\z.length<=Af/\Q (.int z.length) H):=by
 intro B5 s σ H xs us Q I r h
 obtain⟨z,rfl,hz,q⟩:=h
 obtain⟨u,rfl,t,rfl⟩:=Np r
 have hn:=N9
 exact len_str (by omega) ⟨.int z.length,H,I.tok _,⟨_,rfl⟩,q⟩
theorem call_list_of:CallR X (.type "list") (fun xs H Q=>∃ p ys,xs=[.ref p]/\(SqL X.K H p ys∨SqT X.K H p ys)/\∀ l,H l=none->Q (.ref l) (upd H l (.lst ys))):=by
 intro B5 s σ H xs us Q I r h
 obtain⟨p,ys,rfl,hq,q⟩:=h
 obtain⟨u,rfl,rx⟩:=Np r
 cases rx
 have fin:∀(its:List Ab),Vals ys its->ys.length<=Af->∀(h':Ao) (c':Nat),(∀ b o',s.heap.get? b=some o'->h'.get? b=some o') ->
   h'.get? s.heap.objs.size=some { cls:=.type "list",dict:=none,data:=.seq its.toArray c',slots:=#[] }->EP X B5 σ Q (.ref s.heap.objs.size) { s with heap:=h' }:=fun its r' hz h' c' kp e =>
  ⟨.ref s.heap.objs.size,_,I.laid (t':=s.toks) kp (LZ _) (show ObjOk X.prog X.w _ h' _ (.lst ys) from ⟨hz,its,c',r',e⟩),rfl,q _ (I.hok.fresh (LZ _))⟩
 rcases hq with hq | hq
 ·obtain⟨its,r',pl,hz⟩:=I.list hq
  have Ca:=r'.length
  obtain⟨o,ho,hc,n,hd⟩:=pl.isList
  exact call_list_seq p (.inl rfl) ho hc hd (fun h' c' kp e=>fin its r' hz h' c' kp e) (by simp only[Mu] <;> omega)
 ·obtain⟨its,r',pl,hz⟩:=I.tuple hq
  have Ca:=r'.length
  obtain⟨o,ho,hc,n,hd⟩:=pl
  exact call_list_seq p (.inr rfl) ho hc hd (fun h' c' kp e=>fin its r' hz h' c' kp e) (by simp only[Mu] <;> omega)
theorem call_tuple_of:CallR X (.type "tuple") (fun xs H Q=>∃ p ys,xs=[.ref p]/\((SqL X.K H p ys/\∀ l,H l=none->Q (.ref l) (upd H l (.tup ys)))∨(SqT X.K H p ys/\Q (.ref p) H))):=by
 intro B5 s σ H xs us Q I r h
 obtain⟨p,ys,rfl,h⟩:=h
 obtain⟨u,rfl,rx⟩:=Np r
 cases rx
 rcases h with ⟨hq,q⟩ | ⟨hq,q⟩
 ·obtain⟨its,r',pl,hz⟩:=I.list hq
  have Ca:=r'.length
  refine call_tuple_list pl.isList (fun h' kp=>?_) (by simp only[Mu] <;> omega)
  have I1:Inv X B5 σ H { s with heap:=h' }:=I.kept (t':=s.toks) kp
  have I2:Inv X B5 σ (upd H h'.objs.size (.tup ys)) { s with heap:=h'.push { cls:=.type "tuple",data:=.seq its.toArray } } :=
   I1.laid (t':=s.toks) (fun b o e=>L1 _ e) (LZ _) (show ObjOk X.prog X.w _ _ _ (.tup ys) from ⟨hz,its,r',IsTup.new _ _,DcN.new _ _⟩)
  exact⟨.ref h'.objs.size,_,I2,rfl,q _ (I1.hok.fresh (LZ _))⟩
 ·obtain⟨its,r',pl,hz⟩:=I.tuple hq
  exact call_tuple_same pl ⟨.ref p,H,I,rfl,q⟩
def tyV (K:LR)(T:String)(x:V)(H:Hp):Prop:=match x with
 | .str _=>T="str"
 | .int _=>T="int"
 | .ref p=>(T="list"/\∃ xs,SqL K H p xs)∨(T="tuple"/\∃ o,K.lookup p=some o/\o.cls=.type "tuple"/\o.dict=none) ∨
   (T="dict"/\((∃ B7,H p=some (.dK B7))∨∃ B7,H p=some (.dT B7)))∨(T="set"/\∃ S n,H p=some (.set S n))
 | _=>False
theorem VI (I:Inv X B5 σ H s) (r:RelV x v) (ty:tyV X.K T x H):
  s.TypeIs v T/\∀ a,v=.ref a->∃ ob,s.heap.get? a=some ob/\ob.dict=none:=by
 cases x with
 | str z =>
  obtain⟨t,rfl⟩:=r
  cases (show T="str" from ty)
  exact⟨Br s z t,fun _ e=>nomatch e⟩
 | int i =>
  obtain⟨t,rfl⟩:=r
  cases (show T="int" from ty)
  exact⟨typeIs_int s i t,fun _ e=>nomatch e⟩
 | ref p =>
  cases r
  rcases ty with ⟨rfl,xs,hq⟩ | ⟨rfl,o,hk,hc,hd⟩ | ⟨rfl,hk⟩ | ⟨rfl,S,n,hk⟩
  ·obtain⟨its,_,pl,_⟩:=I.list hq
   refine⟨pl.isList.typeIs,fun a e=>?_⟩
   cases e
   obtain⟨o,n,e,c,hd,_⟩:=pl
   exact⟨o,e,hd⟩
  ·refine⟨⟨o,I.kIn p o hk,hc⟩,fun a e=>?_⟩
   cases e
   exact⟨o,I.kIn _ o hk,hd⟩
  ·have z:∃ o,s.heap.get? p=some o/\o.ExactDict:=by
    rcases hk with ⟨B7,hk⟩ | ⟨B7,hk⟩
    ·obtain⟨_,_,_,_,o,_,_,e,ex,_⟩:=I.hok p _ hk
     exact⟨o,e,ex⟩
    ·obtain⟨_,_,_,_,o,_,_,e,ex,_⟩:=I.hok p _ hk
     exact⟨o,e,ex⟩
   obtain⟨o,e,ex⟩:=z
   refine⟨⟨o,e,ex.1⟩,fun a e2=>?_⟩
   cases e2
   exact⟨o,e,ex.2.1⟩
  ·obtain⟨o,_,_,_,e,ex,_⟩:=I.hok p _ hk
   refine⟨⟨o,e,ex.1⟩,fun a e2=>?_⟩
   cases e2
   exact⟨o,e,ex.2.1⟩
 | _=>exact ON ty
def tBM0 (K:LR)(T:String)(r:V->List V->Hp->VK->Prop)(to:TE):TE:=fun σ H Q=>to σ H fun x H1=>tyV K T x H1/\r x [] H1 Q
def tBM (K:LR)(T:String)(r:V->List V->Hp->VK->Prop)(to:TE)(t:TA):TE:=fun σ H Q=>to σ H fun x H1=>tyV K T x H1/\t σ H1 fun xs H2=>r x xs H2 Q
variable {o e:Ay}{es:List Ay}{to:TE}{t:TA}{name:Str}{Cf cpos:Pos}{T id:String}{r:V->List V->Hp->VK->Prop}
theorem pe_bm0 (pa:BZ T)(slot:Slot T name id)(F_:typeOf (.builtin id)=pure (.type "method_descriptor"))(hm:MtR X id r)(ho:PE X o to)
  (D9:AO o name X.env (Ax o X.env)=Ax o X.env:=by rfl) (D_:(Cf.endLine == cpos.line)=true:=by rfl):PE X (.Call (.Attribute o name Cf) [] [] cpos) (tBM0 X.K T r to):=by
 intro B5 s σ H Q I h
 refine wpAny_Call_method0_late D9 D_ (thn (ho B5 s σ H _ I h) fun v s1 hI9=>?_)
 obtain⟨x,H1,I1,r1,ty,q1⟩:=hI9
 obtain⟨h1,h2⟩:=VI I1 r1 ty
 exact⟨T,id,pa,slot,F_,h1,h2,ZS rfl (PySem.evalArgs_none (hm B5 s1 σ H1 x [] v [] Q I1 r1 .nil q1))⟩
theorem pe_bm (pa:BZ T)(slot:Slot T name id)(F_:typeOf (.builtin id)=pure (.type "method_descriptor"))(hm:MtR X id r)(ho:PE X o to)(ha:PA X (e::es) t)
  (D9:AO o name X.env (Ax o X.env)=Ax o X.env:=by rfl)
  (ER:((AE cpos (Ah (e::es) X.env)).all (fun x=>!x.1)&&(Ba cpos (AU [] X.env)).all (fun x=>x.1.isSome)
   && decide ((e::es).length+([]:List BA).length+(if ([]:List BA).isEmpty then 0 else 1) < 30))=true:=by rfl)
  (D_:(Cf.endLine == cpos.line)=true:=by rfl) (hs:Ah (e::es) X.env=(false,Ax e X.env)::Ah es X.env:=by rfl) (F':(AE cpos (Ah es X.env)).any (·.1)=false:=by rfl) :
  PE X (.Call (.Attribute o name Cf) (e::es) [] cpos) (tBM X.K T r to t):=by
 intro B5 s σ H Q I h
 refine wpAny_Call_method_late D9 ER D_ rfl (thn (ho B5 s σ H _ I h) fun v s1 hI9=>?_)
 obtain⟨x,H1,I1,r1,ty,q1⟩:=hI9
 obtain⟨h1,h2⟩:=VI I1 r1 ty
 refine⟨T,id,pa,slot,F_,h1,h2,?_⟩
 have hA:=ha cpos B5 s1 σ H1 _ I1 q1
 rw[hs] at hA ⊢
 refine ZS (by show (false || (AE cpos (Ah es X.env)).any (·.1))=false;rw[F'] <;> rfl) (a_ ?_)
 exact thn hA fun us s2 ⟨vs,H2,I2,r2,q2⟩=>hm B5 s2 σ H2 x vs v us Q I2 r1 r2 q2
/- xs.append(e),list.index on a module's tuple .. are MtR facts of 06m -/
end
noncomputable def MtM (X:Cx)(id:String)(r:V->List V->Hp->VK->Prop):Prop :=
 ∀(B5:List (Ac×Obj)) (s:Ae) (σ:St) (H:Hp) (x:V) (xs:List V) (v:Ab) (us:List Ab) (Q:VK),Inv X B5 σ H s->RelV x v->Vals xs us->r x xs H Q ->
  wpAny (Aj X.prog X.w) X.A (call (.builtin id) (v::us)) (EP X B5 σ Q) X.xe s
theorem Vals.one:∀{x:V}{us:List Ab},Vals [x] us->∃ u,us=[u]/\RelV x u
 | _,_,.cons r .nil=>⟨_,rfl,r⟩
theorem Vals.eraseIdx:∀{xs:List V}{us:List Ab} (i:Nat),Vals xs us->Vals (xs.eraseIdx i) (us.eraseIdx i)
 | _,_,_,.nil=>.nil
 | _,_,0,.cons _ t=>t
 | _,_,i+1,.cons r t=>.cons r (Vals.eraseIdx i t)
theorem Vals.rep {xs:List V}{us:List Ab}(h:Vals xs us):∀ k:Nat,Vals (Mw k xs).flatten (Mw k us).flatten
 | 0=>.nil
 | k+1=>by
  rw[Uh,Uh,RR,RR]
  exact Vals.append h (Vals.rep h k)
theorem VJ {α:Type}:∀(l:List α) (i:Nat),(l.eraseIdx i).length<=l.length
 | [],_=>LZ _
 | _::_,0=>Qw _
 | _::r,i+1=>Nat.succ_le_succ (VJ r i)
theorem VL (its:List Ab):∀(k:Nat) (B6:List Ab),
  ZC (fun x1 x2=>x1++x2) B6.toArray (Mw k its.toArray)=(B6++(Mw k its).flatten).toArray
 | 0,B6=>by simp
 | k+1,B6=>by
  have e:B6.toArray++its.toArray=(B6++its).toArray:=by simp
  have e2:(B6++its)++(Mw k its).flatten=B6++(Mw (k+1) its).flatten:=by
   rw[Uh,RR,Qp]
  rw[<- e2,<- VL its k (B6++its),<- e,Uh,Uj]
section
variable {X:Cx}{B5:List (Ac×Obj)}{σ:St}{H:Hp}{s:Ae}{l b:Ac}{xs ys zs:List V}
theorem Inv.lset {its its':List Ab}{n:Nat}{f:Array Ab->Array Ab}{t':Nat}(I:Inv X B5 σ H s)(hH:H l=some (.lst xs))
  (e:s.heap.get? l=some { cls:=.type "list",data:=.seq its.toArray n }) (hf:f its.toArray=its'.toArray) (hv:Vals ys its') (hz:ys.length<=Af) :
  Inv X B5 σ (upd H l (.lst ys)) { s with heap:=s.heap.update l (Vc f),toks:=t' }:=by
 have q:=PySem.IsL.update e f
 rw[hf] at q
 refine I.write (x:=l) (e:=l) (by rw[hH];exact trivial) (.inl rfl) (fun b' u hb hu=>(iF s.heap (Vc f) (N2 hb)).trans hu) ⟨_,q⟩ ?_
 exact⟨hz,its',_,hv,q⟩
theorem Inv.lnew (I:Inv X B5 σ H s) (hv:Vals ys its) (hz:ys.length<=Af):
  Inv X B5 σ (upd H s.heap.objs.size (.lst ys)) { s with heap:=s.heap.push { cls:=.type "list",data:=.seq its.toArray },toks:=t' } :=
 I.laid (fun _ _ q=>L1 _ q) (LZ _) ⟨hz,its,0,hv,Ms _ rfl⟩
theorem Inv.fresh (I:Inv X B5 σ H s):H s.heap.objs.size=none:=I.hok.fresh (LZ _)
theorem Inv.lstM (I:Inv X B5 σ H s)(hH:H l=some (.lst xs)):xs.length<=Af/\∃(its:List Ab) (n:Nat),Vals xs its/\xs.length=its.length/\s.heap.get? l=some { cls:=.type "list",data:=.seq its.toArray n }:=by
 obtain⟨z,its,n,r,e⟩:=I.hok l _ hH
 exact⟨z,its,n,r,r.length,e⟩
theorem VM (h:n<=Af):ZZ n=false:=by
 unfold ZZ
 exact B1 (by omega)
end
section
variable {X:Cx}
def rAppend:V->List V->Hp->VK->Prop:=fun x vs H Q=>∃ l xs y,x=.ref l/\vs=[y]/\H l=some (.lst xs)/\xs.length < Af/\Q .non (upd H l (.lst (xs++[y])))
theorem VN:MtM X "list.append" rAppend:=by
 intro B5 s σ H x vs v us Q I rx rv h
 obtain⟨l,xs,y,rfl,rfl,hH,hz,q⟩:=h
 cases rx
 obtain⟨u,rfl,ru⟩:=rv.one
 obtain⟨z,its,n,r,hl,e⟩:=I.lstM hH
 refine AW F.slot_list_append ⟨_,e,rfl⟩ F.entry_list_append (F.args_list_append_2 _ _) (PySem.list_append l its.toArray n u (by rw[Mu];omega)) ⟨e,?_⟩
 refine⟨.non,_,I.lset (its':=its++[u]) hH e (by simp) (r.append (.cons ru .nil)) ?_,rfl,q⟩
 rw[Md,O_]
 omega
def rExtend:V->List V->Hp->VK->Prop:=fun x vs H Q=>∃ l b xs zs,x=.ref l/\vs=[.ref b]/\H l=some (.lst xs)/\H b=some (.lst zs)/\xs.length+zs.length<=Af/\Q .non (upd H l (.lst (xs++zs)))
theorem cm:MtM X "list.extend" rExtend:=by
 intro B5 s σ H x vs v us Q I rx rv h
 obtain⟨l,b,xs,zs,rfl,rfl,hH,hB,hz,q⟩:=h
 cases rx
 obtain⟨u,rfl,ru⟩:=rv.one
 cases ru
 obtain⟨z,its,n,r,hl,e⟩:=I.lstM hH
 obtain⟨z2,its2,n2,r2,DH,e2⟩:=I.lstM hB
 have hsz:its.toArray.size+its2.toArray.size<=Af:=by rw[Mu,Mu];omega
 have ES:¬ (!its.toArray.isEmpty&&ZZ (its.toArray.size+its2.toArray.size))=true:=by
  rw[VM hsz,Bool.and_false]
  exact Mj
 refine AW F.slot_list_extend ⟨_,e,rfl⟩ F.entry_list_extend (F.args_list_extend_2 _ _)
  (AutoSeq1.list_extend_list_list_0 l its.toArray n b its2.toArray n2 ES (by rw[Mu];omega) (by omega)) ⟨e,e2,?_⟩
 refine⟨.non,_,I.lset (its':=its++its2) hH e (by simp) (r.append r2) ?_,rfl,q⟩
 rw[Md]
 omega
def Sf:V->List V->Hp->VK->Prop:=fun x vs H Q=>∃ l xs i k y,x=.ref l/\vs=[.int i]/\H l=some (.lst xs)/\-(2 ^ 63)<=i/\i < 2 ^ 63/\seqIndex? i xs.length=some k/\xs[k]?=some y/\Q y (upd H l (.lst (xs.eraseIdx k)))
theorem cn:MtM X "list.pop" Sf:=by
 intro B5 s σ H x vs v us Q I rx rv h
 obtain⟨l,xs,i,k,y,rfl,rfl,hH,h1,h2,hk,hy,q⟩:=h
 cases rx
 obtain⟨u,rfl,ru⟩:=rv.one
 obtain⟨t,rfl⟩:=ru
 obtain⟨z,its,n,r,hl,e⟩:=I.lstM hH
 obtain⟨w,hw,rw'⟩:=r.get hy
 refine AW F.slot_list_pop ⟨_,e,rfl⟩ F.entry_list_pop (F.args_list_pop_2 _ _)
  (MeetsSeq.list_pop_at l its.toArray n i t k w (fitsIndex_both h1 h2) (by rw[Mu,<- hl];exact hk) (by rw[<- U'];exact hw) (by rw[Mu];omega)) ⟨e,?_⟩
 refine⟨y,_,I.lset (its':=its.eraseIdx k) hH e ?_ (r.eraseIdx k) ?_,rw',q⟩
 ·show its.toArray.eraseIdxIfInBounds k=(its.eraseIdx k).toArray
  rw[List.eraseIdxIfInBounds_toArray]
 ·have:=VJ xs k
  omega
def rCat:R2:=fun x y H Q=>∃ l b xs zs,x=.ref l/\y=.ref b/\H l=some (.lst xs)/\H b=some (.lst zs)/\xs.length+zs.length<=Af/\∀ p,H p=none->Q (.ref p) (upd H p (.lst (xs++zs)))
theorem op_cat:OpR X (AI .Add) rCat:=by
 intro B5 s σ H x y v u Q I rx ry h
 obtain⟨l,b,xs,zs,rfl,rfl,hH,hB,hz,q⟩:=h
 cases rx
 cases ry
 obtain⟨z,its,n,r,hl,e⟩:=I.lstM hH
 obtain⟨z2,its2,n2,r2,DH,e2⟩:=I.lstM hB
 refine PySem.P.add_list e e2 ?_ (by rw[Mu,Mu];omega)
 have ea:its.toArray++its2.toArray=(its++its2).toArray:=by simp
 rw[ea]
 exact⟨.ref _,_,I.lnew (t':=s.toks) (r.append r2) (by rw[Md];omega),rfl,q _ I.fresh⟩
def rRep:R2:=fun x y H Q=>∃ l k xs,x=.ref l/\y=.int k/\H l=some (.lst xs)/\-(2 ^ 63)<=k/\k < 2 ^ 63/\xs.length * k.toNat<=Af /\
 ∀ p,H p=none->Q (.ref p) (upd H p (.lst (Mw k.toNat xs).flatten))
theorem len_rep (xs:List α) (k:Nat):(Mw k xs).flatten.length=k * xs.length:=by
 induction k with
 | zero=>simp
 | succ k ih=>rw[Uh,RR,Md,ih,U4,aV]
theorem op_rep:OpR X (AI .Mult) rRep:=by
 intro B5 s σ H x y v u Q I rx ry h
 obtain⟨l,k,xs,rfl,rfl,hH,h1,h2,hz,q⟩:=h
 cases rx
 obtain⟨t,rfl⟩:=ry
 obtain⟨z,its,n,r,hl,e⟩:=I.lstM hH
 have Ca:its.toArray.size * k.toNat<=Af:=by rw[Mu,<- hl];exact hz
 have Iv:¬ its.toArray.size * k.toNat > (2 ^ 63 - 1) / 8:=by
  have:(Af:Nat)<=(2 ^ 63 - 1) / 8:=by decide
  omega
 have DZ:¬ (!Builtin.List.listFitsIndex k)=true:=by
  rw[fitsIndex_both h1 h2]
  exact Mj
 have ES:¬ ZZ (its.toArray.size * k.toNat)=true:=by
  rw[VM Ca]
  exact Mj
 have Ga:ZC (fun x1 x2=>x1++x2) #[] (Mw (if its.toArray.isEmpty=true then 0 else k.toNat) its.toArray)=(Mw k.toNat its).flatten.toArray:=by
  have f0:∀ m:Nat,ZC (fun x1 x2=>x1++x2) #[] (Mw m its.toArray)=(Mw m its).flatten.toArray:=fun m=>by
   have:=VL its m []
   rw[List.nil_append] at this
   exact this
  rw[f0]
  cases its with
  | nil=>simp
  | cons a r'=>rw[B3 (by simp)]
 refine wpAny_binaryOp_repeat_ref (T:="list") (U:="int") (by decide) ⟨_,e,rfl⟩ (fun s'=>typeIs_int s' k t) noFill_list_mul F.fills_int_mul F.slot_int_rmul repeat_list F.slot_int_index.lookup
  (AW F.slot_int_rmul (typeIs_int s k t) F.entry_int_rmul (F.args_int_rmul_2 _ _) (int___rmul___int_list k t l its.toArray n)
   ⟨e,rfl,⟨_,e,rfl⟩,AW F.slot_list_mul ⟨_,e,rfl⟩ F.entry_list_mul (F.args_list_mul_2 _ _) (AutoListH.list___mul___list_int_3 l its.toArray n k t DZ Iv ES) ⟨e,?_⟩⟩)
 rw[Ga]
 exact⟨.ref _,_,I.lnew (t':=s.toks) (r.rep k.toNat) (by rw[len_rep,Nat.mul_comm];exact hz),rfl,q _ I.fresh⟩
end
section
variable {prog:Ag}{w:Ak}{A:Ap}{E:Ab->Ae->Prop}{s:Ae}
set_option maxRecDepth 100000 in
end
section
variable {X:Cx}
end
end L2
namespace Att
open PySem PySem.W PySem.Calls PyProof.Rows
theorem cq :∀(ns:List Int) (vs:List Ab),WellAll P h vs (ns.map WData.int)->IntsAre vs ns:=by
 intro ns
 induction ns with
 | nil =>
  intro vs w
  rw[MT] at w
  cases w
  exact .nil
 | cons n ns ih =>
  intro vs w
  rw[L'] at w
  cases w with
  | cons a b =>
   cases a
   exact .cons _ _ (ih _ b)
theorem cr {l:OpenLaw}{n:Nat}(hn:l.most=some n){P:Params}{h:Ao}{args:List WData}{vals:List Ab}
  (Ek:l.row.toRowW.claim.pre args=true) (El:WellAll P h vals args) :
  ∃ a vs ns,vals=[Value.ref a]/\args=[WData.list (ns.map WData.int)]/\h.get? a=some { cls:=.type "list",data:=.seq vs.toArray }/\IntsAre vs ns/\ns.length<=n:=by
 have Iw:WShape.hasAll [] args [.list .int]=true:=(pre_splitW Ek).1
 have hc:l.pre.holds [] { args:=args }=true:=(pre_splitW Ek).2
 obtain⟨d,r,rfl,h1,h2⟩:=hasAllW_cons Iw
 obtain rfl:=hasAllW_nil h2
 obtain⟨xs,rfl,h3⟩:=hasW_list h1
 obtain⟨ns,rfl⟩:=items_int h3
 have Ca:ns.length<=n:=by
  unfold OpenLaw.pre at hc
  have h4:(WTm.not (.lt (.lit (.int (n:Int))) (.len (.arg 0)))).holds [] { args:=[.list (ns.map .int)] }=true:=by
   have h4:=(holds_andW hc).1
   rw[hn] at h4
   exact h4
  have h5:=condW_of h4 (w_not (w_lt w_lit (w_len_list (w_arg rfl))))
  rw[LP] at h5
  refine Nat.le_of_not_lt fun q=>?_
  have q':(n:Int) < ((ns.length:Nat):Int):=by omega
  first
   | (rw[B2 q'] at h5;exact absurd h5 (by decide))
   | (simp at h5;omega)
 cases El with
 | cons w1 w2 =>
  cases w2
  cases w1 with
  | list ho Dr=>exact⟨_,_,ns,rfl,rfl,ho,cq ns _ Dr,Ca⟩
theorem cu (l:OpenLaw)(args:List WData):l.row.toRowW.claim.post args (.bool true) args=true :=
 postW_of (r:=l.row.toRowW) (X:=(true == true))
  (show WShape.has [] (.bool true) .bool=true by first | rfl | decide | simp[WShape.has,WShape.arms,WShape.armsAll])
  (show (WTm.eq .res (.lit (.bool true))).value [] { args:=args,res:=some (.bool true),after:=args }=some (.bool (true == true)) from w_eq_bool (w_res rfl) w_lit) rfl
theorem attach_call {l:OpenLaw}{n:Nat}{q:Ag}{loose:List Str}{XP:(Str->Option Ab)->Ao->Prop}{YP:Ak->Ao->Prop}{d:DefRec}
  (hn:l.most=some n) (GX:d.params.defaults=[])
  (call:∀(w:Ak) (s₀ s₁:Ae) (mg mb:Str->Option Ab) (fa:Ac) (o:Obj) (pm cd doc:Ab) (a:Ac) (vs:List Ab) (ns:List Int),
   Ground q loose [] XP w s₀ mg mb s₁.heap->YP w s₁.heap ->
   s₁.heap.get? fa=some o->o.data=.func (docDef d.name d.params d.body d.scope pm cd doc)->s₁.heap.CodeRec cd d.name->mg d.name=some (.ref fa) ->
   s₁.heap.get? a=some { cls:=.type "list",data:=.seq vs.toArray }->IntsAre vs ns->ns.length<=n->s₁.gens=#[] ->
   codeAny (Aj l.prog w) BU (.call (.ref fa) ⟨[.ref a],[]⟩) (fun r s'=>r=.ok (.ret (.bool true))/\OldK s₁.heap s'.heap/\s'.os=s₁.os/\Bw s'.gens) s₁) :
  WalkO q loose XP YP l.row.toRowW d [] (fun f vs=>PySem.call f vs):=by
 intro w s₀ s₁ mg mb G Y fa o pm cd doc dV kV ho hd Ej hD Gb hg args vals as Ek Kz JI El hlo
 obtain rfl:dV=.none:=Dflts.none hD GX
 obtain rfl:kV=.none:=Dflts.noKw hD
 obtain⟨a,vs,ns,rfl,rfl,D3,ET,Ca⟩:=cr hn Ek El
 refine enter_call (Bb (call w s₀ s₁ mg mb fa o pm cd doc a vs ns G Y ho (fd_plain hd) Ej Gb D3 ET Ca hg) fun r s' hq=>?_)
 obtain⟨rfl,h2,h3,h4⟩:=hq
 exact⟨.inl ⟨.bool true,.bool true,[],rfl,fun _=>rfl,.bool true,cu l _,fun _=>⟨List.Pairwise.nil,fun _ hm=>(nomatch hm)⟩⟩,h2,h3,h4⟩
section
variable {prog:Ag}{w:Ak}{A:Ap}{E:Ab->Ae->Prop}{s:Ae}{K:Frag}
end
end Att
namespace L2
open PySem PySem.Spec PyProof.Rows
theorem VO:∀{vs:List Ab}{ns:List Int},IntsAre vs ns->Vals (ns.map V.int) vs
 | _,_,.nil=>.nil
 | _,_,.cons n t h=>.cons ⟨t,rfl⟩ (VO h)
def Only (H:Hp):Prop:=∀ b,H b=none∨∃ o xs,H b=some (.frz o (.lst xs))
theorem cv {P:Ag}{w:Ak}{K:LR}{mg mb:Str->Option Ab}{CX:CXT}{k:Nat}{fa a:Ac}{fd:AB}{x:Str}{sp:Sp}{s₁:Ae}{vs:List Ab}{ns:List Int}
  (KX:K.In s₁.heap) (Eh:s₁.heap.Ns Ai mg) (hb:s₁.heap.Ns builtinsNs mb) (KA:∀ x:Str,x≠"__name__"->mb x=AF x) (Ix:s₁.heap.NoLimit) (hg:s₁.gens=#[])
  (ha:s₁.heap.get? a=some { cls:=.type "list",data:=.seq vs.toArray }) (hi:IntsAre vs ns) (hl:ns.length<=Af) (hr:Room k BU)
  (F:∀ base:Ao,K.In base->base.Ns Ai mg->FnOk P w K mg base CX k fa fd [x] sp) (GY:∀(s:Ae) (u:Ab),BS s fd ⟨[u],[]⟩ [(x,u)])
  (EQ:∀ H:Hp,Only H->SqL K H a (ns.map V.int)->sp [.ref a] H (fun v _=>v=.bl true) fun _ _ _=>False)
  (Iy:∀ H e s',CX [] H s₁ (fun _ _ _=>False) e s'->False) :
  codeAny (Aj P w) BU (.call (.ref fa) ⟨[.ref a],[]⟩) (fun r s'=>r=.ok (.ret (.bool true))/\OldK s₁.heap s'.heap/\s'.os=s₁.os/\Bw s'.gens) s₁:=by
 have rv:=VO hi
 have lenV:=hi.length
 -- from an abstract heap in which nothing but the script may be tracked
 have core:∀ H:Hp,Only H->SqL K H a (ns.map V.int)->HOk P w H s₁.heap->(∀ b,H b≠none->b=a)->(H a≠none->K.lookup a=none) ->
   codeAny (Aj P w) BU (.call (.ref fa) ⟨[.ref a],[]⟩) (fun r s'=>r=.ok (.ret (.bool true))/\OldK s₁.heap s'.heap/\s'.os=s₁.os/\Bw s'.gens) s₁:=by
  intro H hO hS hok hA hK
  have base_of:∀{b:Ac}{o:Obj},s₁.heap.get? b=some o->H b=none->(hidT s₁.heap H).get? b=some o:=fun e n=>bz e n
  have noA:∀{b:Ac}{o:Obj}{es:Array DictEntry}{ep:Nat},s₁.heap.get? b=some o->o.data=.dict es ep->H b=none:=fun{b o es ep} e d=>by
   cases q:H b with
   | none=>rfl
   | some u =>
    have e':b=a:=hA b (by rw[q];simp)
    subst e'
    rw[ha] at e;cases e
    have d':Data.seq vs.toArray _=Data.dict es ep:=d
    cases d'
  have nsK:∀{b:Ac}{m:Str->Option Ab},s₁.heap.Ns b m->(hidT s₁.heap H).Ns b m:=fun{b m} ⟨o,es,ep,e,d,r⟩=>⟨o,es,ep,base_of e (noA e d),d,r⟩
  have JJ:K.In (hidT s₁.heap H):=fun b o e=>base_of (KX b o e) (by
   cases q:H b with
   | none=>rfl
   | some u =>
    have e':b=a:=hA b (by rw[q];simp)
    subst e'
    rw[hK (by rw[q];simp)] at e;cases e)
  have hM:Mod K mg (hidT s₁.heap H):=⟨JJ,nsK Eh,⟨mb,nsK hb,KA⟩,let ⟨mc,h1,h2⟩:=Ix;⟨mc,nsK h1,h2⟩⟩
  have e0:Env0 P w K mg (hidT s₁.heap H) BU [] s₁ H:=⟨rfl,hM,fun b o e=>of_hidT e,aU (bx _ _),trivial,fun b hb=>absurd (show b∈([]:List Ac) from hb) (by simp),hok,.of_eq hg⟩
  refine Bb ((F _ JJ (nsK Eh)).run BU [] s₁ H ⟨[.ref a],[]⟩ [.ref a] [.ref a] _ _ hr e0 (GY s₁ (.ref a)) (.cons rfl .nil) (EQ H hO hS)) fun r s' h=>?_
  cases r with
  | error e=>exact(Iy H e s' h).elim
  | ok fl =>
   cases fl with
   | next=>exact ON h
   | brk=>exact ON h
   | cont=>exact ON h
   | ret u =>
    obtain⟨v,H',os,bare,un,hok',r',q⟩:=h
    have q':v=.bl true:=q
    subst q'
    obtain rfl:u=Value.bool true:=r'
    refine⟨rfl,OldK.of_keep fun b o e=>?_,os,bare⟩
    cases q:H b with
    | none=>exact un.keep b o e q (by intro z;exact absurd (show b∈([]:List Ac) from z) (by simp)) (by simp)
    | some u =>
     rcases hO b with z | ⟨ob,xs,z⟩
     ·rw[q] at z;cases z
     ·have z2:=un.frzs b ob _ z
      obtain⟨e1,_⟩:=hok b _ z
      obtain⟨e2,_⟩:=hok' b _ z2
      rw[e] at e1;cases e1
      exact e2
 cases hk:K.lookup a with
 | some o =>
  -- the script is one of the module's own objects
  have e:=KX a o hk
  rw[ha] at e
  cases e
  refine core (fun _=>none) (fun _=>.inl rfl) (.inr ⟨_,vs.toArray,_,hk,rfl,rfl,rfl,by rw[Mu,lenV];exact hl,by simpa using rv⟩) (fun b u z=>by have z':(none:Option HO)=some u:=z;cases z') (fun b z=>absurd rfl z) fun z=>absurd rfl z
 | none =>
  refine core (fun b=>if b=a then some (.frz { cls:=.type "list",data:=.seq vs.toArray } (.lst (ns.map V.int))) else none) (fun b=>?_) (.inl (.inr ⟨{ cls:=.type "list",data:=.seq vs.toArray },B4 rfl⟩)) (fun b u z=>?_) (fun b z=>?_) fun _=>hk
  ·by_cases hb:b=a
   ·exact .inr ⟨_,_,B4 hb⟩
   ·exact .inl (B3 hb)
  ·by_cases hb:b=a
   ·have z':=(B4 hb).symm.trans z
    cases z'
    subst hb
    exact⟨ha,by rw[LP];exact hl,vs,_,rv,ha⟩
   ·have z':=(B3 hb).symm.trans z
    cases z'
  ·by_cases hb:b=a
   ·exact hb
   ·exact absurd (B3 hb) z
theorem VQ {l:aN}{n k:Nat}{q:Ag}{loose:List Str}{XP:(Str->Option Ab)->Ao->Prop}{YP:Ak->Ao->Prop}{d:DefRec}{K:Params->LR}{CX:Ak->CXT}{sp:Ak->Sp}{x:Str}
  (hn:l.most=some n) (F8:n<=Af) (GX:d.params.defaults=[]) (hr:Room k BU)
  (hY:∀(w:Ak) (h:Ao),YP w h->(K w.params).In h)
  (F:∀(w:Ak) (mg:Str->Option Ab) (fa:Ac) (h:Ao),(K w.params).In h->h.Ns Ai mg->mg d.name=some (.ref fa) ->
   ∃ fd:AB,(∀(s:Ae) (u:Ab),BS s fd ⟨[u],[]⟩ [(x,u)]) /\
    ∀ base:Ao,(K w.params).In base->base.Ns Ai mg->FnOk l.prog w (K w.params) mg base (CX w) k fa fd [x] (sp w))
  (EQ:∀(w:Ak) (H:Hp) (a:Ac) (ns:List Int),ns.length<=n->Only H->SqL (K w.params) H a (ns.map V.int)->sp w [.ref a] H (fun v _=>v=.bl true) fun _ _ _=>False)
  (Iy:∀(w:Ak) (H:Hp) (s:Ae) (e:Ab) (s':Ae),CX w [] H s (fun _ _ _=>False) e s'->False) :
  PySem.W.WalkO q loose XP YP l.row.toRowW d [] (fun f vs=>PySem.call f vs):=by
 refine Att.attach_call hn GX fun w s₀ s₁ mg mb fa o pm cd doc a vs ns G Y ho hd Ej Gb D3 ET Ca hg=>?_
 have KX:=hY w _ Y
 obtain⟨fd,hb,hF⟩:=F w mg fa _ KX G.T.g Gb
 exact cv KX G.T.g G.T.b G.T.builtins G.T.nolimit hg D3 ET (MX Ca F8) hr hF hb (fun H hO hS=>EQ w H a ns Ca hO hS) fun H e s'=>Iy w H s₁ e s'
end L2
/- THE LAST THEOREM (shape;LID,My.* are yours):
  My.Adr: a structure of the addresses that your layer names (classes,functions);My.Txt K t: a structure (Prop) of the equations over K;
  My.txt_mk:{K}{implicit addresses ..} (e1:nsIn K Ai "law"=some (some (.ref f))) (e2:K.lookup f=some ⟨oc,od,.func (fnOf "law" "law" params body scope dV kV doc pm an cdv ct),sl⟩) (e3:codeIn K cdv "law"=true) ..:∃ t,My.Txt K t
set_option maxRecDepth 100000 in
set_option maxHeartbeats 0 in
theorem PySem.Challenge.cw_LID_holds : PySem.Challenge.rw_LID.Holds := by
 w_on;o_law;k_head;(case hw=>w_witness2)
 k_fill
 refine L2.VQ (l:=PySem.Challenge.rw_LID) (n:=63) (k:=40) (x:="script") (CX:=fun w=>..) (sp:=fun _=>My.sp_law) rfl (by decide) rfl ⟨rfl,by decide,by decide⟩ (fun w h Y=>PySem.W.kIn_of Y) ?F ?S ?C
 case F =>
  intro w mg fa h KX G Gb
  have T:∃ t,My.Txt (L2.KOf KX) t:=by
   dsimp only [L2.KOf]                          -- K must stand as «<heap const> w.params» for k_is
   refine' My.txt_mk ?e1 ?e2 ?e3 ..
   (case e1=>PySem.W.k_is)                    -- in the order: a name -> its address -> its object -> its parts
   (case e2=>PySem.W.k_is)
   ..
  obtain⟨t,T⟩:=T
  have e0:=Gb.symm.trans (OH KX G T.law)
  cases e0                                       -- fa is the law's own address
  exact⟨_,fun s u=>.of_eq rfl,fun base kb nb=>My.law_fn T kb nb⟩     -- if «.of_eq rfl» comes too early: refine' ⟨_,?b,fun base kb nb=>My.law_fn T kb nb⟩;exact fun s u=>.of_eq rfl
 case S=>exact fun w H a ns hl hO hS=>..
 case C=>exact ..
(the tactic k_is has no namespace: write k_is) -/
namespace L2
open PySem PySem.Spec PyProof.Rows
noncomputable def N3 (s:Au)(j:Nat):Au:=match s with
 | .ClassDef _ _ _ body _ _ _ _ _ _ _=>body.getD j (.Pass ⟨0,0,0,0⟩)
 | _=>.Pass ⟨0,0,0,0⟩
noncomputable def UG (s:Au):Arguments:=match s with
 | .FunctionDef _ a _ _ _ _ _ _ _ _=>a
 | _=>{ posonlyargs:=[],args:=[],vararg:=none,kwonlyargs:=[],kw_defaults:=[],kwarg:=none,defaults:=[] }
noncomputable def RG (s:Au):List Au:=match s with
 | .FunctionDef _ _ b _ _ _ _ _ _ _=>b
 | _=>[]
noncomputable def Oa (s:Au):Bv:=match s with
 | .FunctionDef _ _ _ _ _ _ sc _ _ _=>sc
 | _=>{ kind:=.function,names:=[],isGenerator:=false,isCoroutine:=false }
noncomputable abbrev CX0:CXT:=fun _ _ _ _ _ _=>False
noncomputable abbrev E0:XK:=fun _ _ _=>False
theorem PL :RE CX0 X E0:=fun _ _ _ _ _ _ _ h=>h.elim
structure Fun (K:LR)(x Cj:Str)(st:Au)(f:Ac)(fd:AB):Prop where
 ex:∃(oc:Ab) (od:Option Ac) (kV doc pm:Ab) (an:Option Ac) (cdv ct:Ab) (osl:Array (Option Ab)),
  fd=Rs x Cj (UG st) (RG st) (Oa st) .none kV doc pm an cdv ct/\K.lookup f=some ⟨oc,od,.func fd,osl⟩/\ZH K cdv Cj=true
 kp:OG K (.ref f)=true
section
variable {P:Ag}{w:Ak}{K:LR}{mg:Str->Option Ab}{base:Ao}
theorem Fun.ok {x Cj:Str}{st:Au}{f:Ac}{fd:AB}{N ps:List Str}{k:Nat}{sp:Sp}(F:Fun K x Cj st f fd)(S:FnScope N ps (Oa st))(len:∀ vs H Q E,sp vs H Q E->vs.length=ps.length)
  (D8:∀(cdv:Ab) (A:Ap) (outer:List Env) (s:Ae) (H:Hp) (vs:List V) (Q:VK) (E:XK),Room k (A.deeper (BE Cj (Oa st) s.heap.objs.size f cdv))->sp vs H Q E ->
   ∃ t,PSs (cxOf CX0 P w K mg base N Cj (Oa st) f cdv A outer s H E).nox (RG st) t/\t { nx:=fun _ H'=>Q .non H',rt:=Q } (N_ N vs) H):FnOk P w K mg base CX0 (k+1) f fd ps sp:=by
 obtain⟨oc,od,kV,doc,pm,an,cdv,ct,osl,rfl,lk,Ej⟩:=F.ex
 refine fn_of lk Ej S len fun A outer s H vs Q E hr EQ=>?_
 obtain⟨t,h,q⟩:=D8 cdv A outer s H vs Q E hr EQ
 exact⟨t,h.nox,q⟩
theorem Fun.binds {x Cj:Str}{st:Au}{f:Ac}{fd:AB}{ps:List Str}(F:Fun K x Cj st f fd)
  (h:∀(kV doc pm:Ab) (an:Option Ac) (cdv ct:Ab) (us:List Ab),us.length=ps.length->bindArgs (Rs x Cj (UG st) (RG st) (Oa st) .none kV doc pm an cdv ct) ⟨us,[]⟩=pure (ps.zip us)):Binds K fd ps []:=by
 obtain⟨oc,od,kV,doc,pm,an,cdv,ct,osl,rfl,lk,Ej⟩:=F.ex
 exact .all (h kV doc pm an cdv ct)
theorem Sh {x Cj:Str}{st:Au}{f:Ac}{oc:Ab}{od an:Option Ac}{osl:Array (Option Ab)}{kV doc pm cdv ct:Ab}(l:K.lookup f=some ⟨oc,od,.func (Rs x Cj (UG st) (RG st) (Oa st) .none kV doc pm an cdv ct),osl⟩)
  (c:ZH K cdv Cj=true) (k:OG K (.ref f)=true):Fun K x Cj st f (Rs x Cj (UG st) (RG st) (Oa st) .none kV doc pm an cdv ct):=⟨⟨oc,od,kV,doc,pm,an,cdv,ct,osl,rfl,l,c⟩,k⟩
end
theorem Pi (hr:Room k A):A.units+1 < AR:=Qv (Nat.add_le_add_left (by decide:1<=64) _) hr.units
section
variable {X:Cx}
theorem pv (i:Nat) (hN:X.N[i]?=some x:=by rfl) (hv:Vis X.env.scope x:=by first | exact Or.inl rfl | exact Or.inr (Or.inl rfl) | exact Or.inr (Or.inr rfl)) (hd:(x == ("__debug__":Str))=false:=by decide) (Ej:(x == ("__classdict__":Str))=false:=by decide):PE X (.Name x pos) (tVar i):=pe_var hN hv hd Ej
end
theorem iteF {A B:Prop}(h:B):if false=true then A else B:=by
 rw[B3 Mj]
 exact h
theorem iteT {A B:Prop}(h:A):if true=true then A else B:=by
 rw[B4 rfl]
 exact h
def Same (H H':Hp):Prop:=∀ b o,H b=some o->H' b=some o
theorem Same.refl (H:Hp):Same H H:=fun _ _ h=>h
theorem Same.trans (a:Same H H1) (b:Same H1 H2):Same H H2:=fun c o h=>b c o (a c o h)
theorem Same.free (e:Same H H') (h:H' l=Option.none):H l=Option.none:=by
 cases q:H l with
 | none=>rfl
 | some o =>
  rw[e l o q] at h
  cases h
theorem Same.seq {K:LR}{H H':Hp}{a:Ac}{xs:List V}(e:Same H H')(h:SqL K H a xs):SqL K H' a xs:=by
 rcases h with (h | ⟨o,h⟩) | h
 ·exact .inl (.inl (e _ _ h))
 ·exact .inl (.inr ⟨o,e _ _ h⟩)
 ·exact .inr h
end L2
namespace L2
open PySem
noncomputable def clTo (cells:List (Str×Ac)):List (Str×A1)->List (Str×Ac)->List (Str×Ac)
 | [],B6=>B6
 | (n,k)::r,B6=>if k == .free then clTo cells r ((n,(cells.lookup n).getD 0)::B6) else clTo cells r B6
theorem cw (h:∀ y∈scope.names,y.2=.free->∃ c,env.cells.lookup y.1=some c):
  closureFor scope env=pure (clTo env.cells scope.names []):=by
 simp only[closureFor]
 generalize ([]:List (Str×Ac))=B6
 revert h
 generalize scope.names=l
 intro h
 have key:∀(l:List (Str×A1)) (B6:List (Str×Ac)),(∀ y∈l,y.2=.free->∃ c,env.cells.lookup y.1=some c) ->
   (forIn l B6 (fun x r=>if (x.snd == NameKind.free)=true then do
      let a <- cellOf env x.fst
      pure (ForInStep.yield ((x.fst,a)::r)) else pure (ForInStep.yield r)):Sem _)=pure (clTo env.cells l B6):=by
  intro l
  induction l with
  | nil=>intro B6 _;rfl
  | cons y l ih =>
   intro B6 h
   obtain⟨n,k⟩:=y
   rw[Qe]
   have hr:=fun y hy=>h y (Mp _ hy)
   by_cases hk:(k == NameKind.free)=true
   ·obtain⟨c,hc⟩:=h (n,k) Mn (by simpa using hk)
    have hc':env.cells.lookup n=some c:=hc
    have e1:cellOf env n=pure c:=by unfold cellOf;rw[hc']
    simp only[hk,if_true,e1,clTo,hc',Ps,pure_bind]
    exact ih _ hr
   ·simp only[Uo] at hk
    simp only[hk,Um,if_false,clTo,pure_bind]
    exact ih _ hr
 rw[key l B6 h]
 rfl
theorem Z5 {cells:List (Str×Ac)}{x:Str}:∀(l:List (Str×A1)) (B6:List (Str×Ac)),((x,NameKind.free)∈l∨B6.lookup x=some ((cells.lookup x).getD 0)) ->
  (clTo cells l B6).lookup x=some ((cells.lookup x).getD 0)
 | [],B6,h=>by
  rcases h with h | h
  ·cases h
  ·exact h
 | (n,k)::r,B6,h=>by
  unfold clTo
  by_cases hk:(k == NameKind.free)=true
  ·rw[B4 hk]
   refine Z5 r _ ?_
   by_cases e:x=n
   ·subst e;right;simp
   ·rcases h with h | h
    ·left
     rcases Mc.mp h with h | h
     ·injection h with h1 _;exact absurd h1 e
     ·exact h
    ·right
     rw[OB,beq_eq_false_iff_ne.mpr e];exact h
  ·rw[B3 hk]
   refine Z5 r _ ?_
   rcases h with h | h
   ·left
    rcases Mc.mp h with h | h
    ·injection h with _ h2;rw[<- h2] at hk;exact absurd rfl hk
    ·exact h
   ·exact .inr h
theorem Sj {cells:List (Str×Ac)}{x:Str}{c:Ac}:∀(l:List (Str×A1)) (B6:List (Str×Ac)),(clTo cells l B6).lookup x=some c ->
  B6.lookup x=some c∨((x,NameKind.free)∈l/\c=(cells.lookup x).getD 0)
 | [],B6,h=>.inl h
 | (n,k)::r,B6,h=>by
  unfold clTo at h
  by_cases hk:(k == NameKind.free)=true
  ·rw[B4 hk] at h
   rcases Sj r _ h with q | ⟨q1,q2⟩
   ·by_cases e:x=n
    ·subst e
     rw[OB,beq_self_eq_true] at q
     have hk':k=.free:=by simpa using hk
     subst hk'
     exact .inr ⟨Mn,(Option.some.inj q).symm⟩
    ·rw[OB,beq_eq_false_iff_ne.mpr e] at q
     exact .inl q
   ·exact .inr ⟨Mp _ q1,q2⟩
  ·rw[B3 hk] at h
   rcases Sj r _ h with q | ⟨q1,q2⟩
   ·exact .inl q
   ·exact .inr ⟨Mp _ q1,q2⟩
section
variable {prog:Ag}{w:Ak}{A:Ap}
 {R:Result->Ae->Prop}{s:Ae}
theorem cy (hM:M=Aj prog w) (I:Nat->Ae->Prop) (turn:∀ n s,I n s->wpAny M A (A_ it) (fun r z₁=>match r with
   | none=>R (.ok .next) z₁
   | some v=>wpAny M A (Bo target it v) (fun _ z₀=>wpAny M A (assign target env v) (fun _ z₂ =>
     wpAny M A (forIn ifs true fun c r=>if r=true then do let ok <- isTrue c env (Ax c env);pure (ForInStep.yield ok) else pure (ForInStep.yield r)) (fun ok z₃ =>
      if ok=true then wpAny M A (Ax elt env) (fun x z₄ =>
       wpAny M A (call (.builtin "list.append") [B6,x]) (fun _ z₅=>∃ m,m < n/\I m z₅) (notedBy M A env fun e s'=>R (.error e) s') z₄) (notedBy M A env fun e s'=>R (.error e) s') z₃
      else ∃ m,m < n/\I m z₃) (notedBy M A env fun e s'=>R (.error e) s') z₂) (notedBy M A env fun e s'=>R (.error e) s') z₀) (notedBy M A env fun e s'=>R (.error e) s') z₁) (notedBy M A env fun e s'=>R (.error e) s') s) (n:Nat) (h:I n s):
  codeAny M A (.compLoop (.ListComp elt [⟨target,iter,ifs,0⟩] scope pos) 0 it B6 env) R s:=by
 subst hM
 refine codeAny_loop rfl I (fun k z hz=>?_) n h
 show wpAny _ A (Sem.onRaise (compTurn (.ListComp elt [⟨target,iter,ifs,0⟩] scope pos) 0 it B6 env) _) _ _ z
 rw[compTurn_list]
 refine wpAny_noted (Aa (Bl (Aa (Az (turn k z hz) (fun r z1 g1=>?_) fun _ _ e=>e))))
 match r,g1 with
 | none,g1=>exact Ad g1
 | some v,g1 =>
  refine Aa (Az g1 (fun _ z2 g2=>Aa (Az g2 (fun _ z3 g3=>Aa (Az g3 (fun b z4 g4=>?_) fun _ _ e=>e)) fun _ _ e=>e)) fun _ _ e=>e)
  match b,g4 with
  | false,g4=>exact Ad ⟨rfl,g4⟩
  | true,g4 =>
   refine Aa (Aa (Az g4 (fun y z5 g5=>Aa (Az g5 (fun _ z6 g6=>?_) fun _ _ e=>e)) fun _ _ e=>e))
   exact Ad (Ad ⟨rfl,g6⟩)
end
end L2
namespace L2
open PySem PySem.Spec PyProof.Rows
noncomputable def Sk (σ:St):Option Nat->Option V
 | none=>none
 | some j=>match σ[j]? with
  | some (some v)=>some v
  | _=>none
noncomputable def pick (ix:List (Option Nat))(σ:St):St:=ix.map (Sk σ)
theorem cz {i:Nat} (h:(pick ix σ)[i]?=some (some v)):∃ j,ix[i]?=some (some j)/\σ[j]?=some (some v):=by
 unfold pick at h
 rw[Ma] at h
 cases e:ix[i]? with
 | none=>rw[e] at h;cases h
 | some o =>
  rw[e] at h
  have h':Sk σ o=some v:=Option.some.inj h
  cases o with
  | none=>cases h'
  | some j =>
   refine⟨j,rfl,?_⟩
   unfold Sk at h'
   dsimp only at h'
   split at h'
   ·rename_i q;rw[q,h']
   ·cases h'
noncomputable def NM (X:Cx)(B5:List (Ac×Obj))(scope:Bv)(N':List Str)(fp:List Ac)(s3:Ae)(H3:Hp):Cx where
 prog:=X.prog
 w:=X.w
 K:=X.K
 mg:=X.mg
 base:=X.base
 A:=X.A
 N:=N'
 s₀:=s3
 H₀:=H3
 env:=compEnvC scope (clTo X.env.cells scope.names []) s3.heap.objs.size X.env
 outer:=X.stack
 stack:=X.stack
 ex:=fp
 fn:=fun _=>false
 calm:=X.calm
 pn:=X.pn++B5
 xe:=fun _ _=>False
noncomputable def N4 (names:List (Str×A1))(N:List Str):List (Option Nat)->List Str->Bool
 | [],[]=>true
 | none::r,_::q=>N4 names N r q
 | some j::r,x::q=>N[j]? == some x&&names.lookup x == some .free&&N4 names N r q
 | _,_=>false
noncomputable def PM (sc:Bv)(N:List Str)(scope:Bv)(N':List Str)(ix:List (Option Nat)):Bool :=
 scope.names.all (fun y=>y.2 != .cell)&&scope.names.all (fun y=>y.2 != .local || scope.names.lookup y.1 == some .local)
  && scope.names.all (fun y=>y.2 != .free || (sc.names.lookup y.1 == some .cell || sc.names.lookup y.1 == some .free))&&N4 scope.names N ix N'
theorem Sl {names:List (Str×A1)}{N:List Str}:∀{ix:List (Option Nat)}{N':List Str},N4 names N ix N'=true->ix.length=N'.length
 | [],[],_=>rfl
 | none::r,_::q,h=>by simp only[N4] at h;simp[Sl h]
 | some j::r,x::q,h=>by simp only[N4,Nn] at h;simp[Sl h.2]
 | [],_::_,h=>by simp[N4] at h
 | none::_,[],h=>by simp[N4] at h
 | some _::_,[],h=>by simp[N4] at h
theorem Sn {names:List (Str×A1)}{N:List Str}:∀{ix:List (Option Nat)}{N':List Str}{i j:Nat}{x:Str},N4 names N ix N'=true->ix[i]?=some (some j)->N'[i]?=some x ->
  N[j]?=some x/\names.lookup x=some .free
 | [],[],_,_,_,_,e,_=>by simp at e
 | none::r,_::q,0,_,_,_,e,_=>by simp at e
 | none::r,_::q,i+1,_,_,h,e,e'=>by
  simp only[N4] at h
  exact Sn h (by simpa using e) (by simpa using e')
 | some j::r,x::q,0,_,_,h,e,e'=>by
  simp only[N4,Nn] at h
  simp at e e'
  subst e;subst e'
  exact⟨by simpa using h.1.1,by simpa using h.1.2⟩
 | some j::r,x::q,i+1,_,_,h,e,e'=>by
  simp only[N4,Nn] at h
  exact Sn h.2 (by simpa using e) (by simpa using e')
 | [],_::_,_,_,_,h,_,_=>by simp[N4] at h
 | none::_,[],_,_,_,h,_,_=>by simp[N4] at h
 | some _::_,[],_,_,_,h,_,_=>by simp[N4] at h
theorem mem_of_lookup {α β:Type} [BEq α] [LawfulBEq α]{x:α}{k:β}:∀{l:List (α×β)},l.lookup x=some k->(x,k)∈l
 | [],h=>by cases h
 | (n,k')::r,h=>by
  rw[OB] at h
  by_cases e:x == n
  ·rw[e] at h
   have e':x=n:=by simpa using e
   cases h
   rw[e'];exact Mn
  ·have e':(x == n)=false:=by simpa using e
   rw[e'] at h
   exact Mp _ (mem_of_lookup h)
theorem cA {env:Env}{x:Str}{k:A1}:∀{names:List (Str×A1)},(∀ y∈names,y.2≠.cell) ->
  (names.map fun(n,k)=>if (k == NameKind.free&&env.scope.kind == .function&&env.kindOf n == some .cell) then (n,NameKind.cell) else (n,k)).lookup x=some k->(k=.cell∨k=.free)->(x,NameKind.free)∈names
 | [],_,h,_=>by cases h
 | (n,k')::r,hc,h,hk=>by
  rw[L'] at h
  have hc':=fun y hy=>hc y (Mp _ hy)
  have hk':k'≠.cell:=hc (n,k') Mn
  by_cases e:x=n
  ·subst e
   dsimp only at h
   split at h
   ·rename_i q
    rw[OB,beq_self_eq_true] at h
    have:k'=.free:=by simp only[Nn] at q;simpa using q.1.1
    subst this;exact Mn
   ·rw[OB,beq_self_eq_true] at h
    have Iz:k'=k:=Option.some.inj h
    subst Iz
    rcases hk with z | z
    ·exact absurd z hk'
    ·subst z;exact Mn
  ·have e':(x == n)=false:=beq_eq_false_iff_ne.mpr e
   refine Mp _ (cA (env:=env) hc' ?_ hk)
   dsimp only at h
   split at h
   ·rw[OB,e'] at h;exact h
   ·rw[OB,e'] at h;exact h
theorem cB {env:Env}{x:Str}:∀{names:List (Str×A1)},names.lookup x=some .free ->
  (names.map fun(n,k)=>if (k == NameKind.free&&env.scope.kind == .function&&env.kindOf n == some .cell) then (n,NameKind.cell) else (n,k)).lookup x=some .cell ∨
  (names.map fun(n,k)=>if (k == NameKind.free&&env.scope.kind == .function&&env.kindOf n == some .cell) then (n,NameKind.cell) else (n,k)).lookup x=some .free
 | [],h=>by cases h
 | (n,k')::r,h=>by
  rw[L']
  rw[OB] at h
  by_cases e:x=n
  ·subst e
   rw[beq_self_eq_true] at h
   have hk:k'=.free:=Option.some.inj h
   subst hk
   dsimp only
   split
   ·left;rw[OB,beq_self_eq_true]
   ·right;rw[OB,beq_self_eq_true]
  ·have e':(x == n)=false:=beq_eq_false_iff_ne.mpr e
   rw[e'] at h
   dsimp only
   split
   ·rw[OB,e'];exact cB h
   ·rw[OB,e'];exact cB h
structure CompFacts (X:Cx)(scope:Bv)(N':List Str)(ix:List (Option Nat)):Prop where
 nocell:∀ y∈scope.names,y.2≠.cell
 names:∀ y∈scope.names,y.2=.local->scope.names.lookup y.1=some .local
 free:∀ x,(x,NameKind.free)∈scope.names->X.env.kindOf x=some .cell∨X.env.kindOf x=some .free
 len:ix.length=N'.length
 link:∀{i j:Nat}{x:Str},ix[i]?=some (some j)->N'[i]?=some x->X.N[j]?=some x/\scope.names.lookup x=some .free
theorem cC (h:PM X.env.scope X.N scope N' ix=true):CompFacts X scope N' ix:=by
 simp only[PM,Nn,Qd] at h
 obtain⟨⟨⟨h1,h2⟩,h3⟩,h4⟩:=h
 refine⟨fun y hy=>by simpa using h1 y hy,fun y hy e=>?_,fun x hx=>?_,Sl h4,fun e e'=>Sn h4 e e'⟩
 ·have q:=h2 y hy
  rw[e] at q
  simpa using q
 ·have q:=h3 _ hx
  have q':X.env.scope.names.lookup x=some .cell∨X.env.scope.names.lookup x=some .free:=by simpa using q
  exact q'
section
variable {X:Cx}{B5:List (Ac×Obj)}{σ:St}{H H':Hp}{s s':Ae}{scope:Bv}{N':List Str}{ix:List (Option Nat)}{fp:List Ac}
theorem FpOk.stk (I:Inv X B5 σ H s) (f:FpOk X B5 H b):b∉frs X.stack:=fun z=>by
 rcases Mc.mp (I.stkSub b z) with q | q
 ·exact f.2.1 q
 ·exact f.2.2.1 q
theorem UH (I:Inv X B5 σ H s) (F:CompFacts X scope N' ix) (h:(clTo X.env.cells scope.names []).lookup x=some c):X.env.cells.lookup x=some c/\(x,NameKind.free)∈scope.names:=by
 rcases Sj _ _ h with q | ⟨q1,q2⟩
 ·cases q
 ·obtain⟨c',e⟩:=I.ok.has x (F.free x q1)
  rw[e] at q2
  exact⟨by rw[e,q2];rfl,q1⟩
theorem ok_comp (I:Inv X B5 σ H s)(F:CompFacts X scope N' ix)(hk:scope.kind=.function)(hf:∀ b∈fp,FpOk X B5 H b)(ho:∀ b∈fp,∃ o,s.heap.get? b=some o):(NM X B5 scope N' fp s H).Ok where
 mod:=I.ok.mod
 kind:=hk
 glob:=I.ok.glob
 blt:=I.ok.blt
 above:=LZ _
 inj:=fun x y c e1 e2=>I.ok.inj x y c (UH I F e1).1 (UH I F e2).1
 has:=fun x hx=>by
  have q:(x,NameKind.free)∈scope.names:=by
   rcases hx with z | z
   ·exact cA F.nocell z (.inl rfl)
   ·exact cA F.nocell z (.inr rfl)
  exact⟨_,Z5 _ _ (.inl q)⟩
 cab:=fun x c e=>by cases e
 hd:=I.ok.hd
 frames:=I.ok.frames
 stk:=.inl rfl
 exf:=fun b hb=>by
  obtain⟨o,e⟩:=ho b hb
  exact⟨MI (Mh e),fun x c q=>(hf b hb).2.2.2.2.1 x c (UH I F q).1⟩
 bs:=fun b o e=>I.bs b o e
 bsz:=MX I.ok.bsz I.sz
 noex:=fun b o e hb=>by
  rcases (hf b hb).2.2.2.1 with z | z
  ·exact I.ok.noex b o e z
  ·exact absurd (NA (Mh (I.ok.bs b o e).1) z) (R3 _)
 exfs:=fun b hb=>FpOk.stk I (hf b hb)
 funs:=I.stack
 frf:=I.stkFree
theorem cE (I:Inv X B5 σ H s) (F:CompFacts X scope N' ix) (hk:scope.kind=.function) (hf:∀ b∈fp,FpOk X B5 H b) (ho:∀ b∈fp,∃ o,s.heap.get? b=some o) (hn:h'.Ns s.heap.objs.size m) (hs:OF s.heap.objs.size (s.heap.push ob) h'):
  Inv (NM X B5 scope N' fp s H) [] (pick ix σ) H { s with heap:=h',toks:=t }:=by
 have k:∀ b u,s.heap.get? b=some u->h'.get? b=some u:=fun b u e =>
  (hs.2 b (MI (Mh e))).trans (L1 _ e)
 refine⟨ok_comp I F hk hf ho,rfl,I.bare,Un.kept k,⟨m,hn,fun i x v e1 e2 e3=>?_⟩,fun x c e=>?_,I.fresh,fun x c e=>?_,fun p hp=>?_,I.hok.kept k,?_⟩
 ·obtain⟨j,ej,ev⟩:=cz e2
  obtain⟨l1,l2⟩:=F.link ej e1
  have fr:(x,NameKind.free)∈scope.names:=mem_of_lookup l2
  obtain⟨m0,HV,hl⟩:=I.loc
  have vis:Vis X.env.scope x:=.inr (F.free x fr)
  obtain⟨u,r,l⟩:=hl j x v l1 ev vis
  refine⟨u,r,.inr ⟨cB l2,?_⟩⟩
  rcases l with ⟨l,_⟩ | ⟨_,c,e,z⟩
  ·rcases F.free x fr with q | q
   ·rw[q] at l;cases l
   ·rw[q] at l;cases l
  ·refine⟨c,?_,z.keeps k⟩
   show (clTo X.env.cells scope.names []).lookup x=some c
   rw[Z5 _ _ (.inl fr),e];rfl
 ·obtain⟨v,z⟩:=I.cell x c (UH I F e).1
  exact⟨v,z.keeps k⟩
 ·exact I.freeC x c (UH I F e).1
 ·have hp':p∈X.pn++B5:=by
   have z:p∈(X.pn++B5)++[]:=hp
   rwa [OD] at z
  obtain⟨e,n,ne,nf,d⟩:=I.pin p hp'
  refine⟨k _ _ e,n,MI (Mh e),fun z=>?_,d⟩
  rcases Mc.mp (I.stkSub p.1 z) with q | q
  ·exact ne q
  ·exact nf q
 ·show (pick ix σ).length=N'.length
  unfold pick;rw[LP];exact F.len
theorem HOk.sameBut (ok:HOk P w H h) (hn:H a=none) (hs:OF a h h'):HOk P w H h':=fun b ob e=>by
 refine(ok b ob e).stay (fun c w' hc q=>(hs.2 c ?_).trans q) (fun _ q=>q) fun _ _ q=>q
 rintro rfl
 rcases hc with rfl | hc
 ·rw[hn] at e;cases e
 ·rw[hn] at hc;cases hc
theorem cF (I:Inv X B5 σ H s) (hf:∀ b∈fp,FpOk X B5 H b) (I':Inv (NM X B5 scope N' fp s H) ps σ' H' s') (hs:OF s.heap.objs.size s'.heap h'):
  Inv X B5 σ H' { s' with heap:=h' }:=by
 have bk:∀{b o o'},s.heap.get? b=some o->s'.heap.get? b=some o'->h'.get? b=some o':=fun{b o o'} e e'=>(hs.2 b (MI (Mh e))).trans e'
 refine I.call' (s':={ s' with heap:=h' }) (ch:=fp) I'.os ⟨fun b o e n hb hx=>?_,fun b o e n hb hx=>?_,I'.base.free,fun b o e hx=>?_,I'.base.tups,I'.base.frzs,I'.base.tbls⟩ (I'.hok.sameBut I'.free hs) I'.bare fun b hb=>⟨(hf b hb).2.2.2.1,(hf b hb).2.1,(hf b hb).2.2.2.2.1,(hf b hb).2.2.2.2.2⟩
 ·exact bk e (I'.base.keep b o e n hb hx)
 ·obtain⟨sl,q⟩:=I'.base.slot b o e n hb hx
  exact⟨sl,bk e q⟩
 ·obtain⟨o',q⟩:=I'.base.there b o e hx
  exact⟨o',bk e q⟩
end
noncomputable def PTs (X:Cx)(ifs:List Ay)(t:TT):Prop :=
 ∀(B5:List (Ac×Obj)) (s:Ae) (σ:St) (H:Hp) (Q:Bool->Hp->Prop),Inv X B5 σ H s->t σ H Q ->
  wpAny (Aj X.prog X.w) X.A (forIn ifs true fun c r=>if r=true then do let ok <- isTrue c X.env (Ax c X.env);pure (ForInStep.yield ok) else pure (ForInStep.yield r)) (TP X B5 σ Q) X.xe s
def tTrue:TT:=fun _ H Q=>Q true H
theorem Nq :PTs X [] tTrue:=fun _ _ _ H _ I h=>wpAny_tests_nil ⟨H,I,h⟩
theorem RH (h:PT X c t):PTs X [c] t:=fun B5 s σ H Q I q=>wpAny_tests_one (h B5 s σ H Q I q)
noncomputable def QG (J:It)(p:Ac)(g:TG)(tc:TT)(te:TE)(Q:VK)(σ0:St)(H0:Hp):Prop :=
 ∃ W:Nat->Nat->List V->St->Hp->Prop,(∃ m,W 0 m [] σ0 H0)/\∀ i m B6 σ' H',W i m B6 σ' H'->H' p=some (.lst B6) /\
  ((J.stop i H'/\Q (.ref p) H')∨(J.go i H'/\B6.length < Af/\∃ N:List V->St->Hp->Prop,(∀ a' σ3 H3,N a' σ3 H3->∃ m',m' < m/\W (i+1) m' a' σ3 H3) /\
   ∀ x H2,J.yld i H' x H2->g x σ' H2 fun σ3 H3=>tc σ3 H3 fun b H4 =>
    if b=true then te σ3 H4 fun v H5=>H5 p=some (.lst B6)/\N (B6++[v]) σ3 (upd H5 p (.lst (B6++[v]))) else N B6 σ3 H4))
def QH (ix:List (Option Nat))(wi:TI)(g:TG)(tc:TT)(te:TE):TE:=fun σ H Q=>wi σ H fun J H1=>∀ p,H1 p=none->QG J p g tc te Q (pick ix σ) (upd H1 p (.lst []))
section
variable {X:Cx}{elt tg iter:Ay}{ifs:List Ay}{scope:Bv}{pos:Pos}{N':List Str}{ix:List (Option Nat)}{wi:TI}{g:TG}{tc:TT}{te:TE}
theorem VR (hc:X.calm=true) (ok:PM X.env.scope X.N scope N' ix=true) (hk:scope.kind=.function) (hi:PI X tg iter wi) (hg:∀ B5 fp s3 H3,PG (NM X B5 scope N' fp s3 H3) tg g) (ht:∀ B5 fp s3 H3,PTs (NM X B5 scope N' fp s3 H3) ifs tc) (he:∀ B5 fp s3 H3,PE (NM X B5 scope N' fp s3 H3) elt te) (hs:∀ x,A' iter X.env x=pure x) (I:Inv X B5 σ H s) (h:QH ix wi g tc te σ H Q) (fin:∀(p C:Ac) (H':Hp) (s':Ae),(∃ m,s'.heap.Ns C m)->FpOk X B5 H' C->(∀ h',OF C s'.heap h'->Inv X B5 σ H' { s' with heap:=h' })->Q (.ref p) H'->compPost (Aj X.prog X.w) X.A X.xe use R (.ref p) C (.ok .next) s'):
  wpAny (Aj X.prog X.w) X.A (comprehension (.ListComp elt [⟨tg,iter,ifs,0⟩] scope pos) scope X.env (firstIterPos [⟨tg,iter,ifs,0⟩] pos) (newList []) (firstAsync [⟨tg,iter,ifs,0⟩]) (firstIter [⟨tg,iter,ifs,0⟩] X.env) use) R X.xe s:=by
 have F:=cC ok
 refine wpAny_comprehension_free (cl:=clTo X.env.cells scope.names []) rfl hs (cw fun y hy e=>?_) hk F.names ?_
 ·obtain⟨n,k⟩:=y
  have e':k=.free:=e
  subst e'
  exact I.ok.has n (F.free n hy)
 refine thn (hi B5 s σ H _ I h) fun v s1 h1=>thn h1 fun itv s2 h2=>?_
 obtain⟨it,fp,tn,J,H2,e,I2,T,st2,f2,rd⟩:=h2
 subst e
 refine At ?_
 have hp:=I2.fresh
 obtain⟨W,⟨m0,w0⟩,turn⟩:=rd _ hp
 have I3:=I2.lnew (ys:=[]) (its:=[]) (t':=s2.toks) Paired.nil (MR _)
 have DP:∀ b∈fp,FpOk X B5 (upd H2 s2.heap.objs.size (.lst [])) b:=fun b hb=>by
  obtain⟨o,e,_⟩:=T.obj _ _ st2 b hb
  exact⟨by rw[LU (MI (Mh e))];exact(f2 b hb).1,(f2 b hb).2⟩
 have JK:∀ b∈fp,∃ o,(s2.heap.push { cls:=.type "list",data:=.seq ([]:List Ab).toArray }).get? b=some o:=fun b hb=>by
  obtain⟨o,e,_⟩:=T.obj _ _ st2 b hb
  exact⟨o,L1 _ e⟩
 have hpC:s2.heap.objs.size≠(s2.heap.push { cls:=.type "list",data:=.seq ([]:List Ab).toArray }).objs.size:=by
  rw[NZ];exact MI (Ur _)
 refine wpAny_newFunctionEnv F.nocell (by intro y hy;simp at hy) (fun h4 KB JL=>?_) hk
 have I4:=cE (t:=s2.toks+([]:List (Str×Ab)).length) I3 F hk DP JK KB JL
 have k4:∀ b o,s2.heap.get? b=some o->h4.get? b=some o:=fun b o e =>
  (JL.2 b (MI (NA (Mh e) (by rw[NZ];exact Qw _)))).trans (L1 _ (L1 _ e))
 have st4:tn 0 h4:=T.keep _ _ _ st2 fun b _ o e=>k4 b o e
 have fx:∀{H':Hp}{ps:List (Ac×Obj)},(∀ b∈fp,H' b=none)->(∀ b∈fp,∀ p∈ps,p.1≠b)->∀ b∈fp,FpOk (NM X B5 scope N' fp { s2 with heap:=s2.heap.push { cls:=.type "list",data:=.seq ([]:List Ab).toArray },toks:=s2.toks } (upd H2 s2.heap.objs.size (.lst []))) ps H' b:=fun{H' ps} hn DI b hb=>by
  obtain⟨o,e⟩:=JK b hb
  refine⟨hn b hb,MI (Mh e),FpOk.stk I3 (DP b hb),.inl hb,fun x c q=>(DP b hb).2.2.2.2.1 x c (UH I3 F q).1,fun p hp=>?_⟩
  rcases L7.mp hp with z | z
  ·exact(DP b hb).2.2.2.2.2 p z
  ·exact DI b hb p z
 have loop:codeAny (Aj X.prog X.w) X.A (.compLoop (.ListComp elt [⟨tg,iter,ifs,0⟩] scope pos) 0 (.ref it) (.ref s2.heap.objs.size) (compEnvC scope (clTo X.env.cells scope.names []) (s2.heap.push { cls:=.type "list",data:=.seq ([]:List Ab).toArray }).objs.size X.env))
   (compPost (Aj X.prog X.w) X.A X.xe use R (.ref s2.heap.objs.size) (s2.heap.push { cls:=.type "list",data:=.seq ([]:List Ab).toArray }).objs.size) { s2 with heap:=h4,toks:=s2.toks+([]:List (Str×Ab)).length }:=by
  refine cy rfl (fun n s'=>∃ i B6 σ' H',Inv (NM X B5 scope N' fp { s2 with heap:=s2.heap.push { cls:=.type "list",data:=.seq ([]:List Ab).toArray },toks:=s2.toks } (upd H2 s2.heap.objs.size (.lst []))) [] σ' H' s'/\tn i s'.heap/\(∀ b∈fp,H' b=none)/\W i n B6 σ' H')
   ?_ m0 ⟨0,[],_,_,I4,st4,fun b hb=>(DP b hb).1,w0⟩
  intro n s5 hI9
  obtain⟨i,B6,σ5,H5,I5,st5,fr5,w5⟩:=hI9
  obtain⟨DQ,alt⟩:=turn i n B6 σ5 H5 w5
  rcases alt with ⟨stop,q⟩ | ⟨go,hz,N,hN,step⟩
  ·refine Az (T.done (NM X B5 scope N' fp { s2 with heap:=s2.heap.push { cls:=.type "list",data:=.seq ([]:List Ab).toArray },toks:=s2.toks } (upd H2 s2.heap.objs.size (.lst []))) rfl rfl rfl hc i [] s5 σ5 H5 (fun _ _=>False) I5 (fx (ps:=[]) fr5 (fun _ _ _ z=>nomatch z)) st5 stop) (fun r s6 ⟨hr,I6⟩=>?_) fun _ _ f=>f.elim
   subst hr
   refine fin _ _ H5 s6 ?_ (I3.fpOk (LZ _) I6.free) (fun h' hs'=>cF I3 DP I6 hs') q
   obtain⟨m,hm,_⟩:=I6.loc
   exact⟨m,hm⟩
  ·refine Az (T.item (NM X B5 scope N' fp { s2 with heap:=s2.heap.push { cls:=.type "list",data:=.seq ([]:List Ab).toArray },toks:=s2.toks } (upd H2 s2.heap.objs.size (.lst []))) rfl rfl rfl hc i [] s5 σ5 H5 (fun _ _=>False) I5 (fx (ps:=[]) fr5 (fun _ _ _ z=>nomatch z)) st5 go) (fun r s6 ⟨u,hr,h6⟩=>?_) fun _ _ f=>f.elim
   subst hr
   refine Az h6 (fun _ s7 hI9=>?_) fun _ _ f=>f.elim
   obtain⟨x,H7,I7,r7,y7,st7,fr7⟩:=hI9
   have I7':=I7.pinned (fx (ps:=[]) fr7 (fun _ _ _ z=>nomatch z)) (T.obj _ _ st7)
   refine Az (hg _ _ _ _ _ s7 σ5 H7 x u _ I7' r7 (step x H7 y7)) (fun _ s8 ⟨σ8,H8,I8,q8⟩=>?_) fun _ _ f=>f.elim
   refine Az (ht _ _ _ _ _ s8 σ8 H8 _ I8 q8) (fun b s9 ⟨H9,I9,q9⟩=>?_) fun _ _ f=>f.elim
   have keep:∀{σ':St}{H':Hp}{s':Ae},Inv (NM X B5 scope N' fp { s2 with heap:=s2.heap.push { cls:=.type "list",data:=.seq ([]:List Ab).toArray },toks:=s2.toks } (upd H2 s2.heap.objs.size (.lst []))) ([]++Py fp s7.heap) σ' H' s' ->
     tn (i+1) s'.heap/\∀ b∈fp,H' b=none:=fun{σ' H' s'} I'=>by
    refine⟨T.keep _ _ _ st7 fun b hb o e=>(I'.pin (b,o) (Qc _ (Qc _ (Z4 hb e)))).1,fun b hb=>?_⟩
    obtain⟨o,e,d⟩:=T.obj _ _ st7 b hb
    exact(I'.pin (b,o) (Qc _ (Qc _ (Z4 hb e)))).2.1
   cases b with
   | false =>
    rw[B3 Mj] at q9 ⊢
    obtain⟨m',hm,w9⟩:=hN _ _ _ q9
    exact⟨m',hm,i+1,B6,σ8,H9,I9.unpinned,(keep I9).1,(keep I9).2,w9⟩
   | true =>
    rw[B4 rfl] at q9 ⊢
    refine Az (he _ _ _ _ _ s9 σ8 H9 _ I9 q9) (fun y s10 hI9=>?_) fun _ _ f=>f.elim
    obtain⟨v10,H10,I10,r10,IA,w10⟩:=hI9
    refine Az (VN (X:=(NM X B5 scope N' fp { s2 with heap:=s2.heap.push { cls:=.type "list",data:=.seq ([]:List Ab).toArray },toks:=s2.toks } (upd H2 s2.heap.objs.size (.lst [])))) _ s10 σ8 H10 (.ref s2.heap.objs.size) [v10] (.ref s2.heap.objs.size) [y] (fun _ H'=>N (B6++[v10]) σ8 H') I10 rfl (.cons r10 .nil) ⟨_,B6,v10,rfl,rfl,IA,hz,w10⟩) (fun _ s11 hI9=>?_) fun _ _ f=>f.elim
    obtain⟨_,H11,I11,_,n11⟩:=hI9
    obtain⟨m',hm,w11⟩:=hN _ _ _ n11
    exact⟨m',hm,i+1,B6++[v10],σ8,H11,I11.unpinned,(keep I11).1,(keep I11).2,w11⟩
 exact codeAny_compStart_list loop (T.self X.A 0 _ _ _ st4 loop)
theorem Nl (N':List Str)(ix:List (Option Nat))(hc:X.calm=true)(ok:PM X.env.scope X.N scope N' ix=true)(hk:scope.kind=.function)(hi:PI X tg iter wi)
  (hg:∀ B5 fp s3 H3,PG (NM X B5 scope N' fp s3 H3) tg g) (ht:∀ B5 fp s3 H3,PTs (NM X B5 scope N' fp s3 H3) ifs tc) (he:∀ B5 fp s3 H3,PE (NM X B5 scope N' fp s3 H3) elt te)
  (hs:∀ x,A' iter X.env x=pure x:=by intro _;rfl):PE X (.ListComp elt [⟨tg,iter,ifs,0⟩] scope pos) (QH ix wi g tc te):=by
 intro B5 s σ H Q I h
 rw[eval_ListComp]
 refine VR hc ok hk hi hg ht he hs I h fun p C H' s' hm fC inv q=>?_
 obtain⟨m,hm⟩:=hm
 exact⟨m,hm,fun h' hs'=>⟨.ref p,H',inv h' hs',rfl,q⟩⟩
theorem UI (N':List Str) (ix:List (Option Nat)) (hc:X.calm=true) (ok:PM X.env.scope X.N scope N' ix=true) (hk:scope.kind=.function) (hN:X.N.Nodup) (DV:X.N[i]?=some x) (hx:X.env.scope.names.lookup x=some .local) (hi:PI X tg iter wi) (hg:∀ B5 fp s3 H3,PG (NM X B5 scope N' fp s3 H3) tg g) (ht:∀ B5 fp s3 H3,PTs (NM X B5 scope N' fp s3 H3) ifs tc) (he:∀ B5 fp s3 H3,PE (NM X B5 scope N' fp s3 H3) elt te) (hw:Bh (.ListComp elt [⟨tg,iter,ifs,0⟩] scope pos) (some (.Name x pos')) spos.line X.env=pure true:=by rfl) (hs:∀ x,A' iter X.env x=pure x:=by intro _;rfl):PS X (.Assign [.Name x pos'] (.ListComp elt [⟨tg,iter,ifs,0⟩] scope pos) spos) (tAsg (QH ix wi g tc te) (N7 i)):=by
 intro B5 s σ H D I h
 rw[exec_Assign_Name_used _ _ _ _ hw]
 refine Aa (Bl (Aa ?_))
 show wpAny _ X.A (do let _ <- comprehension (.ListComp elt [⟨tg,iter,ifs,0⟩] scope pos) scope X.env (firstIterPos [⟨tg,iter,ifs,0⟩] pos) (newList []) (firstAsync [⟨tg,iter,ifs,0⟩]) (firstIter [⟨tg,iter,ifs,0⟩] X.env) (some (assign (.Name x pos') X.env))) _ _ s
 refine Aa (thn (VR (R:=fun _ s'=>∃ σ' H',Inv X B5 σ' H' s'/\D.nx σ' H') hc ok hk hi hg ht he hs I h fun p C H' s' hm fC inv q=>?_) fun _ s' ⟨σ',H',I',q⟩=>Ad (Ad ⟨σ',H',I',q⟩))
 have inv0:Inv X B5 σ H' s':=by
  have:=inv s'.heap ⟨rfl,fun _ _=>rfl⟩
  exact this
 obtain⟨m,hm⟩:=hm
 refine wpAny_assign_Name ?_
 refine Vh (v:=.ref p) inv0 hN DV (.inl hx) rfl (fun s'' I'' ⟨a,sb,ha⟩=>?_) (.inr hx)
 have ne:C≠a:=by
  rcases ha with z | z
  ·rw[z];exact fC.2.1
  ·exact fun q=>fC.2.2.2.2.1 x a z q.symm
 refine⟨m,hm.sameBut sb ne,fun h' hs'=>⟨_,H',?_,q⟩⟩
 exact I''.turned (t':=s''.toks) (it:=C) (fun b o hb e=>(hs'.2 b hb).trans e) fC.1 fC.2.1 fC.2.2.2.1 fC.2.2.2.2.1 fC.2.2.2.2.2
end
inductive Dt where
 | non | bl (b:Bool) | int (i:Int) | str (x:Str) | tup (ds:List Dt) | lst (ds:List Dt)
mutual
def Is (H:Hp):V->Dt->Prop
 | v,.non=>v=.non
 | v,.bl b=>v=.bl b
 | v,.int i=>v=.int i
 | v,.str x=>v=.str x
 | v,.tup ds=>∃ a xs,v=.ref a/\H a=some (.tup xs)/\IsL H xs ds
 | v,.lst ds=>∃ a xs,v=.ref a/\H a=some (.lst xs)/\IsL H xs ds
def IsL (H:Hp):List V->List Dt->Prop
 | [],[]=>True
 | x::xs,d::ds=>Is H x d/\IsL H xs ds
 | _,_=>False
end
mutual
noncomputable def dep:Dt->Nat
 | .tup ds=>depL ds+1
 | .lst ds=>depL ds+1
 | _=>0
noncomputable def depL:List Dt->Nat
 | []=>0
 | d::ds=>max (dep d) (depL ds)
end
mutual
theorem Is.same {H H':Hp}(h:∀ b o,H b=some o->H' b=some o):∀{d:Dt}{v:V},Is H v d->Is H' v d
 | .non,_,k=>by simp only[Is] at k ⊢;exact k
 | .bl _,_,k=>by simp only[Is] at k ⊢;exact k
 | .int _,_,k=>by simp only[Is] at k ⊢;exact k
 | .str _,_,k=>by simp only[Is] at k ⊢;exact k
 | .tup ds,_,k=>by
  simp only[Is] at k ⊢
  obtain⟨a,xs,e,h1,h2⟩:=k
  exact⟨a,xs,e,h _ _ h1,IsL.same h h2⟩
 | .lst ds,_,k=>by
  simp only[Is] at k ⊢
  obtain⟨a,xs,e,h1,h2⟩:=k
  exact⟨a,xs,e,h _ _ h1,IsL.same h h2⟩
theorem IsL.same {H H':Hp}(h:∀ b o,H b=some o->H' b=some o):∀{ds:List Dt}{xs:List V},IsL H xs ds->IsL H' xs ds
 | [],[],_=>by simp only[IsL]
 | d::ds,x::xs,k=>by
  simp only[IsL] at k ⊢
  exact⟨Is.same h k.1,IsL.same h k.2⟩
 | [],_::_,k=>by simp only[IsL] at k
 | _::_,[],k=>by simp only[IsL] at k
end
theorem IsL.length {H:Hp}:∀{ds:List Dt}{xs:List V},IsL H xs ds->xs.length=ds.length
 | [],[],_=>rfl
 | d::ds,x::xs,k=>by
  simp only[IsL] at k
  simp only[Mr,IsL.length k.2]
 | [],_::_,k=>by simp only[IsL] at k
 | _::_,[],k=>by simp only[IsL] at k
theorem IsL.get {H:Hp}:∀{ds:List Dt}{xs:List V}{i:Nat},IsL H xs ds->i < ds.length->∃ x d,xs[i]?=some x/\ds[i]?=some d/\Is H x d
 | [],_,_,_,h=>by simp at h
 | d::ds,x::xs,0,k,_=>by
  simp only[IsL] at k
  exact⟨x,d,rfl,rfl,k.1⟩
 | d::ds,x::xs,i+1,k,h=>by
  simp only[IsL] at k
  obtain⟨y,e,h1,h2,h3⟩:=IsL.get (i:=i) k.2 (by simpa using h)
  exact⟨y,e,by simpa using h1,by simpa using h2,h3⟩
 | _::_,[],_,k,_=>by simp only[IsL] at k
theorem IsL.ints (H:Hp):∀ ns:List Int,IsL H (ns.map V.int) (ns.map Dt.int)
 | []=>by simp only[MT,IsL]
 | n::ns=>by simp only[L',IsL,Is,true_and];exact IsL.ints H ns
mutual
noncomputable def toP:Dt->PyData
 | .non=>.none
 | .bl b=>.bool b
 | .int i=>.int i
 | .str x=>.str x
 | .tup ds=>.tuple (toPs ds)
 | .lst ds=>.list (toPs ds)
noncomputable def toPs:List Dt->List PyData
 | []=>[]
 | d::ds=>toP d::toPs ds
end
mutual
theorem Is.reads {P:Ag}{w:Ak}{H:Hp}{h:Ao}(ok:HOk P w H h):∀{d:Dt}{v:V}{u:Ab},Is H v d->RelV v u->∃ as,Reads h u (toP d) as
 | .non,_,_,k,r=>by simp only[Is] at k;subst k;cases r;exact⟨_,Reads.none⟩
 | .bl b,_,_,k,r=>by simp only[Is] at k;subst k;cases r;exact⟨_,Reads.bool b⟩
 | .int i,_,_,k,r=>by simp only[Is] at k;subst k;obtain⟨t,rfl⟩:=r;exact⟨_,Reads.int i t⟩
 | .str x,_,_,k,r=>by simp only[Is] at k;subst k;obtain⟨t,rfl⟩:=r;exact⟨_,Reads.str x t⟩
 | .tup ds,_,_,k,r=>by
  simp only[Is] at k
  obtain⟨a,xs,rfl,h1,h2⟩:=k
  cases r
  obtain⟨_,its,rv,⟨o,ho,hc,n,hd⟩,_⟩:=(show ObjOk P w H h a (.tup xs) from ok a _ h1)
  obtain⟨as,q⟩:=IsL.reads ok h2 rv
  exact⟨_,Reads.tuple ho hc hd (by simpa using q)⟩
 | .lst ds,_,_,k,r=>by
  simp only[Is] at k
  obtain⟨a,xs,rfl,h1,h2⟩:=k
  cases r
  obtain⟨_,its,n,rv,e⟩:=(show ObjOk P w H h a (.lst xs) from ok a _ h1)
  obtain⟨as,q⟩:=IsL.reads ok h2 rv
  exact⟨_,Reads.list e rfl rfl (by simpa using q)⟩
theorem IsL.reads {P:Ag}{w:Ak}{H:Hp}{h:Ao}(ok:HOk P w H h):∀{ds:List Dt}{xs:List V}{us:List Ab},IsL H xs ds->Vals xs us->∃ as,ReadsAll h us (toPs ds) as
 | [],[],_,_,.nil=>⟨_,ReadsAll.nil⟩
 | d::ds,x::xs,_,k,.cons r t=>by
  simp only[IsL] at k
  obtain⟨as,q⟩:=Is.reads ok k.1 r
  obtain⟨bs,q2⟩:=IsL.reads ok k.2 t
  exact⟨_,ReadsAll.cons q q2⟩
 | [],_::_,_,k,_=>by simp only[IsL] at k
 | _::_,[],_,k,_=>by simp only[IsL] at k
end
def okD (d:Dt):Prop:=SeqAt.shaped (toP d)=true
noncomputable def eqD (d e:Dt):Bool:=PyData.eqv (toP d) (toP e)
theorem cG (h:okD d):eqD d d=true:=SeqAt.eqv_refl _ (SeqAt.canLay_of_shaped h)
section
variable {X:Cx}
theorem OpR.imp (h:OpR X f r) (hi:∀ x y H Q,r' x y H Q->r x y H Q):OpR X f r':=fun B5 s σ H x y v u Q I rx ry q=>h B5 s σ H x y v u Q I rx ry (hi x y H Q q)
theorem CallR.imp (h:CallR X f r) (hi:∀ xs H Q,r' xs H Q->r xs H Q):CallR X f r':=fun B5 s σ H xs us Q I rs q=>h B5 s σ H xs us Q I rs (hi xs H Q q)
end
section
variable {X:Cx}{B5:List (Ac×Obj)}{σ:St}{H:Hp}{s:Ae}{Q:VK}
theorem endS (I:Inv X B5 σ H s) (q:Q (.str z) H):EP X B5 σ Q (.str z t) s:=⟨.str z,H,I,⟨t,rfl⟩,q⟩
theorem endN (I:Inv X B5 σ H s) (q:Q (.int i) H):EP X B5 σ Q (.int i t) s:=⟨.int i,H,I,⟨t,rfl⟩,q⟩
theorem endB (I:Inv X B5 σ H s) (q:Q (.bl b) H):EP X B5 σ Q (.bool b) s:=⟨.bl b,H,I,rfl,q⟩
end
noncomputable def lstR (H:Hp)(a:Ac):Option (List V):=match H a with
 | some (.lst xs)=>some xs
 | some (.frz _ (.lst xs))=>some xs
 | _=>none
noncomputable def tupR (H:Hp)(a:Ac):Option (List V):=match H a with
 | some (.tup xs)=>some xs
 | _=>none
noncomputable def seqR (H:Hp)(a:Ac):Option (List V):=match lstR H a with
 | some xs=>some xs
 | none=>tupR H a
theorem Ot (h:H a=some (.lst xs)):lstR H a=some xs:=by unfold lstR;rw[h]
theorem tupR_of (h:H a=some (.tup xs)):tupR H a=some xs:=by unfold tupR;rw[h]
theorem Nd (h:H a=some (.lst xs)):seqR H a=some xs:=by unfold seqR;rw[Ot h]
theorem So (h:H a=some (.tup xs)):seqR H a=some xs:=by
 have e:lstR H a=none:=by unfold lstR;rw[h]
 unfold seqR;rw[e];exact tupR_of h
theorem PN {K:LR}{H:Hp}{a:Ac}{xs:List V}(h:lstR H a=some xs):SqL K H a xs:=by
 unfold lstR at h
 split at h
 ·rename_i e;cases h;exact .inl (.inl e)
 ·rename_i e;cases h;exact .inl (.inr ⟨_,e⟩)
 ·cases h
theorem Sq {K:LR}{H:Hp}{a:Ac}{xs:List V}(h:tupR H a=some xs):SqT K H a xs:=by
 unfold tupR at h
 split at h
 ·rename_i e;cases h;exact .inl (.inl e)
 ·cases h
theorem UJ {K:LR}{H:Hp}{a:Ac}{xs:List V}(h:seqR H a=some xs):SqL K H a xs∨SqT K H a xs:=by
 unfold seqR at h
 split at h
 ·rename_i e;cases h;exact .inl (PN e)
 ·exact .inr (Sq h)
def GetT (H:Hp)(xs:List V)(Q:VK):Prop:=∀ p H',H' p=some (.tup xs)->(∀ b o,H b=some o->H' b=some o)->Q (.ref p) H'
theorem GetT.new (h:GetT H xs Q) (hp:H p=none):Q (.ref p) (upd H p (.tup xs)) :=
 h p _ LN fun b o e=>by rw[LU (Mo e hp)];exact e
theorem GetT.old (h:GetT H xs Q) (hp:H p=some (.tup xs)):Q (.ref p) H:=h p _ hp fun b o e=>e
def GetL (H:Hp)(xs:List V)(Q:VK):Prop:=∀ p,H p=none->Q (.ref p) (upd H p (.lst xs))
def fAdd:R2:=fun x y H Q=>match x,y with
 | .int i,.int j=>Q (.int (i+j)) H
 | .str i,.str j=>i.length+j.length<=Af/\Q (.str (i++j)) H
 | .ref a,.ref b=>match H a,H b with
  | some (.lst xs),some (.lst ys)=>xs.length+ys.length<=Af/\GetL H (xs++ys) Q
  | some (.tup xs),some (.tup ys)=>xs≠[]/\xs.length+ys.length<=Af/\GetT H (xs++ys) Q
  | _,_=>False
 | _,_=>False
def fMul:R2:=fun x y H Q=>match x,y with
 | .int i,.int j=>CMul i j/\Q (.int (i * j)) H
 | .str z,.int n=>z.length * n.toNat<=1000000/\-(2 ^ 62) < n/\n < 2 ^ 62/\Q (.str (Txt.mul z n)) H
 | .ref a,.int k=>match H a with
  | some (.lst xs)=>-(2 ^ 63)<=k/\k < 2 ^ 63/\xs.length * k.toNat<=Af/\GetL H (Mw k.toNat xs).flatten Q
  | _=>False
 | _,_=>False
def fI (C:Int->Int->Prop)(g:Int->Int->V):R2:=fun x y H Q=>match x,y with
 | .int i,.int j=>C i j/\Q (g i j) H
 | _,_=>False
def fI0 (g:Int->Int->V):R2:=fun x y H Q=>match x,y with
 | .int i,.int j=>Q (g i j) H
 | _,_=>False
theorem PP :∀ x y H Q,fI0 g x y H Q->rI0 g x y H Q:=fun x y H Q h=>by
 unfold fI0 at h
 split at h
 ·exact⟨_,_,rfl,rfl,h⟩
 ·exact h.elim
theorem Sr :∀ x y H Q,fI C g x y H Q->rI C g x y H Q:=fun x y H Q h=>by
 unfold fI at h
 split at h
 ·exact⟨_,_,rfl,rfl,h.1,h.2⟩
 ·exact h.elim
section
variable {X:Cx}
theorem Mb:OpR X (AI .Add) fAdd:=by
 intro B5 s σ H x y v u Q I rx ry h
 unfold fAdd at h
 split at h
 ·exact op_add B5 s σ H _ _ v u Q I rx ry ⟨_,_,rfl,rfl,h⟩
 ·exact bJ B5 s σ H _ _ v u Q I rx ry ⟨_,_,rfl,rfl,h.1,h.2⟩
 ·split at h
  ·rename_i h1 h2
   exact op_cat B5 s σ H _ _ v u Q I rx ry ⟨_,_,_,_,rfl,rfl,h1,h2,h.1,h.2⟩
  ·rename_i xs ys h1 h2
   refine op_catT B5 s σ H _ _ v u Q I rx ry ⟨_,_,_,_,rfl,rfl,SqT.of h1,SqT.of h2,h.1,h.2.1,fun e=>?_,fun _ p hp=>h.2.2.new hp⟩
   subst e
   have:=h.2.2
   rw[OD] at this
   exact this.old h1
  ·exact h.elim
 ·exact h.elim
theorem Pj:OpR X (AI .Sub) (fI0 fun i j=>.int (i - j)):=op_sub.imp PP
theorem VS:OpR X (AI .FloorDiv) (fI CDiv fun i j=>.int (i / j)):=op_fdiv.imp Sr
theorem N5:OpR X (AI .Mod) (fI (fun _ j=>0 < j) fun i j=>.int (i % j)):=op_mod.imp Sr
theorem o_pow:OpR X (AI .Pow) (fI CPow fun i j=>.int (i ^ j.toNat)):=op_pow.imp Sr
theorem cH (h:z.length * n.toNat<=1000000) (h1:-(2 ^ 62) < n) (h2:n < 2 ^ 62):MulOk z n:=by
 have e1:((2:Int) ^ 62)=4611686018427387904:=by decide
 have e2:((2:Int) ^ 63)=9223372036854775808:=by decide
 rw[e1] at h1 h2
 refine⟨?_,fun hn _=>?_,fun hn _=>?_⟩
 ·rw[e2];simp only[Bool.or_eq_false_iff,decide_eq_false_iff_not];omega
 ·have hp:0 < n:=by omega
  have hz:(z.length:Int)<=1000000:=by
   have:z.length * 1<=z.length * n.toNat:=Nat.mul_le_mul_left _ (by omega)
   omega
  have e3:((2:Int) ^ 63 - 1)=9223372036854775807:=by decide
  rw[e3]
  intro KC
  have h3:(9223372036854775807:Int) / n < z.length:=KC
  have h4:(9223372036854775807:Int) < z.length * n:=by
   have:=Int.lt_mul_of_ediv_lt hp h3
   exact this
  have h5:(z.length:Int) * n<=1000000:=by
   have e:((z.length * n.toNat:Nat):Int)=(z.length:Int) * n:=by
    rw[Int.natCast_mul];congr 1;omega
   omega
  omega
 ·unfold Builtin.Str.tooLong Af
  have e4:(2:Nat) ^ 24=16777216:=by decide
  exact B1 (by omega)
theorem NB:OpR X (AI .Mult) fMul:=by
 intro B5 s σ H x y v u Q I rx ry h
 unfold fMul at h
 split at h
 ·exact op_mul B5 s σ H _ _ v u Q I rx ry ⟨_,_,rfl,rfl,h.1,h.2⟩
 ·obtain⟨h1,h2,h3,q⟩:=h
  obtain⟨t,rfl⟩:=rx
  obtain⟨t',rfl⟩:=ry
  exact SB.mul (cH h1 h2 h3) fun t' k=>endS (I.tok _) q
 ·split at h
  ·rename_i h1
   exact op_rep B5 s σ H _ _ v u Q I rx ry ⟨_,_,_,rfl,rfl,h1,h.1,h.2.1,h.2.2.1,h.2.2.2⟩
  ·exact h.elim
 ·exact h.elim
theorem o_lt:OpR X (An .Lt) (fI0 fun i j=>.bl (decide (i < j))):=op_lt.imp PP
theorem o_le:OpR X (An .LtE) (fI0 fun i j=>.bl (decide (i<=j))):=op_le.imp PP
theorem o_gt:OpR X (An .Gt) (fI0 fun i j=>.bl (decide (j < i))):=op_gt.imp PP
theorem o_ge:OpR X (An .GtE) (fI0 fun i j=>.bl (decide (j<=i))):=op_ge.imp PP
def fEq:R2:=fun x y H Q=>(scal x y=true/\Q (.bl (decide (x=y))) H)∨∃ d e,Is H x d/\Is H y e/\okD d/\okD e/\Q (.bl (eqD d e)) H
def fNe:R2:=fun x y H Q=>(scal x y=true/\Q (.bl (!decide (x=y))) H)∨∃ d e,Is H x d/\Is H y e/\okD d/\okD e/\Q (.bl (!eqD d e)) H
def fIs:R2:=fun x y H Q=>y=.non/\Q (.bl (decide (x=.non))) H
def VT:R2:=fun x y H Q=>y=.non/\Q (.bl (!decide (x=.non))) H
theorem o_eq (hu:X.A.units+64 < AR):OpR X (An .Eq) fEq:=by
 intro B5 s σ H x y v u Q I rx ry h
 rcases h with h | ⟨d,e,h1,h2,h3,h4,q⟩
 ·exact op_eq B5 s σ H x y v u Q I rx ry h
 ·obtain⟨as,r1⟩:=Is.reads I.hok h1 rx
  obtain⟨bs,r2⟩:=Is.reads I.hok h2 ry
  exact eq_dataH r1 r2 h3 h4 hu (endB I q)
theorem o_ne (hu:X.A.units+64 < AR):OpR X (An .NotEq) fNe:=by
 intro B5 s σ H x y v u Q I rx ry h
 rcases h with h | ⟨d,e,h1,h2,h3,h4,q⟩
 ·exact op_ne B5 s σ H x y v u Q I rx ry h
 ·obtain⟨as,r1⟩:=Is.reads I.hok h1 rx
  obtain⟨bs,r2⟩:=Is.reads I.hok h2 ry
  exact ne_dataH r1 r2 h3 h4 hu (endB I q)
theorem o_is:OpR X (An .Is) fIs:=op_isN
theorem VU:OpR X (An .IsNot) VT:=op_notN
def fIn (neg:Bool):R2:=fun x y H Q=>match x,y with
 | .str i,.str j=>Q (.bl (xor neg (Ry j i))) H
 | x,.ref p=>match seqR H p with
  | some xs=>OT x=true/\xs.all OT=true/\Q (.bl (if neg then !inV x xs else inV x xs)) H
  | none=>False
 | _,_=>False
theorem o_in:OpR X (An .In) (fIn false):=by
 intro B5 s σ H x y v u Q I rx ry h
 unfold fIn at h
 split at h
 ·refine bF B5 s σ H _ _ v u Q I rx ry ⟨_,_,rfl,rfl,?_⟩
  simpa [Ry] using h
 ·split at h
  ·rename_i e
   exact cg B5 s σ H _ _ v u Q I rx ry ⟨_,_,rfl,UJ e,h.1,h.2.1,h.2.2⟩
  ·exact h.elim
 ·exact h.elim
theorem VX:OpR X (An .NotIn) (fIn true):=by
 intro B5 s σ H x y v u Q I rx ry h
 unfold fIn at h
 split at h
 ·refine bG B5 s σ H _ _ v u Q I rx ry ⟨_,_,rfl,rfl,?_⟩
  simpa [Ry] using h
 ·split at h
  ·rename_i e
   exact ci B5 s σ H _ _ v u Q I rx ry ⟨_,_,rfl,UJ e,h.1,h.2.1,h.2.2⟩
  ·exact h.elim
 ·exact h.elim
def fNeg:V->Hp->VK->Prop:=fun x H Q=>match x with
 | .int i=>Q (.int (-i)) H
 | _=>False
theorem OU:UnR X (unaryOp .USub) fNeg:=fun B5 s σ H x v Q I rx h=>by
 unfold fNeg at h
 split at h
 ·exact un_neg B5 s σ H _ v Q I rx ⟨_,rfl,h⟩
 ·exact h.elim
def fIx (K:LR):R2:=fun x y H Q=>match x,y with
 | .ref p,.int i=>∃ xs v,(SqL K H p xs∨SqT K H p xs)/\atI xs i=some v/\Q v H
 | .str z,.int i=>z.length<=Af/\(match atI z.cps.toList i with | some c=>Q (.str ⟨#[c]⟩) H | none=>False)
 | _,_=>False
theorem ix_any {K:LR}(hK:X.K=K:=by rfl):IxR X (fIx K):=by
 subst hK
 intro value slice B5 s σ H x y v u Q I rx ry h hs
 unfold fIx at h
 split at h
 ·obtain⟨xs,w',e,e',h⟩:=h
  rcases e with q | q
  ·exact ix_list value slice B5 s σ H _ _ v u Q I rx ry ⟨_,_,_,_,rfl,rfl,q,e',h⟩ hs
  ·exact ix_tup value slice B5 s σ H _ _ v u Q I rx ry ⟨_,_,_,_,rfl,rfl,q,e',h⟩ hs
 ·obtain⟨hz,h⟩:=h
  split at h
  ·rename_i c e
   exact ix_str value slice B5 s σ H _ _ v u Q I rx ry ⟨_,_,_,rfl,rfl,hz,e,h⟩ hs
  ·exact h.elim
 ·exact h.elim
def fSl (K:LR):V->Option Int->Option Int->Hp->VK->Prop:=fun x lo hi H Q=>match x with
 | .str z=>z.length<=Af/\Q (.str (U_ z lo hi)) H
 | .ref a=>(∃ xs,SqL K H a xs/\GetL H (cutV xs lo hi) Q) ∨
  (∃ xs,SqT K H a xs/\¬ (HT.sIx xs.length 0 lo=0/\HT.sIx xs.length xs.length hi=xs.length)/\GetT H (cutV xs lo hi) Q)
 | _=>False
theorem sl_str:SlR X (fun x lo hi H Q=>∃ z,x=.str z/\z.length<=Af/\Q (.str (U_ z lo hi)) H):=by
 intro B5 s σ H x v vl vu lo hi sl Q I rx hs pl pu h
 obtain⟨z,rfl,hz,q⟩:=h
 obtain⟨t,rfl⟩:=rx
 refine⟨"str",_,PySem.F.slot_str_getitem.lookup,Br _ _ _,?_⟩
 have fin:∀(l u:Option (Int×Tok)),l.map (·.1)=lo->u.map (·.1)=hi->s.heap.IsSlice sl l u none->wpAny (Aj X.prog X.w) X.A (Bp (.str z t) (.ref sl)) (EP X B5 σ Q) X.xe s:=fun l u el eu hs'=>by
  subst el eu
  refine wpAny_getItem_str_slice hs' rfl ?_
  have q':∀ t' k,EP X B5 σ Q (.str (U_ z (l.map (·.1)) (u.map (·.1))) t') { s with toks:=k }:=fun t' k=>endS (I.tok _) q
  exact post_val_or_str ⟨MX (Txt.slice_le z _ _) hz,fun t' k=>q' t' k⟩
 cases pl with
 | none =>
  cases pu with
  | none=>exact fin none none rfl rfl hs
  | int j u=>exact fin none (some (j,u)) rfl rfl hs
 | int i t' =>
  cases pu with
  | none=>exact fin (some (i,t')) none rfl rfl hs
  | int j u=>exact fin (some (i,t')) (some (j,u)) rfl rfl hs
theorem Nm {K:LR}(hK:X.K=K:=by rfl):SlR X (fSl K):=by
 subst hK
 intro B5 s σ H x v vl vu lo hi sl Q I rx hs pl pu h
 unfold fSl at h
 split at h
 ·exact sl_str B5 s σ H _ v vl vu lo hi sl Q I rx hs pl pu ⟨_,rfl,h.1,h.2⟩
 ·rcases h with ⟨xs,e,h⟩ | ⟨xs,e,h⟩
  ·exact sl_list B5 s σ H _ v vl vu lo hi sl Q I rx hs pl pu ⟨_,_,rfl,e,h⟩
  ·exact sl_tup B5 s σ H _ v vl vu lo hi sl Q I rx hs pl pu ⟨_,_,rfl,e,h.1,fun p hp=>h.2.new hp⟩
 ·exact h.elim
def fLen (K:LR):List V->Hp->VK->Prop:=fun xs H Q=>match xs with
 | [.str z]=>z.length<=Af/\Q (.int z.length) H
 | [.ref p]=>∃ ys,(SqL K H p ys∨SqT K H p ys)/\Q (.int ys.length) H
 | _=>False
theorem Mq {K:LR}(hK:X.K=K:=by rfl):CallR X (.builtin "len") (fLen K):=by
 subst hK
 intro B5 s σ H xs us Q I r h
 unfold fLen at h
 split at h
 ·exact ck B5 s σ H _ us Q I r ⟨_,rfl,h.1,h.2⟩
 ·obtain⟨ys,e,h⟩:=h
  exact cj B5 s σ H _ us Q I r ⟨_,_,rfl,e,h⟩
 ·exact h.elim
def f1I (g:Int->V):List V->Hp->VK->Prop:=fun xs H Q=>match xs with
 | [.int i]=>Q (g i) H
 | _=>False
def f2I (g:Int->Int->V):List V->Hp->VK->Prop:=fun xs H Q=>match xs with
 | [.int i,.int j]=>Q (g i j) H
 | _=>False
theorem c_abs:CallR X (.builtin "abs") (f1I fun i=>.int (if i < 0 then -i else i)):=call_abs.imp fun xs H Q h=>by
 unfold f1I at h
 split at h
 ·exact⟨_,rfl,h⟩
 ·exact h.elim
theorem Ob (hc:X.calm=true):CallR X (.builtin "max") (f2I fun i j=>.int (if j > i then j else i)):=(bK hc).imp fun xs H Q h=>by
 unfold f2I at h
 split at h
 ·exact⟨_,_,rfl,h⟩
 ·exact h.elim
def fInt:List V->Hp->VK->Prop:=fun xs H Q=>match xs with
 | [.int i]=>Q (.int i) H
 | [.bl b]=>Q (.int (if b then 1 else 0)) H
 | _=>False
theorem Ss:CallR X (.type "int") fInt:=call_int1.imp fun xs H Q h=>by
 unfold fInt at h
 split at h
 ·exact .inl ⟨_,rfl,h⟩
 ·exact .inr ⟨_,rfl,h⟩
 ·exact h.elim
def fStr:List V->Hp->VK->Prop:=fun xs H Q=>match xs with
 | [.int i]=>i.natAbs.log2 < 1920/\Q (.str (toString i)) H
 | _=>False
theorem PQ:CallR X (.type "str") fStr:=call_str_int.imp fun xs H Q h=>by
 unfold fStr at h
 split at h
 ·exact⟨_,rfl,h.1,h.2⟩
 ·exact h.elim
def Su:List V->Hp->VK->Prop:=fun xs H Q=>match xs with
 | [.ref p]=>(match seqR H p with | some ys=>GetL H ys Q | none=>False)
 | _=>False
theorem Oc:CallR X (.type "list") Su:=call_list_of.imp fun xs H Q h=>by
 unfold Su at h
 split at h
 ·split at h
  ·rename_i e;exact⟨_,_,rfl,UJ e,h⟩
  ·exact h.elim
 ·exact h.elim
def Sv:List V->Hp->VK->Prop:=fun xs H Q=>match xs with
 | [.ref p]=>(match seqR H p with | some ys=>GetT H ys Q | none=>False)
 | _=>False
theorem cI (h:tupR H p=some ys):H p=some (.tup ys):=by
 unfold tupR at h
 split at h
 ·rename_i e;cases h;exact e
 ·cases h
theorem PR:CallR X (.type "tuple") Sv:=call_tuple_of.imp fun xs H Q h=>by
 unfold Sv at h
 split at h
 ·split at h
  ·rename_i ys e
   refine⟨_,ys,rfl,?_⟩
   unfold seqR at e
   split at e
   ·rename_i e';cases e
    exact .inl ⟨PN e',fun l hl=>h.new hl⟩
   ·exact .inr ⟨Sq e,h.old (cI e)⟩
  ·exact h.elim
 ·exact h.elim
def fTru (x:V)(H:Hp)(Q:Bool->Hp->Prop):Prop:=match x with
 | .non=>Q false H
 | .bl b=>Q b H
 | .int i=>Q (i != 0) H
 | .str z=>z.length<=Af/\Q ((z.length:Int) != 0) H
 | .ref p=>(match seqR H p with | some xs=>Q (!xs.isEmpty) H | none=>False)
 | _=>False
theorem NC (ha:PE X a ta) (he:∀ whole,isTrue a X.env whole=(do let v <- whole;BD a.pos;By [v] (truthy v))):
  PT X a (fun σ H Q=>ta σ H fun x H'=>fTru x H' Q):=by
 intro B5 s σ H Q I h
 show wpAny _ _ (isTrue a X.env (Ax a X.env)) _ _ _
 rw[he]
 refine Aa (thn (ha B5 s σ H _ I h) fun v s1 ⟨x,H1,I1,r1,q1⟩=>Aa (Bl (AC ?_)))
 refine tru_ok B5 s1 σ H1 x v Q I1 r1 ?_
 have q1:fTru x H1 Q:=q1
 unfold fTru at q1
 split at q1
 ·exact⟨_,rfl,q1⟩
 ·exact⟨_,rfl,q1⟩
 ·exact⟨_,rfl,q1⟩
 ·exact⟨_,⟨q1.1,rfl⟩,q1.2⟩
 ·split at q1
  ·rename_i xs e
   refine⟨_,?_,q1⟩
   rcases UJ (K:=X.K) e with z | z
   ·exact .inl ⟨_,z,rfl⟩
   ·exact .inr (.inl ⟨_,z,rfl⟩)
  ·exact q1.elim
 ·exact q1.elim
def Sw:V->List V->Hp->VK->Prop:=fun x vs H Q=>match x,vs with
 | .ref l,[y]=>(match H l with | some (.lst xs)=>xs.length < Af/\Q .non (upd H l (.lst (xs++[y]))) | _=>False)
 | _,_=>False
theorem UK:MtR X "list.append" Sw:=fun B5 s σ H x xs v us Q I rx rs h=>by
 unfold Sw at h
 split at h
 ·split at h
  ·rename_i e
   exact VN B5 s σ H _ _ v us Q I rx rs ⟨_,_,_,rfl,rfl,e,h.1,h.2⟩
  ·exact h.elim
 ·exact h.elim
theorem VY:∀{ys:List Str}{us:List Ab},Vals (ys.map V.str) us->StrsAre us ys
 | [],_,.nil=>.nil
 | y::ys,_,.cons r t=>by
  obtain⟨k,rfl⟩:=r
  exact .cons y k (VY t)
noncomputable def strs?:List V->Option (List Str)
 | []=>some []
 | .str z::r=>(strs? r).map (z::·)
 | _=>none
theorem strs?_map:∀ ys:List Str,strs? (ys.map V.str)=some ys
 | []=>rfl
 | y::ys=>by simp only[L',strs?,strs?_map ys,UB]
theorem strs?_of:∀{xs:List V}{ys:List Str},strs? xs=some ys->xs=ys.map V.str
 | [],_,h=>by cases h;rfl
 | .str z::r,ys,h=>by
  simp only[strs?] at h
  cases e:strs? r with
  | none=>rw[e] at h;cases h
  | some q=>rw[e] at h;cases h;rw[strs?_of e];rfl
 | .non::_,_,h=>by cases h
 | .bl _::_,_,h=>by cases h
 | .int _::_,_,h=>by cases h
 | .byt _::_,_,h=>by cases h
 | .flt _::_,_,h=>by cases h
 | .ref _::_,_,h=>by cases h
 | .ty _::_,_,h=>by cases h
def Sx:V->List V->Hp->VK->Prop:=fun x vs H Q=>match x,vs with
 | .str z,[.ref p]=>(match lstR H p with
  | some xs=>(match strs? xs with
   | some ys=>(ys.map (·.length)).sum+ys.length * z.length<=16777216/\Q (.str (Qh z ys)) H
   | none=>False)
  | none=>False)
 | _,_=>False
theorem RI:MtR X "str.join" Sx:=fun B5 s σ H x xs v us Q I rx rs h=>by
 unfold Sx at h
 split at h
 ·rename_i z p
  split at h
  ·rename_i ws e
   split at h
   ·rename_i ys e2
    obtain⟨t,rfl⟩:=rx
    obtain⟨u,rfl,ru⟩:=Np rs
    cases ru
    obtain⟨its,r',pl,hz⟩:=I.list (PN e)
    rw[strs?_of e2] at r'
    exact join_list pl.isList (VY (by simpa using r')) h.1 fun t' k=>endS (I.tok _) h.2
   ·exact h.elim
  ·exact h.elim
 ·exact h.elim
def fSS (g:Str->Str->V):V->List V->Hp->VK->Prop:=fun x vs H Q=>match x,vs with
 | .str z,[.str y]=>Q (g z y) H
 | _,_=>False
def fSSI (g:Str->Str->Int->V):V->List V->Hp->VK->Prop:=fun x vs H Q=>match x,vs with
 | .str z,[.str y,.int i]=>Q (g z y i) H
 | _,_=>False
theorem cJ:MtR X "str.endswith" (fSS fun z y=>.bl (bd z y)):=fun B5 s σ H x xs v us Q I rx rs h=>by
 unfold fSS at h
 split at h
 ·obtain⟨t,rfl⟩:=rx
  obtain⟨u,rfl,t',rfl⟩:=Np rs
  exact SC.endswith (endB I h)
 ·exact h.elim
theorem m_find1:MtR X "str.find" (fSS fun z y=>.int (Txt.find z y)):=fun B5 s σ H x xs v us Q I rx rs h=>by
 unfold fSS at h
 split at h
 ·obtain⟨t,rfl⟩:=rx
  obtain⟨u,rfl,t',rfl⟩:=Np rs
  exact SC.find (endN (I.tok _) h)
 ·exact h.elim
theorem m_find2:MtR X "str.find" (fSSI fun z y i=>.int (Txt.find3 z y i)):=fun B5 s σ H x xs v us Q I rx rs h=>by
 unfold fSSI at h
 split at h
 ·obtain⟨t,rfl⟩:=rx
  obtain⟨u,w',rfl,⟨t',rfl⟩,⟨t'',rfl⟩⟩:=Pz rs
  exact SC.find3 (endN (I.tok _) h)
 ·exact h.elim
theorem cK:MtR X "str.startswith" (fSSI fun z y i=>.bl (bc z y i)):=fun B5 s σ H x xs v us Q I rx rs h=>by
 unfold fSSI at h
 split at h
 ·obtain⟨t,rfl⟩:=rx
  obtain⟨u,w',rfl,⟨t',rfl⟩,⟨t'',rfl⟩⟩:=Pz rs
  exact SC.startswith3 (endB I h)
 ·exact h.elim
end
noncomputable def tyN (H:Hp):V->Option String
 | .non=>some "NoneType"
 | .bl _=>some "bool"
 | .int _=>some "int"
 | .str _=>some "str"
 | .ref a=>match H a with
  | some (.lst _)=>some "list"
  | some (.frz _ (.lst _))=>some "list"
  | some (.tup _)=>some "tuple"
  | _=>none
 | _=>none
noncomputable def subB (t T:String):Bool:=t == T || (t == "bool"&&T == "int")
noncomputable def tys?:List V->Option (List String)
 | []=>some []
 | .ty T::r=>(tys? r).map (T::·)
 | _=>none
noncomputable def Od (T:String):Bool:=["bool","int","str","list","tuple"].contains T
theorem VZ {K:LR}{t T:String}(ht:t="NoneType"∨t="bool"∨t="int"∨t="str"∨t="list"∨t="tuple")(hT:T="bool"∨T="int"∨T="str"∨T="list"∨T="tuple") :
  PySem.W.kitOne K (.type t) (.type T)=some (subB t T):=by
 rcases ht with rfl | rfl | rfl | rfl | rfl | rfl <;> rcases hT with rfl | rfl | rfl | rfl | rfl <;> kernel_rfl
def fIsi:List V->Hp->VK->Prop:=fun xs H Q=>match xs with
 | [x,.ty T]=>(match tyN H x with
  | some t=>Od T=true/\Q (.bl (subB t T)) H
  | none=>False)
 | [x,.ref p]=>(match tyN H x,tupR H p with
  | some t,some ts=>(match tys? ts with
   | some Ts=>Ts.all Od=true/\Q (.bl (Ts.any (subB t))) H
   | none=>False)
  | _,_=>False)
 | _=>False
section
variable {X:Cx}
theorem V0 {K:LR}{B5:List (Ac×Obj)}{σ:St}{H:Hp}{s:Ae}{x:V}{u:Ab}{t:String}(I:Inv X B5 σ H s)(rx:RelV x u)(e:tyN H x=some t) :
  (t="NoneType"∨t="bool"∨t="int"∨t="str"∨t="list"∨t="tuple")/\u≠.builtin "__main__.__loader__#opaque"/\∃ Hp',PySem.W.KitX K u (.type t) Hp'/\Hp' s.heap:=by
 cases x with
 | non=>cases (show u=Value.none from rx);cases e;exact⟨by simp,(fun z=>nomatch z),_,PySem.W.kitx_none,True.intro⟩
 | bl b=>cases (show u=Value.bool b from rx);cases e;exact⟨by simp,(fun z=>nomatch z),_,PySem.W.kitx_bool,True.intro⟩
 | int i=>obtain⟨k,q⟩:=(show ∃ t,u=Value.int i t from rx);cases q;cases e;exact⟨by simp,(fun z=>nomatch z),_,PySem.W.kitx_int,True.intro⟩
 | str z=>obtain⟨k,q⟩:=(show ∃ t,u=Value.str z t from rx);cases q;cases e;exact⟨by simp,(fun z=>nomatch z),_,PySem.W.kitx_str,True.intro⟩
 | ref a =>
  cases (show u=Value.ref a from rx)
  unfold tyN at e
  dsimp only at e
  split at e
  ·rename_i xs ea
   cases e
   obtain⟨_,_,n,_,h1⟩:=(show ObjOk X.prog X.w H s.heap a (.lst xs) from I.hok a _ ea)
   exact⟨by simp,(fun z=>nomatch z),_,iI,⟨_,h1,rfl⟩⟩
  ·rename_i ob xs ea
   cases e
   obtain⟨_,_,_,n,_,h1⟩:=(show ObjOk X.prog X.w H s.heap a (.frz ob (.lst xs)) from I.hok a _ ea)
   exact⟨by simp,(fun z=>nomatch z),_,iI,⟨_,h1,rfl⟩⟩
  ·rename_i xs ea
   cases e
   obtain⟨_,_,_,p⟩:=(show ObjOk X.prog X.w H s.heap a (.tup xs) from I.hok a _ ea)
   obtain⟨⟨o,h1,h2,_⟩,_⟩:=p
   exact⟨by simp,(fun z=>nomatch z),_,PySem.W.kitx_tuple,⟨o,h1,h2⟩⟩
  ·cases e
 | byt _=>cases e
 | flt _=>cases e
 | ty _=>cases e
theorem V1 (h:Od T=true):T="bool"∨T="int"∨T="str"∨T="list"∨T="tuple":=by
 simpa [Od] using h
theorem V2 {K:LR}{t:String}(ht:t="NoneType"∨t="bool"∨t="int"∨t="str"∨t="list"∨t="tuple"):∀{ts:List V}{Ts:List String}{its:List Ab},tys? ts=some Ts->Vals ts its->Ts.all Od=true ->
  PySem.W.kitAny K (.type t) its=some (Ts.any (subB t))
 | [],_,_,e,.nil,_=>by cases e;rfl
 | .ty T::r,Ts,_,e,.cons rv rt,hk=>by
  simp only[tys?] at e
  cases er:tys? r with
  | none=>rw[er] at e;cases e
  | some q =>
   rw[er] at e
   cases e
   simp only[aC,Nn] at hk
   cases rv
   have h1:=VZ (K:=K) ht (V1 hk.1)
   have h2:=V2 (K:=K) ht er rt hk.2
   unfold PySem.W.kitAny
   rw[h1]
   cases hb:subB t T with
   | true=>simp[hb]
   | false=>simp only[Pq,hb,Uq];exact h2
 | .non::_,_,_,e,_,_=>by cases e
 | .bl _::_,_,_,e,_,_=>by cases e
 | .int _::_,_,_,e,_,_=>by cases e
 | .str _::_,_,_,e,_,_=>by cases e
 | .byt _::_,_,_,e,_,_=>by cases e
 | .flt _::_,_,_,e,_,_=>by cases e
 | .ref _::_,_,_,e,_,_=>by cases e
theorem V3:CallR X (.builtin "isinstance") fIsi:=by
 intro B5 s σ H xs us Q I r h
 unfold fIsi at h
 split at h
 ·rename_i x T
  split at h
  ·rename_i t et
   obtain⟨u,c,rfl,rx,rc⟩:=Pz r
   cases rc
   obtain⟨ht,hu,H',hk,hH⟩:=V0 (K:=X.K) I rx et
   exact PySem.W.kia_one hk I.kIn hH (VZ ht (V1 h.1)) hu fun tk=>endB (I.tok _) h.2
  ·exact h.elim
 ·rename_i x p
  split at h
  ·rename_i t ts et ep
   split at h
   ·rename_i Ts eT
    obtain⟨u,c,rfl,rx,rc⟩:=Pz r
    cases rc
    obtain⟨ht,hu,H',hk,hH⟩:=V0 (K:=X.K) I rx et
    obtain⟨its,rv,pl,hz⟩:=I.tuple (Sq ep)
    obtain⟨⟨cls,dd,data,sl⟩,ho,hc,n,hd⟩:=id pl
    simp only at hc hd
    subst hc hd
    exact PySem.W.kia_tup hk I.kIn hH ho (V2 ht eT rv h.1) hu fun tk=>endB (I.tok _) h.2
   ·exact h.elim
  ·exact h.elim
 ·exact h.elim
noncomputable def bls?:List V->Option (List Bool)
 | []=>some []
 | .bl b::r=>(bls? r).map (b::·)
 | _=>none
theorem bls?_map:∀ bs:List Bool,bls? (bs.map V.bl)=some bs
 | []=>rfl
 | b::bs=>by simp only[L',bls?,bls?_map bs,UB]
theorem bls?_of:∀{xs:List V}{bs:List Bool},bls? xs=some bs->xs=bs.map V.bl
 | [],_,h=>by cases h;rfl
 | .bl z::r,ys,h=>by
  simp only[bls?] at h
  cases e:bls? r with
  | none=>rw[e] at h;cases h
  | some q=>rw[e] at h;cases h;rw[bls?_of e];rfl
 | .non::_,_,h=>by cases h
 | .str _::_,_,h=>by cases h
 | .int _::_,_,h=>by cases h
 | .byt _::_,_,h=>by cases h
 | .flt _::_,_,h=>by cases h
 | .ref _::_,_,h=>by cases h
 | .ty _::_,_,h=>by cases h
def fAll (f:List Bool->Bool):List V->Hp->VK->Prop:=fun xs H Q=>match xs with
 | [.ref p]=>(match lstR H p with
  | some ys=>(match bls? ys with | some bs=>Q (.bl (f bs)) H | none=>False)
  | none=>False)
 | _=>False
theorem cL (bs:List Bool):(L5 bs.length).all (fun i=>bs.getD i true)=bs.all id:=by
 rw[Oq,Qd,Qd]
 constructor
 ·intro h b hb
  obtain⟨i,hi,rfl⟩:=Ug.mp hb
  have:=h i (OE.mpr hi)
  simpa [L4,hi] using this
 ·intro h i hi
  have hi':=OE.mp hi
  have:=h bs[i] (MD hi')
  simpa [L4,hi'] using this
theorem c_all (hc:X.calm=true):CallR X (.builtin "all") (fAll fun bs=>bs.all id):=by
 intro B5 s σ H xs us Q I r h
 unfold fAll at h
 split at h
 ·rename_i p
  split at h
  ·rename_i ys e
   split at h
   ·rename_i bs eb
    obtain⟨u,rfl,ru⟩:=Np r
    cases ru
    obtain⟨its,rv,pl,hz⟩:=I.list (PN e)
    rw[bls?_of eb] at rv
    have Ca:=rv.length
    rw[LP] at Ca
    have Cm:p < s.heap.objs.size:=by obtain⟨o,ho,_⟩:=pl.isList;exact Mh ho
    refine call_all_walk (AV pl.isList ?_)
    refine⟨s.heap.objs.size,_,_,_,_,_,(fun i=>bs.getD i true),rfl,Walks.list (A:=X.A.in1) (show X.A.in1.handled=none from I.ok.hd hc) s.heap.objs.size p (MI Cm) its.toArray,⟨⟨_,Ms _ rfl,rfl,rfl⟩,?_⟩,fun i v s' Q' E' hv hq=>?_,fun h' tk k=>?_⟩
    ·obtain⟨o,ho,q⟩:=pl.isList
     exact⟨o,L1 _ ho,q⟩
    ·have hv':its[i]?=some v:=by simpa using hv
     have DJ:i < its.length:=(MJ.mp hv').1
     obtain⟨w',hw,rw'⟩:=rv.get (i:=i) (x:=V.bl (bs.getD i true)) (by rw[Ma];simp[L4,show i < bs.length by omega])
     rw[hv'] at hw
     cases hw
     cases rw'
     exact AA hq
    ·have e2:(L5 its.toArray.size).all (fun i=>bs.getD i true)=bs.all id:=by rw[Mu,<- Ca];exact cL bs
     rw[e2]
     have I1:Inv X B5 σ H { s with heap:=s.heap.push { cls:=.type "list_iterator",data:=.fields #[.ref p,.int 0 0] },toks:=s.toks }:=I.kept fun b u q=>L1 _ q
     have f1:=I.fpOk (H':=H) (b:=s.heap.objs.size) (LZ _) (I.hok.fresh (LZ _))
     exact endB (I1.turned (t':=tk) (it:=s.heap.objs.size) (fun b o hb q=>k b o (by simpa using hb) q) f1.1 f1.2.1 f1.2.2.2.1 f1.2.2.2.2.1 f1.2.2.2.2.2) h
   ·exact h.elim
  ·exact h.elim
 ·exact h.elim
end
noncomputable def Its (xs:List V):It:=⟨fun i _=>i < xs.length,fun i H x H'=>H'=H/\xs[i]?=some x,fun i _=>i=xs.length⟩
noncomputable def chs (z:Str):List V:=z.cps.toList.map fun c=>V.str ⟨#[c]⟩
theorem Nx (z:Str):(chs z).length=z.length:=by unfold chs;rw[LP];rfl
theorem V4 {P:Ag}{w:Ak}{K:LR}{tg:Ay}{it:Ac}{n:Nat}{Pv:Nat->Ab->Prop}{St:Nat->Ao->Prop}{xs:List V}
  (hW:∀ A:Ap,A.handled=none->Walks P w A it [it] [it] n Pv St) (hn:xs.length=n) (hx:∀ i u,Pv i u->∃ x,xs[i]?=some x/\RelV x u)
  (D3:∀ i h,St i h->∃ o ty vs,h.get? it=some o/\o.cls=.type ty/\o.data=.fields vs/\["enumerate","zip","dict_itemiterator","dict_reverseitemiterator","odict_iterator","itertools.zip_longest","itertools.pairwise"].contains ty=false)
  (GZ:∀(A:Ap) (i:Nat) (s:Ae) (Q:Ab->Ae->Prop) (E:Ab->Ae->Prop),St i s.heap->Q (.ref it) s->wpAny (Aj P w) A (pyIter (.ref it)) Q E s) :
  Turn P w K tg (Its xs) [it] it St where
 mem:=by simp
 obj:=fun i h st b hb=>by
  have e:b=it:=by simpa using hb
  subst e
  obtain⟨o,ty,vs,ho,_,hd,_⟩:=D3 i h st
  exact⟨o,ho,fun v z=>by rw[hd] at z;cases z⟩
 keep:=fun i h h' st k=>(hW {} rfl).frame i h h' st k
 item:=by
  intro X hP hw hK hc i B5 s σ H E I hf st hg
  subst hP hw hK
  obtain⟨f0,f1,f2,f3,f4,f5⟩:=hf it (by simp)
  have Cm:i < n:=by rw[<- hn];exact hg
  refine(hW X.A (I.ok.hd hc)).item i s _ E Cm st fun v h' tk pv st' k=>?_
  obtain⟨x,ex,rx⟩:=hx i v pv
  have I1:Inv X B5 σ H { s with heap:=h',toks:=tk }:=I.turned (fun b o hb e=>k b o (by simpa using hb) e) f0 f1 f3 f4 f5
  obtain⟨o,ty,vs,ho,EL,hd,KD⟩:=D3 _ _ st'
  exact⟨v,rfl,QE (s:={ s with heap:=h',toks:=tk }) ho EL hd KD ⟨x,H,I1,rx,⟨rfl,ex⟩,st',fun b hb=>(hf b hb).1⟩⟩
 done:=by
  intro X hP hw hK hc i B5 s σ H E I hf st hg
  subst hP hw hK
  obtain⟨f0,f1,f2,f3,f4,f5⟩:=hf it (by simp)
  have e:i=n:=by rw[<- hn];exact hg
  subst e
  exact(hW X.A (I.ok.hd hc)).done s _ E st fun h' tk k=>⟨rfl,I.turned (fun b o hb e=>k b o (by simpa using hb) e) f0 f1 f3 f4 f5⟩
 self:=GZ
section
variable {X:Cx}{tg:Ay}
def OV (K:LR)(R:It->Hp->Prop):V->Hp->Prop:=fun x H1=>match x with
 | .str z=>R (Its (chs z)) H1
 | .ref a=>(∃ xs,SqL K H1 a xs/\R (Itl K a) H1)∨(∃ xs,SqT K H1 a xs/\R (Itt K a) H1)
 | _=>False
def iAny (K:LR)(te:TE):TI:=fun σ H R=>te σ H (OV K R)
theorem Sy (h:SignAt z i u):∃ x,(chs z)[i]?=some x/\RelV x u:=by
 obtain⟨c,k,hc,rfl⟩:=h
 refine⟨.str ⟨#[c]⟩,?_,⟨k,rfl⟩⟩
 unfold chs
 rw[Ma,U',hc]
 rfl
theorem Mx {K:LR}{l:Ay}{tl:TE}(hl:PE X l tl)(hK:X.K=K:=by rfl):PI X tg l (iAny K tl):=by
 subst hK
 intro B5 s σ H R I h
 refine thn (hl B5 s σ H _ I h) fun v s1 hI9=>?_
 obtain⟨x,H1,I1,r1,q1⟩:=hI9
 have fresh1:∀ b∈[s1.heap.objs.size],FpOk X B5 H1 b:=fun b hb=>by
  have e:b=s1.heap.objs.size:=by simpa using hb
  subst e
  exact I1.fpOk (LZ _) (I1.hok.fresh (LZ _))
 have kept1:∀ ob:Obj,Inv X B5 σ H1 { s1 with heap:=s1.heap.push ob }:=fun ob=>I1.kept (t':=s1.toks) fun b o e=>L1 _ e
 unfold OV at q1
 split at q1
 ·rename_i z
  obtain⟨t,rfl⟩:=r1
  have Ca:(chs z).length=z.cps.size:=by unfold chs;simp
  cases ha:z.cps.all (· < 128)
  ·refine wpAny_pyIter_wide ha ⟨s1.heap.objs.size,[s1.heap.objs.size],_,_,H1,rfl,kept1 _,V4 (fun A hA=>Walks.strWide hA s1.heap.objs.size z t) Ca (fun i u hu=>Sy hu) ?_ (fun A i s Q E st q=>wpAny_pyIter_striter_wide st q),⟨_,Ms _ rfl,rfl,rfl⟩,fresh1,q1⟩
   intro i h st
   obtain⟨o,ho,hc,hd⟩:=st
   exact⟨o,_,_,ho,hc,hd,by decide⟩
  ·refine wpAny_pyIter_ascii ha ⟨s1.heap.objs.size,[s1.heap.objs.size],_,_,H1,rfl,kept1 _,V4 (fun A hA=>Walks.strAscii hA s1.heap.objs.size z t) Ca (fun i u hu=>Sy hu) ?_ (fun A i s Q E st q=>wpAny_pyIter_striter_ascii st q),⟨_,Ms _ rfl,rfl,rfl⟩,fresh1,q1⟩
   intro i h st
   obtain⟨o,ho,hc,hd⟩:=st
   exact⟨o,_,_,ho,hc,hd,by decide⟩
 ·rename_i a
  cases r1
  rcases q1 with ⟨xs,e,q1⟩ | ⟨xs,e,q1⟩
  ·obtain⟨its,rv,p,hz⟩:=I1.list e
   exact AV p.isList ⟨s1.heap.objs.size,[s1.heap.objs.size],_,_,H1,rfl,kept1 _,bA a _,⟨_,Ms _ rfl,rfl,rfl⟩,fresh1,q1⟩
  ·obtain⟨its,rv,p,hz⟩:=I1.tuple e
   exact AD (show s1.heap.IsTuple a its.toArray from p) ⟨s1.heap.objs.size,[s1.heap.objs.size],_,_,H1,rfl,kept1 _,bB a _,⟨_,Ms _ rfl,rfl,rfl⟩,fresh1,q1⟩
 ·exact q1.elim
end
theorem QI {J:It}{n:Nat}{val:Nat->V}{p:Ac}{g:TG}{tc:TT}{te:TE}{Q:VK}{σ0:St}{H0:Hp}(Pv:Nat->List V->St->Hp->Prop)
  (KF:∀ i B6 σ H,i < n->Pv i B6 σ H->J.go i H) (ED:∀ B6 σ H,Pv n B6 σ H->J.stop n H) (hy:∀ i B6 σ H x H',i < n->Pv i B6 σ H->J.yld i H x H'->H'=H/\x=val i)
  (h0:Pv 0 [] σ0 H0) (hp:∀ i B6 σ H,Pv i B6 σ H->H p=some (.lst B6)/\B6.length<=i) (hz:n<=Af)
  (hs:∀ i B6 σ H,i < n->Pv i B6 σ H->g (val i) σ H fun σ3 H3=>tc σ3 H3 fun b H4 =>
   if b=true then te σ3 H4 fun v H5=>H5 p=some (.lst B6)/\Pv (i+1) (B6++[v]) σ3 (upd H5 p (.lst (B6++[v]))) else Pv (i+1) B6 σ3 H4)
  (hd:∀ B6 σ H,Pv n B6 σ H->Q (.ref p) H) :
  QG J p g tc te Q σ0 H0:=by
 refine⟨fun i m B6 σ H=>m=n - i/\i<=n/\Pv i B6 σ H,⟨n,by simp,MR _,h0⟩,fun i m B6 σ' H' w=>?_⟩
 obtain⟨rfl,hi,q⟩:=w
 obtain⟨q1,q2⟩:=hp i B6 σ' H' q
 refine⟨q1,?_⟩
 by_cases Cm:i < n
 ·refine .inr ⟨KF i B6 σ' H' Cm q,by omega,Pv (i+1),fun a' σ3 H3 k=>⟨n - (i+1),by omega,rfl,Cm,k⟩,fun x H2 y=>?_⟩
  obtain⟨rfl,rfl⟩:=hy i B6 σ' H' x H2 Cm q y
  exact hs i B6 σ' _ Cm q
 ·have e:i=n:=by omega
  subst e
  exact .inl ⟨ED B6 σ' H' q,hd B6 σ' H' q⟩
theorem Sz {lo:Int} {n:Nat} (Pv:Nat->List V->St->Hp->Prop) (h0:Pv 0 [] σ0 H0) (hp:∀ i B6 σ H,Pv i B6 σ H->H p=some (.lst B6)/\B6.length<=i) (hz:n<=Af) (hs:∀ i B6 σ H,i < n->Pv i B6 σ H->g (.int (lo+i)) σ H fun σ3 H3=>tc σ3 H3 fun b H4 =>
   if b=true then te σ3 H4 fun v H5=>H5 p=some (.lst B6)/\Pv (i+1) (B6++[v]) σ3 (upd H5 p (.lst (B6++[v]))) else Pv (i+1) B6 σ3 H4) (hd:∀ B6 σ H,Pv n B6 σ H->Q (.ref p) H):QG (Itr lo n) p g tc te Q σ0 H0 :=
 QI (J:=Itr lo n) (val:=fun i=>.int (lo+i)) Pv (fun _ _ _ _ h _=>h) (fun _ _ _ _=>LZ n) (fun _ _ _ _ _ _ _ _ y=>y) h0 hp hz hs hd
theorem UL (Pv:Nat->List V->St->Hp->Prop) (h0:Pv 0 [] σ0 H0) (hp:∀ i B6 σ H,Pv i B6 σ H->H p=some (.lst B6)/\B6.length<=i) (hz:xs.length<=Af) (hs:∀ i B6 σ H,i < xs.length->Pv i B6 σ H->g (xs.getD i .non) σ H fun σ3 H3=>tc σ3 H3 fun b H4 =>
   if b=true then te σ3 H4 fun v H5=>H5 p=some (.lst B6)/\Pv (i+1) (B6++[v]) σ3 (upd H5 p (.lst (B6++[v]))) else Pv (i+1) B6 σ3 H4) (hd:∀ B6 σ H,Pv xs.length B6 σ H->Q (.ref p) H):QG (Its xs) p g tc te Q σ0 H0 :=
 QI (J:=Its xs) (n:=xs.length) (val:=fun i=>xs.getD i .non) Pv (fun _ _ _ _ h _=>h) (fun _ _ _ _=>rfl)
  (fun i _ _ _ x _ hi _ y=>⟨y.1,by have:=y.2;rw[L4,this];rfl⟩) h0 hp hz hs hd
theorem Pk {K:LR}{a:Ac}{xs:List V}{p:Ac}{g:TG}{tc:TT}{te:TE}{Q:VK}{σ0:St}{H0:Hp}(Pv:Nat->List V->St->Hp->Prop)
  (hl:∀ i B6 σ H,i<=xs.length->Pv i B6 σ H->SqL K H a xs)
  (h0:Pv 0 [] σ0 H0) (hp:∀ i B6 σ H,Pv i B6 σ H->H p=some (.lst B6)/\B6.length<=i) (hz:xs.length<=Af)
  (hs:∀ i B6 σ H,i < xs.length->Pv i B6 σ H->g (xs.getD i .non) σ H fun σ3 H3=>tc σ3 H3 fun b H4 =>
   if b=true then te σ3 H4 fun v H5=>H5 p=some (.lst B6)/\Pv (i+1) (B6++[v]) σ3 (upd H5 p (.lst (B6++[v]))) else Pv (i+1) B6 σ3 H4)
  (hd:∀ B6 σ H,Pv xs.length B6 σ H->Q (.ref p) H):QG (Itl K a) p g tc te Q σ0 H0 :=
 QI (J:=Itl K a) (n:=xs.length) (val:=fun i=>xs.getD i .non) Pv
  (fun i B6 σ H hi q=>⟨xs,xs[i],(hl i B6 σ H (OI hi) q),by simp[hi]⟩) (fun B6 σ H q=>⟨xs,(hl _ B6 σ H (LZ _) q),LZ _⟩)
  (fun i B6 σ H x _ hi q y=>⟨y.1,by have:=y.2 xs (hl i B6 σ H (OI hi) q);rw[L4,this];rfl⟩) h0 hp hz hs hd
section
variable {X:Cx}{o e:Ay}{es:List Ay}{to:TE}{t:TA}{name:Str}{Cf cpos:Pos}{T id:String}{r:V->List V->Hp->VK->Prop}
theorem M9 {K:LR}(pa:BZ T)(slot:Slot T name id)(F_:typeOf (.builtin id)=pure (.type "method_descriptor"))(hm:MtR X id r)(ho:PE X o to)(ha:PA X (e::es) t)(hK:X.K=K:=by rfl)
  (hb:AO o name X.env (Ax o X.env)=Ax o X.env:=by rfl)
  (hf:((AE cpos (Ah (e::es) X.env)).all (fun x=>!x.1)&&(Ba cpos (AU [] X.env)).all (fun x=>x.1.isSome)&&decide ((e::es).length+([]:List BA).length+(if ([]:List BA).isEmpty then 0 else 1) < 30))=true:=by rfl)
  (hl:(Cf.endLine == cpos.line)=true:=by rfl) (he:Ah (e::es) X.env=(false,Ax e X.env)::Ah es X.env:=by rfl) (CG:(AE cpos (Ah es X.env)).any (·.1)=false:=by rfl):PE X (.Call (.Attribute o name Cf) (e::es) [] cpos) (tBM K T r to t):=by
 subst hK
 exact pe_bm pa slot F_ hm ho ha hb hf hl he CG
theorem pe_bm0K {K:LR}(pa:BZ T)(slot:Slot T name id)(F_:typeOf (.builtin id)=pure (.type "method_descriptor"))(hm:MtR X id r)(ho:PE X o to)(hK:X.K=K:=by rfl)
  (D9:AO o name X.env (Ax o X.env)=Ax o X.env:=by rfl) (D_:(Cf.endLine == cpos.line)=true:=by rfl):PE X (.Call (.Attribute o name Cf) [] [] cpos) (tBM0 K T r to):=by
 subst hK
 exact pe_bm0 pa slot F_ hm ho D9 D_
end
def fSet:V->V->V->Hp->(Hp->Prop)->Prop:=fun o i v H Q=>match o,i with
 | .ref p,.int k=>(match H p with
  | some (.lst xs)=>(match ixN xs.length k with | some j=>Q (upd H p (.lst (xs.set j v))) | none=>False)
  | _=>False)
 | _,_=>False
theorem PU :PSet X fSet:=fun B5 s σ H o i v ov iv u Q I ro ri rv h=>by
 unfold fSet at h
 split at h
 ·split at h
  ·rename_i xs e
   split at h
   ·rename_i j ej
    exact cc B5 s σ H _ _ v ov iv u Q I ro ri rv ⟨_,_,_,_,rfl,rfl,e,ej,h⟩
   ·exact h.elim
  ·exact h.elim
 ·exact h.elim
structure Dn (P:Ag)(w:Ak)(K:LR)(mg:Str->Option Ab)(base:Ao)(x:Str)(k:Nat)(ps:List Str)(sp:Sp):Prop where
 ex:∃(f:Ac) (fd:AB),mg x=some (.ref f)/\OG K (.ref f)=true/\Binds K fd ps []/\FnOk P w K mg base CX0 k f fd ps sp
theorem L0 (D:Dn X.prog X.w X.K X.mg X.base x k ps sp) (hr:Room k X.A) (hg:Gl X x) (ha:PA X (e::es) t) (DW:(x == ("__debug__":Str))=false:=by decide) (he:Ah (e::es) X.env=(false,Ax e X.env)::Ah es X.env:=by rfl) (CG:(AE pos (Ah es X.env)).any (·.1)=false:=by rfl):
  PE X (.Call (.Name x p) (e::es) [] pos) (Sc sp [] E0 t):=by
 obtain⟨f,fd,h1,h2,h3,h4⟩:=D.ex
 exact pe_call h4 hr hg h1 h2 h3 .nil PL ha DW he CG
end L2
namespace L2
open PySem
open Sem (wp)
open AutoSeq1 (wpAny_loadPart')
section
variable {prog:Ag}{w:Ak}{A:Ap}{E:Ab->Ae->Prop}{s:Ae}
theorem cM (CM:s.heap.IsTupleIter it t i) (ht:s.heap.IsTuple t items) (hx:items[i]?=some x) (hQ:∀ h',h'.IsTupleIter it t (i+1)->OF it s.heap h'->Q x { s with heap:=h' }):wpAny (Aj prog w) A (N0 (.ref it)) Q E s:=by
 obtain⟨ob,FK,EL,Fj⟩:=id CM
 obtain⟨ot,IB,_,nt,Gc⟩:=ht
 unfold N0
 refine Aa (Am (name:=Mm "__next__") CM.typeIs ZL (Aq ZL CM.typeIs iP ?_ (iO _)))
 show wpAny _ _ (Bs (.ref it) 0 >>= _) _ _ s
 refine Aa (Al FK Fj (x:=.ref t) rfl ?_)
 have nn:¬ ((Value.ref t == Value.none)=true):=Mj
 show wpAny _ _ (if (Value.ref t == Value.none)=true then _ else _) _ _ s
 rw[B3 nn]
 show wpAny _ _ (Bs (.ref it) 1 >>= _) _ _ s
 refine Aa (Al FK Fj (x:=.int i 0) rfl ?_)
 show wpAny _ _ (seqItems? (.ref t) >>= _) _ _ s
 refine Aa (Av IB Gc ?_)
 simp only[OK,hx]
 refine Aa (A3 FK Fj (by simp) (Ad ⟨x,rfl,Ad (hQ _ ?_ (UC ..))⟩))
 exact⟨_,ZE _ FK (bg (UD Fj _)),(bh ..).trans EL,by rw[UD Fj];simp[AH]⟩
theorem cN (hh:A.handled=none) (CM:s.heap.IsTupleIter it t i) (ht:s.heap.IsTuple t items) (hx:items[i]?=none) (hE:∀ h' e,ZF it s.heap h'->(∃ o,h'.get? e=some o/\o.cls=.type "StopIteration")->E (.ref e) { s with heap:=h' }):wpAny (Aj prog w) A (N0 (.ref it)) Q E s:=by
 obtain⟨ob,FK,EL,Fj⟩:=id CM
 obtain⟨ot,IB,_,nt,Gc⟩:=ht
 unfold N0
 refine Aa (Am (name:=Mm "__next__") CM.typeIs ZL (Aq ZL CM.typeIs iP ?_ (iO _)))
 show wpAny _ _ (Bs (.ref it) 0 >>= _) _ _ s
 refine Aa (Al FK Fj (x:=.ref t) rfl ?_)
 have nn:¬ ((Value.ref t == Value.none)=true):=Mj
 show wpAny _ _ (if (Value.ref t == Value.none)=true then _ else _) _ _ s
 rw[B3 nn]
 show wpAny _ _ (Bs (.ref it) 1 >>= _) _ _ s
 refine Aa (Al FK Fj (x:=.int i 0) rfl ?_)
 show wpAny _ _ (seqItems? (.ref t) >>= _) _ _ s
 refine Aa (Av IB Gc ?_)
 simp only[OK,hx]
 refine Aa (BG (Aa (A3 FK Fj (by simp) ?_)))
 show wpAny _ _ (newExc (.type "StopIteration") [] >>= _) _ _ _
 refine Aa ?_
 simp only[newExc,newTuple]
 refine Aa (At ?_ (by size_fits))
 refine Aa (m:=A4 _ _) (BO (a:=Value.none) (by first | rfl | (simp only[A4];rfl)) (At ?_ (by size_fits)))
 simp only[raiseNew]
 refine Aa (BY ?_)
 first | rw[show A.in1.handled=none from hh] | rw[hh]
 exact Aa (Ad (wpAny_throw (hE _ _ (((UC ..).extBut.push _).push _) ⟨_,Ms _ rfl,rfl⟩)))
end
theorem cP {prog:Ag}{w:Ak}{A:Ap}(hh:A.handled=none)(it t:Ac)(C5:t≠it)(items:Array Ab) :
  A6 prog w A it [it,t] items.size (fun i v=>items[i]?=some v) (fun i h=>h.IsTupleIter it t i/\h.IsTuple t items) where
 live:=fun _ _ st=>let ⟨o,ho,_⟩:=st.1;⟨o,ho⟩
 frame:=fun _ _ _ st hk=>⟨st.1.at fun o e=>hk it (by simp) o e,let ⟨o,ho,r⟩:=st.2;⟨o,hk t (by simp) o ho,r⟩⟩
 item:=fun i s Q E hi st hQ=>by
  refine cM st.1 st.2 (x:=items[i]) (by simp[hi]) fun h' hit' hs'=>?_
  exact hQ _ h' s.toks (by simp[hi]) ⟨hit',st.2.extBut hs'.extBut C5⟩ hs'
 done:=fun s Q E st hE=>cN hh st.1 st.2 (by simp) hE
set_option maxHeartbeats 4000000 in
theorem cQ (l:Ac)(items:Array Ab)(n:Nat)(dct:Option Ac)(sl:Array (Option Ab))(b:Int)(u:Tok)(hb:Uu b=true) :
  Meets (Builtin.«enumerate.__new__» ⟨[.type "enumerate",.ref l],[(Mm "start",.int b u)]⟩) (fun _ R s=>s.heap.get? l=some { cls:=.type "tuple",dict:=dct,data:=.seq items n,slots:=sl } /\
   R (.ok (.ret (.ref (s.heap.push { cls:=.type "tuple_iterator",data:=.fields #[.ref l,.int 0 0] }).objs.size)))
    { s with heap:=(s.heap.push { cls:=.type "tuple_iterator",data:=.fields #[.ref l,.int 0 0] }).push { cls:=.type "enumerate",data:=.fields #[.none,.bool false,.ref s.heap.objs.size,AH b,.none,.none] } }) :=
 .of_wp fun prog w A R s h=>by
  obtain⟨hp,g,d,tk,os⟩:=s;obtain⟨hl,h⟩:=h
  have DR:=sub_enumerate
  have hL:aG (Z3 ⟨hp,g,d,tk,os⟩) l items:=⟨_,hl,rfl,n,rfl⟩
  have hb':(!Builtin.SmallTypes.fitsIndex b)=false:=by rw[hb];rfl
  wp_walk using AN hl
  refine wpAny_stack_any fun st=>Ad ?_
  split
  ·rename_i c _ _ _ _ _
   cases (c == Value.type "enumerate")
   ·wp_walk using AN hl,AD hL
    exact⟨_,rfl,h⟩
   ·wp_walk using AN hl,AD hL
    exact⟨_,rfl,h⟩
  ·wp_walk using AN hl,AD hL
   exact⟨_,rfl,h⟩
set_option maxHeartbeats 4000000 in
theorem cR (l:Ac)(items:Array Ab)(n:Nat)(dct:Option Ac)(sl:Array (Option Ab))(b:Int)(u:Tok)(hb:Uu b=true) :
  Meets (Builtin.«enumerate.__new__» ⟨[.type "enumerate",.ref l],[(Mm "start",.int b u)]⟩) (fun _ R s=>s.heap.get? l=some { cls:=.type "list",dict:=dct,data:=.seq items n,slots:=sl } /\
   R (.ok (.ret (.ref (s.heap.push { cls:=.type "list_iterator",data:=.fields #[.ref l,.int 0 0] }).objs.size)))
    { s with heap:=(s.heap.push { cls:=.type "list_iterator",data:=.fields #[.ref l,.int 0 0] }).push { cls:=.type "enumerate",data:=.fields #[.none,.bool false,.ref s.heap.objs.size,AH b,.none,.none] } }) :=
 .of_wp fun prog w A R s h=>by
  obtain⟨hp,g,d,tk,os⟩:=s;obtain⟨hl,h⟩:=h
  have DR:=sub_enumerate
  have hL:Heap.IsList (Z3 ⟨hp,g,d,tk,os⟩) l items:=⟨_,hl,rfl,n,rfl⟩
  have hb':(!Builtin.SmallTypes.fitsIndex b)=false:=by rw[hb];rfl
  wp_walk using AN hl
  refine wpAny_stack_any fun st=>Ad ?_
  split
  ·rename_i c _ _ _ _ _
   cases (c == Value.type "enumerate")
   ·wp_walk using AN hl,AV hL
    exact⟨_,rfl,h⟩
   ·wp_walk using AN hl,AV hL
    exact⟨_,rfl,h⟩
  ·wp_walk using AN hl,AV hL
   exact⟨_,rfl,h⟩
section
variable {prog:Ag}{w:Ak}{A:Ap}{E:Ab->Ae->Prop}{s:Ae}
theorem initK (hl:typeLookup (.type T) "__init__"=pure (some (.builtin "object.__init__"))) (hm:Bind.madeBy (.type T)=pure (some newId)) (C5:(some newId != some "object.__new__")=true):
  Meets (Builtin.«object.__init__» ⟨self::rest,kw⟩) (fun _ R s=>s.TypeIs self T/\R (.ok (.ret .none)) s):=by
 refine Meets.of_wp fun prog w A R s hs=>?_
 obtain⟨hT,hq⟩:=hs
 cases rest with
 | nil =>
  cases kw with
  | nil=>exact Ad ⟨_,rfl,hq⟩
  | cons k kw =>
   repeat (any_goals (first | assumption | wp_step))
   exact⟨_,rfl,hq⟩
 | cons a rest =>
  repeat (any_goals (first | assumption | wp_step))
  exact⟨_,rfl,hq⟩
set_option maxHeartbeats 4000000 in
theorem V5 (ft:TypeCalled T newId initId) (HW:checkTypeCall T ⟨args,kw⟩=pure ()) (HX:checkBuiltinCall newId ⟨.type T::args,kw⟩=pure ()) (entryN:entryFor table newId=some Bn) (entryI:entryFor table initId=some Bi) (g:Meets (Bn ⟨.type T::args,kw⟩) S) (h:S A.in1 (wants Q₁ E) s) (G0:∀ obj s₁,Q₁ obj s₁->s₁.TypeIs obj T/\argsOk initId ⟨obj::args,kw⟩/\∃ Si,Meets (Bi ⟨obj::args,kw⟩) Si/\Si A.in1 (wants (fun r s₂=>r=.none/\Q obj s₂) E) s₁):
  wpAny (Aj prog w) A (call (.type T) args kw) Q E s:=by
 obtain⟨c,tl,KG⟩:=ft.mro
 have JM:=ft.made
 have DR:=ft.sub
 refine wpAny_call (codeAny_of_tree ?_)
 show wpAny _ _ (callAny (.type T) _) _ _ _
 refine Ad ⟨Code.quiet_builtin _ (by decide +kernel),codeAny_builtin F.entry_type_call ?_⟩
 rw[Around.under_plain (weight_type_call_type T args kw) (units_type_call_type T args kw)]
 have h1:=ft.notType
 have h2:=ft.canCreate
 repeat (any_goals (first | assumption | wp_step))
 refine Bb (BP ft.plain entryN (BO HX (g prog w A.in1 _ s h))) fun r s₁ hr=>?_
 cases r with
 | error e=>exact hr
 | ok fl =>
  cases fl with
  | ret obj =>
   obtain⟨hT,hok,Si,gi,KH⟩:=G0 _ _ hr
   have hli:=ft.init.lookup
   have hbi:=ft.init.bind obj
   repeat (any_goals (first | assumption | wp_step))
   refine Bb (BP ft.init.plain entryI (ft.init.check _ _ _ _ _ _ _ _ hT hok (gi prog w A.in1 _ s₁ KH))) fun r₂ s₂ hr₂=>?_
   cases r₂ with
   | error e=>exact hr₂
   | ok fl₂ =>
    cases fl₂ with
    | ret r =>
     obtain⟨rfl,hq⟩:=hr₂
     repeat (any_goals (first | assumption | wp_step))
    | _=>exact hr₂.elim
  | _=>exact hr.elim
theorem chk1 (a b:Ab):checkTypeCall "enumerate" ⟨[a],[(Mm "start",b)]⟩=pure ():=by kernel_rfl
theorem chk2 (a b:Ab):checkBuiltinCall "enumerate.__new__" ⟨[.type "enumerate",a],[(Mm "start",b)]⟩=pure ():=by kernel_rfl
theorem argsK (obj a b:Ab):argsOk "object.__init__" ⟨[obj,a],[(Mm "start",b)]⟩:=by
 unfold argsOk
 rw[signature?_of (id:="object.__init__") (n:=['_','_','t','i','n','i','_','_']) (o:=['t','c','e','j','b','o']) (by kernel_rfl) F.owner_object]
 kernel_rfl
theorem cS (hL:s.heap.IsTuple l items) (hb:Uu b=true) (h:∀ h',IsEnum h' (s.heap.objs.size+1) s.heap.objs.size b .none->h'.IsTupleIter s.heap.objs.size l 0->(∀ b o,s.heap.get? b=some o->h'.get? b=some o)->Q (.ref (s.heap.objs.size+1)) { s with heap:=h' }):
  wpAny (Aj prog w) A (call (.type "enumerate") [.ref l] [(Mm "start",.int b u)]) Q E s:=by
 obtain⟨⟨c,dct,dt,sl⟩,hl,hc,n,hd⟩:=hL
 simp only at hc hd
 subst hc hd
 refine V5 (Q₁:=fun obj s₁=>s₁.TypeIs obj "enumerate"/\Q obj s₁) Uy (chk1 _ _) (chk2 _ _) F.entry_enumerate_new F.entry_object_init (cQ l items n dct sl b u hb) ⟨hl,?_⟩
  fun obj s₁ hq=>⟨hq.1,argsK obj _ _,_,initK Uy.init.lookup Uy.made (by decide),hq.1,rfl,hq.2⟩
 have hz:(s.heap.push { cls:=.type "tuple_iterator",data:=.fields #[.ref l,.int 0 0] }).objs.size=s.heap.objs.size+1:=NZ ..
 show _/\_
 rw[hz]
 have he:IsEnum ((s.heap.push { cls:=.type "tuple_iterator",data:=.fields #[.ref l,.int 0 0] }).push { cls:=.type "enumerate",data:=.fields #[.none,.bool false,.ref s.heap.objs.size,AH b,.none,.none] }) (s.heap.objs.size+1) s.heap.objs.size b .none:=by
  have:=Ms (s.heap.push { cls:=.type "tuple_iterator",data:=.fields #[.ref l,.int 0 0] }) (o:={ cls:=.type "enumerate",data:=.fields #[.none,.bool false,.ref s.heap.objs.size,AH b,.none,.none] }) rfl
  rw[hz] at this;exact this
 exact⟨⟨_,he,rfl⟩,h _ he ⟨_,L1 _ (Ms _ rfl),rfl,rfl⟩ fun b o x=>L1 _ (L1 _ x)⟩
theorem cT (hL:s.heap.IsList l items) (hb:Uu b=true) (h:∀ h',IsEnum h' (s.heap.objs.size+1) s.heap.objs.size b .none->h'.IsListIter s.heap.objs.size l 0->(∀ b o,s.heap.get? b=some o->h'.get? b=some o)->Q (.ref (s.heap.objs.size+1)) { s with heap:=h' }):
  wpAny (Aj prog w) A (call (.type "enumerate") [.ref l] [(Mm "start",.int b u)]) Q E s:=by
 obtain⟨⟨c,dct,dt,sl⟩,hl,hc,n,hd⟩:=hL
 simp only at hc hd
 subst hc hd
 refine V5 (Q₁:=fun obj s₁=>s₁.TypeIs obj "enumerate"/\Q obj s₁) Uy (chk1 _ _) (chk2 _ _) F.entry_enumerate_new F.entry_object_init (cR l items n dct sl b u hb) ⟨hl,?_⟩
  fun obj s₁ hq=>⟨hq.1,argsK obj _ _,_,initK Uy.init.lookup Uy.made (by decide),hq.1,rfl,hq.2⟩
 have hz:(s.heap.push { cls:=.type "list_iterator",data:=.fields #[.ref l,.int 0 0] }).objs.size=s.heap.objs.size+1:=NZ ..
 show _/\_
 rw[hz]
 have he:IsEnum ((s.heap.push { cls:=.type "list_iterator",data:=.fields #[.ref l,.int 0 0] }).push { cls:=.type "enumerate",data:=.fields #[.none,.bool false,.ref s.heap.objs.size,AH b,.none,.none] }) (s.heap.objs.size+1) s.heap.objs.size b .none:=by
  have:=Ms (s.heap.push { cls:=.type "list_iterator",data:=.fields #[.ref l,.int 0 0] }) (o:={ cls:=.type "enumerate",data:=.fields #[.none,.bool false,.ref s.heap.objs.size,AH b,.none,.none] }) rfl
  rw[hz] at this;exact this
 exact⟨⟨_,he,rfl⟩,h _ he ⟨_,L1 _ (Ms _ rfl),rfl,rfl⟩ fun b o x=>L1 _ (L1 _ x)⟩
end
end L2
namespace L2
open PySem PySem.Spec PyProof.Rows
section
variable {X:Cx}{B5:List (Ac×Obj)}{σ:St}{H:Hp}{s:Ae}{h':Ao}
theorem Inv.turnedL {t':Nat}{ch:List Ac}(I:Inv X B5 σ H s)(k:∀ b u,b∉ch->s.heap.get? b=some u->h'.get? b=some u)(hf:∀ b∈ch,FpOk X B5 H b):Inv X B5 σ H { s with heap:=h',toks:=t' }:=by
 have nch:∀ b u,H b=some u->b∉ch:=fun b u e z=>by rw[(hf b z).1] at e;cases e
 refine I.step (g':=s.gens) (d':=s.drawn) (ch:=ch) (fun b hb=>⟨(hf b hb).2.2.2.1,(hf b hb).2.1,(hf b hb).2.2.2.2.1,(hf b hb).2.2.2.2.2⟩)
  (fun b u _ _ hc e _=>k b u hc e) (fun b u _ _ hc e _=>⟨u.slots,k b u hc e⟩) (fun _ _ _ _ n=>n)
  (fun b u hc e=>⟨u,k b u hc e⟩) (fun _ _ e=>e) (fun _ _ _ e=>e) (fun b ps e=>⟨#[],by rw[e];simp⟩) (fun m hm=>?_) (fun b u e=>?_) I.bare
 ·obtain⟨ob,es,ep,ho,r⟩:=hm
  exact⟨ob,es,ep,k _ ob (fun z=>(hf _ z).2.1 rfl) ho,r⟩
 ·refine(I.hok b u e).stay (fun c v hc q=>k c v ?_ q) (fun _ q=>q) fun _ _ q=>q
  rcases hc with z | z
  ·rw[z];exact nch b u e
  ·exact nch c _ z
theorem Inv.turnedNew {t':Nat}{ch:List Ac}{T:Ac}{o:HO}(I:Inv X B5 σ H s)(hT:s.heap.objs.size<=T)
  (k:∀ b u,b∉ch->s.heap.get? b=some u->h'.get? b=some u) (hf:∀ b∈ch,FpOk X B5 H b) (new:ObjOk X.prog X.w (upd H T o) h' T o) :
  Inv X B5 σ (upd H T o) { s with heap:=h',toks:=t' }:=by
 have hn:H T=none:=I.hok.fresh hT
 have nch:∀ b u,H b=some u->b∉ch:=fun b u e z=>by rw[(hf b z).1] at e;cases e
 refine I.step (g':=s.gens) (d':=s.drawn) (ch:=ch) (fun b hb=>⟨(hf b hb).2.2.2.1,(hf b hb).2.1,(hf b hb).2.2.2.2.1,(hf b hb).2.2.2.2.2⟩)
  (fun b u _ _ hc e _=>k b u hc e) (fun b u _ _ hc e _=>⟨u.slots,k b u hc e⟩) (fun b u _ e n=>by rw[LU (MI (NA (Mh e) hT))];exact n)
  (fun b u hc e=>⟨u,k b u hc e⟩) (fun b xs e=>by rw[LU (Mo e hn)];exact e) (fun b u v e=>by rw[LU (Mo e hn)];exact e) (fun b ps e=>⟨#[],by rw[LU (Mo e hn),e];simp⟩)
  (fun m hm=>?_) (fun b u e=>?_) I.bare
 ·obtain⟨ob,es,ep,ho,r⟩:=hm
  exact⟨ob,es,ep,k _ ob (fun z=>(hf _ z).2.1 rfl) ho,r⟩
 ·by_cases hb:b=T
  ·subst hb;rw[LN] at e;cases e;exact new
  ·rw[LU hb] at e
   refine(I.hok b u e).stay (fun c v hc q=>k c v ?_ q) (fun c q=>by rw[LU (Mo q hn)];exact q) fun c xs q=>by rw[LU (Mo q hn)];exact q
   rcases hc with z | z
   ·rw[z];exact nch b u e
   ·exact nch c _ z
end
theorem Draws.shift {P:Ag}{w:Ak}{A:Ap}{it:Ac}{fp:List Ac}{n:Nat}{Pv:Nat->Ab->Prop}{St:Nat->Ao->Prop}(D:A6 P w A it fp n Pv St)(b:Nat) :
  A6 P w A it fp (b+n) (fun j x=>b<=j/\Pv (j - b) x) (fun j h=>b<=j/\St (j - b) h) where
 live:=fun j h st=>D.live _ _ st.2
 frame:=fun j h h' st k=>⟨st.1,D.frame _ _ _ st.2 k⟩
 item:=fun j s Q E hj st hQ=>D.item (j - b) s Q E (by have:=st.1;omega) st.2 fun x h' tk hP hS sb=>hQ x h' tk ⟨st.1,hP⟩ ⟨by have:=st.1;omega,by rw[show j+1 - b=j - b+1 by have:=st.1;omega];exact hS⟩ sb
 done:=fun s Q E st hE=>D.done s Q E (by have:=st.2;rwa [U3] at this) hE
theorem PrX.ok (x:xs.length<=Af/\∃ its:List Ab,Vals xs its/\IsTup h a its.toArray):ObjOk P w H h a (PrX a xs):=by
 refine⟨x,?_,fun h1 h2 q k=>?_⟩
 ·obtain⟨_,_,_,o,ho,_⟩:=x
  exact⟨o,ho⟩
 ·obtain⟨z,its,r,o,ho,c⟩:=q
  exact⟨z,its,r,o,k o ho,c⟩
noncomputable def Ien (b:Nat)(xs:List V)(ok:Hp->Prop):It :=
 ⟨fun i H=>ok H/\i < xs.length,fun i H x H'=>∃ T v,H T=none/\xs[i]?=some v/\x=.ref T/\H'=upd H T (PrX T [.int ((b:Int)+(i:Int)),v]),fun i H=>ok H/\i=xs.length⟩
noncomputable def RJ (P:Ag)(w:Ak)(A:Ap)(it:Ac)(xs:List V)(St0:Nat->Ao->Prop)(H:Hp)(i:Nat)(h:Ao):Prop :=
 ∃(fp:List Ac) (Pv:Nat->Ab->Prop) (St:Nat->Ao->Prop),A6 P w A it fp xs.length Pv St/\it∈fp/\(∀ b∈fp,b=it∨H b≠none)/\St i h/\(∀ j x,Pv j x->∃ v,xs[j]?=some v/\RelV v x)/\∀ j h',St j h'->St0 j h'
theorem SA {P:Ag}{w:Ak}{K:LR}{elts:List Ay}{k:Nat}{pos:Pos}{e it:Ac}{xs:List V}{b:Nat}{ok:Hp->Prop}{St0:Nat->Ao->Prop}(HY:e≠it)
  (hD:∀(X:Cx),X.prog=P->X.w=w->X.K=K->X.calm=true->∀(i:Nat) (B5:List (Ac×Obj)) (s:Ae) (σ:St) (H:Hp),Inv X B5 σ H s->ok H->H it=none->St0 i s.heap->RJ P w X.A.in1 it xs St0 H i s.heap)
  (D3:∀ i h,St0 i h->∃ o,h.get? it=some o/\∀ v,o.data≠.cell v) (G1:∀ i h h',St0 i h->(∀ o,h.get? it=some o->h'.get? it=some o)->St0 i h') :
  Turn P w K (.Tuple elts k pos) (Ien b xs ok) [e,it] e (fun i h=>(∃ old,IsEnum h e it ((b+i:Nat):Int) old)/\St0 i h) where
 mem:=by simp
 obj:=fun i h st c hc=>by
  rcases Mc.mp hc with z | z
  ·obtain⟨⟨old,he⟩,_⟩:=st
   rw[z]
   exact⟨_,he,fun v q=>by
    have q':Data.fields _=Data.cell v:=q
    cases q'⟩
  ·have z':c=it:=by simpa using z
   rw[z']
   exact D3 i h st.2
 keep:=fun i h h' st kk=>by
  obtain⟨⟨old,he⟩,hs⟩:=st
  exact⟨⟨old,kk e (by simp) _ he⟩,G1 i h h' hs fun o q=>kk it (by simp) o q⟩
 item:=by
  intro X hP hw hK hc i B5 s σ H E I hf st hg
  subst hP hw hK
  obtain⟨⟨old,he⟩,hs⟩:=st
  obtain⟨hok,Cm⟩:=hg
  obtain⟨fp,Pv,St,D,IC,ID,ED,G2,FL⟩:=hD X rfl rfl rfl hc i B5 s σ H I hok (hf it (by simp)).1 hs
  have IE:e∉fp:=fun z=>by
   rcases ID e z with q | q
   ·exact HY q
   ·exact q (hf e (by simp)).1
  have W:=WalksT.enumerateD (Draws.shift D b) e HY IE IC
  refine W.item (b+i) s _ E (by omega) ⟨⟨old,he⟩,by omega,by rw[U3];exact ED⟩ fun T vals h1 tk IF hT Gd hm hk=>⟨.ref T,rfl,?_⟩
  obtain⟨t,x,⟨_,JN⟩,rfl⟩:=IF
  rw[U3] at JN
  obtain⟨v,hv,rv⟩:=G2 _ _ JN
  have apart:=W.apart _ _ _ hm
  refine W.go elts k pos (b+i) T _ _ E hm fun h2 st2 G3=>?_
  have kk:∀ c u,c∉[e,it]->s.heap.get? c=some u->h2.get? c=some u:=fun c u hc q=>G3 c u hc (hk c u hc q)
  have tup2:IsTup h2 T #[.int ((b+i:Nat):Int) t,x]:=by
   obtain⟨o,ho,r⟩:=Gd
   exact⟨o,G3 T o apart ho,r⟩
  refine⟨.ref T,upd H T (PrX T [.int ((b:Int)+(i:Int)),v]),I.turnedNew (t':=tk) hT kk hf ?_,rfl,⟨T,v,I.hok.fresh hT,hv,rfl,rfl⟩,?_,?_⟩
  ·refine PrX.ok ⟨by show 2<=Af;decide,[.int ((b+i:Nat):Int) t,x],.cons ⟨t,?_⟩ (.cons rv .nil),tup2⟩
   rw[Int.natCast_add]
  ·obtain⟨⟨old2,KI⟩,_,DG⟩:=st2
   refine⟨⟨old2,KI⟩,FL _ _ ?_⟩
   rwa [show b+i+1 - b=i+1 by omega] at DG
  ·intro c hc
   have Cm:c < s.heap.objs.size:=by
    rcases Mc.mp hc with z | z
    ·rw[z];exact Mh he
    ·have z':c=it:=by simpa using z
     rw[z']
     obtain⟨o,ho,_⟩:=D3 i _ hs
     exact Mh ho
   rw[LU (MI (NA Cm hT))]
   exact(hf c hc).1
 done:=by
  intro X hP hw hK hc i B5 s σ H E I hf st hg
  subst hP hw hK
  obtain⟨⟨old,he⟩,hs⟩:=st
  obtain⟨hok,rfl⟩:=hg
  obtain⟨fp,Pv,St,D,IC,ID,ED,G2,FL⟩:=hD X rfl rfl rfl hc _ B5 s σ H I hok (hf it (by simp)).1 hs
  have IE:e∉fp:=fun z=>by
   rcases ID e z with q | q
   ·exact HY q
   ·exact q (hf e (by simp)).1
  have W:=WalksT.enumerateD (Draws.shift D b) e HY IE IC
  exact W.done s _ E ⟨⟨old,he⟩,by omega,by rw[U3];exact ED⟩ fun h1 tk hk=>⟨rfl,I.turnedL hk hf⟩
 self:=fun A i s Q E st q=>by
  obtain⟨⟨old,he⟩,_⟩:=st
  exact Bc he q
section
variable {X:Cx}
theorem V6 (hh:A.handled=none) (st:h.IsStrIter it (AQ z) z t i):
  RJ P w A it (chs z) (fun i h=>h.IsStrIter it (AQ z) z t i) H i h:=by
 have Ca:(chs z).length=z.cps.size:=by unfold chs;simp
 have rel:∀(j:Nat) (x:Ab),(∃ c u,z.cps[j]?=some c/\x=Value.str ⟨#[c]⟩ u)->∃ v,(chs z)[j]?=some v/\RelV v x:=fun j x hx=>by
  obtain⟨c,u,hc,rfl⟩:=hx
  exact Sy ⟨c,u,hc,rfl⟩
 cases ha:z.cps.all (· < 128)
 ·have e:AQ z="str_iterator":=by simp[AQ,ha]
  rw[e] at st ⊢
  refine⟨[it],_,_,?_,by simp,fun b hb=>.inl (by simpa using hb),st,rel,fun _ _ q=>q⟩
  rw[Ca]
  exact Draws.strWide hh it z t
 ·have e:AQ z="str_ascii_iterator":=by simp[AQ,ha]
  rw[e] at st ⊢
  refine⟨[it],_,_,?_,by simp,fun b hb=>.inl (by simpa using hb),st,rel,fun _ _ q=>q⟩
  rw[Ca]
  exact Draws.strAscii hh it z t
def enIt (R:It->Hp->Prop):V->Hp->Prop:=fun x H1=>match x with
 | .str z=>R (Ien 0 (chs z) fun _=>True) H1
 | _=>False
def iEnum (te:TE):TI:=fun σ H R=>te σ H (enIt R)
theorem V7 (hg:Gl X "enumerate") (hm:X.mg "enumerate"=none) (ha:PE X a ta) (hs:Ah [a] X.env=[(false,Ax a X.env)]:=by rfl):
  PI X (.Tuple elts k tpos) (.Call (.Name "enumerate" p) [a] [] pos) (iEnum ta):=by
 intro B5 s σ H R I h
 refine Call_ (Pt I hg hm boot_enumerate (Rv ?_ hs rfl))
 rw[hs]
 show wpAny _ _ (Bx ((false,Ax a X.env)::AE pos (Ah [] X.env))) _ _ s
 refine Pr (thn (ha B5 s σ H _ I h) fun u s1 ⟨x,H1,I1,ru,q1⟩=>Rw ?_)
 unfold enIt at q1
 split at q1
 ·rename_i z
  obtain⟨t,rfl⟩:=ru
  refine call_enumerate_str fun h1 he CM hsz hk=>?_
  refine Bc he ?_
  have I2:Inv X B5 σ H1 { s1 with heap:=h1 }:=I1.kept (t':=s1.toks) hk
  refine⟨s1.heap.objs.size+1,[s1.heap.objs.size+1,s1.heap.objs.size],_,_,H1,rfl,I2,SA (b:=0) (ok:=fun _=>True) (xs:=chs z) (St0:=fun i h=>h.IsStrIter s1.heap.objs.size (AQ z) z t i) (aR _) ?_ ?_ ?_,⟨⟨.none,he⟩,CM⟩,?_,q1⟩
  ·intro X' h1 h2 h3 hc i B5 s σ H I _ _ st
   exact h1▸h2▸V6 (A:=X'.A.in1) (show X'.A.in1.handled=none from I.ok.hd hc) st
  ·intro i h st
   obtain⟨o,ho,hc,hd⟩:=st
   exact⟨o,ho,fun v q=>by rw[hd] at q;cases q⟩
  ·intro i h h' st kk
   obtain⟨o,ho,r⟩:=st
   exact⟨o,kk o ho,r⟩
  ·intro b hb
   have:s1.heap.objs.size<=b:=by
    rcases Mc.mp hb with z | z
    ·rw[z];exact Qw _
    ·have z':b=s1.heap.objs.size:=by simpa using z
     rw[z'];exact LZ _
   exact I1.fpOk this (I1.hok.fresh this)
 ·exact q1.elim
end
def PV (n:Nat)(R:It->Hp->Prop):V->Hp->Prop:=fun x H1=>match x with
 | .ref a=>(∃ xs,H1 a=some (.lst xs)/\R (Ien n xs fun H=>H a=some (.lst xs)) H1)∨(∃ xs,H1 a=some (.tup xs)/\R (Ien n xs fun H=>H a=some (.tup xs)) H1)
 | _=>False
def V8 (te ts:TE):TI:=fun σ H R=>te σ H fun x H1=>ts σ H1 fun y H2=>∃ n:Nat,y=.int (n:Int)/\n < 1000000/\PV n R x H2
theorem cU (hc:X.calm=true) (I:Inv X B5 σ H s) (h:SqL X.K H a xs) (hn:H it=none) (ha:H a≠none) (st:s.heap.IsListIter it a i):
  RJ X.prog X.w X.A.in1 it xs (fun i h=>h.IsListIter it a i) H i s.heap:=by
 obtain⟨its,rv,pl,hz⟩:=I.list h
 have hl:its.toArray.size=xs.length:=by rw[Mu];exact rv.length.symm
 have C5:a≠it:=fun z=>ha (z▸hn)
 refine⟨[it,a],_,_,hl▸Draws.list (A:=X.A.in1) (show X.A.in1.handled=none from I.ok.hd hc) it a C5 its.toArray,by simp,fun b hb=>?_,⟨st,pl.isList⟩,fun j x hx=>?_,fun _ _ q=>q.1⟩
 ·rcases Mc.mp hb with z | z
  ·exact .inl z
  ·have z':b=a:=by simpa using z
   rw[z'];exact .inr ha
 ·have hx':its[j]?=some x:=by simpa using hx
  have hj:j < xs.length:=by rw[rv.length];exact(MJ.mp hx').1
  obtain⟨u,hu,ru⟩:=rv.get (i:=j) (x:=xs[j]) (by simp[hj])
  rw[hx'] at hu
  cases hu
  exact⟨xs[j],by simp[hj],ru⟩
theorem QJ (hc:X.calm=true) (I:Inv X B5 σ H s) (h:SqT X.K H a xs) (hn:H it=none) (ha:H a≠none) (st:s.heap.IsTupleIter it a i):
  RJ X.prog X.w X.A.in1 it xs (fun i h=>h.IsTupleIter it a i) H i s.heap:=by
 obtain⟨its,rv,pl,hz⟩:=I.tuple h
 have hl:its.toArray.size=xs.length:=by rw[Mu];exact rv.length.symm
 have C5:a≠it:=fun z=>ha (z▸hn)
 refine⟨[it,a],_,_,hl▸cP (A:=X.A.in1) (show X.A.in1.handled=none from I.ok.hd hc) it a C5 its.toArray,by simp,fun b hb=>?_,⟨st,pl⟩,fun j x hx=>?_,fun _ _ q=>q.1⟩
 ·rcases Mc.mp hb with z | z
  ·exact .inl z
  ·have z':b=a:=by simpa using z
   rw[z'];exact .inr ha
 ·have hx':its[j]?=some x:=by simpa using hx
  have hj:j < xs.length:=by rw[rv.length];exact(MJ.mp hx').1
  obtain⟨u,hu,ru⟩:=rv.get (i:=j) (x:=xs[j]) (by simp[hj])
  rw[hx'] at hu
  cases hu
  exact⟨xs[j],by simp[hj],ru⟩
section
variable {X:Cx}
theorem V9 (hg:Gl X "enumerate") (hm:X.mg "enumerate"=none) (ha:PE X a ta) (hb:PE X b tb) (hs:Ah [a] X.env=[(false,Ax a X.env)]:=by rfl):
  PI X (.Tuple elts k tpos) (.Call (.Name "enumerate" p) [a] [⟨some "start",b,kpos⟩] pos) (V8 ta tb):=by
 intro B5 s σ H R I h
 refine AS (Pt I hg hm boot_enumerate ?_)
 refine PySem.W.callWith_of (P:=fun _=>True) (by rw[hs];rfl) (fun _ _=>⟨.machine,.inr (.inl rfl),PySem.W.Looks.of_pure rfl⟩) (PyProof.Rows.evalArgs_kw2 (by rfl) ?_ hs)
 rw[hs]
 show wpAny _ _ (Bx ((false,Ax a X.env)::AE pos (Ah [] X.env))) _ _ s
 refine Pr (thn (ha B5 s σ H _ I h) fun u s1 ⟨x,H1,I1,ru,q1⟩=>Rw ?_)
 show wpAny _ _ (evalAll ((do let v <- Ax b X.env;BD pos;pure v)::[])) _ _ s1
 refine wpAny_evalAll_cons (Aa (thn (hb B5 s1 σ H1 _ I1 q1) fun u2 s2 ⟨y,H2,I2,ry,n,ey,hn,q2⟩=>Aa (Bl (Ad (wpAny_evalAll_nil ⟨trivial,?_⟩)))))
 subst ey
 obtain⟨t,rfl⟩:=ry
 show wpAny _ _ (call (.type "enumerate") [u] [(Mm "start",.int (n:Int) t)]) _ _ s2
 have DZ:Uu (n:Int)=true:=by
  unfold Uu
  have e:((2:Int) ^ 63)=9223372036854775808:=by decide
  simp only[e,Nn,decide_eq_true_eq]
  omega
 unfold PV at q2
 split at q2
 ·rename_i l _
  cases ru
  have fp:∀ b∈[s2.heap.objs.size+1,s2.heap.objs.size],FpOk X B5 H2 b:=fun b hb=>by
   have:s2.heap.objs.size<=b:=by
    rcases Mc.mp hb with z | z
    ·rw[z];exact Qw _
    ·have z':b=s2.heap.objs.size:=by simpa using z
     rw[z'];exact LZ _
   exact I2.fpOk this (I2.hok.fresh this)
  rcases q2 with ⟨xs,hl,q2⟩ | ⟨xs,hl,q2⟩
  ·obtain⟨its,rv,pl,hz⟩:=I2.list (SqL.of hl)
   refine cT pl.isList DZ fun h1 he CM hk=>?_
   refine Bc he ?_
   refine⟨s2.heap.objs.size+1,[s2.heap.objs.size+1,s2.heap.objs.size],_,_,H2,rfl,I2.kept (t':=s2.toks) hk,SA (b:=n) (ok:=fun H=>H l=some (.lst xs)) (xs:=xs) (St0:=fun i h=>h.IsListIter s2.heap.objs.size l i) (aR _) ?_ ?_ ?_,⟨⟨.none,he⟩,CM⟩,fp,q2⟩
   ·intro X' h1 h2 h3 hc i B5 s σ H I ok hn st
    exact h1▸h2▸cU hc I (SqL.of ok) hn (by rw[ok];exact fun z=>nomatch z) st
   ·intro i h st
    obtain⟨o,ho,hc,hd⟩:=st
    exact⟨o,ho,fun v q=>by rw[hd] at q;cases q⟩
   ·intro i h h' st kk
    exact st.at kk
  ·obtain⟨its,rv,pl,hz⟩:=I2.tuple (SqT.of hl)
   refine cS pl DZ fun h1 he CM hk=>?_
   refine Bc he ?_
   refine⟨s2.heap.objs.size+1,[s2.heap.objs.size+1,s2.heap.objs.size],_,_,H2,rfl,I2.kept (t':=s2.toks) hk,SA (b:=n) (ok:=fun H=>H l=some (.tup xs)) (xs:=xs) (St0:=fun i h=>h.IsTupleIter s2.heap.objs.size l i) (aR _) ?_ ?_ ?_,⟨⟨.none,he⟩,CM⟩,fp,q2⟩
   ·intro X' h1 h2 h3 hc i B5 s σ H I ok hn st
    exact h1▸h2▸QJ hc I (SqT.of ok) hn (by rw[ok];exact fun z=>nomatch z) st
   ·intro i h st
    obtain⟨o,ho,hc,hd⟩:=st
    exact⟨o,ho,fun v q=>by rw[hd] at q;cases q⟩
   ·intro i h h' st kk
    exact st.at kk
 ·exact q2.elim
end
theorem SD {b:Nat}{xs:List V}{ok:Hp->Prop}{g:TG}{tb:TS}{D:Ends}{σ:St}{H:Hp}(Pv:Nat->St->Hp->Prop)(h0:Pv 0 σ H)(hok:∀ i σ H,i<=xs.length->Pv i σ H->ok H)
  (hs:∀ i v σ H T,xs[i]?=some v->Pv i σ H->H T=none->g (.ref T) σ (upd H T (PrX T [.int ((b:Int)+(i:Int)),v])) fun σ2 H2=>tb { D with nx:=Pv (i+1),ct:=Pv (i+1),bk:=D.nx } σ2 H2) (hd:∀ σ H,Pv xs.length σ H->D.nx σ H) :
  ∃ W:Nat->Nat->St->Hp->Prop,(∃ m,W 0 m σ H)/\∀ i m σ H,W i m σ H ->
   ((Ien b xs ok).stop i H/\D.nx σ H)∨((Ien b xs ok).go i H/\∃ N:St->Hp->Prop,(∀ σ' H',N σ' H'->∃ m',m' < m/\W (i+1) m' σ' H')/\∀ x H',(Ien b xs ok).yld i H x H'->g x σ H' fun σ2 H2=>tb { D with nx:=N,ct:=N,bk:=D.nx } σ2 H2):=by
 refine⟨fun i m σ H=>m=xs.length - i/\i<=xs.length/\Pv i σ H,⟨xs.length,by simp,MR _,h0⟩,fun i m σ' H' w=>?_⟩
 obtain⟨rfl,hi,p⟩:=w
 have ho:=hok i σ' H' hi p
 by_cases Cm:i < xs.length
 ·refine .inr ⟨⟨ho,Cm⟩,Pv (i+1),fun σ2 H2 p'=>⟨xs.length - (i+1),by omega,rfl,Cm,p'⟩,fun x H2 y=>?_⟩
  obtain⟨T,v,hT,hv,rfl,rfl⟩:=y
  exact hs i v σ' H' T hv p hT
 ·have e:i=xs.length:=by omega
  exact .inl ⟨⟨ho,e⟩,hd σ' H' (e▸p)⟩
section
variable {σ:St}{H:Hp}{D:Ends}{Q:VK}{QB:Bool->Hp->Prop}{QA:List V->Hp->Prop}
theorem OW (h:t { D with nx:=u D } σ H):tSeq t u D σ H:=h
theorem i_ifs (h:c σ H fun b H1=>if b=true then t D σ H1 else u D σ H1):tIfS c t u D σ H:=h
theorem i_next (h:D.nx σ H):tNext D σ H:=h
theorem i_ret (h:te σ H D.rt):tRet te D σ H:=h
theorem i_drop (h:te σ H fun _ H1=>D.nx σ H1):tDrop te D σ H:=h
theorem i_asg (h:te σ H fun x H1=>g x σ H1 D.nx):tAsg te g D σ H:=h
theorem MY {i:Nat}{v:V}{K:St->Hp->Prop}(h:K (σ.set i (some v)) H):N7 i v σ H K:=h
theorem i_gsub {to ti:TE}{t:TSet}{v:V}{K:St->Hp->Prop}(h:to σ H fun o H1=>ti σ H1 fun i H2=>t o i v H2 fun H3=>K σ H3):gSub to ti t v σ H K:=h
theorem SE {K':LR}{n:Nat}{t:TGs}{a:Ac}{xs:List V}{K:St->Hp->Prop}(h1:H a=some (.tup xs))(h2:xs.length=n)(h:t xs σ H K):gTup K' n t (.ref a) σ H K:=⟨a,xs,rfl,.inl (SqT.of h1),h2,h⟩
theorem PX {K':LR}{n:Nat}{t:TGs}{a:Ac}{xs:List V}{K:St->Hp->Prop}(h1:H a=some (PrX a xs))(h2:xs.length=n)(h:t xs σ H K):gTup K' n t (.ref a) σ H K:=⟨a,xs,rfl,.inr h1,h2,h⟩
theorem Pl {K:St->Hp->Prop}(h:K σ H):gNil [] σ H K:=⟨rfl,h⟩
theorem M0 {t:TG}{u:TGs}{v:V}{r:List V}{K:St->Hp->Prop}(h:t v σ H fun σ' H'=>u r σ' H' K):gCons t u (v::r) σ H K:=⟨v,r,rfl,h⟩
theorem i_for (h:wi σ H fun J H1=>∃ W:Nat->Nat->St->Hp->Prop,(∃ m,W 0 m σ H1)/\∀ i m σ H,W i m σ H ->
 (J.stop i H/\D.nx σ H)∨(J.go i H/\∃ N:St->Hp->Prop,(∀ σ' H',N σ' H'->∃ m',m' < m/\W (i+1) m' σ' H')/\∀ x H',J.yld i H x H'->g x σ H' fun σ2 H2=>tb { D with nx:=N,ct:=N,bk:=D.nx } σ2 H2)):tFor wi g tb D σ H:=h
theorem i_var (e:σ[i]?=some (some v)) (h:Q v H):tVar i σ H Q:=⟨v,e,h⟩
theorem i_c (h:Q v H):tC v σ H Q:=h
theorem i_op (h:ta σ H fun x H1=>tb σ H1 fun y H2=>r x y H2 Q):tOp r ta tb σ H Q:=h
theorem i_un (h:ta σ H fun x H1=>r x H1 Q):tUn r ta σ H Q:=h
theorem i_test (h:t σ H fun x H'=>∃ k,x=.bl k/\QB k H'):R8 t σ H QB:=h
theorem i_bl {b:Bool}{P:Bool->Prop}(h:P b):∃ k,V.bl b=.bl k/\P k:=⟨b,rfl,h⟩
theorem i_and (h:t σ H fun c H1=>if c=true then u σ H1 QB else QB false H1):tAnd t u σ H QB:=h
theorem i_or (h:t σ H fun c H1=>if c=true then QB true H1 else u σ H1 QB):tOr t u σ H QB:=h
theorem i_not (h:t σ H fun c H1=>QB (!c) H1):tNot t σ H QB:=h
theorem i_andV (h:ta σ H fun x H1=>∃ c,x=.bl c/\if c=true then tb σ H1 Q else Q (.bl false) H1):tAndV ta tb σ H Q:=h
theorem i_orV (h:ta σ H fun x H1=>∃ c,x=.bl c/\if c=true then Q (.bl true) H1 else tb σ H1 Q):tOrV ta tb σ H Q:=h
theorem i_ifE (h:t σ H fun c H1=>if c=true then ta σ H1 Q else tb σ H1 Q):tIf t ta tb σ H Q:=h
theorem i_chain (h:ta σ H fun x H1=>tb σ H1 fun y H2=>r x y H2 fun z H3=>∃ k,z=.bl k/\(if k=true then tc σ H3 fun w' H4=>r' y w' H4 Q else Q (.bl false) H3)):R9 r r' ta tb tc σ H Q:=h
theorem i_nil (h:QA [] H):tNil σ H QA:=h
theorem i_cons (h:ta σ H fun x H1=>tr σ H1 fun xs H2=>QA (x::xs) H2):Sb ta tr σ H QA:=h
theorem i_cb (h:t σ H fun vs H1=>r vs H1 Q):tCB r t σ H Q:=h
theorem i_call (h:t σ H fun vs H1=>sp (vs++dvs) H1 Q E):Sc sp dvs E t σ H Q:=h
theorem i_lst (h:t σ H fun xs H1=>xs.length<=Af/\∀ p,H1 p=none->Q (.ref p) (upd H1 p (.lst xs))):tLst t σ H Q:=h
theorem i_tup (h:t σ H fun xs H1=>xs.length<=Af/\∀ p,H1 p=none->Q (.ref p) (upd H1 p (.tup xs))):tTup t σ H Q:=h
theorem i_bm {K:LR}{T:String}{r:V->List V->Hp->VK->Prop}{to:TE}{t:TA}(h:to σ H fun x H1=>tyV K T x H1/\t σ H1 fun xs H2=>r x xs H2 Q):tBM K T r to t σ H Q:=h
theorem i_bm0 {K:LR}{T:String}{r:V->List V->Hp->VK->Prop}{to:TE}(h:to σ H fun x H1=>tyV K T x H1/\r x [] H1 Q):tBM0 K T r to σ H Q:=h
theorem i_sl (h:te σ H fun x H1=>tl σ H1 fun l H2=>th σ H2 fun u H3=>r x l u H3 Q):tSl r te tl th σ H Q:=h
theorem cV {K:Option Int->Hp->Prop}(h:K none H):VC σ H K:=h
theorem i_part {t:TE}{K:Option Int->Hp->Prop}(h:t σ H fun x H1=>∃ i,x=.int i/\K (some i) H1):tPart t σ H K:=h
theorem i_exI {i:Int}{P:Int->Prop}(h:P i):∃ k,V.int i=.int k/\P k:=⟨i,rfl,h⟩
theorem i_comp (h:wi σ H fun J H1=>∀ p,H1 p=none->QG J p g tc te Q (pick ix σ) (upd H1 p (.lst []))):QH ix wi g tc te σ H Q:=h
theorem i_true (h:QB true H):tTrue σ H QB:=h
theorem i_rng1 (h:ta σ H fun vs H1=>∃ j:Int,vs=[.int j]/\-(2 ^ 62)<=j/\j < 2 ^ 62/\R (Itr 0 j.toNat) H1):iRng1 ta σ H R:=h
theorem p62:((2:Int) ^ 62)=4611686018427387904:=by decide
theorem p63:((2:Int) ^ 63)=9223372036854775808:=by decide
theorem i_r1 {j:Int}{P:Int->Prop}(h1:-1000000000<=j/\j<=1000000000)(h:P j):∃ k:Int,[V.int j]=[.int k]/\-(2 ^ 62)<=k/\k < 2 ^ 62/\P k:=⟨j,rfl,by rw[p62];omega,by rw[p62];omega,h⟩
theorem i_rng2 (h:ta σ H fun vs H1=>∃ i j:Int,vs=[.int i,.int j]/\(-(2 ^ 62)<=i/\i < 2 ^ 62/\-(2 ^ 62)<=j/\j < 2 ^ 62)/\R (Itr i (j - i).toNat) H1):iRng2 ta σ H R:=h
theorem i_r2 {i j:Int}{P:Int->Int->Prop}(h1:-1000000000<=i/\i<=1000000000/\-1000000000<=j/\j<=1000000000)(h:P i j):∃ a b:Int,[V.int i,V.int j]=[.int a,.int b]/\(-(2 ^ 62)<=a/\a < 2 ^ 62/\-(2 ^ 62)<=b/\b < 2 ^ 62)/\P a b:=⟨i,j,rfl,by rw[p62];omega,h⟩
theorem i_any {K:LR}{te:TE}{R:It->Hp->Prop}(h:te σ H (OV K R)):iAny K te σ H R:=h
theorem i_anyS {K:LR}{R:It->Hp->Prop}{z:Str}(h:R (Its (chs z)) H):OV K R (.str z) H:=h
theorem Oe {K:LR}{R:It->Hp->Prop}{a:Ac}{xs:List V}(h1:SqL K H a xs)(h:R (Itl K a) H):OV K R (.ref a) H:=.inl ⟨xs,h1,h⟩
theorem V_ {K:LR}{R:It->Hp->Prop}{a:Ac}{xs:List V}(h1:SqT K H a xs)(h:R (Itt K a) H):OV K R (.ref a) H:=.inr ⟨xs,h1,h⟩
theorem i_enum (h:te σ H (enIt R)):iEnum te σ H R:=h
theorem i_enumS (h:te σ H fun x H1=>ts σ H1 fun y H2=>∃ n:Nat,y=.int (n:Int)/\n < 1000000/\PV n R x H2):V8 te ts σ H R:=h
theorem i_enSL (h1:H a=some (.lst xs)) (h:R (Ien n xs fun H=>H a=some (.lst xs)) H):PV n R (.ref a) H:=.inl ⟨xs,h1,h⟩
theorem i_enST (h1:H a=some (.tup xs)) (h:R (Ien n xs fun H=>H a=some (.tup xs)) H):PV n R (.ref a) H:=.inr ⟨xs,h1,h⟩
theorem i_enS (h:R (Ien 0 (chs z) fun _=>True) H):enIt R (.str z) H:=h
theorem i_tyS {K:LR}{z:Str}{R:Prop}(h:R):tyV K "str" (.str z) H/\R:=⟨rfl,h⟩
theorem i_tyL {K:LR}{p:Ac}{xs:List V}{R:Prop}(h1:SqL K H p xs)(h:R):tyV K "list" (.ref p) H/\R:=⟨.inl ⟨rfl,xs,h1⟩,h⟩
theorem i_fI0 (h:Q (g i j) H):fI0 g (.int i) (.int j) H Q:=h
theorem i_fI (c:C i j) (h:Q (g i j) H):fI C g (.int i) (.int j) H Q:=⟨c,h⟩
theorem i_addI (h:Q (.int (i+j)) H):fAdd (.int i) (.int j) H Q:=h
theorem V' (c:i.length+j.length<=Af) (h:Q (.str (i++j)) H):fAdd (.str i) (.str j) H Q:=⟨c,h⟩
theorem OX (h1:H a=some (.lst xs)) (h2:H b=some (.lst ys)) (c:xs.length+ys.length<=Af) (h:∀ p,H p=none->Q (.ref p) (upd H p (.lst (xs++ys)))):fAdd (.ref a) (.ref b) H Q:=by
 show (match H a,H b with | some (.lst xs),some (.lst ys)=>_ | some (.tup xs),some (.tup ys)=>_ | _,_=>_)
 rw[h1,h2];exact⟨c,h⟩
theorem i_mulI (c:CMul i j) (h:Q (.int (i * j)) H):fMul (.int i) (.int j) H Q:=⟨c,h⟩
theorem i_mulS (c:z.length * n.toNat<=1000000/\-1000000000<=n/\n<=1000000000) (h:Q (.str (Txt.mul z n)) H):fMul (.str z) (.int n) H Q:=⟨c.1,by rw[p62];omega,by rw[p62];omega,h⟩
theorem i_mulL (h1:H a=some (.lst xs)) (c:-1000000000<=k/\k<=1000000000/\xs.length * k.toNat<=1000000) (h:∀ p,H p=none->Q (.ref p) (upd H p (.lst (Mw k.toNat xs).flatten))):fMul (.ref a) (.int k) H Q:=by
 show (match H a with | some (.lst xs)=>_ | _=>_)
 rw[h1];exact⟨by rw[p63];omega,by rw[p63];omega,MX c.2.2 (by decide),h⟩
theorem i_ixK {K:LR}{p:Ac}{i:Int}{xs:List V}{v:V}(h1:SqL K H p xs)(h2:atI xs i=some v)(h:Q v H):fIx K (.ref p) (.int i) H Q:=⟨xs,v,.inl h1,h2,h⟩
theorem OY {K:LR}{p:Ac}{i:Int}{xs:List V}{v:V}(h1:seqR H p=some xs)(h2:atI xs i=some v)(h:Q v H):fIx K (.ref p) (.int i) H Q:=⟨xs,v,UJ h1,h2,h⟩
theorem OZ {K:LR}{z:Str}{i:Int}{c:Nat}(hz:z.length<=Af)(h2:atI z.cps.toList i=some c)(h:Q (.str ⟨#[c]⟩) H):fIx K (.str z) (.int i) H Q:=by
 refine⟨hz,?_⟩
 rw[h2];exact h
theorem QK {p:Ac}{k:Int}{v:V}{xs:List V}{j:Nat}{K:Hp->Prop}(h1:H p=some (.lst xs))(h2:ixN xs.length k=some j)(h:K (upd H p (.lst (xs.set j v)))):fSet (.ref p) (.int k) v H K:=by
 show (match H p with | some (.lst xs)=>(match ixN xs.length k with | some j=>K (upd H p (.lst (xs.set j v))) | none=>False) | _=>False)
 rw[h1];dsimp only;rw[h2];exact h
theorem i_neg (h:Q (.int (-i)) H):fNeg (.int i) H Q:=h
theorem i_eq (c:scal x y=true) (h:Q (.bl (decide (x=y))) H):fEq x y H Q:=.inl ⟨c,h⟩
theorem i_ne (c:scal x y=true) (h:Q (.bl (!decide (x=y))) H):fNe x y H Q:=.inl ⟨c,h⟩
theorem i_eqD (h1:Is H x d) (h2:Is H y e) (c:okD d) (c2:okD e) (h:Q (.bl (eqD d e)) H):fEq x y H Q:=.inr ⟨d,e,h1,h2,c,c2,h⟩
theorem i_neE (h1:Is H x d) (h2:Is H y e) (c:okD d) (c2:okD e) (h:Q (.bl (!eqD d e)) H):fNe x y H Q:=.inr ⟨d,e,h1,h2,c,c2,h⟩
theorem i_is (h:Q (.bl (decide (x=.non))) H):fIs x .non H Q:=⟨rfl,h⟩
theorem cW (h:Q (.bl (!decide (x=.non))) H):VT x .non H Q:=⟨rfl,h⟩
theorem i_inS (h:Q (.bl (xor neg (Ry j i))) H):fIn neg (.str i) (.str j) H Q:=h
theorem SF (h1:seqR H p=some xs) (c:OT x=true/\xs.all OT=true) (h:Q (.bl (if neg then !inV x xs else inV x xs)) H):fIn neg x (.ref p) H Q:=by
 unfold fIn
 cases x <;> (dsimp only;rw[h1];exact⟨c.1,c.2,h⟩)
theorem Wa {K:LR}{z:Str}(hz:z.length<=Af)(h:Q (.int z.length) H):fLen K [.str z] H Q:=⟨hz,h⟩
theorem i_lenK {K:LR}{p:Ac}{xs:List V}(h1:SqL K H p xs)(h:Q (.int xs.length) H):fLen K [.ref p] H Q:=⟨xs,.inl h1,h⟩
theorem i_lenR {K:LR}{p:Ac}{xs:List V}(h1:seqR H p=some xs)(h:Q (.int xs.length) H):fLen K [.ref p] H Q:=⟨xs,UJ h1,h⟩
theorem i_1I (h:Q (g i) H):f1I g [.int i] H Q:=h
theorem i_2I (h:Q (g i j) H):f2I g [.int i,.int j] H Q:=h
theorem i_intB (h:Q (.int (if b then 1 else 0)) H):fInt [.bl b] H Q:=h
theorem SG (h1:seqR H p=some xs) (h:∀ q,H q=none->Q (.ref q) (upd H q (.lst xs))):Su [.ref p] H Q:=by
 show (match seqR H p with | some ys=>GetL H ys Q | none=>False)
 rw[h1];exact h
theorem Wb (h1:seqR H p=some xs) (h:GetT H xs Q):Sv [.ref p] H Q:=by
 show (match seqR H p with | some ys=>GetT H ys Q | none=>False)
 rw[h1];exact h
theorem i_slS {K:LR}{z:Str}{lo hi:Option Int}(hz:z.length<=Af)(h:Q (.str (U_ z lo hi)) H):fSl K (.str z) lo hi H Q:=⟨hz,h⟩
theorem Of {K:LR}{a:Ac}{xs:List V}{lo hi:Option Int}(h1:SqL K H a xs)(h:∀ q,H q=none->Q (.ref q) (upd H q (.lst (cutV xs lo hi)))):fSl K (.ref a) lo hi H Q:=.inl ⟨xs,h1,h⟩
theorem i_truB (h:QB b H):fTru (.bl b) H QB:=h
theorem QL (h1:H l=some (.lst xs)) (c:xs.length < Af) (h:Q .non (upd H l (.lst (xs++[y])))):Sw (.ref l) [y] H Q:=by
 show (match H l with | some (.lst xs)=>xs.length < Af/\Q .non (upd H l (.lst (xs++[y]))) | _=>False)
 rw[h1];exact⟨c,h⟩
theorem RK (h1:lstR H p=some (ys.map V.str)) (c:(ys.map (·.length)).sum+ys.length * z.length<=16777216) (h:Q (.str (Qh z ys)) H):Sx (.str z) [.ref p] H Q:=by
 show (match lstR H p with | some xs=>(match strs? xs with | some ys=>(ys.map (·.length)).sum+ys.length * z.length<=16777216/\Q (.str (Qh z ys)) H | none=>False) | none=>False)
 rw[h1];dsimp only;rw[strs?_map];exact⟨c,h⟩
theorem i_SS (h:Q (g z y) H):fSS g (.str z) [.str y] H Q:=h
theorem i_SSI (h:Q (g z y i) H):fSSI g (.str z) [.str y,.int i] H Q:=h
theorem QM (h1:lstR H p=some (bs.map V.bl)) (h:Q (.bl (f bs)) H):fAll f [.ref p] H Q:=by
 show (match lstR H p with | some ys=>(match bls? ys with | some bs=>Q (.bl (f bs)) H | none=>False) | none=>False)
 rw[h1];dsimp only;rw[bls?_map];exact h
theorem i_isi (h1:tyN H x=some t) (c:Od T=true) (h:Q (.bl (subB t T)) H):fIsi [x,.ty T] H Q:=by
 show (match tyN H x with | some t=>Od T=true/\Q (.bl (subB t T)) H | none=>False)
 rw[h1];exact⟨c,h⟩
end
theorem iteD {c A B:Prop} [Decidable c](h1:c->A)(h2:¬ c->B):if decide c=true then A else B:=by
 by_cases h:c
 ·rw[B4 (B2 h)];exact h1 h
 ·rw[B3 (by rw[B1 h];exact Mj)];exact h2 h
theorem NP {c A B:Prop} [Decidable c](hc:c)(h:A):if decide c=true then A else B:=by rw[B4 (B2 hc)];exact h
theorem ND {c A B:Prop} [Decidable c](hc:¬ c)(h:B):if decide c=true then A else B:=by rw[B3 (by rw[B1 hc];exact Mj)];exact h
theorem iteBT {b:Bool}{A B:Prop}(h:b=true)(hA:A):if b=true then A else B:=by rw[B4 h];exact hA
theorem O0 {b:Bool}{A B:Prop}(h:b=false)(hB:B):if b=true then A else B:=by rw[h];exact iteF hB
theorem szc {xs:List V}(h:decide (xs.length<=1000)=true):xs.length<=Af:=MX (of_decide_eq_true h) (by decide)
theorem szn (h:n<=1000000):n<=Af:=MX h (by decide)
theorem i_sz {xs:List V}{R:Prop}(h:xs.length<=Af)(r:R):xs.length<=Af/\R:=⟨h,r⟩
theorem tyN_tup (h:H a=some (.tup xs)):tyN H (.ref a)=some "tuple":=by
 show (match H a with | some (.lst _)=>some "list" | some (.frz _ (.lst _))=>some "list" | some (.tup _)=>some "tuple" | _=>none)=_
 rw[h]
theorem tyN_lst (h:H a=some (.lst xs)):tyN H (.ref a)=some "list":=by
 show (match H a with | some (.lst _)=>some "list" | some (.frz _ (.lst _))=>some "list" | some (.tup _)=>some "tuple" | _=>none)=_
 rw[h]
theorem LW (h:H p=none) (o:HO):Same H (upd H p o):=fun b u q=>by rw[LU (Mo q h)];exact q
theorem iteB {b:Bool}{A B:Prop}(h1:b=true->A)(h2:b=false->B):if b=true then A else B:=by
 cases b
 ·exact iteF (h2 rfl)
 ·exact iteT (h1 rfl)
theorem atI_0 (x:α) (xs:List α):atI (x::xs) 0=some x:=PF (xs:=x::xs) (j:=0) (v:=x) rfl
theorem atI_1 (x y:α) (xs:List α):atI (x::y::xs) 1=some y:=PF (xs:=x::y::xs) (j:=1) (v:=y) rfl
theorem atI_2 (x y z:α) (xs:List α):atI (x::y::z::xs) 2=some z:=PF (xs:=x::y::z::xs) (j:=2) (v:=z) rfl
theorem atI_3 (x y z u:α) (xs:List α):atI (x::y::z::u::xs) 3=some u:=PF (xs:=x::y::z::u::xs) (j:=3) (v:=u) rfl
theorem SI {n:Nat}{i:Int}(h:0<=i)(h2:i < n):ixN n i=some i.toNat:=by
 unfold ixN;rw[B4 h,B4 h2]
theorem cX :seqR (upd H p (.lst xs)) p=some xs:=Nd LN
theorem Wc :lstR (upd H p (.lst xs)) p=some xs:=Ot LN
theorem cY :seqR (upd H p (.tup xs)) p=some xs:=So LN
theorem Og (h:0<=i) (h2:xs[i.toNat]?=some v):atI xs i=some v:=by
 have e:i=((i.toNat:Nat):Int):=by omega
 rw[e];exact PF h2
theorem CMul.l (h1:-(2 ^ 64) < i) (h2:i < 2 ^ 64):CMul i j:=.inl ⟨h1,h2⟩
theorem CMul.r (h1:-(2 ^ 64) < j) (h2:j < 2 ^ 64):CMul i j:=.inr ⟨h1,h2⟩
def Off (p:Ac)(H H':Hp):Prop:=∀ b,b≠p->H' b=H b
def Kept (p:Ac)(H H':Hp):Prop:=∀ b o,b≠p->H b=some o->H' b=some o
theorem Off.kept (h:Off p H H'):Kept p H H':=fun b o hb e=>(h b hb).trans e
theorem Off.refl (p:Ac)(H:Hp):Off p H H:=fun _ _=>rfl
theorem Off.trans (a:Off p H H1) (b:Off p H1 H2):Off p H H2:=fun c hc=>(b c hc).trans (a c hc)
theorem Off.upd (a:Off p H H1) (o:HO):Off p H (L2.upd H1 p o):=fun c hc=>(LU hc).trans (a c hc)
theorem Kept.refl (p:Ac)(H:Hp):Kept p H H:=fun _ _ _ e=>e
theorem Kept.trans (a:Kept p H H1) (b:Kept p H1 H2):Kept p H H2:=fun c o hc e=>b c o hc (a c o hc e)
theorem Kept.new (a:Kept p H H1) (hq:H1 q=none) (o:HO):Kept p H (L2.upd H1 q o):=fun c u hc e=>by
 rw[LU (Mo (a c u hc e) hq)];exact a c u hc e
end L2
namespace L2
noncomputable def N6 (sep:List Nat):List (List Nat)->List Nat
 | []=>[]
 | [x]=>x
 | x::y::r=>x++sep++N6 sep (y::r)
theorem cZ {sep x:List Nat}:∀{r:List (List Nat)},r≠[]->N6 sep (x::r)=x++sep++N6 sep r
 | [],h=>absurd rfl h
 | _::_,_=>rfl
theorem Z6:∀ ls:List (List Nat),N6 [] ls=ls.flatten
 | []=>rfl
 | [x]=>by simp[N6]
 | x::y::r=>by
  have:=Z6 (y::r)
  simp only[N6,this,OD,RR]
noncomputable def bit (w gs:List Nat)(k:Nat):List Nat:=(if k∈gs then [45] else [])++[w.getD k 0]
noncomputable def txt (w gs:List Nat)(n:Nat):List Nat:=(L5 n).flatMap (bit w gs)
theorem SJ (w gs:List Nat)(n:Nat):txt w gs (n+1)=txt w gs n++((if n∈gs then [45] else [])++[w.getD n 0]):=by
 unfold txt
 rw[Pb,ao]
 simp[bit]
theorem c6 (w gs:List Nat)(n:Nat):(txt w gs n).length<=2 * n:=by
 induction n with
 | zero=>simp[txt]
 | succ n ih =>
  rw[SJ,Md,Md]
  split <;> simp <;> omega
noncomputable def NE (w:List Nat):Nat->List Nat->List (List Nat)
 | b,[]=>[w.drop b]
 | b,g::gs=>(w.take g).drop b::NE w g gs
theorem c7 (w:List Nat):∀ b gs,NE w b gs≠[]
 | _,[]=>by simp[NE]
 | _,_::_=>by simp[NE]
def Rise (b n:Nat):List Nat->Prop
 | []=>True
 | g::gs=>b < g/\g < n/\Rise g n gs
theorem Rise.mem {n:Nat}:∀{b:Nat}{gs:List Nat},Rise b n gs->∀ g∈gs,b < g/\g < n
 | _,[],_,g,h=>by cases h
 | b,g::gs,r,k,h=>by
  rcases Mc.mp h with rfl | h
  ·exact⟨r.1,r.2.1⟩
  ·have:=Rise.mem r.2.2 k h
   exact⟨Nat.lt_trans r.1 this.1,this.2⟩
theorem SK (w:List Nat):∀(m b:Nat),b+m<=w.length->(Nh b m).flatMap (fun k=>[w.getD k 0])=(w.drop b).take m
 | 0,b,_=>by simp
 | m+1,b,h=>by
  have hb:b < w.length:=by omega
  rw[RT,Ui,SK w m (b+1) (by omega),RP hb,Zs]
  simp[L4,hb]
theorem Z7 {f g:Nat->List Nat}:∀{l:List Nat},(∀ k∈l,f k=g k)->l.flatMap f=l.flatMap g
 | [],_=>rfl
 | a::l,h=>by
  rw[Ui,Ui,h a Mn,Z7 fun k hk=>h k (Mp _ hk)]
theorem Wd (w:List Nat):∀(gs:List Nat) (b:Nat),Rise b w.length gs->b<=w.length->N6 [45] (NE w b gs)=(Nh b (w.length - b)).flatMap (bit w gs)
 | [],b,_,hb=>by
  have e:(Nh b (w.length - b)).flatMap (bit w [])=(Nh b (w.length - b)).flatMap (fun k=>[w.getD k 0]):=Z7 fun k _=>by simp[bit]
  rw[e,SK w _ b (by omega)]
  simp only[NE,N6]
  rw[Uf (by simp)]
 | g::gs,b,r,hb=>by
  obtain⟨r1,r2,r3⟩:=r
  have ih:=Wd w gs g r3 (OI r2)
  have hs:Nh b (w.length - b)=Nh b (g - b)++Nh g (w.length - g):=by
   have:w.length - b=(g - b)+(w.length - g):=by omega
   have e2:b+(g - b)=g:=by omega
   rw[this,<- List.range'_append_1,e2]
  have hg:Nh g (w.length - g)=g::Nh (g+1) (w.length - (g+1)):=by
   have:w.length - g=(w.length - (g+1))+1:=by omega
   rw[this,RT]
  have f1:(Nh b (g - b)).flatMap (bit w (g::gs))=(w.drop b).take (g - b):=by
   rw[<- SK w (g - b) b (by omega)]
   refine Z7 fun k hk=>?_
   have hk':b<=k/\k < g:=by
    have:=aB.mp hk
    omega
   have:k∉g::gs:=fun z=>by
    rcases Mc.mp z with z | z
    ·omega
    ·have:=(Rise.mem r3 k z).1;omega
   simp only[bit,B3 this,List.nil_append]
  have hn:g∉gs:=fun z=>R3 _ (Rise.mem r3 g z).1
  have f2:(Nh (g+1) (w.length - (g+1))).flatMap (bit w (g::gs))=(Nh (g+1) (w.length - (g+1))).flatMap (bit w gs):=by
   refine Z7 fun k hk=>?_
   have hk':g < k:=by
    have:=aB.mp hk
    omega
   have e:(k∈g::gs)↔k∈gs:=by
    rw[Mc]
    constructor
    ·rintro(z | z)
     ·omega
     ·exact z
    ·exact Or.inr
   unfold bit
   simp only[e]
  rw[NE,cZ (c7 _ _ _),ih,hs,ao,f1,hg,Ui,Ui,f2]
  have b1:bit w (g::gs) g=[45,w.getD g 0]:=by simp[bit]
  have b2:bit w gs g=[w.getD g 0]:=by simp[bit,hn]
  rw[b1,b2,List.drop_take]
  simp
theorem c8 (w gs:List Nat)(r:Rise 0 w.length gs):N6 [45] (NE w 0 gs)=txt w gs w.length:=by
 rw[Wd w gs 0 r (MR _)]
 unfold txt
 rw[Zp,aW]
noncomputable def ML (c:Nat):Bool:=decide (97<=c/\c<=122)
def Low (l:List Nat):Prop:=∀ c∈l,ML c=true
structure RS where
 w:List Nat
 g:List Nat
 lacks:Bool
end L2
namespace L2
open PySem PySem.Builtin PySem.Builtin.Str
noncomputable def S (l:List Nat):Str:=⟨l.toArray⟩
theorem QN (l:List Nat):(S l).cps.toList=l:=rfl
theorem Mi (l:List Nat):(S l).length=l.length:=by show l.toArray.size=_;simp
theorem SL (a b:List Nat):S a++S b=S (a++b):=by
 show (⟨a.toArray++b.toArray⟩:Str)=⟨(a++b).toArray⟩
 rw[List.append_toArray]
theorem S_inj (h:S a=S b):a=b:=by
 have:=congrArg (fun z:Str=>z.cps.toList) h
 exact this
noncomputable def sx (n d:Nat):Option Int->Nat
 | none=>d
 | some v=>if v < 0 then (v+(n:Int)).toNat else min v.toNat n
noncomputable def cutA {α:Type}(l:List α)(lo hi:Option Int):List α:=(l.drop (sx l.length 0 lo)).take (sx l.length l.length hi - sx l.length 0 lo)
theorem SM (n d:Nat)(hd:d<=n)(o:Option Int):sx n d o<=n:=by
 cases o with
 | none=>exact hd
 | some v=>simp only[sx];split <;> omega
theorem sliceIx (lo hi:Option Int)(n:Nat):strSliceIndices lo hi 1 n=(L5 (sx n n hi - sx n 0 lo)).map (sx n 0 lo+·):=by
 have key:∀(a c:Nat),sliceRange (a:Int) (c:Int) 1=(L5 (c - a)).map (a+·):=fun a c=>by
  unfold sliceRange
  have e:(if (1:Int) > 0 then (if (a:Int) < (c:Int) then ((c:Int) - a+1 - 1) / 1 else 0) else (if (a:Int) > (c:Int) then ((a:Int) - c - 1 - 1) / (-1) else 0)).toNat=c - a:=by
   rw[B4 (by decide)]
   split
   ·rw[Int.ediv_one];omega
   ·omega
  simp only[e]
  apply RQ
  intro k _
  omega
 have cl:∀ v:Int,max 0 (min (if v < 0 then v+(n:Int) else v) (n:Int))=(((if v < 0 then (v+(n:Int)).toNat else min v.toNat n):Nat):Int):=fun v=>by
  by_cases hv:v < 0
  ·simp only[B4 hv];omega
  ·simp only[B3 hv];omega
 unfold strSliceIndices
 have h1:((1:Int) > 0)=True:=by simp
 cases lo with
 | none =>
  cases hi with
  | none=>simp only[h1,if_true];exact key 0 n
  | some v=>simp only[h1,if_true,cl];exact key 0 _
 | some u =>
  cases hi with
  | none=>simp only[h1,if_true,cl];exact key _ n
  | some v=>simp only[h1,if_true,cl];exact key _ _
theorem pickL (l:List Nat):∀(m a:Nat),a+m<=l.length->((L5 m).map (a+·)).filterMap (l.toArray[·]?)=(l.drop a).take m
 | 0,a,_=>by simp
 | m+1,a,h=>by
  have ha:a < l.length:=by omega
  rw[List.range_succ_eq_map,L',Zr,MQ]
  have e:((a+·)∘Nat.succ)=((a+1)+·):=by funext k;simp;omega
  have:=pickL l m (a+1) (by omega)
  rw[e,this,RP ha,Zs]
  simp[ha]
theorem c9 (l:List Nat)(lo hi:Option Int) :
  (if ((1:Int) == 1&&(strSliceIndices lo hi 1 (S l).length).length == (S l).length)=true then S l else ⟨((strSliceIndices lo hi 1 (S l).length).filterMap ((S l).cps[·]?)).toArray⟩:Str)=S (cutA l lo hi):=by
 have h1:=SM l.length l.length (LZ _) hi
 have h2:=SM l.length 0 (MR _) lo
 rw[Mi,sliceIx]
 unfold cutA
 generalize sx l.length l.length hi=c at *
 generalize sx l.length 0 lo=a at *
 split
 ·rename_i hc
  simp only[LP,Qq,beq_self_eq_true,R0,beq_iff_eq] at hc
  by_cases h0:l.length=0
  ·have:l=[]:=List.length_eq_zero_iff.mp h0
   subst this;simp
  ·have ha:a=0:=by omega
   have hc':c=l.length:=by omega
   subst ha hc'
   simp
 ·by_cases hac:a<=c
  ·show S _=S _
   congr 1
   exact pickL l _ a (by omega)
  ·have:c - a=0:=by omega
   rw[this]
   simp[S]
theorem We (s sub:Str)(hi:Nat):∀(l:List Nat) (arr:Array Nat) (f:Nat),1<=arr.size->(forIn l (arr,f) (Vf s sub hi 1)).run.fst=arr
 | [],_,_,_=>rfl
 | a::l,arr,f,h=>by
  rw[Qe]
  unfold Vf
  have c:¬ ((((arr,f).fst.size < 1/\(arr,f).snd<=a)/\a+sub.length<=hi)/\subAt s sub a=true):=fun q=>by
   have t:arr.size < 1:=q.1.1.1
   omega
  rw[B3 c]
  exact We s sub hi l arr f h
theorem Wf (s sub:Str)(hi:Nat):∀(l:List Nat) (f:Nat),(∀ i∈l,f<=i) ->
  (forIn l ((#[]:Array Nat),f) (Vf s sub hi 1)).run.fst.toList=(l.find? fun i=>decide (i+sub.length<=hi)&&subAt s sub i).toList
 | [],_,_=>rfl
 | a::l,f,hf=>by
  rw[Qe]
  unfold Vf
  have ha:f<=a:=hf a Mn
  by_cases hc:a+sub.length<=hi/\subAt s sub a=true
  ·have c1:((((#[]:Array Nat),f).fst.size < 1/\((#[]:Array Nat),f).snd<=a)/\a+sub.length<=hi)/\subAt s sub a=true:=⟨⟨⟨by simp,ha⟩,hc.1⟩,hc.2⟩
   rw[B4 c1]
   have e:=We s sub hi l (#[].push a) (a+sub.length) (by simp)
   have e2:(decide (a+sub.length<=hi)&&subAt s sub a)=true:=by simp[hc.1,hc.2]
   rw[Nv,e2]
   show ((forIn l ((#[]:Array Nat).push a,a+sub.length) (Vf s sub hi 1)).run.fst).toList=_
   rw[e]
   simp
  ·have c2:¬ (((((#[]:Array Nat),f).fst.size < 1/\((#[]:Array Nat),f).snd<=a)/\a+sub.length<=hi)/\subAt s sub a=true):=fun q=>hc ⟨q.1.2,q.2⟩
   rw[B3 c2]
   have e2:(decide (a+sub.length<=hi)&&subAt s sub a)=false:=by
    rw[Bool.eq_false_iff]
    intro q
    simp only[Nn,decide_eq_true_eq] at q
    exact hc q
   rw[Nv,e2]
   exact Wf s sub hi l f fun i hi'=>hf i (Mp _ hi')
noncomputable def fits (p l:List Nat)(i:Nat):Bool:=decide (i+p.length<=l.length)&&((l.drop i).take p.length == p)
theorem SN (l p:List Nat)(i:Nat):subAt (S l) (S p) i=((l.drop i).take p.length == p):=by
 rw[StrLaws.subAt_eq,Mi];rfl
theorem occ_S (l p:List Nat)(k:Nat):occurrences (S l) (S p) k (S l).length 1=((Nh k (l.length+1 - k)).find? (fits p l)).toList:=by
 rw[StrLaws.occ_eq,Mi,Wf _ _ _ _ k (fun i hi=>by have:=aB.mp hi;omega)]
 have e:(fun i=>decide (i+(S p).length<=l.length)&&subAt (S l) (S p) i)=fits p l:=by
  funext i
  rw[SN,Mi];rfl
 rw[e]
noncomputable def PY (p l:List Nat)(k:Nat):Int:=match (Nh k (l.length+1 - k)).find? (fits p l) with
 | some i=>(i:Int)
 | none=>-1
theorem Wg (l p:List Nat)(k:Nat):(match occurrences (S l) (S p) k (S l).length 1 with | i::_=>(i:Int) | []=>-1)=PY p l k:=by
 rw[occ_S]
 unfold PY
 cases (Nh k (l.length+1 - k)).find? (fits p l) <;> rfl
theorem joinS (sep:List Nat):∀ ls:List (List Nat),Ut (S sep) (ls.map S)=S (N6 sep ls)
 | []=>rfl
 | [x]=>rfl
 | x::y::r=>by
  have ih:=joinS sep (y::r)
  show S x++S sep++Ut (S sep) ((y::r).map S)=_
  rw[ih,SL,SL]
  rfl
theorem c_ (big:List Nat)(c:Nat):(!(occurrences (S big) (S [c]) 0 (S big).length 1).isEmpty)=decide (c∈big):=by
 have:=i_ (S big) c
 exact this
end L2
namespace L2
open PySem PySem.Spec PyProof.Rows
noncomputable def LET:Str:=S [97,98,99,100,101,102,103,104,105,106,107,108,109,110,111,112,113,114,115,116,117,118,119,120,121,122]
theorem let_eq:Mm "abcdefghijklmnopqrstuvwxyz"=LET:=by decide +kernel
theorem let_has (c:Nat):Ry LET (S [c])=ML c:=by
 show (!(Z0 LET ⟨#[c]⟩ 0 LET.length 1).isEmpty)=_
 rw[i_]
 show decide (c∈[97,98,99,100,101,102,103,104,105,106,107,108,109,110,111,112,113,114,115,116,117,118,119,120,121,122])=_
 unfold ML
 rw[decide_eq_decide]
 exact(List.mem_range'_1 (s:=97) (n:=26)).trans ⟨fun h=>⟨h.1,Nat.le_of_lt_succ h.2⟩,fun h=>⟨h.1,Nat.lt_succ_of_le h.2⟩⟩
def FeedAt (H:Hp)(p:Ac)(n:Nat):Prop:=∃ a b c:Int,H p=some (.lst [.int a,.int b,.int c])/\0<=a/\0<=b/\b < 2147483399/\0<=c/\c<=n
theorem FeedAt.off (h:FeedAt H p n) (e:H' p=H p):FeedAt H' p n:=by
 obtain⟨a,b,c,h1,r⟩:=h
 exact⟨a,b,c,e.trans h1,r⟩
theorem FeedAt.mono (h:FeedAt H p n) (e:n<=m):FeedAt H p m:=by
 obtain⟨a,b,c,h1,h2,h3,h4,h5,h6⟩:=h
 exact⟨a,b,c,h1,h2,h3,h4,h5,by omega⟩
theorem FeedAt.new (h:FeedAt H p n) (hq:H q=none):FeedAt (upd H q o) p n:=by
 obtain⟨a,b,c,h1,r⟩:=h
 exact⟨a,b,c,by rw[LU (Mo h1 hq)];exact h1,r⟩
theorem FeedAt.some (h:FeedAt H p n):∃ o,H p=some o:=by
 obtain⟨a,b,c,h1,r⟩:=h
 exact⟨_,h1⟩
noncomputable def RL:Nat:=1000000
def Wh (K:LR):Sp:=fun vs H Q _=>∃(a:Ac) (ns:List Int) (k:Int),vs=[.ref a,.int k]/\SqL K H a (ns.map V.int)/\0<=k/\k < 1000 /\
 ∀(p:Ac) (H':Hp),H p=none->FeedAt H' p 0->Off p H H'->Q (.ref p) H'
def O1:Sp:=fun vs H Q _=>∃(p:Ac) (m:Int) (n:Nat),vs=[.ref p,.int m]/\FeedAt H p n/\n < RL/\0 < m/\m < 1073741824 /\
 ∀(d:Int) (H':Hp),0<=d->d < m->FeedAt H' p (n+1)->Off p H H'->Q (.int d) H'
def Wi:Sp:=fun vs H Q _=>∃(p:Ac) (n:Nat),vs=[.ref p]/\FeedAt H p n/\n+3 < RL /\
 ∀(l:List Nat) (H':Hp),Low l->2<=l.length->l.length<=26->FeedAt H' p (n+3)->Off p H H'->Q (.str (S l)) H'
def QO:Sp:=fun vs H Q _=>∃(p:Ac) (n:Nat) (l:List Nat) (m:Nat),vs=[.ref p,.str (S l),.int m]/\FeedAt H p n/\n+30 < RL/\Low l/\1<=l.length/\l.length<=26/\1<=m/\m<=25 /\
 ∀(w:List Nat) (H':Hp),Low w->1<=w.length->w.length<=m->FeedAt H' p (n+30)->Kept p H H'->Q (.str (S w)) H'
theorem Wj (l:List Nat)(lo hi:Option Int):U_ (S l) lo hi=S (cutA l lo hi):=c9 l lo hi
theorem find_S (l p:List Nat):Txt.find (S l) (S p)=PY p l 0:=Wg l p 0
theorem find3_S (l p:List Nat)(k:Nat):Txt.find3 (S l) (S p) (k:Int)=PY p l k:=by
 have e:BV (S l).length (k:Int)=k:=by
  unfold BV
  rw[B3 (by omega)];omega
 show (match Z0 (S l) (S p) (BV (S l).length (k:Int)) (S l).length 1 with | k::_=>(k:Int) | []=>-1)=_
 rw[e];exact Wg l p k
theorem da (l p:List Nat)(k:Nat):bc (S l) (S p) (k:Int)=fits p l k:=by
 have e:BV (S l).length (k:Int)=k:=by
  unfold BV
  rw[B3 (by omega)];omega
 unfold bc
 rw[e,SN,Mi,Mi];rfl
theorem O5 (sep:List Nat)(ls:List (List Nat)):Qh (S sep) (ls.map S)=S (N6 sep ls):=by
 show Builtin.Str.glued (S sep) (ls.map S)=_
 rw[StrLaws.glued_eq_join,joinS]
theorem Wk (big:List Nat)(c:Nat):Ry (S big) (S [c])=decide (c∈big):=c_ big c
theorem QP (l:List Nat):chs (S l)=l.map fun c=>V.str (S [c]):=rfl
theorem UM (h:i < l.length):(chs (S l)).getD i .non=V.str (S [l[i]]):=by
 rw[QP];simp[L4,h]
theorem Z8 (l:List α) (i j:Nat) (h:j<=l.length) (hij:i<=j):cutA l (some (i:Int)) (some (j:Int))=(l.drop i).take (j - i):=by
 unfold cutA
 have e1:sx l.length 0 (some (i:Int))=i:=by simp only[sx];rw[B3 (by omega)];omega
 have e2:sx l.length l.length (some (j:Int))=j:=by simp only[sx];rw[B3 (by omega)];omega
 rw[e1,e2]
theorem SO (l:List α) (i:Nat) (h:i<=l.length):cutA l (some (i:Int)) none=l.drop i:=by
 unfold cutA
 have e1:sx l.length 0 (some (i:Int))=i:=by simp only[sx];rw[B3 (by omega)];omega
 rw[e1]
 show (l.drop i).take (l.length - i)=_
 rw[Uf (by simp)]
theorem Wl (xs:List V)(lo hi:Option Int):cutV xs lo hi=cutA xs lo hi:=rfl
theorem Low_cut (h:Low l) (lo hi:Option Int):Low (cutA l lo hi):=fun c hc=>h c (iC (Ro hc))
theorem db (ha:Low a) (hb:Low b):Low (a++b):=fun c hc=>(L7.mp hc).elim (ha c) (hb c)
theorem Wm (l:List α) (lo hi:Option Int):(cutA l lo hi).length=sx l.length l.length hi - sx l.length 0 lo:=by
 have h1:=SM l.length l.length (LZ _) hi
 unfold cutA
 rw[Mt,Ng]
 omega
noncomputable def LETL:List Nat:=[97,98,99,100,101,102,103,104,105,106,107,108,109,110,111,112,113,114,115,116,117,118,119,120,121,122]
theorem Wo:Low LETL:=by unfold Low;decide
theorem QQ:Mm "abcdefghijklmnopqrstuvwxyz"=S LETL:=let_eq
theorem Oh:Mm ""=S []:=by decide +kernel
theorem SQ:Mm "-"=S [45]:=by decide +kernel
theorem Ny:Mm "."=S [46]:=by decide +kernel
theorem let_in (c:Nat):Ry (S LETL) (S [c])=ML c:=let_has c
theorem dc (ws:List Nat):Qh (S []) (ws.map fun c=>S [c])=S ws:=by
 have e:(ws.map fun c=>S [c])=(ws.map fun c=>[c]).map S:=by rw[MQ];rfl
 rw[e,O5,Z6]
 congr 1
 clear e
 induction ws with
 | nil=>rfl
 | cons c ws ih=>simp only[L',RR];rw[ih];rfl
theorem sum_one (ws:List Nat):((ws.map fun c=>S [c]).map (·.length)).sum=ws.length:=by
 induction ws with
 | nil=>rfl
 | cons c ws ih=>simp only[L',UY,Mr,Mi,NO];rw[MQ] at ih ⊢;omega
theorem map_one (ws:List Nat):(ws.map fun c=>V.str (S [c]))=(ws.map fun c=>S [c]).map V.str:=by rw[MQ];rfl
theorem de (g:Int)(gs:List Int):inV (.int g) (gs.map V.int)=decide (g∈gs):=by
 induction gs with
 | nil=>rfl
 | cons x gs ih =>
  show (eqV (.int x) (.int g) || inV (.int g) (gs.map V.int))=_
  rw[ih]
  show ((x == g) || decide (g∈gs))=_
  by_cases e:x=g
  ·subst e;simp
  ·have e':¬ g=x:=fun z=>e z.symm
   simp[e,e']
theorem FeedAt.same (h:FeedAt H p n) (k:∀ b o,H b=Option.some o->H' b=Option.some o):FeedAt H' p n:=by
 obtain⟨a,b,c,h1,r⟩:=h
 exact⟨a,b,c,k _ _ h1,r⟩
theorem Kept.same (a:Kept p H H1) (b:∀ c o,H1 c=some o->H2 c=some o):Kept p H H2:=fun c o hc e=>b c o (a c o hc e)
theorem Kept.off (a:Kept p H H1) (b:Off p H1 H2):Kept p H H2:=fun c o hc e=>(b c hc).trans (a c o hc e)
theorem PZ (hz:a.length+b.length<=1000000) (h:Q (.str (S (a++b))) H):fAdd (.str (S a)) (.str (S b)) H Q:=V' (szn (by rw[Mi,Mi];exact hz)) (by rw[SL];exact h)
theorem i_slC {K:LR}{H:Hp}{Q:VK}{l:List Nat}{lo hi:Option Int}(hz:l.length<=1000000)(h:Q (.str (S (cutA l lo hi))) H):fSl K (.str (S l)) lo hi H Q:=i_slS (szn (by rw[Mi];exact hz)) (by rw[Wj];exact h)
theorem i_lenC {K:LR}{H:Hp}{Q:VK}{l:List Nat}(hz:l.length<=1000000)(h:Q (.int (l.length:Int)) H):fLen K [.str (S l)] H Q:=Wa (szn (by rw[Mi];exact hz)) (by rw[Mi];exact h)
theorem Wp (h1:H a=some (.lst [x])) (c:0<=k/\k<=1000000) (h:∀ p,H p=none->Q (.ref p) (upd H p (.lst (Mw k.toNat x)))):fMul (.ref a) (.int k) H Q:=by
 refine i_mulL h1 ⟨by omega,by omega,by simp;omega⟩ fun p hp=>?_
 have e:(Mw k.toNat [x]).flatten=Mw k.toNat x:=by
  generalize k.toNat=m
  induction m with
  | zero=>rfl
  | succ m ih=>rw[Uh,RR,ih];rfl
 rw[e];exact h p hp
theorem Wq (g:α->β) (l:List α) (lo hi:Option Int):cutA (l.map g) lo hi=(cutA l lo hi).map g:=by
 unfold cutA
 rw[LP,UZ,aE]
noncomputable def patD (x:List Nat×List Int):Dt:=.tup [.str (S x.1),.tup (x.2.map Dt.int)]
noncomputable def Ou (xs:List (List Nat×List Int)):Dt:=.lst (xs.map patD)
structure GP (x:List Nat×List Int):Prop where
 ne:1<=x.1.length
 le:x.1.length<=22
 len:x.2.length=x.1.length+1
 num:∀ v∈x.2,0<=v/\v<=9
 cs:∀ c∈x.1,c < 128
theorem SR {H:Hp}:∀{g:List Int}{xs:List V},L2.IsL H xs (g.map Dt.int)->xs=g.map V.int
 | [],[],_=>rfl
 | [],_::_,h=>by simp only[MT,L2.IsL] at h
 | _::_,[],h=>by simp only[L',L2.IsL] at h
 | k::g,x::xs,h=>by
  simp only[L',L2.IsL,Is] at h
  rw[h.1,SR h.2];rfl
theorem P0 (h:Is H v (patD x)):∃ a t,v=.ref a/\H a=some (.tup [.str (S x.1),.ref t])/\H t=some (.tup (x.2.map V.int)):=by
 simp only[Is,patD] at h
 obtain⟨a,xs,rfl,ha,Ds⟩:=h
 match xs,Ds with
 | [],h=>simp only[L2.IsL] at h
 | [_],h=>simp only[L2.IsL] at h;exact h.2.elim
 | _::_::_::_,h=>simp only[L2.IsL] at h;exact h.2.2.elim
 | [y,z],h =>
  simp only[L2.IsL,Is] at h
  obtain⟨rfl,⟨t,ys,rfl,ht,Cv⟩,_⟩:=h
  have:=SR Cv
  subst this
  exact⟨a,t,rfl,ha,ht⟩
theorem SS (h1:H a=some (.tup [.str (S x.1),.ref t])) (h2:H t=some (.tup (x.2.map V.int))):Is H (.ref a) (patD x):=by
 simp only[Is,patD,L2.IsL]
 exact⟨a,_,rfl,h1,rfl,⟨t,_,rfl,h2,IsL.ints _ _⟩,trivial⟩
theorem QR (h:Is H v (Ou xs)):∃ a ys,v=.ref a/\H a=some (.lst ys)/\L2.IsL H ys (xs.map patD):=by
 simp only[Is,Ou] at h
 exact h
theorem IsL.append {H:Hp}:∀{ds es:List Dt}{xs ys:List V},L2.IsL H xs ds->L2.IsL H ys es->L2.IsL H (xs++ys) (ds++es)
 | [],_,[],_,_,h=>h
 | d::ds,es,x::xs,ys,h,k=>by
  simp only[L2.IsL] at h
  simp only[RU,L2.IsL]
  exact⟨h.1,IsL.append h.2 k⟩
 | [],_,_::_,_,h,_=>by simp only[L2.IsL] at h
 | _::_,_,[],_,h,_=>by simp only[L2.IsL] at h
theorem head_dot :(cutA s none (some 1)=[46])↔s.head?=some 46:=by
 cases s with
 | nil=>simp[cutA,sx]
 | cons c s =>
  have e:cutA (c::s) none (some 1)=[c]:=by
   unfold cutA
   have e2:sx (c::s).length (c::s).length (some 1)=1:=by simp only[sx];rw[B3 (by decide)];simp
   rw[e2];rfl
  rw[e];simp
theorem last_dot :(cutA s (some (-1)) none=[46])↔s.getLast?=some 46:=by
 cases h:s.getLast? with
 | none =>
  have:s=[]:=by simpa using h
  subst this
  simp[cutA,sx]
 | some c =>
  obtain⟨r,rfl⟩:=aj.mp h
  have e:cutA (r++[c]) (some (-1)) none=[c]:=by
   unfold cutA
   have e1:sx (r++[c]).length 0 (some (-1))=r.length:=by simp only[sx];rw[B4 (by decide)];simp;omega
   have e2:sx (r++[c]).length (r++[c]).length none=r.length+1:=by simp[sx]
   rw[e1,e2];simp
  rw[e];simp
noncomputable def SU (l:List Nat):Bool:=decide (0 < l.length)&&l.all ML
end L2
namespace L2
noncomputable abbrev Pat:=List Nat×List Int
noncomputable def mx (a b:Int):Int:=if b > a then b else a
theorem mx_le :mx a b<=c↔a<=c/\b<=c:=by unfold mx;split <;> omega
theorem mx_l (a b:Int):a<=mx a b:=by unfold mx;split <;> omega
theorem mx_r (a b:Int):b<=mx a b:=by unfold mx;split <;> omega
noncomputable def put (t:List Int)(p:Nat)(v:Int):List Int:=t.set p (mx (t.getD p 0) v)
theorem SV (t:List Int)(p:Nat)(v:Int):(put t p v).length=t.length:=by unfold put;simp
theorem Wr (t:List Int)(p q:Nat)(v:Int)(hq:q < t.length):(put t p v).getD q 0=if p=q then mx (t.getD q 0) v else t.getD q 0:=by
 unfold put
 simp only[L4,List.getElem?_set]
 by_cases h:p=q
 ·subst h;simp[hq]
 ·simp[h]
noncomputable def laid (t:List Int)(b:Nat):List Int->List Int
 | []=>t
 | v::r=>laid (put t b v) (b+1) r
theorem Ws (b:Nat)(v:Int):∀(r:List Int) (t:List Int) (c:Nat),laid t c (r++[v])=put (laid t c r) (c+r.length) v
 | [],t,c=>by simp[laid]
 | x::r,t,c=>by
  simp only[RU,laid,Mr]
  rw[Ws b v r]
  congr 1;omega
theorem Z9:∀(ns:List Int) (t:List Int) (b:Nat),(laid t b ns).length=t.length
 | [],_,_=>rfl
 | v::r,t,b=>by simp only[laid];rw[Z9 r,SV]
noncomputable def P3 (m:Int)(p b:Nat):List Int->Int
 | []=>m
 | v::r=>P3 (if b=p then mx m v else m) p (b+1) r
theorem Wt:∀(ns:List Int) (t:List Int) (b q:Nat),q < t.length->(laid t b ns).getD q 0=P3 (t.getD q 0) q b ns
 | [],_,_,_,_=>rfl
 | v::r,t,b,q,h=>by
  simp only[laid,P3]
  rw[Wt r _ _ q (by rw[SV];exact h),Wr t b q v h]
noncomputable def MG (p f:List Nat):List Nat:=(L5 f.length).filter (fits p f)
noncomputable def NF (f:List Nat)(t:List Int)(x:Pat):List Int:=(MG x.1 f).foldl (fun t b=>laid t b x.2) t
noncomputable def O6 (f:List Nat)(t:List Int)(xs:List Pat):List Int:=xs.foldl (NF f) t
noncomputable def numP (f:List Nat)(p:Nat)(m:Int)(x:Pat):Int:=(MG x.1 f).foldl (fun m b=>P3 m p b x.2) m
noncomputable def numA (f:List Nat)(p:Nat)(m:Int)(xs:List Pat):Int:=xs.foldl (numP f p) m
theorem Wu (ns:List Int):∀(bs:List Nat) (t:List Int),(bs.foldl (fun t b=>laid t b ns) t).length=t.length/\∀ q,q < t.length->(bs.foldl (fun t b=>laid t b ns) t).getD q 0=bs.foldl (fun m b=>P3 m q b ns) (t.getD q 0)
 | [],t=>⟨rfl,fun _ _=>rfl⟩
 | b::bs,t=>by
  obtain⟨h1,h2⟩:=Wu ns bs (laid t b ns)
  rw[Z9] at h1 h2
  refine⟨by simpa using h1,fun q hq=>?_⟩
  simp only[Uj]
  rw[h2 q hq,Wt ns t b q hq]
theorem Wv (f:List Nat):∀(xs:List Pat) (t:List Int),(O6 f t xs).length=t.length/\∀ q,q < t.length->(O6 f t xs).getD q 0=numA f q (t.getD q 0) xs
 | [],t=>⟨rfl,fun _ _=>rfl⟩
 | x::xs,t=>by
  obtain⟨h1,h2⟩:=Wu x.2 (MG x.1 f) t
  obtain⟨h3,h4⟩:=Wv f xs (NF f t x)
  have e:(NF f t x).length=t.length:=h1
  rw[e] at h3 h4
  refine⟨h3,fun q hq=>?_⟩
  show (O6 f (NF f t x) xs).getD q 0=_
  rw[h4 q hq]
  show numA f q ((NF f t x).getD q 0) xs=numA f q (numP f q (t.getD q 0) x) xs
  rw[show (NF f t x).getD q 0=numP f q (t.getD q 0) x from h2 q hq]
noncomputable def frame (w:List Nat):List Nat:=46::(w++[46])
theorem Z_ (w:List Nat):(frame w).length=w.length+2:=by simp[frame]
noncomputable def vals (xs:List Pat)(w:List Nat):List Int:=(L5 (w.length - 1)).map fun j=>numA (frame w) (j+2) 0 xs
theorem UN (xs:List Pat)(w:List Nat):(vals xs w).length=w.length - 1:=by simp[vals]
theorem Ww (xs:List Pat)(w:List Nat)(j:Nat)(h:j < w.length - 1):(vals xs w)[j]?=some (numA (frame w) (j+2) 0 xs):=by
 simp[vals,h]
theorem Wx (n q:Nat):(Mw n (0:Int)).getD q 0=0:=by
 simp only[L4,iq];split <;> rfl
theorem Wy {a b:List Int}(h:a.length=b.length)(k:∀ q,q < a.length->a.getD q 0=b.getD q 0):a=b:=by
 apply List.ext_getElem h
 intro i h1 h2
 have:=k i h1
 simpa [L4,h1,h2] using this
theorem df (xs:List Pat)(w:List Nat)(h:1<=w.length):cutA (O6 (frame w) (Mw ((frame w).length+1) 0) xs) (some 2) (some (-2))=vals xs w:=by
 obtain⟨h1,h2⟩:=Wv (frame w) xs (Mw ((frame w).length+1) 0)
 rw[am] at h1 h2
 unfold cutA
 rw[h1]
 rw[Z_] at h1 h2 ⊢
 have e1:sx (w.length+2+1) 0 (some 2)=2:=by simp only[sx];rw[B3 (by decide)];show min 2 (w.length+2+1)=2;omega
 have e2:sx (w.length+2+1) (w.length+2+1) (some (-2))=w.length+1:=by simp only[sx];rw[B4 (by decide)];omega
 rw[e1,e2]
 apply Wy
 ·rw[UN,Mt,Ng,h1];omega
 ·intro q hq
  rw[Mt,Ng,h1] at hq
  have hq':q < w.length - 1:=by omega
  have:=h2 (2+q) (by omega)
  rw[Wx] at this
  have e3:(vals xs w).getD q 0=numA (frame w) (q+2) 0 xs:=by rw[L4,Ww xs w q hq'];rfl
  rw[e3,aV q 2,<- this]
  simp only[L4,List.getElem?_take,List.getElem?_drop]
  rw[B4 (by omega)]
noncomputable def lput (n:Nat)(t:List Int)(p:Nat)(v:Int):List Int:=if 2<=p/\p<=n then put t (p - 2) v else t
noncomputable def Nr (n:Nat)(t:List Int)(b:Nat):List Int->List Int
 | []=>t
 | v::r=>Nr n (lput n t b v) (b+1) r
theorem Wz (n:Nat)(v:Int):∀(r:List Int) (t:List Int) (c:Nat),Nr n t c (r++[v])=lput n (Nr n t c r) (c+r.length) v
 | [],t,c=>by simp[Nr]
 | x::r,t,c=>by
  simp only[RU,Nr,Mr]
  rw[Wz n v r]
  congr 1;omega
theorem WA (n:Nat)(t:List Int)(p:Nat)(v:Int):(lput n t p v).length=t.length:=by
 unfold lput;split
 ·rw[SV]
 ·rfl
theorem dg (n:Nat):∀(ns:List Int) (t:List Int) (b:Nat),(Nr n t b ns).length=t.length
 | [],_,_=>rfl
 | v::r,t,b=>by simp only[Nr];rw[dg n r,WA]
theorem WB (n:Nat):∀(ns:List Int) (t:List Int) (b j:Nat),t.length=n - 1->j < n - 1->(Nr n t b ns).getD j 0=P3 (t.getD j 0) (j+2) b ns
 | [],_,_,_,_,_=>rfl
 | v::r,t,b,j,ht,hj=>by
  simp only[Nr,P3]
  rw[WB n r _ _ j (by rw[WA];exact ht) hj]
  congr 1
  unfold lput
  by_cases hb:2<=b/\b<=n
  ·rw[B4 hb,Wr t (b - 2) j v (by omega)]
   by_cases e:b=j+2
   ·rw[B4 e,B4 (by omega)]
   ·rw[B3 e,B3 (by omega)]
  ·rw[B3 hb,B3 (by omega)]
noncomputable def lawP (n:Nat)(f:List Nat)(t:List Int)(x:Pat):List Int:=(MG x.1 f).foldl (fun t b=>Nr n t b x.2) t
noncomputable def lawA (n:Nat)(f:List Nat)(t:List Int)(xs:List Pat):List Int:=xs.foldl (lawP n f) t
theorem dh (n:Nat)(ns:List Int):∀(bs:List Nat) (t:List Int),t.length=n - 1->(bs.foldl (fun t b=>Nr n t b ns) t).length=n - 1/\∀ j,j < n - 1->(bs.foldl (fun t b=>Nr n t b ns) t).getD j 0=bs.foldl (fun m b=>P3 m (j+2) b ns) (t.getD j 0)
 | [],t,h=>⟨h,fun _ _=>rfl⟩
 | b::bs,t,h=>by
  obtain⟨h1,h2⟩:=dh n ns bs (Nr n t b ns) (by rw[dg];exact h)
  refine⟨by simpa using h1,fun j hj=>?_⟩
  simp only[Uj]
  rw[h2 j hj,WB n ns t b j h hj]
theorem SW (n:Nat)(f:List Nat):∀(xs:List Pat) (t:List Int),t.length=n - 1->(lawA n f t xs).length=n - 1/\∀ j,j < n - 1->(lawA n f t xs).getD j 0=numA f (j+2) (t.getD j 0) xs
 | [],t,h=>⟨h,fun _ _=>rfl⟩
 | x::xs,t,h=>by
  obtain⟨h1,h2⟩:=dh n x.2 (MG x.1 f) t h
  obtain⟨h3,h4⟩:=SW n f xs (lawP n f t x) h1
  refine⟨h3,fun j hj=>?_⟩
  show (lawA n f (lawP n f t x) xs).getD j 0=_
  rw[h4 j hj]
  show numA f (j+2) ((lawP n f t x).getD j 0) xs=numA f (j+2) (numP f (j+2) (t.getD j 0) x) xs
  rw[show (lawP n f t x).getD j 0=numP f (j+2) (t.getD j 0) x from h2 j hj]
theorem di (xs:List Pat)(w:List Nat):lawA w.length (frame w) (Mw (w.length - 1) 0) xs=vals xs w:=by
 obtain⟨h1,h2⟩:=SW w.length (frame w) xs (Mw (w.length - 1) 0) (by simp)
 apply Wy
 ·rw[h1,UN]
 ·intro j hj
  rw[h1] at hj
  rw[h2 j hj,Wx,L4,Ww xs w j hj];rfl
noncomputable def Qk (p f:List Nat)(k:Nat):List Nat:=(Nh k (f.length+1 - k)).filter (fits p f)
theorem dj (hp:p≠[]):Qk p f 0=MG p f:=by
 unfold Qk MG
 rw[aW,<- Zp,Pb,Op]
 have:fits p f f.length=false:=by
  unfold fits
  have:0 < p.length:=OA.mpr hp
  rw[B1 (by omega)];rfl
 simp[this]
theorem fits_lt (hp:p≠[]) (h:fits p f i=true):i < f.length:=by
 unfold fits at h
 have:0 < p.length:=OA.mpr hp
 simp only[Nn,decide_eq_true_eq] at h
 omega
theorem dq (p f:List Nat):∀(m k:Nat),(Nh k m).find? (fits p f)=none->(Nh k m).filter (fits p f)=[]:=fun m k h=>by
 rw[iw]
 intro a ha
 have:=UW.mp h a ha
 exact this
theorem WC (p f:List Nat):∀(m k i:Nat),(Nh k m).find? (fits p f)=some i->k<=i/\i < k+m/\fits p f i=true/\(Nh k m).filter (fits p f)=i::(Nh (i+1) (k+m - (i+1))).filter (fits p f)
 | 0,k,i,h=>by simp at h
 | m+1,k,i,h=>by
  rw[RT,Nv] at h
  cases hk:fits p f k with
  | true =>
   rw[hk] at h
   cases h
   refine⟨LZ _,by omega,hk,?_⟩
   rw[RT,RV,hk,B4 rfl]
   congr 3
   omega
  | false =>
   rw[hk] at h
   obtain⟨h1,h2,h3,h4⟩:=WC p f m (k+1) i h
   refine⟨by omega,by omega,h3,?_⟩
   rw[RT,RV,hk,B3 Mj,h4]
   congr 3
   omega
theorem du (h:PY p f k < 0):Qk p f k=[]:=by
 unfold PY at h
 split at h
 ·omega
 ·rename_i e;exact dq p f _ _ e
theorem dv (hk:k<=f.length) (h:0<=PY p f k):∃ i:Nat,PY p f k=i/\k<=i/\i<=f.length/\fits p f i=true/\Qk p f k=i::Qk p f (i+1):=by
 unfold PY at h ⊢
 split at h
 ·rename_i i e
  obtain⟨h1,h2,h3,h4⟩:=WC p f _ _ _ e
  refine⟨i,rfl,h1,by omega,h3,?_⟩
  unfold Qk
  rw[h4]
  congr 3
  omega
 ·omega
theorem WD (p:Nat):∀(ns:List Int) (m:Int) (b:Nat),P3 m p b ns=if b<=p/\p < b+ns.length then mx m (ns.getD (p - b) 0) else m
 | [],m,b=>by
  simp only[P3,NO]
  rw[B3 (by omega)]
 | v::r,m,b=>by
  simp only[P3,Mr]
  rw[WD p r]
  by_cases e:b=p
  ·subst e
   rw[B4 rfl,B3 (by omega),B4 (by omega),ZI];rfl
  ·rw[B3 e]
   by_cases h:b+1<=p/\p < b+1+r.length
   ·have:p - b=(p - (b+1))+1:=by omega
    rw[B4 h,B4 (by omega),this];rfl
   ·rw[B3 h,B3 (by omega)]
def Tells (f:List Nat)(p:Nat)(xs:List Pat)(v:Int):Prop:=∃ x∈xs,∃ b∈MG x.1 f,b<=p/\p < b+x.2.length/\v=x.2.getD (p - b) 0
theorem numP_le (f:List Nat)(p:Nat)(x:Pat)(m c:Int):numP f p m x<=c↔m<=c/\∀ b∈MG x.1 f,b<=p->p < b+x.2.length->x.2.getD (p - b) 0<=c:=by
 unfold numP
 generalize MG x.1 f=bs
 induction bs generalizing m with
 | nil=>simp
 | cons b bs ih =>
  simp only[Uj]
  rw[ih,WD]
  constructor
  ·rintro⟨h1,h2⟩
   split at h1
   ·rename_i hc
    have:=mx_le.mp h1
    refine⟨this.1,fun b' hb' k1 k2=>?_⟩
    rcases Mc.mp hb' with rfl | hb'
    ·exact this.2
    ·exact h2 b' hb' k1 k2
   ·rename_i hc
    refine⟨h1,fun b' hb' k1 k2=>?_⟩
    rcases Mc.mp hb' with rfl | hb'
    ·exact absurd ⟨k1,k2⟩ hc
    ·exact h2 b' hb' k1 k2
  ·rintro⟨h1,h2⟩
   refine⟨?_,fun b' hb'=>h2 b' (Mp _ hb')⟩
   split
   ·rename_i hc
    exact mx_le.mpr ⟨h1,h2 b Mn hc.1 hc.2⟩
   ·exact h1
theorem RM (f:List Nat)(p:Nat):∀(xs:List Pat) (m c:Int),numA f p m xs<=c↔m<=c/\∀ v,Tells f p xs v->v<=c
 | [],m,c=>by
  show m<=c↔_
  constructor
  ·exact fun h=>⟨h,fun v ⟨x,hx,_⟩=>by cases hx⟩
  ·exact fun h=>h.1
 | x::xs,m,c=>by
  show numA f p (numP f p m x) xs<=c↔_
  rw[RM f p xs,numP_le]
  constructor
  ·rintro⟨⟨h1,h2⟩,h3⟩
   refine⟨h1,fun v hI9=>?_⟩
   obtain⟨y,hy,b,hb,k1,k2,e⟩:=hI9
   rcases Mc.mp hy with rfl | hy
   ·rw[e];exact h2 b hb k1 k2
   ·exact h3 v ⟨y,hy,b,hb,k1,k2,e⟩
  ·rintro⟨h1,h2⟩
   exact⟨⟨h1,fun b hb k1 k2=>h2 _ ⟨x,Mn,b,hb,k1,k2,rfl⟩⟩,fun v ⟨y,hy,r⟩=>h2 v ⟨y,Mp _ hy,r⟩⟩
theorem P4 (h:Tells f p xs v):v<=numA f p m xs:=((RM f p xs m _).mp (OL _)).2 v h
theorem WF :m<=numA f p m xs:=((RM f p xs m _).mp (OL _)).1
end L2
namespace L2
open PySem PySem.Spec PyProof.Rows
section
variable {κ:Type} [DecidableEq κ]
noncomputable def valV (B7:List (κ×V))(k:κ):Option V:=(B7.find? fun kv=>decide (kv.1=k)).map (·.2)
noncomputable def putK (B7:List (κ×V))(k:κ)(v:V):List (κ×V) :=
 if (B7.any fun kv=>decide (kv.1=k))=true then B7.map (fun kv=>if kv.1=k then (kv.1,v) else kv) else B7++[(k,v)]
theorem UO {p:κ×V}{r:List (κ×V)}{k:κ}(e:p.1=k):valV (p::r) k=some p.2:=by simp[valV,Nv,e]
theorem UP {p:κ×V}{r:List (κ×V)}{k:κ}(e:¬ p.1=k):valV (p::r) k=valV r k:=by simp[valV,Nv,e]
theorem WG (k:κ):∀ B7:List (κ×V),(B7.any fun kv=>decide (kv.1=k))=(valV B7 k).isSome
 | []=>rfl
 | p::r=>by
  rw[Pq]
  by_cases e:p.1=k
  ·simp only[UO e,B2 e,U2,Option.isSome_some]
  ·rw[UP e,B1 e,Uq];exact WG k r
theorem Z' (B7:List (κ×V))(k:κ)(v:V):(putK B7 k v).length<=B7.length+1:=by
 unfold putK
 split
 ·rw[LP];omega
 ·rw[Md,Mr,NO];omega
theorem RelO.isSome_eq (r:RelO o u):o.isSome=u.isSome:=by
 cases o with
 | none=>cases u with
  | none=>rfl
  | some _=>exact(show False from r).elim
 | some _=>cases u with
  | none=>exact(show False from r).elim
  | some _=>rfl
theorem RelO.getD (r:RelO o u) (rd:RelV d d'):RelV (o.getD d) (u.getD d'):=by
 cases o with
 | none=>cases u with
  | none=>exact rd
  | some _=>exact(show False from r).elim
 | some _=>cases u with
  | none=>exact(show False from r).elim
  | some _=>exact r
theorem KV.val (r:KV B7 vs) (k:κ):RelO (valV B7 k) (BH vs k):=by
 unfold KV at r
 induction r with
 | nil=>exact True.intro
 | @cons p q ps qs h t ih =>
  obtain⟨h1,h2⟩:=h
  by_cases e:p.1=k
  ·have e':q.1=k:=h1.symm.trans e
   have b:BH (q::qs) k=some q.2:=by simp[BH,Nv,e']
   rw[UO e,b];exact h2
  ·have e':¬ q.1=k:=fun z=>e (h1.trans z)
   have b:BH (q::qs) k=BH qs k:=by simp[BH,Nv,e']
   rw[UP e,b];exact ih
theorem KV.any (r:KV B7 vs) (k:κ):(B7.any fun kv=>decide (kv.1=k))=vs.any fun kv=>decide (kv.1=k):=by
 unfold KV at r
 induction r with
 | nil=>rfl
 | cons h t ih=>rw[Pq,Pq,ih,h.1]
theorem KV.repl (r:KV B7 vs) (k:κ) (ry:RelV y u):
  KV (B7.map fun kv=>if kv.1=k then (kv.1,y) else kv) (vs.map fun kv=>if kv.1=k then (kv.1,u) else kv):=by
 unfold KV at r ⊢
 induction r with
 | nil=>exact .nil
 | @cons p q ps qs h t ih =>
  rw[L',L']
  refine .cons ?_ ih
  obtain⟨h1,h2⟩:=h
  by_cases e:p.1=k
  ·rw[B4 e,B4 (h1.symm.trans e)];exact⟨h1,ry⟩
  ·rw[B3 e,B3 (fun z=>e (h1.trans z))];exact⟨h1,h2⟩
theorem KV.put (r:KV B7 vs) (k:κ) (ry:RelV y u):KV (putK B7 k y) (stored vs k u):=by
 unfold putK stored
 rw[r.any k]
 by_cases e:(vs.any fun kv=>decide (kv.1=k))=true
 ·rw[B4 e,B4 e];exact r.repl k ry
 ·rw[B3 e,B3 e];exact Paired.snoc r ⟨rfl,ry⟩
theorem KV.length (r:KV B7 vs):B7.length=vs.length:=UE r
end
theorem P5 (r:RelV (kV k) u):(MB P w).is k u=true:=by
 cases k with
 | inl i=>obtain⟨t,e⟩:=(show ∃ t,u=Value.int i t from r);subst e;exact bu P w i t
 | inr x=>obtain⟨t,e⟩:=(show ∃ t,u=Value.str x t from r);subst e;exact bw P w x t
theorem WH {P:Ag}{w:Ak}:∀{ks:List Key}{us:List Ab},Vals (ks.map kV) us->ItemsAre (MB P w) ks us
 | [],_,r=>by rw[MT] at r;cases r;exact .nil
 | k::ks,_,r=>by
  rw[L'] at r
  cases r with
  | cons h t=>exact .cons (P5 h) (WH t)
abbrev KT (H:Hp):List (List Key×V)->List (List Key×Ac×Ab)->Prop:=Paired fun p q=>p.1=q.1/\H q.2.1=some (.tup (p.1.map kV))/\RelV p.2 q.2.2
theorem KT.val (r:KT H B7 xs) (k:List Key):RelO (valV B7 k) ((BB xs k).map (·.2)):=by
 induction r with
 | nil=>exact True.intro
 | @cons p q ps qs h t ih =>
  obtain⟨h1,_,h2⟩:=h
  by_cases e:p.1=k
  ·have e':q.1=k:=h1.symm.trans e
   have b:BB (q::qs) k=some q.2:=by simp[BB,Nv,e']
   rw[UO e,b];exact h2
  ·have e':¬ q.1=k:=fun z=>e (h1.trans z)
   have b:BB (q::qs) k=BB qs k:=by simp[BB,Nv,e']
   rw[UP e,b];exact ih
theorem KT.repl (r:KT H B7 xs) (k:List Key) (ry:RelV y u):
  KT H (B7.map fun kv=>if kv.1=k then (kv.1,y) else kv) (xs.map (putAt k u)):=by
 induction r with
 | nil=>exact .nil
 | @cons p q ps qs h t ih =>
  rw[L',L']
  refine .cons ?_ ih
  obtain⟨h1,h2,h3⟩:=h
  unfold putAt
  by_cases e:p.1=k
  ·rw[B4 e,B4 (h1.symm.trans e)];exact⟨h1,h2,ry⟩
  ·rw[B3 e,B3 (fun z=>e (h1.trans z))];exact⟨h1,h2,h3⟩
theorem KT.put (r:KT H B7 xs) (k:List Key) (hb:H b=some (.tup (k.map kV))) (ry:RelV y u):
  KT H (putK B7 k y) (storedH xs k b u):=by
 have e:(B7.any fun kv=>decide (kv.1=k))=(BB xs k).isSome:=by
  rw[WG,(r.val k).isSome_eq,ZU]
 unfold putK storedH
 rw[e]
 by_cases q:(BB xs k).isSome=true
 ·rw[B4 q,B4 q];exact r.repl k ry
 ·rw[B3 q,B3 q];exact Paired.snoc r ⟨rfl,hb,ry⟩
theorem KT.keeps (r:KT H B7 xs) (ht:∀ b ys,H b=some (.tup ys)->H' b=some (.tup ys)):KT H' B7 xs :=
 Paired.mapP r fun _ _ z=>⟨z.1,ht _ _ z.2.1,z.2.2⟩
section
variable {P:Ag}{w:Ak}{H:Hp}{h:Ao}{a:Ac}
theorem SX (ok:HOk P w H h) (e:Rd H a u):ObjOk P w H h a u:=e.ok ok
theorem NQ (ok:HOk P w H h) (e:Rd H a (.dK B7)):B7.length<=Af/\(a == Ar)=false/\∃ vs,KV B7 vs/\h.DictOf (MB P w) a vs :=
 show ObjOk P w H h a (.dK B7) from SX ok e
theorem QS (ok:HOk P w H h) (e:H a=some (.dK B7)):B7.length<=Af/\(a == Ar)=false/\∃ vs,KV B7 vs/\h.DictOf (MB P w) a vs:=NQ ok (.inl e)
theorem SY (ok:HOk P w H h) (e:H a=some (.tup (ks.map kV))):(Bg (MB P w)).is h ks a:=by
 obtain⟨_,its,r,⟨o,h1,h2,n,h3⟩,_⟩:=(show ObjOk P w H h a (.tup (ks.map kV)) from ok a _ e)
 exact⟨o,its.toArray,n,h1,h2,h3,by simpa using WH r⟩
theorem NR (ok:HOk P w H h) (e:Rd H a (.dT B7)):B7.length<=Af/\(a == Ar)=false /\
  ∃ xs,KT H B7 xs/\h.DictOfH (Bg (MB P w)) a xs:=by
 obtain⟨z,y,xs,r,o,es,ep,h1,h2,h3,h4,h5⟩:=(show ObjOk P w H h a (.dT B7) from SX ok e)
 refine⟨z,y,xs,r,o,es,ep,h1,h2,h3,h4,fun x hx=>?_,h5⟩
 have all:∀{l:List (List Key×V)}{m:List (List Key×Ac×Ab)},KT H l m->∀ x∈m,(Bg (MB P w)).is h x.1 x.2.1:=by
  intro l m q
  induction q with
  | nil=>intro x hx;exact nomatch hx
  | @cons p q ps qs hq t ih =>
   intro x hx
   rcases Mc.mp hx with e | hx
   ·subst e
    exact SY ok (by rw[<- hq.1];exact hq.2.1)
   ·exact ih x hx
 exact all r x hx
theorem dt_of (ok:HOk P w H h) (e:H a=some (.dT B7)):B7.length<=Af/\(a == Ar)=false /\
  ∃ xs,KT H B7 xs/\h.DictOfH (Bg (MB P w)) a xs:=NR ok (.inl e)
end
noncomputable def DGet (H:Hp)(a:Ac)(y:V)(r:Option V):Prop :=
 (∃ B7 k,Rd H a (.dK B7)/\y=kV k/\r=valV B7 k)∨∃ B7 k b,Rd H a (.dT B7)/\y=.ref b/\H b=some (.tup (k.map kV))/\r=valV B7 k
noncomputable def DPut (H:Hp)(a:Ac)(y v:V)(H':Hp):Prop :=
 (∃ B7 k,H a=some (.dK B7)/\y=kV k/\B7.length < Af/\H'=upd H a (.dK (putK B7 k v))) ∨
 ∃ B7 k b,H a=some (.dT B7)/\y=.ref b/\H b=some (.tup (k.map kV))/\B7.length < Af/\H'=upd H a (.dT (putK B7 k v))
theorem DGet.k {H:Hp}{a:Ac}{B7:List (Key×V)}{k:Key}(e:H a=some (.dK B7)):DGet H a (kV k) (valV B7 k):=.inl ⟨B7,k,.inl e,rfl,rfl⟩
theorem DPut.k {H:Hp}{a:Ac}{B7:List (Key×V)}{k:Key}{v:V}(e:H a=some (.dK B7))(hl:B7.length < Af):DPut H a (kV k) v (upd H a (.dK (putK B7 k v))):=.inl ⟨B7,k,e,rfl,hl,rfl⟩
section
variable {X:Cx}{B5:List (Ac×Obj)}{σ:St}{H:Hp}{s:Ae}{a:Ac}{y v:V}{u r:Ab}{o:Option V}{A:Ap}{E:Ab->Ae->Prop}
theorem Inv.big (I:Inv X B5 σ H s):Ar < s.heap.objs.size:=by
 have h:Ai < s.heap.objs.size:=(I.mod.glob.keeps I.bk).lt
 exact Nat.lt_trans (by decide) h
theorem dw (hu:A.units+1 < AR) (I:Inv X B5 σ H s) (g:DGet H a y (some v)) (ry:RelV y u) (h:∀ w' s',Inv X B5 σ H s'->RelV v w'->Q w' s'):
  wpAny (Aj X.prog X.w) A (Bp (.ref a) u) Q E s:=by
 rcases g with ⟨B7,k,e,ey,l⟩ | ⟨B7,k,b,e,ey,eb,l⟩
 ·subst ey
  obtain⟨z,hd,vs,rel,dd⟩:=NQ I.hok e
  obtain⟨w',hw,rw'⟩:=RelO.some_of (v:=v) (o:=BH vs k) (by rw[l];exact rel.val k)
  exact wpAny_getItem_of (P5 ry) dd.mapOf hw (h w' _ (I.tok _) rw')
 ·subst ey
  cases (show u=Value.ref b from ry)
  obtain⟨z,hd,xs,rel,dd⟩:=NR I.hok e
  obtain⟨w',hw,rw'⟩:=RelO.some_of (v:=v) (o:=(BB xs k).map (·.2)) (by rw[l];exact rel.val k)
  obtain⟨p,hp,DA⟩:=Rx.mp hw
  refine wpAny_getItem_heap (AG hu) (SY I.hok eb) dd hp ?_
  rw[DA]
  exact h w' _ (I.tok _) rw'
theorem d_in (hu:A.units+1 < AR) (I:Inv X B5 σ H s) (g:DGet H a y o) (ry:RelV y u) (h:∀ s',Inv X B5 σ H s'->Q (.bool o.isSome) s'):
  wpAny (Aj X.prog X.w) A (An .In u (.ref a)) Q E s:=by
 rcases g with ⟨B7,k,e,ey,l⟩ | ⟨B7,k,b,e,ey,eb,l⟩
 ·subst ey
  obtain⟨z,hd,vs,rel,dd⟩:=NQ I.hok e
  refine wpAny_in_of (P5 ry) hd dd.mapOf ?_
  rw[<- (rel.val k).isSome_eq,<- l]
  exact h _ (I.tok _)
 ·subst ey
  cases (show u=Value.ref b from ry)
  obtain⟨z,hd,xs,rel,dd⟩:=NR I.hok e
  refine wpAny_in_heap (AG hu) (SY I.hok eb) hd dd ?_
  have q:=(rel.val k).isSome_eq
  rw[ZU] at q
  rw[<- q,<- l]
  exact h _ (I.tok _)
theorem d_notIn (hu:A.units+1 < AR) (I:Inv X B5 σ H s) (g:DGet H a y o) (ry:RelV y u) (h:∀ s',Inv X B5 σ H s'->Q (.bool (!o.isSome)) s'):
  wpAny (Aj X.prog X.w) A (An .NotIn u (.ref a)) Q E s:=by
 rcases g with ⟨B7,k,e,ey,l⟩ | ⟨B7,k,b,e,ey,eb,l⟩
 ·subst ey
  obtain⟨z,hd,vs,rel,dd⟩:=NQ I.hok e
  refine wpAny_notIn_of (P5 ry) hd dd.mapOf ?_
  rw[<- (rel.val k).isSome_eq,<- l]
  exact h _ (I.tok _)
 ·subst ey
  cases (show u=Value.ref b from ry)
  obtain⟨z,hd,xs,rel,dd⟩:=NR I.hok e
  refine wpAny_notIn_heap (AG hu) (SY I.hok eb) hd dd ?_
  have q:=(rel.val k).isSome_eq
  rw[ZU] at q
  rw[<- q,<- l]
  exact h _ (I.tok _)
theorem P6 (I:Inv X B5 σ H s) (mu:Mut (H a)) (hs:OF a s.heap h') (he:∃ q,h'.get? a=some q) (new:ObjOk X.prog X.w (upd H a ob) h' a ob):
  Inv X B5 σ (upd H a ob) { s with heap:=h',toks:=t' } :=
 I.write (x:=a) (e:=a) mu (.inl rfl) (fun b q hb z=>(hs.2 b hb).trans z) he new
theorem WI (z:B7.length<=Af) (hd:(a == Ar)=false) (rel:KV B7 vs) (dd:h'.DictOf (MB P w) a vs):
  ObjOk P w H' h' a (.dK B7):=⟨z,hd,vs,rel,dd⟩
theorem dz (hu:A.units+1 < AR) (I:Inv X B5 σ H s) (g:DPut H a y v H') (ry:RelV y u) (rv:RelV v r) (h:∀ s',Inv X B5 σ H' s'->Q () s'):
  wpAny (Aj X.prog X.w) A (setItem (.ref a) u r) Q E s:=by
 rcases g with ⟨B7,k,e,ey,l,eH⟩ | ⟨B7,k,b,e,ey,eb,l,eH⟩
 ·subst ey eH
  obtain⟨z,hd,vs,rel,dd⟩:=QS I.hok e
  have hz:vs.length<=Af:=by rw[<- rel.length];exact z
  have hl:(putK B7 k v).length<=Af:=by have:=Z' B7 k v;omega
  refine wpAny_setItem_pairs (hsz:=hz) (P5 ry) dd fun h' dd' hs=>h _ ?_
  have he:∃ q,h'.get? a=some q:=let ⟨q,_,_,hq,_⟩:=dd';⟨q,hq⟩
  exact P6 I (by rw[e];exact True.intro) hs he (WI hl hd (rel.put k rv) dd')
 ·subst ey eH
  cases (show u=Value.ref b from ry)
  obtain⟨z,hd,xs,rel,dd⟩:=dt_of I.hok e
  have hz:xs.length<=Af:=by rw[<- UE rel];exact z
  have hl:(putK B7 k v).length<=Af:=by have:=Z' B7 k v;omega
  refine wpAny_setItem_heap (hsz:=hz) (AG hu) (SY I.hok eb) dd fun h' dd' hs=>h _ ?_
  obtain⟨q,es,ep,hq,h2,h3,h4,_,h5⟩:=dd'
  refine P6 I (by rw[e];exact True.intro) hs ⟨q,hq⟩ ⟨hl,hd,_,(rel.put k eb rv).keeps fun c ys ec=>?_,q,es,ep,hq,h2,h3,h4,h5⟩
  rw[LU (Qi ec e (fun z=>nomatch z))]
  exact ec
end
section
variable {X:Cx}{B5:List (Ac×Obj)}{σ:St}{H:Hp}{s:Ae}{a:Ac}{B7:List (Key×V)}{k:Key}{u:Ab}{A:Ap}{E:Ab->Ae->Prop}
end
def NoSl (i:Ay):Prop:=∀ ov iv,BN i false ov iv=operate [ov,iv] (Bp ov iv)
theorem SZ {prog:Ag}{w:Ak}{A:Ap}{E:Ab->Ae->Prop}{s:Ae}{env:Env}{value slice:Ay}{pos:Pos}{T id:String}{Q:Ab->Ae->Prop}
  (hl:typeLookup (.type T) "__getitem__"=pure (some (.builtin id))) (hs:NoSl slice)
  (h:wpAny (Aj prog w) A (Ax value env) (fun o s₁=>wpAny (Aj prog w) A (Ax slice env) (fun i s₂=>s₂.TypeIs o T/\wpAny (Aj prog w) A (Bp o i) Q E s₂) E s₁) E s) :
  wpAny (Aj prog w) A (Ax (.Subscript value slice pos) env) Q E s:=by
 refine Subscript_ (Az h (fun o s₁ h₁=>Az h₁ (fun i s₂ h₂=>?_) fun _ _ x=>x) fun _ _ x=>x)
 obtain⟨hT,h₂⟩:=h₂
 unfold BX
 refine Aa ?_
 rw[getitemInPython_of_ne hT.not_modules]
 refine Aa (BJ hT hl ?_)
 have fin:wpAny (Aj prog w) A (BN slice false o i) (fun r s₃=>wpAny (Aj prog w) A (letTemporaryGo value o r >>= fun _=>pure r) Q E s₃) E s₂:=by
  rw[hs o i]
  exact wpAny_operating (Az h₂ (fun r s₃ h₃=>Aa (wpAny_letTemporaryGo (Ad h₃))) fun _ _ x=>x)
 first
  | exact Ad (Aa fin)
  | exact Aa (Ad (Aa fin))
  | exact Aa fin
theorem dA (I:Inv X B5 σ H s) (g:DGet H a y o):s.TypeIs (.ref a) "dict":=by
 rcases g with ⟨B7,k,e,_,_⟩ | ⟨B7,k,b,e,_,_,_⟩
 ·obtain⟨_,_,vs,_,dd⟩:=NQ I.hok e
  exact dd.typeIs
 ·obtain⟨_,_,xs,_,dd⟩:=NR I.hok e
  exact dd.typeIs
def tDGet (td ty:TE):TE:=fun σ H Q=>td σ H fun x H1=>ty σ H1 fun y H2=>∃ a v,x=.ref a/\DGet H2 a y (some v)/\Q v H2
def tDIn (ty td:TE):TE:=fun σ H Q=>ty σ H fun y H1=>td σ H1 fun x H2=>∃ a o,x=.ref a/\DGet H2 a y o/\Q (.bl o.isSome) H2
def WJ (ty td:TE):TE:=fun σ H Q=>ty σ H fun y H1=>td σ H1 fun x H2=>∃ a o,x=.ref a/\DGet H2 a y o/\Q (.bl (!o.isSome)) H2
def sDPut (td ty tv:TE):TS:=fun D σ H=>tv σ H fun v H1=>td σ H1 fun x H2=>ty σ H2 fun y H3=>∃ a H4,x=.ref a/\DPut H3 a y v H4/\D.nx σ H4
section
variable {X:Cx}{o i e value:Ay}{pos pos' tpos:Pos}{td ty tv:TE}
theorem WK (hu:X.A.units+1 < AR)(ho:PE X o td)(hi:PE X i ty)(hs:NoSl i):PE X (.Subscript o i pos) (tDGet td ty):=by
 intro B5 s σ H Q I h
 refine SZ aY.lookup hs (thn (ho B5 s σ H _ I h) fun u s1 ⟨x,H1,I1,rx,q1⟩=>thn (hi B5 s1 σ H1 _ I1 q1) fun iv s2 hI9=>?_)
 obtain⟨y,H2,I2,ry,a,v,ex,g,q2⟩:=hI9
 subst ex
 obtain rfl:u=Value.ref a:=rx
 exact⟨dA I2 g,dw hu I2 g ry fun w' s3 I3 rw'=>⟨v,H2,I3,rw',q2⟩⟩
theorem S0 (hu:X.A.units+1 < AR)(hi:PE X i ty)(ho:PE X o td):PC X .In i o (tDIn ty td):=by
 intro B5 s σ H Q I h
 refine thn (hi B5 s σ H _ I h) fun iv s1 ⟨y,H1,I1,ry,q1⟩=>thn (ho B5 s1 σ H1 _ I1 q1) fun u s2 hI9=>?_
 obtain⟨x,H2,I2,rx,a,ov,ex,g,q2⟩:=hI9
 subst ex
 obtain rfl:u=Value.ref a:=rx
 exact d_in hu I2 g ry fun s3 I3=>⟨.bl ov.isSome,H2,I3,rfl,q2⟩
theorem dB (hu:X.A.units+1 < AR)(hi:PE X i ty)(ho:PE X o td):PC X .NotIn i o (WJ ty td):=by
 intro B5 s σ H Q I h
 refine thn (hi B5 s σ H _ I h) fun iv s1 ⟨y,H1,I1,ry,q1⟩=>thn (ho B5 s1 σ H1 _ I1 q1) fun u s2 hI9=>?_
 obtain⟨x,H2,I2,rx,a,ov,ex,g,q2⟩:=hI9
 subst ex
 obtain rfl:u=Value.ref a:=rx
 exact d_notIn hu I2 g ry fun s3 I3=>⟨.bl (!ov.isSome),H2,I3,rfl,q2⟩
theorem QT (hu:X.A.units+1 < AR)(ho:PE X o td)(hi:PE X i ty)(hv:PE X value tv)(hs:Bh value (some (.Subscript o i pos')) pos.line X.env=pure false) :
  PS X (.Assign [.Subscript o i pos'] value pos) (sDPut td ty tv):=by
 intro B5 s σ H D I h
 refine BI (thn (hv B5 s σ H _ I h) fun r s1 ⟨v,H1,I1,rv,q1⟩=>thn (ho B5 s1 σ H1 _ I1 q1) fun u s2 ⟨x,H2,I2,rx,q2⟩=>thn (hi B5 s2 σ H2 _ I2 q2) fun iv s3 hI9=>?_) hs
 obtain⟨y,H3,I3,ry,a,H4,ex,g,q3⟩:=hI9
 subst ex
 obtain rfl:u=Value.ref a:=rx
 exact dz hu I3 g ry rv fun s4 I4=>⟨σ,H4,I4,q3⟩
end
theorem WL (h:Ao) (hb:Ar < h.objs.size):ObjOk P w H (h.push { cls:=.type "dict",data:=.dict #[] }) h.objs.size (.dK []) :=
 ⟨MR _,beq_eq_false_iff_ne.mpr (N2 (MI hb)),[],.nil,Heap.DictOf.new h⟩
def WM:TE:=fun _ H Q=>∀ p,H p=none->Q (.ref p) (upd H p (.dK []))
section
variable {X:Cx}{pos:Pos}
theorem S3:PE X (.Dict [] [] pos) WM:=fun B5 s σ H Q I h =>
 wpAny_Dict_empty ⟨.ref s.heap.objs.size,_,I.laid (a:=s.heap.objs.size) (o:=.dK []) (t':=s.toks) (fun _ _ q=>L1 _ q) (LZ _) (WL s.heap I.big),rfl,h _ (I.hok.fresh (LZ _))⟩
end
def P7:List (TE×TE)->St->Hp->(List (V×V)->Hp->Prop)->Prop
 | [],_,H,Q=>Q [] H
 | (tk,tv)::r,σ,H,Q=>tk σ H fun x H1=>tv σ H1 fun y H2=>P7 r σ H2 fun ps H3=>Q ((x,y)::ps) H3
abbrev VV:List (V×V)->List (Ab×Ab)->Prop:=Paired fun p q=>RelV p.1 q.1/\RelV p.2 q.2
noncomputable def PPs (X:Cx)(pos:Pos)(keys:List (Option Ay))(values:List Ay)(trs:List (TE×TE)):Prop :=
 ∀(B5:List (Ac×Obj)) (s:Ae) (σ:St) (H:Hp) (Q:List (V×V)->Hp->Prop),Inv X B5 σ H s->P7 trs σ H Q ->
  wpAny (Aj X.prog X.w) X.A (evalPairs (pairTrees keys values X.env pos)) (fun vs s'=>∃ ps H',Inv X B5 σ H' s'/\VV ps vs/\Q ps H') X.xe s
theorem pps_nil :PPs X pos [] [] []:=fun B5 s σ H Q I h=>pairTrees_nil_walk ⟨[],H,I,.nil,h⟩
theorem dC (hk:PE X k tk) (hv:PE X v tv) (hr:PPs X pos ks vs trs):
  PPs X pos (some k::ks) (v::vs) ((tk,tv)::trs):=fun B5 s σ H Q I h =>
 BW (thn (hk B5 s σ H _ I h) fun u s1 ⟨x,H1,I1,rx,q1⟩=>thn (hv B5 s1 σ H1 _ I1 q1) fun w2 s2 ⟨y,H2,I2,ry,q2⟩ =>
  thn (hr B5 s2 σ H2 _ I2 q2) fun ws s3 ⟨ps,H3,I3,rel,q3⟩=>⟨(x,y)::ps,H3,I3,.cons ⟨rx,ry⟩ rel,q3⟩)
noncomputable def Oi (B7 more:List (Key×V)):List (Key×V):=more.foldl (fun B6 kv=>putK B6 kv.1 kv.2) B7
theorem KV.merge:∀{more:List (Key×V)}{rs:List (Key×Ab)}{B7:List (Key×V)}{vs:List (Key×Ab)},KV more rs->KV B7 vs->KV (Oi B7 more) (merged vs rs):=by
 intro more rs B7 vs r
 unfold KV at r
 induction r generalizing B7 vs with
 | nil=>intro q;exact q
 | @cons p q ps qs h t ih =>
  intro r0
  have e:KV (putK B7 p.1 p.2) (stored vs q.1 q.2):=by
   have:=r0.put p.1 h.2
   rw[<- h.1];exact this
  exact ih e
theorem jl:∀(more B7:List (Key×V)),(Oi B7 more).length<=B7.length+more.length
 | [],B7=>by show B7.length<=B7.length+0;omega
 | p::r,B7=>by
  have h1:=jl r (putK B7 p.1 p.2)
  have h2:=Z' B7 p.1 p.2
  show (Oi (putK B7 p.1 p.2) r).length<=_
  rw[Mr];omega
theorem WN {P:Ag}{w:Ak}:∀{B7:List (Key×V)}{ws:List (Ab×Ab)},VV (B7.map fun kv=>(kV kv.1,kv.2)) ws->∃ rs,Carries (MB P w) ws rs/\KV B7 rs
 | [],_,r=>by rw[MT] at r;cases r;exact⟨[],True.intro,.nil⟩
 | p::B7,_,r=>by
  rw[L'] at r
  cases r with
  | @cons a b as bs h t =>
   obtain⟨rs,c,q⟩:=WN (P:=P) (w:=w) t
   obtain⟨b1,b2⟩:=b
   exact⟨(p.1,b2)::rs,⟨P5 h.1,rfl,c⟩,.cons ⟨rfl,h.2⟩ q⟩
def tDisp (trs:List (TE×TE)):TE:=fun σ H Q=>∀ p,H p=none->P7 trs σ (upd H p (.dK [])) fun ps H2=>H2 p=some (.dK [])/\∃ B7:List (Key×V),ps=B7.map (fun kv=>(kV kv.1,kv.2))/\B7.length<=15/\Q (.ref p) (upd H2 p (.dK (Oi [] B7)))
theorem pe_disp (h:PPs X pos keys values trs) (Dr:keys.all (·.isSome)=true) (hl:keys.length=values.length) (h0:keys≠[]) (KJ:keys.length<=15):PE X (.Dict keys values pos) (tDisp trs):=by
 intro B5 s σ H Q I q
 have hn:=I.hok.fresh (LZ s.heap.objs.size)
 have I1:=I.laid (a:=s.heap.objs.size) (o:=.dK []) (h':=s.heap.push { cls:=.type "dict",data:=.dict #[] }) (t':=s.toks) (fun _ _ q=>L1 _ q) (LZ _) (WL s.heap I.big)
 refine wpAny_Dict_walk (knd:=MB X.prog X.w) Dr hl h0 KJ (thn (h B5 _ σ _ _ I1 (q _ hn)) fun ws s2 hI9=>?_)
 obtain⟨ps,H2,I2,rel,e,B7,ep,lk,q2⟩:=hI9
 subst ep
 obtain⟨rs,c,rk⟩:=WN (P:=X.prog) (w:=X.w) rel
 obtain⟨z,hd,vs0,r0,dd⟩:=QS I2.hok e
 cases r0
 refine⟨rs,c,dd,fun h' dd' hs=>⟨.ref s.heap.objs.size,_,?_,rfl,q2⟩⟩
 have hz:(Oi [] B7).length<=Af:=by
  have h1:=jl B7 []
  rw[NO] at h1
  rw[Bz];omega
 have he:∃ q,h'.get? s.heap.objs.size=some q:=let ⟨q,_,_,hq,_⟩:=dd';⟨q,hq⟩
 exact P6 I2 (by rw[e];exact True.intro) hs he (WI hz hd (rk.merge .nil) dd')
structure M1 (X:Cx)(o:Ay)(m:Str)(Cf:Pos)(e:Ay)(cpos:Pos):Prop where
 base:AO o m X.env (Ax o X.env)=Ax o X.env
 few:((AE cpos (Ah [e] X.env)).all (fun x=>!x.1)&&(Ba cpos (AU [] X.env)).all (fun x=>x.1.isSome)
  && decide (([e]:List Ay).length+([]:List BA).length+(if ([]:List BA).isEmpty then 0 else 1) < 30))=true
 line:(Cf.endLine == cpos.line)=true
 trees:AE cpos (Ah [e] X.env)=[(false,Ax e X.env)]
structure M2 (X:Cx)(o:Ay)(m:Str)(Cf:Pos)(e f:Ay)(cpos:Pos):Prop where
 base:AO o m X.env (Ax o X.env)=Ax o X.env
 few:((AE cpos (Ah [e,f] X.env)).all (fun x=>!x.1)&&(Ba cpos (AU [] X.env)).all (fun x=>x.1.isSome)
  && decide (([e,f]:List Ay).length+([]:List BA).length+(if ([]:List BA).isEmpty then 0 else 1) < 30))=true
 line:(Cf.endLine == cpos.line)=true
 trees:AE cpos (Ah [e,f] X.env)=[(false,Ax e X.env),(false,Ax f X.env)]
def IsD (H:Hp)(a:Ac):Prop:=(∃ B7,Rd H a (.dK B7))∨∃ B7,Rd H a (.dT B7)
theorem WO (I:Inv X B5 σ H s) (d:IsD H a):
  s.TypeIs (.ref a) "dict"/\(∀ b,Value.ref a=.ref b->∃ ob,s.heap.get? b=some ob/\ob.dict=none)/\(a == Ar)=false:=by
 rcases d with ⟨B7,e⟩ | ⟨B7,e⟩
 ·obtain⟨_,hd,vs,_,dd⟩:=NQ I.hok e
  refine⟨dd.typeIs,fun b q=>?_,hd⟩
  cases q
  obtain⟨ob,_,_,h1,h2,_⟩:=dd
  exact⟨ob,h1,h2.2.1⟩
 ·obtain⟨_,hd,xs,_,dd⟩:=NR I.hok e
  refine⟨dd.typeIs,fun b q=>?_,hd⟩
  cases q
  obtain⟨ob,_,_,h1,h2,_⟩:=dd
  exact⟨ob,h1,h2.2.1⟩
section
variable {X:Cx}{B5:List (Ac×Obj)}{σ:St}{H:Hp}{s:Ae}{a:Ac}{y d:V}{u r:Ab}{o:Option V}{A:Ap}{E:Ab->Ae->Prop}
theorem d_get1 (hu:A.units+1 < AR) (I:Inv X B5 σ H s) (g:DGet H a y o) (ry:RelV y u) (h:∀ w' s',Inv X B5 σ H s'->RelV (o.getD .non) w'->Q w' s'):
  wpAny (Aj X.prog X.w) A (call (.builtin "dict.get") [.ref a,u]) Q E s:=by
 rcases g with ⟨B7,k,e,ey,l⟩ | ⟨B7,k,b,e,ey,eb,l⟩
 ·subst ey
  obtain⟨z,hd,vs,rel,dd⟩:=NQ I.hok e
  refine Bd Ux dd.typeIs ZM (iU _ _) (meets_dict_get (MB X.prog X.w) a (P5 ry) hd) ⟨_,dd.mapOf,h _ _ (I.tok _) ?_⟩
  rw[l]
  exact(rel.val k).getD rfl
 ·subst ey
  cases (show u=Value.ref b from ry)
  obtain⟨z,hd,xs,rel,dd⟩:=NR I.hok e
  refine Bd Ux dd.typeIs ZM (iU _ _) (meetsH_dict_get (Bg (MB X.prog X.w)) a b hd) ⟨AG hu,k,xs,SY I.hok eb,dd,h _ _ (I.tok _) ?_⟩
  rw[l]
  exact(rel.val k).getD rfl
theorem d_get2 (hu:A.units+1 < AR) (I:Inv X B5 σ H s) (g:DGet H a y o) (ry:RelV y u) (rd:RelV d r) (h:∀ w' s',Inv X B5 σ H s'->RelV (o.getD d) w'->Q w' s'):
  wpAny (Aj X.prog X.w) A (call (.builtin "dict.get") [.ref a,u,r]) Q E s:=by
 rcases g with ⟨B7,k,e,ey,l⟩ | ⟨B7,k,b,e,ey,eb,l⟩
 ·subst ey
  obtain⟨z,hd,vs,rel,dd⟩:=NQ I.hok e
  refine Bd Ux dd.typeIs ZM (iV _ _ _) (meets_dict_get_default (MB X.prog X.w) a (P5 ry) hd r) ⟨_,dd.mapOf,h _ _ (I.tok _) ?_⟩
  rw[l]
  exact(rel.val k).getD rd
 ·subst ey
  cases (show u=Value.ref b from ry)
  obtain⟨z,hd,xs,rel,dd⟩:=NR I.hok e
  refine Bd Ux dd.typeIs ZM (iV _ _ _) (meetsH_dict_get_default (Bg (MB X.prog X.w)) a b hd r) ⟨AG hu,k,xs,SY I.hok eb,dd,h _ _ (I.tok _) ?_⟩
  rw[l]
  exact(rel.val k).getD rd
end
def WP (td ty:TE):TE:=fun σ H Q=>td σ H fun x H1=>∃ a,x=.ref a/\IsD H1 a/\ty σ H1 fun y H2=>∃ o,DGet H2 a y o/\Q (o.getD .non) H2
def WQ (td ty tx:TE):TE:=fun σ H Q=>td σ H fun x H1=>∃ a,x=.ref a/\IsD H1 a/\ty σ H1 fun y H2=>tx σ H2 fun z H3=>∃ o,DGet H3 a y o/\Q (o.getD z) H3
section
variable {X:Cx}{o e f:Ay}{Cf cpos:Pos}{td ty tx:TE}
theorem dD (hu:X.A.units+1 < AR)(ho:PE X o td)(he:PE X e ty)(m:M1 X o "get" Cf e cpos):PE X (.Call (.Attribute o "get" Cf) [e] [] cpos) (WP td ty):=by
 intro B5 s σ H Q I h
 refine wpAny_Call_method m.base m.few m.line aZ Ux iZ (thn (ho B5 s σ H _ I h) fun u s1 hI9=>?_)
 obtain⟨x,H1,I1,rx,a,ex,d,q1⟩:=hI9
 subst ex
 obtain rfl:u=Value.ref a:=rx
 obtain⟨t1,t2,_⟩:=WO I1 d
 refine⟨t1,t2,?_⟩
 rw[m.trees]
 refine ZS rfl (a_ (Pr (thn (he B5 s1 σ H1 _ I1 q1) fun iv s2 ⟨y,H2,I2,ry,ov,g,q2⟩=>Rw ?_)))
 exact d_get1 hu I2 g ry fun w' s3 I3 rw'=>⟨_,H2,I3,rw',q2⟩
theorem dE (hu:X.A.units+1 < AR)(ho:PE X o td)(he:PE X e ty)(hf:PE X f tx)(m:M2 X o "get" Cf e f cpos):PE X (.Call (.Attribute o "get" Cf) [e,f] [] cpos) (WQ td ty tx):=by
 intro B5 s σ H Q I h
 refine wpAny_Call_method m.base m.few m.line aZ Ux iZ (thn (ho B5 s σ H _ I h) fun u s1 hI9=>?_)
 obtain⟨x,H1,I1,rx,a,ex,d,q1⟩:=hI9
 subst ex
 obtain rfl:u=Value.ref a:=rx
 obtain⟨t1,t2,_⟩:=WO I1 d
 refine⟨t1,t2,?_⟩
 rw[m.trees]
 refine ZS rfl (a_ (Pr (thn (he B5 s1 σ H1 _ I1 q1) fun iv s2 ⟨y,H2,I2,ry,q2⟩ =>
  Pr (thn (hf B5 s2 σ H2 _ I2 q2) fun fv s3 ⟨z,H3,I3,rz,ov,g,q3⟩=>Rw ?_))))
 exact d_get2 hu I3 g ry rz fun w' s4 I4 rw'=>⟨_,H3,I4,rw',q3⟩
end
section
variable {X:Cx}{B5:List (Ac×Obj)}{σ:St}{H:Hp}{s:Ae}{a:Ac}{B7:List (Key×V)}{A:Ap}{E:Ab->Ae->Prop}
end
section
variable {X:Cx}{B5:List (Ac×Obj)}{σ:St}{H:Hp}{s:Ae}{a:Ac}{y:V}{u:Ab}{A:Ap}{E:Ab->Ae->Prop}
end
end L2
namespace L2
noncomputable def bT (ns:List (List Nat)):List (Key×V):=ns.map fun z=>((Sum.inr (S z):Key),V.bl true)
noncomputable def addN (ns:List (List Nat))(z:List Nat):List (List Nat):=if z∈ns then ns else ns++[z]
noncomputable def begS (ns:List (List Nat))(s:List Nat)(k:Nat):List (List Nat):=(L5 k).foldl (fun ns j=>addN ns (s.take (j+1))) ns
noncomputable def begA (ns:List (List Nat))(xs:List Pat):List (List Nat):=xs.foldl (fun ns x=>begS ns x.1 x.1.length) ns
noncomputable def begs (xs:List Pat):List (List Nat):=begA [[]] xs
theorem O7 (h:(Sum.inr (S a):Key)=Sum.inr (S b)):a=b:=by
 injection h with h
 exact S_inj h
theorem bT_any (ns:List (List Nat))(z:List Nat):((bT ns).any fun kv=>decide (kv.1=(Sum.inr (S z):Key)))=decide (z∈ns):=by
 unfold bT
 rw[aF,Oq,Qs,decide_eq_true_iff]
 constructor
 ·rintro⟨y,hy,e⟩
  have:=O7 (of_decide_eq_true e)
  rw[<- this];exact hy
 ·intro hz
  exact⟨z,hz,B2 rfl⟩
theorem bT_put (ns:List (List Nat))(z:List Nat):putK (bT ns) (Sum.inr (S z)) (.bl true)=bT (addN ns z):=by
 unfold putK addN
 rw[bT_any]
 by_cases h:z∈ns
 ·rw[B4 (B2 h),B4 h]
  unfold bT
  rw[MQ]
  apply RQ
  intro y _
  show (if (Sum.inr (S y):Key)=Sum.inr (S z) then ((Sum.inr (S y):Key),V.bl true) else ((Sum.inr (S y):Key),V.bl true))=_
  rw[ite_self]
 ·rw[B3 (by rw[B1 h];exact Mj),B3 h]
  unfold bT
  rw[L3];rfl
theorem bT_val (ns:List (List Nat))(z:List Nat):valV (bT ns) (Sum.inr (S z))=if z∈ns then some (.bl true) else none:=by
 induction ns with
 | nil=>rfl
 | cons y ns ih =>
  show valV (((Sum.inr (S y):Key),V.bl true)::bT ns) _=_
  by_cases e:y=z
  ·rw[UO (p:=((Sum.inr (S y):Key),V.bl true)) (by rw[e]),B4 (by rw[e];exact Mn)]
  ·rw[UP (p:=((Sum.inr (S y):Key),V.bl true)) (fun h=>e (O7 h)),ih]
   by_cases h:z∈ns
   ·rw[B4 h,B4 (Mp _ h)]
   ·rw[B3 h,B3 (fun q=>(Mc.mp q).elim (fun q=>e q.symm) h)]
theorem dF :y∈addN ns z↔y∈ns∨y=z:=by
 unfold addN
 split
 ·rename_i h
  exact⟨.inl,fun q=>q.elim id fun q=>q▸h⟩
 ·rw[L7,Ml]
theorem dG (ns:List (List Nat))(z:List Nat):(addN ns z).length<=ns.length+1:=by
 unfold addN
 split
 ·omega
 ·simp
theorem S4 (ns:List (List Nat))(s:List Nat)(k:Nat):begS ns s (k+1)=addN (begS ns s k) (s.take (k+1)):=by
 unfold begS;rw[Pb,Qr];rfl
theorem WR {ns:List (List Nat)}{s y:List Nat}:∀{k:Nat},y∈begS ns s k↔y∈ns∨∃ e,1<=e/\e<=k/\y=s.take e
 | 0=>by
  show y∈ns↔_
  exact⟨.inl,fun q=>q.elim id fun⟨e,a,b,_⟩=>by omega⟩
 | k+1=>by
  rw[S4,dF,WR]
  constructor
  ·rintro((h | ⟨e,a,b,c⟩) | h)
   ·exact .inl h
   ·exact .inr ⟨e,a,by omega,c⟩
   ·exact .inr ⟨k+1,by omega,by omega,h⟩
  ·rintro(h | ⟨e,a,b,c⟩)
   ·exact .inl (.inl h)
   ·by_cases z:e=k+1
    ·exact .inr (z▸c)
    ·exact .inl (.inr ⟨e,a,by omega,c⟩)
theorem S5 (ns:List (List Nat))(s:List Nat):∀ k:Nat,(begS ns s k).length<=ns.length+k
 | 0=>LZ _
 | k+1=>by
  rw[S4]
  have:=dG (begS ns s k) (s.take (k+1))
  have:=S5 ns s k
  omega
theorem dH (ns:List (List Nat))(xs:List Pat)(x:Pat):begA ns (xs++[x])=begS (begA ns xs) x.1 x.1.length:=by
 unfold begA;rw[Qr];rfl
theorem WS {y:List Nat}:∀{xs:List Pat}{ns:List (List Nat)},y∈begA ns xs↔y∈ns∨∃ x∈xs,∃ e,1<=e/\e<=x.1.length/\y=x.1.take e
 | [],ns=>by
  show y∈ns↔_
  exact⟨.inl,fun q=>q.elim id fun⟨x,hx,_⟩=>nomatch hx⟩
 | x::xs,ns=>by
  show y∈begA (begS ns x.1 x.1.length) xs↔_
  rw[WS,WR]
  constructor
  ·rintro((h | h) | ⟨z,hz,h⟩)
   ·exact .inl h
   ·exact .inr ⟨x,Mn,h⟩
   ·exact .inr ⟨z,Mp _ hz,h⟩
  ·rintro(h | ⟨z,hz,h⟩)
   ·exact .inl (.inl h)
   ·rcases Mc.mp hz with rfl | hz
    ·exact .inl (.inr h)
    ·exact .inr ⟨z,hz,h⟩
theorem mem_begs :y∈begs xs↔y=[]∨∃ x∈xs,∃ e,1<=e/\e<=x.1.length/\y=x.1.take e:=by
 unfold begs;rw[WS,Ml]
theorem S6 {c:Nat}:∀(xs:List Pat) (ns:List (List Nat)),(∀ x∈xs,x.1.length<=c)->(begA ns xs).length<=ns.length+xs.length * c
 | [],ns,_=>by show ns.length<=_;simp
 | x::xs,ns,h=>by
  have h1:=S6 xs (begS ns x.1 x.1.length) fun y hy=>h y (Mp _ hy)
  have h2:=S5 ns x.1 x.1.length
  have h3:=h x Mn
  show (begA (begS ns x.1 x.1.length) xs).length<=_
  rw[Mr,U4]
  omega
def NT (H:Hp):List (Key×V)->List Pat->Prop
 | [],[]=>True
 | kv::B7,g::gs=>kv.1=Sum.inr (S g.1)/\(∃ t,kv.2=.ref t/\H t=some (.tup (g.2.map V.int)))/\NT H B7 gs
 | _,_=>False
noncomputable def Nf (gs:List Pat)(z:List Nat):Option Pat:=gs.find? fun g=>decide (g.1=z)
theorem NT.val {H:Hp}{z:List Nat}:∀{B7:List (Key×V)}{gs:List Pat},NT H B7 gs->(Nf gs z=none/\valV B7 (Sum.inr (S z))=none)∨∃ g t,Nf gs z=some g/\g∈gs/\g.1=z/\valV B7 (Sum.inr (S z))=some (.ref t)/\H t=some (.tup (g.2.map V.int))
 | [],[],_=>.inl ⟨rfl,rfl⟩
 | [],_::_,h=>h.elim
 | _::_,[],h=>h.elim
 | kv::B7,g::gs,h=>by
  obtain⟨h1,⟨t,h2,h3⟩,h4⟩:=h
  by_cases e:g.1=z
  ·refine .inr ⟨g,t,?_,Mn,e,?_,h3⟩
   ·unfold Nf;rw[Nv,B2 e]
   ·rw[UO (by rw[h1,e]),h2]
  ·have hl:Nf (g::gs) z=Nf gs z:=by unfold Nf;rw[Nv,B1 e]
   have hv:valV (kv::B7) (Sum.inr (S z))=valV B7 (Sum.inr (S z)):=UP fun q=>e (O7 (h1.symm.trans q))
   rw[hl,hv]
   rcases NT.val (z:=z) h4 with q | ⟨g',t',a,b,c,d,f⟩
   ·exact .inl q
   ·exact .inr ⟨g',t',a,Mp _ b,c,d,f⟩
theorem NT.same {H H':Hp}(s:Same H H'):∀{B7:List (Key×V)}{gs:List Pat},NT H B7 gs->NT H' B7 gs
 | [],[],_=>trivial
 | [],_::_,h=>h.elim
 | _::_,[],h=>h.elim
 | kv::B7,g::gs,h=>by
  obtain⟨h1,⟨t,h2,h3⟩,h4⟩:=h
  exact⟨h1,⟨t,h2,s _ _ h3⟩,NT.same s h4⟩
noncomputable def tAE (gs:List Pat)(x:List Nat)(back k:Nat):Int :=
 (L5 k).foldl (fun m j=>match Nf gs (x.drop (x.length - (back+j))) with | some g=>mx m (g.2.getD j 0) | none=>m) 0
theorem WT (gs:List Pat)(x:List Nat)(back k:Nat):tAE gs x back (k+1)=match Nf gs (x.drop (x.length - (back+k))) with | some g=>mx (tAE gs x back k) (g.2.getD k 0) | none=>tAE gs x back k:=by
 unfold tAE;rw[Pb,Qr];rfl
end L2
namespace L2
open PySem
noncomputable def NS:List Int->List Int->List Int
 | a::as,b::bs=>mx a b::NS as bs
 | _,_=>[]
theorem WU:∀{a b:List Int},a.length=b.length->(NS a b).length=a.length
 | [],[],_=>rfl
 | [],_::_,h=>by simp at h
 | _::_,[],h=>by simp at h
 | a::as,b::bs,h=>by simp only[NS,Mr];rw[WU (by simpa using h)]
theorem aa:∀{a b:List Int}{i:Nat} (h1:i < a.length) (h2:i < b.length),(NS a b)[i]?=some (mx a[i] b[i])
 | a::as,b::bs,0,_,_=>rfl
 | a::as,b::bs,i+1,h1,h2=>by
  have h1':i < as.length:=by simpa using h1
  have h2':i < bs.length:=by simpa using h2
  simp only[NS,List.getElem?_cons_succ,List.getElem_cons_succ]
  exact aa h1' h2'
theorem dI (h1:i < a.length) (h2:i < b.length):(NS a b).take (i+1)=(NS a b).take i++[mx a[i] b[i]]:=by
 rw[MA,aa h1 h2];rfl
noncomputable def putG (gs:List Pat)(s:List Nat)(ns:List Int):List Pat :=
 if (gs.any fun g=>decide (g.1=s))=true then gs.map (fun g=>if g.1=s then (g.1,ns) else g) else gs++[(s,ns)]
noncomputable def grtS (gs:List Pat)(x:Pat):List Pat:=putG gs x.1 (NS (((Nf gs x.1).map (·.2)).getD x.2) x.2)
noncomputable def grt (xs:List Pat):List Pat:=xs.foldl grtS []
theorem WV (xs:List Pat)(x:Pat):grt (xs++[x])=grtS (grt xs) x:=by unfold grt;rw[Qr];rfl
theorem NT.anyK {H:Hp}{s:List Nat}:∀{B7:List (Key×V)}{gs:List Pat},NT H B7 gs->(B7.any fun kv=>decide (kv.1=(Sum.inr (S s):Key)))=gs.any fun g=>decide (g.1=s)
 | [],[],_=>rfl
 | [],_::_,h=>h.elim
 | _::_,[],h=>h.elim
 | kv::B7,g::gs,h=>by
  obtain⟨h1,_,h4⟩:=h
  rw[Pq,Pq,NT.anyK h4]
  congr 1
  rw[h1]
  by_cases e:g.1=s
  ·rw[B2 e,B2 (by rw[e])]
  ·rw[B1 e,B1 fun q=>e (O7 q)]
theorem NT.append {H:Hp}:∀{B7 kvs':List (Key×V)}{gs gs':List Pat},NT H B7 gs->NT H kvs' gs'->NT H (B7++kvs') (gs++gs')
 | [],_,[],_,_,h=>h
 | [],_,_::_,_,h,_=>h.elim
 | _::_,_,[],_,h,_=>h.elim
 | kv::B7,_,g::gs,_,h,h'=>⟨h.1,h.2.1,NT.append h.2.2 h'⟩
theorem NT.mapP {H:Hp}{s:List Nat}{ns:List Int}{t:Ac}(ht:H t=some (.tup (ns.map V.int))):∀{B7:List (Key×V)}{gs:List Pat},NT H B7 gs->NT H (B7.map fun kv=>if kv.1=(Sum.inr (S s):Key) then (kv.1,.ref t) else kv) (gs.map fun g=>if g.1=s then (g.1,ns) else g)
 | [],[],_=>trivial
 | [],_::_,h=>h.elim
 | _::_,[],h=>h.elim
 | kv::B7,g::gs,h=>by
  obtain⟨h1,h2,h4⟩:=h
  rw[L',L']
  by_cases e:g.1=s
  ·rw[B4 e,B4 (by rw[h1,e])]
   exact⟨h1,⟨t,rfl,ht⟩,NT.mapP ht h4⟩
  ·rw[B3 e,B3 (by rw[h1];exact fun q=>e (O7 q))]
   exact⟨h1,h2,NT.mapP ht h4⟩
theorem NT.put (h:NT H B7 gs) (ht:H t=some (.tup (ns.map V.int))):NT H (putK B7 (Sum.inr (S s)) (.ref t)) (putG gs s ns):=by
 unfold putK putG
 rw[h.anyK]
 split
 ·exact h.mapP ht
 ·exact h.append ⟨rfl,⟨t,rfl,ht⟩,trivial⟩
theorem NT.tups {H H':Hp}(hk:∀ b zs,H b=some (.tup zs)->H' b=some (.tup zs)):∀{B7:List (Key×V)}{gs:List Pat},NT H B7 gs->NT H' B7 gs
 | [],[],_=>trivial
 | [],_::_,h=>h.elim
 | _::_,[],h=>h.elim
 | kv::B7,g::gs,h=>by
  obtain⟨h1,⟨t,h2,h3⟩,h4⟩:=h
  exact⟨h1,⟨t,h2,hk _ _ h3⟩,NT.tups hk h4⟩
theorem dJ (h:g∈putG gs s ns):g∈gs∨g=(s,ns):=by
 unfold putG at h
 split at h
 ·obtain⟨g',hg',e⟩:=MC.mp h
  split at e
  ·rename_i q
   right
   rw[<- e,q]
  ·left;rw[<- e];exact hg'
 ·rcases L7.mp h with h | h
  ·exact .inl h
  ·right;simpa using h
theorem dL (h:Nf gs z=some g):g∈gs/\g.1=z:=⟨List.mem_of_find?_eq_some h,by have:=List.find?_some h;simpa using this⟩
theorem S7:∀{xs:List Pat}{gs:List Pat},(∀ g∈gs,g.2.length=g.1.length+1)->(∀ x∈xs,x.2.length=x.1.length+1)->∀ g∈xs.foldl grtS gs,g.2.length=g.1.length+1
 | [],gs,h,_=>h
 | x::xs,gs,h,hx=>by
  refine S7 (xs:=xs) (gs:=grtS gs x) (fun g hg=>?_) fun y hy=>hx y (Mp _ hy)
  rcases dJ hg with q | q
  ·exact h g q
  ·rw[q]
   have JO:=hx x Mn
   show (NS _ _).length=_
   have hl:(((Nf gs x.1).map (·.2)).getD x.2).length=x.2.length:=by
    cases e:Nf gs x.1 with
    | none=>rfl
    | some g' =>
     obtain⟨q1,q2⟩:=dL e
     show g'.2.length=_
     rw[h g' q1,q2,JO]
   rw[WU hl,hl,JO]
end L2
namespace L2
noncomputable def Mf (B:List (List Nat)):List Nat->List Nat
 | []=>[]
 | c::r=>if (c::r)∈B then c::r else Mf B r
theorem QU (B:List (List Nat)):∀ t,Mf B t <:+ t
 | []=>List.suffix_refl _
 | c::r=>by
  unfold Mf
  split
  ·exact List.suffix_refl _
  ·exact(QU B r).trans (List.suffix_cons c r)
theorem WW {B:List (List Nat)}(h:[]∈B):∀ t,Mf B t∈B
 | []=>h
 | c::r=>by
  unfold Mf
  split
  ·assumption
  ·exact WW h r
theorem S8 {B:List (List Nat)}{s:List Nat}(hB:s∈B):∀{t:List Nat},s <:+ t->s <:+ Mf B t
 | [],h=>h
 | c::r,h=>by
  unfold Mf
  split
  ·exact h
  ·rename_i hn
   rcases List.suffix_cons_iff.mp h with e | e
   ·exact absurd (e▸hB) hn
   ·exact S8 hB e
theorem suffix_snoc :s++[d] <:+ t++[c]↔d=c/\s <:+ t:=by
 constructor
 ·rintro⟨p,hp⟩
  rw[<- Qp] at hp
  obtain⟨h1,h2⟩:=List.append_inj' hp rfl
  exact⟨by simpa using h2,p,h1⟩
 ·rintro⟨rfl,p,hp⟩
  exact⟨p,by rw[<- Qp,hp]⟩
theorem dM (h1:s <:+ t) (h2:t <:+ s):s=t:=h1.eq_of_length (Nat.le_antisymm h1.length_le h2.length_le)
theorem WX:∀(u:List Nat),u=[]∨∃ s d,u=s++[d]
 | []=>.inl rfl
 | c::r=>.inr ⟨(c::r).dropLast,(c::r).getLast (by simp),(List.dropLast_concat_getLast (by simp)).symm⟩
theorem dN (h0:[]∈B) (hc:∀ s d,s++[d]∈B->s∈B) (t:List Nat) (c:Nat):Mf B (t++[c])=Mf B (Mf B t++[c]):=by
 apply dM
 ·have hu:=WW h0 (t++[c])
  have hs:=QU B (t++[c])
  rcases WX (Mf B (t++[c])) with e | ⟨s,d,e⟩
  ·rw[e];exact List.nil_suffix
  ·rw[e] at hu hs ⊢
   obtain⟨rfl,h2⟩:=suffix_snoc.mp hs
   exact S8 hu (suffix_snoc.mpr ⟨rfl,S8 (hc _ _ hu) h2⟩)
 ·refine S8 (WW h0 _) ((QU B _).trans ?_)
  exact suffix_snoc.mpr ⟨rfl,QU B t⟩
theorem WY (xs:List Pat):[]∈begs xs:=mem_begs.mpr (.inl rfl)
theorem WZ (hy:y≠[]):y∈begs xs↔∃ x∈xs,y <+: x.1:=by
 rw[mem_begs]
 constructor
 ·rintro(h | ⟨x,hx,e,h1,h2,h3⟩)
  ·exact absurd h hy
  ·exact⟨x,hx,h3▸List.take_prefix _ _⟩
 ·rintro⟨x,hx,h⟩
  have hl:=OA.mpr hy
  refine .inr ⟨x,hx,y.length,hl,h.length_le,?_⟩
  exact ir.mp h
theorem W0 (xs:List Pat)(s:List Nat)(d:Nat)(h:s++[d]∈begs xs):s∈begs xs:=by
 obtain⟨x,hx,hp⟩:=(WZ (by simp)).mp h
 by_cases hs:s=[]
 ·rw[hs];exact WY xs
 ·exact(WZ hs).mpr ⟨x,hx,(List.prefix_append s [d]).trans hp⟩
theorem W1 (h:x∈xs):x.1∈begs xs:=by
 by_cases hs:x.1=[]
 ·rw[hs];exact WY xs
 ·exact(WZ hs).mpr ⟨x,h,List.prefix_refl _⟩
theorem W2 (gs:List Pat)(x:List Nat)(back:Nat)(c:Int):∀ k,tAE gs x back k<=c↔0<=c/\∀ j,j < k->∀ g,Nf gs (x.drop (x.length - (back+j)))=some g->g.2.getD j 0<=c
 | 0=>⟨fun h=>⟨h,fun j hj=>absurd hj (R1 j)⟩,fun h=>h.1⟩
 | k+1=>by
  rw[WT]
  have ih:=W2 gs x back c k
  cases e:Nf gs (x.drop (x.length - (back+k))) with
  | none =>
   show tAE gs x back k<=c↔_
   rw[ih]
   refine⟨fun h=>⟨h.1,fun j hj g hg=>?_⟩,fun h=>⟨h.1,fun j hj=>h.2 j (aQ hj)⟩⟩
   by_cases hk:j=k
   ·subst hk;rw[e] at hg;cases hg
   ·exact h.2 j (by omega) g hg
  | some g0 =>
   show mx (tAE gs x back k) (g0.2.getD k 0)<=c↔_
   rw[mx_le,ih]
   refine⟨fun h=>⟨h.1.1,fun j hj g hg=>?_⟩,fun h=>⟨⟨h.1,fun j hj=>h.2 j (aQ hj)⟩,h.2 k (Ur k) g0 e⟩⟩
   by_cases hk:j=k
   ·subst hk;rw[e] at hg;cases hg;exact h.2
   ·exact h.1.2 j (by omega) g hg
theorem dP :Nf (putG gs s ns) z=if z=s then some (s,ns) else Nf gs z:=by
 unfold putG
 by_cases h:(gs.any fun g=>decide (g.1=s))=true
 ·rw[B4 h]
  induction gs with
  | nil=>simp at h
  | cons g gs ih =>
   unfold Nf at ih ⊢
   rw[L',Nv,Nv]
   by_cases hg:g.1=s
   ·rw[B4 hg]
    by_cases hz:z=s
    ·rw[B4 hz,B2 (show (g.1,ns).1=z from hg.trans hz.symm),hg]
    ·rw[B3 hz,B1 (show ¬ (g.1,ns).1=z from fun q=>hz (q.symm.trans hg))]
     show ZD (fun g=>decide (g.1=z)) (gs.map _)=ZD (fun g=>decide (g.1=z)) gs
     by_cases ha:(gs.any fun g=>decide (g.1=s))=true
     ·have:=ih ha
      rw[B3 hz] at this
      exact this
     ·have he:gs.map (fun g=>if g.1=s then (g.1,ns) else g)=gs:=by
       conv=>rhs;rw[<- List.map_id gs]
       apply RQ
       intro y hy
       rw[B3]
       ·rfl
       ·intro q
        exact ha (Qs.mpr ⟨y,hy,B2 q⟩)
      rw[he]
   ·rw[B3 hg]
    have ha:(gs.any fun g=>decide (g.1=s))=true:=by
     rw[Pq,B1 hg,Uq] at h;exact h
    have:=ih ha
    by_cases hz:z=s
    ·rw[B4 hz] at this ⊢
     rw[B1 (show ¬ g.1=z from fun q=>hg (q.trans hz))]
     exact this
    ·rw[B3 hz] at this ⊢
     rw[this]
 ·rw[B3 h]
  unfold Nf
  rw[List.find?_append]
  by_cases hz:z=s
  ·rw[B4 hz]
   have:ZD (fun g:Pat=>decide (g.1=z)) gs=none:=by
    rw[UW]
    intro y hy q
    exact h (Qs.mpr ⟨y,hy,by rw[hz] at q;exact q⟩)
   rw[this,Option.none_or,Nv,B2 (show (s,ns).1=z from hz.symm)]
  ·rw[B3 hz]
   have:ZD (fun g:Pat=>decide (g.1=z)) [(s,ns)]=none:=by
    rw[Nv,B1 (show ¬ (s,ns).1=z from fun q=>hz q.symm)];rfl
   rw[this,Option.or_none]
theorem W3 {xs:List Pat}(hx:∀ x∈xs,x.2.length=x.1.length+1):∀ n,n<=xs.length->∀(z:List Nat),
  (Nf (grt (xs.take n)) z=none->∀ x∈xs.take n,x.1≠z)/\(∀ g,Nf (grt (xs.take n)) z=some g->g.2.length=z.length+1/\∀(j:Nat) (c:Int),j < z.length+1->(g.2.getD j 0<=c↔∀ x∈xs.take n,x.1=z->x.2.getD j 0<=c))
 | 0,_,z=>⟨fun _ x hx=>(by simp at hx),fun g h=>by
   have:Nf (grt (xs.take 0)) z=none:=rfl
   rw[this] at h;cases h⟩
 | n+1,hn,z=>by
  have ih:=W3 hx n (by omega)
  have hn':n < xs.length:=by omega
  have Fe:xs.take (n+1)=xs.take n++[xs[n]]:=by rw[MA,LS hn'];rfl
  have G4:=hx _ (MD hn')
  rw[Fe,WV]
  generalize xs[n]=x at G4 ⊢
  unfold grtS
  rw[dP]
  by_cases hz:z=x.1
  ·rw[B4 hz]
   refine⟨(fun q=>by cases q),fun g q=>?_⟩
   cases q
   obtain⟨ih1,ih2⟩:=ih x.1
   cases e:Nf (grt (xs.take n)) x.1 with
   | none =>
    have Iu:=ih1 e
    show (NS x.2 x.2).length=_/\∀(j:Nat) (c:Int),j < _->((NS x.2 x.2).getD j 0<=c↔_)
    refine⟨by rw[WU rfl,G4,hz],fun j c hj=>?_⟩
    have hj':j < x.2.length:=by rw[G4,<- hz];exact hj
    have h1:(NS x.2 x.2).getD j 0=x.2.getD j 0:=by
     rw[L4,aa hj' hj',L4,LS hj']
     show mx _ _=_
     unfold mx;split <;> rfl
    rw[h1]
    refine⟨fun h y hy Fk=>?_,fun h=>h x (L7.mpr (.inr (by simp))) hz.symm⟩
    rcases L7.mp hy with q | q
    ·exact absurd (Fk.trans hz) (Iu y q)
    ·have:y=x:=by simpa using q
     rw[this];exact h
   | some g0 =>
    obtain⟨HZ,G5⟩:=ih2 g0 e
    have hl:g0.2.length=x.2.length:=by rw[HZ,G4]
    show (NS g0.2 x.2).length=_/\∀(j:Nat) (c:Int),j < _->((NS g0.2 x.2).getD j 0<=c↔_)
    refine⟨by rw[WU hl,HZ,hz],fun j c hj=>?_⟩
    have hj':j < x.2.length:=by rw[G4,<- hz];exact hj
    have JP:j < g0.2.length:=by rw[hl];exact hj'
    have h1:(NS g0.2 x.2).getD j 0=mx (g0.2.getD j 0) (x.2.getD j 0):=by
     rw[L4,aa JP hj',L4,LS JP,L4,LS hj'];rfl
    rw[h1,mx_le,G5 j c (by rw[<- hz];exact hj)]
    refine⟨fun h y hy Fk=>?_,fun h=>⟨fun y hy Fk=>h y (L7.mpr (.inl hy)) (Fk.trans hz.symm),h x (L7.mpr (.inr (by simp))) hz.symm⟩⟩
    rcases L7.mp hy with q | q
    ·exact h.1 y q (Fk.trans hz)
    ·have:y=x:=by simpa using q
     rw[this];exact h.2
  ·rw[B3 hz]
   obtain⟨ih1,ih2⟩:=ih z
   refine⟨fun q y hy=>?_,fun g q=>⟨(ih2 g q).1,fun j c hj=>?_⟩⟩
   ·rcases L7.mp hy with h | h
    ·exact ih1 q y h
    ·have:y=x:=by simpa using h
     rw[this];exact fun w=>hz w.symm
   ·rw[(ih2 g q).2 j c hj]
    refine⟨fun h y hy Fk=>?_,fun h y hy=>h y (L7.mpr (.inl hy))⟩
    rcases L7.mp hy with h' | h'
    ·exact h y h' Fk
    ·have:y=x:=by simpa using h'
     rw[this] at Fk;exact absurd Fk.symm hz
theorem P8 (hx:∀ x∈xs,x.2.length=x.1.length+1) (t:List Nat) (back:Nat) (c:Int):
  tAE (grt xs) t back (t.length+1 - back)<=c↔0<=c/\∀ x∈xs,x.1 <:+ t->back<=x.1.length->x.2.getD (x.1.length - back) 0<=c:=by
 have hg:=W3 hx xs.length (LZ _)
 rw[Mz] at hg
 rw[W2]
 refine and_congr_right fun h0=>⟨fun h x Dw hs hb=>?_,fun h j hj g KL=>?_⟩
 ·have hl:=hs.length_le
  have he:t.drop (t.length - (back+(x.1.length - back)))=x.1:=by
   rw[show back+(x.1.length - back)=x.1.length by omega]
   exact(al.mp hs).symm
  have h1:=h (x.1.length - back) (by omega)
  rw[he] at h1
  cases e:Nf (grt xs) x.1 with
  | none=>exact absurd rfl ((hg x.1).1 e x Dw)
  | some g=>exact(((hg x.1).2 g e).2 (x.1.length - back) c (by omega)).mp (h1 g e) x Dw rfl
 ·have D':(t.drop (t.length - (back+j))).length=back+j:=by rw[Ng];omega
  refine(((hg _).2 g KL).2 j c (by rw[D'];omega)).mpr fun x Dw JQ=>?_
  have Ea:x.1.length=back+j:=by rw[JQ,D']
  have:=h x Dw (by rw[JQ];exact Zv _ _) (by omega)
  rw[show x.1.length - back=j by omega] at this
  exact this
theorem mem_places :b∈MG p f↔b < f.length/\b+p.length<=f.length/\(f.drop b).take p.length=p:=by
 unfold MG fits
 rw[Qt,OE]
 simp
theorem UQ (hx:∀ x∈xs,x.2.length=x.1.length+1) (C5:∀ x∈xs,x.1≠[]) (hT:∀ x∈xs,x.1 <:+ rd++[c]->x.1 <:+ T) (KM:T <:+ rd++[c]) (hp:p+back=rd.length+1):
  numA (rd++[c]) p 0 xs=mx (numA rd p 0 xs) (tAE (grt xs) T back (T.length+1 - back)):=by
 have EM:(rd++[c]).length=rd.length+1:=by simp
 apply ZR
 ·rw[RM]
  have ht:=(P8 hx T back _).mp (OL _)
  refine⟨Uz ht.1 (mx_r _ _),fun v hv=>?_⟩
  obtain⟨x,Dw,b,hb,Eb,EE,rfl⟩:=hv
  obtain⟨h1,h2,h3⟩:=mem_places.mp hb
  have Ea:=hx x Dw
  have DV:=OA.mpr (C5 x Dw)
  by_cases Em:b+x.1.length<=rd.length
  ·refine Uz (P4 ⟨x,Dw,b,mem_places.mpr ⟨by omega,Em,?_⟩,Eb,EE,rfl⟩) (mx_l _ _)
   rw[<- h3,UU (by omega),Zm (by rw[Ng];omega),Mt,aS (by rw[Ng];omega)]
  ·have hs:x.1 <:+ rd++[c]:=by
    rw[<- h3,Uf (by rw[Ng];omega)]
    exact Zv _ _
   have:=ht.2 x Dw (hT x Dw hs) (by omega)
   rw[show x.1.length - back=p - b by omega] at this
   exact Uz this (mx_r _ _)
 ·rw[mx_le]
  constructor
  ·rw[RM]
   refine⟨WF,fun v hv=>?_⟩
   obtain⟨x,Dw,b,hb,Eb,EE,rfl⟩:=hv
   obtain⟨h1,h2,h3⟩:=mem_places.mp hb
   refine P4 ⟨x,Dw,b,mem_places.mpr ⟨by omega,by omega,?_⟩,Eb,EE,rfl⟩
   rw[UU (by omega),Zm (by rw[Ng];omega)]
   exact h3
  ·rw[P8 hx]
   refine⟨WF,fun x Dw hs hb=>?_⟩
   have DG:=hs.trans KM
   have hl:=DG.length_le
   have Ea:=hx x Dw
   have DV:=OA.mpr (C5 x Dw)
   refine P4 ⟨x,Dw,rd.length+1 - x.1.length,mem_places.mpr ⟨by omega,by omega,?_⟩,by omega,by omega,by congr 1;omega⟩
   have:=al.mp DG
   rw[EM] at this
   rw[<- this,Mz]
theorem W4 (hx:∀ x∈xs,x.2.length=x.1.length+1) (hp:rd.length < p):numA rd p 0 xs=0:=by
 apply ZR
 ·rw[RM]
  refine⟨OL _,fun v hv=>?_⟩
  obtain⟨x,Dw,b,hb,Eb,EE,rfl⟩:=hv
  obtain⟨h1,h2,h3⟩:=mem_places.mp hb
  have:=hx x Dw
  omega
 ·exact WF
theorem ac (hx:∀ x∈xs,x.2.length=x.1.length+1) (C5:∀ x∈xs,x.1≠[]) (IG:∀ x∈xs,x∈ys) (hs:(Mf (begs ys) rd).length+p < rd.length):
  numA (rd++rest) p 0 xs=numA rd p 0 xs:=by
 apply ZR
 ·rw[RM]
  refine⟨WF,fun v hv=>?_⟩
  obtain⟨x,Dw,b,hb,Eb,EE,rfl⟩:=hv
  obtain⟨h1,h2,h3⟩:=mem_places.mp hb
  have Ea:=hx x Dw
  have DV:=OA.mpr (C5 x Dw)
  by_cases Em:b+x.1.length<=rd.length
  ·refine P4 ⟨x,Dw,b,mem_places.mpr ⟨by omega,Em,?_⟩,Eb,EE,rfl⟩
   rw[UU (by omega),Zm (by rw[Ng];omega)] at h3
   exact h3
  ·exfalso
   have Ek:rd.drop b <+: x.1:=by
    rw[<- h3,UU (by omega),List.take_append,Uf (by rw[Ng];omega)]
    exact List.prefix_append _ _
   have hn:rd.drop b≠[]:=fun z=>by
    have:=congrArg Uk z
    rw[Ng,NO] at this
    omega
   have hm:rd.drop b∈begs ys:=(WZ hn).mpr ⟨x,IG x Dw,Ek⟩
   have:=(S8 hm (Zv b rd)).length_le
   rw[Ng] at this
   omega
 ·rw[RM]
  refine⟨WF,fun v hv=>?_⟩
  obtain⟨x,Dw,b,hb,Eb,EE,rfl⟩:=hv
  obtain⟨h1,h2,h3⟩:=mem_places.mp hb
  refine P4 ⟨x,Dw,b,mem_places.mpr ⟨by rw[Md];omega,by rw[Md];omega,?_⟩,Eb,EE,rfl⟩
  rw[UU (by omega),Zm (by rw[Ng];omega)]
  exact h3
theorem W5 {α:Type} [DecidableEq α]:∀{l B:List α},l.Nodup->(∀ a∈l,a∈B)->l.length<=B.length
 | [],B,_,_=>MR _
 | a::l,B,hn,h=>by
  have hn:=Rp.mp hn
  have ha:=h a Mn
  have ih:=W5 (B:=B.erase a) hn.2 fun b hb=>(iD (fun z:b=a=>hn.1 (by rw[<- z];exact hb))).mpr (h b (Mp _ hb))
  have hl:=ip ha
  have:=List.length_pos_of_mem ha
  rw[Mr];omega
end L2
namespace L2
open PySem
open Sem (wp)
structure ZA (z TI TO i1 i2:Ac)(f1 f2:List Ac):Prop where
 TIz:TI≠z
 TOz:TO≠z
 i1z:i1≠z
 i2z:i2≠z
 TITO:TI≠TO
 TIi1:TI≠i1
 TIi2:TI≠i2
 TOi1:TO≠i1
 TOi2:TO≠i2
 i12:i1≠i2
 zf1:z∉f1
 zf2:z∉f2
 of1:TO∉f1
 of2:TO∉f2
 i1f2:i1∉f2
 i2f1:i2∉f1
theorem Draws.still {P:Ag}{w:Ak}{A:Ap}{it c:Ac}{fp:List Ac}{n i:Nat}{Pv:Nat->Ab->Prop}{St:Nat->Ao->Prop}{h h':Ao}(D:A6 P w A it fp n Pv St)(st:St i h)(k:ZF c h h')(hc:c∉fp):St i h' :=
 D.frame _ _ _ st fun b hb o e=>k b o (fun z=>hc (z▸hb)) e
section
variable {prog:Ag}{w:Ak}{A:Ap}{E:Ab->Ae->Prop}{s:Ae}
theorem W6 {z TI TO i1 i2:Ac}{f1 f2:List Ac}{n1 n2 k1 k2:Nat}{P1 P2:Nat->Ab->Prop}{S1 S2:Nat->Ao->Prop}{a b:Ab}{Q:Ab->Ae->Prop}
  (D1:A6 prog w A i1 f1 n1 P1 S1) (D2:A6 prog w A i2 f2 n2 P2 S2) (Z:ZA z TI TO i1 i2 f1 f2)
  (hz:Be s.heap z TI TO .none) (D4:Aw s.heap TI (.ref i1) (.ref i2)) (Ex:Aw s.heap TO a b) (h1:S1 k1 s.heap) (h2:S2 k2 s.heap) (l1:k1 < n1) (l2:k2 < n2)
  (hQ:∀ x y h' tk,P1 k1 x->P2 k2 y->Be h' z TI TO (AH s.heap.objs.size)->Aw h' TO x y->S1 (k1+1) h'->S2 (k2+1) h'->Aw h' s.heap.objs.size x y ->
   (∀ c o,c≠z->c≠TO->c≠i1->c≠i2->s.heap.get? c=some o->h'.get? c=some o)->Q (.ref s.heap.objs.size) { s with heap:=h',toks:=tk }) :
  wpAny (Aj prog w) A (Builtin.«zip.__next__» ⟨[.ref z],[]⟩) (fun fin s'=>∃ v,fin=.done (.ret v)/\Q v s') E s:=by
 show wpAny _ _ (Bs (.ref z) 2 >>= _) _ _ _
 refine Aa (Al hz rfl (x:=.bool false) rfl ?_)
 show wpAny _ _ (Bs (.ref z) 3 >>= _) _ _ _
 refine Aa (Al hz rfl (x:=.ref TI) rfl (Aa (Av D4 rfl ?_)))
 show wpAny _ _ (Pc (.ref z) >>= _) _ _ _
 refine Aa ?_
 unfold Pc
 refine Aa (Al hz rfl (x:=.none) rfl (Ad ?_))
 simp only[if_true]
 refine Aa (BG (Aa (Al hz rfl (x:=.ref TO) rfl (Aa (As hz (by simp) fun g1 zg1 b1=>?_)))))
 have zg1':Be g1 z TI TO .ellipsis:=zg1
 refine Aa ?_
 simp only[Zw,Zz,Qe,RW]
 refine Aa (Aa (AX ?_))
 show wpAny _ _ (N0 (.ref i1) >>= _) _ _ _
 refine Aa (D1.item k1 _ _ _ l1 (Draws.still D1 h1 b1.extBut Z.zf1) fun x g2 tk1 hx h1' b2=>Ad ?_)
 have to2:Aw g2 TO a b:=b2.extBut _ _ Z.TOi1 (b1.extBut _ _ Z.TOz Ex)
 refine Aa (Av to2 rfl (Aa (AJ to2 fun g3 to3 b3=>?_)))
 have to3':Aw g3 TO x b:=to3
 refine Aa (A9 (Ad ?_))
 refine Aa (Aa (AX ?_))
 show wpAny _ _ (N0 (.ref i2) >>= _) _ _ _
 refine Aa (D2.item k2 _ _ _ l2 (Draws.still D2 (Draws.still D2 (Draws.still D2 h2 b1.extBut Z.zf2) b2.extBut Z.i1f2) b3.extBut Z.of2) fun y g4 tk2 hy h2' b4=>Ad ?_)
 have to4:Aw g4 TO x b:=b4.extBut _ _ Z.TOi2 to3'
 refine Aa (Av to4 rfl (Aa (AJ to4 fun g5 to5 b5=>?_)))
 have to5':Aw g5 TO x y:=to5
 refine Aa (A9 (Ad (Ad ?_)))
 refine Aa (Av to5' rfl (Aa (BQ ?_)))
 have sz:g5.objs.size=s.heap.objs.size:=by rw[b5.1,b4.1,b3.1,b2.1,b1.1]
 have zg5:Be g5 z TI TO .ellipsis:=b5.extBut _ _ Z.TOz.symm (b4.extBut _ _ Z.i2z.symm (b3.extBut _ _ Z.TOz.symm (b2.extBut _ _ Z.i1z.symm zg1')))
 have kp:∀ c o,c≠z->c≠TO->c≠i1->c≠i2->s.heap.get? c=some o->g5.get? c=some o:=fun c o c1 c2 c3 c4 e =>
  b5.extBut _ _ c2 (b4.extBut _ _ c4 (b3.extBut _ _ c2 (b2.extBut _ _ c3 (b1.extBut _ _ c1 e))))
 have s1:S1 (k1+1) g5:=Draws.still D1 (Draws.still D1 (Draws.still D1 h1' b3.extBut Z.of1) b4.extBut Z.i2f1) b5.extBut Z.of1
 have s2:S2 (k2+1) g5:=Draws.still D2 h2' b5.extBut Z.of2
 have zlt:z < g5.objs.size:=Mh zg5
 show wpAny _ _ (ZK (.ref z) (.ref g5.objs.size) >>= _) _ _ _
 refine Aa ?_
 unfold ZK
 have zg6:Be (g5.push { cls:=.type "tuple",data:=.seq #[x,y] }) z TI TO .ellipsis:=L1 _ zg5
 refine Aa (As zg6 (by simp) fun g7 zg7 b7=>?_)
 have zg7':Be g7 z TI TO (AH g5.objs.size):=zg7
 refine As zg7' (by simp) fun g8 zg8 b8=>?_
 have zg8':Be g8 z TI TO (AH g5.objs.size):=zg8
 have up:∀ c o,c≠z->g5.get? c=some o->g8.get? c=some o:=fun c o c1 e=>b8.extBut _ _ c1 (b7.extBut _ _ c1 (L1 _ e))
 have tp:Aw g8 g5.objs.size x y:=b8.extBut _ _ (Us zlt) (b7.extBut _ _ (Us zlt) (Ms _ rfl))
 rw[sz] at zg8' tp
 refine Ad ⟨_,rfl,?_⟩
 show Q (.ref g5.objs.size) _
 rw[sz]
 exact hQ x y g8 _ hx hy zg8' (up _ _ Z.TOz to5') (D1.frame _ _ _ s1 fun c hc o e=>up c o (fun q=>Z.zf1 (q▸hc)) e) (D2.frame _ _ _ s2 fun c hc o e=>up c o (fun q=>Z.zf2 (q▸hc)) e) tp fun c o c1 c2 c3 c4 e=>up c o c1 (kp c o c1 c2 c3 c4 e)
theorem W7 {z TI TO i1 i2:Ac}{f1 f2:List Ac}{n1 n2 k:Nat}{P1 P2:Nat->Ab->Prop}{S1 S2:Nat->Ao->Prop}{a b:Ab}{Q:Fin->Ae->Prop}
  (D1:A6 prog w A i1 f1 n1 P1 S1) (D2:A6 prog w A i2 f2 n2 P2 S2) (Z:ZA z TI TO i1 i2 f1 f2)
  (hz:Be s.heap z TI TO .none) (D4:Aw s.heap TI (.ref i1) (.ref i2)) (Ex:Aw s.heap TO a b) (h1:S1 k s.heap) (h2:S2 k s.heap) (hk:k=min n1 n2)
  (hE:∀ h' e tk,(∀ c o,c≠z->c≠TO->c≠i1->c≠i2->s.heap.get? c=some o->h'.get? c=some o)->(∃ o,h'.get? e=some o/\o.cls=.type "StopIteration")->E (.ref e) { s with heap:=h',toks:=tk }) :
  wpAny (Aj prog w) A (Builtin.«zip.__next__» ⟨[.ref z],[]⟩) Q E s:=by
 show wpAny _ _ (Bs (.ref z) 2 >>= _) _ _ _
 refine Aa (Al hz rfl (x:=.bool false) rfl ?_)
 show wpAny _ _ (Bs (.ref z) 3 >>= _) _ _ _
 refine Aa (Al hz rfl (x:=.ref TI) rfl (Aa (Av D4 rfl ?_)))
 show wpAny _ _ (Pc (.ref z) >>= _) _ _ _
 refine Aa ?_
 unfold Pc
 refine Aa (Al hz rfl (x:=.none) rfl (Ad ?_))
 simp only[if_true]
 refine Aa (BG (Aa (Al hz rfl (x:=.ref TO) rfl (Aa (As hz (by simp) fun g1 zg1 b1=>?_)))))
 have zg1':Be g1 z TI TO .ellipsis:=zg1
 refine Aa ?_
 simp only[Zw,Zz,Qe,RW]
 refine Aa (Aa (AX ?_))
 show wpAny _ _ (N0 (.ref i1) >>= _) _ _ _
 have FM:=Draws.still D1 h1 b1.extBut Z.zf1
 by_cases c:n1<=n2
 ·have e:k=n1:=by omega
  subst e
  refine Aa (D1.done _ _ _ FM fun g2 e b2 he=>?_)
  obtain⟨oe,En,EU⟩:=he
  have zg2:Be g2 z TI TO .ellipsis:=b2 _ _ Z.i1z.symm zg1'
  have Ge:e≠z:=fun x=>by subst x;rw[zg2] at En;cases En;simp at EU
  exact As zg2 (by simp) fun g3 _ b3=>hE g3 e _ (fun c o c1 _ c3 _ x=>b3.extBut _ _ c1 (b2 _ _ c3 (b1.extBut _ _ c1 x))) ⟨oe,b3.extBut _ _ Ge En,EU⟩
 ·have e:k=n2:=by omega
  subst e
  refine Aa (D1.item k _ _ _ (by omega) FM fun x g2 tk1 hx h1' b2=>Ad ?_)
  have to2:Aw g2 TO a b:=b2.extBut _ _ Z.TOi1 (b1.extBut _ _ Z.TOz Ex)
  refine Aa (Av to2 rfl (Aa (AJ to2 fun g3 to3 b3=>?_)))
  refine Aa (A9 (Ad ?_))
  refine Aa (Aa (AX ?_))
  show wpAny _ _ (N0 (.ref i2) >>= _) _ _ _
  refine Aa (D2.done _ _ _ (Draws.still D2 (Draws.still D2 (Draws.still D2 h2 b1.extBut Z.zf2) b2.extBut Z.i1f2) b3.extBut Z.of2) fun g4 e b4 he=>?_)
  obtain⟨oe,En,EU⟩:=he
  have zg4:Be g4 z TI TO .ellipsis:=b4 _ _ Z.i2z.symm (b3.extBut _ _ Z.TOz.symm (b2.extBut _ _ Z.i1z.symm zg1'))
  have Ge:e≠z:=fun x=>by subst x;rw[zg4] at En;cases En;simp at EU
  exact As zg4 (by simp) fun g5 _ b5=>hE g5 e _ (fun c o c1 c2 c3 c4 x=>b5.extBut _ _ c1 (b4 _ _ c4 (b3.extBut _ _ c2 (b2.extBut _ _ c3 (b1.extBut _ _ c1 x))))) ⟨oe,b5.extBut _ _ Ge En,EU⟩
end
theorem W8 {prog:Ag}{w:Ak}{A:Ap}{z TI TO i1 i2:Ac}{f1 f2:List Ac}{n1 n2:Nat}{P1 P2:Nat->Ab->Prop}{S1 S2:Nat->Ao->Prop}
  (D1:A6 prog w A.in1 i1 f1 n1 P1 S1) (D2:A6 prog w A.in1 i2 f2 n2 P2 S2) (Z:ZA z TI TO i1 i2 f1 f2) (m1:i1∈f1) (m2:i2∈f2) :
  WalksT prog w A z (z::TI::TO::(f1++f2)) [z,TO,i1,i2] (min n1 n2)
   (fun i vals=>∃ x y,P1 i x/\P2 i y/\vals=#[x,y])
   (fun i h=>Be h z TI TO .none/\Aw h TI (.ref i1) (.ref i2)/\(∃ a b,Aw h TO a b)/\S1 i h/\S2 i h)
   (fun i T h=>Be h z TI TO (AH T)/\Aw h TI (.ref i1) (.ref i2)/\(∃ a b,Aw h TO a b)/\S1 (i+1) h/\S2 (i+1) h/\T≠z/\T≠TO/\T≠i1/\T≠i2) where
 sub:=fun c hc=>by
  simp only[Mc,OC,or_false] at hc
  rcases hc with rfl | rfl | rfl | rfl
  ·simp
  ·simp
  ·simp[m1]
  ·simp[m2]
 frame:=fun i h h' st k=>by
  obtain⟨a1,a2,⟨a,b,a3⟩,a4,a5⟩:=st
  exact⟨k z (by simp) _ a1,k TI (by simp) _ a2,⟨a,b,k TO (by simp) _ a3⟩,D1.frame _ _ _ a4 fun c hc o e=>k c (by simp[hc]) o e,D2.frame _ _ _ a5 fun c hc o e=>k c (by simp[hc]) o e⟩
 item:=fun i s Q E hi st hQ=>by
  obtain⟨a1,a2,⟨a,b,a3⟩,a4,a5⟩:=st
  have hT:s.TypeIs (.ref z) "zip":=⟨_,a1,rfl⟩
  have lt:∀{c o},s.heap.get? c=some o->s.heap.objs.size≠c:=fun e=>Us (Mh e)
  unfold A_
  refine Aa (AY (Am (name:=Mm "__next__") hT Qx (Aq Qx hT ZP
   (W6 D1 D2 Z a1 a2 a3 a4 a5 (by omega) (by omega) fun x y h' tk hx hy c1 c2 c3 c4 c5 hk=>Ad ?_) (ZO _))))
  exact hQ s.heap.objs.size #[x,y] h' tk ⟨x,y,hx,hy,rfl⟩ (LZ _) ⟨_,c5,rfl,_,rfl⟩
   ⟨c1,hk _ _ Z.TIz Z.TITO Z.TIi1 Z.TIi2 a2,⟨_,_,c2⟩,c3,c4,lt a1,lt a3,(by obtain⟨_,e⟩:=D1.live _ _ a4;exact lt e),(by obtain⟨_,e⟩:=D2.live _ _ a5;exact lt e)⟩
   fun c o hc e=>hk c o (fun q=>hc (by simp[q])) (fun q=>hc (by simp[q])) (fun q=>hc (by simp[q])) (fun q=>hc (by simp[q])) e
 go:=fun elts k pos i T s Q E hm hQ=>by
  obtain⟨a1,a2,⟨a,b,a3⟩,a4,a5,_⟩:=hm
  exact wpAny_letOwnedTupleGo_zip a1 fun h' z' b'=>hQ h' ⟨z',b'.extBut _ _ Z.TIz a2,⟨a,b,b'.extBut _ _ Z.TOz a3⟩,Draws.still D1 a4 b'.extBut Z.zf1,Draws.still D2 a5 b'.extBut Z.zf2⟩
   fun c o hc e=>b'.extBut _ _ (fun q=>hc (by simp[q])) e
 apart:=fun i T h hm hT=>by
  obtain⟨_,_,_,_,_,t1,t2,t3,t4⟩:=hm
  simp only[Mc,OC,or_false] at hT
  rcases hT with q | q | q | q
  ·exact t1 q
  ·exact t2 q
  ·exact t3 q
  ·exact t4 q
 done:=fun s Q E st hQ=>by
  obtain⟨a1,a2,⟨a,b,a3⟩,a4,a5⟩:=st
  have hT:s.TypeIs (.ref z) "zip":=⟨_,a1,rfl⟩
  unfold A_
  refine Aa (AY (Am (name:=Mm "__next__") hT Qx (Aq Qx hT ZP
   (W7 D1 D2 Z a1 a2 a3 a4 a5 rfl fun h' e tk hk he=>?_) (ZO _))))
  obtain⟨o,ho,hc⟩:=he
  refine Aa (Bj (T:="StopIteration") (b:=true) ⟨o,ho,hc⟩ Bt ?_)
  exact Ad (hQ _ _ fun c o hc e=>hk c o (fun q=>hc (by simp[q])) (fun q=>hc (by simp[q])) (fun q=>hc (by simp[q])) (fun q=>hc (by simp[q])) e)
 self:=fun i s Q E st hQ=>A5 st.1 hQ
noncomputable abbrev zs1 (h:Ao)(x:Str)(t:Tok):Ao:=h.push { cls:=.type (AQ x),data:=.fields #[.str x t,.int 0 0] }
noncomputable abbrev zs2 (h:Ao)(x:Str)(t:Tok)(l:Ac):Ao:=(zs1 h x t).push { cls:=.type "tuple_iterator",data:=.fields #[.ref l,.int 0 0] }
noncomputable abbrev zs3 (h:Ao)(x:Str)(t:Tok)(l:Ac):Ao:=(zs2 h x t l).push { cls:=.type "tuple",data:=.seq #[.ref h.objs.size,.ref (zs1 h x t).objs.size] }
noncomputable abbrev zs4 (h:Ao)(x:Str)(t:Tok)(l:Ac):Ao:=(zs3 h x t l).push { cls:=.type "tuple",data:=.seq #[.none,.none] }
noncomputable abbrev zs5 (h:Ao)(x:Str)(t:Tok)(l:Ac):Ao:=(zs4 h x t l).push { cls:=.type "zip",data:=.fields #[.none,.bool false,.bool false,.ref (zs2 h x t l).objs.size,.ref (zs3 h x t l).objs.size] }
theorem W9 {h:Ao}{l:Ac}{ys:Array Ab}(hl:h.IsTuple l ys)(o:Obj):(h.push o).IsTuple l ys:=by
 obtain⟨u,e,r⟩:=hl
 exact⟨u,L1 _ e,r⟩
set_option maxHeartbeats 4000000 in
theorem dQ (x:Str)(t:Tok)(l:Ac)(ys:Array Ab) :
  Meets (Builtin.«zip.__new__» ⟨[.type "zip",.str x t,.ref l],[]⟩) (fun _ R s=>s.heap.IsTuple l ys /\
   R (.ok (.ret (.ref (zs4 s.heap x t l).objs.size))) { s with heap:=zs5 s.heap x t l }) :=
 .of_wp fun prog w A R s h=>by
  obtain⟨hp,g,d,tk,os⟩:=s;obtain⟨hl,h⟩:=h
  have DR:=sub_zip
  have hL:aG (Z3 ⟨hp.push { cls:=.type (AQ x),data:=.fields #[.str x t,.int 0 0] },g,d,tk,os⟩) l ys:=W9 hl _
  wp_walk using wpAny_pyIter_strU,AD hL
  exact⟨_,rfl,h⟩
section
variable {prog:Ag}{w:Ak}{A:Ap}{E:Ab->Ae->Prop}{s:Ae}
theorem dR (hl:s.heap.IsTuple l ys) (h:∀ h',Be h' (s.heap.objs.size+4) (s.heap.objs.size+2) (s.heap.objs.size+3) .none->Aw h' (s.heap.objs.size+2) (.ref s.heap.objs.size) (.ref (s.heap.objs.size+1)) ->
   Aw h' (s.heap.objs.size+3) .none .none->h'.IsStrIter s.heap.objs.size (AQ x) x t 0->h'.IsTupleIter (s.heap.objs.size+1) l 0 ->
   (∀ c o,s.heap.get? c=some o->h'.get? c=some o)->Q (.ref (s.heap.objs.size+4)) { s with heap:=h' }):
  wpAny (Aj prog w) A (call (.type "zip") [.str x t,.ref l]) Q E s:=by
 refine callType_new F.called_zip (by decide) (F.typeCall_zip_2 _ _) (F.newCall_zip_2 _ _) (fun obj=>F.args_object_init_3 obj _ _) F.entry_zip_new (dQ x t l ys) ⟨hl,?_⟩
 have z1:(zs1 s.heap x t).objs.size=s.heap.objs.size+1:=NZ ..
 have z2:(zs2 s.heap x t l).objs.size=s.heap.objs.size+2:=by rw[NZ,z1]
 have z3:(zs3 s.heap x t l).objs.size=s.heap.objs.size+3:=by rw[NZ,z2]
 have z4:(zs4 s.heap x t l).objs.size=s.heap.objs.size+4:=by rw[NZ,z3]
 have p5:(zs5 s.heap x t l).get? (zs4 s.heap x t l).objs.size=some _:=Ms _ rfl
 have p4:(zs5 s.heap x t l).get? (zs3 s.heap x t l).objs.size=some _:=L1 _ (Ms _ rfl)
 have p3:(zs5 s.heap x t l).get? (zs2 s.heap x t l).objs.size=some _:=L1 _ (L1 _ (Ms _ rfl))
 have p2:(zs5 s.heap x t l).get? (zs1 s.heap x t).objs.size=some _:=L1 _ (L1 _ (L1 _ (Ms _ rfl)))
 have p1:(zs5 s.heap x t l).get? s.heap.objs.size=some _:=L1 _ (L1 _ (L1 _ (L1 _ (Ms _ rfl))))
 show _/\_
 rw[z2,z3,z4] at p5
 rw[z1,z2] at p3
 rw[z3] at p4
 rw[z1] at p2
 rw[z4]
 exact⟨⟨_,p5,rfl⟩,h _ p5 p3 p4 ⟨_,p1,rfl,rfl⟩ ⟨_,p2,rfl,rfl⟩ fun c o e=>L1 _ (L1 _ (L1 _ (L1 _ (L1 _ e))))⟩
end
end L2
namespace L2
open PySem PySem.Spec PyProof.Rows
noncomputable def Izp (xs ys:List V)(ok:Hp->Prop):It :=
 ⟨fun i H=>ok H/\i < xs.length/\i < ys.length,fun i H x H'=>∃ T u v,H T=none/\xs[i]?=some u/\ys[i]?=some v/\x=.ref T/\H'=upd H T (PrX T [u,v]),fun i H=>ok H/\i=min xs.length ys.length⟩
theorem dS {P:Ag}{w:Ak}{K:LR}{elts:List Ay}{k:Nat}{pos:Pos}{z TI TO i1 i2:Ac}{xs ys:List V}{ok:Hp->Prop}{S1 S2:Nat->Ao->Prop}
  (n1:TI≠z) (n2:TO≠z) (n3:i1≠z) (n4:i2≠z) (n5:TI≠TO) (n6:TI≠i1) (n7:TI≠i2) (n8:TO≠i1) (n9:TO≠i2) (n10:i1≠i2)
  (D7:∀(X:Cx),X.prog=P->X.w=w->X.K=K->X.calm=true->∀(i:Nat) (B5:List (Ac×Obj)) (s:Ae) (σ:St) (H:Hp),Inv X B5 σ H s->ok H->H i1=none->S1 i s.heap->RJ P w X.A.in1 i1 xs S1 H i s.heap)
  (Gf:∀(X:Cx),X.prog=P->X.w=w->X.K=K->X.calm=true->∀(i:Nat) (B5:List (Ac×Obj)) (s:Ae) (σ:St) (H:Hp),Inv X B5 σ H s->ok H->H i2=none->S2 i s.heap->RJ P w X.A.in1 i2 ys S2 H i s.heap)
  (o1:∀ i h,S1 i h->∃ o,h.get? i1=some o/\∀ v,o.data≠.cell v) (o2:∀ i h,S2 i h->∃ o,h.get? i2=some o/\∀ v,o.data≠.cell v)
  (k1:∀ i h h',S1 i h->(∀ o,h.get? i1=some o->h'.get? i1=some o)->S1 i h') (k2:∀ i h h',S2 i h->(∀ o,h.get? i2=some o->h'.get? i2=some o)->S2 i h') :
  Turn P w K (.Tuple elts k pos) (Izp xs ys ok) [z,TI,TO,i1,i2] z (fun i h=>Be h z TI TO .none/\Aw h TI (.ref i1) (.ref i2)/\(∃ a b,Aw h TO a b)/\S1 i h/\S2 i h) where
 mem:=by simp
 obj:=fun i h st c hc=>by
  obtain⟨a1,a2,⟨a,b,a3⟩,a4,a5⟩:=st
  simp only[Mc,OC,or_false] at hc
  rcases hc with q | q | q | q | q <;> rw[q]
  ·exact⟨_,a1,fun v q=>by have q':Data.fields _=Data.cell v:=q;cases q'⟩
  ·exact⟨_,a2,fun v q=>by have q':Data.seq _ _=Data.cell v:=q;cases q'⟩
  ·exact⟨_,a3,fun v q=>by have q':Data.seq _ _=Data.cell v:=q;cases q'⟩
  ·exact o1 i h a4
  ·exact o2 i h a5
 keep:=fun i h h' st kk=>by
  obtain⟨a1,a2,⟨a,b,a3⟩,a4,a5⟩:=st
  exact⟨kk z (by simp) _ a1,kk TI (by simp) _ a2,⟨a,b,kk TO (by simp) _ a3⟩,k1 i h h' a4 fun o q=>kk i1 (by simp) o q,k2 i h h' a5 fun o q=>kk i2 (by simp) o q⟩
 item:=by
  intro X hP hw hK hc i B5 s σ H E I hf st hg
  subst hP hw hK
  obtain⟨a1,a2,⟨a,b,a3⟩,a4,a5⟩:=st
  obtain⟨hok,D5,DH⟩:=hg
  obtain⟨f1,P1,T1,D1,m1,DN,st1,r1,bk1⟩:=D7 X rfl rfl rfl hc i B5 s σ H I hok (hf i1 (by simp)).1 a4
  obtain⟨f2,P2,T2,D2,m2,DS,st2,r2,bk2⟩:=Gf X rfl rfl rfl hc i B5 s σ H I hok (hf i2 (by simp)).1 a5
  have out1:∀ c∈[z,TI,TO,i1,i2],c≠i1->c∉f1:=fun c hc hn q=>by
   rcases DN c q with e | e
   ·exact hn e
   ·exact e (hf c hc).1
  have out2:∀ c∈[z,TI,TO,i1,i2],c≠i2->c∉f2:=fun c hc hn q=>by
   rcases DS c q with e | e
   ·exact hn e
   ·exact e (hf c hc).1
  have Z:ZA z TI TO i1 i2 f1 f2:=⟨n1,n2,n3,n4,n5,n6,n7,n8,n9,n10,out1 z (by simp) n3.symm,out2 z (by simp) n4.symm,out1 TO (by simp) n8,out2 TO (by simp) n9,out2 i1 (by simp) n10,out1 i2 (by simp) n10.symm⟩
  have W:=W8 D1 D2 Z m1 m2
  refine W.item i s _ E (by omega) ⟨a1,a2,⟨a,b,a3⟩,st1,st2⟩ fun T vals h1 tk IF hT Gd hm hk=>⟨.ref T,rfl,?_⟩
  obtain⟨x,y,hx,hy,rfl⟩:=IF
  obtain⟨u,hu,ru⟩:=r1 _ _ hx
  obtain⟨v,hv,rv⟩:=r2 _ _ hy
  have apart:=W.apart _ _ _ hm
  refine W.go elts k pos i T _ _ E hm fun h2 st2 G3=>?_
  have sub:∀ c,c∉[z,TI,TO,i1,i2]->c∉[z,TO,i1,i2]:=fun c hc q=>hc (by simp only[Mc,OC,or_false] at q ⊢;rcases q with q | q | q | q <;> simp[q])
  have kk:∀ c u,c∉[z,TI,TO,i1,i2]->s.heap.get? c=some u->h2.get? c=some u:=fun c u hc q=>G3 c u (sub c hc) (hk c u (sub c hc) q)
  have tup2:IsTup h2 T #[x,y]:=by
   obtain⟨o,ho,r⟩:=Gd
   exact⟨o,G3 T o apart ho,r⟩
  refine⟨.ref T,upd H T (PrX T [u,v]),I.turnedNew (t':=tk) hT kk hf ?_,rfl,⟨T,u,v,I.hok.fresh hT,hu,hv,rfl,rfl⟩,?_,?_⟩
  ·exact PrX.ok ⟨by show 2<=Af;decide,[x,y],.cons ru (.cons rv .nil),tup2⟩
  ·obtain⟨c1,c2,c3,c4,c5⟩:=st2
   exact⟨c1,c2,c3,bk1 _ _ c4,bk2 _ _ c5⟩
  ·intro c hc
   have Cm:c < s.heap.objs.size:=by
    simp only[Mc,OC,or_false] at hc
    rcases hc with q | q | q | q | q <;> rw[q]
    ·exact Mh a1
    ·exact Mh a2
    ·exact Mh a3
    ·obtain⟨o,ho,_⟩:=o1 i _ a4;exact Mh ho
    ·obtain⟨o,ho,_⟩:=o2 i _ a5;exact Mh ho
   rw[LU (MI (NA Cm hT))]
   exact(hf c hc).1
 done:=by
  intro X hP hw hK hc i B5 s σ H E I hf st hg
  subst hP hw hK
  obtain⟨a1,a2,⟨a,b,a3⟩,a4,a5⟩:=st
  obtain⟨hok,rfl⟩:=hg
  obtain⟨f1,P1,T1,D1,m1,DN,st1,r1,bk1⟩:=D7 X rfl rfl rfl hc _ B5 s σ H I hok (hf i1 (by simp)).1 a4
  obtain⟨f2,P2,T2,D2,m2,DS,st2,r2,bk2⟩:=Gf X rfl rfl rfl hc _ B5 s σ H I hok (hf i2 (by simp)).1 a5
  have out1:∀ c∈[z,TI,TO,i1,i2],c≠i1->c∉f1:=fun c hc hn q=>by
   rcases DN c q with e | e
   ·exact hn e
   ·exact e (hf c hc).1
  have out2:∀ c∈[z,TI,TO,i1,i2],c≠i2->c∉f2:=fun c hc hn q=>by
   rcases DS c q with e | e
   ·exact hn e
   ·exact e (hf c hc).1
  have Z:ZA z TI TO i1 i2 f1 f2:=⟨n1,n2,n3,n4,n5,n6,n7,n8,n9,n10,out1 z (by simp) n3.symm,out2 z (by simp) n4.symm,out1 TO (by simp) n8,out2 TO (by simp) n9,out2 i1 (by simp) n10,out1 i2 (by simp) n10.symm⟩
  have sub:∀ c,c∉[z,TI,TO,i1,i2]->c∉[z,TO,i1,i2]:=fun c hc q=>hc (by simp only[Mc,OC,or_false] at q ⊢;rcases q with q | q | q | q <;> simp[q])
  exact(W8 D1 D2 Z m1 m2).done s _ E ⟨a1,a2,⟨a,b,a3⟩,st1,st2⟩ fun h1 tk hk=>⟨rfl,I.turnedL (fun c u hc q=>hk c u (sub c hc) q) hf⟩
 self:=fun A i s Q E st q=>A5 st.1 q
theorem zn1 {n i j:Nat}(h:i≠j):n+i≠n+j:=by omega
theorem zn2 (h:0≠j):n≠n+j:=by omega
theorem zn3 (h:0≠j):n+j≠n:=by omega
section
variable {X:Cx}
def zpIt (R:It->Hp->Prop):V->V->Hp->Prop:=fun x y H1=>match x,y with
 | .str z,.ref a=>∃ ys,H1 a=some (.tup ys)/\R (Izp (chs z) ys fun H=>H a=some (.tup ys)) H1
 | _,_=>False
def iZip (ta tb:TE):TI:=fun σ H R=>ta σ H fun x H1=>tb σ H1 fun y H2=>zpIt R x y H2
theorem pi_zip (hg:Gl X "zip") (hm:X.mg "zip"=none) (ha:PE X a ta) (hb:PE X b tb) (hs:Ah [a,b] X.env=(false,Ax a X.env)::Ah [b] X.env:=by rfl) (DG:Ah [b] X.env=[(false,Ax b X.env)]:=by rfl):
  PI X (.Tuple elts k tpos) (.Call (.Name "zip" p) [a,b] [] pos) (iZip ta tb):=by
 intro B5 s σ H R I h
 refine Call_ (Pt I hg hm (by decide +kernel:AF "zip"=some (.type "zip")) (Rv ?_ hs (by rw[DG];rfl)))
 rw[hs,DG]
 show wpAny _ _ (Bx ((false,Ax a X.env)::AE pos [(false,Ax b X.env)])) _ _ s
 refine Pr (thn (ha B5 s σ H _ I h) fun u s1 hI9=>?_)
 obtain⟨x,H1,I1,ru,q1⟩:=hI9
 show wpAny _ _ (Bx ((false,Ax b X.env)::[])) _ _ s1
 refine Pr (thn (hb B5 s1 σ H1 _ I1 q1) fun u2 s2 ⟨y,H2,I2,ru2,q2⟩=>Rw ?_)
 have q2:zpIt R x y H2:=q2
 obtain⟨z,l,rfl,rfl⟩:∃ z l,x=.str z/\y=.ref l:=by
  unfold zpIt at q2
  split at q2
  ·exact⟨_,_,rfl,rfl⟩
  ·exact q2.elim
 obtain⟨t,rfl⟩:=ru
 cases ru2
 obtain⟨ys,hl,q2⟩:=q2
 obtain⟨its,rv,pl,hz⟩:=I2.tuple (SqT.of hl)
 refine dR pl fun h1 c1 c2 c3 c4 c5 hk=>?_
 refine A5 c1 ?_
 refine⟨_,[_,_,_,_,_],_,_,H2,rfl,I2.kept (t':=s2.toks) hk,dS (z:=s2.heap.objs.size+4) (TI:=s2.heap.objs.size+2) (TO:=s2.heap.objs.size+3) (i1:=s2.heap.objs.size) (i2:=s2.heap.objs.size+1) (ok:=fun H=>H l=some (.tup ys)) (xs:=chs z) (ys:=ys)
  (S1:=fun i h=>h.IsStrIter s2.heap.objs.size (AQ z) z t i) (S2:=fun i h=>h.IsTupleIter (s2.heap.objs.size+1) l i) (zn1 (by decide)) (zn1 (by decide)) (zn2 (by decide)) (zn1 (by decide)) (zn1 (by decide)) (zn3 (by decide)) (zn1 (by decide)) (zn3 (by decide)) (zn1 (by decide)) (zn2 (by decide)) ?_ ?_ ?_ ?_ ?_ ?_,⟨c1,c2,⟨_,_,c3⟩,c4,c5⟩,?_,q2⟩
 ·intro X' h1 h2 h3 hc i B5 s σ H I _ _ st
  exact h1▸h2▸V6 (A:=X'.A.in1) (show X'.A.in1.handled=none from I.ok.hd hc) st
 ·intro X' h1 h2 h3 hc i B5 s σ H I ok hn st
  exact h1▸h2▸QJ hc I (SqT.of ok) hn (by rw[ok];exact fun z=>nomatch z) st
 ·intro i h st
  obtain⟨o,ho,hc,hd⟩:=st
  exact⟨o,ho,fun v q=>by rw[hd] at q;cases q⟩
 ·intro i h st
  obtain⟨o,ho,hc,hd⟩:=st
  exact⟨o,ho,fun v q=>by rw[hd] at q;cases q⟩
 ·intro i h h' st kk
  obtain⟨o,ho,r⟩:=st
  exact⟨o,kk o ho,r⟩
 ·intro i h h' st kk
  exact st.at kk
 ·intro c hc
  have Em:s2.heap.objs.size<=c:=by
   simp only[Mc,OC,or_false] at hc
   rcases hc with q | q | q | q | q <;> rw[q] <;> first | exact Nat.le_add_right _ _ | exact LZ _
  exact I2.fpOk Em (I2.hok.fresh Em)
end
theorem W_ (n:Nat) (hn:n=min xs.length ys.length) (Pv:Nat->List V->St->Hp->Prop) (hok:∀ i B6 σ H,i<=n->Pv i B6 σ H->ok H) (h0:Pv 0 [] σ0 H0) (hp:∀ i B6 σ H,Pv i B6 σ H->H p=some (.lst B6)/\B6.length<=i) (hz:n<=Af) (hs:∀ i u v B6 σ H T,xs[i]?=some u->ys[i]?=some v->Pv i B6 σ H->H T=none->g (.ref T) σ (upd H T (PrX T [u,v])) fun σ3 H3=>tc σ3 H3 fun bb H4 =>
   if bb=true then te σ3 H4 fun v H5=>H5 p=some (.lst B6)/\Pv (i+1) (B6++[v]) σ3 (upd H5 p (.lst (B6++[v]))) else Pv (i+1) B6 σ3 H4) (hd:∀ B6 σ H,Pv n B6 σ H->Q (.ref p) H):QG (Izp xs ys ok) p g tc te Q σ0 H0:=by
 refine⟨fun i m B6 σ H=>m=n - i/\i<=n/\Pv i B6 σ H,⟨n,by simp,MR _,h0⟩,fun i m B6 σ' H' w=>?_⟩
 obtain⟨rfl,hi,q⟩:=w
 obtain⟨q1,q2⟩:=hp i B6 σ' H' q
 have ho:=hok i B6 σ' H' hi q
 refine⟨q1,?_⟩
 by_cases Cm:i < n
 ·refine .inr ⟨⟨ho,by omega,by omega⟩,by omega,Pv (i+1),fun a' σ3 H3 k=>⟨n - (i+1),by omega,rfl,Cm,k⟩,fun x H2 y=>?_⟩
  obtain⟨T,u,v,hT,hu,hv,rfl,rfl⟩:=y
  exact hs i u v B6 σ' H' T hu hv q hT
 ·have e:i=n:=by omega
  subst e
  exact .inl ⟨⟨ho,hn⟩,hd B6 σ' H' q⟩
end L2
namespace L2
open PySem
section
variable {prog:Ag}{w:Ak}{A:Ap}{E:Ab->Ae->Prop}{s:Ae}
noncomputable def Oj (T:Ac)(f:Bool)(TI TO:Ac):Obj:={ cls:=.type "zip",dict:=none,data:=.fields #[AH T,.bool f,.bool false,.ref TI,.ref TO],slots:=#[] }
theorem dU (h:s.heap.get? a=some o) (q:Q (some o) s):wpAny M A (BR a) Q E s:=fun Γ p hΓ=>by
 show PySem.Sem.wp M Γ (.loadIfAlive a .pure) _ _ p s
 rw[jb,h]
 exact q
theorem W' {z T TI TO:Ac}{f:Bool}{oT:Obj}{Q:Bool->Ae->Prop}(hz:s.heap.get? z=some (Oj T f TI TO))(G6:s.heap.get? T=some oT)
  (h:∀ g,g.get? z=some (Oj T true TI TO)->OF z s.heap g->Q false { s with heap:=g }):wpAny (Aj prog w) A (Pc (.ref z)) Q E s:=by
 unfold Pc
 refine Aa (Al hz rfl (x:=AH T) rfl ?_)
 show wpAny _ _ (BR (((T:Nat):Int)).toNat >>= _) _ _ _
 rw[OK]
 refine Aa (dU G6 ?_)
 rw[B3 (by simp)]
 refine Aa (Al hz rfl (x:=.bool f) rfl ?_)
 cases f with
 | false =>
  rw[B4 (by decide)]
  exact Aa (As hz (by simp) fun g zg b=>Ad (h g zg b))
 | true =>
  rw[B3 (by decide)]
  have e:s={ s with heap:=s.heap }:=by cases s;rfl
  rw[e]
  exact Ad (h s.heap hz (OF.refl _ _))
theorem dW {z TI TO i1 i2 T:Ac}{f:Bool}{f1 f2:List Ac}{n1 n2 k1 k2:Nat}{P1 P2:Nat->Ab->Prop}{S1 S2:Nat->Ao->Prop}{Q:Ab->Ae->Prop}
  (D1:A6 prog w A i1 f1 n1 P1 S1) (D2:A6 prog w A i2 f2 n2 P2 S2) (Z:ZA z TI TO i1 i2 f1 f2)
  (hz:s.heap.get? z=some (Oj T f TI TO)) (hT:∃ o,s.heap.get? T=some o) (D4:Aw s.heap TI (.ref i1) (.ref i2)) (h1:S1 k1 s.heap) (h2:S2 k2 s.heap) (l1:k1 < n1) (l2:k2 < n2)
  (hQ:∀ x y h' tk,P1 k1 x->P2 k2 y->h'.get? z=some (Oj T true TI TO)->S1 (k1+1) h'->S2 (k2+1) h'->Aw h' s.heap.objs.size x y ->
   (∀ c o,c≠z->c≠i1->c≠i2->s.heap.get? c=some o->h'.get? c=some o)->Q (.ref s.heap.objs.size) { s with heap:=h',toks:=tk }) :
  wpAny (Aj prog w) A (Builtin.«zip.__next__» ⟨[.ref z],[]⟩) (fun fin s'=>∃ v,fin=.done (.ret v)/\Q v s') E s:=by
 obtain⟨oT,G6⟩:=hT
 show wpAny _ _ (Bs (.ref z) 2 >>= _) _ _ _
 refine Aa (Al hz rfl (x:=.bool false) rfl ?_)
 show wpAny _ _ (Bs (.ref z) 3 >>= _) _ _ _
 refine Aa (Al hz rfl (x:=.ref TI) rfl (Aa (Av D4 rfl ?_)))
 show wpAny _ _ (Pc (.ref z) >>= _) _ _ _
 refine Aa (W' hz G6 fun g zg b1=>?_)
 rw[B3 Mj]
 dsimp only
 rw[<- Array.forIn_toList]
 simp only[Qe,RW]
 refine Aa (Aa (Aa (AC ?_)))
 show wpAny _ _ (N0 (.ref i1) >>= _) _ _ _
 refine Aa (D1.item k1 _ _ _ l1 (Draws.still D1 h1 b1.extBut Z.zf1) fun x g2 tk1 hx h1' b2=>Ad (Ad ?_))
 dsimp only
 refine Aa (Aa (AC ?_))
 show wpAny _ _ (N0 (.ref i2) >>= _) _ _ _
 refine Aa (D2.item k2 _ _ _ l2 (Draws.still D2 (Draws.still D2 h2 b1.extBut Z.zf2) b2.extBut Z.i1f2) fun y g3 tk2 hy h2' b3=>Ad (Ad (Ad ?_)))
 dsimp only
 have sz:g3.objs.size=s.heap.objs.size:=by rw[b3.1,b2.1,b1.1]
 refine Aa (BQ ?_ (by show 2<=Af;decide))
 refine Ad ⟨_,rfl,?_⟩
 have zg3:g3.get? z=some (Oj T true TI TO):=b3.extBut _ _ Z.i2z.symm (b2.extBut _ _ Z.i1z.symm zg)
 have s1:S1 (k1+1) g3:=Draws.still D1 h1' b3.extBut Z.i2f1
 show Q (.ref g3.objs.size) _
 have tp:Aw (g3.push { cls:=.type "tuple",data:=.seq #[x,y] }) g3.objs.size x y:=Ms _ rfl
 rw[sz] at tp ⊢
 exact hQ x y _ _ hx hy (L1 _ zg3) (D1.frame _ _ _ s1 fun c hc o e=>L1 _ e) (D2.frame _ _ _ h2' fun c hc o e=>L1 _ e) tp fun c o c1 c3 c4 e=>L1 _ (b3.extBut _ _ c4 (b2.extBut _ _ c3 (b1.extBut _ _ c1 e)))
noncomputable def zO (f0:Ab)(f:Bool)(TI TO:Ac):Obj:={ cls:=.type "zip",dict:=none,data:=.fields #[f0,.bool f,.bool false,.ref TI,.ref TO],slots:=#[] }
theorem dX (h:s.heap.get? a=none) (q:Q none s):wpAny M A (BR a) Q E s:=fun Γ p hΓ=>by
 show PySem.Sem.wp M Γ (.loadIfAlive a .pure) _ _ p s
 rw[jb,h]
 exact q
theorem Xa {z T TI TO:Ac}{f:Bool}{Q:Bool->Ae->Prop}(hz:s.heap.get? z=some (Oj T f TI TO))(hT:s.heap.get? T=none)(h:Q true s):wpAny (Aj prog w) A (Pc (.ref z)) Q E s:=by
 unfold Pc
 refine Aa (Al hz rfl (x:=AH T) rfl ?_)
 show wpAny _ _ (BR (((T:Nat):Int)).toNat >>= _) _ _ _
 rw[OK]
 refine Aa (dX hT ?_)
 rw[B4 (by simp)]
 exact Ad h
theorem dY {z TI TO i1 i2 T:Ac}{f:Bool}{f1 f2:List Ac}{n1 n2 k1 k2:Nat}{P1 P2:Nat->Ab->Prop}{S1 S2:Nat->Ao->Prop}{a b:Ab}{Q:Ab->Ae->Prop}
  (D1:A6 prog w A i1 f1 n1 P1 S1) (D2:A6 prog w A i2 f2 n2 P2 S2) (Z:ZA z TI TO i1 i2 f1 f2)
  (hz:s.heap.get? z=some (Oj T f TI TO)) (hT:s.heap.get? T=none) (D4:Aw s.heap TI (.ref i1) (.ref i2)) (Ex:Aw s.heap TO a b) (h1:S1 k1 s.heap) (h2:S2 k2 s.heap) (l1:k1 < n1) (l2:k2 < n2)
  (hQ:∀ x y h' tk,P1 k1 x->P2 k2 y->h'.get? z=some (Oj s.heap.objs.size false TI TO)->Aw h' TO x y->S1 (k1+1) h'->S2 (k2+1) h'->Aw h' s.heap.objs.size x y ->
   (∀ c o,c≠z->c≠TO->c≠i1->c≠i2->s.heap.get? c=some o->h'.get? c=some o)->Q (.ref s.heap.objs.size) { s with heap:=h',toks:=tk }) :
  wpAny (Aj prog w) A (Builtin.«zip.__next__» ⟨[.ref z],[]⟩) (fun fin s'=>∃ v,fin=.done (.ret v)/\Q v s') E s:=by
 show wpAny _ _ (Bs (.ref z) 2 >>= _) _ _ _
 refine Aa (Al hz rfl (x:=.bool false) rfl ?_)
 show wpAny _ _ (Bs (.ref z) 3 >>= _) _ _ _
 refine Aa (Al hz rfl (x:=.ref TI) rfl (Aa (Av D4 rfl ?_)))
 show wpAny _ _ (Pc (.ref z) >>= _) _ _ _
 refine Aa (Xa hz hT ?_)
 simp only[if_true]
 refine Aa (BG (Aa (Al hz rfl (x:=.ref TO) rfl (Aa (As hz (by simp) fun g1 zg1 b1=>?_)))))
 have zg1':g1.get? z=some (zO .ellipsis f TI TO):=zg1
 refine Aa ?_
 simp only[Zw,Zz,Qe,RW]
 refine Aa (Aa (AX ?_))
 show wpAny _ _ (N0 (.ref i1) >>= _) _ _ _
 refine Aa (D1.item k1 _ _ _ l1 (Draws.still D1 h1 b1.extBut Z.zf1) fun x g2 tk1 hx h1' b2=>Ad ?_)
 have to2:Aw g2 TO a b:=b2.extBut _ _ Z.TOi1 (b1.extBut _ _ Z.TOz Ex)
 refine Aa (Av to2 rfl (Aa (AJ to2 fun g3 to3 b3=>?_)))
 have to3':Aw g3 TO x b:=to3
 refine Aa (A9 (Ad ?_))
 refine Aa (Aa (AX ?_))
 show wpAny _ _ (N0 (.ref i2) >>= _) _ _ _
 refine Aa (D2.item k2 _ _ _ l2 (Draws.still D2 (Draws.still D2 (Draws.still D2 h2 b1.extBut Z.zf2) b2.extBut Z.i1f2) b3.extBut Z.of2) fun y g4 tk2 hy h2' b4=>Ad ?_)
 have to4:Aw g4 TO x b:=b4.extBut _ _ Z.TOi2 to3'
 refine Aa (Av to4 rfl (Aa (AJ to4 fun g5 to5 b5=>?_)))
 have to5':Aw g5 TO x y:=to5
 refine Aa (A9 (Ad (Ad ?_)))
 refine Aa (Av to5' rfl (Aa (BQ ?_)))
 have sz:g5.objs.size=s.heap.objs.size:=by rw[b5.1,b4.1,b3.1,b2.1,b1.1]
 have zg5:g5.get? z=some (zO .ellipsis f TI TO):=b5.extBut _ _ Z.TOz.symm (b4.extBut _ _ Z.i2z.symm (b3.extBut _ _ Z.TOz.symm (b2.extBut _ _ Z.i1z.symm zg1')))
 have kp:∀ c o,c≠z->c≠TO->c≠i1->c≠i2->s.heap.get? c=some o->g5.get? c=some o:=fun c o c1 c2 c3 c4 e =>
  b5.extBut _ _ c2 (b4.extBut _ _ c4 (b3.extBut _ _ c2 (b2.extBut _ _ c3 (b1.extBut _ _ c1 e))))
 have s1:S1 (k1+1) g5:=Draws.still D1 (Draws.still D1 (Draws.still D1 h1' b3.extBut Z.of1) b4.extBut Z.i2f1) b5.extBut Z.of1
 have s2:S2 (k2+1) g5:=Draws.still D2 h2' b5.extBut Z.of2
 have zlt:z < g5.objs.size:=Mh zg5
 show wpAny _ _ (ZK (.ref z) (.ref g5.objs.size) >>= _) _ _ _
 refine Aa ?_
 unfold ZK
 have zg6:(g5.push { cls:=.type "tuple",data:=.seq #[x,y] }).get? z=some (zO .ellipsis f TI TO):=L1 _ zg5
 refine Aa (As zg6 (by simp) fun g7 zg7 b7=>?_)
 have zg7':g7.get? z=some (zO (AH g5.objs.size) f TI TO):=zg7
 refine As zg7' (by simp) fun g8 zg8 b8=>?_
 have zg8':g8.get? z=some (Oj g5.objs.size false TI TO):=zg8
 have up:∀ c o,c≠z->g5.get? c=some o->g8.get? c=some o:=fun c o c1 e=>b8.extBut _ _ c1 (b7.extBut _ _ c1 (L1 _ e))
 have tp:Aw g8 g5.objs.size x y:=b8.extBut _ _ (Us zlt) (b7.extBut _ _ (Us zlt) (Ms _ rfl))
 rw[sz] at zg8' tp
 refine Ad ⟨_,rfl,?_⟩
 show Q (.ref g5.objs.size) _
 rw[sz]
 exact hQ x y g8 _ hx hy zg8' (up _ _ Z.TOz to5') (D1.frame _ _ _ s1 fun c hc o e=>up c o (fun q=>Z.zf1 (q▸hc)) e) (D2.frame _ _ _ s2 fun c hc o e=>up c o (fun q=>Z.zf2 (q▸hc)) e) tp fun c o c1 c2 c3 c4 e=>up c o c1 (kp c o c1 c2 c3 c4 e)
theorem dZ {z TI TO i1 i2 T:Ac}{f:Bool}{f1 f2:List Ac}{n1 n2 k:Nat}{P1 P2:Nat->Ab->Prop}{S1 S2:Nat->Ao->Prop}{a b:Ab}{Q:Fin->Ae->Prop}
  (D1:A6 prog w A i1 f1 n1 P1 S1) (D2:A6 prog w A i2 f2 n2 P2 S2) (Z:ZA z TI TO i1 i2 f1 f2)
  (hz:s.heap.get? z=some (Oj T f TI TO)) (hT:s.heap.get? T=none) (D4:Aw s.heap TI (.ref i1) (.ref i2)) (Ex:Aw s.heap TO a b) (h1:S1 k s.heap) (h2:S2 k s.heap) (hk:k=min n1 n2)
  (hE:∀ h' e tk,(∀ c o,c≠z->c≠TO->c≠i1->c≠i2->s.heap.get? c=some o->h'.get? c=some o)->(∃ o,h'.get? e=some o/\o.cls=.type "StopIteration")->E (.ref e) { s with heap:=h',toks:=tk }) :
  wpAny (Aj prog w) A (Builtin.«zip.__next__» ⟨[.ref z],[]⟩) Q E s:=by
 show wpAny _ _ (Bs (.ref z) 2 >>= _) _ _ _
 refine Aa (Al hz rfl (x:=.bool false) rfl ?_)
 show wpAny _ _ (Bs (.ref z) 3 >>= _) _ _ _
 refine Aa (Al hz rfl (x:=.ref TI) rfl (Aa (Av D4 rfl ?_)))
 show wpAny _ _ (Pc (.ref z) >>= _) _ _ _
 refine Aa (Xa hz hT ?_)
 simp only[if_true]
 refine Aa (BG (Aa (Al hz rfl (x:=.ref TO) rfl (Aa (As hz (by simp) fun g1 zg1 b1=>?_)))))
 have zg1':g1.get? z=some (zO .ellipsis f TI TO):=zg1
 refine Aa ?_
 simp only[Zw,Zz,Qe,RW]
 refine Aa (Aa (AX ?_))
 show wpAny _ _ (N0 (.ref i1) >>= _) _ _ _
 have FM:=Draws.still D1 h1 b1.extBut Z.zf1
 by_cases c:n1<=n2
 ·have e:k=n1:=by omega
  subst e
  refine Aa (D1.done _ _ _ FM fun g2 e b2 he=>?_)
  obtain⟨oe,En,EU⟩:=he
  have zg2:g2.get? z=some (zO .ellipsis f TI TO):=b2 _ _ Z.i1z.symm zg1'
  have Ge:e≠z:=fun x=>by subst x;rw[zg2] at En;cases En;simp[zO] at EU
  exact As zg2 (by simp) fun g3 _ b3=>hE g3 e _ (fun c o c1 _ c3 _ x=>b3.extBut _ _ c1 (b2 _ _ c3 (b1.extBut _ _ c1 x))) ⟨oe,b3.extBut _ _ Ge En,EU⟩
 ·have e:k=n2:=by omega
  subst e
  refine Aa (D1.item k _ _ _ (by omega) FM fun x g2 tk1 hx h1' b2=>Ad ?_)
  have to2:Aw g2 TO a b:=b2.extBut _ _ Z.TOi1 (b1.extBut _ _ Z.TOz Ex)
  refine Aa (Av to2 rfl (Aa (AJ to2 fun g3 to3 b3=>?_)))
  refine Aa (A9 (Ad ?_))
  refine Aa (Aa (AX ?_))
  show wpAny _ _ (N0 (.ref i2) >>= _) _ _ _
  refine Aa (D2.done _ _ _ (Draws.still D2 (Draws.still D2 (Draws.still D2 h2 b1.extBut Z.zf2) b2.extBut Z.i1f2) b3.extBut Z.of2) fun g4 e b4 he=>?_)
  obtain⟨oe,En,EU⟩:=he
  have zg4:g4.get? z=some (zO .ellipsis f TI TO):=b4 _ _ Z.i2z.symm (b3.extBut _ _ Z.TOz.symm (b2.extBut _ _ Z.i1z.symm zg1'))
  have Ge:e≠z:=fun x=>by subst x;rw[zg4] at En;cases En;simp[zO] at EU
  exact As zg4 (by simp) fun g5 _ b5=>hE g5 e _ (fun c o c1 c2 c3 c4 x=>b5.extBut _ _ c1 (b4 _ _ c4 (b3.extBut _ _ c2 (b2.extBut _ _ c3 (b1.extBut _ _ c1 x))))) ⟨oe,b5.extBut _ _ Ge En,EU⟩
theorem d0 {z TI TO i1 i2 T:Ac}{f:Bool}{f1 f2:List Ac}{n1 n2 k:Nat}{P1 P2:Nat->Ab->Prop}{S1 S2:Nat->Ao->Prop}{Q:Fin->Ae->Prop}
  (D1:A6 prog w A i1 f1 n1 P1 S1) (D2:A6 prog w A i2 f2 n2 P2 S2) (Z:ZA z TI TO i1 i2 f1 f2)
  (hz:s.heap.get? z=some (Oj T f TI TO)) (hT:∃ o,s.heap.get? T=some o) (D4:Aw s.heap TI (.ref i1) (.ref i2)) (h1:S1 k s.heap) (h2:S2 k s.heap) (hk:k=min n1 n2)
  (hE:∀ h' e tk,(∀ c o,c≠z->c≠TO->c≠i1->c≠i2->s.heap.get? c=some o->h'.get? c=some o)->(∃ o,h'.get? e=some o/\o.cls=.type "StopIteration")->E (.ref e) { s with heap:=h',toks:=tk }) :
  wpAny (Aj prog w) A (Builtin.«zip.__next__» ⟨[.ref z],[]⟩) Q E s:=by
 obtain⟨oT,G6⟩:=hT
 show wpAny _ _ (Bs (.ref z) 2 >>= _) _ _ _
 refine Aa (Al hz rfl (x:=.bool false) rfl ?_)
 show wpAny _ _ (Bs (.ref z) 3 >>= _) _ _ _
 refine Aa (Al hz rfl (x:=.ref TI) rfl (Aa (Av D4 rfl ?_)))
 show wpAny _ _ (Pc (.ref z) >>= _) _ _ _
 refine Aa (W' hz G6 fun g zg b1=>?_)
 rw[B3 Mj]
 dsimp only
 rw[<- Array.forIn_toList]
 simp only[Qe,RW]
 refine Aa (Aa (Aa (AC ?_)))
 show wpAny _ _ (N0 (.ref i1) >>= _) _ _ _
 have FM:=Draws.still D1 h1 b1.extBut Z.zf1
 by_cases c:n1<=n2
 ·have e:k=n1:=by omega
  subst e
  exact Aa (D1.done _ _ _ FM fun g2 e b2 he=>hE g2 e _ (fun c o c1 _ c3 _ x=>b2 _ _ c3 (b1.extBut _ _ c1 x)) he)
 ·have e:k=n2:=by omega
  subst e
  refine Aa (D1.item k _ _ _ (by omega) FM fun x g2 tk1 hx h1' b2=>Ad (Ad ?_))
  dsimp only
  refine Aa (Aa (AC ?_))
  show wpAny _ _ (N0 (.ref i2) >>= _) _ _ _
  exact Aa (D2.done _ _ _ (Draws.still D2 (Draws.still D2 h2 b1.extBut Z.zf2) b2.extBut Z.i1f2) fun g4 e b4 he=>hE g4 e _ (fun c o c1 c2 c3 c4 x=>b4 _ _ c4 (b2.extBut _ _ c3 (b1.extBut _ _ c1 x))) he)
theorem d7 {z TI TO i1 i2:Ac}{f1 f2:List Ac}{n1 n2 k1 k2:Nat}{P1 P2:Nat->Ab->Prop}{S1 S2:Nat->Ao->Prop}{a b:Ab}{Q:Ab->Ae->Prop}
  (D1:A6 prog w A i1 f1 n1 P1 S1) (D2:A6 prog w A i2 f2 n2 P2 S2) (Z:ZA z TI TO i1 i2 f1 f2)
  (hz:Be s.heap z TI TO .none∨∃ T f,s.heap.get? z=some (Oj T f TI TO)) (D4:Aw s.heap TI (.ref i1) (.ref i2)) (Ex:Aw s.heap TO a b) (h1:S1 k1 s.heap) (h2:S2 k2 s.heap) (l1:k1 < n1) (l2:k2 < n2)
  (hQ:∀ x y h' tk,P1 k1 x->P2 k2 y->(∃ T f,h'.get? z=some (Oj T f TI TO))->(∃ a b,Aw h' TO a b)->S1 (k1+1) h'->S2 (k2+1) h'->Aw h' s.heap.objs.size x y ->
   (∀ c o,c≠z->c≠TO->c≠i1->c≠i2->s.heap.get? c=some o->h'.get? c=some o)->Q (.ref s.heap.objs.size) { s with heap:=h',toks:=tk }) :
  wpAny (Aj prog w) A (Builtin.«zip.__next__» ⟨[.ref z],[]⟩) (fun fin s'=>∃ v,fin=.done (.ret v)/\Q v s') E s:=by
 rcases hz with hz | ⟨T,f,hz⟩
 ·exact W6 D1 D2 Z hz D4 Ex h1 h2 l1 l2 fun x y h' tk hx hy c1 c2 c3 c4 c5 hk=>hQ x y h' tk hx hy ⟨_,false,c1⟩ ⟨_,_,c2⟩ c3 c4 c5 hk
 ·cases hT:s.heap.get? T with
  | none=>exact dY D1 D2 Z hz hT D4 Ex h1 h2 l1 l2 fun x y h' tk hx hy c1 c2 c3 c4 c5 hk=>hQ x y h' tk hx hy ⟨_,false,c1⟩ ⟨_,_,c2⟩ c3 c4 c5 hk
  | some o=>exact dW D1 D2 Z hz ⟨o,hT⟩ D4 h1 h2 l1 l2 fun x y h' tk hx hy c1 c3 c4 c5 hk=>hQ x y h' tk hx hy ⟨_,_,c1⟩ ⟨_,_,hk _ _ Z.TOz Z.TOi1 Z.TOi2 Ex⟩ c3 c4 c5 fun c o c1 _ c3 c4 e=>hk c o c1 c3 c4 e
theorem d8 {z TI TO i1 i2:Ac}{f1 f2:List Ac}{n1 n2 k:Nat}{P1 P2:Nat->Ab->Prop}{S1 S2:Nat->Ao->Prop}{a b:Ab}{Q:Fin->Ae->Prop}
  (D1:A6 prog w A i1 f1 n1 P1 S1) (D2:A6 prog w A i2 f2 n2 P2 S2) (Z:ZA z TI TO i1 i2 f1 f2)
  (hz:Be s.heap z TI TO .none∨∃ T f,s.heap.get? z=some (Oj T f TI TO)) (D4:Aw s.heap TI (.ref i1) (.ref i2)) (Ex:Aw s.heap TO a b) (h1:S1 k s.heap) (h2:S2 k s.heap) (hk:k=min n1 n2)
  (hE:∀ h' e tk,(∀ c o,c≠z->c≠TO->c≠i1->c≠i2->s.heap.get? c=some o->h'.get? c=some o)->(∃ o,h'.get? e=some o/\o.cls=.type "StopIteration")->E (.ref e) { s with heap:=h',toks:=tk }) :
  wpAny (Aj prog w) A (Builtin.«zip.__next__» ⟨[.ref z],[]⟩) Q E s:=by
 rcases hz with hz | ⟨T,f,hz⟩
 ·exact W7 D1 D2 Z hz D4 Ex h1 h2 hk hE
 ·cases hT:s.heap.get? T with
  | none=>exact dZ D1 D2 Z hz hT D4 Ex h1 h2 hk hE
  | some o=>exact d0 D1 D2 Z hz ⟨o,hT⟩ D4 h1 h2 hk hE
end
open PySem.Spec PyProof.Rows
theorem d9 {P:Ag}{w:Ak}{K:LR}{nm:Str}{pos:Pos}{z TI TO i1 i2:Ac}{xs ys:List V}{ok:Hp->Prop}{S1 S2:Nat->Ao->Prop}
  (n1:TI≠z) (n2:TO≠z) (n3:i1≠z) (n4:i2≠z) (n5:TI≠TO) (n6:TI≠i1) (n7:TI≠i2) (n8:TO≠i1) (n9:TO≠i2) (n10:i1≠i2)
  (D7:∀(X:Cx),X.prog=P->X.w=w->X.K=K->X.calm=true->∀(i:Nat) (B5:List (Ac×Obj)) (s:Ae) (σ:St) (H:Hp),Inv X B5 σ H s->ok H->H i1=none->S1 i s.heap->RJ P w X.A.in1 i1 xs S1 H i s.heap)
  (Gf:∀(X:Cx),X.prog=P->X.w=w->X.K=K->X.calm=true->∀(i:Nat) (B5:List (Ac×Obj)) (s:Ae) (σ:St) (H:Hp),Inv X B5 σ H s->ok H->H i2=none->S2 i s.heap->RJ P w X.A.in1 i2 ys S2 H i s.heap)
  (o1:∀ i h,S1 i h->∃ o,h.get? i1=some o/\∀ v,o.data≠.cell v) (o2:∀ i h,S2 i h->∃ o,h.get? i2=some o/\∀ v,o.data≠.cell v)
  (k1:∀ i h h',S1 i h->(∀ o,h.get? i1=some o->h'.get? i1=some o)->S1 i h') (k2:∀ i h h',S2 i h->(∀ o,h.get? i2=some o->h'.get? i2=some o)->S2 i h') :
  Turn P w K (.Name nm pos) (Izp xs ys ok) [z,TI,TO,i1,i2] z (fun i h=>(Be h z TI TO .none∨∃ T f,h.get? z=some (Oj T f TI TO))/\Aw h TI (.ref i1) (.ref i2)/\(∃ a b,Aw h TO a b)/\S1 i h/\S2 i h) where
 mem:=by simp
 obj:=fun i h st c hc=>by
  obtain⟨a1,a2,⟨a,b,a3⟩,a4,a5⟩:=st
  simp only[Mc,OC,or_false] at hc
  rcases hc with q | q | q | q | q <;> rw[q]
  ·rcases a1 with a1 | ⟨T,f,a1⟩
   ·exact⟨_,a1,fun v q=>by have q':Data.fields _=Data.cell v:=q;cases q'⟩
   ·exact⟨_,a1,fun v q=>by have q':Data.fields _=Data.cell v:=q;cases q'⟩
  ·exact⟨_,a2,fun v q=>by have q':Data.seq _ _=Data.cell v:=q;cases q'⟩
  ·exact⟨_,a3,fun v q=>by have q':Data.seq _ _=Data.cell v:=q;cases q'⟩
  ·exact o1 i h a4
  ·exact o2 i h a5
 keep:=fun i h h' st kk=>by
  obtain⟨a1,a2,⟨a,b,a3⟩,a4,a5⟩:=st
  exact⟨a1.imp (fun q=>kk z (by simp) _ q) fun⟨T,f,q⟩=>⟨T,f,kk z (by simp) _ q⟩,kk TI (by simp) _ a2,⟨a,b,kk TO (by simp) _ a3⟩,k1 i h h' a4 fun o q=>kk i1 (by simp) o q,k2 i h h' a5 fun o q=>kk i2 (by simp) o q⟩
 item:=by
  intro X hP hw hK hc i B5 s σ H E I hf st hg
  subst hP hw hK
  obtain⟨a1,a2,⟨a,b,a3⟩,a4,a5⟩:=st
  obtain⟨hok,D5,DH⟩:=hg
  obtain⟨f1,P1,T1,D1,m1,DN,st1,r1,bk1⟩:=D7 X rfl rfl rfl hc i B5 s σ H I hok (hf i1 (by simp)).1 a4
  obtain⟨f2,P2,T2,D2,m2,DS,st2,r2,bk2⟩:=Gf X rfl rfl rfl hc i B5 s σ H I hok (hf i2 (by simp)).1 a5
  have out1:∀ c∈[z,TI,TO,i1,i2],c≠i1->c∉f1:=fun c hc hn q=>by
   rcases DN c q with e | e
   ·exact hn e
   ·exact e (hf c hc).1
  have out2:∀ c∈[z,TI,TO,i1,i2],c≠i2->c∉f2:=fun c hc hn q=>by
   rcases DS c q with e | e
   ·exact hn e
   ·exact e (hf c hc).1
  have Z:ZA z TI TO i1 i2 f1 f2:=⟨n1,n2,n3,n4,n5,n6,n7,n8,n9,n10,out1 z (by simp) n3.symm,out2 z (by simp) n4.symm,out1 TO (by simp) n8,out2 TO (by simp) n9,out2 i1 (by simp) n10,out1 i2 (by simp) n10.symm⟩
  have Fm:s.TypeIs (.ref z) "zip":=by
   rcases a1 with a1 | ⟨T,f,a1⟩
   ·exact⟨_,a1,rfl⟩
   ·exact⟨_,a1,rfl⟩
  have IH:z < s.heap.objs.size:=by
   rcases a1 with a1 | ⟨T,f,a1⟩
   ·exact Mh a1
   ·exact Mh a1
  unfold A_
  refine Aa (AY (Am (name:=Mm "__next__") Fm Qx (Aq Qx Fm ZP
   (d7 D1 D2 Z a1 a2 a3 st1 st2 (by omega) (by omega) fun x y h2 tk hx hy c1 c2 c3 c4 c5 hk=>Ad ?_) (ZO _))))
  obtain⟨u,hu,ru⟩:=r1 _ _ hx
  obtain⟨v,hv,rv⟩:=r2 _ _ hy
  refine⟨.ref s.heap.objs.size,rfl,?_⟩
  show wpAny _ _ (pure ()) _ _ _
  have kk:∀ c u,c∉[z,TI,TO,i1,i2]->s.heap.get? c=some u->h2.get? c=some u:=fun c u hc q=>hk c u (fun e=>hc (by simp[e])) (fun e=>hc (by simp[e])) (fun e=>hc (by simp[e])) (fun e=>hc (by simp[e])) q
  have tup2:IsTup h2 s.heap.objs.size #[x,y]:=⟨_,c5,rfl,_,rfl⟩
  refine Ad ⟨.ref s.heap.objs.size,upd H s.heap.objs.size (PrX s.heap.objs.size [u,v]),I.turnedNew (t':=tk) (LZ _) kk hf ?_,rfl,⟨s.heap.objs.size,u,v,I.hok.fresh (LZ _),hu,hv,rfl,rfl⟩,?_,?_⟩
  ·exact PrX.ok ⟨by show 2<=Af;decide,[x,y],.cons ru (.cons rv .nil),tup2⟩
  ·exact⟨.inr c1,hk _ _ Z.TIz Z.TITO Z.TIi1 Z.TIi2 a2,c2,bk1 _ _ c3,bk2 _ _ c4⟩
  ·intro c hc
   have Cm:c < s.heap.objs.size:=by
    simp only[Mc,OC,or_false] at hc
    rcases hc with q | q | q | q | q <;> rw[q]
    ·exact IH
    ·exact Mh a2
    ·exact Mh a3
    ·obtain⟨o,ho,_⟩:=o1 i _ a4;exact Mh ho
    ·obtain⟨o,ho,_⟩:=o2 i _ a5;exact Mh ho
   rw[LU (MI Cm)]
   exact(hf c hc).1
 done:=by
  intro X hP hw hK hc i B5 s σ H E I hf st hg
  subst hP hw hK
  obtain⟨a1,a2,⟨a,b,a3⟩,a4,a5⟩:=st
  obtain⟨hok,rfl⟩:=hg
  obtain⟨f1,P1,T1,D1,m1,DN,st1,r1,bk1⟩:=D7 X rfl rfl rfl hc _ B5 s σ H I hok (hf i1 (by simp)).1 a4
  obtain⟨f2,P2,T2,D2,m2,DS,st2,r2,bk2⟩:=Gf X rfl rfl rfl hc _ B5 s σ H I hok (hf i2 (by simp)).1 a5
  have out1:∀ c∈[z,TI,TO,i1,i2],c≠i1->c∉f1:=fun c hc hn q=>by
   rcases DN c q with e | e
   ·exact hn e
   ·exact e (hf c hc).1
  have out2:∀ c∈[z,TI,TO,i1,i2],c≠i2->c∉f2:=fun c hc hn q=>by
   rcases DS c q with e | e
   ·exact hn e
   ·exact e (hf c hc).1
  have Z:ZA z TI TO i1 i2 f1 f2:=⟨n1,n2,n3,n4,n5,n6,n7,n8,n9,n10,out1 z (by simp) n3.symm,out2 z (by simp) n4.symm,out1 TO (by simp) n8,out2 TO (by simp) n9,out2 i1 (by simp) n10,out1 i2 (by simp) n10.symm⟩
  have sub:∀ c,c∉[z,TI,TO,i1,i2]->c∉[z,TO,i1,i2]:=fun c hc q=>hc (by simp only[Mc,OC,or_false] at q ⊢;rcases q with q | q | q | q <;> simp[q])
  have Fm:s.TypeIs (.ref z) "zip":=by
   rcases a1 with a1 | ⟨T,f,a1⟩
   ·exact⟨_,a1,rfl⟩
   ·exact⟨_,a1,rfl⟩
  unfold A_
  refine Aa (AY (Am (name:=Mm "__next__") Fm Qx (Aq Qx Fm ZP
   (d8 D1 D2 Z a1 a2 a3 st1 st2 rfl fun h' e tk hk he=>?_) (ZO _))))
  obtain⟨o,ho,hc⟩:=he
  refine Aa (Bj (T:="StopIteration") (b:=true) ⟨o,ho,hc⟩ Bt ?_)
  exact Ad ⟨rfl,I.turnedL (fun c u hc q=>hk c u (fun e=>hc (by simp[e])) (fun e=>hc (by simp[e])) (fun e=>hc (by simp[e])) (fun e=>hc (by simp[e])) q) hf⟩
 self:=fun A i s Q E st q=>by
  rcases st.1 with a1 | ⟨T,f,a1⟩
  ·exact A5 a1 q
  ·have Fm:s.TypeIs (.ref z) "zip":=⟨_,a1,rfl⟩
   refine BC Fm F.slot_zip_iter (Aq F.slot_zip_iter Fm F.entry_zip_iter ?_ (F.args_zip_iter_1 _))
   show wpAny _ _ (ret (.ref z)) _ _ s
   exact Ad ⟨_,rfl,"zip",_,Fm,Qx.lookup,q⟩
end L2
namespace L2
open PySem
open Sem (wp)
noncomputable abbrev zt1 (h:Ao)(l1:Ac):Ao:=h.push { cls:=.type "tuple_iterator",data:=.fields #[.ref l1,.int 0 0] }
noncomputable abbrev zt2 (h:Ao)(l1 l:Ac):Ao:=(zt1 h l1).push { cls:=.type "tuple_iterator",data:=.fields #[.ref l,.int 0 0] }
noncomputable abbrev zt3 (h:Ao)(l1 l:Ac):Ao:=(zt2 h l1 l).push { cls:=.type "tuple",data:=.seq #[.ref h.objs.size,.ref (zt1 h l1).objs.size] }
noncomputable abbrev zt4 (h:Ao)(l1 l:Ac):Ao:=(zt3 h l1 l).push { cls:=.type "tuple",data:=.seq #[.none,.none] }
noncomputable abbrev zt5 (h:Ao)(l1 l:Ac):Ao:=(zt4 h l1 l).push { cls:=.type "zip",data:=.fields #[.none,.bool false,.bool false,.ref (zt2 h l1 l).objs.size,.ref (zt3 h l1 l).objs.size] }
set_option maxHeartbeats 4000000 in
theorem d_ (l1 l:Ac)(xs ys:Array Ab) :
  Meets (Builtin.«zip.__new__» ⟨[.type "zip",.ref l1,.ref l],[]⟩) (fun _ R s=>s.heap.IsTuple l1 xs/\s.heap.IsTuple l ys /\
   R (.ok (.ret (.ref (zt4 s.heap l1 l).objs.size))) { s with heap:=zt5 s.heap l1 l }) :=
 .of_wp fun prog w A R s h=>by
  obtain⟨hp,g,d,tk,os⟩:=s;obtain⟨D5,hl,h⟩:=h
  have DR:=sub_zip
  have hL:aG (Z3 ⟨hp.push { cls:=.type "tuple_iterator",data:=.fields #[.ref l1,.int 0 0] },g,d,tk,os⟩) l ys:=W9 hl _
  wp_walk using AD D5,AD hL
  exact⟨_,rfl,h⟩
section
variable {prog:Ag}{w:Ak}{A:Ap}{E:Ab->Ae->Prop}{s:Ae}
theorem ef (D5:s.heap.IsTuple l1 xs) (hl:s.heap.IsTuple l ys) (h:∀ h',Be h' (s.heap.objs.size+4) (s.heap.objs.size+2) (s.heap.objs.size+3) .none->Aw h' (s.heap.objs.size+2) (.ref s.heap.objs.size) (.ref (s.heap.objs.size+1)) ->
   Aw h' (s.heap.objs.size+3) .none .none->h'.IsTupleIter s.heap.objs.size l1 0->h'.IsTupleIter (s.heap.objs.size+1) l 0 ->
   (∀ c o,s.heap.get? c=some o->h'.get? c=some o)->Q (.ref (s.heap.objs.size+4)) { s with heap:=h' }):
  wpAny (Aj prog w) A (call (.type "zip") [.ref l1,.ref l]) Q E s:=by
 refine callType_new F.called_zip (by decide) (F.typeCall_zip_2 _ _) (F.newCall_zip_2 _ _) (fun obj=>F.args_object_init_3 obj _ _) F.entry_zip_new (d_ l1 l xs ys) ⟨D5,hl,?_⟩
 have z1:(zt1 s.heap l1).objs.size=s.heap.objs.size+1:=NZ ..
 have z2:(zt2 s.heap l1 l).objs.size=s.heap.objs.size+2:=by rw[NZ,z1]
 have z3:(zt3 s.heap l1 l).objs.size=s.heap.objs.size+3:=by rw[NZ,z2]
 have z4:(zt4 s.heap l1 l).objs.size=s.heap.objs.size+4:=by rw[NZ,z3]
 have p5:(zt5 s.heap l1 l).get? (zt4 s.heap l1 l).objs.size=some _:=Ms _ rfl
 have p4:(zt5 s.heap l1 l).get? (zt3 s.heap l1 l).objs.size=some _:=L1 _ (Ms _ rfl)
 have p3:(zt5 s.heap l1 l).get? (zt2 s.heap l1 l).objs.size=some _:=L1 _ (L1 _ (Ms _ rfl))
 have p2:(zt5 s.heap l1 l).get? (zt1 s.heap l1).objs.size=some _:=L1 _ (L1 _ (L1 _ (Ms _ rfl)))
 have p1:(zt5 s.heap l1 l).get? s.heap.objs.size=some _:=L1 _ (L1 _ (L1 _ (L1 _ (Ms _ rfl))))
 show _/\_
 rw[z2,z3,z4] at p5
 rw[z1,z2] at p3
 rw[z3] at p4
 rw[z1] at p2
 rw[z4]
 exact⟨⟨_,p5,rfl⟩,h _ p5 p3 p4 ⟨_,p1,rfl,rfl⟩ ⟨_,p2,rfl,rfl⟩ fun c o e=>L1 _ (L1 _ (L1 _ (L1 _ (L1 _ e))))⟩
end
open PySem.Spec PyProof.Rows
section
variable {X:Cx}
def P9 (R:It->Hp->Prop):V->V->Hp->Prop:=fun x y H1=>match x,y with
 | .ref b,.ref a=>∃ xs ys,H1 b=some (.tup xs)/\H1 a=some (.tup ys)/\R (Izp xs ys fun H=>H b=some (.tup xs)/\H a=some (.tup ys)) H1
 | _,_=>False
def iZipT (ta tb:TE):TI:=fun σ H R=>ta σ H fun x H1=>tb σ H1 fun y H2=>P9 R x y H2
theorem pi_zipT (hg:Gl X "zip") (hm:X.mg "zip"=none) (ha:PE X a ta) (hb:PE X b tb) (hs:Ah [a,b] X.env=(false,Ax a X.env)::Ah [b] X.env:=by rfl) (DG:Ah [b] X.env=[(false,Ax b X.env)]:=by rfl):
  PI X (.Name nm tpos) (.Call (.Name "zip" p) [a,b] [] pos) (iZipT ta tb):=by
 intro B5 s σ H R I h
 refine Call_ (Pt I hg hm (by decide +kernel:AF "zip"=some (.type "zip")) (Rv ?_ hs (by rw[DG];rfl)))
 rw[hs,DG]
 show wpAny _ _ (Bx ((false,Ax a X.env)::AE pos [(false,Ax b X.env)])) _ _ s
 refine Pr (thn (ha B5 s σ H _ I h) fun u s1 hI9=>?_)
 obtain⟨x,H1,I1,ru,q1⟩:=hI9
 show wpAny _ _ (Bx ((false,Ax b X.env)::[])) _ _ s1
 refine Pr (thn (hb B5 s1 σ H1 _ I1 q1) fun u2 s2 ⟨y,H2,I2,ru2,q2⟩=>Rw ?_)
 have q2:P9 R x y H2:=q2
 obtain⟨l0,l,rfl,rfl⟩:∃ l0 l,x=.ref l0/\y=.ref l:=by
  unfold P9 at q2
  split at q2
  ·exact⟨_,_,rfl,rfl⟩
  ·exact q2.elim
 cases ru
 cases ru2
 obtain⟨xs,ys,HZ,hl,q2⟩:=q2
 obtain⟨its0,rv0,pl0,hz0⟩:=I2.tuple (SqT.of HZ)
 obtain⟨its,rv,pl,hz⟩:=I2.tuple (SqT.of hl)
 refine ef pl0 pl fun h1 c1 c2 c3 c4 c5 hk=>?_
 refine A5 c1 ?_
 refine⟨_,[_,_,_,_,_],_,_,H2,rfl,I2.kept (t':=s2.toks) hk,d9 (z:=s2.heap.objs.size+4) (TI:=s2.heap.objs.size+2) (TO:=s2.heap.objs.size+3) (i1:=s2.heap.objs.size) (i2:=s2.heap.objs.size+1) (ok:=fun H=>H l0=some (.tup xs)/\H l=some (.tup ys)) (xs:=xs) (ys:=ys)
  (S1:=fun i h=>h.IsTupleIter s2.heap.objs.size l0 i) (S2:=fun i h=>h.IsTupleIter (s2.heap.objs.size+1) l i) (zn1 (by decide)) (zn1 (by decide)) (zn2 (by decide)) (zn1 (by decide)) (zn1 (by decide)) (zn3 (by decide)) (zn1 (by decide)) (zn3 (by decide)) (zn1 (by decide)) (zn2 (by decide)) ?_ ?_ ?_ ?_ ?_ ?_,⟨.inl c1,c2,⟨_,_,c3⟩,c4,c5⟩,?_,q2⟩
 ·intro X' h1 h2 h3 hc i B5 s σ H I ok hn st
  exact h1▸h2▸QJ hc I (SqT.of ok.1) hn (by rw[ok.1];exact fun z=>nomatch z) st
 ·intro X' h1 h2 h3 hc i B5 s σ H I ok hn st
  exact h1▸h2▸QJ hc I (SqT.of ok.2) hn (by rw[ok.2];exact fun z=>nomatch z) st
 ·intro i h st
  obtain⟨o,ho,hc,hd⟩:=st
  exact⟨o,ho,fun v q=>by rw[hd] at q;cases q⟩
 ·intro i h st
  obtain⟨o,ho,hc,hd⟩:=st
  exact⟨o,ho,fun v q=>by rw[hd] at q;cases q⟩
 ·intro i h h' st kk
  exact st.at kk
 ·intro i h h' st kk
  exact st.at kk
 ·intro c hc
  have Em:s2.heap.objs.size<=c:=by
   simp only[Mc,OC,or_false] at hc
   rcases hc with q | q | q | q | q <;> rw[q] <;> first | exact Nat.le_add_right _ _ | exact LZ _
  exact I2.fpOk Em (I2.hok.fresh Em)
end
end L2
namespace L2
open PySem PySem.Spec PyProof.Rows
section
variable {X:Cx}
end
end L2
namespace L2
open PySem PySem.Spec
section
variable {prog:Ag}{w:Ak}{A:Ap}{E:Ab->Ae->Prop}{s:Ae}
end
end L2
namespace L2
open PySem PySem.Spec PyProof.Rows
section
variable {prog:Ag}{w:Ak}{A:Ap}{E:Ab->Ae->Prop}{s:Ae}{z TI TO i1 i2 l1 l2 S:Ac}{xs ys:Array Ab}{R:Result->Ae->Prop}
end
section
variable {X:Cx}{B5:List (Ac×Obj)}{σ:St}{H H':Hp}{s:Ae}{h':Ao}
theorem Inv.laidAll (I:Inv X B5 σ H s) (k:∀ b u,s.heap.get? b=some u->h'.get? b=some u) (old:∀ b o,H b=some o->H' b=some o) (none_:∀ b,b < s.heap.objs.size->H b=none->H' b=none) (new:∀ b o,H' b=some o->H b=none->ObjOk X.prog X.w H' h' b o):Inv X B5 σ H' { s with heap:=h',toks:=t' }:=by
 refine I.un ⟨fun b o q _ _ _=>k b o q,fun b o q _ _ _=>⟨o.slots,k b o q⟩,fun b o q n _=>none_ b (Mh q) n,fun b o q _=>⟨o,k b o q⟩,fun b xs e=>old b _ e,fun b o u e=>old b _ e,fun b ps e=>⟨#[],by simpa using old b _ e⟩⟩ fun b o e=>?_
 cases q:H b with
 | none=>exact new b o e q
 | some o' =>
  have e':o'=o:=by rw[old b o' q] at e;injection e
  subst e'
  exact(I.hok b o' q).stay (fun c u _ q=>k c u q) (fun c q=>old c _ q) fun c xs q=>old c _ q
end
theorem Xb (a:RelV u x) (b:RelV v x):u=v:=by
 cases u <;> cases v <;> simp only[RelV] at a b <;> first
  | (subst a;cases b;done)
  | (obtain⟨t,rfl⟩:=a;obtain⟨t',b⟩:=b;cases b;rfl)
  | (obtain⟨t,rfl⟩:=a;cases b;done)
  | (obtain⟨t,rfl⟩:=a;obtain⟨t',b⟩:=b;cases b;done)
  | (subst a;obtain⟨t',b⟩:=b;cases b;done)
  | (subst a;cases b;rfl)
  | rfl
section
variable {X:Cx}
end
noncomputable def ints?:List V->Option (List Int)
 | []=>some []
 | .int i::r=>(ints? r).map (i::·)
 | _=>none
theorem ints?_of:∀{xs:List V}{ns:List Int},ints? xs=some ns->xs=ns.map V.int
 | [],ns,h=>by cases h;rfl
 | x::r,ns,h=>by
  cases x with
  | int i =>
   simp only[ints?,Rx] at h
   obtain⟨l,hl,rfl⟩:=h
   rw[ints?_of hl];rfl
  | _=>simp[ints?] at h
theorem ints?_map:∀ ns:List Int,ints? (ns.map V.int)=some ns
 | []=>rfl
 | n::ns=>by simp only[L',ints?,ints?_map ns];rfl
def fBest (le:Int->Int->Prop):List V->Hp->VK->Prop:=fun xs H Q=>match xs with
 | [.ref p]=>(match tupR H p with
  | some ys=>(match ints? ys with
   | some ns=>ns≠[]/\∀ m,m∈ns->(∀ n∈ns,le n m)->Q (.int m) H
   | none=>False)
  | none=>False)
 | _=>False
section
variable {X:Cx}
def fIntS:List V->Hp->VK->Prop:=fun xs H Q=>match xs with
 | [.int i]=>Q (.int i) H
 | [.bl b]=>Q (.int (if b then 1 else 0)) H
 | [.str z]=>∃ n,bj z=some n/\z.length<=640/\Q (.int n) H
 | _=>False
theorem QV:CallR X (.type "int") fIntS:=fun B5 s σ H xs us Q I r h=>by
 unfold fIntS at h
 split at h
 ·exact Ss B5 s σ H _ us Q I r h
 ·exact Ss B5 s σ H _ us Q I r h
 ·obtain⟨n,hn,hl,q⟩:=h
  obtain⟨u,rfl,t,rfl⟩:=Np r
  exact PySem.W.KIN.call_text hn hl ⟨.int n,H,I.tok _,⟨_,rfl⟩,q⟩
 ·exact h.elim
end
end L2
namespace L2
open PySem
theorem fig_int:∀ d:Nat,d < 10->bj ⟨#[48+d]⟩=some (d:Int):=by decide +kernel
theorem Xc:∀ d:Nat,d < 10->(toString (d:Int):Str)=⟨#[48+d]⟩:=by decide +kernel
end L2
namespace L2
open PySem PySem.Spec PyProof.Rows
def Xd (le:Int->Int->Prop):List V->Hp->VK->Prop:=fun xs H Q=>∃(p:Ac) (ys:List V) (ns:List Int),xs=[.ref p]/\H p=some (PrX p ys)/\ints? ys=some ns/\ns≠[]/\∀ m,m∈ns->(∀ n∈ns,le n m)->Q (.int m) H
theorem i_bestP (h:H p=some (PrX p (ns.map V.int))) (h0:ns≠[]) (q:∀ m,m∈ns->(∀ n∈ns,le n m)->Q (.int m) H):Xd le [.ref p] H Q:=⟨p,_,ns,rfl,h,ints?_map ns,h0,q⟩
section
variable {X:Cx}
theorem c_maxP (hc:X.calm=true):CallR X (.builtin "max") (Xd (·<=·)):=by
 intro B5 s σ H xs us Q I r h
 obtain⟨p,ys,ns,rfl,e,en,h0,q⟩:=h
 obtain⟨u,rfl,ru⟩:=Np r
 cases ru
 obtain⟨⟨hz,its,rv,pl⟩,_⟩:=(show ObjOk X.prog X.w H s.heap p (PrX p ys) from I.hok p _ e)
 rw[ints?_of en] at rv
 have Ca:=rv.length
 rw[LP] at Ca
 have Cm:p < s.heap.objs.size:=by obtain⟨o,ho,_⟩:=pl;exact Mh ho
 have Dx:∀(i:Nat) (v:Ab),its.toArray[i]?=some v->∃ t,v=.int (ns.getD i 0) t:=fun i v hv=>by
  have hv':its[i]?=some v:=by simpa using hv
  have DJ:i < its.length:=(MJ.mp hv').1
  obtain⟨w',hw,t,rfl⟩:=rv.get (i:=i) (x:=V.int (ns.getD i 0)) (by rw[Ma];simp[L4,show i < ns.length by omega])
  rw[hv'] at hw
  cases hw
  exact⟨t,rfl⟩
 have G7:0 < ns.length:=OA.mpr h0
 refine call_max_walk (AD pl ?_)
 refine⟨s.heap.objs.size,_,_,_,_,_,_,rfl,Walks.tuple (A:=X.A.in1) (show X.A.in1.handled=none from I.ok.hd hc) s.heap.objs.size p (MI Cm) its.toArray,⟨⟨_,Ms _ rfl,rfl,rfl⟩,?_⟩,?_,?_,CmpOf.ints_gt (fun i=>ns.getD i 0) Dx,fun v h' tk hv k=>?_⟩
 ·obtain⟨o,ho,q⟩:=pl
  exact⟨o,L1 _ ho,q⟩
 ·intro b hb
  have hs:(s.heap.push { cls:=.type "tuple_iterator",data:=.fields #[.ref p,.int 0 0] }).objs.size=s.heap.objs.size+1:=NZ ..
  show b < (s.heap.push _).objs.size
  rw[hs]
  rcases Mc.mp hb with z | z
  ·rw[z];exact Ur _
  ·have z':b=p:=by simpa using z
   rw[z'];exact aQ Cm
 ·rw[Mu];omega
 ·obtain⟨t,rfl⟩:=Dx _ _ hv
  rw[Mu]
  obtain⟨b1,b2⟩:=argBest_gt (fun i=>ns.getD i 0) (its.length - 1)
  have I1:Inv X B5 σ H { s with heap:=s.heap.push { cls:=.type "tuple_iterator",data:=.fields #[.ref p,.int 0 0] },toks:=s.toks }:=I.kept fun b u q=>L1 _ q
  have f1:=I.fpOk (H':=H) (b:=s.heap.objs.size) (LZ _) (I.hok.fresh (LZ _))
  refine⟨.int _,H,I1.turned (t':=tk) (it:=s.heap.objs.size) (fun b o hb q=>k b o (by simpa using hb) q) f1.1 f1.2.1 f1.2.2.2.1 f1.2.2.2.2.1 f1.2.2.2.2.2,⟨_,rfl⟩,q _ ?_ fun n hn=>?_⟩
  ·rw[L4,LS (show argBest _ _ < ns.length by omega)]
   exact MD _
  ·obtain⟨j,hj,rfl⟩:=aq hn
   have:=b2 j (by omega)
   rw[L4 (i:=j),LS hj] at this
   exact this
end
def Lay (n:Nat)(d:Dt):Prop:=PyData.canLay0 (toP d)=true/\PyData.depth (toP d)<=n
theorem Lay.ok (h:Lay n d) (hn:n<=64):okD d:=by
 unfold okD SeqAt.shaped
 rw[h.1,B2 (MX h.2 hn)];rfl
theorem Xe {n:Nat}:∀{ds:List Dt},(∀ d∈ds,Lay n d)->PyData.canLayAll0 (toPs ds)=true/\PyData.depthAll (toPs ds)<=n
 | [],_=>⟨rfl,MR _⟩
 | d::ds,h=>by
  have h1:=h d Mn
  have h2:=Xe (ds:=ds) fun e he=>h e (Mp _ he)
  simp only[toPs,PyData.canLayAll0,PyData.depthAll,h1.1,h2.1,Bool.and_self,true_and]
  have:=h1.2
  have:=h2.2
  omega
theorem Lay.lst (h:∀ d∈ds,Lay n d):Lay (n+1) (.lst ds):=by
 have:=Xe h
 unfold Lay
 simp only[toP,PyData.canLay0,PyData.depth,this.1,true_and]
 omega
theorem Lay.int :Lay 0 (.int i):=⟨rfl,LZ _⟩
theorem Lay.ints {n:List Int}:∀ d∈n.map Dt.int,Lay 0 d:=fun d hd=>by
 obtain⟨x,_,rfl⟩:=MC.mp hd
 exact Lay.int
structure Dm (P:Ag)(w:Ak)(K:LR)(mg:Str->Option Ab)(base:Ao)(C:Ac)(m:Str)(k:Nat)(ps:List Str)(sp:Sp):Prop where
 ex:∃(f:Ac) (fd:AB),Meth K C m f/\Binds K fd ps []/\FnOk P w K mg base CX0 k f fd ps sp
structure Dk (P:Ag)(w:Ak)(K:LR)(mg:Str->Option Ab)(base:Ao)(C:Ac)(k:Nat)(ps:List Str)(sp:Sp):Prop where
 ex:∃(f:Ac) (fd:AB),Mk K C f/\Binds K fd ps []/\FnOk P w K mg base CX0 k f fd ps sp
section
variable {X:Cx}{k:Nat}{C:Ac}{ps:List Str}{sp:Sp}{x m:Str}{p pos Cf:Pos}{e o:Ay}{es:List Ay}{ta:TE}{t:TA}
theorem Nt (he:PE X o ta) (c:Cls X.K C) (D:Dm X.prog X.w X.K X.mg X.base C m k ps sp) (hr:Room k X.A) (ha:PA X (e::es) t) (ED:Ah (e::es) X.env=(false,Ax e X.env)::Ah es X.env:=by rfl) (CG:(AE pos (Ah es X.env)).any (·.1)=false:=by rfl) (ht:Ax (.Call (.Attribute o m Cf) (e::es) [] pos) X.env=(do
   let ov <- Ax o X.env
   BD Cf.atName
   let (f,first) <- By [ov] (Bq ov m pl)
   BM pos f first (AE pos (Ah (e::es) X.env)) (Ba pos (AU [] X.env))):=by rfl):
  PE X (.Call (.Attribute o m Cf) (e::es) [] pos) (PB C m sp [] E0 ta t):=by
 obtain⟨f,fd,h1,h2,h3⟩:=D.ex
 exact pe_meth he c h1 h3 hr h2 .nil PL ha ED CG ht
theorem eh (he:PE X o ta) (c:Cls X.K C) (D:Dm X.prog X.w X.K X.mg X.base C m k ps sp) (hr:Room k X.A) (ht:Ax (.Call (.Attribute o m Cf) [] [] pos) X.env=(do
   let ov <- Ax o X.env
   BD Cf.atName
   let (f,first) <- By [ov] (Bq ov m pl)
   BM pos f first (AE pos (Ah [] X.env)) (Ba pos (AU [] X.env))):=by rfl):
  PE X (.Call (.Attribute o m Cf) [] [] pos) (PB C m sp [] E0 ta tNil):=by
 obtain⟨f,fd,h1,h2,h3⟩:=D.ex
 exact bU he c h1 h3 hr h2 .nil PL ht
theorem S9 (D:Dk X.prog X.w X.K X.mg X.base C k ps sp)(hr:Room (k+1) X.A)(hg:Gl X x)(hm:X.mg x=some (.ref C))(ha:PA X (e::es) t)
  (DW:(x == ("__debug__":Str))=false:=by decide) (he:Ah (e::es) X.env=(false,Ax e X.env)::Ah es X.env:=by rfl) (CG:(AE pos (Ah es X.env)).any (·.1)=false:=by rfl) :
  PE X (.Call (.Name x p) (e::es) [] pos) (PD C sp [] E0 t):=by
 obtain⟨f,fd,h1,h2,h3⟩:=D.ex
 exact pe_make h1 h3 hr hg hm h2 .nil PL ha DW he CG
end
section
variable {σ:St}{H:Hp}{Q:VK}{D:Ends}
theorem M_ (h:ta σ H fun x H1=>∃ a dx fs,x=.ref a/\H1 a=some (.ins C dx fs)/\fs.lookup m=none/\t σ H1 fun vs H2=>sp (x::(vs++[])) H2 Q E):PB C m sp [] E ta t σ H Q:=h
theorem M' (h1:H a=some (.ins C dx fs)) (h2:fs.lookup m=none) (h:R):∃ a' dx' fs',V.ref a=.ref a'/\H a'=some (.ins C dx' fs')/\fs'.lookup m=none/\R:=⟨a,dx,fs,rfl,h1,h2,h⟩
theorem P_ (h:t σ H fun vs H1=>∀ x dx,H1 x=none->H1 dx=none->dx≠x->sp (.ref x::(vs++[])) (upd (upd H1 dx (.own x)) x (.ins C dx [])) (fun v H2=>v=.non/\Q (.ref x) H2) E):PD C sp [] E t σ H Q:=h
theorem Na {K:LR}{ta:TE}{f:Str}(h:ta σ H fun x H1=>∃ a C dx fs v,x=.ref a/\H1 a=some (.ins C dx fs)/\Cls K C/\NoAttr K C f/\fs.lookup f=some v/\Q v H1):tFld K ta f σ H Q:=h
theorem QW {K:LR}{ta tv:TE}{f:Str}(h:tv σ H fun y H1=>ta σ H1 fun x H2=>∃ a C dx fs,x=.ref a/\H2 a=some (.ins C dx fs)/\Cls K C/\NoAttr K C f/\fs.length < 1000/\D.nx σ (upd H2 a (.ins C dx (putF f y fs)))):sFld K ta tv f D σ H:=h
theorem Nb {K:LR}{a C dx:Ac}{fs:List (Str×V)}{f:Str}{v:V}{R:V->Prop}(h1:H a=some (.ins C dx fs))(c:Cls K C)(n:NoAttr K C f)(l:fs.lookup f=some v)(h:R v):∃ a' C' dx' fs' v',V.ref a=.ref a'/\H a'=some (.ins C' dx' fs')/\Cls K C'/\NoAttr K C' f/\fs'.lookup f=some v'/\R v':=⟨a,C,dx,fs,v,rfl,h1,c,n,l,h⟩
theorem QX {K:LR}{a C dx:Ac}{fs:List (Str×V)}{f:Str}{y:V}{R:Hp->Prop}(h1:H a=some (.ins C dx fs))(c:Cls K C)(n:NoAttr K C f)(l:fs.length < 1000)(h:R (upd H a (.ins C dx (putF f y fs)))) :
  ∃ a' C' dx' fs',V.ref a=.ref a'/\H a'=some (.ins C' dx' fs')/\Cls K C'/\NoAttr K C' f/\fs'.length < 1000/\R (upd H a' (.ins C' dx' (putF f y fs'))):=⟨a,C,dx,fs,rfl,h1,c,n,l,h⟩
end
def S_:V->List V->Hp->VK->Prop:=fun x vs H Q=>match x,vs with
 | .ref l,[.ref b]=>(match H l,H b with | some (.lst xs),some (.lst zs)=>xs.length+zs.length<=Af/\Q .non (upd H l (.lst (xs++zs))) | _,_=>False)
 | _,_=>False
theorem Xf :MtR X "list.extend" S_:=fun B5 s σ H x xs v us Q I rx rs h=>by
 unfold S_ at h
 split at h
 ·split at h
  ·rename_i e e2
   exact cm B5 s σ H _ _ v us Q I rx rs ⟨_,_,_,_,rfl,rfl,e,e2,h.1,h.2⟩
  ·exact h.elim
 ·exact h.elim
theorem Xg (h1:H l=some (.lst xs)) (h2:H b=some (.lst zs)) (c:xs.length+zs.length<=Af) (h:Q .non (upd H l (.lst (xs++zs)))):S_ (.ref l) [.ref b] H Q:=by
 show (match H l,H b with | some (.lst xs),some (.lst zs)=>xs.length+zs.length<=Af/\Q .non (upd H l (.lst (xs++zs))) | _,_=>False)
 rw[h1,h2];exact⟨c,h⟩
mutual
noncomputable def Ql:Dt->Bool
 | .lst _=>false
 | .tup ds=>Ol ds
 | _=>true
noncomputable def Ol:List Dt->Bool
 | []=>true
 | d::ds=>Ql d&&Ol ds
end
def Tk (H H':Hp):Prop:=∀ b xs,H b=some (.tup xs)->H' b=some (.tup xs)
theorem Tk.trans (a:Tk H H1) (b:Tk H1 H2):Tk H H2:=fun c o h=>b c o (a c o h)
theorem Same.tk (h:Same H H'):Tk H H':=fun b xs e=>h b _ e
theorem Tk.new (h:H p=none) (o:HO):Tk H (upd H p o):=(LW h o).tk
theorem Tk.lst (h:H p=some (.lst zs)) (o:HO):Tk H (upd H p o):=fun b xs e=>by
 rw[LU (Qi e h (by intro z;cases z))];exact e
mutual
theorem Is.tk {H H':Hp}(h:Tk H H'):∀{d:Dt}{v:V},Ql d=true->Is H v d->Is H' v d
 | .non,_,_,k=>by simp only[Is] at k ⊢;exact k
 | .bl _,_,_,k=>by simp only[Is] at k ⊢;exact k
 | .int _,_,_,k=>by simp only[Is] at k ⊢;exact k
 | .str _,_,_,k=>by simp only[Is] at k ⊢;exact k
 | .tup ds,_,t,k=>by
  simp only[Ql] at t
  simp only[Is] at k ⊢
  obtain⟨a,xs,e,h1,h2⟩:=k
  exact⟨a,xs,e,h _ _ h1,IsL.tk h t h2⟩
 | .lst ds,_,t,_=>by simp only[Ql] at t;cases t
theorem IsL.tk {H H':Hp}(h:Tk H H'):∀{ds:List Dt}{xs:List V},Ol ds=true->IsL H xs ds->IsL H' xs ds
 | [],[],_,_=>by simp only[IsL]
 | [],_::_,_,k=>by simp only[IsL] at k
 | _::_,[],_,k=>by simp only[IsL] at k
 | d::ds,x::xs,t,k=>by
  simp only[Ol,Nn] at t
  simp only[IsL] at k ⊢
  exact⟨Is.tk h t.1 k.1,IsL.tk h t.2 k.2⟩
end
theorem S':∀{ds:List Dt},(∀ d∈ds,Ql d=true)->Ol ds=true
 | [],_=>rfl
 | d::ds,h=>by simp only[Ol,Nn];exact⟨h d Mn,S' fun e he=>h e (Mp _ he)⟩
theorem ei (ns:List Int):Ol (ns.map Dt.int)=true:=S' fun d hd=>by
 obtain⟨n,_,rfl⟩:=MC.mp hd;rfl
theorem IsL.snoc {H:Hp}{ds:List Dt}{d:Dt}{xs:List V}{x:V}(h:IsL H xs ds)(k:Is H x d):IsL H (xs++[x]) (ds++[d]) :=
 IsL.append h (by simp only[IsL];exact⟨k,trivial⟩)
noncomputable abbrev Fit:=Nat×List Int
noncomputable def fitD (x:Fit):Dt:=.tup [.int (x.1:Int),.tup (x.2.map Dt.int)]
noncomputable def QY (xs:List Fit):Dt:=.lst (xs.map fitD)
theorem ek (xs:List Fit):Ol (xs.map fitD)=true:=S' fun d hd=>by
 obtain⟨n,_,rfl⟩:=MC.mp hd;simp only[fitD,Ql,Ol,ei,Bool.and_true]
theorem isFit (h:Is H v (fitD x)):∃ a t,v=.ref a/\H a=some (.tup [.int (x.1:Int),.ref t])/\H t=some (.tup (x.2.map V.int)):=by
 simp only[Is,fitD] at h
 obtain⟨a,xs,rfl,ha,Ds⟩:=h
 match xs,Ds with
 | [],h=>simp only[L2.IsL] at h
 | [_],h=>simp only[L2.IsL] at h;exact h.2.elim
 | _::_::_::_,h=>simp only[L2.IsL] at h;exact h.2.2.elim
 | [y,z],h =>
  simp only[L2.IsL,Is] at h
  obtain⟨rfl,⟨t,ys,rfl,ht,Cv⟩,_⟩:=h
  have:=SR Cv
  subst this
  exact⟨a,t,rfl,ha,ht⟩
theorem em (h1:H a=some (.tup [.int (x.1:Int),.ref t])) (h2:H t=some (.tup (x.2.map V.int))):Is H (.ref a) (fitD x):=by
 simp only[Is,fitD,L2.IsL]
 exact⟨a,_,rfl,h1,rfl,⟨t,_,rfl,h2,IsL.ints _ _⟩,trivial⟩
theorem isFits (h:Is H v (QY xs)):∃ a ys,v=.ref a/\H a=some (.lst ys)/\L2.IsL H ys (xs.map fitD):=by
 simp only[Is,QY] at h
 exact h
noncomputable def layF (t:List Int)(xs:List Fit):List Int:=xs.foldl (fun t x=>laid t x.1 x.2) t
theorem Xh:∀(xs:List Fit) (t:List Int),(layF t xs).length=t.length
 | [],_=>rfl
 | x::xs,t=>by show (layF (laid t x.1 x.2) xs).length=_;rw[Xh xs,Z9]
theorem Xi (t:List Int)(xs ys:List Fit):layF t (xs++ys)=layF (layF t xs) ys:=Qr
theorem eo {xs:List Fit}{i:Nat}(h:i < xs.length)(t:List Int):layF t (xs.take (i+1))=laid (layF t (xs.take i)) xs[i].1 xs[i].2:=by
 rw[MA,LS h,Xi];rfl
noncomputable def NU (f:List Nat)(x:Pat):List Fit:=(MG x.1 f).map fun b=>(b,x.2)
noncomputable def Pm (f:List Nat)(xs:List Pat):List Fit:=xs.flatMap (NU f)
theorem ez {f:List Nat}{xs:List Pat}{i:Nat}(h:i < xs.length):Pm f (xs.take (i+1))=Pm f (xs.take i)++NU f xs[i]:=by
 unfold Pm;rw[MA,LS h,ao];simp
theorem eA (f:List Nat)(x:Pat)(t:List Int):layF t (NU f x)=NF f t x:=by
 unfold layF NU NF;rw[List.foldl_map]
theorem Xj (f:List Nat):∀(xs:List Pat) (t:List Int),layF t (Pm f xs)=O6 f t xs
 | [],_=>rfl
 | x::xs,t=>by
  show layF t (NU f x++Pm f xs)=O6 f (NF f t x) xs
  rw[Xi,eA,Xj f xs]
theorem Xk (p f:List Nat):(MG p f).length<=f.length:=by
 unfold MG;exact MX (Oz _ _) (by simp)
theorem Xl (f:List Nat):∀(xs:List Pat),(Pm f xs).length<=xs.length * f.length
 | []=>by simp[Pm]
 | x::xs=>by
  show (NU f x++Pm f xs).length<=_
  have h1:=Xl f xs
  have h2:=Xk x.1 f
  have h3:(NU f x).length=(MG x.1 f).length:=by simp[NU]
  rw[Md,Mr,Nat.add_mul];omega
theorem eB (h:y∈Pm f xs):∃ x∈xs,y.1∈MG x.1 f/\y.2=x.2:=by
 obtain⟨x,hx,hy⟩:=Zx.mp h
 obtain⟨b,hb,rfl⟩:=MC.mp hy
 exact⟨x,hx,hb,rfl⟩
def Ta:V->List V->Hp->VK->Prop:=fun x vs H Q=>match x,vs with
 | .ref l,[.int i,y]=>(match H l with | some (.lst xs)=>0<=i/\i<=xs.length/\xs.length < 1000000/\Q .non (upd H l (.lst (xs.take i.toNat++y::xs.drop i.toNat))) | _=>False)
 | _,_=>False
section
variable {X:Cx}
theorem Vals.take' (h:Vals xs us):∀ n,Vals (xs.take n) (us.take n):=by
 induction h with
 | nil=>intro n;simp;exact .nil
 | cons r rs ih =>
  intro n
  cases n with
  | zero=>simp;exact .nil
  | succ n=>simp only[Zs];exact .cons r (ih n)
theorem Vals.drop' (h:Vals xs us):∀ n,Vals (xs.drop n) (us.drop n):=by
 induction h with
 | nil=>intro n;simp;exact .nil
 | cons r rs ih =>
  intro n
  cases n with
  | zero=>simp only[ZB];exact .cons r rs
  | succ n=>simp only[au];exact ih n
theorem eC:MtR X "list.insert" Ta:=fun B5 s σ H x vs v us Q I rx rs h=>by
 unfold Ta at h
 split at h
 ·rename_i l i y
  split at h
  ·rename_i xs hH
   obtain⟨h0,h1,hz,q⟩:=h
   cases rx
   cases rs with
   | cons r1 rs =>
    cases rs with
    | cons r2 rs =>
     cases rs
     obtain⟨t,rfl⟩:=r1
     rename_i u
     obtain⟨z,its,n,r,hl,e⟩:=I.lstM hH
     have Ca:=r.length
     have DZ:i9 i=true:=by
      unfold i9
      have e:((2:Int) ^ 63)=9223372036854775808:=by decide
      simp only[e,Nn,decide_eq_true_eq]
      omega
     have KN:1000000<=Af:=by decide
     have hsz:its.toArray.size<=Af:=by
      rw[Mu]
      omega
     refine AW F.slot_list_insert ⟨_,e,rfl⟩ F.entry_list_insert (F.args_list_insert_3 _ _ _) (PySem.AutoSeq1.list_insert_list_int_val_1 l its.toArray n i t u (by simp[DZ]) hsz) ⟨e,?_⟩
     refine⟨.non,_,I.lset (its':=its.take i.toNat++u::its.drop i.toNat) hH e ?_ ((Vals.take' r _).append (.cons r2 (Vals.drop' r _))) ?_,rfl,q⟩
     ·apply bf.mp
      have hk:(if i < 0 then (i+((its.toArray.size:Nat):Int)).toNat else min i.toNat its.toArray.size)=i.toNat:=by
       rw[B3 (by omega),Mu]
       omega
      show ((its.toArray.extract 0 (if i < 0 then (i+((its.toArray.size:Nat):Int)).toNat else min i.toNat its.toArray.size)).push u++its.toArray.extract (if i < 0 then (i+((its.toArray.size:Nat):Int)).toNat else min i.toNat its.toArray.size)).toList=_
      rw[hk]
      simp
      exact Uf (by rw[Ng];exact LZ _)
     ·have:(xs.take i.toNat++y::xs.drop i.toNat).length=xs.length+1:=by
       rw[Md,Mr,Mt,Ng];omega
      omega
  ·exact h.elim
 ·exact h.elim
end
def Dat (H H':Hp):Prop:=(∀ b xs,H b=some (.lst xs)->H' b=some (.lst xs))/\(∀ b xs,H b=some (.tup xs)->H' b=some (.tup xs))/\∀ b B7,H b=some (.dK B7)->H' b=some (.dK B7)
theorem Same.dat (h:Same H H'):Dat H H':=⟨fun b xs e=>h b _ e,fun b xs e=>h b _ e,fun b xs e=>h b _ e⟩
theorem Dat.trans (a:Dat H H1) (b:Dat H1 H2):Dat H H2:=⟨fun c o e=>b.1 c o (a.1 c o e),fun c o e=>b.2.1 c o (a.2.1 c o e),fun c o e=>b.2.2 c o (a.2.2 c o e)⟩
theorem Dat.ins (hp:H p=some (.ins C dx fs)) (o:HO):Dat H (upd H p o):=by
 refine⟨fun b xs e=>?_,fun b xs e=>?_,fun b xs e=>?_⟩ <;>
 ·have hb:b≠p:=fun z=>by rw[z,hp] at e;cases e
  rw[LU hb];exact e
mutual
theorem Is.dat {H H':Hp}(h:Dat H H'):∀{d:Dt}{v:V},Is H v d->Is H' v d
 | .non,_,k=>by simp only[Is] at k ⊢;exact k
 | .bl _,_,k=>by simp only[Is] at k ⊢;exact k
 | .int _,_,k=>by simp only[Is] at k ⊢;exact k
 | .str _,_,k=>by simp only[Is] at k ⊢;exact k
 | .tup ds,_,k=>by
  simp only[Is] at k ⊢
  obtain⟨a,xs,e,h1,h2⟩:=k
  exact⟨a,xs,e,h.2.1 _ _ h1,IsL.dat h h2⟩
 | .lst ds,_,k=>by
  simp only[Is] at k ⊢
  obtain⟨a,xs,e,h1,h2⟩:=k
  exact⟨a,xs,e,h.1 _ _ h1,IsL.dat h h2⟩
theorem IsL.dat {H H':Hp}(h:Dat H H'):∀{ds:List Dt}{xs:List V},IsL H xs ds->IsL H' xs ds
 | [],[],_=>by simp only[IsL]
 | d::ds,x::xs,k=>by
  simp only[IsL] at k ⊢
  exact⟨Is.dat h k.1,IsL.dat h k.2⟩
 | [],_::_,k=>by simp only[IsL] at k
 | _::_,[],k=>by simp only[IsL] at k
end
theorem NT.dat (h:Dat H H') (k:NT H B7 gs):NT H' B7 gs:=NT.tups h.2.1 k
theorem Xm {H H1 H2:Hp}{p:Ac}(h:∀ b o,b≠p->H b=some o->H1 b=some o)(s:Same H1 H2):∀ b o,b≠p->H b=some o->H2 b=some o:=fun b o hb e=>s _ _ (h b o hb e)
theorem QZ {H H1:Hp}{p:Ac}{x:HO}(h:∀ b o,b≠p->H b=some o->H1 b=some o):∀ b o,b≠p->H b=some o->(upd H1 p x) b=some o:=fun b o hb e=>by rw[LU hb];exact h b o hb e
theorem i_din (h:ty σ H fun y H1=>td σ H1 fun x H2=>∃ a o,x=.ref a/\DGet H2 a y o/\Q (.bl o.isSome) H2):tDIn ty td σ H Q:=h
theorem i_tB (h:t σ H fun x H1=>∃ c,x=.bl c/\Q c H1):tB t σ H Q:=h
theorem i_insL (h1:H l=some (.lst xs)) (h2:0<=i/\i<=xs.length/\xs.length < 1000000) (h:Q .non (upd H l (.lst (xs.take i.toNat++y::xs.drop i.toNat)))):Ta (.ref l) [.int i,y] H Q:=by
 show (match H l with | some (.lst xs)=>0<=i/\i<=xs.length/\xs.length < 1000000/\Q .non (upd H l (.lst (xs.take i.toNat++y::xs.drop i.toNat))) | _=>False)
 rw[h1];exact⟨h2.1,h2.2.1,h2.2.2,h⟩
noncomputable def bV:Option Nat->V
 | none=>.non
 | some n=>.int (n:Int)
noncomputable def bD:Option Nat->Dt
 | none=>.non
 | some n=>.int (n:Int)
structure View where
 t:List Nat
 b:Option Nat
 i:Int
 j:Int
noncomputable def NN (v:View):Dt:=.tup [.str (S v.t),bD v.b,.int v.i,.int v.j]
noncomputable def Ov (p:Int×Int):Dt:=.tup [.int p.1,.int p.2]
theorem isB :Is H (bV b) (bD b):=by cases b <;> simp only[bV,bD,Is]
theorem Tb (h:H a=some (.tup [.str (S v.t),bV v.b,.int v.i,.int v.j])):Is H (.ref a) (NN v):=by
 simp only[Is,NN]
 exact⟨a,_,rfl,h,by simp only[L2.IsL,Is];exact⟨trivial,isB,trivial,trivial,trivial⟩⟩
theorem Xn (h:H a=some (.tup [.int p.1,.int p.2])):Is H (.ref a) (Ov p):=by
 simp only[Is,Ov]
 exact⟨a,_,rfl,h,by simp only[L2.IsL,Is,and_self]⟩
theorem isB_of (h:Is H v (bD b)):v=bV b:=by cases b <;> (simp only[bD,Is] at h;exact h)
theorem Xo (h:Is H v (NN x)):∃ a,v=.ref a/\H a=some (.tup [.str (S x.t),bV x.b,.int x.i,.int x.j]):=by
 simp only[Is,NN] at h
 obtain⟨a,ys,rfl,ha,hy⟩:=h
 match ys,hy with
 | [y1,y2,y3,y4],hy =>
  simp only[L2.IsL] at hy
  obtain⟨h1,h2,h3,h4,_⟩:=hy
  have h2:=isB_of h2
  simp only[Is] at h1 h3 h4
  subst h1 h2 h3 h4
  exact⟨a,rfl,ha⟩
 | [],hy=>simp only[L2.IsL] at hy
 | [_],hy=>simp only[L2.IsL] at hy;exact hy.2.elim
 | [_,_],hy=>simp only[L2.IsL] at hy;exact hy.2.2.elim
 | [_,_,_],hy=>simp only[L2.IsL] at hy;exact hy.2.2.2.elim
 | _::_::_::_::_::_,hy=>simp only[L2.IsL] at hy;exact hy.2.2.2.2.elim
theorem isPair (h:Is H v (Ov p)):∃ a,v=.ref a/\H a=some (.tup [.int p.1,.int p.2]):=by
 simp only[Is,Ov] at h
 obtain⟨a,ys,rfl,ha,hy⟩:=h
 match ys,hy with
 | [y1,y2],hy =>
  simp only[L2.IsL,Is] at hy
  obtain⟨h1,h2,_⟩:=hy
  subst h1 h2
  exact⟨a,rfl,ha⟩
 | [],hy=>simp only[L2.IsL] at hy
 | [_],hy=>simp only[L2.IsL] at hy;exact hy.2.elim
 | _::_::_::_,hy=>simp only[L2.IsL] at hy;exact hy.2.2.elim
section
variable {X:Cx}
theorem eD (bs:List Bool):(L5 bs.length).any (fun i=>bs.getD i false)=bs.any id:=by
 rw[Oq,Qs,Qs]
 constructor
 ·rintro⟨i,hi,h⟩
  have hi':=OE.mp hi
  refine⟨bs[i],MD hi',?_⟩
  simpa [L4,hi'] using h
 ·rintro⟨b,hb,h⟩
  obtain⟨i,hi,rfl⟩:=Ug.mp hb
  exact⟨i,OE.mpr hi,by simpa [L4,hi] using h⟩
theorem c_any (hc:X.calm=true):CallR X (.builtin "any") (fAll fun bs=>bs.any id):=by
 intro B5 s σ H xs us Q I r h
 unfold fAll at h
 split at h
 ·rename_i p
  split at h
  ·rename_i ys e
   split at h
   ·rename_i bs eb
    obtain⟨u,rfl,ru⟩:=Np r
    cases ru
    obtain⟨its,rv,pl,hz⟩:=I.list (PN e)
    rw[bls?_of eb] at rv
    have Ca:=rv.length
    rw[LP] at Ca
    have Cm:p < s.heap.objs.size:=by obtain⟨o,ho,_⟩:=pl.isList;exact Mh ho
    refine call_any_walk (AV pl.isList ?_)
    refine⟨s.heap.objs.size,_,_,_,_,_,(fun i=>bs.getD i false),rfl,Walks.list (A:=X.A.in1) (show X.A.in1.handled=none from I.ok.hd hc) s.heap.objs.size p (MI Cm) its.toArray,⟨⟨_,Ms _ rfl,rfl,rfl⟩,?_⟩,fun i v s' Q' E' hv hq=>?_,fun h' tk k=>?_⟩
    ·obtain⟨o,ho,q⟩:=pl.isList
     exact⟨o,L1 _ ho,q⟩
    ·have hv':its[i]?=some v:=by simpa using hv
     have DJ:i < its.length:=(MJ.mp hv').1
     obtain⟨w',hw,rw'⟩:=rv.get (i:=i) (x:=V.bl (bs.getD i false)) (by rw[Ma];simp[L4,show i < bs.length by omega])
     rw[hv'] at hw
     cases hw
     cases rw'
     exact AA hq
    ·have e2:(L5 its.toArray.size).any (fun i=>bs.getD i false)=bs.any id:=by rw[Mu,<- Ca];exact eD bs
     rw[e2]
     have I1:Inv X B5 σ H { s with heap:=s.heap.push { cls:=.type "list_iterator",data:=.fields #[.ref p,.int 0 0] },toks:=s.toks }:=I.kept fun b u q=>L1 _ q
     have f1:=I.fpOk (H':=H) (b:=s.heap.objs.size) (LZ _) (I.hok.fresh (LZ _))
     exact endB (I1.turned (t':=tk) (it:=s.heap.objs.size) (fun b o hb q=>k b o (by simpa using hb) q) f1.1 f1.2.1 f1.2.2.2.1 f1.2.2.2.2.1 f1.2.2.2.2.2) h
   ·exact h.elim
  ·exact h.elim
 ·exact h.elim
end
section
variable {prog:Ag}{w:Ak}{A:Ap}{E:Ab->Ae->Prop}{s:Ae}
theorem eE (h:Q 0xFCA86420 { s with toks:=s.toks+1 }):wpAny (Aj prog w) A (pyHash Value.none) Q E s:=by
 have hT:s.TypeIs Value.none "NoneType":=rfl
 unfold pyHash
 first | unfold pyHashByItsType | skip
 have hv:[Value.none].any Value.onHeap=false:=rfl
 refine Aa ?_
 rw[cRoomFor,B3 (by rw[hv];exact Mj)];refine Ad ?_
 refine Aa (BJ hT ZN.lookup ?_)
 show wpAny _ _ (if (some (Value.builtin "NoneType.__hash__") == some Value.none)=true then _ else _) Q E s
 rw[B3 (by rw[beq_builtin_none];exact Mj)]
 refine Aa (BJ hT ZN.lookup ?_)
 show wpAny _ _ (callSpecialIfBoundUnlessNone? Value.none "__hash__" _ >>= _) Q E s
 refine Aa (wpAny_callSpecialIfBoundUnlessNone?_slot hT ZN
  (Aq ZN hT F.entry_NoneType_hash
   (show wpAny _ _ (do ret (<- mkInt 0xFCA86420)) _ _ s from wpAny_ret_mkInt ?_) (F.args_NoneType_hash_1 _)))
 show wpAny _ _ (if (decide (-(2:Int) ^ 63<=0xFCA86420)&&decide ((0xFCA86420:Int) < 2 ^ 63))=true then _ else _) Q E _
 rw[B4 (by decide)]
 exact Ad h
end
noncomputable def oIs:Option Key->Ab->Bool
 | none,v=>v == Value.none
 | some k,v=>NI k v
theorem Q0 (h:oIs k v=true):(k=none/\v=Value.none)∨∃ k',k=some k'/\NI k' v=true:=by
 cases k with
 | none=>exact .inl ⟨rfl,eq_of_beq h⟩
 | some k=>exact .inr ⟨k,rfl,h⟩
theorem Xp :NI k Value.none=false:=by cases k <;> rfl
noncomputable def Xq (prog:Ag)(w:Ak):PySem.KeyKind prog w (Option Key) where
 is:=oIs
 hash:=fun k=>match k with
  | none=>0xFCA86420
  | some k=>keyH w k
 inj:=fun v a b ha hb=>by
  rcases Q0 ha with ⟨rfl,rfl⟩ | ⟨x,rfl,hx⟩
  ·rcases Q0 hb with ⟨rfl,_⟩ | ⟨y,rfl,hy⟩
   ·rfl
   ·rw[Xp] at hy;cases hy
  ·rcases Q0 hb with ⟨rfl,rfl⟩ | ⟨y,rfl,hy⟩
   ·rw[Xp] at hx;cases hx
   ·rw[(MB prog w).inj v x y hx hy]
 byValue:=fun k v h=>by
  rcases Q0 h with ⟨rfl,rfl⟩ | ⟨x,rfl,hx⟩
  ·rfl
  ·exact(MB prog w).byValue x v hx
 pyHash:=fun{A E s k v Q} hv h=>by
  rcases Q0 hv with ⟨rfl,rfl⟩ | ⟨x,rfl,hx⟩
  ·exact eE h
  ·exact(MB prog w).pyHash (k:=x) hx h
 eqBool:=fun{A E s a b u v Q} hu hv h=>by
  rcases Q0 hu with ⟨rfl,rfl⟩ | ⟨x,rfl,hx⟩
  ·rcases Q0 hv with ⟨rfl,rfl⟩ | ⟨y,rfl,hy⟩
   ·exact OM.same Value.none _ _ _ _ (by simpa using h)
   ·have h:Q false s:=by simpa using h
    rcases Pe hy with ⟨i,t,rfl,rfl⟩ | ⟨z,t,rfl,rfl⟩
    ·exact je i t _ _ _ _ h
    ·exact jf z t _ _ _ _ h
  ·rcases Q0 hv with ⟨rfl,rfl⟩ | ⟨y,rfl,hy⟩
   ·have h:Q false s:=by simpa using h
    rcases Pe hx with ⟨i,t,rfl,rfl⟩ | ⟨z,t,rfl,rfl⟩
    ·exact jg i t _ _ _ _ h
    ·exact jh z t _ _ _ _ h
   ·refine(MB prog w).eqBool hx hy ?_
    have:decide (some x=some y)=decide (x=y):=by simp
    rw[<- this];exact h
 «strs»:=fun k x t v h=>by
  rcases Q0 h with ⟨rfl,e⟩ | ⟨y,rfl,hy⟩
  ·cases e
  ·exact(MB prog w).strs y x t v hy
structure OwnKind (K:Type) [DecidableEq K] where
 hk:(P:Ag)->(w:Ak)->HeapKind P w K
 at_:Hp->K->Ac->Prop
 of:∀{P:Ag}{w:Ak}{H:Hp}{h:Ao}{k:K}{a:Ac},HOk P w H h->at_ H k a->(hk P w).is h k a
 room:∀{P:Ag}{w:Ak}{A:Ap},A.units+4 < AR->(hk P w).room A.in1
 room0:∀{P:Ag}{w:Ak}{A:Ap},A.units+4 < AR->(hk P w).room A
section
variable {K:Type} [DecidableEq K]
noncomputable def valX (B7:List (K×Ac×V))(k:K):Option V:=(B7.find? fun e=>decide (e.1=k)).map (·.2.2)
noncomputable def putX (B7:List (K×Ac×V))(k:K)(b:Ac)(v:V):List (K×Ac×V):=if (B7.any fun e=>decide (e.1=k))=true then B7.map (fun e=>if e.1=k then (e.1,e.2.1,v) else e) else B7++[(k,b,v)]
def KX (B7:List (K×Ac×V))(xs:List (K×Ac×Ab)):Prop:=Paired (fun(p:K×Ac×V) (q:K×Ac×Ab)=>p.1=q.1/\p.2.1=q.2.1/\RelV p.2.2 q.2.2) B7 xs
theorem KX.val (r:KX B7 xs) (k:K):RelO (valX B7 k) ((BB xs k).map (·.2)):=by
 unfold KX at r
 induction r with
 | nil=>exact True.intro
 | @cons p q ps qs h t ih =>
  obtain⟨h1,h2,h3⟩:=h
  unfold valX BB at ih ⊢
  rw[Nv,Nv,<- h1]
  by_cases e:p.1=k
  ·simp only[e,decide_true,UB];exact h3
  ·simp only[e,decide_false];exact ih
theorem KX.any (r:KX B7 xs) (k:K):(B7.any fun e=>decide (e.1=k))=(BB xs k).isSome:=by
 unfold KX at r
 induction r with
 | nil=>rfl
 | @cons p q ps qs h t ih =>
  unfold BB at ih ⊢
  rw[Pq,Nv,<- h.1,ih]
  by_cases e:p.1=k
  ·simp[e]
  ·simp[e]
theorem KX.put (r:KX B7 xs) (k:K) (b:Ac) (ry:RelV y u):KX (putX B7 k b y) (storedH xs k b u):=by
 unfold putX storedH
 rw[r.any]
 by_cases q:(BB xs k).isSome=true
 ·rw[B4 q,B4 q]
  unfold KX at r ⊢
  clear q
  induction r with
  | nil=>exact .nil
  | @cons p q ps qs h t ih =>
   rw[L',L']
   refine .cons ?_ ih
   obtain⟨h1,h2,h3⟩:=h
   unfold putAt
   by_cases e:p.1=k
   ·rw[B4 e,B4 (h1.symm.trans e)];exact⟨h1,h2,ry⟩
   ·rw[B3 e,B3 (fun z=>e (h1.trans z))];exact⟨h1,h2,h3⟩
 ·rw[B3 q,B3 q];exact Paired.snoc r ⟨rfl,rfl,ry⟩
theorem Xr (B7:List (K×Ac×V))(k:K)(b:Ac)(v:V):(putX B7 k b v).length<=B7.length+1:=by
 unfold putX
 split
 ·rw[LP];omega
 ·rw[Md];exact LZ _
variable (N:OwnKind K)
noncomputable def DX (P:Ag)(w:Ak)(a:Ac)(B7:List (K×Ac×V)):HO:=.ext fun h=>B7.length<=Af/\(a == Ar)=false/\∃ xs:List (K×Ac×Ab),KX B7 xs /\
 ∃ o es ep,h.get? a=some o/\o.ExactDict/\o.data=.dict es ep/\es.toList=xs.map (entryOfKey (N.hk P w))/\(xs.map (·.1)).Nodup
variable {N}
theorem Q1 (h1:B7.length<=Af) (h2:(a == Ar)=false) (h3:KX B7 xs) (h4:h.get? a=some o) (h5:o.ExactDict) (h6:o.data=.dict es ep) (h7:es.toList=xs.map (entryOfKey (N.hk P w))) (h8:(xs.map (·.1)).Nodup):ObjOk P w H h a (DX N P w a B7) :=
 ⟨⟨h1,h2,xs,h3,o,es,ep,h4,h5,h6,h7,h8⟩,⟨o,h4⟩,fun _ _ ⟨q1,q2,xs,q3,o,es,ep,q4,q⟩ k=>⟨q1,q2,xs,q3,o,es,ep,k _ q4,q⟩⟩
def KO (N:OwnKind K)(H:Hp)(B7:List (K×Ac×V)):Prop:=∀ e∈B7,N.at_ H e.1 e.2.1
theorem O8 (ok:HOk P w H h) (e:Rd H a (DX N P w a B7)) (hK:KO N H B7):B7.length<=Af/\(a == Ar)=false/\∃ xs,KX B7 xs/\h.DictOfH (N.hk P w) a xs:=by
 obtain⟨⟨z,y,xs,r,o,es,ep,h1,h2,h3,h4,h5⟩,_⟩:=(show ObjOk P w H h a (DX N P w a B7) from SX ok e)
 refine⟨z,y,xs,r,o,es,ep,h1,h2,h3,h4,fun x hx=>?_,h5⟩
 have all:∀{l:List (K×Ac×V)}{m:List (K×Ac×Ab)},KX l m->(∀ e∈l,N.at_ H e.1 e.2.1)->∀ x∈m,(N.hk P w).is h x.1 x.2.1:=by
  intro l m q
  unfold KX at q
  induction q with
  | nil=>intro _ x hx;exact nomatch hx
  | @cons p q ps qs hq t ih =>
   intro hK x hx
   rcases Mc.mp hx with e | hx
   ·subst e
    rw[<- hq.1,<- hq.2.1]
    exact N.of ok (hK p Mn)
   ·exact ih (fun e he=>hK e (Mp _ he)) x hx
 exact all r hK x hx
theorem dx_of (ok:HOk P w H h) (e:H a=some (DX N P w a B7)) (hK:KO N H B7):B7.length<=Af/\(a == Ar)=false/\∃ xs,KX B7 xs/\h.DictOfH (N.hk P w) a xs:=O8 ok (.inl e) hK
def DGetX (N:OwnKind K)(P:Ag)(w:Ak)(H:Hp)(a:Ac)(y:V)(r:Option V):Prop:=∃ B7 k b,Rd H a (DX N P w a B7)/\KO N H B7/\y=.ref b/\N.at_ H k b/\r=valX B7 k
def Tc (N:OwnKind K)(P:Ag)(w:Ak)(H:Hp)(a:Ac)(y v:V)(H':Hp):Prop:=∃ B7 k b,H a=some (DX N P w a B7)/\KO N H B7/\y=.ref b/\N.at_ H k b/\B7.length < Af/\H'=upd H a (DX N P w a (putX B7 k b v))
section
variable {X:Cx}{B5:List (Ac×Obj)}{σ:St}{H:Hp}{s:Ae}{a:Ac}{y v d:V}{u r:Ab}{o:Option V}{A:Ap}{E:Ab->Ae->Prop}
theorem eF (hu:A.units+4 < AR) (I:Inv X B5 σ H s) (g:DGetX N X.prog X.w H a y (some v)) (ry:RelV y u) (h:∀ w' s',Inv X B5 σ H s'->RelV v w'->Q w' s'):wpAny (Aj X.prog X.w) A (Bp (.ref a) u) Q E s:=by
 obtain⟨B7,k,b,e,hK,ey,eb,l⟩:=g
 subst ey
 cases (show u=Value.ref b from ry)
 obtain⟨z,hd,xs,rel,dd⟩:=O8 I.hok e hK
 obtain⟨w',hw,rw'⟩:=RelO.some_of (v:=v) (o:=(BB xs k).map (·.2)) (by rw[l];exact rel.val k)
 obtain⟨p,hp,DA⟩:=Rx.mp hw
 refine wpAny_getItem_heap (N.room hu) (N.of I.hok eb) dd hp ?_
 rw[DA]
 exact h w' _ (I.tok _) rw'
theorem x_notIn (hu:A.units+4 < AR) (I:Inv X B5 σ H s) (g:DGetX N X.prog X.w H a y o) (ry:RelV y u) (h:∀ s',Inv X B5 σ H s'->Q (.bool (!o.isSome)) s'):wpAny (Aj X.prog X.w) A (An .NotIn u (.ref a)) Q E s:=by
 obtain⟨B7,k,b,e,hK,ey,eb,l⟩:=g
 subst ey
 cases (show u=Value.ref b from ry)
 obtain⟨z,hd,xs,rel,dd⟩:=O8 I.hok e hK
 refine wpAny_notIn_heap (N.room hu) (N.of I.hok eb) hd dd ?_
 have q:=(rel.val k).isSome_eq
 rw[ZU] at q
 rw[<- q,<- l]
 exact h _ (I.tok _)
theorem eG (hu:A.units+4 < AR) (I:Inv X B5 σ H s) (g:Tc N X.prog X.w H a y v H') (ry:RelV y u) (rv:RelV v r) (h:∀ s',Inv X B5 σ H' s'->Q () s'):wpAny (Aj X.prog X.w) A (setItem (.ref a) u r) Q E s:=by
 obtain⟨B7,k,b,e,hK,ey,eb,l,eH⟩:=g
 subst ey eH
 cases (show u=Value.ref b from ry)
 obtain⟨z,hd,xs,rel,dd⟩:=dx_of I.hok e hK
 have hz:xs.length<=Af:=by rw[<- UE rel];exact z
 have hl:(putX B7 k b v).length<=Af:=by have:=Xr B7 k b v;omega
 refine wpAny_setItem_heap (hsz:=hz) (N.room hu) (N.of I.hok eb) dd fun h' dd' hs=>h _ ?_
 obtain⟨q,es,ep,hq,h2,h3,h4,_,h5⟩:=dd'
 exact P6 I (by rw[e];exact True.intro) hs ⟨q,hq⟩ (Q1 hl hd (rel.put k b rv) hq h2 h3 h4 h5)
end
end
section
variable {K:Type} [DecidableEq K] (N:OwnKind K)
def IsDX (P:Ag)(w:Ak)(H:Hp)(a:Ac):Prop:=∃ B7,Rd H a (DX N P w a B7)/\KO N H B7
variable {N}
theorem isDX_at (I:Inv X B5 σ H s) (d:IsDX N X.prog X.w H a):
  s.TypeIs (.ref a) "dict"/\(∀ b,Value.ref a=.ref b->∃ ob,s.heap.get? b=some ob/\ob.dict=none)/\(a == Ar)=false:=by
 obtain⟨B7,e,hK⟩:=d
 obtain⟨_,hd,xs,_,dd⟩:=O8 I.hok e hK
 refine⟨dd.typeIs,fun b q=>?_,hd⟩
 cases q
 obtain⟨ob,_,_,h1,h2,_⟩:=dd
 exact⟨ob,h1,h2.2.1⟩
theorem DGetX.isDX (g:DGetX N P w H a y o):IsDX N P w H a:=by
 obtain⟨B7,k,b,e,hK,_⟩:=g
 exact⟨B7,e,hK⟩
variable (N)
def Td (P:Ag)(w:Ak):TE:=fun _ H Q=>∀ p,H p=none->Q (.ref p) (upd H p (DX N P w p []))
def Te (P:Ag)(w:Ak)(td ty:TE):TE:=fun σ H Q=>td σ H fun x H1=>ty σ H1 fun y H2=>∃ a v,x=.ref a/\DGetX N P w H2 a y (some v)/\Q v H2
def Tf (P:Ag)(w:Ak)(ty td:TE):TE:=fun σ H Q=>ty σ H fun y H1=>td σ H1 fun x H2=>∃ a o,x=.ref a/\DGetX N P w H2 a y o/\Q (.bl (!o.isSome)) H2
def Tg (P:Ag)(w:Ak)(td ty tv:TE):TS:=fun D σ H=>tv σ H fun v H1=>td σ H1 fun x H2=>ty σ H2 fun y H3=>∃ a H4,x=.ref a/\Tc N P w H3 a y v H4/\D.nx σ H4
variable {N}
section
variable {X:Cx}{o i e f value:Ay}{pos pos' tpos Cf cpos:Pos}{td ty tv tx:TE}
theorem pe_xnew:PE X (.Dict [] [] pos) (Td N X.prog X.w):=fun B5 s σ H Q I h =>
 wpAny_Dict_empty ⟨.ref s.heap.objs.size,_,I.laid (a:=s.heap.objs.size) (o:=DX N X.prog X.w s.heap.objs.size []) (t':=s.toks) (fun _ _ q=>L1 _ q) (LZ _)
  (Q1 (MR _) (beq_eq_false_iff_ne.mpr (N2 (MI I.big))) (xs:=[]) (show KX [] [] from .nil) (Ms _ rfl) ⟨rfl,rfl,rfl⟩ rfl rfl List.nodup_nil),rfl,h _ (I.hok.fresh (LZ _))⟩
theorem pe_xget (hu:X.A.units+4 < AR)(ho:PE X o td)(hi:PE X i ty)(hs:NoSl i):PE X (.Subscript o i pos) (Te N X.prog X.w td ty):=by
 intro B5 s σ H Q I h
 refine SZ aY.lookup hs (thn (ho B5 s σ H _ I h) fun u s1 ⟨x,H1,I1,rx,q1⟩=>thn (hi B5 s1 σ H1 _ I1 q1) fun iv s2 hI9=>?_)
 obtain⟨y,H2,I2,ry,a,v,ex,g,q2⟩:=hI9
 subst ex
 obtain rfl:u=Value.ref a:=rx
 exact⟨(isDX_at I2 g.isDX).1,eF hu I2 g ry fun w' s3 I3 rw'=>⟨v,H2,I3,rw',q2⟩⟩
theorem eI (hu:X.A.units+4 < AR)(hi:PE X i ty)(ho:PE X o td):PC X .NotIn i o (Tf N X.prog X.w ty td):=by
 intro B5 s σ H Q I h
 refine thn (hi B5 s σ H _ I h) fun iv s1 ⟨y,H1,I1,ry,q1⟩=>thn (ho B5 s1 σ H1 _ I1 q1) fun u s2 hI9=>?_
 obtain⟨x,H2,I2,rx,a,ov,ex,g,q2⟩:=hI9
 subst ex
 obtain rfl:u=Value.ref a:=rx
 exact x_notIn hu I2 g ry fun s3 I3=>⟨.bl (!ov.isSome),H2,I3,rfl,q2⟩
theorem ps_xput (hu:X.A.units+4 < AR)(ho:PE X o td)(hi:PE X i ty)(hv:PE X value tv)(hs:Bh value (some (.Subscript o i pos')) pos.line X.env=pure false) :
  PS X (.Assign [.Subscript o i pos'] value pos) (Tg N X.prog X.w td ty tv):=by
 intro B5 s σ H D I h
 refine BI (thn (hv B5 s σ H _ I h) fun r s1 ⟨v,H1,I1,rv,q1⟩=>thn (ho B5 s1 σ H1 _ I1 q1) fun u s2 ⟨x,H2,I2,rx,q2⟩=>thn (hi B5 s2 σ H2 _ I2 q2) fun iv s3 hI9=>?_) hs
 obtain⟨y,H3,I3,ry,a,H4,ex,g,q3⟩:=hI9
 subst ex
 obtain rfl:u=Value.ref a:=rx
 exact eG hu I3 g ry rv fun s4 I4=>⟨σ,H4,I4,q3⟩
end
end
noncomputable def oV:Option Key->V
 | none=>.non
 | some k=>kV k
theorem Xs {P:Ag}{w:Ak}:∀{ks:List (Option Key)}{its:List Ab},Vals (ks.map oV) its->ItemsAre (Xq P w) ks its
 | [],_,r=>by rw[MT] at r;cases r;exact .nil
 | k::ks,_,r=>by
  rw[L'] at r
  cases r with
  | cons h t =>
   refine .cons ?_ (Xs t)
   cases k with
   | none=>cases (show _=Value.none from h);rfl
   | some k=>exact P5 (P:=P) (w:=w) h
noncomputable def viewKind:OwnKind (List (Option Key)) where
 hk:=fun P w=>Bg (Xq P w)
 at_:=fun H k a=>H a=some (.tup (k.map oV))
 of:=fun{P w H h k a} ok e=>by
  obtain⟨_,its,r,⟨o,h1,h2,n,h3⟩,_⟩:=(show ObjOk P w H h a (.tup (k.map oV)) from ok a _ e)
  exact⟨o,its.toArray,n,h1,h2,h3,by simpa using Xs r⟩
 room:=fun{P w A} hu=>AG (by omega)
 room0:=fun{P w A} hu=>by show A.units < AR;omega
section
variable {X:Cx}
theorem KV.key :∀{B7:List (κ×V)}{vs:List (κ×Ab)},KV B7 vs->vs.map (·.1)=B7.map (·.1):=by
 intro B7 vs r
 unfold KV at r
 induction r with
 | nil=>rfl
 | cons r t ih=>rw[L',L',ih,r.1]
end
section
variable {X:Cx}{tg:Ay}
end
section
variable {X:Cx}
end
def RawD (h:Ao)(a:Ac)(ks:List Ab)(ep:Nat):Prop:=∃ o es,h.get? a=some o/\o.ExactDict/\o.data=.dict es ep/\es.toList.map (·.key)=ks
theorem RawD.at (x:RawD h a ks ep) (e:∀ o,h.get? a=some o->h'.get? a=some o):RawD h' a ks ep:=let ⟨o,es,ho,r⟩:=x;⟨o,es,e _ ho,r⟩
theorem RawD.typeIs {s:Ae}{a:Ac}{ks:List Ab}{ep:Nat}(x:RawD s.heap a ks ep):s.TypeIs (.ref a) "dict":=let ⟨o,_,ho,hc,_⟩:=x;⟨o,ho,hc.1⟩
section
variable {prog:Ag}{w:Ak}{A:Ap}{E:Ab->Ae->Prop}{s:Ae}{it d:Ac}{ks:List Ab}{i ep:Nat}
theorem rawIter (hd:(d == Ar)=false) (hm:RawD s.heap d ks ep) (hQ:Q (.ref s.heap.objs.size) { s with heap:=s.heap.push { cls:=.type "dict_keyiterator",data:=.fields #[.ref d,.int 0 0,.int ks.length 0,.int ep 0] } }):wpAny (Aj prog w) A (pyIter (.ref d)) Q E s:=by
 have hT:=hm.typeIs
 obtain⟨o,es,ho,hc,Eo,hp⟩:=hm
 have hsz:es.size=ks.length:=by rw[<- hp];simp
 refine BC hT F.slot_dict_iter (Aq F.slot_dict_iter hT F.entry_dict_iter ?_ (F.args_dict_iter_1 _))
 unfold Builtin.«dict.__iter__» Builtin.Dict.dictSlotNone
 refine Aa (Aa (wpAny_notOrdered_dict hT (Ad ?_)))
 show wpAny _ _ (jd d >>= _) _ _ s
 unfold jd
 rw[B3 (by rw[hd];exact Mj)]
 refine Aa (Ad (Aa (AM ho Eo (Aa (A2 ho Eo ?_)))))
 refine Aa (At (Ad ⟨_,rfl,"dict_keyiterator",_,⟨_,Ms _ rfl,rfl⟩,U7.lookup,?_⟩))
 simpa [AH,hsz] using hQ
theorem rawNext (CM:s.heap.IsKeyIter it d i ks.length ep) (hm:RawD s.heap d ks ep) (hi:i < ks.length) (hQ:∀ h',h'.IsKeyIter it d (i+1) ks.length ep->OF it s.heap h'->Q (some ks[i]) { s with heap:=h' }):wpAny (Aj prog w) A (A_ (.ref it)) Q E s:=by
 obtain⟨o,ho,hc,hd⟩:=id CM
 obtain⟨od,es,Ep,Ej,EV,hp⟩:=hm
 have hsz:es.size=ks.length:=by rw[<- hp];simp
 have Cm:i < es.size:=by rw[hsz];exact hi
 have F7:es[i].key=ks[i]:=by
  have h1:(es.toList.map (·.key))[i]?=ks[i]?:=by rw[hp]
  rw[Ma,LS (by simpa using Cm),LS hi] at h1
  simpa using h1
 unfold A_
 refine Aa (AY (Am (name:=Mm "__next__") CM.typeIs U7
  (Aq U7 CM.typeIs iN ?_ (iM _))))
 refine Aa (Ad (Aa (Aa ?_)))
 first | refine Aa (AK CM.typeIs (Ad ?_)) | refine Aa (AZ CM.typeIs (Ad ?_))
 refine Aa (Bu ho hd ?_)
 simp only[show U9 "dict_keyiterator"=false by decide,Um,if_false]
 show wpAny _ _ (if (Value.ref d == Value.none)=true then _ else _) _ _ s
 rw[B3 (show ¬ ((Value.ref d == Value.none)=true) from Mj)]
 refine Aa (Ad (Aa (AM Ep EV ?_)))
 rw[B3 (by rw[hsz];simp)]
 refine Aa (Ad (Aa (A2 Ep EV ?_)))
 rw[B3 (by simp)]
 refine Ad ?_
 simp only[show ¬ ((i:Int) < 0) from by omega,if_false,OK,i6 Cm]
 refine Aa ?_
 first | refine Aa (AK CM.typeIs (Ad ?_)) | refine Aa (AZ CM.typeIs (Ad ?_))
 refine Aa (BL CM.typeIs ?_)
 show wpAny _ _ (setField (.ref it) 1 (AH ((i:Int)+1)) >>= _) _ _ s
 refine Aa (A3 ho hd (by simp) ?_)
 have hit':(s.heap.update it (Vb (·.setIfInBounds 1 (AH ((i:Int)+1))))).IsKeyIter it d (i+1) ks.length ep :=
  ⟨_,ZE _ ho (bg (UD hd _)),(bh ..).trans hc,by rw[UD hd];simp[AH]⟩
 refine Aa (AC ?_)
 refine Aa (BL (s:={ s with heap:=s.heap.update it (Vb (·.setIfInBounds 1 (AH ((i:Int)+1)))) }) hit'.typeIs ?_)
 show wpAny _ _ (pure es[i].key) _ _ _
 rw[F7]
 exact Ad (Ad ⟨_,rfl,Ad (hQ _ hit' (UC ..))⟩)
theorem rawEnd (hh:A.handled=none) (CM:s.heap.IsKeyIter it d i ks.length ep) (hm:RawD s.heap d ks ep) (hi:ks.length<=i) (hQ:∀ h',ZF it s.heap h'->Q none { s with heap:=h' }):wpAny (Aj prog w) A (A_ (.ref it)) Q E s:=by
 obtain⟨o,ho,hc,hd⟩:=id CM
 obtain⟨od,es,Ep,Ej,EV,hp⟩:=hm
 have hsz:es.size=ks.length:=by rw[<- hp];simp
 unfold A_
 refine Aa (AY (Am (name:=Mm "__next__") CM.typeIs U7
  (Aq U7 CM.typeIs iN ?_ (iM _))))
 refine Aa (Ad (Aa (Aa ?_)))
 first | refine Aa (AK CM.typeIs (Ad ?_)) | refine Aa (AZ CM.typeIs (Ad ?_))
 refine Aa (Bu ho hd ?_)
 simp only[show U9 "dict_keyiterator"=false by decide,Um,if_false]
 show wpAny _ _ (if (Value.ref d == Value.none)=true then _ else _) _ _ s
 rw[B3 (show ¬ ((Value.ref d == Value.none)=true) from Mj)]
 refine Aa (Ad (Aa (AM Ep EV ?_)))
 rw[B3 (by rw[hsz];simp)]
 refine Aa (Ad (Aa (A2 Ep EV ?_)))
 rw[B3 (by simp)]
 refine Ad ?_
 have II:es.size<=i:=by rw[hsz];exact hi
 simp only[show ¬ ((i:Int) < 0) from by omega,if_false,OK,i7 II]
 refine Aa ?_
 first | refine Aa (AK CM.typeIs (Ad ?_)) | refine Aa (AZ CM.typeIs (Ad ?_))
 show wpAny _ _ (setField (.ref it) 0 .none >>= _) _ _ s
 refine Aa (A3 ho hd (by simp) ?_)
 show wpAny _ _ (newExc (.type "StopIteration") [] >>= _) _ _ _
 refine Aa ?_
 simp only[newExc,newTuple]
 refine Aa (At ?_ (by size_fits))
 refine Aa (m:=A4 _ _) (BO (a:=Value.none) (by first | rfl | (simp only[A4];rfl)) ?_)
 refine At ?_ (by size_fits)
 simp only[raiseNew]
 refine Aa (BY ?_)
 rw[show A.in1.handled=none from hh]
 refine Aa (Ad (wpAny_throw ?_))
 refine Aa (Bj (T:="StopIteration") (b:=true) ⟨_,Ms _ rfl,rfl⟩ Bt ?_)
 exact Ad (hQ _ (((UC ..).extBut.push _).push _))
theorem eJ (hh:A.handled=none)(I d:Ac)(C5:d≠I)(ks:List Ab)(ep:Nat) :
  Walks prog w A I [I,d] [I] ks.length (fun i v=>ks[i]?=some v) (fun i h=>h.IsKeyIter I d i ks.length ep/\RawD h d ks ep) where
 sub:=fun b hb=>by simp at hb;simp[hb]
 frame:=fun _ _ _ st hk=>⟨st.1.at fun o e=>hk I (by simp) o e,st.2.at fun o e=>hk d (by simp) o e⟩
 item:=fun i s Q E hi st hQ=>by
  refine rawNext st.1 st.2 hi fun h' hit' hs'=>?_
  exact hQ _ h' s.toks (LS hi) ⟨hit',st.2.at fun o e=>hs'.extBut d o C5 e⟩ fun b o hb e=>hs'.extBut b o (fun h=>hb (by simp[h])) e
 done:=fun s Q E st hQ=>rawEnd hh st.1 st.2 (LZ _) fun h' he'=>hQ h' s.toks fun b o hb e=>he' b o (fun h=>hb (by simp[h])) e
 self:=fun _ _ _ _ st hQ=>wpAny_pyIter_keyiter st.1 hQ
theorem RawD.lt (x:RawD h d ks ep):d < h.objs.size:=let ⟨_,_,ho,_⟩:=x;Mh ho
theorem kdlRaw (lo:(d == Ar)=false):PySem.W.KdlSrc prog w "dict" d d ks.length (fun i v=>ks[i]?=some v) (fun h=>RawD h d ks ep) where
 type:=fun _ hm=>hm.typeIs
 there:=fun _ hm=>⟨hm.lt,hm.lt⟩
 keep:=fun _ _ hm hk=>hm.at fun o e=>hk d (.inl rfl) o e
 notList:=by decide
 notTuple:=by decide
 hint:=fun _ _ _ _ hm hq=>PySem.W.kdl_hint_dict hm.typeIs hq
 iter:=fun _ _ hh hm=>⟨_,_,(fun _ _ hq=>rawIter lo hm hq),eJ hh _ d (MI hm.lt) ks ep,⟨⟨_,Ms _ rfl,rfl,rfl⟩,hm.at fun o e=>L1 _ e⟩⟩
end
section
variable {K:Type} [DecidableEq K] {N:OwnKind K}
theorem KX.keys {B7:List (K×Ac×V)}{xs:List (K×Ac×Ab)}(r:KX B7 xs):xs.map (fun x=>Value.ref x.2.1)=B7.map fun e=>Value.ref e.2.1:=by
 unfold KX at r
 induction r with
 | nil=>rfl
 | cons h t ih=>rw[L',L',ih,h.2.1]
theorem dx_raw (ok:HOk P w H h) (e:Rd H a (DX N P w a B7)) (hK:KO N H B7):B7.length<=Af/\(a == Ar)=false/\∃ ep,RawD h a (B7.map fun e=>Value.ref e.2.1) ep:=by
 obtain⟨z,hd,xs,rel,o,es,ep,h1,h2,h3,h4,_,_⟩:=O8 ok e hK
 refine⟨z,hd,ep,o,es,h1,h2,h3,?_⟩
 rw[h4,MQ,<- rel.keys]
 rfl
theorem Xt:∀(B7:List (K×Ac×V)),Vals (B7.map fun e=>V.ref e.2.1) (B7.map fun e=>Value.ref e.2.1)
 | []=>.nil
 | e::B7=>.cons rfl (Xt B7)
def Th (N:OwnKind K)(P:Ag)(w:Ak):List V->Hp->VK->Prop:=fun xs H Q=>match xs with
 | [.ref a]=>∃ B7,Rd H a (DX N P w a B7)/\KO N H B7/\∀ l,H l=none->Q (.ref l) (upd H l (.lst (B7.map fun e=>V.ref e.2.1)))
 | _=>False
theorem c_listX (hc:X.calm=true):CallR X (.type "list") (Th N X.prog X.w):=by
 intro B5 s σ H xs us Q I r h
 unfold Th at h
 split at h
 ·rename_i a
  obtain⟨u,rfl,ru⟩:=Np r
  cases ru
  obtain⟨B7,e,hK,q⟩:=h
  obtain⟨z,hd,ep,hr⟩:=dx_raw I.hok e hK
  refine PySem.W.kdl_call (kdlRaw hd) (I.ok.hd hc) hr (by rw[LP];exact z) fun h' tk B6 c kk hS DQ=>?_
  have hl:B6.toList=B7.map fun e=>Value.ref e.2.1:=by
   apply aw
   intro j
   rw[U']
   cases hj:B6[j]? with
   | some v=>exact(DQ.2 j v hj).symm
   | none =>
    have:B6.size<=j:=by simpa using hj
    rw[DQ.1] at this
    exact(Zo this).symm
  have hv:=Xt B7
  rw[<- hl] at hv
  refine⟨.ref s.heap.objs.size,_,I.laid (a:=s.heap.objs.size) (o:=.lst (B7.map fun e=>V.ref e.2.1)) (t':=tk) kk (LZ _) ⟨by rw[LP];exact z,B6.toList,c,hv,by rw[ZV];exact hS⟩,rfl,q _ (I.hok.fresh (LZ _))⟩
 ·exact h.elim
end
section
variable {X:Cx}{B5:List (Ac×Obj)}{σ:St}{H:Hp}{s:Ae}{a:Ac}{u r:Ab}{A:Ap}{E:Ab->Ae->Prop}
end
section
variable {X:Cx}{o e f:Ay}{Cf cpos:Pos}{td ty tx:TE}
end
section
variable {X:Cx}
theorem vals_of (hP:∀ i v,P i v->RelV (g i) v) (h:ItemsOf P B6 n):Vals ((L5 n).map g) B6.toList:=by
 obtain⟨h1,h2⟩:=h
 have gen:∀(l:List Ab) (k:Nat),(∀ j v,l[j]?=some v->RelV (g (k+j)) v)->Vals ((Nh k l.length).map g) l:=by
  intro l
  induction l with
  | nil=>intro k _;exact .nil
  | cons x l ih =>
   intro k hk
   rw[Mr,RT,L']
   exact .cons (by have:=hk 0 x rfl;simpa using this) (ih (k+1) fun j v hv=>by have:=hk (j+1) v (by simpa using hv);rw[show k+1+j=k+(j+1) by omega];exact this)
 have:=gen B6.toList 0 fun j v hv=>hP _ _ (h2 _ _ (by rw[aX,<- U'];exact hv))
 rw[ZW,h1,<- Zp] at this
 exact this
end
section
variable {prog:Ag}{w:Ak}{A:Ap}{E:Ab->Ae->Prop}{s:Ae}
end
section
variable {X:Cx}{tg:Ay}
end
section
variable {X:Cx}
end
section
variable {K:Type} [DecidableEq K] {N:OwnKind K}{X:Cx}
theorem Ti (hr:Room k A):A.units+4 < AR:=Qv (Nat.add_le_add_left (by decide:4<=64) _) hr.units
def Xu (N:OwnKind K)(P:Ag)(w:Ak)(tk tv:TE):TE:=fun σ H Q=>∀ p,H p=none->tk σ (upd H p (DX N P w p [])) fun x H1=>tv σ H1 fun y H2=>H2 p=some (DX N P w p [])/\∃(b:Ac) (k:K),x=.ref b/\N.at_ H2 k b/\Q (.ref p) (upd H2 p (DX N P w p [(k,b,y)]))
theorem eL (hu:X.A.units+4 < AR) (hk:PE X k tk) (hv:PE X v tv):PE X (.Dict [some k] [v] pos) (Xu N X.prog X.w tk tv):=by
 intro B5 s σ H Q I q
 have hn:=I.hok.fresh (LZ s.heap.objs.size)
 have I1:=I.laid (a:=s.heap.objs.size) (o:=DX N X.prog X.w s.heap.objs.size []) (h':=s.heap.push { cls:=.type "dict",data:=.dict #[] }) (t':=s.toks) (fun _ _ q=>L1 _ q) (LZ _)
  (Q1 (MR _) (beq_eq_false_iff_ne.mpr (N2 (MI I.big))) (xs:=[]) (show KX [] [] from .nil) (Ms _ rfl) ⟨rfl,rfl,rfl⟩ rfl rfl List.nodup_nil)
 refine wpAny_Dict_any rfl rfl (by simp) (by show 1<=15;decide) (BW (thn (hk B5 _ σ _ _ I1 (q _ hn)) fun u s1 ⟨x,H1,I1',rx,q1⟩=>thn (hv B5 s1 σ H1 _ I1' q1) fun w2 s2 ⟨y,H2,I2,ry,e,b,ks,ex,eb,q2⟩=>pairTrees_nil_walk ?_))
 subst ex
 cases (show u=Value.ref b from rx)
 unfold storeAll
 rw[Qe]
 obtain⟨z,hd,xs,rel,dd⟩:=dx_of I2.hok e (fun e he=>nomatch he)
 have hz:xs.length<=Af:=by rw[<- UE rel];exact z
 refine Aa (Aa (wpAny_dictSet_heap (hsz:=hz) (knd:=N.hk X.prog X.w) (N.room0 hu) (N.of I2.hok eb) dd fun h' dd' hs=>Ad ?_))
 show wpAny _ _ (forIn [] _ _) _ _ _
 rw[RW]
 refine Ad ⟨.ref s.heap.objs.size,_,?_,rfl,q2⟩
 obtain⟨q,es,ep,hq,h2,h3,h4,_,h5⟩:=dd'
 have hl:(putX [] ks b y).length<=Af:=by rw[Bz];have:=Xr ([]:List (K×Ac×V)) ks b y;simp at this;omega
 exact P6 I2 (by rw[e];exact True.intro) hs ⟨q,hq⟩ (Q1 hl hd (rel.put ks b ry) hq h2 h3 h4 h5)
end
section
variable {K:Type} [DecidableEq K] {N:OwnKind K}{X:Cx}{P:Ag}{w:Ak}{o i e f value l tg:Ay}{pos pos' Cf cpos:Pos}{td ty tv tx tl tk:TE}
theorem px_new (hP:X.prog=P)(hw:X.w=w):PE X (.Dict [] [] pos) (Td N P w):=by subst hP hw;exact pe_xnew
theorem px_disp (hP:X.prog=P) (hw:X.w=w) (hu:X.A.units+4 < AR) (hk:PE X k tk) (hv:PE X v tv):PE X (.Dict [some k] [v] pos) (Xu N P w tk tv):=by subst hP hw;exact eL hu hk hv
theorem px_get (hP:X.prog=P)(hw:X.w=w)(hu:X.A.units+4 < AR)(ho:PE X o td)(hi:PE X i ty)(hs:NoSl i):PE X (.Subscript o i pos) (Te N P w td ty):=by subst hP hw;exact pe_xget hu ho hi hs
theorem Tj (hP:X.prog=P)(hw:X.w=w)(hu:X.A.units+4 < AR)(hi:PE X i ty)(ho:PE X o td):PC X .NotIn i o (Tf N P w ty td):=by subst hP hw;exact eI hu hi ho
theorem Xv (hP:X.prog=P)(hw:X.w=w)(hu:X.A.units+4 < AR)(ho:PE X o td)(hi:PE X i ty)(hv:PE X value tv)(hs:Bh value (some (.Subscript o i pos')) pos.line X.env=pure false):PS X (.Assign [.Subscript o i pos'] value pos) (Tg N P w td ty tv):=by subst hP hw;exact ps_xput hu ho hi hv hs
theorem Xw (hP:X.prog=P)(hw:X.w=w)(hc:X.calm=true):CallR X (.type "list") (Th N P w):=by subst hP hw;exact c_listX hc
end
section
variable {K:Type} [DecidableEq K] {N:OwnKind K}{P:Ag}{w:Ak}{td ty tv tx:TE}{σ:St}{H:Hp}{Q:VK}
theorem i_xnew (h:∀ p,H p=none->Q (.ref p) (upd H p (DX N P w p []))):Td N P w σ H Q:=h
theorem i_xget (h:td σ H fun x H1=>ty σ H1 fun y H2=>∃ a v,x=.ref a/\DGetX N P w H2 a y (some v)/\Q v H2):Te N P w td ty σ H Q:=h
theorem Xx (h:tv σ H fun v H1=>td σ H1 fun x H2=>ty σ H2 fun y H3=>∃ a H4,x=.ref a/\Tc N P w H3 a y v H4/\D.nx σ H4):Tg N P w td ty tv D σ H:=h
end
section
variable {K:Type} [DecidableEq K] {N:OwnKind K}
theorem eM {B7:List (K×Ac×V)}{k:K}:valX B7 k=none↔k∉B7.map (·.1):=by
 unfold valX
 rw[Option.map_eq_none_iff,UW]
 constructor
 ·intro h q
  obtain⟨e,he,rfl⟩:=MC.mp q
  exact h e he (by simp)
 ·intro h e he q
  exact h (MC.mpr ⟨e,he,of_decide_eq_true q⟩)
end
theorem m_pop1 :MtR X "list.pop" Sf:=fun B5 s σ H x xs v us Q I rx rs h=>cn B5 s σ H x xs v us Q I rx rs h
theorem i_pop0 (h1:H l=some (.lst (y::xs))) (h:Q y (upd H l (.lst xs))):Sf (.ref l) [.int 0] H Q :=
 ⟨l,_,0,0,y,rfl,rfl,h1,by decide,by decide,by unfold seqIndex?;simp,rfl,h⟩
noncomputable def VW (v d:Ac):HO:=.ext fun h=>h.IsItemsView v d
theorem vw_ok (x:h.IsItemsView v d):ObjOk P w H h v (VW v d) :=
 ⟨x,(let ⟨o,ho,_⟩:=x;⟨o,ho⟩),fun _ _ ⟨o,a,b⟩ k=>⟨o,k _ a,b⟩⟩
def Tl:V->List V->Hp->VK->Prop:=fun x vs H Q=>match x,vs with
 | .ref d,[]=>∃ B7,H d=some (.dK B7)/\∀ v,H v=none->Q (.ref v) (upd H v (VW v d))
 | _,_=>False
section
variable {X:Cx}
theorem m_items:MtR X "dict.items" Tl:=fun B5 s σ H x vs v us Q I rx rs h=>by
 unfold Tl at h
 split at h
 ·rename_i d
  obtain⟨B7,e,q⟩:=h
  cases rx
  cases rs
  obtain⟨z,hd,vs,rel,dd⟩:=QS I.hok e
  refine Bd iW dd.typeIs PySem.F.entry_dict_items (PySem.F.args_dict_items_1 _) (meets_dict_items (MB X.prog X.w) d hd) ⟨⟨vs,dd⟩,?_⟩
  have I2:Inv X B5 σ (upd H s.heap.objs.size (VW s.heap.objs.size d)) { s with heap:=s.heap.push { cls:=.type "dict_items",data:=.fields #[.ref d] } } :=
   I.laid (a:=s.heap.objs.size) (o:=VW s.heap.objs.size d) (t':=s.toks) (fun b u q=>L1 _ q) (LZ _) (vw_ok ⟨_,Ms _ rfl,rfl,rfl⟩)
  exact⟨.ref s.heap.objs.size,_,I2,rfl,q _ (I.hok.fresh (LZ _))⟩
 ·exact h.elim
theorem Inv.pairs {B5:List (Ac×Obj)}{σ:St}{H2:Hp}{s2:Ae}{h3:Ao}{tk c:Nat}{qa:Ac}{Ts:List Ac}{xs ys:List V}{B6:Array Ab}(I2:Inv X B5 σ H2 s2)(kk:∀ b o,s2.heap.get? b=some o->h3.get? b=some o)(hq:s2.heap.objs.size<=qa)
  (IJ:h3.get? qa=some { cls:=.type "list",dict:=none,data:=.seq B6 c,slots:=#[] }) (IK:B6.toList=Ts.map Value.ref) (hT:Ts.length=xs.length) (Ff:xs.length<=Af)
  (G8:∀(j:Nat) T,Ts[j]?=some T->∃ u v x y,xs[j]?=some u/\ys[j]?=some v/\RelV u x/\RelV v y/\Aw h3 T x y/\qa < T) :
  ∃ H3:Hp,Inv X B5 σ H3 { s2 with heap:=h3,toks:=tk }/\H2 qa=none/\H3 qa=some (.lst (Ts.map V.ref))/\(∀(j:Nat) T,Ts[j]?=some T->∃ u v,xs[j]?=some u/\ys[j]?=some v/\H3 T=some (.tup [u,v]))/\Same H2 H3:=by
 have JR:H2 qa=none:=I2.hok.fresh hq
 have JS:∀ T∈Ts,H2 T=none/\T≠qa:=fun T hm=>by
  obtain⟨j,hj⟩:=iy.mp hm
  obtain⟨_,_,_,_,_,_,_,_,_,g⟩:=G8 j T hj
  exact⟨I2.hok.fresh (OI (Qv hq g)),(MI g).symm⟩
 obtain⟨H3,hH⟩:∃ H3:Hp,H3=fun b=>if b=qa then some (.lst (Ts.map V.ref)) else match (L5 Ts.length).find? (fun j=>decide (Ts[j]?=some b)) with
   | some j=>some (.tup [xs.getD j .non,ys.getD j .non])
   | none=>H2 b:=⟨_,rfl⟩
 have JT:H3 qa=some (.lst (Ts.map V.ref)):=by rw[hH];simp
 have IL:∀ b,b≠qa->b∉Ts->H3 b=H2 b:=fun b hb hm=>by
  rw[hH]
  simp only[B3 hb]
  have:(L5 Ts.length).find? (fun j=>decide (Ts[j]?=some b))=none:=by
   rw[UW]
   intro j _ hc
   exact hm (Pa (of_decide_eq_true hc))
  rw[this]
 have JU:∀ T∈Ts,∃ j,Ts[j]?=some T/\H3 T=some (.tup [xs.getD j .non,ys.getD j .non]):=fun T hm=>by
  have C5:=(JS T hm).2
  cases hf:(L5 Ts.length).find? (fun j=>decide (Ts[j]?=some T)) with
  | none =>
   obtain⟨j,hj,KP⟩:=Ug.mp hm
   have:=UW.mp hf j (OE.mpr hj)
   exact absurd (B2 (by rw[LS hj,KP])) this
  | some j =>
   have hd:=List.find?_some hf
   refine⟨j,of_decide_eq_true hd,?_⟩
   rw[hH]
   simp only[B3 C5,hf]
 have same:Same H2 H3:=fun b o e=>by
  rw[IL b (fun z=>by rw[z,JR] at e;cases e) (fun m=>by rw[(JS b m).1] at e;cases e)]
  exact e
 have I3:Inv X B5 σ H3 { s2 with heap:=h3,toks:=tk }:=by
  refine I2.laidAll kk same (fun b hb hn=>?_) fun b o e hn=>?_
  ·rw[IL b (fun z=>by rw[z] at hb;exact absurd hb (Nat.not_lt_of_le hq)) (fun m=>?_)]
   ·exact hn
   ·obtain⟨j,hj⟩:=iy.mp m
    obtain⟨_,_,_,_,_,_,_,_,_,g⟩:=G8 j b hj
    exact absurd hb (Nat.not_lt_of_le (OI (Qv hq g)))
  ·by_cases hb:b=qa
   ·subst hb
    rw[JT] at e
    cases e
    refine⟨by rw[LP,hT];exact Ff,B6.toList,c,?_,by rw[ZV];exact IJ⟩
    rw[IK]
    have:∀ l:List Ac,Vals (l.map V.ref) (l.map Value.ref):=fun l=>by
     induction l with
     | nil=>exact .nil
     | cons t l ih=>exact .cons rfl ih
    exact this Ts
   ·by_cases hm:b∈Ts
    ·obtain⟨j,hj,e'⟩:=JU b hm
     rw[e'] at e
     cases e
     obtain⟨u,v,x,y,g1,g2,r1,r2,g3,_⟩:=G8 j b hj
     have d1:xs.getD j .non=u:=by rw[L4,g1];rfl
     have d2:ys.getD j .non=v:=by rw[L4,g2];rfl
     rw[d1,d2]
     exact⟨by show 2<=Af;decide,[x,y],.cons r1 (.cons r2 .nil),⟨_,g3,rfl,_,rfl⟩,fun o e=>by rw[g3] at e;cases e;rfl⟩
    ·rw[IL b hb hm,hn] at e
     cases e
 refine⟨H3,I3,JR,JT,fun j T e=>?_,same⟩
 obtain⟨j',hj',e'⟩:=JU T (Pa e)
 obtain⟨u,v,x,y,g1,g2,r1,r2,g3,_⟩:=G8 j T e
 obtain⟨u',v',x',y',g1',g2',r1',r2',g3',_⟩:=G8 j' T hj'
 have IG:x=x'/\y=y':=by
  have e3:some _=some _:=g3.symm.trans g3'
  have e4:=congrArg (fun o:Option Obj=>o.map fun o=>o.data) e3
  simp only[UB,bm,Data.seq.injEq] at e4
  have e5:=congrArg Va e4.1
  simp only[Z2,and_true] at e5
  exact e5
 obtain⟨rfl,rfl⟩:=IG
 have hu:=Xb r1 r1'
 have hv:=Xb r2 r2'
 subst hu hv
 refine⟨u,v,g1,g2,?_⟩
 rw[e',L4,g1',L4,g2']
 rfl
theorem KV.valD :∀{B7:List (κ×V)}{vs:List (κ×Ab)},KV B7 vs->∀{j:Nat}{p:κ×Ab},vs[j]?=some p->∃ q,B7[j]?=some q/\q.1=p.1/\RelV q.2 p.2:=by
 intro B7 vs r
 unfold KV at r
 induction r with
 | nil=>intro j p h;cases h
 | cons r t ih =>
  intro j p h
  cases j with
  | zero=>cases h;exact⟨_,rfl,r.1,r.2⟩
  | succ j=>exact ih (j:=j) h
def Tn:List V->Hp->VK->Prop:=fun xs H Q=>match xs with
 | [.ref v]=>∃(d:Ac) (B7:List (Key×V)),H v=some (VW v d)/\H d=some (.dK B7)/\∀(q:Ac) (Ts:List Ac) (H3:Hp),H q=none->H3 q=some (.lst (Ts.map V.ref))->Ts.length=B7.length->(∀(j:Nat) T,Ts[j]?=some T->∃ kv,B7[j]?=some kv/\H3 T=some (.tup [kV kv.1,kv.2]))->Same H H3->Q (.ref q) H3
 | _=>False
theorem c_listI (hc:X.calm=true):CallR X (.type "list") Tn:=by
 intro B5 s σ H xs us Q I r h
 unfold Tn at h
 split at h
 ·rename_i v
  obtain⟨u,rfl,ru⟩:=Np r
  cases ru
  obtain⟨d,B7,hv,e,q⟩:=h
  have vw:s.heap.IsItemsView v d:=(I.hok v _ hv).1
  obtain⟨z,hd,vs,rel,dd⟩:=QS I.hok e
  obtain⟨ep,Fn⟩:=dd.dictAt
  have hk:=KV.key rel
  have hl:vs.length=B7.length:=by rw[<- LP (f:=(·.1)),hk,LP]
  refine PySem.W.kdx_call (knd:=MB X.prog X.w) (I.ok.hd hc) vw Fn (by rw[hl];exact z) fun h3 tk B6 c as kk hS Fo hG DQ=>?_
  obtain⟨H3,I3,a1,a2,a3,a4⟩:=I.pairs (tk:=tk) (Ts:=as) (xs:=B7.map fun kv=>kV kv.1) (ys:=B7.map fun kv=>kv.2) kk (LZ _) hS DQ (by rw[LP,Fo,hl]) (by rw[LP];exact z) fun j T hT=>by
   obtain⟨key,k,x,e1,e2,e3⟩:=hG.pairs j T hT
   obtain⟨kv,b1,b2,b3⟩:=KV.valD rel e1
   refine⟨kV kv.1,kv.2,key,x,by rw[Ma,b1];rfl,by rw[Ma,b1];rfl,?_,b3,e3,hG.above T (Pa hT)⟩
   rw[b2]
   rcases Pe (show NI k key=true from e2) with ⟨i,t,rfl,rfl⟩ | ⟨y,t,rfl,rfl⟩
   ·exact⟨t,rfl⟩
   ·exact⟨t,rfl⟩
  refine⟨.ref s.heap.objs.size,H3,I3,rfl,q _ as H3 a1 a2 (by rw[Fo,hl]) (fun j T hT=>?_) a4⟩
  obtain⟨u,v',c1,c2,c3⟩:=a3 j T hT
  rw[Ma] at c1 c2
  cases JV:B7[j]? with
  | none=>rw[JV] at c1;cases c1
  | some kv =>
   rw[JV] at c1 c2
   cases c1;cases c2
   exact⟨kv,rfl,c3⟩
 ·exact h.elim
theorem i_items (h1:H d=some (.dK B7)) (h:∀ v,H v=none->Q (.ref v) (upd H v (VW v d))):Tl (.ref d) [] H Q:=⟨B7,h1,h⟩
theorem i_listI (h1:H v=some (VW v d)) (h2:H d=some (.dK B7)) (h:∀(q:Ac) (Ts:List Ac) (H3:Hp),H q=none->H3 q=some (.lst (Ts.map V.ref))->Ts.length=B7.length->(∀(j:Nat) T,Ts[j]?=some T->∃ kv,B7[j]?=some kv/\H3 T=some (.tup [kV kv.1,kv.2]))->Same H H3->Q (.ref q) H3):Tn [.ref v] H Q:=⟨d,B7,h1,h2,h⟩
end
def RawV (h:Ao)(a:Ac)(ks:List Ab)(ep:Nat):Prop:=∃ o es,h.get? a=some o/\o.ExactDict/\o.data=.dict es ep/\es.toList.map (·.val)=ks
theorem RawV.at (x:RawV h a ks ep) (e:∀ o,h.get? a=some o->h'.get? a=some o):RawV h' a ks ep:=let ⟨o,es,ho,r⟩:=x;⟨o,es,e _ ho,r⟩
theorem RawV.typeIs {s:Ae}{a:Ac}{ks:List Ab}{ep:Nat}(x:RawV s.heap a ks ep):s.TypeIs (.ref a) "dict":=let ⟨o,_,ho,hc,_⟩:=x;⟨o,ho,hc.1⟩
section
variable {prog:Ag}{w:Ak}{A:Ap}{E:Ab->Ae->Prop}{s:Ae}{it d:Ac}{ks:List Ab}{i ep:Nat}
theorem eN (hv:s.heap.IsValuesView v d) (hm:RawV s.heap d ks ep) (hQ:Q (.ref s.heap.objs.size) { s with heap:=s.heap.push { cls:=.type "dict_valueiterator",data:=.fields #[.ref d,.int 0 0,.int ks.length 0,.int ep 0] } }):wpAny (Aj prog w) A (pyIter (.ref v)) Q E s:=by
 have hT:=hv.typeIs
 obtain⟨ov,KQ,_,KR⟩:=hv
 obtain⟨o,es,ho,hc,Eo,hp⟩:=hm
 have hsz:es.size=ks.length:=by rw[<- hp];simp
 refine BC hT iX (Aq iX hT F.entry_dict_values_iter ?_ (F.args_dict_values_iter_1 _))
 unfold Builtin.«dict_values.__iter__»
 refine Aa (Ad (Aa ?_))
 unfold Builtin.Dict_items.dictOf
 refine Aa (Al KQ KR (x:=.ref d) rfl (Ad (Aa ?_)))
 unfold Builtin.Dict_items.newIterator
 refine Aa (AM ho Eo (Aa (A2 ho Eo ?_)))
 simp only[show U9 "dict_valueiterator"=false by decide,Um,if_false]
 refine At (Ad ⟨_,rfl,"dict_valueiterator",_,⟨_,Ms _ rfl,rfl⟩,U6.lookup,?_⟩)
 simpa [AH,hsz] using hQ
theorem eO (CM:s.heap.IsValIter it d i ks.length ep) (hm:RawV s.heap d ks ep) (hi:i < ks.length) (hQ:∀ h',h'.IsValIter it d (i+1) ks.length ep->OF it s.heap h'->Q (some ks[i]) { s with heap:=h' }):wpAny (Aj prog w) A (A_ (.ref it)) Q E s:=by
 obtain⟨o,ho,hc,hd⟩:=id CM
 obtain⟨od,es,Ep,Ej,EV,hp⟩:=hm
 have hsz:es.size=ks.length:=by rw[<- hp];simp
 have Cm:i < es.size:=by rw[hsz];exact hi
 have Dx:es[i].val=ks[i]:=by
  have h1:(es.toList.map (·.val))[i]?=ks[i]?:=by rw[hp]
  rw[Ma,LS (by simpa using Cm),LS hi] at h1
  simpa using h1
 unfold A_
 refine Aa (AY (Am (name:=Mm "__next__") CM.typeIs U6
  (Aq U6 CM.typeIs iL ?_ (iK _))))
 refine Aa (Ad (Aa (Aa ?_)))
 first | refine Aa (AL CM.typeIs (Ad ?_)) | refine Aa (A0 CM.typeIs (Ad ?_))
 refine Aa (Bu ho hd ?_)
 simp only[show U9 "dict_valueiterator"=false by decide,Um,if_false]
 show wpAny _ _ (if (Value.ref d == Value.none)=true then _ else _) _ _ s
 rw[B3 (show ¬ ((Value.ref d == Value.none)=true) from Mj)]
 refine Aa (Ad (Aa (AM Ep EV ?_)))
 rw[B3 (by rw[hsz];simp)]
 refine Aa (Ad (Aa (A2 Ep EV ?_)))
 rw[B3 (by simp)]
 refine Ad ?_
 simp only[show ¬ ((i:Int) < 0) from by omega,if_false,OK,i6 Cm]
 refine Aa ?_
 first | refine Aa (AL CM.typeIs (Ad ?_)) | refine Aa (A0 CM.typeIs (Ad ?_))
 refine Aa (Bf CM.typeIs ?_)
 show wpAny _ _ (setField (.ref it) 1 (AH ((i:Int)+1)) >>= _) _ _ s
 refine Aa (A3 ho hd (by simp) ?_)
 have hit':(s.heap.update it (Vb (·.setIfInBounds 1 (AH ((i:Int)+1))))).IsValIter it d (i+1) ks.length ep :=
  ⟨_,ZE _ ho (bg (UD hd _)),(bh ..).trans hc,by rw[UD hd];simp[AH]⟩
 refine Aa (AC ?_)
 refine Aa (Bf (s:={ s with heap:=s.heap.update it (Vb (·.setIfInBounds 1 (AH ((i:Int)+1)))) }) hit'.typeIs ?_)
 rw[B3 (by decide)]
 refine Aa (Bf (s:={ s with heap:=s.heap.update it (Vb (·.setIfInBounds 1 (AH ((i:Int)+1)))) }) hit'.typeIs ?_)
 show wpAny _ _ (pure es[i].val) _ _ _
 rw[Dx]
 exact Ad (Ad ⟨_,rfl,Ad (hQ _ hit' (UC ..))⟩)
theorem rawVEnd (hh:A.handled=none) (CM:s.heap.IsValIter it d i ks.length ep) (hm:RawV s.heap d ks ep) (hi:ks.length<=i) (hQ:∀ h',ZF it s.heap h'->Q none { s with heap:=h' }):wpAny (Aj prog w) A (A_ (.ref it)) Q E s:=by
 obtain⟨o,ho,hc,hd⟩:=id CM
 obtain⟨od,es,Ep,Ej,EV,hp⟩:=hm
 have hsz:es.size=ks.length:=by rw[<- hp];simp
 unfold A_
 refine Aa (AY (Am (name:=Mm "__next__") CM.typeIs U6
  (Aq U6 CM.typeIs iL ?_ (iK _))))
 refine Aa (Ad (Aa (Aa ?_)))
 first | refine Aa (AL CM.typeIs (Ad ?_)) | refine Aa (A0 CM.typeIs (Ad ?_))
 refine Aa (Bu ho hd ?_)
 simp only[show U9 "dict_valueiterator"=false by decide,Um,if_false]
 show wpAny _ _ (if (Value.ref d == Value.none)=true then _ else _) _ _ s
 rw[B3 (show ¬ ((Value.ref d == Value.none)=true) from Mj)]
 refine Aa (Ad (Aa (AM Ep EV ?_)))
 rw[B3 (by rw[hsz];simp)]
 refine Aa (Ad (Aa (A2 Ep EV ?_)))
 rw[B3 (by simp)]
 refine Ad ?_
 have II:es.size<=i:=by rw[hsz];exact hi
 simp only[show ¬ ((i:Int) < 0) from by omega,if_false,OK,i7 II]
 refine Aa ?_
 first | refine Aa (AL CM.typeIs (Ad ?_)) | refine Aa (A0 CM.typeIs (Ad ?_))
 show wpAny _ _ (setField (.ref it) 0 .none >>= _) _ _ s
 refine Aa (A3 ho hd (by simp) ?_)
 show wpAny _ _ (newExc (.type "StopIteration") [] >>= _) _ _ _
 refine Aa ?_
 simp only[newExc,newTuple]
 refine Aa (At ?_ (by size_fits))
 refine Aa (m:=A4 _ _) (BO (a:=Value.none) (by first | rfl | (simp only[A4];rfl)) ?_)
 refine At ?_ (by size_fits)
 simp only[raiseNew]
 refine Aa (BY ?_)
 rw[show A.in1.handled=none from hh]
 refine Aa (Ad (wpAny_throw ?_))
 refine Aa (Bj (T:="StopIteration") (b:=true) ⟨_,Ms _ rfl,rfl⟩ Bt ?_)
 exact Ad (hQ _ (((UC ..).extBut.push _).push _))
theorem eQ (hh:A.handled=none)(I d:Ac)(C5:d≠I)(ks:List Ab)(ep:Nat) :
  Walks prog w A I [I,d] [I] ks.length (fun i v=>ks[i]?=some v) (fun i h=>h.IsValIter I d i ks.length ep/\RawV h d ks ep) where
 sub:=fun b hb=>by simp at hb;simp[hb]
 frame:=fun _ _ _ st hk=>⟨st.1.at fun o e=>hk I (by simp) o e,st.2.at fun o e=>hk d (by simp) o e⟩
 item:=fun i s Q E hi st hQ=>by
  refine eO st.1 st.2 hi fun h' hit' hs'=>?_
  exact hQ _ h' s.toks (LS hi) ⟨hit',st.2.at fun o e=>hs'.extBut d o C5 e⟩ fun b o hb e=>hs'.extBut b o (fun h=>hb (by simp[h])) e
 done:=fun s Q E st hQ=>rawVEnd hh st.1 st.2 (LZ _) fun h' he'=>hQ h' s.toks fun b o hb e=>he' b o (fun h=>hb (by simp[h])) e
 self:=fun _ _ _ _ st hQ=>wpAny_pyIter_valiter st.1 hQ
theorem RawV.lt (x:RawV h d ks ep):d < h.objs.size:=let ⟨_,_,ho,_⟩:=x;Mh ho
theorem eR (v:Ac):PySem.W.KdlSrc prog w "dict_values" v d ks.length (fun i x=>ks[i]?=some x) (fun h=>h.IsValuesView v d/\RawV h d ks ep) where
 type:=fun _ hm=>hm.1.typeIs
 there:=fun _ hm=>⟨let ⟨_,ho,_⟩:=hm.1;Mh ho,hm.2.lt⟩
 keep:=fun _ _ hm hk=>⟨let ⟨o,ho,x⟩:=hm.1;⟨o,hk v (.inl rfl) o ho,x⟩,hm.2.at fun o e=>hk d (.inr rfl) o e⟩
 notList:=by decide
 notTuple:=by decide
 hint:=fun _ _ _ _ hm hq=>PySem.W.kdl_hint_values hm.1.typeIs hq
 iter:=fun _ _ hh hm=>⟨_,_,(fun _ _ hq=>eN hm.1 hm.2 hq),eQ hh _ d (MI hm.2.lt) ks ep,⟨⟨_,Ms _ rfl,rfl,rfl⟩,hm.2.at fun o e=>L1 _ e⟩⟩
end
section
variable {K:Type} [DecidableEq K] {N:OwnKind K}
noncomputable def VVw (v d:Ac):HO:=.ext fun h=>h.IsValuesView v d
theorem KX.vals {B7:List (K×Ac×V)}{xs:List (K×Ac×Ab)}(r:KX B7 xs):Vals (B7.map (·.2.2)) (xs.map (·.2.2)):=by
 induction r with
 | nil=>exact .nil
 | cons h _ ih=>exact .cons h.2.2 ih
theorem Xy (ok:HOk P w H h) (e:Rd H a (DX N P w a B7)) (hK:KO N H B7):B7.length<=Af/\(a == Ar)=false/\∃ vs ep,Vals (B7.map (·.2.2)) vs/\RawV h a vs ep:=by
 obtain⟨z,hd,xs,rel,o,es,ep,h1,h2,h3,h4,_,_⟩:=O8 ok e hK
 refine⟨z,hd,xs.map (·.2.2),ep,rel.vals,o,es,h1,h2,h3,?_⟩
 rw[h4,MQ]
 rfl
theorem eS (d:Ac) (hd:(d == Ar)=false):
  MeetsIn prog w (Builtin.«dict.__len__» ⟨[.ref d],[]⟩) (fun _ R s=>∃ ks ep,RawV s.heap d ks ep/\R (.ok (.ret (.int ks.length s.toks))) { s with toks:=s.toks+1 }) :=
 .of_wp fun A R s ⟨ks,ep,⟨o,es,ho,hc,Eo,hp⟩,h⟩=>by
  have hsz:es.size=ks.length:=by rw[<- hp];simp
  show wpAny _ _ (dictSize d >>= _) _ _ s
  unfold dictSize
  refine Aa (Aa (AM ho Eo (Ad (show wpAny _ _ (Builtin.Dict.pendingCount d >>= _) _ _ s from ?_))))
  refine Aa (wpAny_pendingCount_other hd (wpAny_ret_mkInt ?_))
  rw[Nat.add_zero,hsz];exact h
theorem eU (hd:(d == Ar)=false) (hm:RawV s.heap d ks ep) (DZ:(ks.length:Int) < 2 ^ 63) (h:Q (.int ks.length (s.toks+1)) { s with toks:=s.toks+1+1 }):wpAny (Aj prog w) A (call (.builtin "len") [.ref d]) Q E s:=by
 refine Calls.call_function_entry kind_len plain_len entry_len (args_len1 _) ?_
 unfold Builtin.«len»
 refine Aa (m:=oneArg "len" _) (Ad (Aa (m:=callSpecial? (.ref d) (Mm "__len__")) (Am (name:=Mm "__len__") hm.typeIs F.slot_dict_len
  (Bd F.slot_dict_len hm.typeIs F.entry_dict_len (F.args_dict_len_1 _) (eS d hd) ⟨ks,ep,hm,?_⟩))))
 show wpAny _ _ _ _ _ { s with toks:=s.toks+1 }
 refine Aa (AC (Ad (Aa (A9 (show wpAny _ _ (if ((ks.length:Nat):Int) < 0 then _ else _) _ _ _ from ?_)))))
 rw[B3 (by omega)]
 show wpAny _ _ (if ((ks.length:Nat):Int)≥2 ^ 63 then _ else _) _ _ _
 rw[B3 (by omega)]
 exact Aa (wpAny_mkInt (Ad ⟨_,rfl,h⟩))
def fListV (N:OwnKind K)(P:Ag)(w:Ak):List V->Hp->VK->Prop:=fun xs H Q=>∃ v d B7,xs=[.ref v]/\H v=some (VVw v d)/\H d=some (DX N P w d B7)/\KO N H B7/\∀ l,H l=none->Q (.ref l) (upd H l (.lst (B7.map (·.2.2))))
def fLenX (N:OwnKind K)(P:Ag)(w:Ak):List V->Hp->VK->Prop:=fun xs H Q=>∃ d B7,xs=[.ref d]/\H d=some (DX N P w d B7)/\KO N H B7/\Q (.int (B7.length:Int)) H
section
variable {X:Cx}
theorem c_listV (hc:X.calm=true):CallR X (.type "list") (fListV N X.prog X.w):=by
 intro B5 s σ H xs us Q I r h
 obtain⟨v,d,B7,rfl,ev,e,hK,q⟩:=h
 obtain⟨u,rfl,ru⟩:=Np r
 cases ru
 obtain⟨z,hd,ws,ep,rel,hr⟩:=Xy I.hok (.inl e) hK
 obtain⟨hv,_⟩:=(show ObjOk X.prog X.w H s.heap v (VVw v d) from I.hok v _ ev)
 have El:ws.length=B7.length:=by have:=rel.length;rw[LP] at this;omega
 refine PySem.W.kdl_call (eR (ks:=ws) (ep:=ep) v) (I.ok.hd hc) ⟨hv,hr⟩ (by rw[El];exact z) fun h' tk B6 c kk hS DQ=>?_
 have hl:B6.toList=ws:=by
  apply aw
  intro j
  rw[U']
  cases hj:B6[j]? with
  | some v=>exact(DQ.2 j v hj).symm
  | none =>
   have:B6.size<=j:=by simpa using hj
   rw[DQ.1] at this
   exact(Zo this).symm
 rw[<- hl] at rel
 refine⟨.ref s.heap.objs.size,_,I.laid (a:=s.heap.objs.size) (o:=.lst (B7.map (·.2.2))) (t':=tk) kk (LZ _) ⟨by rw[LP];exact z,B6.toList,c,rel,by rw[ZV];exact hS⟩,rfl,q _ (I.hok.fresh (LZ _))⟩
theorem c_lenX:CallR X (.builtin "len") (fLenX N X.prog X.w):=by
 intro B5 s σ H xs us Q I r h
 obtain⟨d,B7,rfl,e,hK,q⟩:=h
 obtain⟨u,rfl,ru⟩:=Np r
 cases ru
 obtain⟨z,hd,ws,ep,rel,hr⟩:=Xy I.hok (.inl e) hK
 have El:ws.length=B7.length:=by have:=rel.length;rw[LP] at this;omega
 have DT:Af < 2 ^ 62:=by decide
 refine eU hd hr (by
  have p63:((2:Int) ^ 63)=9223372036854775808:=by decide
  have p62:((2:Nat) ^ 62)=4611686018427387904:=by decide
  rw[p62] at DT;rw[p63];omega) ?_
 rw[El]
 exact⟨.int (B7.length:Int),H,I.tok _,⟨_,rfl⟩,q⟩
variable {P:Ag}{w:Ak}
theorem px_len (hP:X.prog=P)(hw:X.w=w):CallR X (.builtin "len") (fLenX N P w):=by subst hP hw;exact c_lenX
end
end
section
variable {X:Cx}
def Xz:V->List V->Hp->VK->Prop:=fun x vs H Q=>∃(l:Ac) (ns:List Int) (k:Int),x=.ref l/\vs=[.int k]/\H l=some (.lst (ns.map V.int))/\k∈ns/\Q .non (upd H l (.lst ((ns.erase k).map V.int)))
theorem eV {ns:List Int} {k:Int} (h1:H l=some (.lst (ns.map V.int))) (h2:k∈ns) (h:Q .non (upd H l (.lst ((ns.erase k).map V.int)))):Xz (.ref l) [.int k] H Q:=⟨l,ns,k,rfl,rfl,h1,h2,h⟩
theorem XA {k:Int}:∀{ns:List Int},k∈ns->∃ j:Nat,∃ hj:j < ns.length,ns[j]=k/\(∀ i (hi:i < ns.length),i < j->ns[i]≠k)/\ns.erase k=ns.eraseIdx j
 | [],h=>nomatch h
 | n::ns,h=>by
  by_cases e:n=k
  ·subst e
   exact⟨0,by simp,rfl,fun i _ hi=>absurd hi (R1 _),by simp⟩
  ·have h':k∈ns:=by
    rcases Mc.mp h with z | z
    ·exact absurd z.symm e
    ·exact z
   obtain⟨j,hj,h1,h2,h3⟩:=XA h'
   refine⟨j+1,by simpa using hj,by simpa using h1,fun i hi Cm=>?_,?_⟩
   ·cases i with
    | zero=>exact e
    | succ i=>exact h2 i (by simpa using hi) (by omega)
   ·rw[Zq (by simpa using e),h3];rfl
theorem eW:MtR X "list.remove" Xz:=fun B5 s σ H x vs v us Q I rx rs h=>by
 obtain⟨l,ns,k,rfl,rfl,hH,hk,q⟩:=h
 cases rx
 cases rs with
 | cons r1 rs =>
  cases rs
  obtain⟨t,rfl⟩:=r1
  obtain⟨z,its,n,r,hl,e⟩:=I.lstM hH
  rw[LP] at z hl
  obtain⟨j,hj,h1,h2,h3⟩:=XA hk
  have Dx:∀(i:Nat) (hi:i < its.length),∃ t,∃ hi':i < ns.length,its[i]=.int ns[i] t:=fun i hi=>by
   obtain⟨w',hw,t,rfl⟩:=r.get (i:=i) (x:=V.int (ns[i]'(by omega))) (by rw[Ma,LS (show i < ns.length by omega)];rfl)
   rw[LS hi] at hw
   injection hw with hw
   exact⟨t,by omega,hw⟩
  have hj':j < its.length:=by omega
  refine AW F.slot_list_remove ⟨_,e,rfl⟩ F.entry_list_remove (F.args_list_remove_2 _ _) (MeetsSeq.list_remove l its.toArray n (.int k t) (Qg k) (fun y hy=>?_) j (by simpa using hj') ?_ (fun i hi Cm=>?_) (by rw[Mu];omega)) ⟨e,?_⟩
  ·have hy':y∈its:=by simpa using hy
   obtain⟨i,hi,rfl⟩:=aq hy'
   obtain⟨t',_,e'⟩:=Dx i hi
   rw[e']
   exact MeetsSeq.EqGives.int _ _ _ _
  ·obtain⟨t',_,e'⟩:=Dx j hj'
   show Qg k its[j]=true
   rw[e',h1]
   exact beq_self_eq_true k
  ·have hi':i < its.length:=by simpa using hi
   obtain⟨t',Gg,e'⟩:=Dx i hi'
   show Qg k its[i]=false
   rw[e']
   exact beq_false_of_ne (h2 i Gg Cm)
  ·refine⟨.non,_,I.lset (its':=its.eraseIdx j) hH e ?_ ?_ ?_,rfl,q⟩
   ·apply bf.mp
    rw[Array.eraseIdxIfInBounds,dif_pos (by simpa using hj')]
    simp
   ·have e1:∀(l:List Int) (i:Nat),(l.eraseIdx i).map V.int=(l.map V.int).eraseIdx i:=fun l=>by
     induction l with
     | nil=>intro i;simp
     | cons a l ih =>
      intro i
      cases i with
      | zero=>rfl
      | succ i=>simp only[List.eraseIdx_cons_succ,L',ih]
    rw[h3,e1]
    exact Vals.eraseIdx j r
   ·have:=ip hk
    rw[LP];omega
def XB:V->List V->Hp->VK->Prop:=fun x vs H Q=>∃(l:Ac) (ns:List Int) (k:Int) (j:Nat),x=.ref l/\vs=[.int k]/\H l=some (.lst (ns.map V.int))/\ns[j]?=some k/\(∀ i,i < j->ns[i]?≠some k)/\Q (.int (j:Int)) H
theorem eX {ns:List Int} {k:Int} {j:Nat} (h1:H l=some (.lst (ns.map V.int))) (h2:ns[j]?=some k) (h3:∀ i,i < j->ns[i]?≠some k) (h:Q (.int (j:Int)) H):XB (.ref l) [.int k] H Q:=⟨l,ns,k,j,rfl,rfl,h1,h2,h3,h⟩
theorem m_idxL:MtR X "list.index" XB:=fun B5 s σ H x vs v us Q I rx rs h=>by
 obtain⟨l,ns,k,j,rfl,rfl,hH,h1,h2,q⟩:=h
 cases rx
 cases rs with
 | cons r1 rs =>
  cases rs
  obtain⟨t,rfl⟩:=r1
  obtain⟨z,its,n,r,hl,e⟩:=I.lstM hH
  rw[LP] at z hl
  have hj:j < ns.length:=(MJ.mp h1).1
  have Dx:∀(i:Nat) (hi:i < its.length),∃ t,∃ hi':i < ns.length,its[i]=.int ns[i] t:=fun i hi=>by
   obtain⟨w',hw,t,rfl⟩:=r.get (i:=i) (x:=V.int (ns[i]'(by omega))) (by rw[Ma,LS (show i < ns.length by omega)];rfl)
   rw[LS hi] at hw
   injection hw with hw
   exact⟨t,by omega,hw⟩
  have hj':j < its.length:=by omega
  have KS:ns[j]=k:=by rw[LS hj] at h1;injection h1
  have Fp:Af<=2 ^ 62:=by decide
  refine AW F.slot_list_index ⟨_,e,rfl⟩ F.entry_list_index (F.args_list_index_2 _ _) (SeqAt.list_indexAt l its.toArray n none #[] (.int k t) (Qg k) j (by simpa using hj') (by omega) ?_ (fun i hi Cm=>?_)) ⟨e,fun y hy=>?_,?_⟩
  ·obtain⟨t',_,e'⟩:=Dx j hj'
   show Qg k its[j]=true
   rw[e',KS]
   exact beq_self_eq_true k
  ·have hi':i < its.length:=by simpa using hi
   obtain⟨t',Gg,e'⟩:=Dx i hi'
   show Qg k its[i]=false
   rw[e']
   exact beq_false_of_ne (fun z=>h2 i Cm (by rw[LS Gg,z]))
  ·have hy':y∈its:=by simpa using hy
   obtain⟨i,hi,rfl⟩:=aq hy'
   obtain⟨t',Gg,e'⟩:=Dx i hi
   rw[e']
   have hq:Qg k (.int ns[i] t')=eqV (V.int ns[i]) (V.int k):=by
    unfold Qg eqV
    rw[Oq]
   rw[hq]
   exact VF (y:=V.int ns[i]) (x:=V.int k) ⟨_,rfl⟩ ⟨_,rfl⟩ rfl rfl
  ·exact⟨.int (j:Int),H,I.kept (h':=s.heap) (t':=s.toks+1) fun b u q=>q,⟨_,rfl⟩,q⟩
def XC (ta:TA):TE:=fun σ H Q=>ta σ H fun vs H1=>∃ n:Nat,vs=[.int (n:Int)]/\n<=1000000/\∀ q,H1 q=none->Q (.ref q) (upd H1 q (.lst (((L5 n).map fun k:Nat=>(k:Int)).map V.int)))
theorem eY (h:ta σ H fun vs H1=>∃ n:Nat,vs=[.int (n:Int)]/\n<=1000000/\∀ q,H1 q=none->Q (.ref q) (upd H1 q (.lst (((L5 n).map fun k:Nat=>(k:Int)).map V.int)))):XC ta σ H Q:=h
theorem eZ (hc:X.calm=true) (EW:Gl X "list") (KU:X.mg "list"=none) (KW:Gl X "range") (KY:X.mg "range"=none) (ha:PA X [a] ta) (hs:Ah [Expr.Call (.Name "range" p2) [a] [] pos2] X.env=[(false,Ax (.Call (.Name "range" p2) [a] [] pos2) X.env)]:=by rfl) (DG:Ah [a] X.env=[(false,Ax a X.env)]:=by rfl):
  PE X (.Call (.Name "list" p) [.Call (.Name "range" p2) [a] [] pos2] [] pos) (XC ta):=by
 intro B5 s σ H Q I h
 refine Call_ (Pt I EW KU (by decide +kernel:AF "list"=some (.type "list")) (Rv ?_ hs rfl))
 rw[hs]
 show wpAny _ _ (Bx ((false,Ax (.Call (.Name "range" p2) [a] [] pos2) X.env)::[])) _ _ s
 refine Pr ?_
 refine Call_ (Pt I KW KY boot_range (Rv (thn (ha pos2 B5 s σ H _ I h) fun us s1 hI9=>?_) DG rfl))
 obtain⟨vs,H1,I1,r1,q1⟩:=hI9
 obtain⟨j,e,b1,q⟩:=q1
 subst e
 cases r1 with
 | cons r rr =>
   cases rr
   obtain⟨t,rfl⟩:=r
   refine call_range_1 (Rw ?_)
   have hn:jc 0 (j:Int) 1=(j:Int):=by rw[rangeSize_one];split <;> omega
   have p62:((2:Int) ^ 62)=4611686018427387904:=by decide
   have p24:(2:Nat) ^ 24=16777216:=by decide
   refine call_list_range (n:=j) (I1.ok.hd hc) (IsRange.new ..) (small_one (by rw[p62];omega) (by rw[p62];omega) (by rw[p62];omega) (by rw[p62];omega)) hn (by rw[p24];omega) fun h' tk B6 c' hk hS' DQ=>?_
   generalize hD:Heap.objs _=D0 at hS'
   have Iz:∀ b o,s1.heap.get? b=some o->h'.get? b=some o:=fun b o e=>hk b o (L1 _ e)
   have hsz:s1.heap.objs.size<=D0.size:=by rw[<- hD,NZ];exact Qw _
   have hv:Vals (((L5 j).map fun k:Nat=>(k:Int)).map V.int) B6.toList:=by
    rw[MQ]
    exact vals_of (fun k v ⟨t,e⟩=>⟨t,by rw[e];show Value.int _ t=Value.int (k:Int) t;congr 1;omega⟩) DQ
   refine⟨.ref D0.size,_,I1.laid (t':=tk) Iz hsz (show ObjOk X.prog X.w _ _ _ (.lst _) from ⟨by rw[LP,LP,Qq];exact MX (show j<=16000000 by omega) (by decide),B6.toList,c',hv,by rw[ZV];exact hS'⟩),rfl,q _ (I1.hok.fresh hsz)⟩
end
end L2
namespace L2
noncomputable def fig (n:Int):List Nat:=if n > 0 then [48+n.toNat] else []
noncomputable def pre (s:List Nat)(ns:List Int):Nat->List Nat
 | 0=>[]
 | i+1=>pre s ns i++(fig (ns.getD i 0)++[s.getD i 0])
noncomputable def ptxt (s:List Nat)(ns:List Int):List Nat:=pre s ns s.length++fig (ns.getD s.length 0)
noncomputable def Qm (c:Nat):Bool:=decide (49<=c/\c<=57)
noncomputable def canS (c:Nat)(sg:List Nat)(n:Int):Bool :=
 if 1 < sg.length/\sg.getLast?=some 46 then false
 else if Qm c=true then decide (n=0)
 else if sg.length=22 then false
 else if c=46 then decide (sg≠[46])&&(decide (sg≠[]) || decide (n=0))
 else ML c
structure PS3 where
 sg:List Nat
 ns:List Int
 n:Int
noncomputable def NG (t:PS3)(c:Nat):Option PS3 :=
 if canS c t.sg t.n=true then (if Qm c=true then some ⟨t.sg,t.ns,(c:Int) - 48⟩ else some ⟨t.sg++[c],t.ns++[t.n],0⟩) else none
noncomputable def prun:List Nat->PS3->Option PS3
 | [],t=>some t
 | c::r,t=>(NG t c).bind (prun r)
theorem UR:∀(a b:List Nat) (t:PS3),prun (a++b) t=(prun a t).bind (prun b)
 | [],b,t=>rfl
 | c::a,b,t=>by
  simp only[RU,prun]
  cases NG t c with
  | none=>rfl
  | some u=>simp only[Qy];exact UR a b u
structure VP (s:List Nat)(ns:List Int):Prop where
 len:s.length<=22
 pos:1<=s.length
 nlen:ns.length=s.length+1
 let_:∀ j,j < s.length->s.getD j 0=46/\(j=0∨j+1=s.length)∨ML (s.getD j 0)=true
 some_:∃ j,j < s.length/\ML (s.getD j 0)=true
 num:∀ j,j < ns.length->0<=ns.getD j 0/\ns.getD j 0<=9
 n0:s.getD 0 0=46->ns.getD 0 0=0
 nl:s.getD (s.length - 1) 0=46->ns.getD s.length 0=0
theorem P':ML 46=false:=by decide
theorem low_fig (h:ML c=true):Qm c=false:=by
 unfold ML at h
 unfold Qm
 have:=of_decide_eq_true h
 exact B1 (by omega)
theorem XD {s:List Nat}{i:Nat}(h:i < s.length)(h0:0 < i):(s.take i).getLast?=some (s.getD (i - 1) 0):=by
 rw[UV]
 have e:(s.take i).length=i:=by rw[Mt];omega
 rw[e,List.getElem?_take,B4 (by omega),LS (by omega),L4,LS (by omega)]
 rfl
theorem e7 {α:Type}{s:List α}{i:Nat}{d:α}(h:i < s.length):s.take (i+1)=s.take i++[s.getD i d]:=by
 rw[MA,LS h,L4,LS h];rfl
theorem XE (h0:0<=n) (h9:n<=9) (hn:t.n=0) (hs:¬ (1 < t.sg.length/\t.sg.getLast?=some 46)∨n=0):prun (fig n) t=some ⟨t.sg,t.ns,n⟩:=by
 unfold fig
 by_cases c:n > 0
 ·rw[B4 c]
  have hs':¬ (1 < t.sg.length/\t.sg.getLast?=some 46):=by
   rcases hs with h | h
   ·exact h
   ·omega
  have hf:Qm (48+n.toNat)=true:=B2 (by omega)
  have hc:canS (48+n.toNat) t.sg t.n=true:=by
   unfold canS
   rw[B3 hs',B4 hf]
   exact B2 hn
  simp only[prun,NG,hc,hf,if_true,Qy]
  congr 2
  omega
 ·rw[B3 c]
  have:n=0:=by omega
  subst this
  cases t
  simp only at hn
  subst hn
  rfl
theorem VP.run {s:List Nat}{ns:List Int}(h:VP s ns):∀ i,i<=s.length->prun (pre s ns i) ⟨[],[],0⟩=some ⟨s.take i,ns.take i,0⟩
 | 0,_=>by simp[pre,prun]
 | i+1,hi=>by
  have ih:=VP.run h i (by omega)
  have Cm:i < s.length:=hi
  have hn:=h.num i (by have:=h.nlen;omega)
  have e:(s.take i).length=i:=by rw[Mt];omega
  have nodot:¬ (1 < (s.take i).length/\(s.take i).getLast?=some 46):=fun⟨c1,c2⟩=>by
   rw[e] at c1
   rw[XD Cm (by omega)] at c2
   have c3:s.getD (i - 1) 0=46:=Option.some.inj c2
   rcases h.let_ (i - 1) (by omega) with ⟨_,q⟩ | q
   ·omega
   ·rw[c3,P'] at q;cases q
  simp only[pre]
  rw[UR,ih,Qy,UR,XE hn.1 hn.2 rfl (.inl nodot),Qy]
  have G9:Qm (s.getD i 0)=false:=by
   rcases h.let_ i Cm with ⟨q,_⟩ | q
   ·rw[q];decide
   ·exact low_fig q
  have hc:canS (s.getD i 0) (s.take i) (ns.getD i 0)=true:=by
   unfold canS
   rw[B3 nodot,B3 (by rw[G9];exact Mj),e,B3 (by have:=h.len;omega)]
   rcases h.let_ i Cm with ⟨q,p⟩ | q
   ·rw[B4 q]
    have n1:s.take i≠[46]:=fun z=>by
     have l1:(s.take i).length=1:=by rw[z];rfl
     have i1:i=1:=by omega
     subst i1
     have s0:s.getD 0 0=46:=by
      have:=XD Cm (by omega)
      rw[z] at this
      exact(Option.some.inj this).symm
     obtain⟨j,hj,lj⟩:=h.some_
     have:j=0∨j=1:=by omega
     rcases this with rfl | rfl
     ·rw[s0,P'] at lj;cases lj
     ·rw[q,P'] at lj;cases lj
    rw[B2 n1,R0]
    by_cases i0:i=0
    ·subst i0
     rw[B2 (h.n0 q),Bool.or_true]
    ·have n2:s.take i≠[]:=fun z=>by rw[z] at e;simp at e;omega
     rw[B2 n2,U2]
   ·have:s.getD i 0≠46:=fun z=>by rw[z,P'] at q;cases q
    rw[B3 this];exact q
  simp only[prun,NG,hc,G9,if_true,Qy]
  rw[B3 Mj,e7 (d:=0) Cm,e7 (d:=0) (show i < ns.length by have:=h.nlen;omega)]
  rfl
theorem VP.read (h:VP s ns):∃ m,prun (ptxt s ns) ⟨[],[],0⟩=some ⟨s,m,ns.getD s.length 0⟩/\ns=m++[ns.getD s.length 0]:=by
 have hr:=VP.run h s.length (LZ _)
 have hn:=h.num s.length (by have:=h.nlen;omega)
 refine⟨ns.take s.length,?_,?_⟩
 ·unfold ptxt
  rw[UR,hr,Qy,Mz]
  refine XE hn.1 hn.2 rfl ?_
  by_cases c:s.getD (s.length - 1) 0=46
  ·exact .inr (h.nl c)
  ·refine .inl fun⟨_,z⟩=>c ?_
   rw[UV] at z
   rw[L4]
   show s[s.length - 1]?.getD 0=46
   have z':s[s.length - 1]?=some 46:=z
   rw[z'];rfl
 ·rw[<- e7 (d:=0) (show s.length < ns.length by have:=h.nlen;omega),Uf (by have:=h.nlen;omega)]
theorem To (s:List Nat)(ns:List Int):∀ i,(pre s ns i).length<=2 * i
 | 0=>LZ _
 | i+1=>by
  have:=To s ns i
  simp only[pre,Md,Mr,NO]
  have:(fig (ns.getD i 0)).length<=1:=by unfold fig;split <;> simp
  omega
theorem XF (s:List Nat)(ns:List Int):(ptxt s ns).length<=2 * s.length+1:=by
 unfold ptxt
 rw[Md]
 have:=To s ns s.length
 have:(fig (ns.getD s.length 0)).length<=1:=by unfold fig;split <;> simp
 omega
theorem e_ (h:prun l s=some t) (h1:prun (l.take i) s=some u) (hi:i < l.length):∃ u',NG u l[i]=some u'/\prun (l.take (i+1)) s=some u':=by
 have e:l=l.take i++(l[i]::l.drop (i+1)):=by rw[<- RP hi,iz]
 have h2:=h
 rw[e,UR,h1,Qy] at h2
 simp only[prun] at h2
 cases e2:NG u l[i] with
 | none=>rw[e2] at h2;cases h2
 | some u' =>
  refine⟨u',rfl,?_⟩
  rw[MA,LS hi,UR,h1,Qy]
  simp only[Option.toList,prun,e2,Qy]
theorem XG:∀{l:List Nat}{s t:PS3},prun l s=some t->t.sg.length<=s.sg.length+l.length/\t.ns.length<=s.ns.length+l.length
 | [],s,t,h=>by cases h;exact⟨LZ _,LZ _⟩
 | c::r,s,t,h=>by
  simp only[prun] at h
  cases e:NG s c with
  | none=>rw[e] at h;cases h
  | some s1 =>
   rw[e] at h
   have ih:=XG h
   unfold NG at e
   split at e
   ·split at e
    ·cases e;simp at ih ⊢;omega
    ·cases e;simp at ih ⊢;omega
   ·cases e
structure PinP (u:PS3)(t:List Nat):Prop where
 len:u.sg.length<=22
 nl:u.ns.length=u.sg.length
 tx:pre u.sg u.ns u.sg.length++fig u.n=t
 num:∀ j,j < u.ns.length->0<=u.ns.getD j 0/\u.ns.getD j 0<=9
 n9:0<=u.n/\u.n<=9
 lt:∀ j,j < u.sg.length->u.sg.getD j 0=46/\(j=0∨j+1=u.sg.length)∨ML (u.sg.getD j 0)=true
 n0:1<=u.sg.length->u.sg.getD 0 0=46->u.ns.getD 0 0=0
 ne:1 < u.sg.length->u.sg.getLast?=some 46->u.n=0
 sm:u.sg=[]∨u.sg=[46]∨∃ j,j < u.sg.length/\ML (u.sg.getD j 0)=true
end L2
namespace L2
open PySem PySem.Spec PyProof.Rows
open Sem (wp)
open AutoSeq1 (wpAny_loadPart')
set_option maxHeartbeats 4000000 in
set_option maxHeartbeats 4000000 in
section
variable {prog:Ag}{w:Ak}{A:Ap}{E:Ab->Ae->Prop}{s:Ae}
end
section
variable {X:Cx}
end
end L2
namespace L2
open PySem PySem.Spec PyProof.Rows
end L2
namespace L2
open PySem
theorem st_c :N_ (n::N) (v::vs)=some v::N_ N vs:=by
 unfold N_
 rw[Mr,Mr,Nat.add_sub_add_right];rfl
theorem st_n :N_ (n::N) []=none::N_ N []:=rfl
theorem st_0:N_ [] []=[]:=rfl
theorem MS (h:H a=none) (o:HO):∃ H',upd H a o=H'/\Same H H'/\H' a=some o:=⟨_,rfl,fun b u e=>by rw[LU (fun z=>by rw[z,h] at e;cases e)];exact e,LN⟩
end L2
namespace L2
open PySem PySem.Spec PyProof.Rows
section
variable {X:Cx}{x:Str}{p pos pos':Pos}{e a b:Ay}{es:List Ay}{te ta tb:TE}{t:TA}{id T:String}{r:List V->Hp->VK->Prop}
theorem pa1 (h:PE X e te)(hs:Ah [e] X.env=(false,Ax e X.env)::Ah [] X.env:=by rfl):PA X [e] (Sb te tNil):=LO h Ph hs
theorem pst (i:Nat)(hN:X.N.Nodup)(he:PE X e te)(hi:X.N[i]?=some x:=by rfl)(hx:Loc X.env.scope x:=by exact .inl rfl)(hs:Bh e (some (.Name x pos')) pos.line X.env=pure false:=by rfl)(hf:X.fn x=true∨X.env.scope.names.lookup x=some .local:=by first | exact .inl rfl | exact .inr rfl | assumption):PS X (.Assign [.Name x pos'] e pos) (tAsg te (N7 i)):=OR hN hi hx he hs hf
theorem pnm (i:Nat)(hN:X.N.Nodup)(hi:X.N[i]?=some x:=by rfl)(hx:Loc X.env.scope x:=by exact .inl rfl)(hf:X.fn x=true∨X.env.scope.names.lookup x=some .local:=by first | exact .inl rfl | exact .inr rfl | assumption):PG X (.Name x pos) (N7 i):=ME hN hi hx hf
theorem pix (K:LR)(ha:PE X a ta)(hb:PE X b tb)(hs:VE b:=by exact fun _ _=>rfl)(hK:X.K=K:=by rfl):PE X (.Subscript a b pos) (tOp (fIx K) ta tb):=pe_ix (ix_any hK) ha hb hs
theorem pcb (hc:CallR X (.builtin id) r)(hm:X.mg x=none)(ha:PA X (e::es) t)(hg:Gl X x:=by rfl)(hv:AF x=some (.builtin id):=by decide +kernel)(hn:x≠"__name__":=by decide)(DW:(x == ("__debug__":Str))=false:=by decide)
  (he:Ah (e::es) X.env=(false,Ax e X.env)::Ah es X.env:=by rfl) (CG:(AE pos (Ah es X.env)).any (·.1)=false:=by rfl):PE X (.Call (.Name x p) (e::es) [] pos) (tCB r t):=bY hc hg hm hv ha hn DW he CG
theorem pct (hc:CallR X (.type T) r)(hm:X.mg x=none)(ha:PA X (e::es) t)(hg:Gl X x:=by rfl)(hv:AF x=some (.type T):=by decide +kernel)(hn:x≠"__name__":=by decide)(DW:(x == ("__debug__":Str))=false:=by decide)
  (he:Ah (e::es) X.env=(false,Ax e X.env)::Ah es X.env:=by rfl) (CG:(AE pos (Ah es X.env)).any (·.1)=false:=by rfl):PE X (.Call (.Name x p) (e::es) [] pos) (tCB r t):=bZ hc hg hm hv ha hn DW he CG
theorem pty (y:String)(hm:X.mg x=none)(hg:Gl X x:=by rfl)(hv:AF x=some (.type y):=by decide +kernel)(hn:x≠"__name__":=by decide)(hd:(x == ("__debug__":Str))=false:=by decide):PE X (.Name x pos) (tC (.ty y)):=pe_bltn hg hm hv rfl hn hd
end
end L2
namespace L2
open PySem
section
variable {prog:Ag}{w:Ak}{M:Model}{A:Ap}{E:Ab->Ae->Prop}{R:Result->Ae->Prop}{h:Ao}{g:Array GenState}{dr:Drawn}{tk:Nat}{os:OsState}
variable {nm qn:Str}{C N W:Ac}{bs:List Ab}{Gh:Bool}{sn:List Str}{sub:List Ab}{ab:Bool}{col:Option Bool}{dd:Option Ac}{k0 k1 k2 k3 k5:Option Ab}{us:List Ab}
open Builtin Builtin.ObjectAttr in
end
section
variable {M:Model}{A:Ap}{E:Ab->Ae->Prop}{s:Ae}{base:Ao}{env:Env}{outer l:List Env}{L e C:Ac}{od:Option Ac}{Q:Unit->Ae->Prop}
end
section
variable {M:Model}{A:Ap}{E:Ab->Ae->Prop}{env:Env}
variable {nm qn:Str}{C N W:Ac}{bs:List Ab}{Gh:Bool}{sn:List Str}{sub:List Ab}{ab:Bool}{col:Option Bool}{dd:Option Ac}{k0 k1 k2 k3 k5:Option Ab}
end
section
variable {prog:Ag}{w:Ak}{M:Model}{A:Ap}{E:Ab->Ae->Prop}{h:Ao}{g:Array GenState}{dr:Drawn}{tk:Nat}{os:OsState}
variable {nm qn:Str}{C N W e:Ac}{bs:List Ab}{Gh:Bool}{sn:List Str}{sub:List Ab}{ab:Bool}{col:Option Bool}{dd:Option Ac}{k0 k1 k2 k3 k5:Option Ab}{oe:Obj}
end
section
open PySem.W
variable {prog:Ag}{w:Ak}{A:Ap}{E:Ab->Ae->Prop}{s:Ae}{K:Frag}{x C W N:Ac}{ox:Obj}{od:Option Obj}{name:Str}{expr:Bool}
variable {nm qn:Str}{bs:List Ab}{Gh:Bool}{sn:List Str}{sub:List Ab}{ab:Bool}{col:Option Bool}{dd:Option Ac}{k0 k1 k2 k3 k5:Option Ab}
end
end L2
namespace L2
open PySem PySem.Spec PyProof.Rows
structure Exc (K:LR)(W C:Ac):Prop where
 ob:∃(nm qn:Str) (N:Ac) (bs:List Ab) (sn:List Str) (sub:List Ab) (ab:Bool) (col:Option Bool) (dd:Option Ac) (k0 k1 k2 k3 k5:Option Ab),
  K.lookup C=some (excClassObj nm qn C N bs (.ref W::vBM) true sn sub ab col dd k0 k1 k2 k3 k5 xNew)
 ga:MM K (.ref C) "__getattribute__"=some (some (.builtin xGa))
 gr:MM K (.ref C) "__getattr__"=some none
 sa:MM K (.ref C) "__setattr__"=some (some (.builtin "object.__setattr__"))
 kp:OG K (.ref C)=true
 cl:MM K (.ref C) "__class__"=some (some (.builtin "object.__class__"))
section
variable {X:Cx}{B5:List (Ac×Obj)}{σ:St}{H:Hp}{s:Ae}{W C f:Ac}{fd:AB}{ps:List Str}{sp:Sp}{k:Nat}{CX:CXT}{E:XK}
end
section
variable {X:Cx}{W C f:Ac}{fd:AB}{ps:List Str}{sp:Sp}{k:Nat}{CX:CXT}{E:XK}{x:Str}{p pos Cf:Pos}{e:Ay}{es:List Ay}{t:TA}
structure ExcBase (K:LR)(W:Ac):Prop where
 rd:PySem.W.readsIn K W (.type "type")=true
 ga:aL K (.ref W) "__getattribute__"=some (some (.builtin "type.__getattribute__"))
 ini:PySem.W.findCls K (.ref W) (.type "type") "__init__"=some (.val (.builtin xIni))
end
section
variable {X:Cx}{e a b:Ay}{es:List Ay}{te:TE}{t:TJ}{pos:Pos}
end
section
variable {X:Cx}{o e value:Ay}{f:Str}{pos pos':Pos}{ta tv:TE}
end
section
variable {X:Cx}{B5:List (Ac×Obj)}{σ:St}{H:Hp}{s:Ae}
end
section
variable {CX:CXT}{P:Ag}{w:Ak}{K:LR}{mg:Str->Option Ab}{base:Ao}{N:List Str}{Cj:Str}{scope:Bv}{f:Ac}{cd:Ab}{A:Ap}{outer:List Env}{s:Ae}{H:Hp}{E:XK}
end
section
variable {X:Cx}{e:Ay}{te:TE}{pos:Pos}{E:XK}
end
section
variable {X:Cx}{B5:List (Ac×Obj)}{σ:St}{H:Hp}{s:Ae}
end
section
variable {X:Cx}{EX:XK}{W:Ac}{Wn en:Str}{i:Nat}{body suite:List Au}{b0:Au}{tb ts:TS}{wp G7 pos:Pos}
structure ExcW (K:LR)(W:Ac):Prop where
 ob:∃(nm qn:Str) (N:Ac) (bs:List Ab) (hd:Bool) (sn:List Str) (sub:List Ab) (ab:Bool) (col:Option Bool) (dd:Option Ac) (k0 k1 k2 k3 k5:Option Ab) (nw:String),
  K.lookup W=some (excClassObj nm qn W N bs vBM hd sn sub ab col dd k0 k1 k2 k3 k5 nw)
end
section
variable {K:LR}{x D W:Ac}{ox:Obj}{odo:Option Obj}
end
structure Ini (P:Ag)(w:Ak)(K:LR)(mg:Str->Option Ab)(base:Ao)(C:Ac)(k:Nat)(ps:List Str)(sp:Sp):Prop where
 ex:∃(f:Ac) (fd:AB),MM K (.ref C) "__init__"=some (some (.ref f))/\U0 K (.ref f)=true/\Binds K fd ps []/\FnOk P w K mg base CX0 k f fd ps sp
section
variable {σ:St}{H:Hp}{Q:VK}{K:LR}{W:Ac}{t:TA}{i:Nat}{y:V}{a b:Str}
end
section
variable {P:Ag}{w:Ak}{K:LR}{mg:Str->Option Ab}{base:Ao}{x Cj:Str}{st:Au}{f:Ac}{fd:AB}{ps:List Str}{k:Nat}{sp:Sp}
theorem Fun.okk (F:Fun K x Cj st f fd)(N:List Str)
  (D8:∀(cdv:Ab) (A:Ap) (outer:List Env) (s:Ae) (H:Hp) (vs:List V) (Q:VK) (E:XK),Room k (A.deeper (BE Cj (Oa st) s.heap.objs.size f cdv))->sp vs H Q E->N.Nodup ->
   ∃ t,PSs (cxOf CX0 P w K mg base N Cj (Oa st) f cdv A outer s H E).nox (RG st) t/\t { nx:=fun _ H'=>Q .non H',rt:=Q } (N_ N vs) H) (len:∀ vs H Q E,sp vs H Q E->vs.length=ps.length:=by walk_at "l0") (S:FnScope N ps (Oa st):=by exact⟨rfl,rfl,rfl,by decide +kernel,rfl,by decide +kernel,by decide +kernel⟩):FnOk P w K mg base CX0 (k+1) f fd ps sp :=
 F.ok S len fun cdv A outer s H vs Q E hr h=>D8 cdv A outer s H vs Q E hr h S.nd
end
theorem L8 (h:x=S l):PE X (.Constant (.str x) j pos) (tC (.str (S l))):=h▸Vj
end L2
namespace L2
open PySem PySem.Spec PyProof.Rows PySem.SeqAt
end L2
namespace L2
open PySem PySem.Spec PyProof.Rows PySem.SeqAt Builtin Builtin.Str
section
variable {X:Cx}
def XH:V->List V->Hp->VK->Prop:=fun x vs H Q=>∃ z y:Str,x=.str z/\vs=[.str y]/\(y.length == 0)=false/\z.length<=Af/\(N1 z y).length<=Af/\∀ q,H q=none->Q (.ref q) (upd H q (.lst ((N1 z y).map V.str)))
theorem i_split (h1:(y.length == 0)=false) (h2:z.length<=Af) (h3:(N1 z y).length<=Af) (h:∀ q,H q=none->Q (.ref q) (upd H q (.lst ((N1 z y).map V.str)))):XH (.str z) [.str y] H Q:=⟨z,y,rfl,rfl,h1,h2,h3,h⟩
theorem XI:∀(t:Nat) (ps:List Str),Vals (ps.map V.str) (strsFrom t ps)
 | _,[]=>.nil
 | t,p::ps=>.cons ⟨t,rfl⟩ (XI (t+1) ps)
theorem fb:MtR X "str.split" XH:=fun B5 s σ H x vs v us Q I rx rs h=>by
 obtain⟨z,y,rfl,rfl,hy,hz,hn,q⟩:=h
 obtain⟨t,rfl⟩:=rx
 obtain⟨u,rfl,t',rfl⟩:=Np rs
 have new:∀(its:List Ab) (tk:Nat),Vals ((N1 z y).map V.str) its->(∃(y':V) (H':Hp),Inv X B5 σ H' { s with heap:=s.heap.push { cls:=.type "list",data:=.seq its.toArray },toks:=tk }/\RelV y' (.ref s.heap.objs.size)/\Q y' H'):=fun its tk r=>by
  refine⟨.ref s.heap.objs.size,_,I.laid (t':=tk) (fun b o e=>L1 _ e) (LZ _) (show ObjOk X.prog X.w _ _ _ (.lst _) from ⟨by rw[LP];exact hn,its,0,r,Ms _ rfl⟩),rfl,q _ (I.hok.fresh (LZ _))⟩
 cases h1:(decide (z.length < y.length) || decide (strKind z < strKind y))
 ·cases hf:(occurrences z y 0 z.length (z.length+1)).isEmpty
  ·have e:N1 z y=partsBetween z (occurrences z y 0 z.length (z.length+1)) y.length:=(B3 (ne_true_of_eq_false h1)).trans (B3 (ne_true_of_eq_false hf))
   rw[e] at new hn
   exact AW a8 (Br _ _ _) a7 (a6 _ _) (meets_str_split_sep z y t t' h1 hy hf hz hn) (new _ _ (XI _ _))
  ·have e:N1 z y=[z]:=(B3 (ne_true_of_eq_false h1)).trans (B4 hf)
   rw[e] at new
   exact AW a8 (Br _ _ _) a7 (a6 _ _) (meets_str_split_not_found z y t t' h1 hy hf) (new [.str z t] s.toks (.cons ⟨t,rfl⟩ .nil))
 ·have e:N1 z y=[z]:=B4 h1
  rw[e] at new
  exact AW a8 (Br _ _ _) a7 (a6 _ _) (meets_str_split_cannot_occur z y t t' h1) (new [.str z t] s.toks (.cons ⟨t,rfl⟩ .nil))
def fOrd:List V->Hp->VK->Prop:=fun xs H Q=>∃ c:Nat,xs=[.str ⟨#[c]⟩]/\Q (.int (c:Int)) H
theorem i_ord (h:Q (.int (c:Int)) H):fOrd [.str ⟨#[c]⟩] H Q:=⟨c,rfl,h⟩
theorem c_ord:CallR X (.builtin "ord") fOrd:=fun B5 s σ H xs us Q I r h=>by
 obtain⟨c,rfl,q⟩:=h
 obtain⟨u,rfl,t,rfl⟩:=Np r
 exact P.ord_of_char ⟨.int (c:Int),H,I.tok _,⟨_,rfl⟩,q⟩
def fLeS:R2:=fun x y H Q=>∃ a b:Nat,x=.str ⟨#[a]⟩/\y=.str ⟨#[b]⟩/\Q (.bl (decide (a<=b))) H
theorem i_leS (h:Q (.bl (decide (a<=b))) H):fLeS (.str ⟨#[a]⟩) (.str ⟨#[b]⟩) H Q:=⟨a,b,rfl,rfl,h⟩
theorem o_leS:OpR X (An .LtE) fLeS:=fun B5 s σ H x y v u Q I rx ry h=>by
 obtain⟨a,b,rfl,rfl,q⟩:=h
 obtain⟨t,rfl⟩:=rx
 obtain⟨t',rfl⟩:=ry
 refine P.le_str (MF I q ?_)
 rw[Oq]
 simp
 have h:([b] < [a])↔b < a:=by rw[List.cons_lt_cons_iff];simp
 exact⟨fun z=>List.not_lt.mp fun y=>Nat.not_lt.mpr z (h.mp y),fun z=>Nat.not_lt.mp fun y=>List.not_lt.mpr z (h.mpr y)⟩
end
end L2
namespace L2
open PySem PySem.Spec PyProof.Rows
def DC (P:Ag)(w:Ak)(K:LR)(a:Ac)(B7:List (Key×V)):Prop:=∃ o vs,K.lookup a=some o/\o.IsDictOf (MB P w) vs/\KV B7 vs/\(a == Ar)=false
def tKIn (B7:List (Key×V))(neg:Bool)(ty:TE):TE:=fun σ H Q=>ty σ H fun y H1=>∃ k,y=kV k/\Q (.bl (xor neg (valV B7 k).isSome)) H1
def tKGet (B7:List (Key×V))(ty:TE):TE:=fun σ H Q=>ty σ H fun y H1=>∃ k v,y=kV k/\valV B7 k=some v/\Q v H1
theorem i_kin (h:ty σ H fun y H1=>∃ k,y=kV k/\Q (.bl (xor neg (valV B7 k).isSome)) H1):tKIn B7 neg ty σ H Q:=h
theorem i_kget (h:ty σ H fun y H1=>∃ k v,y=kV k/\valV B7 k=some v/\Q v H1):tKGet B7 ty σ H Q:=h
section
variable {X:Cx}{x:Str}{i:Ay}{a:Ac}{B7:List (Key×V)}{pos pos':Pos}{ty:TE}
theorem DC.at (d:DC X.prog X.w X.K a B7) (I:Inv X B5 σ H s):(a == Ar)=false/\∃ vs,KV B7 vs/\s.heap.DictOf (MB X.prog X.w) a vs:=by
 obtain⟨o,vs,h1,h2,h3,h4⟩:=d
 exact⟨h4,vs,h3,Heap.dictOf_iff.mpr ⟨o,I.kIn a o h1,h2⟩⟩
theorem fc {P:Ag}{w:Ak}{K:LR}(d:DC P w K a B7)(hg:Gl X x)(hm:X.mg x=some (.ref a))(hi:PE X i ty)(eP:X.prog=P:=by rfl)(ew:X.w=w:=by rfl)(eK:X.K=K:=by rfl)(hd:(x == ("__debug__":Str))=false:=by decide):PC X .NotIn i (.Name x pos) (tKIn B7 true ty):=by
 subst eP ew eK
 intro B5 s σ H Q I h
 refine thn (hi B5 s σ H _ I h) fun iv s1 ⟨y,H1,I1,ry,k,ey,q1⟩=>UF I1 hg hm ?_ hd
 subst ey
 obtain⟨hS,vs,rel,dd⟩:=d.at I1
 refine wpAny_notIn_of (P5 ry) hS dd.mapOf ?_
 rw[<- (rel.val k).isSome_eq]
 rw[aP] at q1
 exact⟨.bl (!(valV B7 k).isSome),H1,I1.tok _,rfl,q1⟩
theorem pe_kget {P:Ag}{w:Ak}{K:LR}(d:DC P w K a B7)(hg:Gl X x)(hm:X.mg x=some (.ref a))(hi:PE X i ty)(hs:NoSl i)(eP:X.prog=P:=by rfl)(ew:X.w=w:=by rfl)(eK:X.K=K:=by rfl)(hd:(x == ("__debug__":Str))=false:=by decide):PE X (.Subscript (.Name x pos) i pos') (tKGet B7 ty):=by
 subst eP ew eK
 intro B5 s σ H Q I h
 refine SZ aY.lookup hs (UF I hg hm (thn (hi B5 s σ H _ I h) fun iv s2 hI9=>?_) hd)
 obtain⟨y,H2,I2,ry,k,v,ey,hv,q2⟩:=hI9
 subst ey
 obtain⟨hS,vs,rel,dd⟩:=d.at I2
 obtain⟨w',hw,rw'⟩:=RelO.some_of (v:=v) (o:=BH vs k) (by rw[<- hv];exact rel.val k)
 exact⟨dd.typeIs,wpAny_getItem_of (P5 ry) dd.mapOf hw ⟨v,H2,I2.tok _,rw',q2⟩⟩
end
section
variable {X:Cx}
end
end L2
namespace L2
open PySem
noncomputable def spl (c:Nat):List Nat->List (List Nat)
 | []=>[[]]
 | x::r=>if x=c then []::spl c r else match spl c r with
  | []=>[[x]]
  | p::ps=>(x::p)::ps
theorem XJ {c:Nat}:∀{p:List Nat},c∉p->spl c p=[p]
 | [],_=>rfl
 | x::p,h=>by
  unfold spl
  rw[B3 fun e=>h (by rw[e];exact Mn),XJ (p:=p) fun e=>h (Mp _ e)]
theorem XM {c:Nat}(r:List Nat):∀{p:List Nat},c∉p->spl c (p++c::r)=p::spl c r
 | [],_=>by
  show (if c=c then []::spl c r else _)=_
  rw[B4 rfl]
 | x::p,h=>by
  show (if x=c then []::spl c (p++c::r) else match spl c (p++c::r) with | []=>[[x]] | p::ps=>(x::p)::ps)=_
  rw[B3 fun e=>h (by rw[e];exact Mn),XM r (p:=p) fun e=>h (Mp _ e)]
noncomputable def MO (c:Nat):List (List Nat)->List Nat
 | []=>[]
 | [p]=>p
 | p::q::r=>p++c::MO c (q::r)
theorem Tp {c:Nat}:∀{ps:List (List Nat)},ps≠[]->(∀ p∈ps,c∉p)->spl c (MO c ps)=ps
 | [],h,_=>absurd rfl h
 | [p],_,h=>XJ (h p Mn)
 | p::q::r,_,h=>by
  show spl c (p++c::MO c (q::r))=_
  rw[XM _ (h p Mn),Tp (List.cons_ne_nil q r) fun y hy=>h y (Mp _ hy)]
theorem XN (c:Nat):∀ qs:List (List Nat),Ut ⟨#[c]⟩ (qs.map S)=S (MO c qs)
 | []=>rfl
 | [q]=>rfl
 | p::q::r=>by
  have ih:=XN c (q::r)
  show Ut ⟨#[c]⟩ (S p::(q::r).map S)=_
  rw[show Ut ⟨#[c]⟩ (S p::(q::r).map S)=S p++⟨#[c]⟩++Ut ⟨#[c]⟩ ((q::r).map S) from rfl,ih]
  show (S p++⟨#[c]⟩++S (MO c (q::r)):Str)=S (p++c::MO c (q::r))
  apply Str.ext'
  apply bf.mp
  show ((p.toArray++#[c])++(MO c (q::r)).toArray).toList=(p++c::MO c (q::r)).toArray.toList
  simp
theorem XQ (x:Str):S x.cps.toList=x:=by
 unfold S;simp
theorem XR (l:List Nat)(c:Nat):N1 (S l) (S [c])=(spl c l).map S:=by
 have e1:=StrLaws.join_split (S l) (S [c])
 have e2:=StrLaws.split_free (S l) c
 have hq:N1 (S l) (S [c])=((N1 (S l) (S [c])).map fun p=>p.cps.toList).map S:=by
  rw[MQ]
  conv=>lhs;rw[<- List.map_id (N1 (S l) (S [c]))]
  apply RQ
  intro p _
  exact(XQ p).symm
 have C5:((N1 (S l) (S [c])).map fun p=>p.cps.toList)≠[]:=by
  unfold N1
  split
  ·simp
  ·split
   ·simp
   ·unfold Builtin.Str.partsBetween
    simp
 have e2':∀ p∈((N1 (S l) (S [c])).map fun p=>p.cps.toList),c∉p:=fun p hp=>by
  obtain⟨y,hy,rfl⟩:=MC.mp hp
  exact e2 y hy
 rw[hq] at e1
 rw[hq]
 generalize ((N1 (S l) (S [c])).map fun p=>p.cps.toList)=qs at e1 C5 e2'
 have e3:S (MO c qs)=S l:=(XN c qs).symm.trans e1
 have e4:MO c qs=l:=by
  unfold S at e3
  injection e3 with e3
  simpa using congrArg Va e3
 rw[<- e4,Tp C5 e2']
end L2
namespace L2
open PySem PySem.Spec PyProof.Rows
section
variable {X:Cx}{k:Nat}{C:Ac}{ps:List Str}{sp:Sp}{x:Str}{p pos:Pos}{e:Ay}{es:List Ay}{t:TA}{E:XK}
end
section
variable {X:Cx}{σ:St}{CX:CXT}{k:Nat}{f C:Ac}{fd:AB}{ps:List Str}{sp:Sp}{dvs:List V}{ds:List Ab}{E:XK}{x m:Str}{p pos Cf:Pos}{e o:Ay}{es:List Ay}{ta te:TE}{t:TA}
end
section
variable {X:Cx}{EX:St->XK}{W:Ac}{Wn en:Str}{i:Nat}{st:Au}{body suite:List Au}{b0:Au}{t0:St->TS}{tb ts:TS}{wp G7 pos:Pos}
end
section
variable {X:Cx}{k:Nat}{C:Ac}{ps:List Str}{sp:Sp}{x m:Str}{p pos Cf:Pos}{e o:Ay}{es:List Ay}{ta:TE}{t:TA}{E:XK}
theorem XS (D:Dk X.prog X.w X.K X.mg X.base C k ps sp)(hr:Room (k+1) X.A)(hg:Gl X x)(hm:X.mg x=some (.ref C))
  (DW:(x == ("__debug__":Str))=false:=by decide):PE X (.Call (.Name x p) [] [] pos) (PD C sp [] E0 tNil):=by
 obtain⟨f,fd,h1,h2,h3⟩:=D.ex
 exact bW h1 h3 hr hg hm h2 .nil PL DW
end
end L2
set_option maxHeartbeats 4000000
namespace K90
theorem _root_.L2.Room.LV (h:L2.Room k A) (e:l<=k:=by first | decide | omega):L2.Room l A:=h.mono e
open PySem L2
local macro_rules | `(tactic| walk_at "f") => `(tactic| exact ⟨rfl,rfl,rfl,by decide +kernel,rfl,by decide +kernel,by decide +kernel⟩)
local macro_rules | `(tactic| walk_at "sc")=>`(tactic| first | assumption | omega | exact rfl | decide | exact szn (by omega) | (simp only[Mr,NO,LP,Mi] <;> omega) | trivial)
local macro_rules | `(tactic| walk_at "sq")=>`(tactic| first | assumption | exact cX | exact cY | (exact Nd (by assumption)) | (exact So (by assumption)))
local macro_rules | `(tactic| walk_at "sl")=>`(tactic| first | assumption | exact SqL.of LN | exact SqL.of (by assumption))
local macro_rules | `(tactic| walk_at "st")=>`(tactic| first | assumption | exact SqT.of LN | exact SqT.of (by assumption))
local macro_rules | `(tactic| walk_at "lq")=>`(tactic| first | assumption | exact Wc | (exact Ot (by assumption)))
local macro_rules | `(tactic| walk_at "at")=>`(tactic| first | exact atI_0 _ _ | exact atI_1 _ _ _ | exact atI_2 _ _ _ _ | exact atI_3 _ _ _ _ _ | assumption)
local macro_rules | `(tactic| walk_at "mu")=>`(tactic| first | (exact CMul.l (by omega) (by omega)) | (exact CMul.r (by omega) (by omega)) | (exact CMul.l (by decide) (by decide)) | (exact CMul.r (by decide) (by decide)))
local macro_rules | `(tactic| walk_at "sd")=>`(tactic| first | omega | (simp only[Md,Mr,NO,LP,Z_] <;> omega))
local macro_rules | `(tactic| walk_at "g1")=>`(tactic| first
 | (with_reducible first | refine OW ?_ | refine i_ifs ?_ | refine i_asg ?_ | refine i_op ?_ | refine i_c ?_ | refine i_ret ?_ | refine i_next ?_ | refine i_drop ?_ | refine MY ?_ | refine i_gsub ?_ | refine i_test ?_ | refine i_bl ?_ | refine i_fI0 ?_ | refine i_addI ?_ | refine i_cons ?_ | refine i_nil ?_ | refine i_cb ?_ | refine i_call ?_ | refine i_and ?_ | refine i_or ?_ | refine i_not ?_ | refine i_andV ?_ | refine i_orV ?_ | refine i_notV ?_ | refine i_ifE ?_ | refine i_chain ?_ | refine i_un ?_ | refine i_neg ?_ | refine i_sl ?_ | refine cV ?_ | refine i_part ?_ | refine i_exI ?_ | refine i_is ?_ | refine cW ?_ | refine i_inS ?_ | refine i_1I ?_ | refine i_2I ?_ | refine i_intB ?_ | refine i_intI ?_ | refine i_truB ?_ | refine i_truI ?_ | refine i_SS ?_ | refine i_SSI ?_ | refine i_rng1 ?_ | refine i_rng2 ?_ | refine i_comp ?_ | refine i_true ?_ | refine i_data ?_ | refine i_bm ?_ | refine i_bm0 ?_ | refine i_tyS ?_ | refine i_for ?_ | refine i_any ?_ | refine i_anyS ?_ | refine i_enumS ?_ | refine i_enum ?_ | refine i_enS ?_ | refine i_lst ?_ | refine i_tup ?_ | refine i_retN ?_)
 | ((with_reducible first | refine' i_lenC ?k1 ?_ | refine' PZ ?k1 ?_ | refine' i_slC ?k1 ?_);(case k1=>walk_at "sd"))
 | ((with_reducible first | refine' i_fI ?k1 ?_ | refine' Wa ?k1 ?_ | refine' V' ?k1 ?_ | refine' i_slS ?k1 ?_);(case k1=>walk_at "sc"))
 | ((with_reducible refine' i_lenR ?k1 ?_);(case k1=>walk_at "sq"))
 | ((with_reducible first | refine' i_var ?k1 ?_ | refine' i_eq ?k1 ?_ | refine' i_ne ?k1 ?_ | refine' NP ?k1 ?_);(case k1=>exact rfl))
 | ((with_reducible refine' i_mulI ?k1 ?_);(case k1=>walk_at "mu"))
 | ((with_reducible refine' OY ?k1 ?k2 ?_);(case k1=>walk_at "sq");(case k2=>walk_at "at"))
 | ((with_reducible refine' QL ?k1 ?k2 ?_);(case k1=>first | assumption | exact LN);(case k2=>walk_at "sc"))
 | ((with_reducible first | refine' i_r1 ?k1 ?_ | refine' i_r2 ?k1 ?_);(case k1=>omega))
 | ((with_reducible first | refine' i_tyL ?k1 ?_ | refine' Oe ?k1 ?_);(case k1=>walk_at "sl"))
 | ((with_reducible refine' V_ ?k1 ?_);(case k1=>walk_at "st"))
 | ((with_reducible refine' i_ixK ?k1 ?k2 ?_);(case k1=>assumption);(case k2=>walk_at "at"))
 | ((with_reducible refine' iteBT ?k1 ?_);(case k1=>first | exact rfl | decide) )
 | ((with_reducible refine' O0 ?k1 ?_);(case k1=>first | exact rfl | decide)  )
 | ((with_reducible refine' ND ?k1 ?_);(case k1=>intro z;cases z))
 | ((with_reducible refine' i_sz ?k1 ?_);(case k1=>exact szc rfl))
 | ((with_reducible refine' i_isi ?k1 ?k2 ?_);(case k1=>first | exact rfl | (exact tyN_tup (by assumption)) | (exact tyN_lst (by assumption)));(case k2=>exact rfl))
 | ((with_reducible refine' QK ?k1 ?k2 ?_);(case k1=>first | assumption | exact LN);(case k2=>first | exact rfl | (exact SI (by omega) (by omega))))
 | ((with_reducible refine' i_lenK ?k1 ?_);(case k1=>assumption))
 | ((with_reducible show Ends.nx _ _ _);dsimp only)
 | ((with_reducible show Ends.rt _ _ _);dsimp only))
local macro_rules | `(tactic| ext)=>`(tactic| repeat (walk_at "g1"))
local macro_rules | `(tactic| walk_at "s0")=>`(tactic| ((repeat rw[st_c]);(repeat rw[st_n]);rw[st_0]))
local macro_rules | `(tactic| walk_at "l0")=>`(tactic| (intro _ _ _ _ h;(repeat (first | (cases h.1;rfl) | rcases h with ⟨_,h⟩))))
seal L2.PSs L2.PS L2.PE L2.PT L2.PA L2.PI L2.PG L2.PTs L2.PGs L2.PO L2.PW
noncomputable def top (i:Nat):Au:=PySem.Challenge.pw_breakwords_k90_whole_for_all_words.main.body.getD i (.Pass ⟨0,0,0,0⟩)
structure Txt (mg:Str->Option Ab)(tk:Nat->Tok):Prop where
 z_len:mg "len"=none
 z_abs:mg "abs"=none
 z_all:mg "all"=none
 z_any:mg "any"=none
 z_range:mg "range"=none
 z_enumerate:mg "enumerate"=none
 z_isinstance:mg "isinstance"=none
 z_tuple:mg "tuple"=none
 z_list:mg "list"=none
 z_dict:mg "dict"=none
 z_bool:mg "bool"=none
 z_str:mg "str"=none
 z_int:mg "int"=none
 z_min:mg "min"=none
 z_max:mg "max"=none
 z_zip:mg "zip"=none
 z_ord:mg "ord"=none
 z_sorted:mg "sorted"=none
 z_ValueError:mg "ValueError"=none
 m_LETTERS:mg "LETTERS"=some (.str "abcdefghijklmnopqrstuvwxyz" (tk 0))
 m_MOST_LETTERS:mg "MOST_LETTERS"=some (.int 8 (tk 1))
 m_FIGURES:mg "FIGURES"=some (.str "123456789" (tk 2))
 m_MOST_SIGNS:mg "MOST_SIGNS"=some (.int 22 (tk 3))
 m_PERCENT_SIGN:mg "PERCENT_SIGN"=some (.int 37 (tk 4))
noncomputable abbrev s_law_feed:Au:=top 77
noncomputable abbrev s_law_next:Au:=top 78
variable {P:Ag}{w:Ak}{K:LR}{mg:Str->Option Ab}{base:Ao}{f cO cO2 cO3 mkT cD:Ac}{fd:AB}{tk:Nat->Tok}{ad:Nat->Ac}
theorem fe (T:Txt mg tk)(F:Fun K "_law_feed" "_law_feed" s_law_feed f fd):FnOk P w K mg base CX0 1 f fd ["_law_script","_law_k"] (Wh K):=by
 refine F.okk ["_law_script","_law_k","_law_cell","_law_left"] ?_
 rintro _ _ _ _ H _ Q _ hr ⟨a,ns,k,rfl,hl,H_,JW,q⟩ nd
 refine⟨_,(LM (pst 2 nd LL)
  (LM (Me (L_ o_gt (pcb (Mq (K:=K)) T.z_len (pa1 (pv 0))) LL (L6 _))
   (LQ (pst 2 nd (pix K (pv 0) (LX N5 (pv 1) (pcb (Mq (K:=K)) T.z_len (pa1 (pv 0)))))))
   Mg)
  (LM (pst 3 nd (pcb c_abs T.z_abs (pa1 (pv 2))))
  (LM (Me (L_ o_lt (pv 3) (LX o_pow LL LL) (L6 _))
   (LQ (pst 3 nd LL))
   Mg)
  (LQ (LY (MZ (LO (pv 3) (LO (LX N5 (LX Mb (LX Mb (pv 2) (LX NB LL (pv 1))) LL) LL) (pa1 LL)))))))))),?_⟩
 walk_at "s0"
 have fin:∀(cell left:Int),0<=left->∀ p,H p=none->Q (.ref p) (upd H p (.lst [.int left,.int ((cell+7919 * k+13) % 2147483399),.int 0])):=fun cell left h0 p hp =>
  q p _ hp ⟨left,_,0,LN,h0,U8 _ (by decide),ZQ _ (by decide),OL 0,OL 0⟩ ((Off.refl p H).upd _)
 have Ca:(ns.map V.int).length=ns.length:=LP _
 ext
 refine iteD (fun c=>?_) (fun c=>?_)
 ·rw[Ca] at c
  ext
  have GK:(k % (ns.length:Int)).toNat < ns.length:=by
   have h1:=ZQ k c
   have h2:=U8 k (show (ns.length:Int)≠0 by omega)
   omega
  refine i_ixK (v:=.int ns[(k % (ns.length:Int)).toNat]) hl ?_ ?_
  ·rw[Ca]
   exact Og (U8 k (by omega)) (by rw[Ma,LS GK];rfl)
  ext
  refine iteD (fun c=>?_) (fun c=>?_)
  ·ext
   exact(fun p hp=>fin _ 0 (OL 0) p hp)
  ·ext
   refine(fun p hp=>fin _ _ ?_ p hp)
   split <;> omega
 ·ext
  exact fun p hp=>fin 0 0 (OL 0) p hp
theorem ff (F:Fun K "_law_next" "_law_next" s_law_next f fd):FnOk P w K mg base CX0 1 f fd ["_law_feed_here","_law_many"] O1:=by
 refine F.okk ["_law_feed_here","_law_many","_law_digit","_law_mixed"] ?_
 rintro _ _ _ _ H _ _ _ hr ⟨p,m,n,rfl,⟨a,b,c,h1,ha,EY,Eb,Gi,Ia⟩,hn,JX,G_,q⟩ nd
 refine⟨_,(LM (Me (L_ o_gt (pix K (pv 0) LL) LL (L6 _))
   (LM (pst 2 nd (LX N5 (pix K (pv 0) LL) (pv 1)))
  (LM (N8 (LX VS (pix K (pv 0) LL) (pv 1)) (Px (pv 0) LL PU))
  (LQ (LY (pv 2)))))
   Mg)
  (LM (N8 (LX Mb (pix K (pv 0) LL) LL) (Px (pv 0) LL PU))
  (LM (pst 3 nd (LX N5 (LX NB (LX N5 (LX Mb (LX Mb (pix K (pv 0) LL) (LX NB LL (pix K (pv 0) LL))) LL) LL) LL) LL))
  (LM (pst 3 nd (LX N5 (LX NB (LX N5 (LX Mb (LX NB (pv 3) LL) (LX NB (pix K (pv 0) LL) (pix K (pv 0) LL))) LL) LL) LL))
  (LQ (LY (LX N5 (LX VS (pv 3) LL) (pv 1)))))))),?_⟩
 walk_at "s0"
 unfold RL at hn
 ext
 refine iteD (fun c0=>?_) (fun c0=>?_)
 ·ext
  exact q _ _ (U8 _ (by omega)) (ZQ _ JX) ⟨a / m,b,c,LN,Int.ediv_nonneg ha (by omega),EY,Eb,Gi,by omega⟩ ((Off.refl p H).upd _)
 ·ext
  exact q _ _ (U8 _ (by omega)) (ZQ _ JX) ⟨a,b,c+1,LN,ha,EY,Eb,by omega,by omega⟩ ((Off.refl p H).upd _)
noncomputable abbrev s_fitting_places:Au:=top 2
noncomputable abbrev s_values_by_fits:Au:=top 3
noncomputable abbrev s_values:Au:=top 4
def spFit:Sp:=fun vs H Q _=>∃(p f:List Nat),vs=[.str (S p),.str (S f)]/\p.length<=1000/\f.length<=1000/\∀(r:Ac) (H':Hp),H r=none->H' r=some (.lst ((MG p f).map fun k:Nat=>V.int (k:Int)))->Same H H'->Q (.ref r) H'
def XT:Sp:=fun vs H Q _=>∃(v:V) (xs:List Pat) (w:List Nat),vs=[v,.str (S w)]/\Is H v (Ou xs)/\(∀ x∈xs,1<=x.1.length/\x.1.length<=1000/\x.2.length<=x.1.length+1)/\xs.length<=9000/\1<=w.length/\w.length<=100 /\
 ∀(r:Ac) (H':Hp),H r=none->H' r=some (.lst ((vals xs w).map V.int))->Same H H'->Q (.ref r) H'
theorem fg {p f:List Nat}{b:Nat}(h:b∈MG p f):b+p.length<=f.length:=by
 unfold MG at h
 have:=(Qt.mp h).2
 unfold fits at this
 simp only[Nn,decide_eq_true_eq] at this
 exact this.1
theorem XU (w:List Nat):[46]++w++[46]=frame w:=by simp[frame]
theorem XV (t:List Int)(p:Nat)(v:Int)(h:p < t.length):(t.map V.int).set p (.int (if v > t[p] then v else t[p]))=(put t p v).map V.int:=by
 unfold put mx
 rw[List.map_set]
 have:t.getD p 0=t[p]:=by simp[L4,h]
 rw[this]
def XW:Sp:=fun vs H Q _=>∃(v:V) (xs:List Fit) (w:List Nat),vs=[v,.str (S w)]/\Is H v (QY xs)/\(∀ x∈xs,x.1+x.2.length<=w.length+3)/\w.length<=100 /\
 ∀(r:Ac) (H':Hp),H r=none->H' r=some (.lst ((cutA (layF (Mw (w.length+3) 0) xs) (some 2) (some (-2))).map V.int))->Same H H'->Q (.ref r) H'
theorem fh (T:Txt mg tk)(F:Fun K "fitting_places" "fitting_places" s_fitting_places f fd):FnOk P w K mg base CX0 1 f fd ["signs","framed"] spFit:=by
 refine F.okk ["signs","framed"] ?_
 rintro _ _ _ _ H _ _ _ hr ⟨p,fr,rfl,hp,hf,q⟩ nd
 refine⟨_,(LQ (LY (Nl ["framed","signs","place"] [some 1,some 0,none] rfl (by kernel_rfl) rfl (Pg rfl T.z_range (pa1 (pcb (Mq (K:=K)) T.z_len (pa1 (pv 1))))) (fun _ _ _ _=>(ME (i:=2) (show (["framed","signs","place"]:List Str).Nodup by decide +kernel) rfl (Or.inl rfl) (Or.inr rfl))) (fun _ _ _ _=>(RH (NC (M9 (K:=K) OJ PySem.F.slot_str_startswith PySem.F.type_str_startswith cK (pv 0) (LO (pv 1) (pa1 (pv 2)))) (fun _=>rfl)))) (fun _ _ _ _=>(pv 2))))),?_⟩
 walk_at "s0"
 ext
 intro r B'
 refine Sz (fun i B6 σ H'=>∃ v,σ=[some (.str (S fr)),some (.str (S p)),v]/\B6=(((L5 i).filter (fits p fr)).map fun k:Nat=>V.int (k:Int))/\Same H H'/\H' r=some (.lst B6))
  ⟨none,rfl,rfl,LW B' _,LN⟩ (fun i B6 σ H' hI9=>by rcases hI9 with ⟨_,_,e,_,e2⟩;exact⟨e2,by rw[e,LP];exact MX (Oz _ _) (by simp)⟩) (szn (by omega)) ?_ ?_
 ·intro i B6 σ H' hi hI9
  obtain⟨v,rfl,rfl,s1,e1⟩:=hI9
  ext
  rw[UA,da]
  refine iteB (fun c=>?_) (fun c=>?_)
  ·ext
   refine⟨e1,_,rfl,?_,fun b o e=>?_,LN⟩
   ·rw[Pb,Op,L3,RV,c,B4 rfl];rfl
   ·have hb:b≠r:=fun z=>by rw[z,B'] at e;cases e
    rw[LU hb];exact s1 b o e
  ·refine⟨_,rfl,?_,s1,?_⟩
   ·rw[Pb,Op,L3,RV,c,B3 Mj];simp
   ·exact e1
 ·intro B6 σ H' hI9
  obtain⟨v,rfl,rfl,s1,e1⟩:=hI9
  refine q r H' B' ?_ s1
  rw[e1]
  show _=some (HO.lst (((L5 fr.length).filter (fits p fr)).map _))
  simp
theorem fi (T:Txt mg tk)(F:Fun K "values_by_fits" "values_by_fits" s_values_by_fits f fd):FnOk P w K mg base CX0 1 f fd ["fits","word"] XW:=by
 refine F.okk ["fits","word","told","begin","numbers","place","number"] ?_
 rintro _ _ _ _ H _ _ _ hr ⟨v,xs,w',rfl,hv,Ds,Dz,q⟩ nd
 obtain⟨a,ys,rfl,ha,Cv⟩:=isFits hv
 refine⟨_,(LM (pst 2 nd (LX NB (MZ (pa1 LL)) (LX Mb (pcb (Mq (K:=K)) T.z_len (pa1 (pv 1))) LL)))
  (LM (MN MH rfl (Mx (K:=K) (pv 0)) (Pw rfl (MU (pnm 3 nd) (MU (pnm 4 nd) OQ)))
   (LQ (MN MH rfl (V9 rfl T.z_enumerate (pv 4) (pv 3)) (Pw rfl (MU (pnm 5 nd) (MU (pnm 6 nd) OQ)))
   (LQ (N8 (pcb (Ob rfl) T.z_max (LO (pix K (pv 2) (pv 5)) (pa1 (pv 6)))) (Px (pv 2) (pv 5) PU))))))
  (LQ (LY (Nk (Nm (K:=K)) (pv 2) (MV LL) (MV (OS OU LL))))))),?_⟩
 walk_at "s0"
 ext
 intro b0 EY
 ext
 refine Wp LN (by omega) fun t Fq=>?_
 have Gj:(Mw (((w'.length:Nat):Int)+3).toNat (V.int 0))=(Mw (w'.length+3) (0:Int)).map V.int:=by
  rw[List.map_replicate];congr 1
 rw[Gj]
 have s0:Same H (upd (upd H b0 (.lst [.int 0])) t (.lst ((Mw (w'.length+3) (0:Int)).map V.int))):=(LW EY _).trans (LW Fq _)
 have Ib:H t=none:=(LW EY _).free Fq
 have EZ:=s0 _ _ ha
 ext
 refine NJ (K:=K) (xs:=ys) (fun i σ H'=>∃(v3 v4 v5 v6:Option V),σ=[some (.ref a),some (.str (S w')),some (.ref t),v3,v4,v5,v6]/\H' t=some (.lst ((layF (Mw (w'.length+3) 0) (xs.take i)).map V.int))/\Same H H')
  ⟨none,none,none,none,rfl,LN,s0⟩ (fun i σ H' _ hI9=>by rcases hI9 with ⟨_,_,_,_,_,_,s1⟩;exact SqL.of (s1 _ _ ha)) ?_ ?_
 ·intro i x σ H1 hx hI9
  obtain⟨v3,v4,v5,v6,rfl,e1,s1⟩:=hI9
  have DJ:i < xs.length:=by
   have h1:=(MJ.mp hx).1
   have h2:=Cv.length
   rw[LP] at h2;omega
  obtain⟨x',d,DV,EF,Gk⟩:=IsL.get Cv (i:=i) (by rw[LP];exact DJ)
  rw[hx] at DV
  cases DV
  rw[Ma,LS DJ] at EF
  cases EF
  obtain⟨pa,nt,rfl,Er,Es⟩:=isFit Gk
  have hg:=Ds _ (MD DJ)
  have Et:=s1 _ _ Er
  have Ec:=s1 _ _ Es
  have Gm:=Xh (xs.take i) (Mw (w'.length+3) 0)
  rw[am] at Gm
  rw[eo DJ]
  generalize layF (Mw (w'.length+3) 0) (xs.take i)=T1 at e1 Gm ⊢
  generalize xs[i]=xi at hg Et Ec Es ⊢
  obtain⟨b,ns⟩:=xi
  refine SE Et rfl (M0 (MY (M0 (MY (Pl ?_)))))
  have hg:b+ns.length<=w'.length+3:=hg
  have Ec:H1 nt=some (.tup (ns.map V.int)):=Ec
  have Es:H nt=some (.tup (ns.map V.int)):=Es
  ext
  refine⟨b,rfl,by omega,i_enST Ec ?_⟩
  refine SD (b:=b) (xs:=ns.map V.int) (fun k σ H'=>∃(v5 v6:Option V),σ=[some (.ref a),some (.str (S w')),some (.ref t),some (.int (b:Int)),some (.ref nt),v5,v6]/\H' t=some (.lst ((laid T1 b (ns.take k)).map V.int))/\Same H H')
   ⟨_,_,rfl,e1,s1⟩ (fun k σ H' _ hI9=>by rcases hI9 with ⟨_,_,_,_,s4⟩;exact s4 _ _ Es) ?_ ?_
  ·rintro k z σ H4 T4 hz ⟨v5,v6,rfl,e4,s4⟩ JY
   have Fs:k < ns.length:=by
    have:=(MJ.mp hz).1
    simpa using this
   rw[Ma,LS Fs] at hz
   cases hz
   have KZ:t≠T4:=Mo e4 JY
   have IM:=Z9 (ns.take k) T1 b
   have E1:ns.take (k+1)=ns.take k++[ns[k]]:=by rw[MA,LS Fs];rfl
   have G':=Ws b ns[k] (ns.take k) T1 b
   rw[<- E1,Mt,aS (OI Fs)] at G'
   rw[G']
   generalize laid T1 b (ns.take k)=T2 at e4 IM ⊢
   have e5:(upd H4 T4 (PrX T4 [.int ((b:Int)+(k:Int)),.int ns[k]])) t=some (.lst (T2.map V.int)):=by rw[LU KZ];exact e4
   have Ft:b+k < T2.length:=by omega
   refine PX LN rfl (M0 (MY (M0 (MY (Pl ?_)))))
   ext
   refine OY (v:=.int T2[b+k]) (Nd e5) (Og (by omega) (by rw[show ((b:Int)+(k:Int)).toNat=b+k by omega,Ma,LS Ft];rfl)) ?_
   ext
   refine QK (j:=b+k) e5 (by rw[LP];rw[SI (by omega) (by omega)];rfl) ?_
   rw[XV T2 (b+k) ns[k] Ft]
   ext
   refine⟨_,_,rfl,LN,fun c o e=>?_⟩
   have HW:c≠t:=fun z=>by rw[z,Ib] at e;cases e
   rw[LU HW]
   exact(LW JY _) c o (s4 c o e)
  ·intro σ H4 hI9
   obtain⟨v5,v6,rfl,e4,s4⟩:=hI9
   rw[LP,Mz] at e4
   ext
   exact⟨_,_,_,_,rfl,e4,s4⟩
 ·intro σ H1 hI9
  obtain⟨v3,v4,v5,v6,rfl,e1,s1⟩:=hI9
  have h2:=Cv.length
  rw[LP] at h2
  rw[h2,Mz] at e1
  ext
  refine Of (SqL.of e1) fun r EN=>?_
  rw[Wl,Wq]
  ext
  exact q r _ (s1.free EN) LN (s1.trans (LW EN _))
theorem fj (T:Txt mg tk)(F:Fun K "values" "values" s_values f fd)(Cw:Dn P w K mg base "fitting_places" 1 ["signs","framed"] spFit)(Cy:Dn P w K mg base "values_by_fits" 1 ["fits","word"] XW):FnOk P w K mg base CX0 2 f fd ["patterns","word"] XT:=by
 refine F.okk ["patterns","word","framed","fits","pattern"] ?_
 rintro _ _ _ _ H _ _ _ hr ⟨v,xs,w',rfl,hv,Ds,Ea,C6,Dz,q⟩ nd
 obtain⟨a,ys,rfl,ha,Cv⟩:=QR hv
 refine⟨_,(LM (pst 2 nd (LX Mb (LX Mb (L8 Ny) (pv 1)) (L8 Ny)))
  (LM (pst 3 nd (MZ Ph))
  (LM (MN MH rfl (Mx (K:=K) (pv 0)) (ME (i:=4) nd rfl (Or.inr rfl))
   (LQ (OP (M9 (K:=K) Pd iR iS Xf (pv 3) (pa1 (Nl ["pattern","begin"] [some 4,none] rfl (by kernel_rfl) rfl (Mx (K:=K) (L0 Cw hr.LV rfl (LO (pix K (pv 4) LL) (pa1 (pv 2))))) (fun _ _ _ _=>(ME (i:=1) (show (["pattern","begin"]:List Str).Nodup by decide +kernel) rfl (Or.inl rfl) (Or.inr rfl))) (fun _ _ _ _=>Nq) (fun _ _ _ _=>(Nw (LO (pv 1) (pa1 (pix K (pv 0) LL)))))))))))
  (LQ (LY (L0 Cy hr.LV rfl (LO (pv 3) (pa1 (pv 1))))))))),?_⟩
 walk_at "s0"
 have EM:=Z_ w'
 ext
 rw[XU]
 intro r B'
 have ra:(upd H r (.lst [])) a=some (.lst ys):=(LW B' _) _ _ ha
 ext
 refine NJ (K:=K) (xs:=ys) (fun i σ H'=>∃(v4:Option V) (zs:List V),σ=[some (.ref a),some (.str (S w')),some (.str (S (frame w'))),some (.ref r),v4]/\H' r=some (.lst zs)/\IsL H' zs ((Pm (frame w') (xs.take i)).map fitD)/\Same H H')
  ⟨none,[],rfl,LN,(by simp[Pm,L2.IsL]),LW B' _⟩ (fun i σ H' _ hI9=>by rcases hI9 with ⟨_,_,_,_,_,s1⟩;exact SqL.of (s1 _ _ ha)) ?_ ?_
 ·intro i x σ H1 hx hI9
  obtain⟨v4,zs,rfl,e1,Ff,s1⟩:=hI9
  have DJ:i < xs.length:=by
   have h1:=(MJ.mp hx).1
   have h2:=Cv.length
   rw[LP] at h2;omega
  obtain⟨x',d,DV,EF,Gk⟩:=IsL.get Cv (i:=i) (by rw[LP];exact DJ)
  rw[hx] at DV
  cases DV
  rw[Ma,LS DJ] at EF
  cases EF
  obtain⟨pa,nt,rfl,Er,Es⟩:=P0 Gk
  obtain⟨GL,Ha,JZ⟩:=Ds _ (MD DJ)
  have Et:=s1 _ _ Er
  have Ec:=s1 _ _ Es
  have Fp:zs.length<=9000 * 102:=by
   have h1:=Ff.length
   rw[LP] at h1
   have h2:=Xl (frame w') (xs.take i)
   have h3:(xs.take i).length<=9000:=by rw[Mt];omega
   have h4:(xs.take i).length * (frame w').length<=9000 * 102:=Nat.mul_le_mul h3 (by omega)
   omega
  rw[ez DJ]
  generalize xs[i]=xi at Er Es Et Ec GL Ha JZ ⊢
  ext
  refine⟨xi.1,frame w',rfl,Ha,by omega,fun p H2 DA e2 s2=>?_⟩
  have IN:=s2 _ _ Et
  have CG:=Xk xi.1 (frame w')
  ext
  intro c Gi
  have rc:r≠c:=Mo (s2 _ _ e1) Gi
  refine Pk (K:=K) (xs:=(MG xi.1 (frame w')).map fun k:Nat=>V.int (k:Int)) (fun j B6 σ H'=>∃ v,σ=[some (.ref pa),v]/\B6.length=j/\H' c=some (.lst B6)/\IsL H' B6 ((((MG xi.1 (frame w')).take j).map fun b=>(b,xi.2)).map fitD)/\Same H2 H')
   (fun j B6 σ H' _ hI9=>by rcases hI9 with ⟨_,_,_,_,_,s3⟩;exact SqL.of (s3 _ _ e2)) ⟨none,rfl,rfl,LN,(by simp[L2.IsL]),LW Gi _⟩ (fun j B6 σ H' hI9=>by rcases hI9 with ⟨_,_,e,e3,_⟩;exact⟨e3,aU e⟩) (szn (by rw[LP];omega)) ?_ ?_
  ·intro j B6 σ H3 hj hI9
   obtain⟨v,rfl,Fo,e3,Hb,s3⟩:=hI9
   have hj':j < (MG xi.1 (frame w')).length:=by simpa using hj
   have K0:=s3 _ _ IN
   have K1:((MG xi.1 (frame w')).map fun k:Nat=>V.int (k:Int)).getD j .non=V.int ((MG xi.1 (frame w'))[j]:Int):=by
    rw[L4,Ma,LS hj'];rfl
   rw[K1]
   ext
   intro t Fq
   have tc:c≠t:=Mo e3 Fq
   have e4:(upd H3 t (.tup [.int ((MG xi.1 (frame w'))[j]:Int),.ref nt])) c=some (.lst B6):=by rw[LU tc];exact e3
   have k4:Tk H3 (upd (upd H3 t (.tup [.int ((MG xi.1 (frame w'))[j]:Int),.ref nt])) c (.lst (B6++[.ref t]))):=(Tk.new Fq _).trans (Tk.lst e4 _)
   refine⟨e4,_,rfl,by simp[Fo],LN,?_,fun b o e=>?_⟩
   ·have Fe:(MG xi.1 (frame w')).take (j+1)=(MG xi.1 (frame w')).take j++[(MG xi.1 (frame w'))[j]]:=by rw[MA,LS hj'];rfl
    rw[Fe,L3,L3]
    refine IsL.snoc (IsL.tk k4 (ek _) Hb) (em (x:=((MG xi.1 (frame w'))[j],xi.2)) ?_ (k4 _ _ (s3 _ _ (s2 _ _ Ec))))
    rw[LU tc.symm];exact LN
   ·have K2:b≠c:=fun z=>by rw[z,Gi] at e;cases e
    rw[LU K2];exact(LW Fq _) _ _ (s3 _ _ e)
  ·intro B6 σ H3 hI9
   obtain⟨v,rfl,Fo,e3,Hb,s3⟩:=hI9
   rw[LP] at Fo Hb
   rw[Mz] at Hb
   have e3r:H3 r=some (.lst zs):=s3 _ _ (s2 _ _ e1)
   ext
   refine Xg e3r e3 (szn (by omega)) ?_
   ext
   have k5:Tk H3 (upd H3 r (.lst (zs++B6))):=Tk.lst e3r _
   refine⟨_,zs++B6,rfl,LN,?_,fun b o e=>?_⟩
   ·rw[L3]
    exact IsL.append (IsL.tk k5 (ek _) (IsL.same (s2.trans s3) Ff)) (IsL.tk k5 (ek _) Hb)
   ·have Gn:b≠r:=fun z=>by rw[z,B'] at e;cases e
    rw[LU Gn];exact s3 _ _ (s2 _ _ (s1 _ _ e))
 ·intro σ H1 hI9
  obtain⟨v4,zs,rfl,e1,Ff,s1⟩:=hI9
  have h2:=Cv.length
  rw[LP] at h2
  rw[h2,Mz] at Ff
  ext
  refine⟨.ref r,Pm (frame w') xs,w',rfl,?_,fun y hy=>?_,Dz,fun r2 H2 Ed e2 s2=>?_⟩
  ·simp only[Is,QY];exact⟨r,zs,rfl,e1,Ff⟩
  ·obtain⟨x,hx,hp,he⟩:=eB hy
   have h3:=fg hp
   have h4:=(Ds x hx).2.2
   rw[he];omega
  ·rw[Xj,show w'.length+3=(frame w').length+1 by omega,df xs w' C6] at e2
   exact q r2 H2 (s1.free Ed) e2 (s1.trans s2)
noncomputable abbrev s_beginnings:Au:=top 7
theorem i_disp (h:∀ p,H p=none->P7 trs σ (upd H p (.dK [])) fun ps H2=>H2 p=some (.dK [])/\∃ B7:List (Key×V),ps=B7.map (fun kv=>(kV kv.1,kv.2))/\B7.length<=15/\Q (.ref p) (upd H2 p (.dK (Oi [] B7)))):tDisp trs σ H Q:=h
theorem Tq (h:tv σ H fun v H1=>td σ H1 fun x H2=>ty σ H2 fun y H3=>∃ a H4,x=.ref a/\DPut H3 a y v H4/\D.nx σ H4):sDPut td ty tv D σ H:=h
def XX:Sp:=fun vs H Q _=>∃(v:V) (xs:List Pat),vs=[v]/\Is H v (Ou xs)/\(∀ x∈xs,x.1.length<=100)/\xs.length<=1000/\∀(a:Ac) (H':Hp),H a=none->H' a=some (.dK (bT (begs xs)))->Same H H'->Q (.ref a) H'
theorem fk (T:Txt mg tk)(F:Fun K "beginnings" "beginnings" s_beginnings f fd):FnOk P w K mg base CX0 1 f fd ["patterns"] XX:=by
 refine F.okk ["patterns","met","pattern","signs","end"] ?_
 rintro _ _ _ s H _ _ _ hr ⟨v,xs,rfl,hv,Ds,Ea,q⟩ nd
 obtain⟨b,ys,rfl,hb,Cv⟩:=QR hv
 have De:ys.length=xs.length:=by have:=Cv.length;simpa using this
 refine⟨_,(LM (pst 1 nd (pe_disp (dC (L8 Oh) Ni pps_nil) rfl rfl (by simp) (by decide)))
  (LM (MN MH rfl (Mx (K:=K) (pv 0)) (pnm 2 nd)
   (LM (pst 3 nd (pix K (pv 2) LL))
  (LQ (MN MH rfl (R7 rfl T.z_range (LO LL (pa1 (LX Mb (pcb (Mq (K:=K)) T.z_len (pa1 (pv 3))) LL)))) (pnm 4 nd)
   (LQ (QT (Pi hr) (pv 1) (Nk (Nm (K:=K)) (pv 3) NL (MV (pv 4))) Ni rfl))))))
  (LQ (LY (pv 1))))),?_⟩
 walk_at "s0"
 ext
 refine i_disp fun a ha=>?_
 simp only[P7]
 ext
 refine⟨LN,[(Sum.inr (S []),.bl true)],rfl,by decide,?_⟩
 rw[upd_upd]
 have hm:Oi [] [((Sum.inr (S []):Key),V.bl true)]=bT [[]]:=rfl
 rw[hm]
 have s1:=LW ha (.dK (bT [[]]))
 have e1:(upd H a (.dK (bT [[]]))) a=some (.dK (bT [[]])):=LN
 have Eb:=s1 _ _ hb
 have Hc:=IsL.same s1 Cv
 have put:∀{H2:Hp}{ns:List (List Nat)}{z:List Nat}{B7},H2 a=some (.dK B7)->Same H H2->Same H (upd H2 a (.dK (bT ns))):=fun{H2 ns z B7} e s c o ec=>by
  have hc:c≠a:=fun q=>by rw[q,ha] at ec;cases ec
  rw[LU hc];exact s c o ec
 ext
 refine NJ (K:=K) (xs:=ys) (fun i σ H'=>∃(v2 v3 v4:Option V),σ=[some (.ref b),some (.ref a),v2,v3,v4]/\H' a=some (.dK (bT (begA [[]] (xs.take i))))/\Same H H')
  ⟨none,none,none,rfl,e1,s1⟩ (fun i σ H' _ hI9=>by rcases hI9 with ⟨_,_,_,_,_,s⟩;exact SqL.of (s _ _ hb)) ?_ ?_
 ·intro i y σ H2 hy hI9
  obtain⟨v2,v3,v4,rfl,e2,s2⟩:=hI9
  have hi:i < xs.length:=by
   have:=(MJ.mp hy).1
   omega
  obtain⟨y',d,hy',Df,hI⟩:=IsL.get (IsL.same s2 Cv) (show i < (xs.map patD).length by simpa using hi)
  rw[hy] at hy'
  cases hy'
  rw[Ma,LS hi] at Df
  cases Df
  obtain⟨a2,t2,rfl,ea2,et2⟩:=P0 hI
  have hxi:=Ds xs[i] (MD hi)
  have IP:=S6 (c:=100) (xs.take i) [[]] fun x hx=>Ds x (Ro hx)
  have D6:(xs.take i).length<=1000:=by rw[Mt];omega
  have Ic:(xs.take i).length * 100<=1000 * 100:=Nat.mul_le_mul_right _ D6
  ext
  refine RD (fun j σ H'=>∃(v4:Option V),σ=[some (.ref b),some (.ref a),some (.ref a2),some (.str (S xs[i].1)),v4]/\H' a=some (.dK (bT (begS (begA [[]] (xs.take i)) xs[i].1 j)))/\Same H H') ⟨_,rfl,e2,s2⟩ ?_ ?_
  ·intro j σ H3 hj hI9
   obtain⟨v4',rfl,e3,s3⟩:=hI9
   have hj:j < xs[i].1.length:=by omega
   refine Tq ?_
   ext
   have Ee:cutA xs[i].1 none (some (1+(j:Int)))=xs[i].1.take (j+1):=by
    have:=Z8 xs[i].1 0 (j+1) (by omega) (by omega)
    rw[show (1+(j:Int))=((j+1:Nat):Int) by omega]
    have e0:cutA xs[i].1 none (some ((j+1:Nat):Int))=cutA xs[i].1 (some ((0:Nat):Int)) (some ((j+1:Nat):Int)):=by
     unfold cutA
     simp[sx]
    rw[e0,this,ZB,aW]
   rw[Ee]
   have Hd:=S5 (begA [[]] (xs.take i)) xs[i].1 j
   refine⟨a,_,rfl,DPut.k (k:=Sum.inr (S (xs[i].1.take (j+1)))) e3 ?_,?_⟩
   ·have Em:(bT (begS (begA [[]] (xs.take i)) xs[i].1 j)).length<=200000:=by
     unfold bT
     rw[LP]
     simp only[Mr,NO] at IP
     omega
    exact Qv Em (by decide)
   ·ext
    rw[bT_put,<- S4]
    exact⟨_,rfl,LN,put (z:=[]) e3 s3⟩
  ·intro σ H3 hI9
   obtain⟨v4',rfl,e3,s3⟩:=hI9
   have hz:(((xs[i].1.length:Nat):Int)+1 - 1).toNat=xs[i].1.length:=by omega
   refine⟨_,_,_,rfl,?_,s3⟩
   rw[e3,MA,LS hi]
   show some (HO.dK (bT _))=some (HO.dK (bT (begA [[]] (xs.take i++[xs[i]]))))
   rw[dH]
   congr 4
 ·intro σ H2 hI9
  obtain⟨v2,v3,v4,rfl,e2,s2⟩:=hI9
  rw[De,Mz] at e2
  ext
  exact q a H2 ha e2 s2
noncomputable abbrev s_told_at_end:Au:=top 10
theorem i_dget1 (h:td σ H fun x H1=>∃ a,x=.ref a/\IsD H1 a/\ty σ H1 fun y H2=>∃ o,DGet H2 a y o/\Q (o.getD .non) H2):WP td ty σ H Q:=h
def spTAE:Sp:=fun vs H Q _=>∃(d:Ac) (B7:List (Key×V)) (gs:List Pat) (x:List Nat) (back:Nat),vs=[.ref d,.str (S x),.int (back:Int)]/\H d=some (.dK B7)/\NT H B7 gs/\(∀ g∈gs,g.2.length=g.1.length+1)/\x.length<=1000/\back<=1000/\Q (.int (tAE gs x back (x.length+1 - back))) H
theorem fm (T:Txt mg tk)(F:Fun K "told_at_end" "told_at_end" s_told_at_end f fd):FnOk P w K mg base CX0 1 f fd ["numbers_by_signs","text","back"] spTAE:=by
 refine F.okk ["numbers_by_signs","text","back","told","length","numbers"] ?_
 rintro _ _ _ _ H _ _ _ hr ⟨d,B7,gs,x,back,rfl,hd,hN,hg,hx,Ft,q⟩ nd
 refine⟨_,(LM (pst 3 nd LL)
  (LM (MN MH rfl (R7 rfl T.z_range (LO (pv 2) (pa1 (LX Mb (pcb (Mq (K:=K)) T.z_len (pa1 (pv 1))) LL)))) (pnm 4 nd)
   (LM (pst 5 nd (dD (Pi hr) (pv 0) (Nk (Nm (K:=K)) (pv 1) (MV (LX Pj (pcb (Mq (K:=K)) T.z_len (pa1 (pv 1))) (pv 4))) NL) ⟨rfl,rfl,rfl,rfl⟩))
  (LQ (Me (L_ VU (pv 5) Qj (L6 _))
   (LQ (pst 3 nd (pcb (Ob rfl) T.z_max (LO (pv 3) (pa1 (pix K (pv 5) (LX Pj (pv 4) (pv 2))))))))
   Mg))))
  (LQ (LY (pv 3))))),?_⟩
 walk_at "s0"
 ext
 refine RD (fun j σ H'=>∃(v4 v5:Option V),H'=H/\σ=[some (.ref d),some (.str (S x)),some (.int (back:Int)),some (.int (tAE gs x back j)),v4,v5]) ⟨none,none,rfl,rfl⟩ ?_ ?_
 ·intro j σ H' hj hI9
  obtain⟨v4,v5,rfl,rfl⟩:=hI9
  have hj:back+j<=x.length:=by omega
  ext
  refine i_dget1 ?_
  ext
  refine⟨d,rfl,.inl ⟨B7,.inl hd⟩,?_⟩
  ext
  have Ee:cutA x (some ((x.length:Int) - ((back:Int)+(j:Int)))) none=x.drop (x.length - (back+j)):=by
   rw[show ((x.length:Int) - ((back:Int)+(j:Int)))=((x.length - (back+j):Nat):Int) by omega]
   exact SO x _ (by omega)
  rw[Ee]
  refine⟨_,DGet.k (k:=Sum.inr (S (x.drop (x.length - (back+j))))) hd,?_⟩
  have Fu:=WT gs x back j
  rcases hN.val (z:=x.drop (x.length - (back+j))) with ⟨h1,h2⟩ | ⟨g,t,h1,IQ,IR,h2,h3⟩
  ·rw[h2]
   rw[h1] at Fu
   ext
   exact⟨_,_,rfl,by rw[Fu];rfl⟩
  ·rw[h2]
   rw[h1] at Fu
   have EW:=hg g IQ
   rw[IR] at EW
   have D':(x.drop (x.length - (back+j))).length=back+j:=by rw[Ng];omega
   rw[D'] at EW
   have He:j < g.2.length:=by omega
   ext
   refine OY (v:=.int g.2[j]) (So h3) (Og (by omega) (by rw[show ((back:Int)+(j:Int) - (back:Int)).toNat=j by omega,Ma,LS He];rfl)) ?_
   ext
   refine⟨some (.int ((back:Int)+(j:Int))),some (.ref t),rfl,?_⟩
   rw[Fu]
   have eg:g.2.getD j 0=g.2[j]:=by rw[L4,LS He];rfl
   simp only[eg]
   rfl
 ·intro σ H' hI9
  obtain⟨v4,v5,rfl,rfl⟩:=hI9
  ext
  have hz:((x.length:Int)+1 - (back:Int)).toNat=x.length+1 - back:=by omega
  rw[hz]
  exact q
noncomputable abbrev s_greatest_numbers:Au:=top 8
theorem i_dget2 (h:td σ H fun x H1=>∃ a,x=.ref a/\IsD H1 a/\ty σ H1 fun y H2=>tx σ H2 fun z H3=>∃ o,DGet H3 a y o/\Q (o.getD z) H3):WQ td ty tx σ H Q:=h
theorem Tr (h:∀ p,H p=none->Q (.ref p) (upd H p (.dK []))):WM σ H Q:=h
theorem i_zipT (h:ta σ H fun x H1=>tb σ H1 fun y H2=>P9 R x y H2):iZipT ta tb σ H R:=h
def spGrt:Sp:=fun vs H Q _=>∃(v:V) (xs:List Pat),vs=[v]/\Is H v (Ou xs)/\(∀ x∈xs,x.1.length<=100/\x.2.length=x.1.length+1)/\xs.length<=1000/\∀(a:Ac) (B7:List (Key×V)) (H':Hp),H a=none->H' a=some (.dK B7)->NT H' B7 (grt xs)->Same H H'->Q (.ref a) H'
theorem i_zpT (h1:H b=some (.tup xs)) (h2:H a=some (.tup ys)) (h:R (Izp xs ys fun H=>H b=some (.tup xs)/\H a=some (.tup ys)) H):P9 R (.ref b) (.ref a) H:=⟨xs,ys,h1,h2,h⟩
theorem best_mx (h1:m∈[a,b]) (h2:∀ n∈[a,b],n<=m):m=mx a b:=by
 have q1:=h2 a (by simp)
 have q2:=h2 b (by simp)
 simp at h1
 unfold mx
 split <;> rcases h1 with h | h <;> omega
theorem jm (T:Txt mg tk)(F:Fun K "greatest_numbers" "greatest_numbers" s_greatest_numbers f fd):FnOk P w K mg base CX0 1 f fd ["patterns"] spGrt:=by
 refine F.okk ["patterns","greatest","pattern","signs","earlier"] ?_
 rintro _ _ _ s H _ _ _ hr ⟨v,xs,rfl,hv,Ds,Ea,q⟩ nd
 obtain⟨b,ys,rfl,hb,Cv⟩:=QR hv
 have De:ys.length=xs.length:=by have:=Cv.length;simpa using this
 refine⟨_,(LM (pst 1 nd S3)
  (LM (MN MH rfl (Mx (K:=K) (pv 0)) (pnm 2 nd)
   (LM (pst 3 nd (pix K (pv 2) LL))
  (LM (pst 4 nd (dE (Pi hr) (pv 1) (pv 3) (pix K (pv 2) LL) ⟨rfl,rfl,rfl,rfl⟩))
  (LQ (QT (Pi hr) (pv 1) (pv 3) (pct PR T.z_tuple (pa1 (Nl ["both"] [none] rfl (by kernel_rfl) rfl (pi_zipT rfl T.z_zip (pv 4) (pix K (pv 2) LL)) (fun _ _ _ _=>(ME (i:=0) (show (["both"]:List Str).Nodup by decide +kernel) rfl (Or.inl rfl) (Or.inr rfl))) (fun _ _ _ _=>Nq) (fun _ _ _ _=>(pcb (c_maxP rfl) T.z_max (pa1 (pv 0))))))) rfl)))))
  (LQ (LY (pv 1))))),?_⟩
 walk_at "s0"
 ext
 refine Tr fun a ha=>?_
 have s1:=LW ha (.dK [])
 ext
 refine Oe (SqL.of (s1 _ _ hb)) ?_
 refine NJ (K:=K) (xs:=ys) (fun i σ H'=>∃(v2 v3 v4:Option V) (B7:List (Key×V)),σ=[some (.ref b),some (.ref a),v2,v3,v4]/\H' a=some (.dK B7)/\NT H' B7 (grt (xs.take i))/\B7.length<=i/\Same H H')
  ⟨none,none,none,[],rfl,LN,trivial,LZ _,s1⟩ (fun i σ H' _ hI9=>by rcases hI9 with ⟨_,_,_,_,_,_,_,_,s⟩;exact SqL.of (s _ _ hb)) ?_ ?_
 ·intro i y σ H2 hy hI9
  obtain⟨v2,v3,v4,B7,rfl,e2,hN,Fs,s2⟩:=hI9
  have hi:i < xs.length:=by
   have:=(MJ.mp hy).1
   omega
  obtain⟨y',d,hy',Df,hI⟩:=IsL.get (IsL.same s2 Cv) (show i < (xs.map patD).length by simpa using hi)
  rw[hy] at hy'
  cases hy'
  rw[Ma,LS hi] at Df
  cases Df
  obtain⟨a2,t2,rfl,ea2,et2⟩:=P0 hI
  obtain⟨DV,EF⟩:=Ds xs[i] (MD hi)
  ext
  refine i_dget2 ?_
  ext
  refine⟨a,rfl,.inl ⟨B7,.inl e2⟩,?_⟩
  ext
  have EW:=S7 (xs:=xs.take i) (gs:=[]) (fun g hg=>nomatch hg) fun x hx=>(Ds x (Ro hx)).2
  obtain⟨te,es,Hf,E2,K3,J0⟩:∃ te es,(valV B7 (Sum.inr (S xs[i].1))).getD (.ref t2)=.ref te/\H2 te=some (.tup (es.map V.int))/\es=((Nf (grt (xs.take i)) xs[i].1).map (·.2)).getD xs[i].2/\es.length=xs[i].2.length:=by
   rcases hN.val (z:=xs[i].1) with ⟨q1,q2⟩ | ⟨g,t,q1,IQ,IR,q2,q3⟩
   ·exact⟨t2,xs[i].2,by rw[q2];rfl,et2,by rw[q1];rfl,rfl⟩
   ·refine⟨t,g.2,by rw[q2];rfl,q3,by rw[q1];rfl,?_⟩
    rw[EW g IQ,IR,EF]
  refine⟨_,DGet.k (k:=Sum.inr (S xs[i].1)) e2,?_⟩
  rw[Hf]
  ext
  refine Tq ?_
  ext
  refine i_zipT ?_
  ext
  refine i_zpT E2 et2 ?_
  intro r B'
  have ra:a≠r:=Mo e2 B'
  refine W_ xs[i].2.length (by rw[LP,LP];omega) (fun j B6 σ H'=>∃ v1,σ=[v1]/\B6=((NS es xs[i].2).take j).map V.int/\Same H2 H'/\H' r=some (.lst B6))
   (fun j B6 σ H' _ hI9=>by rcases hI9 with ⟨_,_,_,s3,_⟩;exact⟨s3 _ _ E2,s3 _ _ et2⟩) ⟨none,rfl,rfl,LW B' _,LN⟩ (fun j B6 σ H' hI9=>by rcases hI9 with ⟨_,_,e,_,e3⟩;exact⟨e3,by rw[e,LP,Mt];omega⟩) (szn (by omega)) ?_ ?_
  ·rintro j u v B6 σ H3 T2 hu hv' ⟨v1,rfl,rfl,s3,e3⟩ hT
   have hj:j < xs[i].2.length:=by
    have:=(MJ.mp hv').1
    simpa using this
   have Ie:j < es.length:=by omega
   rw[Ma,LS Ie] at hu
   cases hu
   rw[Ma,LS hj] at hv'
   cases hv'
   have s4:=LW hT (PrX T2 [.int es[j],.int xs[i].2[j]])
   have e4:=s4 _ _ e3
   ext
   refine i_bestP (ns:=[es[j],xs[i].2[j]]) LN (by simp) fun m G_ Ic=>?_
   rw[best_mx G_ Ic]
   refine⟨e4,_,rfl,?_,fun c o e=>?_,LN⟩
   ·rw[dI Ie hj,L3];rfl
   ·have hc:c≠r:=fun z=>by rw[z,B'] at e;cases e
    rw[LU hc];exact s4 _ _ (s3 c o e)
  ·intro B6 σ H3 hI9
   obtain⟨v1,rfl,rfl,s3,e3⟩:=hI9
   rw[<- J0,<- WU J0,Mz] at e3
   ext
   refine Wb (Nd e3) fun t H4 ht k4=>?_
   ext
   have s4:Same H2 H4:=fun c o e=>k4 c o (s3 c o e)
   have e4:=s4 _ _ e2
   have K4:=(hN.same s4).put (s:=xs[i].1) ht
   refine⟨a,_,rfl,DPut.k (k:=Sum.inr (S xs[i].1)) e4 (Qv (show B7.length<=1000 by omega) (by decide)),?_⟩
   refine⟨_,_,_,_,rfl,LN,?_,?_,fun c o e=>?_⟩
   ·rw[MA,LS hi]
    show NT _ _ (grt (xs.take i++[xs[i]]))
    rw[WV]
    have hg:grtS (grt (xs.take i)) xs[i]=putG (grt (xs.take i)) xs[i].1 (NS es xs[i].2):=by unfold grtS;rw[<- K3]
    rw[hg]
    exact K4.tups fun b' zs e=>by
     have hb':b'≠a:=fun z=>by rw[z,e4] at e;cases e
     rw[LU hb'];exact e
   ·have:=Z' B7 (Sum.inr (S xs[i].1):Key) (V.ref t)
    omega
   ·have hc:c≠a:=fun z=>by rw[z,ha] at e;cases e
    rw[LU hc];exact s4 _ _ (s2 c o e)
 ·intro σ H2 hI9
  obtain⟨v2,v3,v4,B7,rfl,e2,hN,Fs,s2⟩:=hI9
  rw[De,Mz] at hN
  ext
  exact q a B7 H2 ha e2 hN s2
structure Ow (K:LR)(mg:Str->Option Ab)(cO:Ac):Prop where
 m_Sight:mg "Sight"=some (.ref cO)
 cl:Cls K cO
 n_known:NoAttr K cO "known"
 n_one_numbers:NoAttr K cO "one_numbers"
 n_other_numbers:NoAttr K cO "other_numbers"
noncomputable abbrev s_Sight_init:Au:=N3 (top 11) 0
noncomputable abbrev s_Sight_tail_of:Au:=N3 (top 11) 1
noncomputable abbrev s_Sight_pair_at_end:Au:=N3 (top 11) 2
noncomputable abbrev s_Sight_first:Au:=N3 (top 11) 3
noncomputable abbrev s_Sight_by_letter:Au:=N3 (top 11) 4
noncomputable abbrev s_Sight_by_end:Au:=N3 (top 11) 5
def SightAt (C:Ac)(H:Hp)(p:Ac)(one other:List Pat):Prop:=∃(dx kd od td:Ac) (ko kt:List (Key×V)),H p=some (.ins C dx [(("known":Str),.ref kd),(("one_numbers":Str),.ref od),(("other_numbers":Str),.ref td)]) /\
 H kd=some (.dK (bT (begs (one++other))))/\H od=some (.dK ko)/\NT H ko (grt one)/\H td=some (.dK kt)/\NT H kt (grt other)
theorem SightAt.same (s:Same H H') (h:SightAt C H p one other):SightAt C H' p one other:=by
 obtain⟨dx,kd,od,td,ko,kt,h1,h2,h3,h4,h5,h6⟩:=h
 exact⟨dx,kd,od,td,ko,kt,s _ _ h1,s _ _ h2,s _ _ h3,h4.same s,s _ _ h5,h6.same s⟩
def OkP (xs:List Pat):Prop:=(∀ x∈xs,1<=x.1.length/\x.1.length<=22/\x.2.length=x.1.length+1)/\xs.length<=100
theorem OkP.grt (h:OkP xs):∀ g∈L2.grt xs,g.2.length=g.1.length+1:=S7 (fun g hg=>nomatch hg) fun x hx=>(h.1 x hx).2.2
def XY (C:Ac):Sp:=fun vs H Q _=>∃(p a b dx:Ac) (ya yb:List V) (one other:List Pat),vs=[.ref p,.ref a,.ref b]/\H p=some (.ins C dx [])/\H a=some (.lst ya)/\H b=some (.lst yb)/\L2.IsL H ya (one.map patD)/\L2.IsL H yb (other.map patD)/\OkP one/\OkP other /\
 ∀ H',SightAt C H' p one other->(∀ b o,b≠p->H b=some o->H' b=some o)->Q .non H'
def Tt (C:Ac):Sp:=fun vs H Q _=>∃(p:Ac) (one other:List Pat) (t:List Nat),vs=[.ref p,.str (S t)]/\SightAt C H p one other/\t.length<=1000/\Q (.str (S (Mf (begs (one++other)) t))) H
noncomputable def tell (xs:List Pat)(t:List Nat)(back:Nat)(i:Int):Int:=mx i (tAE (grt xs) t back (t.length+1 - back))
def Tu (C:Ac):Sp:=fun vs H Q _=>∃(p:Ac) (one other:List Pat) (t:List Nat) (back:Nat) (i j:Int),vs=[.ref p,.str (S t),.int (back:Int),.int i,.int j]/\SightAt C H p one other/\OkP one/\OkP other/\t.length<=1000/\back<=1000 /\
 ∀(a:Ac) (H':Hp),H a=none->H' a=some (.tup [.int (tell one t back i),.int (tell other t back j)])->Same H H'->Q (.ref a) H'
def XZ (C:Ac):Sp:=fun vs H Q _=>∃(p:Ac) (one other:List Pat),vs=[.ref p]/\SightAt C H p one other /\
 ∀(a:Ac) (H':Hp),H a=none->H' a=some (.tup [.str (S (Mf (begs (one++other)) [46])),.non,.int 0,.int 0])->Same H H'->Q (.ref a) H'
noncomputable def Om (one other:List Pat)(v:View)(c:Nat):View:=⟨Mf (begs (one++other)) (v.t++[c]),some ((v.b.map (·+1)).getD 0),tell one (Mf (begs (one++other)) (v.t++[c])) ((v.b.map (·+1)).getD 0) v.i,tell other (Mf (begs (one++other)) (v.t++[c])) ((v.b.map (·+1)).getD 0) v.j⟩
noncomputable def Q2 (one other:List Pat)(v:View)(c:Nat):Bool:=decide ((Om one other v c).t.length < (v.b.map (·+1)).getD 0)
noncomputable def No (one other:List Pat)(v:View)(c:Nat):List View:=if Q2 one other v c=true then [] else (if v.b=none then [⟨(Om one other v c).t,none,0,0⟩] else [])++[Om one other v c]
noncomputable def NV (one other:List Pat)(v:View)(c:Nat):List (Int×Int):=if Q2 one other v c=true then [((Om one other v c).i,(Om one other v c).j)] else []
def OkV (v:View):Prop:=v.t.length<=100/\∀ n,v.b=some n->n<=100
noncomputable def Ox (one other:List Pat)(v:View):List (Int×Int):=match v.b with
 | none=>[]
 | some 0=>[]
 | some (n+1)=>[(tell one (v.t++[46]) (n+2) v.i,tell other (v.t++[46]) (n+2) v.j)]
def Told2 (H:Hp)(zd ud:List Dt)(Q:VK):Prop:=∀(a lv lp:Ac) (zs us:List V) (H':Hp),H' a=some (.tup [.ref lv,.ref lp])->H' lv=some (.lst zs)->H' lp=some (.lst us)->lv≠lp->H lv=none->H lp=none->L2.IsL H' zs zd->L2.IsL H' us ud->Same H H'->Q (.ref a) H'
def Told1 (H:Hp)(ud:List Dt)(Q:VK):Prop:=∀(lp:Ac) (us:List V) (H':Hp),H' lp=some (.lst us)->H lp=none->L2.IsL H' us ud->Same H H'->Q (.ref lp) H'
def X0 (C:Ac):Sp:=fun vs H Q _=>∃(p va:Ac) (one other:List Pat) (v:View) (c:Nat),vs=[.ref p,.ref va,.str (S [c])]/\SightAt C H p one other/\OkP one/\OkP other/\OkV v/\H va=some (.tup [.str (S v.t),bV v.b,.int v.i,.int v.j]) /\
 Told2 H ((No one other v c).map NN) ((NV one other v c).map Ov) Q
def X1 (C:Ac):Sp:=fun vs H Q _=>∃(p va:Ac) (one other:List Pat) (v:View),vs=[.ref p,.ref va]/\SightAt C H p one other/\OkP one/\OkP other/\OkV v/\H va=some (.tup [.str (S v.t),bV v.b,.int v.i,.int v.j]) /\
 Told1 H ((Ox one other v).map Ov) Q
def Two (H:Hp)(a b:Ac)(one other:List Pat):Prop:=∃ ya yb,H a=some (.lst ya)/\H b=some (.lst yb)/\L2.IsL H ya (one.map patD)/\L2.IsL H yb (other.map patD)/\OkP one/\OkP other
theorem Two.same (s:Same H H') (h:Two H a b one other):Two H' a b one other:=by
 obtain⟨ya,yb,h1,h2,h3,h4,h5⟩:=h
 exact⟨ya,yb,s _ _ h1,s _ _ h2,IsL.same s h3,IsL.same s h4,h5⟩
theorem fo (T:Txt mg tk)(O:Ow K mg cO)(F:Fun K "__init__" "Sight.__init__" s_Sight_init f fd)(C7:Dn P w K mg base "beginnings" 1 ["patterns"] XX)(Ci:Dn P w K mg base "greatest_numbers" 1 ["patterns"] spGrt):FnOk P w K mg base CX0 2 f fd ["self","one","other"] (XY cO):=by
 refine F.okk ["self","one","other"] ?_
 rintro _ _ _ _ H _ _ _ hr ⟨p,a,b,dx,ya,yb,one,other,rfl,hp,ha,hb,Dv,Ey,Ez,DY,q⟩ nd
 have D5:=Dv.length
 have DH:=Ey.length
 rw[LP] at D5 DH
 have Ff:=Ez.2
 have GM:=DY.2
 refine⟨_,(LM (QF (pv 0) (L0 C7 hr.LV rfl (pa1 (LX Mb (pv 1) (pv 2)))) rfl)
  (LM (QF (pv 0) (L0 Ci hr.LV rfl (pa1 (pv 1))) rfl)
  (LQ (QF (pv 0) (L0 Ci hr.LV rfl (pa1 (pv 2))) rfl)))),?_⟩
 walk_at "s0"
 refine OW (QW ?_)
 ext
 refine OX ha hb (szn (by omega)) fun c hc=>?_
 have s1:=LW hc (.lst (ya++yb))
 ext
 refine⟨.ref c,one++other,rfl,?_,fun x hx=>?_,by rw[Md];omega,fun kd H2 Fv ekd s2=>?_⟩
 ·simp only[Is,Ou]
  exact⟨c,_,rfl,LN,by rw[L3];exact IsL.append (IsL.same s1 Dv) (IsL.same s1 Ey)⟩
 ·rcases L7.mp hx with h | h
  ·have:=(Ez.1 x h).2.1;omega
  ·have:=(DY.1 x h).2.1;omega
 have s02:=s1.trans s2
 ext
 refine QX (s02 _ _ hp) O.cl O.n_known (by decide) ?_
 have DA:=s02 _ _ hp
 have d2:=Dat.ins DA (.ins cO dx (putF ("known":Str) (.ref kd) []))
 have d02:=s02.dat.trans d2
 have e2:=LN (H:=H2) (a:=p) (o:=.ins cO dx (putF ("known":Str) (.ref kd) []))
 have o2:=QZ (p:=p) (x:=.ins cO dx (putF ("known":Str) (.ref kd) [])) (fun b o _ e=>s02 b o e)
 have ekd2:=d2.2.2 _ _ ekd
 generalize upd H2 p (.ins cO dx (putF ("known":Str) (.ref kd) []))=H3 at d02 e2 o2 ekd2 ⊢
 ext
 refine OW (QW ?_)
 ext
 refine⟨.ref a,one,rfl,?_,fun x hx=>⟨by have:=(Ez.1 x hx).2.1;omega,(Ez.1 x hx).2.2⟩,by omega,fun od ko H4 Ep eod nod s4=>?_⟩
 ·simp only[Is,Ou]
  exact⟨a,ya,rfl,d02.1 _ _ ha,IsL.dat d02 Dv⟩
 ext
 refine QX (s4 _ _ e2) O.cl O.n_one_numbers (show 1 < 1000 by decide) ?_
 have d4:=Dat.ins (s4 _ _ e2) (.ins cO dx (putF ("one_numbers":Str) (.ref od) (putF ("known":Str) (.ref kd) [])))
 have d04:=(d02.trans s4.dat).trans d4
 have e4:=LN (H:=H4) (a:=p) (o:=.ins cO dx (putF ("one_numbers":Str) (.ref od) (putF ("known":Str) (.ref kd) [])))
 have o4:=QZ (p:=p) (x:=.ins cO dx (putF ("one_numbers":Str) (.ref od) (putF ("known":Str) (.ref kd) []))) (Xm o2 s4)
 have ekd4:=d4.2.2 _ _ (s4 _ _ ekd2)
 have eod4:=d4.2.2 _ _ eod
 have nod4:=nod.dat d4
 generalize upd H4 p (.ins cO dx (putF ("one_numbers":Str) (.ref od) (putF ("known":Str) (.ref kd) [])))=H5 at d04 e4 o4 ekd4 eod4 nod4 ⊢
 ext
 refine QW ?_
 ext
 refine⟨.ref b,other,rfl,?_,fun x hx=>⟨by have:=(DY.1 x hx).2.1;omega,(DY.1 x hx).2.2⟩,by omega,fun td kt H6 EO etd ntd s6=>?_⟩
 ·simp only[Is,Ou]
  exact⟨b,yb,rfl,d04.1 _ _ hb,IsL.dat d04 Ey⟩
 ext
 refine QX (s6 _ _ e4) O.cl O.n_other_numbers (show 2 < 1000 by decide) ?_
 have d6:=Dat.ins (s6 _ _ e4) (.ins cO dx (putF ("other_numbers":Str) (.ref td) (putF ("one_numbers":Str) (.ref od) (putF ("known":Str) (.ref kd) []))))
 ext
 exact q _ ⟨dx,kd,od,td,ko,kt,LN,d6.2.2 _ _ (s6 _ _ ekd4),d6.2.2 _ _ (s6 _ _ eod4),(nod4.same s6).dat d6,d6.2.2 _ _ etd,ntd.dat d6⟩ (QZ (Xm o4 s6))
theorem fq (T:Txt mg tk)(O:Ow K mg cO)(F:Fun K "tail_of" "Sight.tail_of" s_Sight_tail_of f fd):FnOk P w K mg base CX0 1 f fd ["self","text"] (Tt cO):=by
 refine F.okk ["self","text","begin"] ?_
 rintro _ _ _ _ H _ _ _ hr ⟨p,one,other,t,rfl,hs,hl,q⟩ nd
 obtain⟨dx,kd,od,td,ko,kt,e1,e2,e3,e4,e5,e6⟩:=hs
 refine⟨_,(LM (MN MH rfl (Pg rfl T.z_range (pa1 (pcb (Mq (K:=K)) T.z_len (pa1 (pv 1))))) (pnm 2 nd)
   (LQ (Me (RA (S0 (Pi hr) (Nk (Nm (K:=K)) (pv 1) (MV (pv 2)) NL) (Nj (pv 0) rfl)))
   (LQ (LY (Nk (Nm (K:=K)) (pv 1) (MV (pv 2)) NL)))
   Mg)))
  (LQ (LY (L8 Oh)))),?_⟩
 walk_at "s0"
 generalize hB:begs (one++other)=B at q e2
 ext
 refine RD (fun i σ H'=>∃(v2:Option V),H'=H/\σ=[some (.ref p),some (.str (S t)),v2]/\Mf B t=Mf B (t.drop i)) ⟨none,rfl,rfl,rfl⟩ ?_ ?_
 ·intro i σ H' hi hI9
  obtain⟨v2,rfl,rfl,ht⟩:=hI9
  have DJ:i < t.length:=by omega
  have Ee:cutA t (some (0+(i:Int))) none=t.drop i:=by rw[UA];exact SO t i (by omega)
  ext
  refine i_tB (i_din ?_)
  ext
  refine Na ?_
  ext
  refine Nb e1 O.cl O.n_known rfl ?_
  rw[Ee]
  refine⟨kd,_,rfl,DGet.k (k:=Sum.inr (S (t.drop i))) e2,?_⟩
  rw[bT_val]
  have Go:t.drop i=t[i]::t.drop (i+1):=RP DJ
  by_cases hm:t.drop i∈B
  ·rw[B4 hm]
   ext
   have Hf:Mf B (t.drop i)=t.drop i:=by rw[Go] at hm ⊢;unfold Mf;rw[B4 hm]
   rw[Ee]
   rw[ht,Hf] at q
   exact q
  ·rw[B3 hm]
   ext
   refine⟨_,rfl,rfl,?_⟩
   rw[ht]
   rw[Go] at hm ⊢
   conv=>lhs;unfold Mf
   rw[B3 hm]
 ·intro σ H' hI9
  obtain⟨v2,rfl,rfl,ht⟩:=hI9
  rw[show ((t.length:Int)).toNat=t.length by omega,ax] at ht
  ext
  rw[ht] at q
  exact q
theorem jn (T:Txt mg tk)(O:Ow K mg cO)(F:Fun K "pair_at_end" "Sight.pair_at_end" s_Sight_pair_at_end f fd)(CH:Dn P w K mg base "told_at_end" 1 ["numbers_by_signs","text","back"] spTAE):FnOk P w K mg base CX0 2 f fd ["self","text","back","ones","others"] (Tu cO):=by
 refine F.okk ["self","text","back","ones","others","told_ones","told_others"] ?_
 rintro _ _ _ _ H _ _ _ hr ⟨p,one,other,t,back,i,j,rfl,hs,Ez,DY,hl,Ft,q⟩ nd
 obtain⟨dx,kd,od,td,ko,kt,e1,e2,e3,e4,e5,e6⟩:=hs
 refine⟨_,(LM (pst 5 nd (L0 CH hr.LV rfl (LO (Nj (pv 0) rfl) (LO (pv 1) (pa1 (pv 2))))))
  (LM (pst 6 nd (L0 CH hr.LV rfl (LO (Nj (pv 0) rfl) (LO (pv 1) (pa1 (pv 2))))))
  (LQ (LY (Nw (LO (pcb (Ob rfl) T.z_max (LO (pv 3) (pa1 (pv 5)))) (pa1 (pcb (Ob rfl) T.z_max (LO (pv 4) (pa1 (pv 6))))))))))),?_⟩
 walk_at "s0"
 ext
 refine Na ?_
 ext
 refine Nb e1 O.cl O.n_one_numbers rfl ?_
 ext
 refine⟨od,ko,grt one,t,back,rfl,e3,e4,Ez.grt,hl,Ft,?_⟩
 ext
 refine Na ?_
 ext
 refine Nb e1 O.cl O.n_other_numbers rfl ?_
 ext
 refine⟨td,kt,grt other,t,back,rfl,e5,e6,DY.grt,hl,Ft,?_⟩
 ext
 intro a ha
 exact q a _ ha LN (LW ha _)
theorem fu (T:Txt mg tk)(O:Ow K mg cO)(F:Fun K "first" "Sight.first" s_Sight_first f fd)(Cb:Dm P w K mg base cO "tail_of" 1 ["self","text"] (Tt cO)):FnOk P w K mg base CX0 2 f fd ["self"] (XZ cO):=by
 refine F.okk ["self"] ?_
 rintro _ _ _ _ H _ _ _ hr ⟨p,one,other,rfl,hs,q⟩ nd
 obtain⟨dx,kd,od,td,ko,kt,e1,r⟩:=id hs
 refine⟨_,(LQ (LY (Nw (LO (Nt (pv 0) O.cl Cb hr.LV (pa1 (L8 Ny))) (LO Qj (LO LL (pa1 LL))))))),?_⟩
 walk_at "s0"
 ext
 refine M_ ?_
 ext
 refine M' e1 rfl ?_
 ext
 refine⟨p,one,other,[46],rfl,hs,by decide,?_⟩
 ext
 intro a ha
 exact q a _ ha LN (LW ha _)
theorem fw (T:Txt mg tk)(O:Ow K mg cO)(F:Fun K "by_letter" "Sight.by_letter" s_Sight_by_letter f fd)(Cb:Dm P w K mg base cO "tail_of" 1 ["self","text"] (Tt cO))(B_:Dm P w K mg base cO "pair_at_end" 2 ["self","text","back","ones","others"] (Tu cO)):FnOk P w K mg base CX0 3 f fd ["self","view","letter"] (X0 cO):=by
 refine F.okk ["self","view","letter","tail","behind","pair","views"] ?_
 rintro _ _ _ _ H _ _ _ hr ⟨p,va,one,other,v,c,rfl,hs,Ez,DY,hv,ev,q⟩ nd
 obtain⟨vt,vb,vi,vj⟩:=v
 obtain⟨Gp,Gq⟩:=hv
 have Gp:vt.length<=100:=Gp
 have Gq:∀ n,vb=some n->n<=100:=Gq
 have ev:H va=some (.tup [.str (S vt),bV vb,.int vi,.int vj]):=ev
 obtain⟨dx,kd,od,td,ko,kt,e1,_⟩:=id hs
 refine⟨_,(LM (pst 3 nd (Nt (pv 0) O.cl Cb hr.LV (pa1 (LX Mb (pix K (pv 1) LL) (pv 2)))))
  (LM (pst 4 nd (R5 (L_ o_is (pix K (pv 1) LL) Qj (L6 _)) LL (LX Mb (pix K (pv 1) LL) LL)))
  (LM (pst 5 nd (Nt (pv 0) O.cl B_ hr.LV (LO (pv 3) (LO (pv 4) (LO (pix K (pv 1) LL) (pa1 (pix K (pv 1) LL)))))))
  (LM (Me (L_ o_lt (pcb (Mq (K:=K)) T.z_len (pa1 (pv 3))) (pv 4) (L6 _))
   (LQ (LY (Nw (LO (MZ Ph) (pa1 (MZ (pa1 (pv 5))))))))
   Mg)
  (LM (pst 6 nd (MZ (pa1 (Nw (LO (pv 3) (LO (pv 4) (LO (pix K (pv 5) LL) (pa1 (pix K (pv 5) LL)))))))))
  (LM (Me (L_ o_is (pix K (pv 1) LL) Qj (L6 _))
   (LQ (OP (M9 (K:=K) Pd PySem.F.slot_list_insert PySem.F.type_list_insert eC (pv 6) (LO LL (pa1 (Nw (LO (pv 3) (LO Qj (LO LL (pa1 LL))))))))))
   Mg)
  (LQ (LY (Nw (LO (pv 6) (pa1 (MZ Ph)))))))))))),?_⟩
 walk_at "s0"
 ext
 refine M_ ?_
 ext
 refine M' e1 rfl ?_
 ext
 refine⟨p,one,other,vt++[c],rfl,hs,by rw[Md];show _+1<=_;omega,?_⟩
 have D6:(Mf (begs (one++other)) (vt++[c])).length<=101:=by
  have:=(QU (begs (one++other)) (vt++[c])).length_le
  rw[Md] at this
  exact MX this (by show _+1<=_;omega)
 have Ig:∀ b',(vb.map (·+1)).getD 0=b'->Om one other ⟨vt,vb,vi,vj⟩ c=⟨Mf (begs (one++other)) (vt++[c]),some b',tell one (Mf (begs (one++other)) (vt++[c])) b' vi,tell other (Mf (begs (one++other)) (vt++[c])) b' vj⟩:=fun b' h=>by
  subst h;rfl
 cases vb with
 | none =>
  have hn:=Ig 0 rfl
  have IS:Q2 one other ⟨vt,none,vi,vj⟩ c=false:=B1 (R1 _)
  have Hg:No one other ⟨vt,none,vi,vj⟩ c=[⟨(Om one other ⟨vt,none,vi,vj⟩ c).t,none,0,0⟩,Om one other ⟨vt,none,vi,vj⟩ c]:=by
   unfold No;rw[IS,B3 Mj,B4 rfl];rfl
  have DI:NV one other ⟨vt,none,vi,vj⟩ c=[]:=by unfold NV;rw[IS,B3 Mj]
  rw[Hg,DI,hn] at q
  clear Hg DI hn Ig IS
  generalize Mf (begs (one++other)) (vt++[c])=t' at D6 q ⊢
  have ev:H va=some (.tup [.str (S vt),.non,.int vi,.int vj]):=ev
  ext
  refine M_ ?_
  ext
  refine M' e1 rfl ?_
  ext
  refine⟨p,one,other,t',0,vi,vj,rfl,hs,Ez,DY,by omega,by decide,fun pr H1 J1 epr s1=>?_⟩
  have ev1:=s1 _ _ ev
  ext
  try refine ND (by intro z;omega) ?_
  ext
  intro w1 C6
  ext
  intro vl EG
  have nwl:w1≠vl:=Mo LN EG
  have sw:=(LW C6 (.tup [.str (S t'),.int 0,.int (tell one t' 0 vi),.int (tell other t' 0 vj)])).trans (LW EG (.lst [.ref w1]))
  have ev2:=sw _ _ ev1
  have ew1:(upd (upd H1 w1 (.tup [.str (S t'),.int 0,.int (tell one t' 0 vi),.int (tell other t' 0 vj)])) vl (.lst [.ref w1])) w1=_:=(LW EG _) _ _ LN
  have evl:=LN (H:=upd H1 w1 (.tup [.str (S t'),.int 0,.int (tell one t' 0 vi),.int (tell other t' 0 vj)])) (a:=vl) (o:=.lst [.ref w1])
  have Fw:H1 vl=none:=(LW C6 _).free EG
  generalize upd (upd H1 w1 (.tup [.str (S t'),.int 0,.int (tell one t' 0 vi),.int (tell other t' 0 vj)])) vl (.lst [.ref w1])=H2 at sw ev2 ew1 evl ⊢
  ext
  intro w2 Dz
  have s3:=LW Dz (.tup [.str (S t'),.non,.int 0,.int 0])
  have evl3:=s3 _ _ evl
  have ew13:=s3 _ _ ew1
  have ew2:=LN (H:=H2) (a:=w2) (o:=.tup [.str (S t'),.non,.int 0,.int 0])
  generalize upd H2 w2 (.tup [.str (S t'),.non,.int 0,.int 0])=H3 at s3 evl3 ew13 ew2 ⊢
  ext
  refine i_insL evl3 ⟨by decide,(show (0:Int)<=1 by decide),(show 1 < 1000000 by decide)⟩ ?_
  have k4:Tk H3 (upd H3 vl (.lst ([V.ref w1].take (0:Int).toNat++.ref w2::[V.ref w1].drop (0:Int).toNat))):=Tk.lst evl3 _
  have s4:Same H1 (upd H3 vl (.lst ([V.ref w1].take (0:Int).toNat++.ref w2::[V.ref w1].drop (0:Int).toNat))):=fun b o e=>by
   have hb:b≠vl:=fun z=>by rw[z,Fw] at e;cases e
   rw[LU hb];exact s3 _ _ (sw _ _ e)
  have evl4:(upd H3 vl (.lst ([V.ref w1].take (0:Int).toNat++.ref w2::[V.ref w1].drop (0:Int).toNat))) vl=some (.lst [.ref w2,.ref w1]):=LN
  have ew14:=k4 _ _ ew13
  have ew24:=k4 _ _ ew2
  generalize upd H3 vl (.lst ([V.ref w1].take (0:Int).toNat++.ref w2::[V.ref w1].drop (0:Int).toNat))=H4 at k4 s4 evl4 ew14 ew24 ⊢
  ext
  intro pl CG
  ext
  intro r B'
  have s6:=(LW CG (.lst [])).trans (LW B' (.tup [.ref vl,.ref pl]))
  have s06:=(s1.trans s4).trans s6
  refine q r vl pl _ _ _ LN (s6 _ _ evl4) ((LW B' _) _ _ LN) (Mo evl4 CG) (s1.free Fw) ((s1.trans s4).free CG) ?_ ?_ s06
  ·simp only[L',MT,L2.IsL]
   exact⟨Tb (v:=⟨t',none,0,0⟩) (s6 _ _ ew24),Tb (v:=⟨t',some 0,_,_⟩) (s6 _ _ ew14),trivial⟩
  ·simp only[MT,L2.IsL]
 | some n =>
  have Hh:=Gq n rfl
  have hn:=Ig (n+1) rfl
  have ev:H va=some (.tup [.str (S vt),.int (n:Int),.int vi,.int vj]):=ev
  have E3:Q2 one other ⟨vt,some n,vi,vj⟩ c=decide ((Mf (begs (one++other)) (vt++[c])).length < n+1):=rfl
  have Hg:No one other ⟨vt,some n,vi,vj⟩ c=if (Mf (begs (one++other)) (vt++[c])).length < n+1 then [] else [Om one other ⟨vt,some n,vi,vj⟩ c]:=by
   unfold No;rw[E3,B3 (show ¬ (some n=none) from fun z=>nomatch z)]
   by_cases hx:(Mf (begs (one++other)) (vt++[c])).length < n+1
   ·rw[B4 hx,B4 (B2 hx)]
   ·rw[B3 hx,B3 (by simpa using hx)];rfl
  have DI:NV one other ⟨vt,some n,vi,vj⟩ c=if (Mf (begs (one++other)) (vt++[c])).length < n+1 then [((Om one other ⟨vt,some n,vi,vj⟩ c).i,(Om one other ⟨vt,some n,vi,vj⟩ c).j)] else []:=by
   unfold NV;rw[E3]
   by_cases hx:(Mf (begs (one++other)) (vt++[c])).length < n+1
   ·rw[B4 hx,B4 (B2 hx)]
   ·rw[B3 hx,B3 (by simpa using hx)]
  rw[Hg,DI,hn] at q
  clear Hg DI hn Ig E3
  generalize Mf (begs (one++other)) (vt++[c])=t' at D6 q ⊢
  ext
  refine M_ ?_
  ext
  refine M' e1 rfl ?_
  ext
  refine⟨p,one,other,t',n+1,vi,vj,rfl,hs,Ez,DY,by omega,by omega,fun pr H1 J1 epr s1=>?_⟩
  have ev1:=s1 _ _ ev
  ext
  refine iteD (fun cx=>?_) (fun cx=>?_)
  ·rw[B4 (by omega),B4 (by omega)] at q
   ext
   intro vl EG
   ext
   intro pl CG
   ext
   intro r B'
   have s6:=((LW EG (.lst [])).trans (LW CG (.lst [.ref pr]))).trans (LW B' (.tup [.ref vl,.ref pl]))
   have s06:=s1.trans s6
   have evl:(upd (upd (upd H1 vl (.lst [])) pl (.lst [.ref pr])) r (.tup [.ref vl,.ref pl])) vl=some (.lst []):=(LW B' _) _ _ ((LW CG _) _ _ LN)
   refine q r vl pl _ _ _ LN evl ((LW B' _) _ _ LN) (Mo LN CG) (s1.free EG) (s1.free ((LW EG _).free CG)) ?_ ?_ s06
   ·simp only[MT,L2.IsL]
   ·simp only[L',MT,L2.IsL]
    exact⟨Xn (p:=(_,_)) (s6 _ _ epr),trivial⟩
  ·rw[B3 (by omega),B3 (by omega)] at q
   ext
   intro w1 C6
   ext
   intro vl EG
   have sw:=(LW C6 (.tup [.str (S t'),.int ((n:Int)+1),.int (tell one t' (n+1) vi),.int (tell other t' (n+1) vj)])).trans (LW EG (.lst [.ref w1]))
   have ev2:=sw _ _ ev1
   have ew1:(upd (upd H1 w1 (.tup [.str (S t'),.int ((n:Int)+1),.int (tell one t' (n+1) vi),.int (tell other t' (n+1) vj)])) vl (.lst [.ref w1])) w1=_:=(LW EG _) _ _ LN
   have evl:=LN (H:=upd H1 w1 (.tup [.str (S t'),.int ((n:Int)+1),.int (tell one t' (n+1) vi),.int (tell other t' (n+1) vj)])) (a:=vl) (o:=.lst [.ref w1])
   have Fw:H1 vl=none:=(LW C6 _).free EG
   generalize upd (upd H1 w1 (.tup [.str (S t'),.int ((n:Int)+1),.int (tell one t' (n+1) vi),.int (tell other t' (n+1) vj)])) vl (.lst [.ref w1])=H2 at sw ev2 ew1 evl ⊢
   ext
   intro pl CG
   ext
   intro r B'
   have s6:=(LW CG (.lst [])).trans (LW B' (.tup [.ref vl,.ref pl]))
   have s06:=(s1.trans sw).trans s6
   refine q r vl pl _ _ _ LN (s6 _ _ evl) ((LW B' _) _ _ LN) (Mo evl CG) (s1.free Fw) ((s1.trans sw).free CG) ?_ ?_ s06
   ·simp only[L',MT,L2.IsL]
    exact⟨Tb (v:=⟨t',some (n+1),_,_⟩) (s6 _ _ ew1),trivial⟩
   ·simp only[MT,L2.IsL]
theorem fz (T:Txt mg tk)(O:Ow K mg cO)(F:Fun K "by_end" "Sight.by_end" s_Sight_by_end f fd)(B_:Dm P w K mg base cO "pair_at_end" 2 ["self","text","back","ones","others"] (Tu cO)):FnOk P w K mg base CX0 3 f fd ["self","view"] (X1 cO):=by
 refine F.okk ["self","view"] ?_
 rintro _ _ _ _ H _ _ _ hr ⟨p,va,one,other,v,rfl,hs,Ez,DY,hv,ev,q⟩ nd
 obtain⟨vt,vb,vi,vj⟩:=v
 obtain⟨Gp,Gq⟩:=hv
 have Gp:vt.length<=100:=Gp
 have Gq:∀ n,vb=some n->n<=100:=Gq
 obtain⟨dx,kd,od,td,ko,kt,e1,_⟩:=id hs
 refine⟨_,(LM (Me (PW.pt (Pf (L_ o_is (pix K (pv 1) LL) Qj (L6 _)) (QC (L_ (o_eq hr.units) (pix K (pv 1) LL) LL (L6 _)))))
   (LQ (LY (MZ Ph)))
   Mg)
  (LQ (LY (MZ (pa1 (Nt (pv 0) O.cl B_ hr.LV (LO (LX Mb (pix K (pv 1) LL) (L8 Ny)) (LO (LX Mb (pix K (pv 1) LL) LL) (LO (pix K (pv 1) LL) (pa1 (pix K (pv 1) LL))))))))))),?_⟩
 walk_at "s0"
 cases vb with
 | none =>
  have ev:H va=some (.tup [.str (S vt),.non,.int vi,.int vj]):=ev
  ext
  intro r B'
  exact q r [] _ LN B' (by simp only[Ox,MT,L2.IsL]) (LW B' _)
 | some n =>
  have Hh:=Gq n rfl
  cases n with
  | zero =>
   have ev:H va=some (.tup [.str (S vt),.int 0,.int vi,.int vj]):=ev
   ext
   intro r B'
   exact q r [] _ LN B' (by simp only[Ox,MT,L2.IsL]) (LW B' _)
  | succ n =>
   have ev:H va=some (.tup [.str (S vt),.int ((n+1:Nat):Int),.int vi,.int vj]):=ev
   ext
   try refine ND (fun z=>by injection z with z;omega) ?_
   ext
   refine M_ ?_
   ext
   refine M' e1 rfl ?_
   ext
   refine⟨p,one,other,vt++[46],n+2,vi,vj,rfl,hs,Ez,DY,by rw[Md];show _+1<=_;omega,by omega,fun pr H1 J1 epr s1=>?_⟩
   ext
   intro r B'
   have s2:=LW B' (.lst [.ref pr])
   refine q r _ _ LN (s1.free B') ?_ (s1.trans s2)
   simp only[Ox,L',MT,L2.IsL]
   exact⟨Xn (p:=(_,_)) (s2 _ _ epr),trivial⟩
theorem X2 (hx:H x=none) (hd:H dx=none) (h:∀ b o,b≠x->(upd (upd H dx (.own x)) x (.ins C dx [])) b=some o->H' b=some o):Same H H':=fun b o e=>by
 have hb:b≠x:=fun z=>by rw[z,hx] at e;cases e
 have EE:b≠dx:=fun z=>by rw[z,hd] at e;cases e
 exact h b o hb (by rw[LU hb,LU EE];exact e)
theorem View.ext4 {a b:View}(h1:a.t=b.t)(h2:a.b=b.b)(h3:a.i=b.i)(h4:a.j=b.j):a=b:=by
 cases a;cases b
 cases h1;cases h2;cases h3;cases h4
 rfl
noncomputable instance viewDec:DecidableEq View:=fun a b =>
 if h:a.t=b.t/\a.b=b.b/\a.i=b.i/\a.j=b.j then isTrue (View.ext4 h.1 h.2.1 h.2.2.1 h.2.2.2)
 else isFalse fun e=>h (by rw[e];exact⟨rfl,rfl,rfl,rfl⟩)
def SmP (xs:List Pat):Prop:=OkP xs/\(∀ x∈xs,x.1.length<=8/\∀ n∈x.2,0<=n/\n<=9)/\xs.length<=10
noncomputable def fstV (one other:List Pat):View:=⟨Mf (begs (one++other)) [46],none,0,0⟩
inductive Path (one other:List Pat) (L:List Nat):List Nat->View->Prop
 | nil:Path one other L [] (fstV one other)
 | snoc {u:List Nat}{v v':View}{c:Nat}:Path one other L u v->c∈L->v'∈No one other v c->Path one other L (u++[c]) v'
noncomputable def odd2 (p:Int×Int):Bool:=decide (p.1 % 2≠p.2 % 2)
noncomputable def Nu (one other:List Pat)(rd:List Nat):Option Nat->View
 | none=>⟨Mf (begs (one++other)) rd,none,0,0⟩
 | some g=>⟨Mf (begs (one++other)) rd,some (rd.length - g - 1),numA rd (g+1) 0 one,numA rd (g+1) 0 other⟩
theorem Tv (hx:x∈one++other) (h:x.1 <:+ rd):x.1 <:+ Mf (begs (one++other)) rd:=S8 (W1 hx) h
theorem OkP.len (h:OkP xs):∀ x∈xs,x.2.length=x.1.length+1:=fun x hx=>(h.1 x hx).2.2
theorem OkP.ne (h:OkP xs):∀ x∈xs,x.1≠[]:=fun x hx=>OA.mp (h.1 x hx).1
theorem Q3 (h1:OkP one) (h2:OkP other) (hg:∀ n,g=some n->n+1<=rd.length):
  Om one other (Nu one other rd g) c=Nu one other (rd++[c]) (some (g.getD rd.length)):=by
 have ht:∀ t,t=Mf (begs (one++other)) rd->Mf (begs (one++other)) (t++[c])=Mf (begs (one++other)) (rd++[c]):=fun t e=>by
  rw[e];exact(dN (WY _) (W0 _) rd c).symm
 have hs:∀ x∈one++other,x.1 <:+ rd++[c]->x.1 <:+ Mf (begs (one++other)) (rd++[c]):=fun x hx h=>Tv hx h
 have hT:=QU (begs (one++other)) (rd++[c])
 cases g with
 | none =>
  unfold Om Nu
  simp only[Option.map_none,ba]
  rw[ht _ rfl]
  have e1:=UQ (back:=0) (p:=rd.length+1) h1.len h1.ne (fun x hx=>hs x (L7.mpr (.inl hx))) hT (by omega)
  have e2:=UQ (back:=0) (p:=rd.length+1) h2.len h2.ne (fun x hx=>hs x (L7.mpr (.inr hx))) hT (by omega)
  rw[W4 (rd:=rd) (p:=rd.length+1) h1.len (by omega)] at e1
  rw[W4 (rd:=rd) (p:=rd.length+1) h2.len (by omega)] at e2
  unfold tell
  rw[e1,e2]
  simp only[Md,Mr,NO]
  congr 2
  omega
 | some n =>
  have hn:=hg n rfl
  unfold Om Nu
  simp only[UB,Ps]
  rw[ht _ rfl]
  have e1:=UQ (back:=rd.length - n - 1+1) (p:=n+1) h1.len h1.ne (fun x hx=>hs x (L7.mpr (.inl hx))) hT (by omega)
  have e2:=UQ (back:=rd.length - n - 1+1) (p:=n+1) h2.len h2.ne (fun x hx=>hs x (L7.mpr (.inr hx))) hT (by omega)
  unfold tell
  rw[e1,e2]
  simp only[Md,Mr,NO]
  congr 2
  omega
theorem X3 (h1:OkP one) (h2:OkP other) (hg:g+1<=rd.length) (hn:rd.length - g - 1=n+1):
  Ox one other (Nu one other rd (some g))=[(numA (rd++[46]) (g+1) 0 one,numA (rd++[46]) (g+1) 0 other)]:=by
 have hc:∀ x∈one++other,x.1 <:+ rd++[46]->x.1 <:+ Mf (begs (one++other)) rd++[46]:=fun x hx h=>by
  have DV:x.1∈begs (one++other):=W1 hx
  rcases WX x.1 with e | ⟨s,d,e⟩
  ·rw[e];exact List.nil_suffix
  ·rw[e] at h DV ⊢
   obtain⟨h3,h4⟩:=suffix_snoc.mp h
   exact suffix_snoc.mpr ⟨h3,S8 (W0 _ _ _ DV) h4⟩
 have hT:Mf (begs (one++other)) rd++[46] <:+ rd++[46]:=suffix_snoc.mpr ⟨rfl,QU _ _⟩
 have e1:=UQ (back:=n+2) (p:=g+1) h1.len h1.ne (fun x hx=>hc x (L7.mpr (.inl hx))) hT (by omega)
 have e2:=UQ (back:=n+2) (p:=g+1) h2.len h2.ne (fun x hx=>hc x (L7.mpr (.inr hx))) hT (by omega)
 unfold Nu Ox
 simp only[hn]
 unfold tell
 rw[e1,e2]
theorem Path.law (h1:OkP one) (h2:OkP other) (h:Path one other L u v):∃ g:Option Nat,v=Nu one other (46::u) g/\∀ n,g=some n->1<=n/\n<=u.length:=by
 induction h with
 | nil=>exact⟨none,rfl,fun n e=>nomatch e⟩
 | @snoc u v v' c _ _ hm ih =>
  obtain⟨g,rfl,hg⟩:=ih
  have hn:=Q3 (c:=c) h1 h2 (rd:=46::u) (g:=g) fun n e=>by have:=hg n e;rw[Mr];omega
  rw[RU] at hn
  unfold No at hm
  split at hm
  ·cases hm
  ·rw[hn] at hm
   rcases L7.mp hm with hm | hm
   ·split at hm
    ·rw[Ml] at hm
     refine⟨none,?_,fun n e=>nomatch e⟩
     rw[hm]
     rfl
    ·cases hm
   ·rw[Ml] at hm
    refine⟨_,hm,fun n e=>?_⟩
    cases e
    rw[Md,O_]
    cases g with
    | none=>show 1<=(46::u).length/\(46::u).length<=_;rw[Mr];omega
    | some n=>have:=hg n rfl;show 1<=n/\n<=_;omega
def BadAt (one other:List Pat)(L:List Nat)(w:List Nat):Prop:=∃ u v,Path one other L u v/\((w=u/\∃ p∈Ox one other v,odd2 p=true)∨∃ c∈L,w=u++[c]/\∃ p∈NV one other v c,odd2 p=true)
theorem odd2_iff :odd2 p=true↔p.1 % 2≠p.2 % 2:=by unfold odd2;exact decide_eq_true_iff
theorem BadAt.gap {L:List Nat} (h1:OkP one) (h2:OkP other) {w:List Nat} (h:BadAt one other L w):
  ∃ g,1<=g/\g < w.length/\numA (frame w) (g+1) 0 one % 2≠numA (frame w) (g+1) 0 other % 2:=by
 obtain⟨u,v,hp,h⟩:=h
 obtain⟨g,rfl,hg⟩:=hp.law h1 h2
 rcases h with ⟨rfl,p,hm,ho⟩ | ⟨c,hc,rfl,p,hm,ho⟩
 ·cases g with
  | none=>exact nomatch hm
  | some g =>
   have hg:=hg g rfl
   have hl:(46::w).length=w.length+1:=rfl
   cases hn:(46::w).length - g - 1 with
   | zero =>
    exfalso
    unfold Ox Nu at hm
    simp only[hn] at hm
    cases hm
   | succ n =>
    rw[X3 h1 h2 (by omega) hn,Ml] at hm
    rw[hm] at ho
    exact⟨g,hg.1,by omega,odd2_iff.mp ho⟩
 ·have hn:=Q3 (c:=c) h1 h2 (rd:=46::u) (g:=g) fun n e=>by have:=hg n e;rw[Mr];omega
  unfold NV at hm
  split at hm
  ·rename_i hs
   rw[Ml] at hm
   unfold Q2 at hs
   have hs:=of_decide_eq_true hs
   rw[hn] at hs hm
   cases g with
   | none=>exact absurd hs (R1 _)
   | some g =>
    have hg:=hg g rfl
    have hs:(Mf (begs (one++other)) (46::u++[c])).length < (46::u).length - g - 1+1:=hs
    have hl:(46::u).length=u.length+1:=rfl
    have DH:(46::u++[c]).length=u.length+2:=by simp
    have e1:=ac (ys:=one++other) h1.len h1.ne (fun x hx=>L7.mpr (.inl hx)) (rd:=46::u++[c]) (rest:=[46]) (p:=g+1) (by omega)
    have e2:=ac (ys:=one++other) h2.len h2.ne (fun x hx=>L7.mpr (.inr hx)) (rd:=46::u++[c]) (rest:=[46]) (p:=g+1) (by omega)
    refine⟨g,hg.1,by rw[Md,O_];omega,?_⟩
    have hf:frame (u++[c])=46::u++[c]++[46]:=by simp[frame]
    rw[hf,e1,e2]
    rw[hm] at ho
    exact odd2_iff.mp ho
  ·cases hm
theorem BadAt.vals {L:List Nat} (h1:OkP one) (h2:OkP other) {w:List Nat} (h:BadAt one other L w):1<=w.length/\(vals one w).map (· % 2)≠(vals other w).map (· % 2):=by
 obtain⟨g,GL,Ha,hg⟩:=h.gap h1 h2
 refine⟨by omega,fun e=>hg ?_⟩
 have e2:=congrArg (fun l=>l[g - 1]?) e
 unfold L2.vals at e2
 simp only[MQ,Ma,List.getElem?_range (show g - 1 < w.length - 1 by omega),UB,bm,Function.comp] at e2
 rw[show g - 1+2=g+1 by omega] at e2
 exact e2
theorem Path.low (h:Path one other L u v):∀ c∈u,c∈L:=by
 induction h with
 | nil=>exact fun c hc=>nomatch hc
 | snoc _ hc _ ih =>
  intro d hd
  rcases L7.mp hd with hd | hd
  ·exact ih d hd
  ·rw[Ml.mp hd];exact hc
theorem BadAt.low {L:List Nat} {w:List Nat} (h:BadAt one other L w):∀ c∈w,c∈L:=by
 obtain⟨u,v,hp,h⟩:=h
 rcases h with ⟨rfl,_⟩ | ⟨c,hc,rfl,_⟩
 ·exact hp.low
 ·intro d hd
  rcases L7.mp hd with hd | hd
  ·exact hp.low d hd
  ·rw[Ml.mp hd];exact hc
def GoodV (one other:List Pat)(v:View):Prop:=v.t∈begs (one++other)/\(∀ n,v.b=some n->n<=v.t.length)/\(0<=v.i/\v.i<=9)/\0<=v.j/\v.j<=9
theorem X4 (h:SmP xs) (hi:0<=i/\i<=9):0<=tell xs t back i/\tell xs t back i<=9:=by
 refine⟨Uz hi.1 (mx_l _ _),mx_le.mpr ⟨hi.2,(P8 h.1.len _ _ _).mpr ⟨by decide,fun x hx _ _=>?_⟩⟩⟩
 rw[L4]
 cases e:x.2[x.1.length - back]? with
 | none=>show (0:Int)<=9;decide
 | some n=>exact((h.2.1 x hx).2 n (Pa e)).2
theorem fA (h1:SmP one) (h2:SmP other) (hv:GoodV one other v) (hm:v'∈No one other v c):GoodV one other v':=by
 have ht:=WW (WY (one++other)) (v.t++[c])
 unfold No at hm
 split at hm
 ·cases hm
 ·rename_i hs
  rcases L7.mp hm with hm | hm
  ·split at hm
   ·rw[Ml] at hm
    rw[hm]
    exact⟨ht,fun n (e:none=some n)=>(nomatch e),(by decide:(0:Int)<=0/\(0:Int)<=9),(by decide:(0:Int)<=0/\(0:Int)<=9)⟩
   ·cases hm
  ·rw[Ml] at hm
   rw[hm]
   refine⟨ht,fun n e=>?_,X4 h1 hv.2.2.1,X4 h2 hv.2.2.2⟩
   have hs:¬ (Om one other v c).t.length < (v.b.map (·+1)).getD 0:=fun z=>hs (B2 z)
   have e:some ((v.b.map (·+1)).getD 0)=some n:=e
   cases e
   exact Nat.not_lt.mp hs
theorem fB (one other:List Pat):GoodV one other (fstV one other):=⟨WW (WY _) _,fun n e=>(nomatch e),(by decide:(0:Int)<=0/\(0:Int)<=9),(by decide:(0:Int)<=0/\(0:Int)<=9)⟩
theorem Path.good (h1:SmP one) (h2:SmP other) (h:Path one other L u v):GoodV one other v:=by
 induction h with
 | nil=>exact fB one other
 | snoc _ _ hm ih=>exact fA h1 h2 ih hm
theorem fD (h:∀ x∈xs,x.1.length<=c) (hy:y∈begs xs):y.length<=c:=by
 rcases mem_begs.mp hy with rfl | ⟨x,hx,e,_,_,rfl⟩
 ·exact MR _
 ·rw[Mt]
  have:=h x hx
  omega
theorem Q4 (h1:SmP one) (h2:SmP other):∀ x∈one++other,x.1.length<=8:=fun x hx=>(L7.mp hx).elim (fun h=>(h1.2.1 x h).1) fun h=>(h2.2.1 x h).1
theorem GoodV.len (h1:SmP one) (h2:SmP other) (h:GoodV one other v):v.t.length<=8:=fD (Q4 h1 h2) h.1
theorem GoodV.ok (h1:SmP one) (h2:SmP other) (h:GoodV one other v):OkV v:=⟨by have:=h.len h1 h2;omega,fun n e=>by have:=h.len h1 h2;have:=h.2.1 n e;omega⟩
noncomputable def univ (one other:List Pat):List View:=(begs (one++other)).flatMap fun t=>(none::(L5 9).map some).flatMap fun b=>(L5 10).flatMap fun i:Nat=>(L5 10).map fun j:Nat=>(⟨t,b,(i:Int),(j:Int)⟩:View)
theorem Q5 {α β:Type}{f:α->List β}{n:Nat}:∀{l:List α},(∀ a∈l,(f a).length=n)->(l.flatMap f).length=l.length * n
 | [],_=>by simp
 | a::l,h=>by
  rw[Ui,Md,h a Mn,Q5 fun b hb=>h b (Mp _ hb),Mr,U4,aV]
theorem fE (h1:SmP one) (h2:SmP other):(univ one other).length<=161000:=by
 have e:(univ one other).length=(begs (one++other)).length * (10 * (10 * 10)):=by
  refine Q5 fun t _=>?_
  rw[Q5 (n:=10 * 10)]
  ·rfl
  ·intro b _
   rw[Q5 (n:=10)]
   ·rfl
   ·intro i _
    rw[LP];rfl
 have hb:=S6 (c:=8) (one++other) [[]] (Q4 h1 h2)
 have hl:(one++other).length<=20:=by rw[Md];have:=h1.2.2;have:=h2.2.2;omega
 have hb:(begs (one++other)).length<=1+(one++other).length * 8:=hb
 rw[e]
 omega
theorem GoodV.mem (h1:SmP one) (h2:SmP other) (h:GoodV one other v):v∈univ one other:=by
 have hl:=h.len h1 h2
 obtain⟨ht,hb,hi,hj⟩:=h
 refine Zx.mpr ⟨v.t,ht,Zx.mpr ⟨v.b,?_,Zx.mpr ⟨v.i.toNat,OE.mpr (by omega),MC.mpr ⟨v.j.toNat,OE.mpr (by omega),View.ext4 rfl rfl (Int.toNat_of_nonneg hi.1) (Int.toNat_of_nonneg hj.1)⟩⟩⟩⟩
 cases e:v.b with
 | none=>exact Mn
 | some n=>exact Mp _ (MC.mpr ⟨n,OE.mpr (by have:=hb n e;omega),rfl⟩)
theorem X5 {one other:List Pat}(h1:SmP one)(h2:SmP other){vs:List View}(hn:vs.Nodup)(h:∀ v∈vs,GoodV one other v):vs.length<=161000 :=
 MX (W5 hn fun v hv=>(h v hv).mem h1 h2) (fE h1 h2)
def DoneV (one other:List Pat)(L:List Nat)(ws:List View)(v:View):Prop:=(∀ p∈Ox one other v,odd2 p=false)/\∀ c∈L,(∀ p∈NV one other v c,odd2 p=false)/\∀ v'∈No one other v c,v'∈ws
theorem DoneV.more (h:DoneV one other L ws v) (hs:∀ x∈ws,x∈ws'):DoneV one other L ws' v:=⟨h.1,fun c hc=>⟨(h.2 c hc).1,fun v' hv=>hs _ ((h.2 c hc).2 v' hv)⟩⟩
structure AllV (one other:List Pat)(L:List Nat)(vs:List View):Prop where
 nd:vs.Nodup
 fst:fstV one other∈vs
 reach:∀ v∈vs,∃ u,Path one other L u v
 done:∀ v∈vs,DoneV one other L vs v
theorem AllV.all (h:AllV one other L vs) (p:Path one other L u v):v∈vs:=by
 induction p with
 | nil=>exact h.fst
 | snoc _ hc hm ih=>exact((h.done _ ih).2 _ hc).2 _ hm
theorem AllV.not {L:List Nat} (h:AllV one other L vs) {w:List Nat} (b:BadAt one other L w):False:=by
 obtain⟨u,v,hp,hb⟩:=b
 have hd:=h.done _ (h.all hp)
 rcases hb with ⟨_,p,hm,ho⟩ | ⟨c,hc,_,p,hm,ho⟩
 ·rw[hd.1 p hm] at ho;cases ho
 ·rw[(hd.2 c hc).1 p hm] at ho;cases ho
noncomputable abbrev abc:List Nat:=LETL
noncomputable def Mv (xs:List Pat)(c:Nat):Bool:=xs.any fun x=>decide (c∈x.1)
noncomputable def ltr (xs:List Pat):List Nat:=abc.filter (Mv xs)++(abc.filter fun c=>!(Mv xs c)).take 1
theorem ltr_abc (h:c∈ltr xs):c∈abc:=by
 rcases L7.mp h with h | h
 ·exact(Qt.mp h).1
 ·exact(Qt.mp (Ro h)).1
theorem X6 (xs:List Pat):(ltr xs).length<=27:=by
 have h1:=Oz (Mv xs) abc
 have h2:abc.length=26:=by decide
 unfold ltr
 rw[Md,Mt]
 omega
noncomputable def Nc (xs:List Pat)(t:List Nat)(back:Nat)(i:Int):Int:=xs.foldl (fun m x=>if back<=x.1.length/\x.1 <:+ t then mx m (x.2.getD (x.1.length - back) 0) else m) i
theorem Tw (t:List Nat)(back:Nat)(c:Int):∀(xs:List Pat) (i:Int),Nc xs t back i<=c↔i<=c/\∀ x∈xs,x.1 <:+ t->back<=x.1.length->x.2.getD (x.1.length - back) 0<=c
 | [],i=>⟨fun h=>⟨h,fun x hx=>nomatch hx⟩,fun h=>h.1⟩
 | x::xs,i=>by
  unfold Nc
  rw[Uj]
  have ih:=Tw t back c xs
  unfold Nc at ih
  rw[ih]
  by_cases hc:back<=x.1.length/\x.1 <:+ t
  ·rw[B4 hc,mx_le]
   refine⟨fun⟨⟨a,b⟩,d⟩=>⟨a,fun y hy h1 h2=>?_⟩,fun⟨a,d⟩=>⟨⟨a,d x Mn hc.2 hc.1⟩,fun y hy=>d y (Mp _ hy)⟩⟩
   rcases Mc.mp hy with rfl | hy
   ·exact b
   ·exact d y hy h1 h2
  ·rw[B3 hc]
   refine⟨fun⟨a,d⟩=>⟨a,fun y hy h1 h2=>?_⟩,fun⟨a,d⟩=>⟨a,fun y hy=>d y (Mp _ hy)⟩⟩
   rcases Mc.mp hy with rfl | hy
   ·exact absurd ⟨h2,h1⟩ hc
   ·exact d y hy h1 h2
theorem ae (hx:∀ x∈xs,x.2.length=x.1.length+1) (hT:∀ x∈xs,x.1 <:+ t↔x.1 <:+ T) (back:Nat) (hi:0<=i):Nc xs t back i=tell xs T back i:=by
 unfold tell
 apply ZR
 ·have h:=(P8 hx T back _).mp (OL _)
  exact(Tw ..).mpr ⟨mx_l _ _,fun x hm h1 h2=>Uz (h.2 x hm ((hT x hm).mp h1) h2) (mx_r _ _)⟩
 ·have h:=(Tw t back _ xs i).mp (OL _)
  exact mx_le.mpr ⟨h.1,(P8 hx T back _).mpr ⟨Uz hi h.1,fun x hm h1 h2=>h.2 x hm ((hT x hm).mpr h1) h2⟩⟩
theorem fF {p:List Nat->Prop}(h0:p [])(hs:∀ u c,p u->p (u++[c])):∀ u,p u:=fun u=>by
 rw[<- List.reverse_reverse u]
 induction u.reverse with
 | nil=>exact h0
 | cons c r ih=>rw[List.reverse_cons];exact hs _ _ ih
theorem X7 (h1:OkP one) (h2:OkP other):
  No one other (Nu one other rd none) c=[Nu one other (rd++[c]) none,Nu one other (rd++[c]) (some rd.length)]:=by
 have hn:=Q3 (c:=c) h1 h2 (rd:=rd) (g:=none) fun n e=>nomatch e
 have hs:Q2 one other (Nu one other rd none) c=false:=B1 (R1 _)
 unfold No
 rw[B3 (by rw[hs];exact Mj),B4 (show (Nu one other rd none).b=none from rfl),hn]
 rfl
theorem fG (h1:OkP one) (h2:OkP other) (hn:n+1<=rd.length):
  No one other (Nu one other rd (some n)) c=[Nu one other (rd++[c]) (some n)] ∨
  ((Mf (begs (one++other)) (rd++[c])).length+(n+1) < (rd++[c]).length/\NV one other (Nu one other rd (some n)) c=[(numA (rd++[c]) (n+1) 0 one,numA (rd++[c]) (n+1) 0 other)]):=by
 have hx:=Q3 (c:=c) h1 h2 (rd:=rd) (g:=some n) fun m e=>by cases e;exact hn
 cases hs:Q2 one other (Nu one other rd (some n)) c with
 | false =>
  refine .inl ?_
  unfold No
  rw[B3 (by rw[hs];exact Mj),B3 (show ¬ (Nu one other rd (some n)).b=none by intro z;cases z),hx]
  rfl
 | true =>
  refine .inr ⟨?_,?_⟩
  ·unfold Q2 at hs
   have hs:=of_decide_eq_true hs
   rw[hx] at hs
   have hs:(Mf (begs (one++other)) (rd++[c])).length < rd.length - n - 1+1:=hs
   rw[Md,O_]
   omega
  ·unfold NV
   rw[B4 hs,hx]
   rfl
theorem fH (h1:OkP one) (h2:OkP other) (u:List Nat):(∀ c∈u,c∈L)->Path one other L u (Nu one other (46::u) none):=by
 refine fF (p:=fun u=>(∀ c∈u,c∈L)->Path one other L u (Nu one other (46::u) none)) (fun _=>.nil) (fun u c ih hu=>?_) u
 have hp:=ih fun d hd=>hu d (L7.mpr (.inl hd))
 refine .snoc hp (hu c (L7.mpr (.inr (Ml.mpr rfl)))) ?_
 rw[X7 h1 h2]
 exact Mn
theorem fJ {L:List Nat} (h1:OkP one) (h2:OkP other) {w:List Nat} (hw:∀ c∈w,c∈L) (hb:∀ u,¬ BadAt one other L u) {g:Nat} (GL:1<=g) (Ha:g < w.length):
  numA (frame w) (g+1) 0 one % 2=numA (frame w) (g+1) 0 other % 2:=by
 have K5:∀ m,m<=w.length->frame w=(46::w.take m)++(w.drop m++[46]):=fun m _=>by
  unfold frame
  rw[RU,<- Qp,iz]
 have key:∀ k,g+k<=w.length->numA (frame w) (g+1) 0 one % 2=numA (frame w) (g+1) 0 other % 2∨Path one other L (w.take (g+k)) (Nu one other (46::w.take (g+k)) (some g)):=by
  intro k
  induction k with
  | zero =>
   intro hk
   right
   obtain⟨j,rfl⟩:∃ j,g=j+1:=⟨g - 1,by omega⟩
   have hj:j < w.length:=by omega
   have ht:w.take (j+1+0)=w.take j++[w[j]]:=by rw[Nat.add_zero,MA,LS hj];rfl
   rw[ht]
   refine .snoc (fH h1 h2 (w.take j) fun c hc=>hw c (Ro hc)) (hw _ (MD hj)) ?_
   rw[X7 h1 h2]
   have hl:(46::w.take j).length=j+1:=by rw[Mr,Mt];omega
   rw[hl]
   exact Mp _ Mn
  | succ k ih =>
   intro hk
   rcases ih (by omega) with e | hp
   ·exact .inl e
   ·have hm:g+k < w.length:=by omega
    have ht:w.take (g+(k+1))=w.take (g+k)++[w[g+k]]:=by rw[<- Nat.add_assoc,MA,LS hm];rfl
    have hl:(46::w.take (g+k)).length=g+k+1:=by rw[Mr,Mt];omega
    have hc:=hw _ (MD hm)
    rw[ht]
    rcases fG h1 h2 (rd:=46::w.take (g+k)) (c:=w[g+k]) (n:=g) (by omega) with e | ⟨hs,e⟩
    ·refine .inr (.snoc hp hc ?_)
     rw[e]
     exact Ml.mpr rfl
    ·left
     have hf:frame w=(46::w.take (g+k)++[w[g+k]])++(w.drop (g+(k+1))++[46]):=by rw[K5 (g+(k+1)) hk,ht];rfl
     have e1:=ac (ys:=one++other) h1.len h1.ne (fun x hx=>L7.mpr (.inl hx)) (rest:=w.drop (g+(k+1))++[46]) hs
     have e2:=ac (ys:=one++other) h2.len h2.ne (fun x hx=>L7.mpr (.inr hx)) (rest:=w.drop (g+(k+1))++[46]) hs
     rw[hf,e1,e2]
     apply ja
     intro C5
     exact hb _ ⟨_,_,hp,.inr ⟨_,hc,rfl,_,by rw[e];exact Ml.mpr rfl,odd2_iff.mpr C5⟩⟩
 rcases key (w.length - g) (by omega) with e | hp
 ·exact e
 ·rw[show g+(w.length - g)=w.length by omega,Mz] at hp
  have hl:(46::w).length=w.length+1:=rfl
  obtain⟨n,hn⟩:∃ n,(46::w).length - g - 1=n+1:=⟨w.length - g - 1,by omega⟩
  have Hi:=X3 h1 h2 (rd:=46::w) (g:=g) (by omega) hn
  apply ja
  intro C5
  exact hb _ ⟨_,_,hp,.inl ⟨rfl,_,by rw[Hi];exact Ml.mpr rfl,odd2_iff.mpr C5⟩⟩
theorem X8 {L:List Nat} (h1:OkP one) (h2:OkP other) {w:List Nat} (hw:∀ c∈w,c∈L) (hb:∀ u,¬ BadAt one other L u):(vals one w).map (· % 2)=(vals other w).map (· % 2):=by
 unfold L2.vals
 rw[MQ,MQ]
 refine RQ fun j hj=>?_
 have hj:=OE.mp hj
 exact fJ h1 h2 hw hb (g:=j+1) (by omega) (by omega)
noncomputable def rep (xs:List Pat)(s c:Nat):Nat:=if c=46∨Mv xs c=true then c else s
theorem X9 {xs:List Pat}{s:Nat}(hs:Mv xs s=false):∀{l p:List Nat},(∀ d∈p,Mv xs d=true)->(l.map (rep xs s)=p↔l=p)
 | [],p,_=>by simp
 | c::l,[],_=>by simp
 | c::l,d::p,h=>by
  have ih:=X9 hs (l:=l) (p:=p) fun e he=>h e (Mp _ he)
  have hd:=h d Mn
  rw[L',Z2,Z2,ih]
  have hc:rep xs s c=d↔c=d:=by
   unfold rep
   split
   ·exact Iff.rfl
   ·rename_i hn
    refine⟨fun e=>?_,fun e=>?_⟩
    ·rw[<- e,hs] at hd;cases hd
    ·rw[e] at hn;exact absurd (.inr hd) hn
  rw[hc]
theorem fK (hx:x∈xs) (hs:Mv xs s=false) (f:List Nat) (b:Nat):fits x.1 (f.map (rep xs s)) b=fits x.1 f b:=by
 unfold fits
 rw[LP,<- aE,<- UZ]
 congr 1
 rw[Oq,beq_iff_eq,beq_iff_eq]
 exact X9 hs fun d hd=>Qs.mpr ⟨x,hx,B2 hd⟩
theorem X_ {xs:List Pat}{s:Nat}(hs:Mv xs s=false)(f:List Nat)(p:Nat):∀{ys:List Pat},(∀ y∈ys,y∈xs)->∀ m,numA (f.map (rep xs s)) p m ys=numA f p m ys
 | [],_,_=>rfl
 | y::ys,h,m=>by
  have hp:MG y.1 (f.map (rep xs s))=MG y.1 f:=by
   unfold MG
   rw[LP]
   exact List.filter_congr fun b _=>fK (h y Mn) hs f b
  have e:numP (f.map (rep xs s)) p m y=numP f p m y:=by unfold numP;rw[hp]
  show numA (f.map (rep xs s)) p (numP (f.map (rep xs s)) p m y) ys=numA f p (numP f p m y) ys
  rw[e]
  exact X_ hs f p (fun z hz=>h z (Mp _ hz)) _
theorem Ya (hs:Mv xs s=false) (w:List Nat) (h:∀ y∈ys,y∈xs):vals ys (w.map (rep xs s))=vals ys w:=by
 have hf:frame (w.map (rep xs s))=(frame w).map (rep xs s):=by
  have FN:rep xs s 46=46:=B4 (.inl rfl)
  unfold frame
  rw[L',L3,L',MT,FN]
 unfold L2.vals
 rw[LP]
 refine RQ fun j _=>?_
 rw[hf]
 exact X_ hs _ _ h 0
theorem fL (h1:OkP one) (h2:OkP other) (hb:∀ u,¬ BadAt one other (ltr (one++other)) u) {w:List Nat} (hw:∀ c∈w,c∈LETL):(vals one w).map (· % 2)=(vals other w).map (· % 2):=by
 cases hS:abc.filter fun c=>!(Mv (one++other) c) with
 | nil =>
  refine X8 h1 h2 (fun c hc=>L7.mpr (.inl (Qt.mpr ⟨hw c hc,?_⟩))) hb
  have:=iw.mp hS c (hw c hc)
  simpa using this
 | cons s r =>
  have K6:s∈abc.filter fun c=>!(Mv (one++other) c):=by rw[hS];exact Mn
  have hs:Mv (one++other) s=false:=by simpa using (Qt.mp K6).2
  have e:=X8 h1 h2 (w:=w.map (rep (one++other) s)) (fun c hc=>?_) hb
  ·rwa [Ya hs w fun y hy=>L7.mpr (.inl hy),Ya hs w fun y hy=>L7.mpr (.inr hy)] at e
  ·obtain⟨d,hd,rfl⟩:=MC.mp hc
   have D':=hw d hd
   unfold rep
   split
   ·rename_i h
    rcases h with h | h
    ·rw[h] at D';exact absurd D' (by decide)
    ·exact L7.mpr (.inl (Qt.mpr ⟨D',h⟩))
   ·exact L7.mpr (.inr (by rw[hS];exact Mn))
def Sm (one other:List Pat):Prop:=∀ u,¬ BadAt one other (ltr (one++other)) u
noncomputable def sel (xs:List Pat)(ks:List Nat):List Pat:=ks.map fun k=>xs.getD k ([],[])
open Classical in
noncomputable def stp (xs:List Pat)(left:List Nat)(n:Nat):List Nat:=if Sm (sel xs left) (sel xs (left.erase n)) then left.erase n else left
noncomputable def rnd (xs:List Pat)(left ns:List Nat):List Nat:=ns.foldl (stp xs) left
noncomputable def rd1 (xs:List Pat)(ks:List Nat):List Nat:=rnd xs ks ks
theorem Q6 (xs:List Pat)(left:List Nat)(n:Nat):NY (stp xs left n) left:=by
 unfold stp
 split
 ·exact List.erase_sublist
 ·exact Ve _
theorem Qa (xs:List Pat):∀(ns left:List Nat),NY (rnd xs left ns) left
 | [],left=>Ve _
 | n::ns,left=>(Qa xs ns (stp xs left n)).trans (Q6 xs left n)
theorem fM (xs:List Pat)(left ns:List Nat)(n:Nat):rnd xs left (ns++[n])=stp xs (rnd xs left ns) n:=by
 unfold rnd
 rw[Qr];rfl
theorem fN (hm:m∈left) (hn:m≠n):m∈stp xs left n:=by
 unfold stp
 split
 ·exact(iD hn).mpr hm
 ·exact hm
theorem Yb {xs:List Pat}{m:Nat}:∀{ns left:List Nat},m∈left->m∉ns->m∈rnd xs left ns
 | [],_,h,_=>h
 | n::ns,left,h,hn=>Yb (ns:=ns) (fN h fun e=>hn (by rw[e];exact Mn)) fun e=>hn (Mp _ e)
noncomputable def itr (xs:List Pat):Nat->List Nat->List Nat
 | 0,x=>x
 | k+1,x=>rd1 xs (itr xs k x)
def Left (xs:List Pat)(x0 r:List Nat):Prop:=(∃ k,r=itr xs k x0)/\rd1 xs r=r
theorem Tx {xs:List Pat}{r:List Nat}(h:rd1 xs r=r):∀ k,itr xs k r=r
 | 0=>rfl
 | k+1=>by show rd1 xs (itr xs k r)=r;rw[Tx h k];exact h
theorem Tz {xs:List Pat}{x:List Nat}(j:Nat):∀ k,itr xs (k+j) x=itr xs k (itr xs j x)
 | 0=>by rw[aX];rfl
 | k+1=>by
  rw[Nat.succ_add]
  show rd1 xs (itr xs (k+j) x)=rd1 xs (itr xs k (itr xs j x))
  rw[Tz j k]
theorem Left.one (h:Left xs x0 r) (h':Left xs x0 r'):r=r':=by
 obtain⟨⟨k,hk⟩,hf⟩:=h
 obtain⟨⟨k',hk'⟩,hf'⟩:=h'
 rcases Nat.le_total k k' with Em | Em
 ·obtain⟨d,rfl⟩:=iJ Em
  rw[hk',Tz,<- hk,Tx hf]
 ·obtain⟨d,rfl⟩:=iJ Em
  rw[hk,Tz,<- hk',Tx hf']
def Alk (one other:List Pat):Prop:=∀ w,(∀ c∈w,c∈LETL)->(vals one w).map (· % 2)=(vals other w).map (· % 2)
theorem stp_alk (h1:OkP (sel xs left)) (h2:OkP (sel xs (left.erase n))):Alk (sel xs left) (sel xs (stp xs left n)):=by
 unfold stp
 split
 ·rename_i hs
  intro w hw
  exact fL h1 h2 hs hw
 ·exact fun _ _=>rfl
noncomputable abbrev s_letters_to_read:Au:=top 28
noncomputable abbrev s_steps_from:Au:=top 29
noncomputable abbrev s_breaks_otherwise:Au:=top 30
noncomputable abbrev s_apart:Au:=top 31
noncomputable def Pn (xs:List Pat):List Nat:=N6 [] (xs.map (·.1))
theorem Yc {c:Nat}:∀{ls:List (List Nat)},c∈N6 [] ls↔∃ l∈ls,c∈l
 | []=>by simp[N6]
 | [a]=>by simp[N6]
 | a::b::r=>by
  have ih:=Yc (c:=c) (ls:=b::r)
  simp only[N6,OD,L7,ih,Mc]
  simp
theorem Q7 :decide (c∈Pn xs)=Mv xs c:=by
 unfold Pn Mv
 rw[Oq,decide_eq_true_iff,Yc,Qs]
 simp
theorem Yd {xs:List Pat}(h:∀ x∈xs,x.1.length<=22):((xs.map fun x=>S x.1).map (·.length)).sum<=xs.length * 22:=by
 induction xs with
 | nil=>simp
 | cons x r ih =>
  have:=ih fun y hy=>h y (Mp _ hy)
  have hx:=h x Mn
  simp only[L',UY,Mi,Mr] at this ⊢
  omega
theorem O9 (l:List α) (j:Nat) (h:j<=l.length):cutA l none (some (j:Int))=l.take j:=Z8 l 0 j h (MR _)
theorem Ye (xs:List V):cutV xs none (some 1)=xs.take 1:=by
 cases xs with
 | nil=>rfl
 | cons x r =>
  rw[Wl]
  exact O9 (x::r) 1 (by rw[Mr];omega)
def spLtr:Sp:=fun vs H Q _=>∃(b:Ac) (ys:List V) (xs:List Pat),vs=[.ref b]/\H b=some (.lst ys)/\L2.IsL H ys (xs.map patD)/\(∀ x∈xs,x.1.length<=22)/\xs.length<=200 /\
 ∀(r:Ac) (H':Hp),H r=none->H' r=some (.lst ((ltr xs).map fun c=>V.str (S [c])))->Same H H'->Q (.ref r) H'
theorem MW (hr:H r=none) (s:Same H H'):Same H (upd H' r x):=fun b o e=>by
 have hb:b≠r:=fun z=>by rw[z,hr] at e;cases e
 rw[LU hb];exact s b o e
theorem jo (T:Txt mg tk)(F:Fun K "letters_to_read" "letters_to_read" s_letters_to_read f fd):FnOk P w K mg base CX0 1 f fd ["patterns"] spLtr:=by
 refine F.okk ["patterns","signs","standing","strange"] ?_
 rintro _ _ _ s H _ _ _ hr ⟨b,ys,xs,rfl,hb,Cv,Ds,Ea,q⟩ nd
 have De:ys.length=xs.length:=by have:=Cv.length;simpa using this
 refine⟨_,(LM (OR (i:=1) nd rfl (Or.inr rfl) (M9 (K:=K) OJ Rt Ru RI (L8 Oh) (pa1 (Nl ["pattern"] [none] rfl (by kernel_rfl) rfl (Mx (K:=K) (pv 0)) (fun _ _ _ _=>(ME (i:=0) (show (["pattern"]:List Str).Nodup by decide +kernel) rfl (Or.inl rfl) (Or.inr rfl))) (fun _ _ _ _=>Nq) (fun _ _ _ _=>(pix K (pv 0) LL))))))
  (LM (UI (i:=2) ["signs","letter"] [some 1,none] rfl (by kernel_rfl) rfl nd rfl rfl (Mx (K:=K) (Rz (v:=.str "abcdefghijklmnopqrstuvwxyz") rfl T.m_LETTERS ⟨_,rfl⟩)) (fun _ _ _ _=>(ME (i:=1) (show (["signs","letter"]:List Str).Nodup by decide +kernel) rfl (Or.inl rfl) (Or.inr rfl))) (fun _ _ _ _=>(RH (L_ o_in (pv 1) (pv 0) (by with_unfolding_all rfl)))) (fun _ _ _ _=>(pv 1)))
  (LM (UI (i:=3) ["signs","letter"] [some 1,none] rfl (by kernel_rfl) rfl nd rfl rfl (Mx (K:=K) (Rz (v:=.str "abcdefghijklmnopqrstuvwxyz") rfl T.m_LETTERS ⟨_,rfl⟩)) (fun _ _ _ _=>(ME (i:=1) (show (["signs","letter"]:List Str).Nodup by decide +kernel) rfl (Or.inl rfl) (Or.inr rfl))) (fun _ _ _ _=>(RH (L_ VX (pv 1) (pv 0) (by with_unfolding_all rfl)))) (fun _ _ _ _=>(pv 1)))
  (LQ (LY (LX Mb (pv 2) (Nk (Nm (K:=K)) (pv 3) NL (MV LL)))))))),?_⟩
 walk_at "s0"
 ext
 intro r1 EN
 refine Pk (K:=K) (xs:=ys) (fun i B6 σ H'=>∃ v,σ=[v]/\B6=((xs.take i).map fun x=>S x.1).map V.str/\H' r1=some (.lst B6)/\Same H H') (fun i B6 σ H' _ hI9=>by rcases hI9 with ⟨_,_,_,_,s⟩;exact SqL.of (s _ _ hb))
  ⟨none,rfl,rfl,LN,LW EN _⟩ (fun i B6 σ H' hI9=>by rcases hI9 with ⟨_,_,e,e2,_⟩;exact⟨e2,by rw[e];simp;omega⟩) (szn (by omega)) ?_ ?_
 ·intro i B6 σ H2 hi hI9
  obtain⟨v,rfl,rfl,e2,s2⟩:=hI9
  rw[De] at hi
  obtain⟨y,d,hy,Df,hI⟩:=IsL.get (IsL.same s2 Cv) (show i < (xs.map patD).length by simpa using hi)
  rw[Ma,LS hi] at Df
  cases Df
  obtain⟨a2,t2,rfl,ea2,et2⟩:=P0 hI
  rw[L4,hy,Ps]
  ext
  refine⟨e2,_,rfl,?_,LN,MW EN s2⟩
  rw[MA,LS hi,L3,L3];rfl
 ·intro B6 σ H2 hI9
  obtain⟨v,rfl,rfl,e2,s2⟩:=hI9
  rw[De,Mz] at e2
  ext
  refine RK (ys:=xs.map fun x=>S x.1) (Ot e2) (by have:=Yd Ds;rw[Mi];simp only[NO,ZJ];omega) ?_
  have hj:Qh (S []) (xs.map fun x=>S x.1)=S (Pn xs):=by
   have:=O5 [] (xs.map (·.1))
   rw[MQ] at this
   exact this
  rw[hj]
  ext
  intro r2 Ed
  have Gr:H r2=none:=s2.free Ed
  rw[QQ]
  have K7:LETL.length=26:=rfl
  refine UL (fun i B6 σ H'=>∃ v,σ=[some (.str (S (Pn xs))),v]/\B6=((LETL.take i).filter (Mv xs)).map (fun c=>V.str (S [c]))/\H' r2=some (.lst B6)/\Same H H')
   ⟨none,rfl,rfl,LN,s2.trans (LW Ed _)⟩ (fun i B6 σ H' ⟨_,_,e,e2,_⟩=>⟨e2,by rw[e,LP];refine MX (Oz _ _) ?_;rw[Mt];omega⟩) (szn (by rw[Nx,Mi];decide)) ?_ ?_
  ·intro i B6 σ H3 hi hI9
   obtain⟨v,rfl,rfl,e3,s3⟩:=hI9
   rw[Nx,Mi] at hi
   rw[UM hi]
   ext
   rw[Wk,Q7,Up]
   have ht:LETL.take (i+1)=LETL.take i++[LETL[i]]:=by rw[MA,LS hi];rfl
   by_cases hc:Mv xs LETL[i]=true
   ·rw[hc]
    ext
    refine⟨e3,_,rfl,?_,LN,MW Gr s3⟩
    rw[ht,Op,Ud hc,L3];rfl
   ·rw[Uo] at hc
    rw[hc]
    ext
    refine⟨_,rfl,?_,e3,s3⟩
    rw[ht,Op,Ue (by rw[hc];exact Mj),UX,OD]
  ·intro B6 σ H3 hI9
   obtain⟨v,rfl,rfl,e3,s3⟩:=hI9
   rw[Nx,Mi,Mz] at e3
   ext
   intro r3 Fg
   have Gs:H r3=none:=s3.free Fg
   have E4:r2≠r3:=fun z=>by rw[<- z,e3] at Fg;cases Fg
   refine UL (fun i B6 σ H'=>∃ v,σ=[some (.str (S (Pn xs))),v]/\B6=((LETL.take i).filter fun c=>!(Mv xs c)).map (fun c=>V.str (S [c]))/\H' r3=some (.lst B6)/\Same H H'/\H' r2=some (.lst ((LETL.filter (Mv xs)).map (fun c=>V.str (S [c])))))
    ⟨none,rfl,rfl,LN,s3.trans (LW Fg _),by rw[LU E4];exact e3⟩ (fun i B6 σ H' ⟨_,_,e,e2,_,_⟩=>⟨e2,by rw[e,LP];refine MX (Oz _ _) ?_;rw[Mt];omega⟩) (szn (by rw[Nx,Mi];decide)) ?_ ?_
   ·intro i B6 σ H4 hi hI9
    obtain⟨v,rfl,rfl,e4,s4,e42⟩:=hI9
    rw[Nx,Mi] at hi
    rw[UM hi]
    ext
    rw[Wk,Q7,aP]
    have ht:LETL.take (i+1)=LETL.take i++[LETL[i]]:=by rw[MA,LS hi];rfl
    by_cases hc:(!(Mv xs LETL[i]))=true
    ·rw[hc]
     ext
     refine⟨e4,_,rfl,?_,LN,MW Gs s4,by rw[LU E4];exact e42⟩
     rw[ht,Op,Ud (p:=fun c=>!(Mv xs c)) hc,L3];rfl
    ·rw[Uo] at hc
     rw[hc]
     ext
     refine⟨_,rfl,?_,e4,s4,e42⟩
     rw[ht,Op,Ue (p:=fun c=>!(Mv xs c)) (by rw[hc];exact Mj),UX,OD]
   ·intro B6 σ H4 hI9
    obtain⟨v,rfl,rfl,e4,s4,e42⟩:=hI9
    rw[Nx,Mi,Mz] at e4
    ext
    refine Of (SqL.of e4) fun r5 Fx=>?_
    have Gu:r2≠r5:=fun z=>by rw[<- z,e42] at Fx;cases Fx
    ext
    refine OX (by rw[LU Gu];exact e42) LN (szn (by
     have h1:=Oz (Mv xs) LETL
     have h2:=Oz (fun c=>!(Mv xs c)) LETL
     have h3:=RF ((LETL.filter fun c=>!(Mv xs c)).map fun c=>V.str (S [c])) none (some 1)
     rw[LP] at h3 ⊢
     omega)) fun r6 Ih=>?_
    have s5:=s4.trans (LW Fx (.lst (cutV ((LETL.filter fun c=>!(Mv xs c)).map fun c=>V.str (S [c])) none (some 1))))
    ext
    refine q r6 _ (s5.free Ih) ?_ (s5.trans (LW Ih _))
    rw[LN,Ye]
    unfold ltr
    rw[L3,UZ]
noncomputable abbrev Step:Type:=List Nat×List View×List (Int×Int)
noncomputable def On (x:Step):Dt:=.tup [.str (S x.1),.tup [.lst (x.2.1.map NN),.lst (x.2.2.map Ov)]]
noncomputable def NH (one other:List Pat)(L u:List Nat)(v:View):List Step:=(u,[],Ox one other v)::L.map fun c=>(u++[c],No one other v c,NV one other v c)
theorem Qn (h:H a=some (.lst ys)) (h2:L2.IsL H ys ds):Is H (.ref a) (.lst ds):=by
 simp only[Is]
 exact⟨a,ys,rfl,h,h2⟩
theorem isLst (h:Is H v (.lst ds)):∃ a ys,v=.ref a/\H a=some (.lst ys)/\L2.IsL H ys ds:=by
 simp only[Is] at h
 exact h
theorem Yf (h:H a=some (.tup [x,y])) (h1:Is H x d) (h2:Is H y e):Is H (.ref a) (.tup [d,e]):=by
 simp only[Is]
 exact⟨a,_,rfl,h,by simp only[L2.IsL];exact⟨h1,h2,trivial⟩⟩
theorem Yg (h:Is H v (.tup [d,e])):∃ a x y,v=.ref a/\H a=some (.tup [x,y])/\Is H x d/\Is H y e:=by
 simp only[Is] at h
 obtain⟨a,ys,rfl,ha,hy⟩:=h
 match ys,hy with
 | [x,y],hy =>
  simp only[L2.IsL] at hy
  exact⟨a,x,y,rfl,ha,hy.1,hy.2.1⟩
theorem isStr (h:Is H v (.str z)):v=.str z:=by
 simp only[Is] at h
 exact h
theorem isStep (h:Is H v (On x)):∃ a b lv lp ys zs,v=.ref a/\H a=some (.tup [.str (S x.1),.ref b])/\H b=some (.tup [.ref lv,.ref lp])/\H lv=some (.lst ys)/\H lp=some (.lst zs)/\L2.IsL H ys (x.2.1.map NN)/\L2.IsL H zs (x.2.2.map Ov):=by
 obtain⟨a,y,z,rfl,ha,h1,h2⟩:=Yg h
 obtain⟨b,y2,z2,rfl,hb,h3,h4⟩:=Yg h2
 obtain⟨lv,ys,rfl,h5,h6⟩:=isLst h3
 obtain⟨lp,zs,rfl,h7,h8⟩:=isLst h4
 cases isStr h1
 exact⟨a,b,lv,lp,ys,zs,rfl,ha,hb,h5,h7,h6,h8⟩
noncomputable def less (H0:Hp)(r:Ac)(H:Hp):Hp:=fun b=>if b=r then none else match H0 b with
 | some (.lst _)=>none
 | _=>H b
theorem TB (h:b≠r) (h0:∀ xs,H0 b≠some (.lst xs)):less H0 r H b=H b:=by
 unfold less
 rw[B3 h]
 split
 ·rename_i xs e;exact absurd e (h0 xs)
 ·rfl
theorem fO (H0:Hp)(r:Ac)(H:Hp):Same (less H0 r H) H:=fun b o e=>by
 unfold less at e
 split at e
 ·cases e
 ·split at e
  ·cases e
  ·exact e
theorem fP (h:H0 b=some (.lst xs)):less H0 r H b=none:=by
 unfold less
 rw[h]
 split <;> rfl
theorem fQ :less H0 r (upd H r x)=less H0 r H:=by
 funext b
 unfold less
 split
 ·rfl
 ·rename_i hb;rw[LU hb]
theorem fR (s:Same H H'):Same (less H0 r H) (less H0 r H'):=fun b o e=>by
 unfold less at e ⊢
 split at e
 ·cases e
 ·rename_i hb
  rw[B3 hb]
  split at e
  ·cases e
  ·exact s b o e
theorem less_tk (h:H r=some (.lst xs)) (s:Same H0 H):Tk H (less H0 r H):=fun b ys e=>by
 have hb:b≠r:=fun z=>by rw[z,h] at e;cases e
 rw[TB hb fun zs z=>by have:=s _ _ z;rw[e] at this;cases this];exact e
theorem Yh (vs:List View):Ol (vs.map NN)=true:=by
 induction vs with
 | nil=>rfl
 | cons v r ih =>
  rw[L']
  have:Ql (NN v)=true:=by cases e:v.b <;> simp[NN,bD,e,Ql,Ol]
  simp[Ol,this,ih]
theorem fS (ps:List (Int×Int)):Ol (ps.map Ov)=true:=by
 induction ps with
 | nil=>rfl
 | cons v r ih =>
  rw[L']
  have:Ql (Ov v)=true:=by simp[Ov,Ql,Ol]
  simp[Ol,this,ih]
theorem Yi (hr:H r=some (.lst rs)) (s:Same H0 H) (ha:H a=some (.tup [.str (S x.1),.ref b])) (hb:H b=some (.tup [.ref lv,.ref lp])) (hv:H lv=some (.lst ys)) (hp:H lp=some (.lst zs)) (n1:lv≠r) (n2:lp≠r) (m1:H0 lv=none) (m2:H0 lp=none) (h1:L2.IsL H ys (x.2.1.map NN)) (h2:L2.IsL H zs (x.2.2.map Ov)):Is (less H0 r H) (.ref a) (On x):=by
 have t:=less_tk hr s
 refine Yf (t _ _ ha) (by simp only[Is]) (Yf (t _ _ hb) (Qn (by rw[TB n1 (fun xs z=>by rw[m1] at z;cases z)];exact hv) (IsL.tk t (Yh _) h1)) (Qn (by rw[TB n2 (fun xs z=>by rw[m2] at z;cases z)];exact hp) (IsL.tk t (fS _) h2)))
def Yj (C:Ac):Sp:=fun vs H Q _=>∃(p lb va:Ac) (one other:List Pat) (L u:List Nat) (v:View),vs=[.ref p,.ref lb,.ref va,.str (S u)]/\SightAt C H p one other/\OkP one/\OkP other/\OkV v /\
 H va=some (.tup [.str (S v.t),bV v.b,.int v.i,.int v.j])/\H lb=some (.lst (L.map fun c=>V.str (S [c])))/\L.length<=27/\u.length<=500000 /\
 ∀(r:Ac) (zs:List V) (H':Hp),H r=none->H' r=some (.lst zs)->L2.IsL (less H r H') zs ((NH one other L u v).map On)->Same H H'->Q (.ref r) H'
def Yk:Sp:=fun vs H Q _=>∃(lp:Ac) (us:List V) (ps:List (Int×Int)),vs=[.ref lp]/\H lp=some (.lst us)/\L2.IsL H us (ps.map Ov)/\ps.length<=1000/\∀ H',Same H H'->Q (.bl (ps.any odd2)) H'
theorem jp (T:Txt mg tk)(F:Fun K "breaks_otherwise" "breaks_otherwise" s_breaks_otherwise f fd):FnOk P w K mg base CX0 1 f fd ["pairs"] Yk:=by
 refine F.okk ["pairs"] ?_
 rintro _ _ _ s H _ _ _ hr ⟨lp,us,ps,rfl,hl,FO,CG,q⟩ nd
 have De:us.length=ps.length:=by have:=FO.length;simpa using this
 refine⟨_,(LQ (LY (pcb (c_any rfl) T.z_any (pa1 (Nl ["pair"] [none] rfl (by kernel_rfl) rfl (Mx (K:=K) (pv 0)) (fun _ _ _ _=>(ME (i:=0) (show (["pair"]:List Str).Nodup by decide +kernel) rfl (Or.inl rfl) (Or.inr rfl))) (fun _ _ _ _=>Nq) (fun _ _ _ _=>(NK (o_ne hr.units) (LX N5 (pix K (pv 0) LL) LL) (LX N5 (pix K (pv 0) LL) LL) (L6 _)))))))),?_⟩
 walk_at "s0"
 ext
 intro r B'
 refine Pk (K:=K) (xs:=us) (fun i B6 σ H'=>∃ v,σ=[v]/\B6=((ps.take i).map odd2).map V.bl/\H' r=some (.lst B6)/\Same H H') (fun i B6 σ H' _ hI9=>by rcases hI9 with ⟨_,_,_,_,s⟩;exact SqL.of (s _ _ hl))
  ⟨none,rfl,rfl,LN,LW B' _⟩ (fun i B6 σ H' hI9=>by rcases hI9 with ⟨_,_,e,e2,_⟩;exact⟨e2,by rw[e];simp;omega⟩) (szn (by omega)) ?_ ?_
 ·intro i B6 σ H2 hi hI9
  obtain⟨v,rfl,rfl,e2,s2⟩:=hI9
  rw[De] at hi
  obtain⟨y,d,hy,Df,hI⟩:=IsL.get (IsL.same s2 FO) (show i < (ps.map Ov).length by simpa using hi)
  rw[Ma,LS hi] at Df
  cases Df
  obtain⟨a2,rfl,ea2⟩:=isPair hI
  rw[L4,hy,Ps]
  ext
  refine⟨e2,_,rfl,?_,LN,MW B' s2⟩
  rw[MA,LS hi,L3,L3]
  congr 1
  show [V.bl _]=[V.bl (odd2 ps[i])]
  congr 2
  unfold odd2
  rw[Oq]
  simp
 ·intro B6 σ H2 hI9
  obtain⟨v,rfl,rfl,e2,s2⟩:=hI9
  rw[De,Mz] at e2
  ext
  refine QM (Ot e2) ?_
  have Fy:((ps.map odd2).any id)=ps.any odd2:=by rw[aF];rfl
  simp only[Fy]
  ext
  exact q H2 s2
theorem fT (T:Txt mg tk)(O:Ow K mg cO)(F:Fun K "steps_from" "steps_from" s_steps_from f fd)(Cs:Dm P w K mg base cO "by_letter" 3 ["self","view","letter"] (X0 cO))(CN:Dm P w K mg base cO "by_end" 3 ["self","view"] (X1 cO)):FnOk P w K mg base CX0 4 f fd ["sight","letters","view","word"] (Yj cO):=by
 refine F.okk ["sight","letters","view","word","steps","letter"] ?_
 rintro _ _ _ s H _ _ _ hr ⟨p,lb,va,one,other,L,u,v,rfl,hs,Ez,DY,hv,ev,el,hL,hu,q⟩ nd
 obtain⟨dx,kd,od,td,ko,kt,e1,_⟩:=id hs
 refine⟨_,(LM (pst 4 nd (MZ (pa1 (Nw (LO (pv 3) (pa1 (Nw (LO (MZ Ph) (pa1 (Nt (pv 0) O.cl CN hr.LV (pa1 (pv 2))))))))))))
  (LM (MN MH rfl (Mx (K:=K) (pv 1)) (pnm 5 nd)
   (LQ (OP (M9 (K:=K) Pd Uv Uw UK (pv 4) (pa1 (Nw (LO (LX Mb (pv 3) (pv 5)) (pa1 (Nt (pv 0) O.cl Cs hr.LV (LO (pv 2) (pa1 (pv 5))))))))))))
  (LQ (LY (pv 4))))),?_⟩
 walk_at "s0"
 ext
 intro a0 EZ
 have s0:=LW EZ (.lst [])
 ext
 refine M_ ?_
 ext
 refine M' (s0 _ _ e1) rfl ?_
 ext
 refine⟨p,va,one,other,v,rfl,hs.same s0,Ez,DY,hv,s0 _ _ ev,fun lp us H1 elp Hj FO s1=>?_⟩
 have ea0:H1 a0=some (.lst []):=s1 _ _ LN
 have s01:=s0.trans s1
 have IT:H lp=none:=s0.free Hj
 ext
 intro a1 E5
 have s2:=LW E5 (.tup [.ref a0,.ref lp])
 have ea1:=LN (H:=H1) (a:=a1) (o:=.tup [.ref a0,.ref lp])
 have elp2:=s2 _ _ elp
 have ea02:=s2 _ _ ea0
 have Hk:=IsL.same s2 FO
 have s02:=s01.trans s2
 generalize upd H1 a1 (.tup [.ref a0,.ref lp])=H2 at s2 ea1 elp2 ea02 Hk s02 ⊢
 ext
 intro a2 FP
 have s3:=LW FP (.tup [.str (S u),.ref a1])
 have ea2:=LN (H:=H2) (a:=a2) (o:=.tup [.str (S u),.ref a1])
 have elp3:=s3 _ _ elp2
 have ea03:=s3 _ _ ea02
 have ea13:=s3 _ _ ea1
 have Hl:=IsL.same s3 Hk
 have s03:=s02.trans s3
 generalize upd H2 a2 (.tup [.str (S u),.ref a1])=H3 at s3 ea2 elp3 ea03 ea13 Hl s03 ⊢
 ext
 intro r B'
 have s4:=LW B' (.lst [.ref a2])
 have er:=LN (H:=H3) (a:=r) (o:=.lst [.ref a2])
 have J2:H r=none:=s03.free B'
 have n1:a0≠r:=fun z=>by rw[z,B'] at ea03;cases ea03
 have n2:lp≠r:=fun z=>by rw[z,B'] at elp3;cases elp3
 have s04:=s03.trans s4
 have h0:Is (less H r (upd H3 r (.lst [.ref a2]))) (.ref a2) (On (u,[],Ox one other v)):=Yi (x:=(u,[],Ox one other v)) er s04 (s4 _ _ ea2) (s4 _ _ ea13) (s4 _ _ ea03) (s4 _ _ elp3) n1 n2 EZ IT (by simp only[MT,L2.IsL]) (IsL.same s4 Hl)
 generalize upd H3 r (.lst [.ref a2])=H4 at s4 er h0 s04 ⊢
 have el4:=s04 _ _ el
 ext
 refine NJ (K:=K) (xs:=L.map fun c=>V.str (S [c])) (fun i σ H'=>∃(zs:List V) (x:Option V),σ=[some (.ref p),some (.ref lb),some (.ref va),some (.str (S u)),some (.ref r),x]/\H' r=some (.lst zs)/\L2.IsL (less H r H') zs ((NH one other (L.take i) u v).map On)/\Same H H')
  ⟨[.ref a2],none,rfl,er,by unfold NH;simp only[List.take_zero,MT,L',L2.IsL];exact⟨h0,trivial⟩,s04⟩ (fun i σ H' _ hI9=>by rcases hI9 with ⟨_,_,_,_,_,s⟩;exact SqL.of (s _ _ el)) ?_ ?_
 ·intro i y σ H5 hy hI9
  obtain⟨zs,x,rfl,er5,Hm,s5⟩:=hI9
  have hi:i < L.length:=by have:=(MJ.mp hy).1;simpa using this
  rw[Ma,LS hi] at hy
  cases hy
  have Fp:=Hm.length
  rw[LP] at Fp
  have K8:(NH one other (L.take i) u v).length<=28:=by unfold NH;rw[Mr,LP,Mt];omega
  ext
  refine M_ ?_
  ext
  refine M' (s5 _ _ e1) rfl ?_
  ext
  refine⟨p,va,one,other,v,L[i],rfl,hs.same s5,Ez,DY,hv,s5 _ _ ev,fun b lv lp us ws H6 eb elv elp C5 IU Hj FO Fz s6=>?_⟩
  have er6:=s6 _ _ er5
  have s06:=s5.trans s6
  ext
  intro c hc
  have s7:=LW hc (.tup [.str (S (u++[L[i]])),.ref b])
  have ec:=LN (H:=H6) (a:=c) (o:=.tup [.str (S (u++[L[i]])),.ref b])
  have m1:lv≠r:=fun z=>by rw[z,er5] at IU;cases IU
  have m2:lp≠r:=fun z=>by rw[z,er5] at Hj;cases Hj
  have er7:=s7 _ _ er6
  have s07:=s06.trans s7
  have hx:Is (less H r (upd H6 c (.tup [.str (S (u++[L[i]])),.ref b]))) (.ref c) (On (u++[L[i]],No one other v L[i],NV one other v L[i])):=Yi (x:=(u++[L[i]],No one other v L[i],NV one other v L[i])) er7 s07 ec (s7 _ _ eb) (s7 _ _ elv) (s7 _ _ elp) m1 m2 (s5.free IU) (s5.free Hj) (IsL.same s7 FO) (IsL.same s7 Fz)
  have J3:=IsL.same (fR (H0:=H) (r:=r) (s6.trans s7)) Hm
  generalize upd H6 c (.tup [.str (S (u++[L[i]])),.ref b])=H7 at s7 ec er7 hx J3 s07 ⊢
  ext
  refine⟨zs++[.ref c],_,rfl,LN,?_,MW J2 s07⟩
  rw[fQ]
  have:NH one other (L.take (i+1)) u v=NH one other (L.take i) u v++[(u++[L[i]],No one other v L[i],NV one other v L[i])]:=by
   unfold NH
   rw[MA,LS hi,L3,RU];rfl
  rw[this,L3]
  exact IsL.snoc J3 hx
 ·intro σ H5 hI9
  obtain⟨zs,x,rfl,er5,Hm,s5⟩:=hI9
  rw[LP,Mz] at Hm
  ext
  exact q r zs H5 J2 er5 Hm s5
noncomputable def vk (v:View):List (Option Key):=[some (Sum.inr (S v.t)),v.b.map fun n:Nat=>(Sum.inl (n:Int):Key),some (Sum.inl v.i),some (Sum.inl v.j)]
noncomputable def vdat (v:View):List V:=[.str (S v.t),bV v.b,.int v.i,.int v.j]
theorem TC (v:View):(vk v).map oV=vdat v:=by
 cases v with
 | mk t b i j=>cases b <;> rfl
theorem Qb (h:vk a=vk b):a=b:=by
 have hd:vdat a=vdat b:=by rw[<- TC,<- TC,h]
 unfold vdat at hd
 simp only[Z2,V.str.injEq,V.int.injEq,and_true] at hd
 refine View.ext4 (S_inj hd.1) ?_ hd.2.2.1 hd.2.2.2
 have hb:=hd.2.1
 cases e1:a.b <;> cases e2:b.b <;> simp only[e1,e2,bV] at hb ⊢
 ·cases hb
 ·cases hb
 ·injection hb with hb
  rw[Int.ofNat_inj.mp hb]
theorem Qo (h:H a=some (.tup (vdat v))):viewKind.at_ H (vk v) a:=by
 show H a=some (.tup ((vk v).map oV))
 rw[TC];exact h
noncomputable abbrev WE:Type:=View×Ac×List Nat
noncomputable def wkv (ws:List WE):List (List (Option Key)×Ac×V):=ws.map fun e=>(vk e.1,e.2.1,V.str (S e.2.2))
theorem fU (ws:List WE):(wkv ws).map (·.1)=(ws.map (·.1)).map vk:=by unfold wkv;rw[MQ,MQ];rfl
theorem mem_vk {vs:List View}{v:View}:vk v∈vs.map vk↔v∈vs:=by
 rw[MC]
 exact⟨fun⟨x,hx,e⟩=>Qb e▸hx,fun h=>⟨v,h,rfl⟩⟩
theorem wkv_none :valX (wkv ws) (vk v)=none↔v∉ws.map (·.1):=by rw[eM,fU,mem_vk]
theorem wkv_put (h:v∉ws.map (·.1)):putX (wkv ws) (vk v) b (.str (S u))=wkv (ws++[(v,b,u)]):=by
 unfold putX
 have:((wkv ws).any fun e=>decide (e.1=vk v))=false:=by
  rw[Zu]
  intro e he
  unfold wkv at he
  obtain⟨x,hx,rfl⟩:=MC.mp he
  intro z
  exact h (Qb (of_decide_eq_true z)▸MC.mpr ⟨x,hx,rfl⟩)
 rw[this]
 unfold wkv
 rw[L3];rfl
theorem fV (hn:(ws.map (·.1)).Nodup) (he:e∈ws):valX (wkv ws) (vk e.1)=some (.str (S e.2.2)):=by
 induction ws with
 | nil=>cases he
 | cons x r ih =>
  rw[L',Rp] at hn
  unfold valX wkv
  rw[L',Nv]
  by_cases hx:x.1=e.1
  ·rcases Mc.mp he with rfl | h
   ·simp
   ·exact absurd (hx▸MC.mpr ⟨e,h,rfl⟩) hn.1
  ·have hk:decide (vk x.1=vk e.1)=false:=B1 fun z=>hx (Qb z)
   simp only[hk]
   rcases Mc.mp he with rfl | h
   ·exact absurd rfl hx
   ·have:=ih hn.2 h
    unfold valX wkv at this
    exact this
theorem Q8 (h:∀ e∈ws,H e.2.1=some (.tup (vdat e.1))):KO viewKind H (wkv ws):=fun e he=>by
 unfold wkv at he
 obtain⟨x,hx,rfl⟩:=MC.mp he
 exact Qo (h x hx)
theorem wkv_len (ws:List WE):(wkv ws).length=ws.length:=by unfold wkv;rw[LP]
structure Srch (one other:List Pat)(L:List Nat)(ws:List WE)(wq:List (View×Ac))(cur:View->Prop):Prop where
 nd:(ws.map (·.1)).Nodup
 fst:fstV one other∈ws.map (·.1)
 path:∀ e∈ws,Path one other L e.2.2 e.1
 len:∀ e∈ws,e.2.2.length+1<=ws.length
 sub:∀ e∈wq,e.1∈ws.map (·.1)
 ql:wq.length<=ws.length
 done:∀ x∈ws.map (·.1),(∃ a,(x,a)∈wq)∨cur x∨DoneV one other L (ws.map (·.1)) x
theorem Srch.few (h1:SmP one) (h2:SmP other) (h:Srch one other L ws wq cur):ws.length<=161000:=by
 have:=X5 h1 h2 h.nd fun v hv=>by
  obtain⟨e,he,rfl⟩:=MC.mp hv
  exact(h.path e he).good h1 h2
 rwa [LP] at this
theorem Srch.all (h:Srch one other L ws [] fun _=>False):AllV one other L (ws.map (·.1)):=by
 refine⟨h.nd,h.fst,fun v hv=>?_,fun v hv=>?_⟩
 ·obtain⟨e,he,rfl⟩:=MC.mp hv
  exact⟨_,h.path e he⟩
 ·rcases h.done v hv with ⟨a,ha⟩ | ha | ha
  ·cases ha
  ·exact ha.elim
  ·exact ha
theorem Srch.pop (h:Srch one other L ws ((v,a)::wq) fun _=>False):Srch one other L ws wq (·=v) :=
 ⟨h.nd,h.fst,h.path,h.len,fun e he=>h.sub e (Mp _ he),Nat.le_of_succ_le h.ql,fun x hx=>by
  rcases h.done x hx with ⟨b,hb⟩ | hb | hb
  ·rcases Mc.mp hb with e | e
   ·cases e;exact .inr (.inl rfl)
   ·exact .inl ⟨b,e⟩
  ·exact hb.elim
  ·exact .inr (.inr hb)⟩
theorem Srch.end (h:Srch one other L ws wq (·=v)) (hd:DoneV one other L (ws.map (·.1)) v):Srch one other L ws wq fun _=>False :=
 ⟨h.nd,h.fst,h.path,h.len,h.sub,h.ql,fun x hx=>by
  rcases h.done x hx with hb | hb | hb
  ·exact .inl hb
  ·rw[hb];exact .inr (.inr hd)
  ·exact .inr (.inr hb)⟩
theorem Srch.put (h:Srch one other L ws wq (·=v)) (hn:x∉ws.map (·.1)) (hp:Path one other L u x) (hl:u.length+1<=ws.length+1):Srch one other L (ws++[(x,b,u)]) (wq++[(x,b)]) (·=v):=by
 have hm:(ws++[(x,b,u)]).map (·.1)=ws.map (·.1)++[x]:=by rw[L3];rfl
 have Ei:∀ y∈ws.map (·.1),y∈ws.map (·.1)++[x]:=fun y hy=>L7.mpr (.inl hy)
 refine⟨?_,?_,fun e he=>?_,fun e he=>?_,fun e he=>?_,by rw[Md,Md];exact Nat.succ_le_succ h.ql,fun y hy=>?_⟩
 ·rw[hm,List.nodup_append]
  exact⟨h.nd,by simp,fun a ha c hc=>by rw[Ml.mp hc];exact fun z=>hn (z▸ha)⟩
 ·rw[hm];exact Ei _ h.fst
 ·rcases L7.mp he with he | he
  ·exact h.path e he
  ·rw[Ml.mp he];exact hp
 ·rw[Md,O_]
  rcases L7.mp he with he | he
  ·have:=h.len e he;omega
  ·rw[Ml.mp he];exact hl
 ·rw[hm]
  rcases L7.mp he with he | he
  ·exact Ei _ (h.sub e he)
  ·rw[Ml.mp he];exact L7.mpr (.inr (Ml.mpr rfl))
 ·rw[hm] at hy ⊢
  rcases L7.mp hy with hy | hy
  ·rcases h.done y hy with ⟨a,ha⟩ | ha | ha
   ·exact .inl ⟨a,L7.mpr (.inl ha)⟩
   ·exact .inr (.inl ha)
   ·exact .inr (.inr (ha.more Ei))
  ·rw[Ml.mp hy]
   exact .inl ⟨b,L7.mpr (.inr (Ml.mpr rfl))⟩
theorem fW (hp:Path one other L u v) (hx:x∈NH one other L u v):x.1.length<=u.length+1/\(∀ y∈x.2.1,Path one other L x.1 y)/\(x.2.2.any odd2=true->BadAt one other L x.1):=by
 rcases Mc.mp hx with rfl | hx
 ·refine⟨Qw _,fun y hy=>(nomatch hy),fun h=>?_⟩
  obtain⟨p,h1,h2⟩:=Qs.mp h
  exact⟨u,v,hp,.inl ⟨rfl,p,h1,h2⟩⟩
 ·obtain⟨c,hc,rfl⟩:=MC.mp hx
  refine⟨by rw[Md];exact LZ _,fun y hy=>.snoc hp hc hy,fun h=>?_⟩
  obtain⟨p,h1,h2⟩:=Qs.mp h
  exact⟨u,v,hp,.inr ⟨c,hc,rfl,p,h1,h2⟩⟩
theorem Yl {ps:List (Int×Int)}(h:ps.any odd2=false):∀ p∈ps,odd2 p=false:=fun p hp=>by
 have:=Zu.mp h p hp
 simpa using this
theorem fX (h:∀ x∈NH one other L u v,x.2.2.any odd2=false/\∀ y∈x.2.1,y∈vs):DoneV one other L vs v:=by
 refine⟨Yl (h _ Mn).1,fun c hc=>?_⟩
 have:=h _ (Mp _ (MC.mpr ⟨c,hc,rfl⟩))
 exact⟨Yl this.1,this.2⟩
theorem TD (one other:List Pat)(v:View)(c:Nat):(No one other v c).length<=2/\(NV one other v c).length<=1/\(Ox one other v).length<=1:=by
 refine⟨?_,?_,?_⟩
 ·unfold No;split
  ·exact MR _
  ·split <;> simp
 ·unfold NV;split <;> simp
 ·unfold Ox;split <;> simp
theorem fY (hx:x∈NH one other L u v):x.2.1.length<=2/\x.2.2.length<=1:=by
 rcases Mc.mp hx with rfl | hx
 ·exact⟨MR _,(TD one other v 0).2.2⟩
 ·obtain⟨c,hc,rfl⟩:=MC.mp hx
  exact⟨(TD one other v c).1,(TD one other v c).2.1⟩
noncomputable def Q9:List Nat:=[119,111,114,100]
noncomputable def Q_:List Nat:=[115,97,109,101]
theorem Ym:Mm "word"=S Q9:=by decide +kernel
theorem TF:Mm "same"=S Q_:=by decide +kernel
noncomputable def Told (one other:List Pat)(H:Hp)(Q:VK):Prop :=
 (∀(r:Ac) (u:List Nat) (H':Hp),BadAt one other (ltr (one++other)) u->u.length<=200000->H r=none->H' r=some (.tup [.str (S Q9),.str (S u)])->Same H H'->Q (.ref r) H') /\
 ∀(r l:Ac) (vs:List View) (zs:List V) (H':Hp),AllV one other (ltr (one++other)) vs->H r=none->H l=none->H' r=some (.tup [.str (S Q_),.ref l])->H' l=some (.lst zs)->L2.IsL H' zs (vs.map NN)->Same H H'->Q (.ref r) H'
def TH:Sp:=fun vs H Q _=>∃(a b:Ac) (ya yb:List V) (one other:List Pat),vs=[.ref a,.ref b]/\H a=some (.lst ya)/\H b=some (.lst yb)/\L2.IsL H ya (one.map patD)/\L2.IsL H yb (other.map patD)/\SmP one/\SmP other/\Told one other H Q
theorem wv_isL (h:∀ e∈ws,H e.2.1=some (.tup (vdat e.1))):L2.IsL H ((wkv ws).map fun e=>V.ref e.2.1) ((ws.map (·.1)).map NN):=by
 induction ws with
 | nil=>simp only[wkv,MT,L2.IsL]
 | cons x r ih =>
  have:=ih fun e he=>h e (Mp _ he)
  simp only[wkv,L',L2.IsL] at this ⊢
  exact⟨Tb (h x Mn),this⟩
theorem Ra {K':Type} [DecidableEq K']{N:OwnKind K'}{P:Ag}{w:Ak}{ty td:TE}{σ:St}{H:Hp}{Q:VK}(h:ty σ H fun y H1=>td σ H1 fun x H2=>∃ a o,x=.ref a/\DGetX N P w H2 a y o/\Q (.bl (!o.isSome)) H2):Tf N P w ty td σ H Q:=h
theorem szlt (h:n<=1000000):n < Af:=Qv h (by decide)
structure SH (P:Ag)(w:Ak)(H3 H':Hp)(wd wt:Ac)(ws:List WE)(wq:List (View×Ac)):Prop where
 dx:H' wd=some (DX viewKind P w wd (wkv ws))
 wl:H' wt=some (.lst (wq.map fun e=>V.ref e.2))
 ks:∀ e∈ws,H' e.2.1=some (.tup (vdat e.1))
 qs:∀ e∈wq,H' e.2=some (.tup (vdat e.1))
 sm:Same H3 H'
theorem SH.new (h:SH P w H3 H' wd wt ws wq) (s:Same H' H''):SH P w H3 H'' wd wt ws wq :=
 ⟨s _ _ h.dx,s _ _ h.wl,fun e he=>s _ _ (h.ks e he),fun e he=>s _ _ (h.qs e he),h.sm.trans s⟩
theorem SH.ne (h:SH P w H3 H' wd wt ws wq):wd≠wt:=fun z=>by
 have e1:=h.dx
 have e2:=h.wl
 rw[z,e2] at e1
 cases e1
theorem SH.tup (h:SH P w H3 H' wd wt ws wq):Tk H' (upd (upd H' wd x) wt y):=fun b xs e=>by
 have h1:b≠wd:=fun z=>by rw[z,h.dx] at e;cases e
 have h2:b≠wt:=fun z=>by rw[z,h.wl] at e;cases e
 rw[LU h2,LU h1];exact e
theorem SH.pop (h:SH P w H3 H' wd wt ws (e0::wq)) (hn:H3 wt=none):SH P w H3 (upd H' wt (.lst (wq.map fun e=>V.ref e.2))) wd wt ws wq:=by
 have hl:=h.wl
 have tk:Tk H' (upd H' wt (.lst (wq.map fun e=>V.ref e.2))):=Tk.lst hl _
 exact⟨by rw[LU h.ne];exact h.dx,LN,fun e he=>tk _ _ (h.ks e he),fun e he=>tk _ _ (h.qs e (Mp _ he)),MW hn h.sm⟩
theorem SH.put (h:SH P w H3 H' wd wt ws wq) (hn:H3 wt=none) (hd:H3 wd=none) (hb:H' b=some (.tup (vdat v))):
  SH P w H3 (upd (upd H' wd (DX viewKind P w wd (wkv (ws++[(v,b,u)])))) wt (.lst ((wq++[(v,b)]).map fun e=>V.ref e.2))) wd wt (ws++[(v,b,u)]) (wq++[(v,b)]):=by
 have tk:=h.tup (x:=DX viewKind P w wd (wkv (ws++[(v,b,u)]))) (y:=.lst ((wq++[(v,b)]).map fun e=>V.ref e.2))
 refine⟨by rw[LU h.ne];exact LN,LN,fun e he=>tk _ _ ?_,fun e he=>tk _ _ ?_,MW hn (MW hd h.sm)⟩
 ·rcases L7.mp he with he | he
  ·exact h.ks e he
  ·rw[Ml.mp he];exact hb
 ·rcases L7.mp he with he | he
  ·exact h.qs e he
  ·rw[Ml.mp he];exact hb
def ApW (P:Ag)(w:Ak)(one other:List Pat)(L:List Nat)(H3:Hp)(a b x lb wd wt:Ac)(m:Nat)(σ:St)(H':Hp):Prop:=∃(ws:List WE) (wq:List (View×Ac)) (x6 x7 x8 x9:Option V),σ=[some (.ref a),some (.ref b),some (.ref x),some (.ref lb),some (.ref wd),some (.ref wt),x6,x7,x8,x9] /\
 Srch one other L ws wq (fun _=>False)/\SH P w H3 H' wd wt ws wq/\m=2 * (161000 - ws.length)+wq.length
structure ApS (P:Ag)(w:Ak)(one other:List Pat)(L:List Nat)(H3 HB H':Hp)(wd wt r:Ac)(zs:List V)(v:View)(u:List Nat)(m:Nat)(ws:List WE)(wq:List (View×Ac))(done:List Step):Prop where
 sr:Srch one other L ws wq (·=v)
 sh:SH P w H3 H' wd wt ws wq
 er:H' r=some (.lst zs)
 dat:Dat HB H'
 dn:∀ x∈done,x.2.2.any odd2=false/\∀ y∈x.2.1,y∈ws.map (·.1)
 ul:u.length+1<=ws.length
 ms:2 * (161000 - ws.length)+wq.length+1<=m
theorem ApS.new (h:ApS P w one other L H3 HB H' wd wt r zs v u m ws wq done) (s:Same H' H''):ApS P w one other L H3 HB H'' wd wt r zs v u m ws wq done :=
 ⟨h.sr,h.sh.new s,s _ _ h.er,h.dat.trans s.dat,h.dn,h.ul,h.ms⟩
theorem fZ (T:Txt mg tk)(O:Ow K mg cO)(F:Fun K "apart" "apart" s_apart f fd)(Ct:Dn P w K mg base "letters_to_read" 1 ["patterns"] spLtr)(C8:Dn P w K mg base "steps_from" 4 ["sight","letters","view","word"] (Yj cO))(Cq:Dn P w K mg base "breaks_otherwise" 1 ["pairs"] Yk)(C9:Dk P w K mg base cO 2 ["self","one","other"] (XY cO))(CZ:Dm P w K mg base cO "first" 2 ["self"] (XZ cO)):FnOk P w K mg base CX0 5 f fd ["one","other"] TH:=by
 refine F.okk ["one","other","sight","letters","words","waiting","view","word","step","later"] ?_
 rintro _ _ _ _ H _ _ _ hr ⟨a,b,ya,yb,one,other,rfl,ha,hb,Dv,Ey,sm1,sm2,tw,ts⟩ nd
 have D5:=Dv.length
 have DH:=Ey.length
 rw[LP] at D5 DH
 have Ff:=sm1.2.2
 have GM:=sm2.2.2
 refine⟨_,(LM (pst 2 nd (S9 C9 hr.LV rfl O.m_Sight (LO (pv 0) (pa1 (pv 1)))))
  (LM (pst 3 nd (L0 Ct hr.LV rfl (pa1 (LX Mb (pv 0) (pv 1)))))
  (LM (pst 4 nd (px_disp (N:=viewKind) (P:=P) (w:=w) rfl rfl (Ti hr) (eh (pv 2) O.cl CZ hr.LV) (L8 Oh)))
  (LM (pst 5 nd (pct (Xw (N:=viewKind) (P:=P) (w:=w) rfl rfl rfl) T.z_list (pa1 (pv 4))))
  (LM (R6 MH (L_ o_gt (pcb (Mq (K:=K)) T.z_len (pa1 (pv 5))) LL (L6 _))
   (LM (pst 6 nd (M9 (K:=K) Pd PySem.F.slot_list_pop PySem.F.type_list_pop m_pop1 (pv 5) (pa1 LL)))
  (LQ (MN MH rfl (Mx (K:=K) (L0 C8 hr.LV rfl (LO (pv 2) (LO (pv 3) (LO (pv 6) (pa1 (px_get (N:=viewKind) (P:=P) (w:=w) rfl rfl (Ti hr) (pv 4) (pv 6) (fun _ _=>rfl)))))))) (Pw rfl (MU (pnm 7 nd) (MU (pnm 8 nd) OQ)))
   (LM (Me (NC (L0 Cq hr.LV rfl (pa1 (pix K (pv 8) LL))) (fun _=>rfl))
   (LQ (LY (Nw (LO (L8 Ym) (pa1 (pv 7))))))
   Mg)
  (LQ (MN MH rfl (Mx (K:=K) (pix K (pv 8) LL)) (pnm 9 nd)
   (LQ (Me (RA (Tj (N:=viewKind) (P:=P) (w:=w) rfl rfl (Ti hr) (pv 9) (pv 4)))
   (LM (Xv (N:=viewKind) (P:=P) (w:=w) rfl rfl (Ti hr) (pv 4) (pv 9) (pv 7) rfl)
  (LQ (OP (M9 (K:=K) Pd Uv Uw UK (pv 5) (pa1 (pv 9))))))
   Mg)))))))))
  (LQ (LY (Nw (LO (L8 TF) (pa1 (pct (Xw (N:=viewKind) (P:=P) (w:=w) rfl rfl rfl) T.z_list (pa1 (pv 4))))))))))))),?_⟩
 walk_at "s0"
 generalize Hn:ltr (one++other)=L at tw ts
 have Ho:L.length<=27:=Hn▸X6 _
 ext
 refine P_ ?_
 ext
 intro x dx hx hd C5
 have ms:Same H (upd (upd H dx (.own x)) x (.ins cO dx [])):=X2 hx hd fun b o hb e=>e
 refine⟨x,a,b,dx,ya,yb,one,other,rfl,LN,ms _ _ ha,ms _ _ hb,IsL.same ms Dv,IsL.same ms Ey,sm1.1,sm2.1,fun H1 hs ho=>⟨rfl,?_⟩⟩
 have s1:=X2 hx hd ho
 have E5:=s1 _ _ ha
 have Eb:=s1 _ _ hb
 ext
 refine OX E5 Eb (szn (by omega)) fun c hc=>?_
 have s2:=LW hc (.lst (ya++yb))
 ext
 refine⟨c,ya++yb,one++other,rfl,LN,?_,fun y hy=>?_,by rw[Md];omega,fun lb H3 J4 elb s3=>?_⟩
 ·rw[L3]
  exact IsL.append (IsL.same (s1.trans s2) Dv) (IsL.same (s1.trans s2) Ey)
 ·have:=Q4 sm1 sm2 y hy;omega
 rw[Hn] at elb
 have s13:=s2.trans s3
 have s03:=s1.trans s13
 have IV:=hs.same s13
 obtain⟨dx',kd,od,td,ko,kt,e1,_⟩:=id IV
 ext
 intro wd GN
 have s4:=LW GN (DX viewKind P w wd [])
 ext
 refine M_ ?_
 ext
 refine M' (s4 _ _ e1) rfl ?_
 ext
 refine⟨x,one,other,rfl,IV.same s4,fun fv H5 hfv efv s5=>?_⟩
 have ewd5:=s5 _ _ (LN (H:=H3) (a:=wd) (o:=DX viewKind P w wd []))
 ext
 refine⟨ewd5,fv,vk (fstV one other),rfl,Qo (v:=fstV one other) efv,?_⟩
 have efv':H5 fv=some (.tup (vdat (fstV one other))):=efv
 have nfw:fv≠wd:=fun z=>by rw[z,ewd5] at efv;cases efv
 have s35:Same H3 (upd H5 wd (DX viewKind P w wd (wkv [(fstV one other,fv,[])]))):=MW GN (s4.trans s5)
 have efv6:(upd H5 wd (DX viewKind P w wd (wkv [(fstV one other,fv,[])]))) fv=some (.tup (vdat (fstV one other))):=by rw[LU nfw];exact efv'
 have ewd6:=LN (H:=H5) (a:=wd) (o:=DX viewKind P w wd (wkv [(fstV one other,fv,[])]))
 show N7 4 (.ref wd) _ (upd H5 wd (DX viewKind P w wd (wkv [(fstV one other,fv,[])]))) _
 generalize upd H5 wd (DX viewKind P w wd (wkv [(fstV one other,fv,[])]))=H6 at s35 efv6 ewd6 ⊢
 have IW:KO viewKind H6 (wkv [(fstV one other,fv,[])]):=Q8 fun e he=>by rw[Ml.mp he];exact efv6
 ext
 refine⟨_,.inl ewd6,IW,fun wt J5=>?_⟩
 have Hq:H3 wt=none:=s35.free J5
 have sh7:SH P w H3 (upd H6 wt (.lst ((wkv [(fstV one other,fv,[])]).map fun e=>V.ref e.2.1))) wd wt [(fstV one other,fv,[])] [(fstV one other,fv)]:=by
  have s7:=LW J5 (.lst ((wkv [(fstV one other,fv,[])]).map fun e=>V.ref e.2.1))
  exact⟨s7 _ _ ewd6,LN,fun e he=>by rw[Ml.mp he];exact s7 _ _ efv6,fun e he=>by rw[Ml.mp he];exact s7 _ _ efv6,s35.trans s7⟩
 generalize upd H6 wt (.lst ((wkv [(fstV one other,fv,[])]).map fun e=>V.ref e.2.1))=H7 at sh7 ⊢
 have sr7:Srch one other L [(fstV one other,fv,[])] [(fstV one other,fv)] fun _=>False :=
  ⟨by simp,by simp,fun e he=>by rw[Ml.mp he];exact .nil,fun e he=>by rw[Ml.mp he];exact LZ _,fun e he=>by rw[Ml.mp he];simp,LZ _,fun y hy=>.inl ⟨fv,by rw[Ml.mp hy];exact Ml.mpr rfl⟩⟩
 ext
 refine⟨ApW P w one other L H3 a b x lb wd wt,⟨_,_,_,none,none,none,none,rfl,sr7,sh7,rfl⟩,?_⟩
 intro m σ H8 hI9
 obtain⟨ws,wq,x6,x7,x8,x9,rfl,sr8,sh8,rfl⟩:=hI9
 have El:=sh8.wl
 have ER:=sr8.few sm1 sm2
 ext
 cases wq with
 | nil =>
  refine ND (by simp) ?_
  have Gv:=Q8 sh8.ks
  ext
  refine⟨_,.inl sh8.dx,Gv,fun l hl=>?_⟩
  have s9:=LW hl (.lst ((wkv ws).map fun e=>V.ref e.2.1))
  have el9:=LN (H:=H8) (a:=l) (o:=.lst ((wkv ws).map fun e=>V.ref e.2.1))
  have J6:=wv_isL fun e he=>s9 _ _ (sh8.ks e he)
  have s39:=sh8.sm.trans s9
  have K9:H l=none:=(s03.trans sh8.sm).free hl
  generalize upd H8 l (.lst ((wkv ws).map fun e=>V.ref e.2.1))=H9 at s9 el9 J6 s39 ⊢
  ext
  intro r J7
  have s10:=LW J7 (.tup [.str (S Q_),.ref l])
  exact ts r l _ _ _ sr8.all ((s03.trans s39).free J7) K9 LN (s10 _ _ el9) (IsL.same s10 J6) ((s03.trans s39).trans s10)
 | cons e0 wq =>
  obtain⟨v,av⟩:=e0
  refine NP (by simp) ⟨fun σ' H'=>∃ m',m' < 2 * (161000 - ws.length)+((v,av)::wq).length/\ApW P w one other L H3 a b x lb wd wt m' σ' H',fun σ' H' h=>h,?_⟩
  have K_:=sh8.qs (v,av) Mn
  obtain⟨e,he,FA⟩:=MC.mp (sr8.sub (v,av) Mn)
  obtain⟨v',bv,u⟩:=e
  have FA:v'=v:=FA
  subst FA
  have J8:Path one other L u v':=sr8.path _ he
  have GO:u.length+1<=ws.length:=sr8.len _ he
  have La:=J8.good sm1 sm2
  have sr9:=sr8.pop
  have sh9:=sh8.pop Hq
  have Gw:(upd H8 wt (.lst (wq.map fun e=>V.ref e.2))) av=some (.tup (vdat v')):=Tk.lst El _ _ _ K_
  ext
  refine i_pop0 El ?_
  generalize upd H8 wt (.lst (wq.map fun e=>V.ref e.2))=H9 at sh9 Gw ⊢
  have IX:=Q8 sh9.ks
  have Dx:=fV sr9.nd he
  ext
  refine i_xget ?_
  ext
  refine⟨wd,.str (S u),rfl,⟨_,vk v',av,.inl sh9.dx,IX,rfl,Qo Gw,Dx.symm⟩,?_⟩
  ext
  refine⟨x,lb,av,one,other,L,u,v',rfl,IV.same sh9.sm,sm1.1,sm2.1,La.ok sm1 sm2,Gw,sh9.sm _ _ elb,Ho,by have GO:u.length+1<=ws.length:=GO;omega,fun r zs H10 FB er10 Gx s10=>?_⟩
  have sh10:=sh9.new s10
  have Hr:less H9 r H10 wt=none:=fP sh9.wl
  have Fp:=Gx.length
  rw[LP] at Fp
  have Lb:r≠wt:=fun z=>by rw[z,sh9.wl] at FB;cases FB
  have JI:r≠wd:=fun z=>by rw[z,sh9.dx] at FB;cases FB
  have ap0:ApS P w one other L H3 (less H9 r H10) H10 wd wt r zs v' u (2 * (161000 - ws.length)+((v',av)::wq).length) ws wq [] :=
   ⟨sr9,sh10,er10,(fO _ _ _).dat,fun x hx=>(nomatch hx),GO,by rw[Mr];omega⟩
  generalize less H9 r H10=HB at Hr Gx ap0
  generalize 2 * (161000 - ws.length)+((v',av)::wq).length=m at ap0 ⊢
  ext
  refine NJ (K:=K) (xs:=zs) (fun i σ H'=>∃(ws:List WE) (wq:List (View×Ac)) (x7 x8 x9:Option V),σ=[some (.ref a),some (.ref b),some (.ref x),some (.ref lb),some (.ref wd),some (.ref wt),some (.ref av),x7,x8,x9]/\ApS P w one other L H3 HB H' wd wt r zs v' u m ws wq ((NH one other L u v').take i))
   ⟨ws,wq,_,_,_,rfl,ap0⟩ (fun i σ H' _ hI9=>by rcases hI9 with ⟨_,_,_,_,_,_,h⟩;exact SqL.of h.er) ?_ ?_
  ·intro i y σ H11 hy hI9
   obtain⟨ws2,wq2,y7,y8,y9,rfl,ap⟩:=hI9
   have hi:i < (NH one other L u v').length:=by have:=(MJ.mp hy).1;omega
   obtain⟨y',d,hy',Df,hI⟩:=IsL.get Gx (show i < ((NH one other L u v').map On).length by simpa using hi)
   rw[hy] at hy'
   cases hy'
   rw[Ma,LS hi] at Df
   cases Df
   have Dw:=MD hi
   have Fe:(NH one other L u v').take (i+1)=(NH one other L u v').take i++[(NH one other L u v')[i]]:=by rw[MA,LS hi];rfl
   rw[Fe]
   generalize (NH one other L u v')[i]=st at hI Dw ⊢
   obtain⟨sa,sb,lv,lp,ys,us,rfl,esaB,esbB,elvB,elpB,IY,IZ⟩:=isStep hI
   have I0:lv≠wt:=fun z=>by rw[z,Hr] at elvB;cases elvB
   have esa:=ap.dat.2.1 _ _ esaB
   have esb:=ap.dat.2.1 _ _ esbB
   have elv:=ap.dat.1 _ _ elvB
   have elp:=ap.dat.1 _ _ elpB
   have Cv:=IsL.dat ap.dat IY
   have FO:=IsL.dat ap.dat IZ
   obtain⟨FC,DG,hs3'⟩:=fW J8 Dw
   obtain⟨Ia,GU⟩:=fY Dw
   refine SE esa rfl (M0 (MY (M0 (MY (Pl ?_)))))
   ext
   refine⟨lp,us,st.2.2,rfl,elp,FO,by omega,fun H12 s12=>?_⟩
   have ap12:=ap.new s12
   by_cases E6:st.2.2.any odd2=true
   ·rw[E6]
    ext
    intro rr Hs
    have s13:=LW Hs (.tup [.str (S Q9),.str (S st.1)])
    have s33:=s03.trans ap12.sh.sm
    refine tw rr st.1 _ (Hn▸hs3' E6) ?_ (s33.free Hs) LN (s33.trans s13)
    have:=ap12.sr.few sm1 sm2
    have:=ap12.ul
    omega
   ·rw[Uo] at E6
    rw[E6]
    have esb12:=s12 _ _ esb
    have elv12:=s12 _ _ elv
    have Ht:=IsL.same s12 Cv
    ext
    have De:=Cv.length
    rw[LP] at De
    refine NJ (K:=K) (xs:=ys) (fun j σ H'=>∃(ws:List WE) (wq:List (View×Ac)) (x9:Option V),σ=[some (.ref a),some (.ref b),some (.ref x),some (.ref lb),some (.ref wd),some (.ref wt),some (.ref av),some (.str (S st.1)),some (.ref sb),x9]/\ApS P w one other L H3 HB H' wd wt r zs v' u m ws wq ((NH one other L u v').take i)/\(∀ z∈st.2.1.take j,z∈ws.map (·.1))/\H' lv=some (.lst ys)/\L2.IsL H' ys (st.2.1.map NN))
     ⟨ws2,wq2,_,rfl,ap12,fun z hz=>(nomatch hz),elv12,Ht⟩ (fun j σ H' _ hI9=>by rcases hI9 with ⟨_,_,_,_,_,_,h,_⟩;exact SqL.of h) ?_ ?_
    ·intro j z σ H13 hz hI9
     obtain⟨ws3,wq3,z9,rfl,ap3,Ei,elv13,EA⟩:=hI9
     have hj:j < st.2.1.length:=by have:=(MJ.mp hz).1;omega
     obtain⟨z',d,hz',Df,hI⟩:=IsL.get EA (show j < (st.2.1.map NN).length by simpa using hj)
     rw[hz] at hz'
     cases hz'
     rw[Ma,LS hj] at Df
     cases Df
     obtain⟨la,rfl,ela⟩:=Xo hI
     have ela:H13 la=some (.tup (vdat st.2.1[j])):=ela
     have E1:st.2.1.take (j+1)=st.2.1.take j++[st.2.1[j]]:=by rw[MA,LS hj];rfl
     have CG:=DG _ (MD hj)
     rw[E1]
     generalize st.2.1[j]=lt at ela CG ⊢
     have FQ:=Q8 ap3.sh.ks
     have few3:=ap3.sr.few sm1 sm2
     ext
     refine i_tB (Ra ?_)
     ext
     refine⟨wd,_,rfl,⟨_,vk lt,la,.inl ap3.sh.dx,FQ,rfl,Qo ela,rfl⟩,_,rfl,?_⟩
     by_cases Cm:lt∈ws3.map (·.1)
     ·have Hu:(valX (wkv ws3) (vk lt)).isSome=true:=by
       cases hv:valX (wkv ws3) (vk lt) with
       | none=>exact absurd Cm (wkv_none.mp hv)
       | some _=>rfl
      rw[Hu]
      ext
      exact⟨ws3,wq3,_,rfl,ap3,fun z hz=>(L7.mp hz).elim (Ei z) fun h=>by rw[Ml.mp h];exact Cm,elv13,EA⟩
     ·rw[wkv_none.mpr Cm]
      ext
      refine Xx ?_
      ext
      refine⟨wd,_,rfl,⟨_,vk lt,la,ap3.sh.dx,FQ,rfl,Qo ela,szlt (by rw[wkv_len];omega),rfl⟩,?_⟩
      rw[wkv_put Cm]
      have Hv:(upd H13 wd (DX viewKind P w wd (wkv (ws3++[(lt,la,st.1)])))) wt=some (.lst (wq3.map fun e=>V.ref e.2)):=by rw[LU (N2 ap3.sh.ne)];exact ap3.sh.wl
      have hql:=ap3.sr.ql
      have sh14:=ap3.sh.put (u:=st.1) Hq GN ela
      have ul3:=ap3.ul
      have sr14:=ap3.sr.put (b:=la) Cm CG (by omega)
      have few14:=sr14.few sm1 sm2
      rw[Md,O_] at few14
      have ms3:=ap3.ms
      have I_:lv≠wd:=fun z=>by rw[z,ap3.sh.dx] at elv13;cases elv13
      have tk14:=ap3.sh.tup (x:=DX viewKind P w wd (wkv (ws3++[(lt,la,st.1)]))) (y:=.lst ((wq3++[(lt,la)]).map fun e=>V.ref e.2))
      ext
      refine QL Hv (szlt (by rw[LP];omega)) ?_
      have Ja:wq3.map (fun e=>V.ref e.2)++[V.ref la]=(wq3++[(lt,la)]).map fun e=>V.ref e.2:=by rw[L3];rfl
      rw[Ja]
      have er14:(upd (upd H13 wd (DX viewKind P w wd (wkv (ws3++[(lt,la,st.1)])))) wt (.lst ((wq3++[(lt,la)]).map fun e=>V.ref e.2))) r=some (.lst zs):=by rw[LU Lb,LU JI];exact ap3.er
      have elv14:lv≠wt->(upd (upd H13 wd (DX viewKind P w wd (wkv (ws3++[(lt,la,st.1)])))) wt (.lst ((wq3++[(lt,la)]).map fun e=>V.ref e.2))) lv=some (.lst ys):=fun h=>by rw[LU h,LU I_];exact elv13
      have dat14:Dat HB (upd (upd H13 wd (DX viewKind P w wd (wkv (ws3++[(lt,la,st.1)])))) wt (.lst ((wq3++[(lt,la)]).map fun e=>V.ref e.2))):=by
       refine⟨fun c o e=>?_,fun c o e=>?_,fun c o e=>?_⟩
       ·have h1:=ap3.dat.1 c o e
        rw[LU (fun z=>by rw[z,Hr] at e;cases e),LU (fun z=>by rw[z,ap3.sh.dx] at h1;cases h1)];exact h1
       ·have h1:=ap3.dat.2.1 c o e
        rw[LU (fun z=>by rw[z,Hr] at e;cases e),LU (fun z=>by rw[z,ap3.sh.dx] at h1;cases h1)];exact h1
       ·have h1:=ap3.dat.2.2 c o e
        rw[LU (fun z=>by rw[z,Hr] at e;cases e),LU (fun z=>by rw[z,ap3.sh.dx] at h1;cases h1)];exact h1
      have FR:=IsL.tk tk14 (Yh _) EA
      generalize upd (upd H13 wd (DX viewKind P w wd (wkv (ws3++[(lt,la,st.1)])))) wt (.lst ((wq3++[(lt,la)]).map fun e=>V.ref e.2))=H14 at sh14 tk14 er14 elv14 dat14 FR ⊢
      ext
      have Eu:∀ y,y∈ws3.map (·.1)->y∈(ws3++[(lt,la,st.1)]).map (·.1):=fun y hy=>by rw[L3];exact L7.mpr (.inl hy)
      refine⟨ws3++[(lt,la,st.1)],wq3++[(lt,la)],_,rfl,⟨sr14,sh14,er14,dat14,fun q hq=>⟨(ap3.dn q hq).1,fun y hy=>Eu y ((ap3.dn q hq).2 y hy)⟩,by rw[Md];omega,by rw[Md,Md,O_,O_];omega⟩,fun z hz=>?_,elv14 I0,FR⟩
      rcases L7.mp hz with hz | hz
      ·exact Eu z (Ei z hz)
      ·rw[Ml.mp hz,L3]
       exact L7.mpr (.inr (Ml.mpr rfl))
    ·intro σ H13 hI9
     obtain⟨ws3,wq3,z9,rfl,ap3,Ei,elv13,EA⟩:=hI9
     rw[De,Mz] at Ei
     refine⟨ws3,wq3,_,_,_,rfl,ap3.sr,ap3.sh,ap3.er,ap3.dat,fun q hq=>?_,ap3.ul,ap3.ms⟩
     rcases L7.mp hq with hq | hq
     ·exact ap3.dn q hq
     ·rw[Ml.mp hq];exact⟨E6,Ei⟩
  ·intro σ H11 hI9
   obtain⟨ws2,wq2,y7,y8,y9,rfl,ap⟩:=hI9
   have J9:=ap.dn
   rw[Fp,Mz] at J9
   exact⟨_,Nat.lt_of_succ_le ap.ms,ws2,wq2,_,_,_,_,rfl,ap.sr.end (fX J9),ap.sh,rfl⟩
theorem Yn {H:Hp}:∀(n:Nat) {ys:List V}{ds:List Dt},L2.IsL H ys ds->L2.IsL H (ys.take n) (ds.take n)
 | 0,ys,ds,_=>by simp only[List.take_zero,L2.IsL]
 | n+1,[],[],_=>by simp only[List.take_nil,L2.IsL]
 | n+1,[],_::_,h=>by simp only[L2.IsL] at h
 | n+1,_::_,[],h=>by simp only[L2.IsL] at h
 | n+1,y::ys,d::ds,h=>by
  simp only[L2.IsL] at h
  simp only[Zs,L2.IsL]
  exact⟨h.1,Yn n h.2⟩
theorem Yo {H:Hp}:∀(n:Nat) {ys:List V}{ds:List Dt},L2.IsL H ys ds->L2.IsL H (ys.drop n) (ds.drop n)
 | 0,ys,ds,h=>by simpa only [ZB] using h
 | n+1,[],[],_=>by simp only[List.drop_nil,L2.IsL]
 | n+1,[],_::_,h=>by simp only[L2.IsL] at h
 | n+1,_::_,[],h=>by simp only[L2.IsL] at h
 | n+1,y::ys,d::ds,h=>by
  simp only[L2.IsL] at h
  simp only[au]
  exact Yo n h.2
theorem Rb (lo hi:Option Int) (h:L2.IsL H ys (xs.map patD)):L2.IsL H (cutA ys lo hi) ((cutA xs lo hi).map patD):=by
 rw[<- Wq]
 have hl:=h.length
 unfold cutA
 rw[hl]
 exact Yn _ (Yo _ h)
theorem Yp (h:c∈cutA l lo hi):c∈l:=iC (Ro h)
noncomputable abbrev s_needless:Au:=top 33
noncomputable def Oo (xs:List Pat)(n:Nat):List Pat:=cutA xs none (some (n:Int))++cutA xs (some ((n:Int)+1)) none
theorem Yq (h:x∈Oo xs n):x∈xs:=(L7.mp h).elim Yp Yp
theorem Yr (h:n < xs.length):(Oo xs n).length+1<=xs.length:=by
 unfold Oo
 rw[Md,O9 xs n (by omega),Mt,show (n:Int)+1=((n+1:Nat):Int) by omega,SO xs (n+1) (by omega),Ng]
 omega
theorem SmP.sub (h:SmP xs) (hs:∀ y∈ys,y∈xs) (hl:ys.length<=xs.length):SmP ys :=
 ⟨⟨fun x hx=>h.1.1 x (hs x hx),by have:=h.1.2;omega⟩,fun x hx=>h.2.1 x (hs x hx),by have:=h.2.2;omega⟩
theorem Told.same (h:Told one other H Q) (s:Same H H'):Told one other H' Q :=
 ⟨fun r u H2 h1 h2 h3 h4 s2=>h.1 r u H2 h1 h2 (s.free h3) h4 (s.trans s2),fun r l vs zs H2 h1 h2 h3 h4 h5 h6 s2=>h.2 r l vs zs H2 h1 (s.free h2) (s.free h3) h4 h5 h6 (s.trans s2)⟩
def TK:Sp:=fun vs H Q _=>∃(a:Ac) (ya:List V) (one:List Pat) (n:Nat),vs=[.ref a,.int (n:Int)]/\H a=some (.lst ya)/\L2.IsL H ya (one.map patD)/\SmP one/\n < one.length/\Told one (Oo one n) H Q
theorem f6 (T:Txt mg tk)(F:Fun K "needless" "needless" s_needless f fd)(Do:Dn P w K mg base "apart" 5 ["one","other"] TH):FnOk P w K mg base CX0 6 f fd ["patterns","number"] TK:=by
 refine F.okk ["patterns","number"] ?_
 rintro _ _ _ _ H _ _ _ hr ⟨a,ya,one,n,rfl,ha,Dv,sm,hn,ht⟩ nd
 have hl:=Dv.length
 rw[LP] at hl
 have hz:=sm.2.2
 have Jb:=RF ya none (some (n:Int))
 have Lc:=RF ya (some ((n:Int)+1)) none
 refine⟨_,(LQ (LY (L0 Do hr.LV rfl (LO (pv 0) (pa1 (LX Mb (Nk (Nm (K:=K)) (pv 0) NL (MV (pv 1))) (Nk (Nm (K:=K)) (pv 0) (MV (LX Mb (pv 1) LL)) NL))))))),?_⟩
 walk_at "s0"
 ext
 refine Of (SqL.of ha) fun p1 Ef=>?_
 have s1:=LW Ef (.lst (cutV ya none (some (n:Int))))
 ext
 refine Of (SqL.of (s1 _ _ ha)) fun p2 DA=>?_
 have s2:=LW DA (.lst (cutV ya (some ((n:Int)+1)) none))
 ext
 refine OX (s2 _ _ LN) LN (szn (by omega)) fun ps DI=>?_
 have s3:=(s1.trans s2).trans (LW DI (.lst (cutV ya none (some (n:Int))++cutV ya (some ((n:Int)+1)) none)))
 ext
 refine⟨a,ps,ya,_,one,Oo one n,rfl,s3 _ _ ha,LN,IsL.same s3 Dv,?_,sm,sm.sub (fun y hy=>Yq hy) (by have:=Yr hn;omega),ht.same s3⟩
 unfold Oo
 rw[L3]
 exact IsL.append (Rb none (some (n:Int)) (IsL.same s3 Dv)) (Rb (some ((n:Int)+1)) none (IsL.same s3 Dv))
noncomputable abbrev s_left_of_round:Au:=top 34
noncomputable abbrev s_pared:Au:=top 35
noncomputable def MP (ks:List Nat):List Int:=ks.map fun k:Nat=>(k:Int)
theorem Oy (ks:List Nat):(MP ks).length=ks.length:=LP ..
theorem TL (ks:List Nat)(i:Nat):(MP ks)[i]?=(ks[i]?).map fun k:Nat=>(k:Int):=Ma ..
theorem Ys {ks:List Nat}{i k:Nat}(h:ks[i]?=some k):((MP ks).map V.int)[i]?=some (.int (k:Int)):=by
 rw[Ma,TL,h];rfl
theorem TM {ks:List Nat}{i k:Nat}(h:ks[i]?=some k):((MP ks).map V.int).getD i .non=.int (k:Int):=by
 rw[L4,Ys h];rfl
theorem f7 {ks:List Nat}{n:Nat}(h:n∈ks):(n:Int)∈MP ks:=MC.mpr ⟨n,h,rfl⟩
theorem Yt (n:Nat):∀ ks:List Nat,(MP ks).erase (n:Int)=MP (ks.erase n)
 | []=>rfl
 | k::ks=>by
  by_cases e:k=n
  ·subst e
   show ((k:Int)::MP ks).erase (k:Int)=_
   rw[iE,iE]
  ·show ((k:Int)::MP ks).erase (n:Int)=_
   rw[Zq (by simp;omega),Zq (by simpa using e),Yt n ks];rfl
theorem TN {n:Nat}:∀{ks:List Nat},n∈ks->∃ j,j < ks.length/\ks[j]?=some n/\(∀ i,i < j->ks[i]?≠some n)/\ks.erase n=ks.eraseIdx j
 | [],h=>nomatch h
 | k::ks,h=>by
  by_cases e:k=n
  ·subst e
   exact⟨0,by simp,rfl,fun i hi=>absurd hi (R1 _),by simp⟩
  ·obtain⟨j,h0,h1,h2,h3⟩:=TN ((Mc.mp h).resolve_left fun z=>e z.symm)
   refine⟨j+1,by simpa using h0,by simpa using h1,fun i hi=>?_,?_⟩
   ·cases i with
    | zero=>simpa using e
    | succ i=>simpa using h2 i (by omega)
   ·rw[Zq (by simpa using e),h3];rfl
theorem af (h:j < ks.length):Oo (sel xs ks) j=sel xs (ks.eraseIdx j):=by
 have hl:(sel xs ks).length=ks.length:=LP ..
 unfold Oo
 rw[O9 _ j (by omega),show (j:Int)+1=((j+1:Nat):Int) by omega,SO _ (j+1) (by omega),List.eraseIdx_eq_take_drop_succ]
 unfold sel
 rw[L3,UZ,aE]
theorem RN (h:NY ks (L5 n)):∀ k∈ks,k < n:=fun k hk=>OE.mp (h.subset hk)
theorem US (h:NY ks (L5 n)):ks.length<=n:=by have:=h.length_le;rwa [Qq] at this
theorem Yu (h:NY ks (L5 n)):ks.Nodup:=h.nodup az
theorem Yv (h:∀ k∈ks,k < xs.length):∀ x∈sel xs ks,x∈xs:=fun x hx=>by
 obtain⟨k,hk,rfl⟩:=MC.mp hx
 rw[L4,LS (h k hk)]
 exact MD _
theorem Rc (xs:List Pat)(ks:List Nat):(sel xs ks).length=ks.length:=LP ..
theorem TQ (sm:SmP xs) (h:NY ks (L5 xs.length)):SmP (sel xs ks):=sm.sub (Yv (RN h)) (by rw[Rc];exact US h)
theorem Re {H:Hp}{ys:List V}{xs:List Pat}(h:L2.IsL H ys (xs.map patD)):∀{ks:List Nat},(∀ k∈ks,k < xs.length)->L2.IsL H (ks.map fun k=>ys.getD k .non) ((sel xs ks).map patD)
 | [],_=>by simp only[sel,MT,L2.IsL]
 | k::ks,hk=>by
  have h1:=Re h (ks:=ks) fun j hj=>hk j (Mp _ hj)
  have H_:=hk k Mn
  obtain⟨y,d,hy,hd,hI⟩:=IsL.get h (show k < (xs.map patD).length by simpa using H_)
  rw[Ma,LS H_] at hd
  cases hd
  simp only[sel,L',L2.IsL] at h1 ⊢
  refine⟨?_,h1⟩
  rw[L4,hy,L4,LS H_]
  exact hI
theorem Told.two (h1:¬ Sm one other->∀(r:Ac) (x:V) (H':Hp),H r=none->H' r=some (.tup [.str (S Q9),x])->Same H H'->Q (.ref r) H') (h2:Sm one other->∀(r:Ac) (x:V) (H':Hp),H r=none->H' r=some (.tup [.str (S Q_),x])->Same H H'->Q (.ref r) H'):Told one other H Q :=
 ⟨fun r u H' b _ h3 h4 s=>h1 (fun h=>h u b) r _ H' h3 h4 s,fun r l vs zs H' a h3 _ h4 _ _ s=>h2 (fun u b=>a.not b) r _ H' h3 h4 s⟩
def Yw:Sp:=fun vs H Q _=>∃(a b:Ac) (ya:List V) (xs:List Pat) (ks:List Nat),vs=[.ref a,.ref b]/\H a=some (.lst ya)/\L2.IsL H ya (xs.map patD)/\SmP xs/\H b=some (.lst ((MP ks).map V.int))/\NY ks (L5 xs.length) /\
 ∀(r:Ac) (H':Hp),H r=none->H' r=some (.lst ((MP (rd1 xs ks)).map V.int))->Same H H'->Q (.ref r) H'
def TR:Sp:=fun vs H Q _=>∃(a:Ac) (ya:List V) (xs:List Pat),vs=[.ref a]/\H a=some (.lst ya)/\L2.IsL H ya (xs.map patD)/\SmP xs /\
 ∀(r:Ac) (ks:List Nat) (H':Hp),H r=none->Left xs (L5 xs.length) ks->NY ks (L5 xs.length)->H' r=some (.lst ((MP ks).map V.int))->Same H H'->Q (.ref r) H'
def PaW (xs:List Pat)(H:Hp)(a:Ac)(m:Nat)(σ:St)(H':Hp):Prop:=∃(bn bl:Ac) (ks:List Nat) (k:Nat),σ=[some (.ref a),some (.ref bn),some (.ref bl)]/\H bl=none/\ks=itr xs k (L5 xs.length)/\NY ks (L5 xs.length)/\H' bn=some (.lst ((MP ks).map V.int))/\H' bl=some (.lst ((MP (rd1 xs ks)).map V.int))/\Same H H'/\m=ks.length
theorem f8 (T:Txt mg tk)(F:Fun K "left_of_round" "left_of_round" s_left_of_round f fd)(Cz:Dn P w K mg base "needless" 6 ["patterns","number"] TK):FnOk P w K mg base CX0 7 f fd ["patterns","numbers"] Yw:=by
 refine F.okk ["patterns","numbers","left","number","remaining"] ?_
 rintro _ _ _ s H _ _ _ hr ⟨a,b,ya,xs,ks,rfl,ha,Dv,sm,hb,EB,q⟩ nd
 have De:=Dv.length
 rw[LP] at De
 have hz:=sm.2.2
 have Fs:=US EB
 refine⟨_,(LM (pst 2 nd (pct Oc T.z_list (pa1 (pv 1))))
  (LM (MN MH rfl (Mx (K:=K) (pv 1)) (pnm 3 nd)
   (LM (UI (i:=4) ["patterns","kept"] [some 0,none] rfl (by kernel_rfl) rfl nd rfl rfl (Mx (K:=K) (pv 2)) (fun _ _ _ _=>(ME (i:=1) (show (["patterns","kept"]:List Str).Nodup by decide +kernel) rfl (Or.inl rfl) (Or.inr rfl))) (fun _ _ _ _=>Nq) (fun _ _ _ _=>(pix K (pv 0) (pv 1))))
  (LQ (Me (L_ (o_eq hr.units) (pix K (L0 Cz hr.LV rfl (LO (pv 4) (pa1 (M9 (K:=K) Pd PySem.F.slot_list_index PySem.F.type_list_index m_idxL (pv 2) (pa1 (pv 3)))))) LL) (L8 TF) (L6 _))
   (LQ (OP (M9 (K:=K) Pd PySem.F.slot_list_remove PySem.F.type_list_remove eW (pv 2) (pa1 (pv 3)))))
   Mg))))
  (LQ (LY (pv 2))))),?_⟩
 walk_at "s0"
 ext
 refine SG (Nd hb) fun l hl=>?_
 have s1:=LW hl (.lst ((MP ks).map V.int))
 have e1:=LN (H:=H) (a:=l) (o:=.lst ((MP ks).map V.int))
 have Eb:=s1 _ _ hb
 generalize upd H l (.lst ((MP ks).map V.int))=H1 at s1 e1 Eb ⊢
 ext
 refine NJ (K:=K) (xs:=(MP ks).map V.int) (fun i σ H'=>∃(x3 x4:Option V),σ=[some (.ref a),some (.ref b),some (.ref l),x3,x4]/\H' l=some (.lst ((MP (rnd xs ks (ks.take i))).map V.int))/\Same H H')
  ⟨none,none,rfl,e1,s1⟩ (fun j σ H' _ hI9=>by rcases hI9 with ⟨_,_,_,_,s⟩;exact SqL.of (s _ _ hb)) ?_ ?_
 ·intro i z σ H2 GM hI9
  obtain⟨x3,x4,rfl,e2,s2⟩:=hI9
  have hi:i < ks.length:=by have:=(MJ.mp GM).1;rwa [LP,Oy] at this
  rw[Ys (LS hi)] at GM
  cases GM
  have Fe:ks.take (i+1)=ks.take i++[ks[i]]:=by rw[MA,LS hi];rfl
  rw[Fe,fM]
  have HV:ks[i]∉ks.take i:=fun h=>by
   obtain⟨j,hj,e⟩:=Ug.mp h
   rw[Mt] at hj
   rw[List.getElem_take] at e
   exact ak.mp (Yu EB) j i (by omega) hi (by omega) e
  have Eu:=Yb (xs:=xs) (MD hi) HV
  have DR:=(Qa xs (ks.take i) ks).trans EB
  generalize ks[i]=n at Eu ⊢
  generalize rnd xs ks (ks.take i)=left at e2 Eu DR ⊢
  have E7:=US DR
  have FP:=s2 _ _ ha
  have FD:=IsL.same s2 Dv
  ext
  intro rr Hs
  refine Pk (K:=K) (xs:=(MP left).map V.int) (fun j B6 σ H'=>∃ x,σ=[some (.ref a),x]/\B6=(left.take j).map (fun k=>ya.getD k .non)/\H' rr=some (.lst B6)/\Same H2 H') (fun j B6 σ H' _ hI9=>by rcases hI9 with ⟨_,_,_,_,s⟩;exact SqL.of (s _ _ e2))
   ⟨none,rfl,rfl,LN,LW Hs _⟩ (fun j B6 σ H' hI9=>by rcases hI9 with ⟨_,_,e,e2,_⟩;exact⟨e2,by rw[e,LP,Mt];omega⟩) (szn (by rw[LP,Oy];omega)) ?_ ?_
  ·intro j B6 σ H3 hj hI9
   obtain⟨x,rfl,rfl,e3,s3⟩:=hI9
   rw[LP,Oy] at hj
   rw[TM (LS hj)]
   have Cm:=RN DR _ (MD hj)
   have Jc:left.take (j+1)=left.take j++[left[j]]:=by rw[MA,LS hj];rfl
   rw[Jc]
   generalize left[j]=k at Cm ⊢
   have Fn:atI ya (k:Int)=some (ya.getD k .non):=Og (by omega) (by rw[show ((k:Int)).toNat=k by omega,L4,LS (show k < ya.length by omega)];rfl)
   ext
   refine OY (Nd (s3 _ _ FP)) Fn ?_
   refine⟨e3,_,rfl,?_,LN,MW Hs s3⟩
   rw[L3];rfl
  ·intro B6 σ H3 hI9
   obtain⟨x,rfl,rfl,e3,s3⟩:=hI9
   rw[LP,Oy,Mz] at e3
   obtain⟨j,hj,h1,h2,h3⟩:=TN Eu
   have e23:=s3 _ _ e2
   have DT:=Rc xs left
   ext
   refine eX (j:=j) e23 (by rw[TL,h1];rfl) (fun i hi z=>?_) ?_
   ·rw[TL] at z
    cases hh:left[i]? with
    | none=>rw[hh] at z;cases z
    | some y =>
     rw[hh] at z
     injection z with z
     exact h2 i hi (by rw[hh,Int.ofNat.inj z])
   ext
   refine⟨rr,_,sel xs left,j,rfl,e3,Re (IsL.same s3 FD) (RN DR),TQ sm DR,by omega,Told.two (fun hs r y H4 J_ e4 s4=>?_) fun hs r y H4 J_ e4 s4=>?_⟩
   ·rw[af hj,<- h3] at hs
    ext
    refine⟨_,_,rfl,?_,s2.trans (s3.trans s4)⟩
    unfold stp
    rw[B3 hs]
    exact s4 _ _ e23
   ·rw[af hj,<- h3] at hs
    have e34:=s4 _ _ e23
    ext
    refine eV e34 (f7 Eu) ?_
    ext
    refine⟨_,_,rfl,?_,MW hl (s2.trans (s3.trans s4))⟩
    unfold stp
    rw[B4 hs,LN,Yt]
 ·intro σ H2 hI9
  obtain⟨x3,x4,rfl,e2,s2⟩:=hI9
  rw[LP,Oy,Mz] at e2
  ext
  exact q l H2 hl e2 s2
theorem f9 (T:Txt mg tk)(F:Fun K "pared" "pared" s_pared f fd)(Cp:Dn P w K mg base "left_of_round" 7 ["patterns","numbers"] Yw):FnOk P w K mg base CX0 8 f fd ["patterns"] TR:=by
 refine F.okk ["patterns","numbers","left"] ?_
 rintro _ _ _ _ H _ _ _ hr ⟨a,ya,xs,rfl,ha,Dv,sm,q⟩ nd
 have De:=Dv.length
 rw[LP] at De
 have hz:=sm.2.2
 refine⟨_,(LM (pst 1 nd (eZ rfl rfl T.z_list rfl T.z_range (pa1 (pcb (Mq (K:=K)) T.z_len (pa1 (pv 0))))))
  (LM (pst 2 nd (L0 Cp hr.LV rfl (LO (pv 0) (pa1 (pv 1)))))
  (LM (R6 MH (L_ o_lt (pcb (Mq (K:=K)) T.z_len (pa1 (pv 2))) (pcb (Mq (K:=K)) T.z_len (pa1 (pv 1))) (L6 _))
   (LM (pst 1 nd (pv 2))
  (LQ (pst 2 nd (L0 Cp hr.LV rfl (LO (pv 0) (pa1 (pv 1))))))))
  (LQ (LY (pv 2)))))),?_⟩
 walk_at "s0"
 ext
 refine eY ?_
 ext
 refine⟨ya.length,rfl,by omega,fun p hp=>?_⟩
 rw[De]
 have s1:=LW hp (.lst ((MP (L5 xs.length)).map V.int))
 have e1:(upd H p (.lst (((L5 xs.length).map fun k:Nat=>(k:Int)).map V.int))) p=some (.lst ((MP (L5 xs.length)).map V.int)):=LN
 have s1:Same H (upd H p (.lst (((L5 xs.length).map fun k:Nat=>(k:Int)).map V.int))):=s1
 generalize upd H p (.lst (((L5 xs.length).map fun k:Nat=>(k:Int)).map V.int))=H1 at s1 e1 ⊢
 ext
 refine⟨a,p,ya,xs,L5 xs.length,rfl,s1 _ _ ha,IsL.same s1 Dv,sm,e1,Ve _,fun l H2 hl e2 s2=>?_⟩
 ext
 refine⟨PaW xs H a,
  ⟨_,p,l,L5 xs.length,0,rfl,s1.free hl,rfl,Ve _,s2 _ _ e1,e2,s1.trans s2,rfl⟩,?_⟩
 intro m σ H3 hI9
 obtain⟨bn,bl,ks,k,rfl,IP,hk,EB,en,el,s3,rfl⟩:=hI9
 have Ii:NY (rd1 xs ks) ks:=Qa xs ks ks
 have J':=Ii.length_le
 ext
 rw[LP,LP,Oy,Oy]
 by_cases hc:((rd1 xs ks).length:Int) < (ks.length:Int)
 ·refine NP hc ⟨fun σ' H'=>∃ m',m' < ks.length/\PaW xs H a m' σ' H',fun σ' H' h=>h,?_⟩
  ext
  refine⟨a,bl,ya,xs,rd1 xs ks,rfl,s3 _ _ ha,IsL.same s3 Dv,sm,el,Ii.trans EB,fun l2 H4 DH e4 s4=>?_⟩
  ext
  exact⟨_,by omega,bl,l2,rd1 xs ks,k+1,rfl,s3.free DH,by rw[hk];rfl,Ii.trans EB,s4 _ _ el,e4,s3.trans s4,rfl⟩
 ·refine ND hc ?_
  ext
  have Hw:rd1 xs ks=ks:=Ii.eq_of_length (by omega)
  rw[Hw] at el
  exact q bl ks H3 IP ⟨⟨k,hk⟩,Hw⟩ EB el s3
theorem TU (hK:X.K=K) (hc:X.calm=true) (h:PGs X es t) (hn:(A7 es X.env).length=n:=by rfl) (ED:(A7 es X.env).findIdx? (·.1)=none:=by rfl):PG X (.Tuple es k pos) (gTup K n t):=hK▸Pw hc h hn ED
noncomputable abbrev s_breaks:Au:=top 5
theorem f_ (Pv:Nat->List V->St->Hp->Prop) (hok:∀ i B6 σ H,i<=xs.length->Pv i B6 σ H->ok H) (h0:Pv 0 [] σ0 H0) (hp:∀ i B6 σ H,Pv i B6 σ H->H p=some (.lst B6)/\B6.length<=i) (hz:xs.length<=Af) (hs:∀ i v B6 σ H T,xs[i]?=some v->Pv i B6 σ H->H T=none->g (.ref T) σ (upd H T (PrX T [.int ((b:Int)+(i:Int)),v])) fun σ3 H3=>tc σ3 H3 fun bb H4 =>
   if bb=true then te σ3 H4 fun v H5=>H5 p=some (.lst B6)/\Pv (i+1) (B6++[v]) σ3 (upd H5 p (.lst (B6++[v]))) else Pv (i+1) B6 σ3 H4) (hd:∀ B6 σ H,Pv xs.length B6 σ H->Q (.ref p) H):QG (Ien b xs ok) p g tc te Q σ0 H0:=by
 refine⟨fun i m B6 σ H=>m=xs.length - i/\i<=xs.length/\Pv i B6 σ H,⟨xs.length,by simp,MR _,h0⟩,fun i m B6 σ' H' w=>?_⟩
 obtain⟨rfl,hi,q⟩:=w
 obtain⟨q1,q2⟩:=hp i B6 σ' H' q
 have ho:=hok i B6 σ' H' hi q
 refine⟨q1,?_⟩
 by_cases Cm:i < xs.length
 ·refine .inr ⟨⟨ho,Cm⟩,by omega,Pv (i+1),fun a' σ3 H3 k=>⟨xs.length - (i+1),by omega,rfl,Cm,k⟩,fun x H2 y=>?_⟩
  obtain⟨T,v,hT,hv,rfl,rfl⟩:=y
  exact hs i v B6 σ' H' T hv q hT
 ·have e:i=xs.length:=by omega
  subst e
  exact .inl ⟨⟨ho,rfl⟩,hd B6 σ' H' q⟩
noncomputable def Po (vs:List Int)(j:Nat):Bool:=decide (vs.getD j 0 % 2=1)
noncomputable def brks (vs:List Int):List Int:=((L5 vs.length).filter (Po vs)).map fun j:Nat=>(j:Int)+1
noncomputable def Pp (vs:List Int)(i:Nat):List V:=((L5 i).filter (Po vs)).map fun j:Nat=>V.int ((j:Int)+1)
theorem f' (vs:List Int):Pp vs vs.length=(brks vs).map V.int:=by unfold Pp brks;rw[MQ];rfl
theorem gb (h:Po vs i=true):Pp vs (i+1)=Pp vs i++[V.int ((i:Int)+1)]:=by
 unfold Pp;rw[Pb,Op,L3,RV,h,B4 rfl];rfl
theorem gc (h:Po vs i=false):Pp vs (i+1)=Pp vs i:=by
 unfold Pp;rw[Pb,Op,L3,RV,h,B3 Mj];simp
theorem gd (vs:List Int)(i:Nat):(Pp vs i).length<=i:=by
 unfold Pp;rw[LP];exact MX (Oz _ _) (by simp)
def Yx:Sp:=fun vs H Q _=>∃(v:V) (xs:List Pat) (w:List Nat),vs=[v,.str (S w)]/\Is H v (Ou xs)/\(∀ x∈xs,1<=x.1.length/\x.1.length<=1000/\x.2.length<=x.1.length+1)/\xs.length<=9000/\1<=w.length/\w.length<=100 /\
 ∀(t:Ac) (H':Hp),H' t=some (.tup ((brks (vals xs w)).map V.int))->Same H H'->Q (.ref t) H'
theorem ge (T:Txt mg tk)(F:Fun K "breaks" "breaks" s_breaks f fd)(DK:Dn P w K mg base "values" 2 ["patterns","word"] XT):FnOk P w K mg base CX0 3 f fd ["patterns","word"] Yx:=by
 refine F.okk ["patterns","word"] ?_
 rintro _ _ _ _ H _ _ _ hr ⟨v,xs,w',rfl,hv,Ds,Ea,C6,Dz,q⟩ nd
 have EG:=UN xs w'
 refine⟨_,(LQ (LY (pct PR T.z_tuple (pa1 (Nl ["gap","value"] [none,none] rfl (by kernel_rfl) rfl (V9 rfl T.z_enumerate (L0 DK hr.LV rfl (LO (pv 0) (pa1 (pv 1)))) LL) (fun _ _ _ _=>(TU (K:=K) (n:=2) rfl rfl (MU (ME (i:=0) (show (["gap","value"]:List Str).Nodup by decide +kernel) rfl (Or.inl rfl) (Or.inr rfl)) (MU (ME (i:=1) (show (["gap","value"]:List Str).Nodup by decide +kernel) rfl (Or.inl rfl) (Or.inr rfl)) OQ)))) (fun _ _ _ _=>(RH (L_ (o_eq hr.units) (LX N5 (pv 1) LL) LL (L6 _)))) (fun _ _ _ _=>(pv 0))))))),?_⟩
 walk_at "s0"
 ext
 refine⟨v,xs,w',rfl,hv,Ds,Ea,C6,Dz,fun a H1 EZ e1 s1=>?_⟩
 ext
 refine⟨1,rfl,by decide,i_enSL e1 ?_⟩
 intro r B'
 have ar:a≠r:=Mo e1 B'
 refine f_ (b:=1) (xs:=(vals xs w').map V.int) (fun i B6 σ H'=>∃ v1 v2,σ=[v1,v2]/\B6=Pp (vals xs w') i/\Same H1 H'/\H' r=some (.lst B6))
  (fun i B6 σ H' _ hI9=>by rcases hI9 with ⟨_,_,_,_,s2,_⟩;exact s2 _ _ e1) ⟨none,none,rfl,rfl,LW B' _,LN⟩ (fun i B6 σ H' hI9=>by rcases hI9 with ⟨_,_,_,e,_,e2⟩;exact⟨e2,by rw[e];exact gd _ _⟩) (szn (by rw[LP];omega)) ?_ ?_
 ·rintro i z B6 σ H2 T2 hz ⟨v1,v2,rfl,rfl,s2,e2⟩ hT
  have DJ:i < (vals xs w').length:=by
   have:=(MJ.mp hz).1
   simpa using this
  rw[Ma,LS DJ] at hz
  cases hz
  have Ep:Po (vals xs w') i=decide ((vals xs w')[i] % 2=1):=by unfold Po;simp[L4,DJ]
  have rT:r≠T2:=Mo e2 hT
  have s3:=LW hT (PrX T2 [.int (((1:Nat):Int)+(i:Int)),.int (vals xs w')[i]])
  have e3:(upd H2 T2 (PrX T2 [.int (((1:Nat):Int)+(i:Int)),.int (vals xs w')[i]])) r=some (.lst (Pp (vals xs w') i)):=s3 _ _ e2
  refine PX LN rfl (M0 (MY (M0 (MY (Pl ?_)))))
  ext
  refine iteD (fun c=>?_) (fun c=>?_)
  ·have c':(vals xs w')[i] % 2=1:=by injection c
   ext
   have hb:=gb (vs:=vals xs w') (i:=i) (by rw[Ep];exact B2 c')
   have he:V.int (((1:Nat):Int)+(i:Int))=V.int ((i:Int)+1):=by congr 1;omega
   refine⟨e3,_,_,rfl,by rw[hb,he],fun b o e=>?_,LN⟩
   have Gn:b≠r:=fun z=>by rw[z,B'] at e;cases e
   rw[LU Gn];exact s3 _ _ (s2 b o e)
  ·have c':¬ (vals xs w')[i] % 2=1:=fun z=>c (by rw[z])
   have hb:=gc (vs:=vals xs w') (i:=i) (by rw[Ep];exact B1 c')
   exact⟨_,_,rfl,hb.symm,s2.trans s3,by rw[e3]⟩
 ·intro B6 σ H2 hI9
  obtain⟨v1,v2,rfl,rfl,s2,e2⟩:=hI9
  rw[LP,f'] at e2
  ext
  refine Wb (Nd e2) fun t H3 ht k3=>?_
  ext
  exact q t H3 ht ((s1.trans s2).trans k3)
noncomputable abbrev s_shown_broken:Au:=top 26
noncomputable def brD (w g:List Nat):Dt:=.tup [.str (S w),.tup (g.map fun k:Nat=>Dt.int (k:Int))]
def Yy:Sp:=fun vs H Q _=>∃(v:V) (w g:List Nat),vs=[v]/\Is H v (brD w g)/\1<=w.length/\w.length<=1000/\Rise 0 w.length g/\∀ H',Same H H'->Q (.str (S (txt w g w.length))) H'
theorem Yz (w:List Nat):∀(g:List Nat) (b:Nat),(NE w b g).length=g.length+1/\∀ p∈NE w b g,p.length<=w.length
 | [],b=>by simp[NE]
 | x::g,b=>by
  have ih:=Yz w g x
  refine⟨by simp[NE,ih.1],fun p hp=>?_⟩
  simp only[NE,Mc] at hp
  rcases hp with rfl | hp
  ·simp;omega
  ·exact ih.2 p hp
theorem YA {n:Nat}:∀(ls:List Nat),(∀ x∈ls,x<=n)->ls.sum<=ls.length * n
 | [],_=>by simp
 | x::ls,h=>by
  have ih:=YA ls fun y hy=>h y (Mp _ hy)
  have:=h x Mn
  simp only[UY,Mr,U4]
  omega
theorem Rf {n:Nat}:∀{b:Nat}{g:List Nat},Rise b n g->b<=n->g.length<=n - b
 | b,[],_,_=>by simp
 | b,x::g,r,h=>by
  have:=Rf r.2.2 (OI r.2.1)
  have h1:=r.1
  have h2:=r.2.1
  simp;omega
theorem YB {H:Hp}:∀{g:List Nat}{xs:List V},L2.IsL H xs (g.map fun k:Nat=>Dt.int (k:Int))->xs=g.map fun k:Nat=>V.int (k:Int)
 | [],[],_=>rfl
 | [],_::_,h=>by simp only[MT,L2.IsL] at h
 | _::_,[],h=>by simp only[L',L2.IsL] at h
 | k::g,x::xs,h=>by
  simp only[L',L2.IsL,Is] at h
  rw[h.1,YB h.2];rfl
theorem gf (T:Txt mg tk)(F:Fun K "shown_broken" "shown_broken" s_shown_broken f fd):FnOk P w K mg base CX0 1 f fd ["broken"] Yy:=by
 refine F.okk ["broken","word","parts","begin","gap"] ?_
 rintro _ _ _ _ H _ _ _ hr ⟨v,w',g,rfl,hv,C6,Dz,EC,q⟩ nd
 simp only[Is,brD] at hv
 obtain⟨a,xs,rfl,ha,Ds⟩:=hv
 obtain⟨x0,y,rfl⟩:∃ x y,xs=[x,y]:=by
  match xs,Ds with
  | [],h=>simp only[L2.IsL] at h
  | [_],h=>simp only[L2.IsL] at h;exact h.2.elim
  | [x,y],_=>exact⟨x,y,rfl⟩
  | _::_::_::_,h=>simp only[L2.IsL] at h;exact h.2.2.elim
 simp only[L2.IsL,Is] at Ds
 obtain⟨rfl,⟨t,ys,rfl,ht,Cv⟩,_⟩:=Ds
 have:=YB Cv
 subst this
 refine⟨_,(LM (pst 1 nd (pix K (pv 0) LL))
  (LM (pst 2 nd (MZ Ph))
  (LM (pst 3 nd LL)
  (LM (MN MH rfl (Mx (K:=K) (pix K (pv 0) LL)) (pnm 4 nd)
   (LM (OP (M9 (K:=K) Pd Uv Uw UK (pv 2) (pa1 (Nk (Nm (K:=K)) (pv 1) (MV (pv 3)) (MV (pv 4))))))
  (LQ (pst 3 nd (pv 4)))))
  (LM (OP (M9 (K:=K) Pd Uv Uw UK (pv 2) (pa1 (Nk (Nm (K:=K)) (pv 1) (MV (pv 3)) NL))))
  (LQ (LY (M9 (K:=K) OJ Rt Ru RI (L8 SQ) (pa1 (pv 2)))))))))),?_⟩
 walk_at "s0"
 ext
 intro p hp
 ext
 have E5:(upd H p (.lst [])) a=some (.tup [.str (S w'),.ref t]):=by rw[LU (Mo ha hp)];exact ha
 have Ka:(upd H p (.lst [])) t=some (.tup (g.map fun k:Nat=>V.int (k:Int))):=by rw[LU (Mo ht hp)];exact ht
 refine OY (So E5) (atI_1 _ _ _) ?_
 ext
 refine for_tup (xs:=g.map fun k:Nat=>V.int (k:Int)) (fun i σ H2=>∃(b:Nat) (ps:List (List Nat)) (v4:Option V),σ=[some (.ref a),some (.str (S w')),some (.ref p),some (.int (b:Int)),v4]/\b<=w'.length/\Rise b w'.length (g.drop i)/\ps.length=i/\NE w' 0 g=ps++NE w' b (g.drop i)/\H2 p=some (.lst ((ps.map S).map V.str))/\Same H H2)
  ⟨0,[],none,rfl,MR _,EC,rfl,rfl,LN,LW hp _⟩ (fun i σ H2 _ hI9=>by rcases hI9 with ⟨_,_,_,_,_,_,_,_,_,s2⟩;exact SqT.of (s2 _ _ ht)) ?_ ?_
 ·intro i x σ H2 hx hI9
  obtain⟨b,ps,v4,rfl,hb,Ed,Ca,DI,h2,s2⟩:=hI9
  have hi:i < g.length:=by
   have:=(MJ.mp hx).1
   simpa using this
  rw[Ma,LS hi] at hx
  cases hx
  rw[RP hi] at Ed DI
  obtain⟨Fg,J_,Fx⟩:=Ed
  have J':=Rf EC (MR _)
  have hsz:(S w').length<=Af:=szn (by rw[Mi];omega)
  ext
  rw[Z8 w' b g[i] (by omega) (by omega)]
  refine QL h2 (szn (by simp;omega)) ?_
  ext
  refine⟨g[i],ps++[(w'.drop b).take (g[i] - b)],_,rfl,by omega,Fx,by simp[Ca],?_,?_,fun c o e=>?_⟩
  ·rw[DI]
   simp only[NE]
   rw[List.drop_take,Qp];rfl
  ·rw[LN,L3,L3];rfl
  ·have hc:c≠p:=fun z=>by rw[z,hp] at e;cases e
   rw[LU hc];exact s2 c o e
 ·intro σ H2 hI9
  obtain⟨b,ps,v4,rfl,hb,Ed,Ca,DI,h2,s2⟩:=hI9
  rw[LP] at Ca DI
  rw[ax] at DI
  have hsz:(S w').length<=Af:=szn (by rw[Mi];omega)
  have J':=Rf EC (MR _)
  ext
  rw[SO w' b hb]
  refine QL h2 (szn (by simp;omega)) ?_
  ext
  have CG:=Yz w' g 0
  simp only[NE] at DI
  refine RK (ys:=(NE w' 0 g).map S) (by rw[DI,Wc,L3,L3];rfl) ?_ ?_
  ·have h1:=YA (n:=w'.length) (((NE w' 0 g).map S).map (·.length)) (fun x hx=>by
    rw[MQ] at hx
    obtain⟨y,hy,rfl⟩:=MC.mp hx
    show (S y).length<=_
    rw[Mi]
    exact CG.2 y hy)
   rw[LP,LP,CG.1] at h1
   rw[LP,CG.1,Mi,show ([45]:List Nat).length=1 from rfl]
   have h3:(g.length+1) * w'.length<=1001 * 1000:=Nat.mul_le_mul (by omega) Dz
   omega
  ·rw[O5,c8 w' g EC]
   ext
   exact q _ (fun c o e=>by
    have hc:c≠p:=fun z=>by rw[z,hp] at e;cases e
    rw[LU hc];exact s2 c o e)
structure Ow2 (K:LR)(mg:Str->Option Ab)(cO:Ac):Prop where
 m_Breaker:mg "Breaker"=some (.ref cO)
 cl:Cls K cO
 n_told_gaps:NoAttr K cO "told_gaps"
 n_patterns:NoAttr K cO "patterns"
 n_head:NoAttr K cO "head"
 n_tail:NoAttr K cO "tail"
noncomputable abbrev s_Breaker_init:Au:=N3 (top 38) 0
noncomputable abbrev s_Breaker_gaps:Au:=N3 (top 38) 1
noncomputable abbrev s_Breaker_shown:Au:=N3 (top 38) 2
noncomputable abbrev s_gaps_by_word:Au:=top 37
noncomputable abbrev s_with_patterns:Au:=top 39
theorem i_dget (h:td σ H fun x H1=>ty σ H1 fun y H2=>∃ a v,x=.ref a/\DGet H2 a y (some v)/\Q v H2):tDGet td ty σ H Q:=h
theorem gg (h:ty σ H fun y H1=>td σ H1 fun x H2=>∃ a o,x=.ref a/\DGet H2 a y o/\Q (.bl (!o.isSome)) H2):WJ ty td σ H Q:=h
theorem gh (Pv:Nat->List V->St->Hp->Prop) (hl:∀ i B6 σ H,i<=xs.length->Pv i B6 σ H->SqT K H a xs) (h0:Pv 0 [] σ0 H0) (hp:∀ i B6 σ H,Pv i B6 σ H->H p=some (.lst B6)/\B6.length<=i) (hz:xs.length<=Af) (hs:∀ i B6 σ H,i < xs.length->Pv i B6 σ H->g (xs.getD i .non) σ H fun σ3 H3=>tc σ3 H3 fun b H4 =>
   if b=true then te σ3 H4 fun v H5=>H5 p=some (.lst B6)/\Pv (i+1) (B6++[v]) σ3 (upd H5 p (.lst (B6++[v]))) else Pv (i+1) B6 σ3 H4) (hd:∀ B6 σ H,Pv xs.length B6 σ H->Q (.ref p) H):QG (Itt K a) p g tc te Q σ0 H0 :=
 QI (J:=Itt K a) (n:=xs.length) (val:=fun i=>xs.getD i .non) Pv
  (fun i B6 σ H hi q=>⟨xs,xs[i],(hl i B6 σ H (OI hi) q),by simp[hi]⟩) (fun B6 σ H q=>⟨xs,(hl _ B6 σ H (LZ _) q),LZ _⟩)
  (fun i B6 σ H x _ hi q y=>⟨y.1,by have:=y.2 xs (hl i B6 σ H (OI hi) q);rw[L4,this];rfl⟩) h0 hp hz hs hd
theorem YC {X:Cx}{e:Ay}{f:Str}{ta:TE}{pos:Pos}{K:LR}(hK:X.K=K)(he:PE X e ta)(hb:AO e f X.env (Ax e X.env)=Ax e X.env):PE X (.Attribute e f pos) (tFld K ta f):=hK▸Nj he hb
noncomputable def bkN (vs:List Int):List Nat:=((L5 vs.length).filter (Po vs)).map (·+1)
theorem gj (vs:List Int):brks vs=(bkN vs).map fun k:Nat=>(k:Int):=by
 unfold brks bkN;rw[MQ];exact RQ fun j _=>by simp
theorem gk {n:Nat}:∀{b b':Nat}{g:List Nat},Rise b' n g->b<=b'->Rise b n g
 | _,_,[],_,_=>trivial
 | _,_,x::g,r,h=>⟨Qv h r.1,r.2⟩
theorem Rg (pats:List Pat){w:List Nat}(hw:1<=w.length):Rise 0 w.length (bkN (vals pats w)):=by
 unfold bkN
 rw[UN]
 have key:∀(p:Nat->Bool) (m b:Nat),b<=w.length->Rise b w.length (((Nh b m).filter p).map (·+1))∨w.length<=b+m:=by
  intro p m
  induction m with
  | zero=>intro b _;exact .inl trivial
  | succ m ih =>
   intro b hb
   by_cases c:w.length<=b+(m+1)
   ·exact .inr c
   ·left
    rw[RT,RV]
    have h1:=(ih (b+1) (by omega)).resolve_right (by omega)
    split
    ·exact⟨Ur _,by show b+1 < _;omega,h1⟩
    ·exact gk h1 (Qw _)
 rw[Zp]
 exact(key _ (w.length - 1) 0 (MR _)).resolve_right (by omega)
theorem Rh {H H':Hp}(tks:∀ b zs,H b=some (.tup zs)->H' b=some (.tup zs)):∀{xs:List Pat}{ys:List V},L2.IsL H ys (xs.map patD)->L2.IsL H' ys (xs.map patD)
 | [],[],_=>by simp only[MT,L2.IsL]
 | [],_::_,h=>by simp only[MT,L2.IsL] at h
 | _::_,[],h=>by simp only[L',L2.IsL] at h
 | x::xs,y::ys,h=>by
  simp only[L',L2.IsL] at h ⊢
  refine⟨?_,Rh tks h.2⟩
  obtain⟨a,t,rfl,h1,h2⟩:=P0 h.1
  exact SS (tks a _ h1) (tks t _ h2)
def spGbw:Sp:=fun vs H Q _=>∃ b:Ac,vs=[.ref b]/\H b=some (.lst [])/\∀(a:Ac) (H':Hp),H a=none->H' a=some (.dK [])->Same H H'->Q (.ref a) H'
def BrkAt (C:Ac)(H:Hp)(p kd ld:Ac)(pats:List Pat):Prop:=∃(dx:Ac) (ys:List V),H p=some (.ins C dx [(("told_gaps":Str),.ref kd),(("patterns":Str),.ref ld),(("head":Str),.int 1),(("tail":Str),.int 1)])/\H kd=some (.dK [])/\H ld=some (.lst ys)/\L2.IsL H ys (pats.map patD)
theorem BrkAt.same (s:Same H H') (h:BrkAt C H p kd ld pats):BrkAt C H' p kd ld pats:=by
 obtain⟨dx,ys,h1,h2,h4,h5⟩:=h
 exact⟨dx,ys,s _ _ h1,s _ _ h2,s _ _ h4,IsL.same s h5⟩
def TV (C:Ac):Sp:=fun vs H Q _=>∃(p a b dx:Ac) (ya:List V) (pats:List Pat),vs=[.ref p,.ref a,.ref b,.int 1,.int 1]/\H p=some (.ins C dx [])/\H a=some (.lst ya)/\H b=some (.lst [])/\L2.IsL H ya (pats.map patD) /\
 ∀(kd ld:Ac) (H':Hp),H kd=none->H ld=none->BrkAt C H' p kd ld pats->(∀ b o,b≠p->H b=some o->H' b=some o)->Q .non H'
def PsOk (pats:List Pat):Prop:=(∀ x∈pats,VP x.1 x.2/\x.1.length<=8)/\pats.length<=10
theorem PsOk.sm (h:PsOk pats):SmP pats:=⟨⟨fun x hx=>⟨(h.1 x hx).1.pos,(h.1 x hx).1.len,(h.1 x hx).1.nlen⟩,by have:=h.2;omega⟩,fun x hx=>⟨(h.1 x hx).2,fun n hn=>by
 obtain⟨j,hj,rfl⟩:=Ug.mp hn
 have:=(h.1 x hx).1.num j hj
 rwa [L4,LS hj] at this⟩,h.2⟩
theorem PsOk.ok (h:PsOk pats):∀ x∈pats,1<=x.1.length/\x.1.length<=1000/\x.2.length<=x.1.length+1:=fun x hx=>by
 have:=h.sm.1.1 x hx
 omega
def YD (C:Ac):Sp:=fun vs H Q _=>∃(p kd ld:Ac) (pats:List Pat) (w:List Nat),vs=[.ref p,.str (S w)]/\BrkAt C H p kd ld pats/\PsOk pats/\1<=w.length/\w.length<=100 /\
 ∀(t:Ac) (H':Hp),H' t=some (.tup ((bkN (vals pats w)).map fun k:Nat=>V.int (k:Int)))->Same H H'->Q (.ref t) H'
noncomputable def shw (pats:List Pat)(w:List Nat):List Nat:=txt w (bkN (vals pats w)) w.length
def YE (C:Ac):Sp:=fun vs H Q _=>∃(p kd ld:Ac) (pats:List Pat) (w:List Nat),vs=[.ref p,.str (S w)]/\BrkAt C H p kd ld pats/\PsOk pats/\1<=w.length/\w.length<=100/\∀ H',Same H H'->Q (.str (S (shw pats w))) H'
def spWP (C:Ac):Sp:=fun vs H Q _=>∃(bp bkd bld a:Ac) (ya:List V) (pats0 pats:List Pat),vs=[.ref bp,.ref a]/\BrkAt C H bp bkd bld pats0/\H a=some (.lst ya)/\L2.IsL H ya (pats.map patD) /\
 ∀(p kd ld:Ac) (H':Hp),H p=none->H kd=none->H ld=none->BrkAt C H' p kd ld pats->Same H H'->Q (.ref p) H'
theorem off5 (hb:b≠p) (hl:b≠q) (e:H b=some o):upd (upd (upd (upd (upd H p x1) q x2) p x3) p x4) p x5 b=some o:=by
 rw[LU hb,LU hb,LU hb,LU hl,LU hb];exact e
theorem gl (T:Txt mg tk)(F:Fun K "gaps_by_word" "gaps_by_word" s_gaps_by_word f fd):FnOk P w K mg base CX0 1 f fd ["told"] spGbw:=by
 refine F.okk ["told","known","word","gaps"] ?_
 rintro _ _ _ _ H _ _ _ hr ⟨b,rfl,hb,q⟩ nd
 refine⟨_,(LM (pst 1 nd S3)
  (LM (MN MH rfl (Mx (K:=K) (pv 0)) (Pw rfl (MU (pnm 2 nd) (MU (pnm 3 nd) OQ)))
   (LM (Me (RA (S0 (Pi hr) (pv 2) (pv 1)))
   (LQ RC)
   Mg)
  (LQ (QT (Pi hr) (pv 1) (pv 2) (pv 3) rfl))))
  (LQ (LY (pv 1))))),?_⟩
 walk_at "s0"
 ext
 refine Tr fun a ha=>?_
 have s1:=LW ha (.dK [])
 ext
 refine Oe (SqL.of (s1 _ _ hb)) ?_
 refine NJ (K:=K) (xs:=[]) (fun i σ H'=>σ=[some (.ref b),some (.ref a),none,none]/\H'=upd H a (.dK []))
  ⟨rfl,rfl⟩ (fun i σ H' _ ⟨_,e⟩=>SqL.of (e▸s1 _ _ hb)) (fun i y σ H2 hy=>nomatch hy) ?_
 rintro σ H2 ⟨rfl,rfl⟩
 ext
 exact q a _ ha LN s1
theorem gm (T:Txt mg tk)(O2:Ow2 K mg cO2)(F:Fun K "__init__" "Breaker.__init__" s_Breaker_init f fd)(CO:Dn P w K mg base "gaps_by_word" 1 ["told"] spGbw):FnOk P w K mg base CX0 2 f fd ["self","patterns","told","head","tail"] (TV cO2):=by
 refine F.okk ["self","patterns","told","head","tail"] ?_
 rintro _ _ _ _ H _ _ _ hr ⟨p,a,b,dx,ya,pats,rfl,hp,ha,hb,Dv,q⟩ nd
 refine⟨_,(LM (QF (pv 0) (L0 CO hr.LV rfl (pa1 (pv 2))) rfl)
  (LM (QF (pv 0) (pct Oc T.z_list (pa1 (pv 1))) rfl)
  (LM (QF (pv 0) (pv 3) rfl)
  (LQ (QF (pv 0) (pv 4) rfl))))),?_⟩
 walk_at "s0"
 refine OW (QW ?_)
 ext
 refine⟨b,rfl,hb,fun kd H2 Fv ekd s2=>?_⟩
 ext
 refine QX (s2 _ _ hp) O2.cl O2.n_told_gaps (by decide) ?_
 have nap:a≠p:=Qi ha hp (by intro z;cases z)
 have nkp:kd≠p:=fun z=>by rw[z,hp] at Fv;cases Fv
 ext
 refine OW (QW ?_)
 ext
 refine SG (Nd (by rw[LU nap];exact s2 _ _ ha)) fun ld EH=>?_
 have nlp:ld≠p:=fun z=>by rw[z,LN] at EH;cases EH
 rw[LU nlp] at EH
 have nkl:kd≠ld:=fun z=>by rw[<- z,ekd] at EH;cases EH
 ext
 refine QX ((LU (N2 nlp)).trans LN) O2.cl O2.n_patterns (show 1 < 1000 by decide) ?_
 ext
 refine OW (QW ?_)
 ext
 refine QX LN O2.cl O2.n_head (show 2 < 1000 by decide) ?_
 ext
 refine QW ?_
 ext
 refine QX LN O2.cl O2.n_tail (show 3 < 1000 by decide) ?_
 ext
 refine q kd ld _ Fv (s2.free EH) ⟨dx,ya,LN,?_,?_,Rh (fun b zs e=>off5 (Qi e hp (by intro z;cases z)) (Mo (s2 _ _ e) EH) (s2 _ _ e)) Dv⟩ fun b o hb e=>off5 hb (Mo (s2 _ _ e) EH) (s2 _ _ e)
 ·rw[LU nkp,LU nkp,LU nkp,LU nkl,LU nkp];exact ekd
 ·rw[LU nlp,LU nlp,LU nlp];exact LN
theorem gn (T:Txt mg tk)(O2:Ow2 K mg cO2)(F:Fun K "gaps" "Breaker.gaps" s_Breaker_gaps f fd)(DL:Dn P w K mg base "breaks" 3 ["patterns","word"] Yx):FnOk P w K mg base CX0 4 f fd ["self","word"] (YD cO2):=by
 refine F.okk ["self","word","last"] ?_
 rintro _ _ _ _ H _ _ _ hr ⟨p,kd,ld,pats,w',rfl,⟨dx,ys,e1,e2,e3,Cv⟩,DI,C6,Dz,q⟩ nd
 refine⟨_,(LM (Me (RA (S0 (Pi hr) (pv 1) (Nj (pv 0) rfl)))
   (LQ (LY (WK (Pi hr) (Nj (pv 0) rfl) (pv 1) (fun _ _=>rfl))))
   Mg)
  (LM (OR (i:=2) nd rfl (Or.inr rfl) (LX Pj (pcb (Mq (K:=K)) T.z_len (pa1 (pv 1))) (Nj (pv 0) rfl)))
  (LQ (LY (pct PR T.z_tuple (pa1 (Nl ["self","last","gap"] [some 0,some 2,none] rfl (by kernel_rfl) rfl (Mx (K:=K) (L0 DL hr.LV rfl (LO (Nj (pv 0) rfl) (pa1 (pv 1))))) (fun _ _ _ _=>(ME (i:=2) (show (["self","last","gap"]:List Str).Nodup by decide +kernel) rfl (Or.inl rfl) (Or.inr rfl))) (fun _ _ _ _=>(RH (Vq o_le o_le (YC (K:=K) rfl (pv 0) rfl) (pv 2) (pv 1)))) (fun _ _ _ _=>(pv 2))))))))),?_⟩
 walk_at "s0"
 have hsz:(S w').length<=Af:=szn (by rw[Mi];omega)
 ext
 refine i_tB (i_din ?_)
 ext
 refine Na ?_
 ext
 refine Nb e1 O2.cl O2.n_told_gaps rfl ?_
 refine⟨kd,none,rfl,DGet.k (k:=Sum.inr (S w')) e2,?_⟩
 ext
 refine Na ?_
 ext
 refine Nb e1 O2.cl O2.n_tail rfl ?_
 ext
 refine Na ?_
 ext
 refine Nb e1 O2.cl O2.n_patterns rfl ?_
 ext
 have CG:=DI.2
 refine⟨.ref ld,pats,w',rfl,?_,DI.ok,(by omega),C6,Dz,fun t H1 et s1=>?_⟩
 ·simp only[Is,Ou]
  exact⟨ld,ys,rfl,e3,Cv⟩
 have hR:=(Rg pats C6).mem
 have EW:=Rf (Rg pats C6) (MR _)
 rw[gj,MQ] at et
 generalize bkN (vals pats w')=g at et q hR EW
 refine V_ (SqT.of et) ?_
 intro r B'
 refine gh (K:=K) (a:=t) (xs:=g.map (V.int∘fun k:Nat=>(k:Int))) (fun i B6 σ H'=>∃ v,σ=[some (.ref p),some (.int ((w'.length:Int) - 1)),v]/\B6=(g.map (V.int∘fun k:Nat=>(k:Int))).take i/\Same H1 H'/\H' r=some (.lst B6))
  (fun i B6 σ H' _ hI9=>by rcases hI9 with ⟨_,_,_,s2,_⟩;exact SqT.of (s2 _ _ et)) ⟨none,rfl,rfl,LW B' _,LN⟩ (fun i B6 σ H' hI9=>by rcases hI9 with ⟨_,_,e,_,e2⟩;exact⟨e2,by rw[e,Mt];omega⟩) (szn (by rw[LP];omega)) ?_ ?_
 ·intro i B6 σ H2 hi hI9
  obtain⟨v,rfl,rfl,s2,e2'⟩:=hI9
  rw[MA,LS hi,L4,LS hi]
  rw[LP] at hi
  have hg:=hR _ (MD hi)
  simp only[Zy,Function.comp,Ps,Option.toList_some]
  generalize g[i]=k at hg ⊢
  ext
  refine Na ?_
  ext
  refine Nb (s2 _ _ (s1 _ _ e1)) O2.cl O2.n_head rfl ?_
  ext
  refine NP (by omega) ?_
  ext
  refine NP (by omega) ?_
  ext
  exact⟨e2',_,rfl,rfl,MW B' s2,LN⟩
 ·intro B6 σ H2 hI9
  obtain⟨v,rfl,rfl,s2,e2'⟩:=hI9
  rw[Mz] at e2'
  ext
  refine Wb (Nd e2') fun t2 H3 ht k3=>?_
  ext
  exact q t2 H3 ht ((s1.trans s2).trans k3)
theorem gp (H:Hp)(g:List Nat):L2.IsL H (g.map fun k:Nat=>V.int (k:Int)) (g.map fun k:Nat=>Dt.int (k:Int)):=by
 induction g with
 | nil=>simp only[MT,L2.IsL]
 | cons x g ih=>simp only[L',L2.IsL,Is];exact⟨trivial,ih⟩
theorem gq (T:Txt mg tk)(O2:Ow2 K mg cO2)(F:Fun K "shown" "Breaker.shown" s_Breaker_shown f fd)(CP:Dn P w K mg base "shown_broken" 1 ["broken"] Yy)(CQ:Dm P w K mg base cO2 "gaps" 4 ["self","word"] (YD cO2)):FnOk P w K mg base CX0 5 f fd ["self","word"] (YE cO2):=by
 refine F.okk ["self","word"] ?_
 rintro _ _ _ _ H _ _ _ hr ⟨p,kd,ld,pats,w',rfl,hB,DI,C6,Dz,q⟩ nd
 obtain⟨dx,ys,e1,_⟩:=id hB
 refine⟨_,(LQ (LY (L0 CP hr.LV rfl (pa1 (Nw (LO (pv 1) (pa1 (Nt (pv 0) O2.cl CQ hr.LV (pa1 (pv 1)))))))))),?_⟩
 walk_at "s0"
 ext
 refine M_ ?_
 ext
 refine M' e1 rfl ?_
 ext
 refine⟨p,kd,ld,pats,w',rfl,hB,DI,C6,Dz,fun t H1 et s1=>?_⟩
 ext
 intro r B'
 ext
 have s2:=LW B' (.tup [.str (S w'),.ref t])
 refine⟨.ref r,w',_,rfl,?_,C6,by omega,Rg pats C6,fun H' s3=>?_⟩
 ·simp only[Is,brD,L2.IsL]
  exact⟨r,_,rfl,LN,rfl,⟨t,_,rfl,s2 _ _ et,gp _ _⟩,trivial⟩
 ·ext
  exact q H' ((s1.trans s2).trans s3)
theorem Ri (hx:H x=none) (hd:H dx=none):∃ H',upd (upd H dx (.own x)) x (.ins C dx [])=H'/\Same H H'/\H' x=some (.ins C dx []) :=
 ⟨_,rfl,fun b o e=>by rw[LU (Mo e hx),LU (Mo e hd)];exact e,LN⟩
theorem gt (T:Txt mg tk)(O2:Ow2 K mg cO2)(F:Fun K "with_patterns" "with_patterns" s_with_patterns f fd)(Cg:Dk P w K mg base cO2 2 ["self","patterns","told","head","tail"] (TV cO2)):FnOk P w K mg base CX0 4 f fd ["breaker","patterns"] (spWP cO2):=by
 refine F.okk ["breaker","patterns"] ?_
 rintro _ _ _ _ H _ _ _ hr ⟨bp,bkd,bld,a,ya,pats0,pats,rfl,⟨dx0,ys0,e1,e2,_⟩,ha,Dv,q⟩ nd
 refine⟨_,(LQ (LY (S9 Cg hr.LV rfl O2.m_Breaker (LO (pv 1) (LO (pct (c_listI rfl) T.z_list (pa1 (pe_bm0K (K:=K) aZ iW PySem.F.type_dict_items m_items (Nj (pv 0) rfl)))) (LO (Nj (pv 0) rfl) (pa1 (Nj (pv 0) rfl)))))))),?_⟩
 walk_at "s0"
 ext
 refine P_ ?_
 ext
 refine Na ?_
 ext
 refine Nb e1 O2.cl O2.n_told_gaps rfl ?_
 refine⟨Or.inr (Or.inr (Or.inl ⟨rfl,Or.inl ⟨_,e2⟩⟩)),i_items e2 fun v hv=>?_⟩
 obtain⟨H1,E8,s1,ev⟩:=MS hv (VW v bkd)
 rw[E8]
 ext
 refine i_listI ev (s1 _ _ e2) fun l Ts H2 hl el IK JH s2=>?_
 have s02:=s1.trans s2
 cases ah IK
 ext
 refine Na ?_
 ext
 refine Nb (s02 _ _ e1) O2.cl O2.n_head rfl ?_
 ext
 refine Na ?_
 ext
 refine Nb (s02 _ _ e1) O2.cl O2.n_tail rfl ?_
 ext
 intro x dx hx FS C5
 obtain⟨H3,E9,s3,e4⟩:=Ri (C:=cO2) hx FS
 rw[E9]
 have s03:=s02.trans s3
 refine⟨x,a,l,dx,ya,pats,rfl,e4,s03 _ _ ha,s3 _ _ el,IsL.same s03 Dv,fun kd ld H5 Fv EH Hx off=>⟨rfl,?_⟩⟩
 ext
 exact q x kd ld H5 (s02.free hx) (s03.free Fv) (s03.free EH) Hx fun b o e=>off b o (Mo (s02 _ _ e) hx) (s03 _ _ e)
noncomputable abbrev s_is_letter:Au:=top 23
noncomputable abbrev s_is_word:Au:=top 24
def ag:Sp:=fun vs H Q _=>∃ c:Nat,vs=[.str (S [c])]/\Q (.bl (ML c)) H
def YF:Sp:=fun vs H Q _=>∃ l:List Nat,vs=[.str (S l)]/\l.length<=1000/\∀ H',Same H H'->Q (.bl (SU l)) H'
theorem gu (T:Txt mg tk)(F:Fun K "is_letter" "is_letter" s_is_letter f fd):FnOk P w K mg base CX0 1 f fd ["sign"] ag:=by
 refine F.okk ["sign"] ?_
 rintro _ _ _ _ H _ _ _ hr ⟨c,rfl,q⟩ nd
 refine⟨_,(LQ (LY (NK o_in (pv 0) (Rz (v:=.str "abcdefghijklmnopqrstuvwxyz") rfl T.m_LETTERS ⟨_,rfl⟩) (by with_unfolding_all rfl)))),?_⟩
 walk_at "s0"
 rw[QQ]
 ext
 rw[let_in,Up]
 exact q
theorem gv (T:Txt mg tk)(F:Fun K "is_word" "is_word" s_is_word f fd)(Cc:Dn P w K mg base "is_letter" 1 ["sign"] ag):FnOk P w K mg base CX0 2 f fd ["text"] YF:=by
 refine F.okk ["text"] ?_
 rintro _ _ _ _ H _ _ _ hr ⟨l,rfl,hl,q⟩ nd
 refine⟨_,(LQ (LY (RB (NK o_gt (pcb (Mq (K:=K)) T.z_len (pa1 (pv 0))) LL (L6 _)) (Pu (pcb (c_all rfl) T.z_all (pa1 (Nl ["sign"] [none] rfl (by kernel_rfl) rfl (Mx (K:=K) (pv 0)) (fun _ _ _ _=>(ME (i:=0) (show (["sign"]:List Str).Nodup by decide +kernel) rfl (Or.inl rfl) (Or.inr rfl))) (fun _ _ _ _=>Nq) (fun _ _ _ _=>(L0 Cc hr.LV rfl (pa1 (pv 0))))))))))),?_⟩
 walk_at "s0"
 have E7:(S l).length<=Af:=szn (by rw[Mi];omega)
 ext
 try rw[Mi]
 refine iteD (fun c=>?_) (fun c=>?_)
 ·ext
  intro r B'
  refine UL (fun i B6 σ H'=>∃ v,σ=[v]/\B6=((l.take i).map ML).map V.bl/\Same H H'/\H' r=some (.lst B6))
   ⟨none,rfl,rfl,LW B' _,LN⟩ (fun i B6 σ H' hI9=>by rcases hI9 with ⟨_,_,e,_,e2⟩;exact⟨e2,by rw[e];simp;omega⟩) (szn (by rw[Nx,Mi];omega)) ?_ ?_
  ·intro i B6 σ H' hi hI9
   obtain⟨v,rfl,rfl,s1,e1⟩:=hI9
   rw[Nx,Mi] at hi
   rw[UM hi]
   ext
   refine⟨l[i],rfl,e1,_,rfl,?_,fun c o e=>?_,LN⟩
   ·rw[MA,LS hi,L3,L3];rfl
   ·have Ld:c≠r:=fun z=>by rw[z,B'] at e;cases e
    rw[LU Ld];exact s1 _ _ e
  ·intro B6 σ H' hI9
   obtain⟨v,rfl,rfl,s1,e1⟩:=hI9
   ext
   refine QM (Ot e1) ?_
   ext
   rw[Nx,Mi,Mz]
   have e:(l.map ML).all id=SU l:=by
    unfold SU
    rw[B2 (by omega),R0,List.all_map];rfl
   rw[e]
   exact q H' s1
 ·have e:SU l=false:=by
   unfold SU
   rw[B1 (by omega),U1]
  ext
  rw[<- e]
  exact q H (Same.refl H)
structure Ow3 (K:LR)(mg:Str->Option Ab)(cO:Ac):Prop where
 m_Tongues:mg "Tongues"=some (.ref cO)
 cl:Cls K cO
 n_breakers:NoAttr K cO "breakers"
noncomputable abbrev s_Tongues_init:Au:=N3 (top 51) 0
noncomputable abbrev s_Tongues_put:Au:=N3 (top 51) 1
noncomputable abbrev s_Tongues_breaker_of:Au:=N3 (top 51) 2
theorem Rj:Mm " "=S [32]:=by decide +kernel
noncomputable abbrev s_is_name:Au:=top 50
def TgAt (CT:Ac)(H:Hp)(tp td:Ac)(B7:List (Key×V)):Prop:=∃ dx,H tp=some (.ins CT dx [(("breakers":Str),.ref td)])/\H td=some (.dK B7)
theorem TgAt.same (s:Same H H') (h:TgAt CT H tp td B7):TgAt CT H' tp td B7:=by
 obtain⟨dx,h1,h2⟩:=h
 exact⟨dx,s _ _ h1,s _ _ h2⟩
def spTgI (CT:Ac):Sp:=fun vs H Q _=>∃(p dx:Ac),vs=[.ref p]/\H p=some (.ins CT dx [])/\∀(td:Ac) (H':Hp),H td=none->TgAt CT H' p td []->(∀ b o,b≠p->H b=some o->H' b=some o)->Q .non H'
noncomputable def tEN:List Nat:=[101,110]
noncomputable def enK (p:Ac):List (Key×V):=[(Sum.inr (S tEN),.ref p)]
def kept (C CT:Ac)(H:Hp)(tp td:Ac)(pats:List Pat)(v:V)(Q:VK):Prop:=∀(p kd ld:Ac) (H':Hp),BrkAt C H' p kd ld pats->TgAt CT H' tp td (enK p)->(∀ b o,b≠td->H b=some o->H' b=some o)->Q v H'
def spPut (C CT:Ac):Sp:=fun vs H Q _=>∃(tp td bp bkd bld:Ac) (o:Option Ac) (pats:List Pat),vs=[.ref tp,.str (S tEN),.ref bp]/\TgAt CT H tp td ((o.map enK).getD [])/\BrkAt C H bp bkd bld pats/\kept C CT H tp td pats .non Q
def spBof (CT:Ac):Sp:=fun vs H Q _=>∃(tp td p:Ac),vs=[.ref tp,.str (S tEN)]/\TgAt CT H tp td (enK p)/\Q (.ref p) H
noncomputable def isNm (l:List Nat):Bool:=SU l&&decide (l.length<=8)
def YG:Sp:=fun vs H Q _=>∃ l:List Nat,vs=[.str (S l)]/\l.length<=1000/\∀ H',Same H H'->Q (.bl (isNm l)) H'
theorem put_en (o:Option Ac)(p:Ac):putK ((o.map enK).getD []) (Sum.inr (S tEN)) (.ref p)=enK p:=by
 cases o with
 | none=>rfl
 | some q=>show putK (enK q) _ _=_;unfold putK enK;rw[B4 (by simp)];simp
theorem val_en (p:Ac):valV (enK p) (Sum.inr (S tEN))=some (.ref p):=by unfold enK valV;simp
theorem gw (T:Txt mg tk)(O3:Ow3 K mg cO3)(F:Fun K "__init__" "Tongues.__init__" s_Tongues_init f fd):FnOk P w K mg base CX0 1 f fd ["self"] (spTgI cO3):=by
 refine F.okk ["self"] ?_
 rintro _ _ _ _ H _ _ _ hr ⟨p,dx,rfl,hp,q⟩ nd
 refine⟨_,(LQ (QF (pv 0) S3 rfl)),?_⟩
 walk_at "s0"
 refine QW ?_
 refine Tr fun td EO=>?_
 have s1:=LW EO (.dK [])
 have etd:=LN (H:=H) (a:=td) (o:=.dK [])
 generalize upd H td (.dK [])=H1 at s1 etd ⊢
 ext
 refine QX (s1 _ _ hp) O3.cl O3.n_breakers (by decide) ?_
 ext
 have C5:td≠p:=fun z=>by rw[z,hp] at EO;cases EO
 exact q td _ EO ⟨dx,LN,by rw[LU C5];exact etd⟩ (QZ fun b o _ e=>s1 b o e)
theorem gx (T:Txt mg tk)(O2:Ow2 K mg cO2)(O3:Ow3 K mg cO3)(F:Fun K "put" "Tongues.put" s_Tongues_put f fd)(B9:Dn P w K mg base "with_patterns" 4 ["breaker","patterns"] (spWP cO2)):FnOk P w K mg base CX0 5 f fd ["self","name","breaker"] (spPut cO2 cO3):=by
 refine F.okk ["self","name","breaker"] ?_
 rintro _ _ _ _ H _ _ _ hr ⟨tp,td,bp,bkd,bld,o,pats,rfl,⟨dxt,t1,t2⟩,hB,q⟩ nd
 obtain⟨dx0,ys0,e1,e2,e3,DU⟩:=id hB
 refine⟨_,(LQ (QT (Pi hr) (Nj (pv 0) rfl) (pv 1) (L0 B9 hr.LV rfl (LO (pv 2) (pa1 (Nj (pv 2) rfl)))) rfl)),?_⟩
 walk_at "s0"
 refine Tq ?_
 ext
 refine Na ?_
 ext
 refine Nb e1 O2.cl O2.n_patterns rfl ?_
 ext
 refine⟨bp,bkd,bld,bld,ys0,pats,pats,rfl,hB,e3,DU,fun p kd ld H1 hp Fv EH GQ s1=>?_⟩
 ext
 refine Na ?_
 ext
 refine Nb (s1 _ _ t1) O3.cl O3.n_breakers rfl ?_
 ext
 refine⟨td,_,rfl,DPut.k (k:=Sum.inr (S tEN)) (s1 _ _ t2) (Qv (show _<=1 by cases o <;> first | exact MR _ | exact LZ _) (by decide)),?_⟩
 ext
 rw[put_en]
 have up:∀ b o',H1 b=some o'->b≠td->(upd H1 td (.dK (enK p))) b=some o':=fun b o' e hb=>by rw[LU hb];exact e
 have nn:∀{b},H b=none->b≠td:=fun hb z=>by rw[z,t2] at hb;cases hb
 obtain⟨dx1,ys1,b1,b2,b4,b5⟩:=GQ
 exact q p kd ld _ ⟨dx1,ys1,up _ _ b1 (nn hp),up _ _ b2 (nn Fv),up _ _ b4 (nn EH),Rh (fun b zs e=>up b _ e (Qi e (s1 _ _ t2) (by intro z;cases z))) b5⟩ ⟨dxt,up _ _ (s1 _ _ t1) (Qi t1 t2 (by intro z;cases z)),LN⟩ fun b o hb e=>up b o (s1 _ _ e) hb
theorem jq (T:Txt mg tk)(O3:Ow3 K mg cO3)(F:Fun K "breaker_of" "Tongues.breaker_of" s_Tongues_breaker_of f fd):FnOk P w K mg base CX0 3 f fd ["self","name"] (spBof cO3):=by
 refine F.okk ["self","name"] ?_
 rintro _ _ _ _ H _ _ _ hr ⟨tp,td,p,rfl,⟨dx,t1,t2⟩,q⟩ nd
 refine⟨_,(LM (Me (RA (dB (Pi hr) (pv 1) (Nj (pv 0) rfl)))
   (LQ RC)
   Mg)
  (LQ (LY (WK (Pi hr) (Nj (pv 0) rfl) (pv 1) (fun _ _=>rfl))))),?_⟩
 walk_at "s0"
 have hg:DGet H td (.str (S tEN)) (some (.ref p)):=val_en p▸DGet.k (k:=Sum.inr (S tEN)) t2
 ext
 refine i_tB (gg ?_)
 ext
 refine Na ?_
 ext
 refine Nb t1 O3.cl O3.n_breakers rfl ?_
 refine⟨td,_,rfl,hg,?_⟩
 ext
 refine i_dget ?_
 ext
 refine Na ?_
 ext
 refine Nb t1 O3.cl O3.n_breakers rfl ?_
 ext
 exact⟨td,_,rfl,hg,q⟩
theorem gy (T:Txt mg tk)(F:Fun K "is_name" "is_name" s_is_name f fd)(DB:Dn P w K mg base "is_word" 2 ["text"] YF):FnOk P w K mg base CX0 3 f fd ["text"] YG:=by
 refine F.okk ["text"] ?_
 rintro _ _ _ _ H _ _ _ hr ⟨l,rfl,hl,q⟩ nd
 refine⟨_,(LQ (LY (RB (L0 DB hr.LV rfl (pa1 (pv 0))) (Pu (NK o_le (pcb (Mq (K:=K)) T.z_len (pa1 (pv 0))) (Rz (v:=.int 8) rfl T.m_MOST_LETTERS ⟨_,rfl⟩) (L6 _)))))),?_⟩
 walk_at "s0"
 ext
 refine⟨l,rfl,hl,fun H1 s1=>?_⟩
 have q1:=q H1 s1
 ext
 cases e:SU l with
 | false =>
  ext
  have:isNm l=false:=by unfold isNm;rw[e];rfl
  rw[this] at q1
  exact q1
 | true =>
  ext
  have:isNm l=decide ((l.length:Int)<=8):=by
   unfold isNm;rw[e,R0]
   by_cases c:l.length<=8
   ·rw[B2 c,B2 (by omega)]
   ·rw[B1 c,B1 (by omega)]
  rw[this] at q1
  exact q1
noncomputable abbrev s_can_stand:Au:=top 44
noncomputable abbrev s_read_pattern:Au:=top 45
noncomputable abbrev s_shown_number:Au:=top 46
noncomputable abbrev s_shown_pattern:Au:=top 47
theorem gz (l:List Nat):bd (S l) (S [46])=decide (l.getLast?=some 46):=by
 unfold bd
 rw[SN,Mi,Mi]
 cases h:l.getLast? with
 | none =>
  have:l=[]:=by simpa using h
  subst this
  rfl
 | some c =>
  obtain⟨r,rfl⟩:=aj.mp h
  simp;rfl
theorem TW (h:xs.getLast?=some v):atI xs (-1)=some v:=by
 obtain⟨r,rfl⟩:=aj.mp h
 unfold atI ixN
 rw[B3 (by decide)]
 have e:((-1:Int)+((r++[v]).length:Nat)).toNat=r.length:=by simp;omega
 rw[B4 (by simp;omega),e]
 simp
theorem YH:Mm "123456789"=S [49,50,51,52,53,54,55,56,57]:=by decide +kernel
theorem TX (c:Nat):Ry (S [49,50,51,52,53,54,55,56,57]) (S [c])=Qm c:=by
 rw[Wk]
 unfold Qm
 rw[decide_eq_decide]
 exact(List.mem_range'_1 (s:=49) (n:=9)).trans ⟨fun h=>⟨h.1,Nat.le_of_lt_succ h.2⟩,fun h=>⟨h.1,Nat.lt_succ_of_le h.2⟩⟩
theorem S_inj :V.str (S a)=V.str (S b)↔a=b:=⟨fun h=>by injection h with h;injection h with h;simpa using congrArg Va h,fun h=>by rw[h]⟩
def spCan:Sp:=fun vs H Q _=>∃(c:Nat) (sg:List Nat) (n:Int),vs=[.str (S [c]),.str (S sg),.int n]/\sg.length<=1000/\Q (.bl (canS c sg n)) H
def YI:Sp:=fun vs H Q _=>∃ n:Int,vs=[.int n]/\n<=9/\Q (.str (S (fig n))) H
def YJ:Sp:=fun vs H Q _=>∃(v:V) (x:Pat),vs=[v]/\Is H v (patD x)/\VP x.1 x.2/\∀ H',Same H H'->Q (.str (S (ptxt x.1 x.2))) H'
noncomputable def itm (s:List Nat)(ns:List Int):Nat->List (List Nat)
 | 0=>[]
 | i+1=>itm s ns i++[fig (ns.getD i 0)++[s.getD i 0]]
theorem TY (s:List Nat)(ns:List Int):∀ i,(itm s ns i).length=i
 | 0=>rfl
 | i+1=>by simp only[itm,Md,TY s ns i];rfl
theorem YK (s:List Nat)(ns:List Int):∀ i,(itm s ns i).flatten=pre s ns i
 | 0=>rfl
 | i+1=>by simp only[itm,pre,List.flatten_append,YK s ns i];simp
theorem YL (s:List Nat)(ns:List Int):∀ i,∀ l∈itm s ns i,l.length<=2
 | 0,l,h=>nomatch h
 | i+1,l,h=>by
  simp only[itm] at h
  rcases L7.mp h with h | h
  ·exact YL s ns i l h
  ·have:l=fig (ns.getD i 0)++[s.getD i 0]:=by simpa using h
   rw[this,Md]
   have:(fig (ns.getD i 0)).length<=1:=by unfold fig;split <;> simp
   simp only[Mr,NO];omega
theorem inV_two (h1:s≠[]) (h2:s≠[46]):inV (V.str (S s)) [V.str (S []),V.str (S [46])]=false:=by
 have e1:¬ (S []=S s):=fun z=>h1 (S_inj.mp (by rw[z])).symm
 have e2:¬ (S [46]=S s):=fun z=>h2 (S_inj.mp (by rw[z])).symm
 unfold inV
 simp only[Pq,List.any_nil,eqV,Bool.or_false]
 simp[e1,e2]
theorem i_zpS (h1:H a=some (.tup ys)) (h:R (Izp (chs z) ys fun H=>H a=some (.tup ys)) H):zpIt R (.str z) (.ref a) H:=⟨ys,h1,h⟩
theorem i_zip (h:ta σ H fun x H1=>tb σ H1 fun y H2=>zpIt R x y H2):iZip ta tb σ H R:=h
def YM:Sp:=fun vs H Q _=>∃ x:Pat,vs=[.str (S (ptxt x.1 x.2))]/\VP x.1 x.2/\∀ v H',Is H' v (patD x)->Same H H'->Q v H'
theorem gA (T:Txt mg tk)(F:Fun K "shown_number" "shown_number" s_shown_number f fd):FnOk P w K mg base CX0 1 f fd ["number"] YI:=by
 refine F.okk ["number"] ?_
 rintro _ _ _ _ H _ _ _ hr ⟨n,rfl,hn,q⟩ nd
 refine⟨_,(LQ (LY (R5 (L_ o_gt (pv 0) LL (L6 _)) (pct PQ T.z_str (pa1 (pv 0))) (L8 Oh)))),?_⟩
 walk_at "s0"
 ext
 refine iteD (fun c=>?_) (fun c=>?_)
 ·obtain⟨d,hd,rfl⟩:∃ d:Nat,d < 10/\n=(d:Int):=⟨n.toNat,by omega,by omega⟩
  have e:fig (d:Int)=[48+d]:=by unfold fig;rw[B4 c,OK]
  rw[e] at q
  ext
  refine⟨?_,?_⟩
  ·have:∀ d:Nat,d < 10->(d:Int).natAbs.log2 < 1920:=by decide
   exact this d hd
  ·rw[Xc d hd]
   exact q
 ·have e:fig n=[]:=by unfold fig;rw[B3 (by omega)]
  rw[e] at q
  ext
  exact q
theorem gB (T:Txt mg tk)(F:Fun K "can_stand" "can_stand" s_can_stand f fd)(Cc:Dn P w K mg base "is_letter" 1 ["sign"] ag):FnOk P w K mg base CX0 2 f fd ["sign","signs","number"] spCan:=by
 refine F.okk ["sign","signs","number"] ?_
 rintro _ _ _ _ H _ Q _ hr ⟨c,sg,n,rfl,hs,q⟩ nd
 refine⟨_,(LM (Me (PW.pt (QD (L_ o_gt (pcb (Mq (K:=K)) T.z_len (pa1 (pv 1))) LL (L6 _)) (Qz (NC (M9 (K:=K) OJ PySem.F.slot_str_endswith PySem.F.type_str_endswith cJ (pv 1) (pa1 (L8 Ny))) (fun _=>rfl)))))
   (LQ (LY Ni))
   Mg)
  (LM (Me (L_ o_in (pv 0) (Rz (v:=.str "123456789") rfl T.m_FIGURES ⟨_,rfl⟩) (by with_unfolding_all rfl))
   (LQ (LY (NK (o_eq hr.units) (pv 2) LL (L6 _))))
   Mg)
  (LM (Me (L_ (o_eq hr.units) (pcb (Mq (K:=K)) T.z_len (pa1 (pv 1))) (Rz (v:=.int 22) rfl T.m_MOST_SIGNS ⟨_,rfl⟩) (L6 _))
   (LQ (LY Ni))
   Mg)
  (LM (Me (L_ (o_eq hr.units) (pv 0) (L8 Ny) (L6 _))
   (LQ (LY (RB (NK (o_ne hr.units) (pv 1) (L8 Ny) (L6 _)) (Pu (R4 (NK (o_ne hr.units) (pv 1) (L8 Oh) (L6 _)) (Pu (NK (o_eq hr.units) (pv 2) LL (L6 _))))))))
   Mg)
  (LQ (LY (L0 Cc hr.LV rfl (pa1 (pv 0))))))))),?_⟩
 walk_at "s0"
 rw[YH]
 unfold canS at q
 have tail:¬ (1 < sg.length/\sg.getLast?=some 46)->Q (.bl (if Qm c=true then decide (n=0) else if sg.length=22 then false else if c=46 then decide (sg≠[46])&&(decide (sg≠[]) || decide (n=0)) else ML c)) H:=fun z=>by rwa [B3 z] at q
 ext
 refine iteD (fun c1=>?_) (fun c1=>?_)
 ·ext
  rw[gz]
  refine iteD (fun c2=>?_) (fun c2=>?_)
  ·ext
   rw[B4 ⟨by omega,c2⟩] at q
   exact q
  ·have q2:=tail (fun z=>c2 z.2)
   ext
   rw[TX,Up]
   refine iteB (fun d1=>?_) (fun d1=>?_)
   ·ext
    rw[B4 d1] at q2
    have e:decide (V.int n=V.int 0)=decide (n=0):=by
     by_cases z:n=0
     ·rw[z];rfl
     ·rw[B1 z];exact B1 fun y=>z (by injection y)
    rw[e]
    exact q2
   ·rw[B3 (by rw[d1];exact Mj)] at q2
    ext
    refine iteD (fun d2=>?_) (fun d2=>?_)
    ·have d2':sg.length=22:=by injection d2 with d2;omega
     rw[B4 d2'] at q2
     ext
     exact q2
    ·have d2':¬ sg.length=22:=fun z=>d2 (by rw[z];rfl)
     rw[B3 d2'] at q2
     ext
     refine iteD (fun d3=>?_) (fun d3=>?_)
     ·have d3':c=46:=by have:=S_inj.mp d3;simpa using this
      rw[B4 d3'] at q2
      ext
      refine iteB (fun d4=>?_) (fun d4=>?_)
      ·have d4':sg≠[46]:=fun z=>by rw[z] at d4;simp at d4
       rw[B2 d4',R0] at q2
       ext
       refine iteB (fun d5=>?_) (fun d5=>?_)
       ·have d5':sg≠[]:=fun z=>by rw[z] at d5;simp at d5
        rw[B2 d5',U2] at q2
        ext
        try rw[d5]
        exact q2
       ·have d5':sg=[]:=by
         have:decide (V.str (S sg)=V.str (S []))=true:=by simpa using d5
         exact S_inj.mp (of_decide_eq_true this)
        rw[B1 (fun z:sg≠[]=>z d5'),Uq] at q2
        ext
        have e:decide (V.int n=V.int 0)=decide (n=0):=by
         by_cases z:n=0
         ·rw[z];rfl
         ·rw[B1 z];exact B1 fun y=>z (by injection y)
        rw[e]
        exact q2
      ·have d4':sg=[46]:=by
        have:decide (V.str (S sg)=V.str (S [46]))=true:=by simpa using d4
        exact S_inj.mp (of_decide_eq_true this)
       rw[B1 (fun z:sg≠[46]=>z d4'),U1] at q2
       ext
       try rw[d4]
       exact q2
     ·have d3':¬ c=46:=fun z=>d3 (by rw[z])
      rw[B3 d3'] at q2
      ext
      exact⟨c,rfl,q2⟩
 ·have q2:=tail (fun z=>c1 (by omega))
  ext
  rw[TX,Up]
  refine iteB (fun d1=>?_) (fun d1=>?_)
  ·ext
   rw[B4 d1] at q2
   have e:decide (V.int n=V.int 0)=decide (n=0):=by
    by_cases z:n=0
    ·rw[z];rfl
    ·rw[B1 z];exact B1 fun y=>z (by injection y)
   rw[e]
   exact q2
  ·rw[B3 (by rw[d1];exact Mj)] at q2
   ext
   refine iteD (fun d2=>?_) (fun d2=>?_)
   ·have d2':sg.length=22:=by injection d2 with d2;omega
    rw[B4 d2'] at q2
    ext
    exact q2
   ·have d2':¬ sg.length=22:=fun z=>d2 (by rw[z];rfl)
    rw[B3 d2'] at q2
    ext
    refine iteD (fun d3=>?_) (fun d3=>?_)
    ·have d3':c=46:=by have:=S_inj.mp d3;simpa using this
     rw[B4 d3'] at q2
     ext
     refine iteB (fun d4=>?_) (fun d4=>?_)
     ·have d4':sg≠[46]:=fun z=>by rw[z] at d4;simp at d4
      rw[B2 d4',R0] at q2
      ext
      refine iteB (fun d5=>?_) (fun d5=>?_)
      ·have d5':sg≠[]:=fun z=>by rw[z] at d5;simp at d5
       rw[B2 d5',U2] at q2
       ext
       try rw[d5]
       exact q2
      ·have d5':sg=[]:=by
        have:decide (V.str (S sg)=V.str (S []))=true:=by simpa using d5
        exact S_inj.mp (of_decide_eq_true this)
       rw[B1 (fun z:sg≠[]=>z d5'),Uq] at q2
       ext
       have e:decide (V.int n=V.int 0)=decide (n=0):=by
        by_cases z:n=0
        ·rw[z];rfl
        ·rw[B1 z];exact B1 fun y=>z (by injection y)
       rw[e]
       exact q2
     ·have d4':sg=[46]:=by
       have:decide (V.str (S sg)=V.str (S [46]))=true:=by simpa using d4
       exact S_inj.mp (of_decide_eq_true this)
      rw[B1 (fun z:sg≠[46]=>z d4'),U1] at q2
      ext
      try rw[d4]
      exact q2
    ·have d3':¬ c=46:=fun z=>d3 (by rw[z])
     rw[B3 d3'] at q2
     ext
     exact⟨c,rfl,q2⟩
theorem gC (T:Txt mg tk)(F:Fun K "shown_pattern" "shown_pattern" s_shown_pattern f fd)(Cu:Dn P w K mg base "shown_number" 1 ["number"] YI):FnOk P w K mg base CX0 2 f fd ["pattern"] YJ:=by
 refine F.okk ["pattern","signs","numbers","shown"] ?_
 rintro _ _ _ _ H _ _ _ hr ⟨v,x,rfl,hv,hx,q⟩ nd
 obtain⟨a,t,rfl,ha,ht⟩:=P0 hv
 have DT:=hx.len
 have Jd:=hx.nlen
 refine⟨_,(LM (pst 1 nd (pix K (pv 0) LL))
  (LM (pst 2 nd (pix K (pv 0) LL))
  (LM (UI (i:=3) ["sign","number"] [none,none] rfl (by kernel_rfl) rfl nd rfl rfl (pi_zip rfl T.z_zip (pv 1) (pv 2)) (fun _ _ _ _=>(TU (K:=K) (n:=2) rfl rfl (MU (ME (i:=0) (show (["sign","number"]:List Str).Nodup by decide +kernel) rfl (Or.inl rfl) (Or.inr rfl)) (MU (ME (i:=1) (show (["sign","number"]:List Str).Nodup by decide +kernel) rfl (Or.inl rfl) (Or.inr rfl)) OQ)))) (fun _ _ _ _=>Nq) (fun _ _ _ _=>(LX Mb (L0 Cu hr.LV rfl (pa1 (pv 1))) (pv 0))))
  (LQ (LY (LX Mb (M9 (K:=K) OJ Rt Ru RI (L8 Oh) (pa1 (pv 3))) (L0 Cu hr.LV rfl (pa1 (pix K (pv 2) (OS OU LL)))))))))),?_⟩
 walk_at "s0"
 ext
 refine i_zip ?_
 ext
 refine i_zpS ht ?_
 intro r B'
 refine W_ x.1.length (by rw[Nx,Mi,LP];omega) (fun i B6 σ H'=>∃ v1 v2,σ=[v1,v2]/\B6=(itm x.1 x.2 i).map (fun l=>V.str (S l))/\Same H H'/\H' r=some (.lst B6))
  (fun i B6 σ H' _ hI9=>by rcases hI9 with ⟨_,_,_,_,s1,_⟩;exact s1 _ _ ht) ⟨none,none,rfl,rfl,LW B' _,LN⟩ (fun i B6 σ H' hI9=>by rcases hI9 with ⟨_,_,_,e,_,e2⟩;exact⟨e2,by rw[e,LP,TY];exact LZ _⟩) (szn (by omega)) ?_ ?_
 ·rintro i u v B6 σ H1 T2 hu hv' ⟨v1,v2,rfl,rfl,s1,e1⟩ hT
  rw[QP] at hu
  have hi:i < x.1.length:=by
   have:=(MJ.mp hu).1
   simpa using this
  rw[Ma,LS hi] at hu
  cases hu
  rw[Ma,LS (show i < x.2.length by omega)] at hv'
  cases hv'
  have h9:=(hx.num i (by omega)).2
  have eg:x.2.getD i 0=x.2[i]:=by rw[L4,LS (show i < x.2.length by omega)];rfl
  have es:x.1.getD i 0=x.1[i]:=by rw[L4,LS hi];rfl
  rw[eg] at h9
  have rT:r≠T2:=Mo e1 hT
  have s2:=LW hT (PrX T2 [.str (S [x.1[i]]),.int x.2[i]])
  have e2:=s2 _ _ e1
  have EM:(fig x.2[i]).length<=1:=by unfold fig;split <;> simp
  refine PX LN rfl (M0 (MY (M0 (MY (Pl ?_)))))
  ext
  refine⟨_,rfl,h9,?_⟩
  ext
  refine⟨e2,_,_,rfl,?_,fun b o e=>?_,LN⟩
  ·simp only[itm]
   rw[L3,eg,es];rfl
  ·have Gn:b≠r:=fun z=>by rw[z,B'] at e;cases e
   rw[LU Gn];exact s2 _ _ (s1 b o e)
 ·intro B6 σ H1 hI9
  obtain⟨v1,v2,rfl,rfl,s1,e1⟩:=hI9
  have Ka:=s1 _ _ ht
  have Hy:atI (x.2.map V.int) (-1)=some (V.int (x.2.getD x.1.length 0)):=TW (by
   rw[List.getLast?_map,UV,show x.2.length - 1=x.1.length by omega,LS (show x.1.length < x.2.length by omega),L4,LS (show x.1.length < x.2.length by omega)];rfl)
  have h9:=(hx.num x.1.length (by omega)).2
  have CG:=XF x.1 x.2
  have He:((itm x.1 x.2 x.1.length).map fun l=>V.str (S l))=((itm x.1 x.2 x.1.length).map S).map V.str:=by rw[MQ];rfl
  rw[He] at e1
  have Ek:=To x.1 x.2 x.1.length
  have EM:(fig (x.2.getD x.1.length 0)).length<=1:=by unfold fig;split <;> simp
  ext
  refine RK (Ot e1) ?_ ?_
  ·have h1:(((itm x.1 x.2 x.1.length).map S).map (·.length)).sum<=(itm x.1 x.2 x.1.length).length * 2:=by
    have gen:∀ ls:List (List Nat),(∀ l∈ls,l.length<=2)->((ls.map S).map (·.length)).sum<=ls.length * 2:=by
     intro ls
     induction ls with
     | nil=>intro _;exact LZ _
     | cons l ls ih =>
      intro h
      have a1:=ih fun z hz=>h z (Mp _ hz)
      have a2:=h l Mn
      simp only[L',UY,Mi,Mr]
      omega
    exact gen _ (YL x.1 x.2 _)
   rw[TY] at h1
   have h0:(S []).length=0:=by rw[Mi];rfl
   rw[h0]
   omega
  have hj:Qh (S []) ((itm x.1 x.2 x.1.length).map S)=S (pre x.1 x.2 x.1.length):=by rw[O5,Z6,YK]
  rw[hj]
  ext
  refine⟨_,rfl,h9,?_⟩
  ext
  exact q H1 s1
theorem gD (T:Txt mg tk)(F:Fun K "read_pattern" "read_pattern" s_read_pattern f fd)(Dg:Dn P w K mg base "can_stand" 2 ["sign","signs","number"] spCan):FnOk P w K mg base CX0 3 f fd ["text"] YM:=by
 refine F.okk ["text","signs","numbers","place","sign"] ?_
 rintro _ _ _ _ H _ _ _ hr ⟨x,rfl,hx,q⟩ nd
 have DT:=hx.len
 have Jd:=hx.nlen
 have CG:=XF x.1 x.2
 obtain⟨m,Gy,hm⟩:=hx.read
 generalize hl:ptxt x.1 x.2=l at Gy CG
 refine⟨_,(LM (pst 1 nd (L8 Oh))
  (LM (pst 2 nd (MZ (pa1 LL)))
  (LM (MN MH rfl (V7 rfl T.z_enumerate (pv 0)) (Pw rfl (MU (pnm 3 nd) (MU (pnm 4 nd) OQ)))
   (LM (Me (OO (NC (L0 Dg hr.LV rfl (LO (pv 4) (LO (pv 1) (pa1 (pix K (pv 2) (OS OU LL)))))) (fun _=>rfl)))
   (LQ RC)
   Mg)
  (LQ (Me (L_ o_in (pv 4) (Rz (v:=.str "123456789") rfl T.m_FIGURES ⟨_,rfl⟩) (by with_unfolding_all rfl))
   (LQ (N8 (pct QV T.z_int (pa1 (pv 4))) (Px (pv 2) (OS OU LL) PU)))
   (LM (pst 1 nd (LX Mb (pv 1) (pv 4)))
  (LQ (OP (M9 (K:=K) Pd Uv Uw UK (pv 2) (pa1 LL)))))))))
  (LM (Me (L_ o_in (pv 1) (Nw (LO (L8 Oh) (pa1 (L8 Ny)))) (by with_unfolding_all rfl))
   (LQ RC)
   Mg)
  (LQ (LY (Nw (LO (pv 1) (pa1 (pct PR T.z_tuple (pa1 (pv 2)))))))))))),?_⟩
 walk_at "s0"
 rw[YH]
 ext
 intro a ha
 ext
 refine SD (fun i σ H2=>∃(u:PS3) (v1 v2:Option V),L2.prun (l.take i) ⟨[],[],0⟩=some u/\σ=[some (.str (S l)),some (.str (S u.sg)),some (.ref a),v1,v2]/\H2 a=some (.lst ((u.ns++[u.n]).map V.int))/\Same H H2)
  ⟨⟨[],[],0⟩,none,none,by simp[L2.prun],rfl,LN,LW ha _⟩ (fun _ _ _ _ _=>trivial) ?_ ?_
 ·rintro i v σ H2 T2 hv ⟨u,v1,v2,h1,rfl,h2,s2⟩ hT
  rw[QP] at hv
  have hi:i < l.length:=by
   have:=(MJ.mp hv).1
   simpa using this
  rw[Ma,LS hi] at hv
  cases hv
  obtain⟨u',FC,DG⟩:=e_ Gy h1 hi
  have El:=XG h1
  have hw3:(l.take i).length<=l.length:=by rw[Mt];omega
  simp only[NO,aX] at El
  have aT:a≠T2:=Mo h2 hT
  have s3:=LW hT (PrX T2 [.int (((0:Nat):Int)+(i:Int)),.str (S [l[i]])])
  have h3:=s3 _ _ h2
  have s23:=s2.trans s3
  generalize E9:upd H2 T2 (PrX T2 [.int (((0:Nat):Int)+(i:Int)),.str (S [l[i]])])=H3 at s3 h3 s23 ⊢
  refine PX (by rw[<- E9];exact LN) rfl (M0 (MY (M0 (MY (Pl ?_)))))
  have Hy:atI ((u.ns++[u.n]).map V.int) (-1)=some (V.int u.n):=TW (by rw[L3];simp)
  ext
  refine⟨l[i],u.sg,u.n,rfl,by omega,?_⟩
  unfold L2.NG at FC
  split at FC
  ·rename_i hc
   rw[hc]
   ext
   rw[TX,Up]
   split at FC
   ·rename_i hf
    cases FC
    rw[hf]
    ext
    have hf':=of_decide_eq_true hf
    obtain⟨d,hd,ed⟩:∃ d:Nat,d < 10/\l[i]=48+d:=⟨l[i] - 48,by omega,by omega⟩
    refine⟨(d:Int),by rw[ed];exact fig_int d hd,by rw[Mi];show 1<=640;decide,?_⟩
    have GK:ixN ((u.ns++[u.n]).map V.int).length (-1)=some u.ns.length:=by
     unfold ixN
     rw[B3 (by decide),B4 (by simp;omega)]
     congr 1
     simp;omega
    ext
    refine QK h3 GK ?_
    have eset:((u.ns++[u.n]).map V.int).set u.ns.length (V.int (d:Int))=(u.ns++[(d:Int)]).map V.int:=by
     rw[L3,L3,List.set_append_right _ _ (by simp)];simp
    rw[eset]
    ext
    refine⟨⟨u.sg,u.ns,(l[i]:Int) - 48⟩,_,_,DG,rfl,?_,fun b o e=>?_⟩
    ·rw[LN,ed,show (((48+d:Nat):Int) - 48)=(d:Int) by omega]
    ·have hb:b≠a:=fun z=>by rw[z,ha] at e;cases e
     rw[LU hb];exact s23 b o e
   ·rename_i hf
    cases FC
    have hf':Qm l[i]=false:=by simpa using hf
    rw[hf']
    have Fo:((u.ns++[u.n]).map V.int).length < Af:=szn (by simp;omega)
    ext
    refine⟨⟨u.sg++[l[i]],u.ns++[u.n],0⟩,_,_,DG,rfl,?_,fun b o e=>?_⟩
    ·rw[LN,L3 (l₂:=[0])];rfl
    ·have hb:b≠a:=fun z=>by rw[z,ha] at e;cases e
     rw[LU hb];exact s23 b o e
  ·cases FC
 ·intro σ H2 hI9
  obtain⟨u,v1,v2,h1,rfl,h2,s2⟩:=hI9
  rw[Nx,Mi,Mz,Gy] at h1
  cases h1
  ext
  intro tp Le
  have s3:=LW Le (.tup [.str (S []),.str (S [46])])
  refine SF (So LN) ⟨rfl,rfl⟩ ?_
  obtain⟨j,hj,lj⟩:=hx.some_
  have no1:x.1≠[]:=fun z=>by rw[z] at hj;simp at hj
  have no2:x.1≠[46]:=fun z=>by
   rw[z] at hj lj
   have:j=0:=by simp at hj;omega
   subst this
   rw[show ([46]:List Nat).getD 0 0=46 from rfl,P'] at lj;cases lj
  have Ei:inV (V.str (S x.1)) [V.str (S []),V.str (S [46])]=false:=inV_two no1 no2
  dsimp only
  rw[Ei]
  have h3:=s3 _ _ h2
  ext
  refine Wb (Nd h3) fun t H3 ht k3=>?_
  ext
  intro r B'
  ext
  have s4:=LW B' (.tup [.str (S x.1),.ref t])
  refine q (.ref r) _ (SS (x:=x) LN ?_) ((s2.trans s3).trans (fun b o e=>s4 b o (k3 b o e)))
  rw[<- hm] at ht
  exact s4 _ _ ht
noncomputable abbrev s_is_text:Au:=top 65
noncomputable abbrev s_is_number:Au:=top 66
noncomputable abbrev s_has_its_count:Au:=top 67
noncomputable abbrev s_is_row:Au:=top 68
noncomputable abbrev s_words_of_row:Au:=top 69
noncomputable def tTON:List Nat:=[116,111,110,103,117,101]
noncomputable def tPAT:List Nat:=[112,97,116,116,101,114,110]
noncomputable def tTOL:List Nat:=[116,111,108,100]
noncomputable def tBRK:List Nat:=[98,114,101,97,107]
noncomputable def tPTS:List Nat:=[112,97,116,116,101,114,110,115]
noncomputable def tPAR:List Nat:=[112,97,114,101]
noncomputable def tPRS:List Nat:=[112,114,101,115,115]
theorem TZ:Mm "tongue"=S tTON:=by decide +kernel
theorem t_pat:Mm "pattern"=S tPAT:=by decide +kernel
theorem t_tol:Mm "told"=S tTOL:=by decide +kernel
theorem t_brk:Mm "break"=S tBRK:=by decide +kernel
theorem t_pts:Mm "patterns"=S tPTS:=by decide +kernel
theorem t_par:Mm "pare"=S tPAR:=by decide +kernel
theorem Rk:Mm "press"=S tPRS:=by decide +kernel
theorem t_til:Mm "~"=S [126]:=by decide +kernel
noncomputable def kvsC:List (Key×V):=[(Sum.inr (S tTON),.int 4),(Sum.inr (S tPAT),.int 3),(Sum.inr (S tTOL),.int 3),(Sum.inr (S tBRK),.int 3),(Sum.inr (S tPTS),.int 2),(Sum.inr (S tPAR),.int 2),(Sum.inr (S tPRS),.int 3)]
structure Dcc (P:Ag)(w:Ak)(K:LR)(mg:Str->Option Ab)(cD:Ac):Prop where
 m:mg "COUNTS"=some (.ref cD)
 d:DC P w K cD kvsC
noncomputable def cntL (l:List Nat):Option Nat:=if l=tTON then some 4 else if l=tPAT then some 3 else if l=tTOL then some 3 else if l=tBRK then some 3 else if l=tPTS then some 2 else if l=tPAR then some 2 else if l=tPRS then some 3 else none
theorem T3 {B7:List (Key×V)}{z l:List Nat}{v:V}:valV ((Sum.inr (S z),v)::B7) (Sum.inr (S l))=if l=z then some v else valV B7 (Sum.inr (S l)):=by
 by_cases e:l=z
 ·rw[B4 e,UO (by rw[e])]
 ·rw[B3 e,UP fun q=>e (O7 q).symm]
theorem YN (l:List Nat):valV kvsC (Sum.inr (S l))=(cntL l).map fun n:Nat=>V.int (n:Int):=by
 unfold kvsC cntL
 rw[T3,T3,T3,T3,T3,T3,T3]
 repeat' split
 all_goals rfl
noncomputable def isTx (l:List Nat):Bool:=l.all fun c=>decide (32<=c)&&decide (c<=126)&&decide (c≠37)
noncomputable def dig (n:Nat):List Nat:=(Mm (toString (n:Int))).cps.toList
theorem T5 (n:Nat):S (dig n)=Mm (toString (n:Int)):=XQ _
noncomputable def NW (l:List Nat)(a b:Nat):Bool:=(L5 (b+1 - a)).any fun k=>decide (l=dig (a+k))
noncomputable def hasC (ws:List (List Nat)):Bool:=match cntL (ws.getD 0 []) with
 | none=>false
 | some n=>decide (ws.length=n) || (decide (ws.getD 0 []=tPRS)&&decide (n < ws.length))
noncomputable def T6 (ws:List (List Nat)):Bool:=hasC ws&&(if ws.getD 0 []=tPRS then NW (ws.getD 1 []) 2 200 else (if ws.getD 0 []=tTON then NW (ws.getD 2 []) 1 20&&NW (ws.getD 3 []) 1 20 else true)&&isNm (ws.getD 1 []))
def RwOk (ws:List (List Nat)):Prop:=ws≠[]/\ws.length<=41/\(∀ w∈ws,w.length<=50/\∀ c∈w,32 < c/\c<=126/\c≠37)/\T6 ws=true
theorem RwOk.tx:∀{ws:List (List Nat)},(∀ w∈ws,w.length<=50/\∀ c∈w,32 < c/\c<=126/\c≠37)->isTx (MO 32 ws)=true/\(MO 32 ws).length<=51 * ws.length
 | [],_=>⟨rfl,LZ _⟩
 | [w],h=>by
  obtain⟨h1,h2⟩:=h w Mn
  refine⟨Qd.mpr fun c hc=>?_,by show w.length<=_;simp;omega⟩
  obtain⟨a,b,d⟩:=h2 c hc
  simp only[Nn,decide_eq_true_eq];omega
 | w::v::r,h=>by
  obtain⟨h1,h2⟩:=h w Mn
  obtain⟨i1,i2⟩:=RwOk.tx fun y hy=>h y (Mp w hy)
  have e:MO 32 (w::v::r)=w++32::MO 32 (v::r):=rfl
  rw[e]
  refine⟨Qd.mpr fun c hc=>?_,by rw[Md,Mr,Mr];omega⟩
  rcases L7.mp hc with hc | hc
  ·obtain⟨a,b,d⟩:=h2 c hc
   simp only[Nn,decide_eq_true_eq];omega
  ·rcases Mc.mp hc with rfl | hc
   ·decide
   ·exact Qd.mp i1 c hc
def YO:Sp:=fun vs H Q _=>∃ l:List Nat,vs=[.str (S l)]/\l.length<=3000/\isTx l=true/\∀ H',Same H H'->Q (.bl true) H'
def YQ:Sp:=fun vs H Q _=>∃(l:List Nat) (a b:Nat),vs=[.str (S l),.int (a:Int),.int (b:Int)]/\a<=b/\b<=1000/\∀ H',Same H H'->Q (.bl (NW l a b)) H'
noncomputable def L9 (ws:List (List Nat)):List V:=ws.map fun l=>V.str (S l)
def spHas:Sp:=fun vs H Q _=>∃(a:Ac) (ws:List (List Nat)),vs=[.ref a]/\H a=some (.lst (L9 ws))/\1<=ws.length/\ws.length<=1000/\Q (.bl (hasC ws)) H
def YR:Sp:=fun vs H Q _=>∃(a:Ac) (ws:List (List Nat)),vs=[.ref a]/\H a=some (.lst (L9 ws))/\1<=ws.length/\ws.length<=1000/\(∀ l∈ws,l.length<=1000)/\∀ H',Same H H'->Q (.bl (T6 ws)) H'
def YS:Sp:=fun vs H Q _=>∃ ws:List (List Nat),vs=[.str (S (MO 32 ws))]/\RwOk ws/\∀(r:Ac) (H':Hp),H r=none->H' r=some (.lst (L9 ws))->Same H H'->Q (.ref r) H'
theorem YT {i:Nat} (h:i < ws.length):atI (L9 ws) (i:Int)=some (.str (S (ws.getD i []))):=Og (by omega) (by
 rw[show ((i:Int)).toNat=i by omega,L9,Ma,LS h,L4,LS h];rfl)
theorem T7 (n:Nat)(h:n<=1000):((n:Int)).natAbs.log2 < 1920:=by
 have h2:((n:Int)).natAbs=n:=by omega
 rw[h2]
 by_cases z:n=0
 ·rw[z];decide
 ·have:=(Nat.log2_lt z).mpr (show n < 2 ^ 10 by omega)
  omega
theorem gE (T:Txt mg tk)(F:Fun K "is_text" "is_text" s_is_text f fd):FnOk P w K mg base CX0 1 f fd ["row"] YO:=by
 refine F.okk ["row"] ?_
 rintro _ _ _ _ H _ _ _ hr ⟨l,rfl,hl,Gz,q⟩ nd
 refine⟨_,(LQ (LY (RB (pcb V3 T.z_isinstance (LO (pv 0) (pa1 (pty "str" T.z_str)))) (Pu (pcb (c_all rfl) T.z_all (pa1 (Nl ["sign"] [none] rfl (by kernel_rfl) rfl (Mx (K:=K) (pv 0)) (fun _ _ _ _=>(ME (i:=0) (show (["sign"]:List Str).Nodup by decide +kernel) rfl (Or.inl rfl) (Or.inr rfl))) (fun _ _ _ _=>Nq) (fun _ _ _ _=>(RB (bH o_leS o_leS (L8 Rj) (pv 0) (L8 t_til)) (Pu (NK (o_ne hr.units) (pcb c_ord T.z_ord (pa1 (pv 0))) (Rz (v:=.int 37) rfl T.m_PERCENT_SIGN ⟨_,rfl⟩) (L6 _)))))))))))),?_⟩
 walk_at "s0"
 ext
 intro r B'
 refine UL (fun i B6 σ H'=>∃ v,σ=[v]/\B6=(Mw i true).map V.bl/\H' r=some (.lst B6)/\Same H H')
  ⟨none,rfl,rfl,LN,LW B' _⟩ (fun i B6 σ H' hI9=>by rcases hI9 with ⟨_,_,e,e2,_⟩;exact⟨e2,by rw[e];simp⟩) (szn (by rw[Nx,Mi];omega)) ?_ ?_
 ·intro i B6 σ H2 hi hI9
  obtain⟨v,rfl,rfl,e2,s2⟩:=hI9
  rw[Nx,Mi] at hi
  rw[UM hi]
  have hc:=Qd.mp Gz _ (MD hi)
  generalize l[i]=c at hc ⊢
  simp only[Nn,decide_eq_true_eq] at hc
  obtain⟨⟨Ia,GU⟩,hc3⟩:=hc
  ext
  refine i_leS ⟨_,rfl,?_⟩
  rw[B2 Ia]
  ext
  refine i_leS ⟨_,rfl,?_⟩
  rw[B2 GU]
  ext
  refine i_ord ?_
  ext
  have Lf:(!decide (V.int (c:Int)=V.int 37))=true:=by simp;omega
  rw[Lf]
  refine⟨e2,_,rfl,?_,LN,MW B' s2⟩
  rw[List.replicate_succ',L3];rfl
 ·intro B6 σ H2 hI9
  obtain⟨v,rfl,rfl,e2,s2⟩:=hI9
  rw[Nx,Mi] at e2
  ext
  refine QM (Ot e2) ?_
  have Dr:((Mw l.length true).all id)=true:=by rw[Qd];intro x hx;rw[(List.mem_replicate.mp hx).2];rfl
  simp only[Dr]
  exact q H2 s2
theorem gF (T:Txt mg tk)(F:Fun K "is_number" "is_number" s_is_number f fd):FnOk P w K mg base CX0 1 f fd ["text","least","most"] YQ:=by
 refine F.okk ["text","least","most"] ?_
 rintro _ _ _ _ H _ _ _ hr ⟨l,a,b,rfl,hab,hb,q⟩ nd
 refine⟨_,(LQ (LY (NK o_in (pv 0) (Nl ["number"] [none] rfl (by kernel_rfl) rfl (R7 rfl T.z_range (LO (pv 1) (pa1 (LX Mb (pv 2) LL)))) (fun _ _ _ _=>(ME (i:=0) (show (["number"]:List Str).Nodup by decide +kernel) rfl (Or.inl rfl) (Or.inr rfl))) (fun _ _ _ _=>Nq) (fun _ _ _ _=>(pct PQ T.z_str (pa1 (pv 0))))) (by with_unfolding_all rfl)))),?_⟩
 walk_at "s0"
 ext
 intro r B'
 have hn:((b:Int)+1 - (a:Int)).toNat=b+1 - a:=by omega
 refine Sz (fun i B6 σ H'=>∃ v,σ=[v]/\B6=L9 ((L5 i).map fun k=>dig (a+k))/\H' r=some (.lst B6)/\Same H H')
  ⟨none,rfl,rfl,LN,LW B' _⟩ (fun i B6 σ H' hI9=>by rcases hI9 with ⟨_,_,e,e2,_⟩;exact⟨e2,by rw[e,L9,LP,LP,Qq];exact LZ _⟩) (szn (by omega)) ?_ ?_
 ·intro i B6 σ H2 hi hI9
  obtain⟨v,rfl,rfl,e2,s2⟩:=hI9
  ext
  have Lg:(a:Int)+(i:Int)=((a+i:Nat):Int):=by omega
  rw[Lg]
  refine⟨T7 _ (by omega),e2,_,rfl,?_,LN,MW B' s2⟩
  rw[L9,L9,Pb,L3,L3]
  show _++[V.str _]=_++[V.str (S (dig (a+i)))]
  rw[T5]
 ·intro B6 σ H2 hI9
  obtain⟨v,rfl,rfl,e2,s2⟩:=hI9
  rw[hn] at e2
  have Ei:inV (V.str (S l)) (L9 ((L5 (b+1 - a)).map fun k=>dig (a+k)))=NW l a b:=by
   unfold inV NW L9
   rw[MQ,aF]
   congr 1
   funext k
   show eqV (V.str (S (dig (a+k)))) (V.str (S l))=decide (l=dig (a+k))
   rw[Oq]
   unfold eqV
   simp only[beq_iff_eq,decide_eq_true_eq]
   exact⟨fun z=>(S_inj.mp (by rw[z])).symm,fun z=>by rw[z]⟩
  refine SF (Nd e2) ⟨rfl,?_⟩ ?_
  ·unfold L9
   rw[List.all_map,Qd]
   intro x _
   rfl
  ·rw[B3 (by decide),Ei]
   exact q H2 s2
theorem gG (T:Txt mg tk)(DCC:Dcc P w K mg cD)(F:Fun K "has_its_count" "has_its_count" s_has_its_count f fd):FnOk P w K mg base CX0 1 f fd ["words"] spHas:=by
 refine F.okk ["words","count"] ?_
 rintro _ _ _ _ H _ Q _ hr ⟨a,ws,rfl,ha,C6,Dz,q⟩ nd
 have h0:=YT (show 0 < ws.length by omega)
 refine⟨_,(LM (Me (RA (fc DCC.d rfl DCC.m (pix K (pv 0) LL)))
   (LQ (LY Ni))
   Mg)
  (LM (pst 1 nd (pe_kget DCC.d rfl DCC.m (pix K (pv 0) LL) (fun _ _=>rfl)))
  (LQ (LY (R4 (NK (o_eq hr.units) (pcb (Mq (K:=K)) T.z_len (pa1 (pv 0))) (pv 1) (L6 _)) (Pu (RB (NK (o_eq hr.units) (pix K (pv 0) LL) (L8 Rk) (L6 _)) (Pu (NK o_gt (pcb (Mq (K:=K)) T.z_len (pa1 (pv 0))) (pv 1) (L6 _)))))))))),?_⟩
 walk_at "s0"
 ext
 refine i_tB (i_kin ?_)
 ext
 refine⟨Sum.inr (S (ws.getD 0 [])),rfl,_,rfl,?_⟩
 rw[YN]
 unfold hasC at q
 cases hc:cntL (ws.getD 0 []) with
 | none =>
  rw[hc] at q
  ext
  exact q
 | some n =>
  rw[hc] at q
  ext
  refine i_kget ?_
  ext
  refine⟨Sum.inr (S (ws.getD 0 [])),.int (n:Int),rfl,by rw[YN,hc];rfl,?_⟩
  have DT:(L9 ws).length=ws.length:=LP ..
  ext
  rw[DT]
  have q:Q (.bl (decide (ws.length=n) || (decide (ws.getD 0 []=tPRS)&&decide (n < ws.length)))) H:=q
  by_cases hn:ws.length=n
  ·refine NP (by rw[hn]) ?_
   rw[B2 hn,U2] at q
   exact q
  ·refine ND (fun z=>hn (by injection z with z;omega)) ?_
   rw[B1 hn,Uq] at q
   ext
   by_cases hp:ws.getD 0 []=tPRS
   ·refine NP (by rw[hp]) ?_
    rw[B2 hp,R0] at q
    ext
    rw[DT]
    have e:decide ((n:Int) < (ws.length:Int))=decide (n < ws.length):=by rw[Oq];simp
    rw[e]
    exact q
   ·refine ND (fun z=>hp (S_inj.mp z)) ?_
    rw[B1 hp,U1] at q
    exact q
theorem gH (T:Txt mg tk)(F:Fun K "is_row" "is_row" s_is_row f fd)(CJ:Dn P w K mg base "has_its_count" 1 ["words"] spHas)(CI:Dn P w K mg base "is_number" 1 ["text","least","most"] YQ)(DD:Dn P w K mg base "is_name" 3 ["text"] YG):FnOk P w K mg base CX0 4 f fd ["words"] YR:=by
 refine F.okk ["words"] ?_
 rintro _ _ _ _ H _ _ _ hr ⟨a,ws,rfl,ha,C6,Dz,El,q⟩ nd
 have h0:=YT (show 0 < ws.length by omega)
 have EW:∀ i,(ws.getD i []).length<=1000:=fun i=>by
  rw[L4]
  cases e:ws[i]? with
  | none=>exact MR _
  | some x=>exact El x (Pa e)
 refine⟨_,(LM (Me (OO (NC (L0 CJ hr.LV rfl (pa1 (pv 0))) (fun _=>rfl)))
   (LQ (LY Ni))
   Mg)
  (LM (Me (L_ (o_eq hr.units) (pix K (pv 0) LL) (L8 Rk) (L6 _))
   (LQ (LY (L0 CI hr.LV rfl (LO (pix K (pv 0) LL) (LO LL (pa1 LL))))))
   Mg)
  (LM (Me (PW.pt (QD (L_ (o_eq hr.units) (pix K (pv 0) LL) (L8 TZ) (L6 _)) (Qz (OO (PW.pt (QD (NC (L0 CI hr.LV rfl (LO (pix K (pv 0) LL) (LO LL (pa1 LL)))) (fun _=>rfl)) (Qz (NC (L0 CI hr.LV rfl (LO (pix K (pv 0) LL) (LO LL (pa1 LL)))) (fun _=>rfl)))))))))
   (LQ (LY Ni))
   Mg)
  (LQ (LY (L0 DD hr.LV rfl (pa1 (pix K (pv 0) LL)))))))),?_⟩
 walk_at "s0"
 ext
 refine⟨a,ws,rfl,ha,C6,Dz,?_⟩
 unfold T6 at q
 cases hh:hasC ws with
 | false =>
  rw[hh] at q
  ext
  exact q H fun _ _ e=>e
 | true =>
  rw[hh] at q
  have Ca:2<=ws.length/\(ws.getD 0 []=tTON->4<=ws.length):=by
   unfold hasC at hh
   cases hc:cntL (ws.getD 0 []) with
   | none=>rw[hc] at hh;cases hh
   | some n =>
    rw[hc] at hh
    have hn:n<=ws.length:=by
     simp only[Bool.or_eq_true,Nn,decide_eq_true_eq] at hh
     omega
    have h2:2<=n:=by
     unfold cntL at hc
     repeat' split at hc
     all_goals first | (cases hc;done) | (injection hc with hc;omega)
    refine⟨by omega,fun e=>?_⟩
    unfold cntL at hc
    rw[B4 e] at hc
    injection hc with hc
    omega
  have h1:=YT (show 1 < ws.length by omega)
  ext
  by_cases hp:ws.getD 0 []=tPRS
  ·refine NP (by rw[hp]) ?_
   rw[B4 hp] at q
   ext
   refine⟨ws.getD 1 [],2,200,rfl,by decide,by decide,fun H2 s2=>q H2 s2⟩
  ·refine ND (fun z=>hp (S_inj.mp z)) ?_
   rw[B3 hp] at q
   ext
   by_cases ht:ws.getD 0 []=tTON
   ·have h2:=YT (show 2 < ws.length by have:=Ca.2 ht;omega)
    have h3:=YT (show 3 < ws.length by have:=Ca.2 ht;omega)
    rw[B4 ht] at q
    refine NP (by rw[ht]) ?_
    ext
    refine⟨ws.getD 2 [],1,20,rfl,by decide,by decide,fun H2 s2=>?_⟩
    have FP:=s2 _ _ ha
    cases F8:NW (ws.getD 2 []) 1 20 with
    | false =>
     rw[F8] at q
     ext
     exact q H2 s2
    | true =>
     rw[F8] at q
     ext
     refine⟨ws.getD 3 [],1,20,rfl,by decide,by decide,fun H3 s3=>?_⟩
     have Kb:=s3 _ _ FP
     cases Kc:NW (ws.getD 3 []) 1 20 with
     | false =>
      rw[Kc] at q
      ext
      exact q H3 (s2.trans s3)
     | true =>
      rw[Kc] at q
      ext
      exact⟨ws.getD 1 [],rfl,EW 1,fun H4 s4=>q H4 (s2.trans (s3.trans s4))⟩
   ·refine ND (fun z=>ht (S_inj.mp z)) ?_
    rw[B3 ht] at q
    ext
    exact⟨ws.getD 1 [],rfl,EW 1,fun H4 s4=>q H4 s4⟩
theorem gI (T:Txt mg tk)(F:Fun K "words_of_row" "words_of_row" s_words_of_row f fd)(DE:Dn P w K mg base "is_text" 1 ["row"] YO)(DM:Dn P w K mg base "is_row" 4 ["words"] YR):FnOk P w K mg base CX0 5 f fd ["row"] YS:=by
 refine F.okk ["row","words"] ?_
 rintro _ _ _ _ H _ _ _ hr ⟨ws,rfl,⟨h0,hl,hw,Je⟩,q⟩ nd
 obtain⟨Gz,He⟩:=RwOk.tx hw
 refine⟨_,(LM (Me (OO (NC (L0 DE hr.LV rfl (pa1 (pv 0))) (fun _=>rfl)))
   (LQ RC)
   Mg)
  (LM (pst 1 nd (M9 (K:=K) OJ PySem.F.slot_str_split PySem.F.type_str_split fb (pv 0) (pa1 (L8 Rj))))
  (LM (Me (OO (NC (L0 DM hr.LV rfl (pa1 (pv 1))) (fun _=>rfl)))
   (LQ RC)
   Mg)
  (LQ (LY (pv 1)))))),?_⟩
 walk_at "s0"
 ext
 refine⟨_,rfl,by omega,Gz,fun H2 s2=>?_⟩
 have EQ:spl 32 (MO 32 ws)=ws:=Tp h0 fun p hp z=>absurd ((hw p hp).2 32 z).1 (by decide)
 have FC:=OA.mpr h0
 have Jf:(ws.map S).map V.str=L9 ws:=by rw[MQ];rfl
 ext
 refine i_split rfl (szn (by rw[Mi];omega)) (szn (by rw[XR,EQ,LP];omega)) fun r B'=>?_
 rw[XR,EQ,Jf]
 obtain⟨H3,E9,s3,er⟩:=MS B' (.lst (L9 ws))
 rw[E9]
 ext
 refine⟨r,ws,rfl,er,FC,by omega,fun x hx=>by have:=(hw x hx).1;omega,fun H4 s4=>?_⟩
 rw[Je]
 ext
 exact q r H4 (s2.free B') (s4 _ _ er) ((s2.trans s3).trans s4)
noncomputable abbrev s_check_word:Au:=top 70
noncomputable abbrev s_shown_word:Au:=top 71
noncomputable abbrev s_with_pattern_more:Au:=top 73
noncomputable abbrev s_parted:Au:=top 72
def YU:Sp:=fun vs H Q _=>∃ l:List Nat,vs=[.str (S l)]/\l.length<=1000/\l≠[]/\(∀ c∈l,ML c=true)/\∀ H',Same H H'->Q .non H'
def YV (C:Ac):Sp:=fun vs H Q _=>∃(p kd ld:Ac) (pats:List Pat) (l:List Nat),vs=[.ref p,.str (S l)]/\BrkAt C H p kd ld pats/\PsOk pats/\l.length<=100/\l≠[]/\(∀ c∈l,ML c=true)/\∀ H',Same H H'->Q (.str (S (shw pats l))) H'
noncomputable def RO (c:Nat)(ls:List (List Nat)):List Nat:=if ls=[] then [110,111,110,101] else MO c ls
def YW:Sp:=fun vs H Q _=>∃(a:Ac) (ls:List (List Nat)) (c:Nat),vs=[.ref a,.str (S [c])]/\H a=some (.lst (ls.map fun l=>V.str (S l)))/\ls.length<=30001/\(∀ l∈ls,l.length<=310)/\Q (.str (S (RO c ls))) H
def spWPM (C:Ac):Sp:=fun vs H Q _=>∃(bp bkd bld:Ac) (pats:List Pat) (x:Pat),vs=[.ref bp,.str (S (ptxt x.1 x.2))]/\BrkAt C H bp bkd bld pats/\PsOk pats/\VP x.1 x.2 /\
 ∀(p kd ld:Ac) (H':Hp),BrkAt C H' p kd ld (pats++[x])->Same H H'->Q (.ref p) H'
theorem YX:Mm "none"=S [110,111,110,101]:=by decide +kernel
theorem YY (c:Nat):∀(w:List Nat) (r:List (List Nat)),MO c (w::r)=w++(r.map fun x=>c::x).flatten
 | w,[]=>by simp[MO]
 | w,v::r=>by
  have ih:=YY c v r
  have e:MO c (w::v::r)=w++c::MO c (v::r):=rfl
  rw[e,ih]
  simp
theorem YZ (c:Nat):∀(r:List (List Nat)) (B6:Array Nat),((r.map S).foldl (fun B6 p=>B6++(S [c]).cps++p.cps) B6).toList=B6.toList++(r.map fun x=>c::x).flatten
 | [],B6=>by simp
 | x::r,B6=>by
  rw[L',Uj,YZ c r]
  simp[S]
theorem Y0 (c:Nat)(ws:List (List Nat)):Qh (S [c]) (ws.map S)=S (MO c ws):=by
 unfold Qh PySem.Builtin.Str.glued
 cases ws with
 | nil=>rfl
 | cons w r =>
  rw[YY]
  simp only[L',au,ZB,List.headD_cons]
  have:=YZ c r (S w).cps
  unfold S at this ⊢
  congr 1
  apply Array.ext'
  exact this
theorem Rl {n:Nat}:∀(ls:List (List Nat)),(∀ x∈ls,x.length<=n)->((ls.map S).map (·.length)).sum<=ls.length * n
 | [],_=>by simp
 | x::ls,h=>by
  have ih:=Rl ls fun y hy=>h y (Mp _ hy)
  have:=h x Mn
  simp only[L',UY,Mr,U4,Mi]
  omega
theorem gJ (T:Txt mg tk)(F:Fun K "check_word" "check_word" s_check_word f fd)(Cc:Dn P w K mg base "is_letter" 1 ["sign"] ag):FnOk P w K mg base CX0 3 f fd ["text"] YU:=by
 refine F.okk ["text","place","sign"] ?_
 rintro _ _ _ _ H _ _ _ hr ⟨l,rfl,hl,h0,Du,q⟩ nd
 refine⟨_,(LM (Me (L_ (o_eq hr.units) (pv 0) (L8 Oh) (L6 _))
   (LQ RC)
   Mg)
  (LQ (MN MH rfl (V7 rfl T.z_enumerate (pv 0)) (Pw rfl (MU (pnm 1 nd) (MU (pnm 2 nd) OQ)))
   (LQ (Me (OO (NC (L0 Cc hr.LV rfl (pa1 (pv 2))) (fun _=>rfl)))
   (LQ RC)
   Mg))))),?_⟩
 walk_at "s0"
 ext
 refine ND (fun z=>h0 (S_inj.mp z)) ?_
 ext
 refine SD (fun i σ H2=>∃(v1 v2:Option V),σ=[some (.str (S l)),v1,v2]/\Same H H2)
  ⟨none,none,rfl,fun _ _ e=>e⟩ (fun _ _ _ _ _=>trivial) ?_ ?_
 ·rintro i v σ H2 T2 hv ⟨v1,v2,rfl,s2⟩ hT
  rw[QP] at hv
  have hi:i < l.length:=by
   have:=(MJ.mp hv).1
   simpa using this
  rw[Ma,LS hi] at hv
  cases hv
  refine PX LN rfl (M0 (MY (M0 (MY (Pl ?_)))))
  have s3:=s2.trans (LW hT (PrX T2 [.int (((0:Nat):Int)+(i:Int)),.str (S [l[i]])]))
  ext
  refine⟨l[i],rfl,?_⟩
  rw[Du _ (MD hi)]
  ext
  exact⟨_,_,rfl,s3⟩
 ·intro σ H2 hI9
  obtain⟨v1,v2,rfl,s2⟩:=hI9
  ext
  exact q H2 s2
theorem gK (T:Txt mg tk)(O2:Ow2 K mg cO2)(F:Fun K "shown_word" "shown_word" s_shown_word f fd)(C_:Dn P w K mg base "check_word" 3 ["text"] YU)(CK:Dm P w K mg base cO2 "shown" 5 ["self","word"] (YE cO2)):FnOk P w K mg base CX0 6 f fd ["breaker","text"] (YV cO2):=by
 refine F.okk ["breaker","text"] ?_
 rintro _ _ _ _ H _ _ _ hr ⟨p,kd,ld,pats,l,rfl,hB,hO,hl,h0,Du,q⟩ nd
 refine⟨_,(LM (OP (L0 C_ hr.LV rfl (pa1 (pv 1))))
  (LQ (LY (Nt (pv 0) O2.cl CK hr.LV (pa1 (pv 1)))))),?_⟩
 walk_at "s0"
 ext
 refine⟨l,rfl,by omega,h0,Du,fun H2 s2=>?_⟩
 have Ij:=hB.same s2
 obtain⟨dx0,ys0,e1,_⟩:=id Ij
 ext
 refine M_ ?_
 ext
 refine M' e1 rfl ?_
 ext
 exact⟨p,kd,ld,pats,l,rfl,Ij,hO,OA.mpr h0,hl,fun H3 s3=>q H3 (s2.trans s3)⟩
theorem gL (T:Txt mg tk)(F:Fun K "parted" "parted" s_parted f fd):FnOk P w K mg base CX0 1 f fd ["texts","sign"] YW:=by
 refine F.okk ["texts","sign"] ?_
 rintro _ _ _ _ H _ _ _ hr ⟨a,ls,c,rfl,ha,E7,Lh,q⟩ nd
 refine⟨_,(LQ (LY (R5 (L_ (o_eq hr.units) (pcb (Mq (K:=K)) T.z_len (pa1 (pv 0))) LL (L6 _)) (L8 YX) (M9 (K:=K) OJ Rt Ru RI (pv 1) (pa1 (pv 0)))))),?_⟩
 walk_at "s0"
 ext
 rw[LP]
 by_cases h0:ls=[]
 ·refine NP (by rw[h0];rfl) ?_
  ext
  have e:RO c ls=[110,111,110,101]:=by unfold RO;rw[B4 h0]
  rw[e] at q
  exact q
 ·refine ND (fun z=>h0 ?_) ?_
  ·injection z with z
   exact ah (by omega)
  ·have e:RO c ls=MO c ls:=by unfold RO;rw[B3 h0]
   rw[e] at q
   have e2:(ls.map fun l=>V.str (S l))=(ls.map S).map V.str:=by rw[MQ];rfl
   rw[e2] at ha
   have DT:=Rl ls Lh
   ext
   refine RK (Ot ha) ?_ ?_
   ·rw[LP,Mi]
    simp only[Mr,NO]
    omega
   ·rw[Y0]
    exact q
theorem jr (T:Txt mg tk)(O2:Ow2 K mg cO2)(F:Fun K "with_pattern_more" "with_pattern_more" s_with_pattern_more f fd)(CS:Dn P w K mg base "read_pattern" 3 ["text"] YM)(B9:Dn P w K mg base "with_patterns" 4 ["breaker","patterns"] (spWP cO2)):FnOk P w K mg base CX0 5 f fd ["breaker","text"] (spWPM cO2):=by
 refine F.okk ["breaker","text"] ?_
 rintro _ _ _ _ H _ _ _ hr ⟨bp,bkd,bld,pats,x,rfl,hB,hO,hx,q⟩ nd
 obtain⟨dx0,ys0,e1,e2,e3,DU⟩:=id hB
 refine⟨_,(LQ (LY (L0 B9 hr.LV rfl (LO (pv 0) (pa1 (LX Mb (Nj (pv 0) rfl) (MZ (pa1 (L0 CS hr.LV rfl (pa1 (pv 1))))))))))),?_⟩
 walk_at "s0"
 ext
 refine Na ?_
 ext
 refine Nb e1 O2.cl O2.n_patterns rfl ?_
 ext
 have CG:=hO.2
 have De:=DU.length
 rw[LP] at De
 refine⟨x,rfl,hx,fun v H2 hv s2=>?_⟩
 ext
 intro p1 Ef
 obtain⟨H3,E9,s3,ep1⟩:=MS Ef (.lst [v])
 rw[E9]
 have s03:=s2.trans s3
 ext
 refine OX (s03 _ _ e3) ep1 (szn (by rw[O_];omega)) fun p2 DA=>?_
 obtain⟨H4,E_,s4,ep2⟩:=MS DA (.lst (ys0++[v]))
 rw[E_]
 have s04:=s03.trans s4
 ext
 refine⟨bp,bkd,bld,p2,_,pats,pats++[x],rfl,hB.same s04,ep2,?_,fun p kd ld H5 _ _ _ Hx s5=>q p kd ld H5 Hx (s04.trans s5)⟩
 rw[L3]
 exact IsL.append (IsL.same s04 DU) ⟨Is.same (s3.trans s4) hv,trivial⟩
structure Ow4 (K:LR)(mg:Str->Option Ab)(cO:Ac):Prop where
 m_Desk:mg "Desk"=some (.ref cO)
 cl:Cls K cO
 n_tongues:NoAttr K cO "tongues"
noncomputable abbrev s_Desk_init:Au:=N3 (top 75) 0
noncomputable abbrev s_Desk_say:Au:=N3 (top 75) 1
noncomputable abbrev s_Desk_keep:Au:=N3 (top 75) 2
noncomputable abbrev s_Desk_pare:Au:=N3 (top 75) 3
noncomputable abbrev s_without_needless:Au:=top 74
noncomputable abbrev s_with_told:Au:=top 40
theorem sc_with_told:FnScope ["breaker","broken","known"] ["breaker","broken"] (Oa s_with_told):=by walk_at "f"
noncomputable abbrev s_read_broken:Au:=top 25
theorem sc_read_broken:FnScope ["text","word","gaps","letter_lacks","place","sign"] ["text"] (Oa s_read_broken):=by walk_at "f"
noncomputable abbrev s_pressed:Au:=top 61
theorem sc_pressed:FnScope ["tongues","text","width","lines","ahead","place","word","mark","gaps","begin","end"] ["tongues","text","width"] (Oa s_pressed):=by walk_at "f"
noncomputable def tOK:List Nat:=[111,107]
theorem t_ok:Mm "ok"=S tOK:=by decide +kernel
theorem t_bar:Mm "|"=S [124]:=by decide +kernel
def Dsk (CD C CT:Ac)(H:Hp)(d td:Ac)(o:Option (List Pat)):Prop:=∃(tp dd:Ac),H d=some (.ins CD dd [(("tongues":Str),.ref tp)])/\match o with
 | none=>TgAt CT H tp td []
 | some pats=>∃ p kd ld,TgAt CT H tp td (enK p)/\BrkAt C H p kd ld pats
theorem Dsk.same (s:Same H H') (h:Dsk CD C CT H d td o):Dsk CD C CT H' d td o:=by
 obtain⟨tp,dd,h1,h2⟩:=h
 refine⟨tp,dd,s _ _ h1,?_⟩
 cases o with
 | none=>exact h2.same s
 | some pats =>
  obtain⟨p,kd,ld,h3,h4⟩:=h2
  exact⟨p,kd,ld,h3.same s,h4.same s⟩
theorem Dsk.at (h:Dsk CD C CT H d td o):∃(tp dd:Ac) (q:Option Ac),H d=some (.ins CD dd [(("tongues":Str),.ref tp)])/\TgAt CT H tp td ((q.map enK).getD []):=by
 obtain⟨tp,dd,h1,h2⟩:=h
 cases o with
 | none=>exact⟨tp,dd,none,h1,h2⟩
 | some pats =>
  obtain⟨p,kd,ld,h3,h4⟩:=h2
  exact⟨tp,dd,some p,h1,h3⟩
def spDkI (CD C CT:Ac):Sp:=fun vs H Q _=>∃(p dx:Ac),vs=[.ref p]/\H p=some (.ins CD dx [])/\∀(td:Ac) (H':Hp),H td=none->Dsk CD C CT H' p td none->(∀ b o,b≠p->H b=some o->H' b=some o)->Q .non H'
def keeps (CD C CT:Ac)(H:Hp)(d td:Ac)(pats:List Pat)(v:V)(Q:VK):Prop:=∀ H',Dsk CD C CT H' d td (some pats)->(∀ b o,b≠td->H b=some o->H' b=some o)->Q v H'
theorem keeps.mono (h:keeps CD C CT H d td pats v Q) (s:Same H H1):keeps CD C CT H1 d td pats v Q:=fun H' h1 h2=>h H' h1 fun b o hb e=>h2 b o hb (s _ _ e)
def T8 (CD C CT:Ac):Sp:=fun vs H Q _=>∃(d td bp bkd bld:Ac) (o:Option (List Pat)) (pats:List Pat),vs=[.ref d,.str (S tEN),.ref bp]/\Dsk CD C CT H d td o/\BrkAt C H bp bkd bld pats/\keeps CD C CT H d td pats (.str (S tOK)) Q
def UT:Sp:=fun _ _ _ _=>False
def spWN (C:Ac):Sp:=fun vs H Q _=>∃(bp bkd bld:Ac) (pats:List Pat),vs=[.ref bp]/\BrkAt C H bp bkd bld pats/\PsOk pats /\
 ∀(p kd ld:Ac) (ks:List Nat) (H':Hp),Left pats (L5 pats.length) ks->NY ks (L5 pats.length)->BrkAt C H' p kd ld (sel pats ks)->Same H H'->Q (.ref p) H'
def pares (CD C CT:Ac)(H:Hp)(d td:Ac)(pats:List Pat)(Q:VK):Prop:=∀ ks,Left pats (L5 pats.length) ks->NY ks (L5 pats.length)->keeps CD C CT H d td (sel pats ks) (.str (S (dig (pats.length - ks.length)))) Q
def Y1 (CD C CT:Ac):Sp:=fun vs H Q _=>∃(d td bp bkd bld:Ac) (o:Option (List Pat)) (pats:List Pat),vs=[.ref d,.str (S tEN),.ref bp]/\Dsk CD C CT H d td o/\BrkAt C H bp bkd bld pats/\PsOk pats/\pares CD C CT H d td pats Q
inductive SayR (CD C CT:Ac) (H:Hp) (d td:Ac) (Q:VK):Option (List Pat)->List (List Nat)->Prop
 | ton:keeps CD C CT H d td [] (.str (S tOK)) Q->SayR CD C CT H d td Q none [tTON,tEN,[49],[49]]
 | pat {pats:List Pat}{x:Pat}:PsOk pats->VP x.1 x.2->keeps CD C CT H d td (pats++[x]) (.str (S tOK)) Q->SayR CD C CT H d td Q (some pats) [tPAT,tEN,ptxt x.1 x.2]
 | brk {pats:List Pat}{w:List Nat}:PsOk pats->w≠[]->w.length<=50->(∀ c∈w,ML c=true)->(∀ H',Same H H'->Q (.str (S (shw pats w))) H')->SayR CD C CT H d td Q (some pats) [tBRK,tEN,w]
 | pts {pats:List Pat}:PsOk pats->(∀ H',Same H H'->Q (.str (S (RO 32 (pats.map fun x=>ptxt x.1 x.2)))) H')->SayR CD C CT H d td Q (some pats) [tPTS,tEN]
 | par {pats:List Pat}:PsOk pats->pares CD C CT H d td pats Q->SayR CD C CT H d td Q (some pats) [tPAR,tEN]
def T9 (CD C CT:Ac):Sp:=fun vs H Q _=>∃(d td:Ac) (o:Option (List Pat)) (ws:List (List Nat)),vs=[.ref d,.str (S (MO 32 ws))]/\Dsk CD C CT H d td o/\SayR CD C CT H d td Q o ws
theorem Y2 (h:n<=9):∀ c∈fig n,32 < c/\c<=126/\c≠37:=fun c hc=>by
 unfold fig at hc
 split at hc
 ·rw[Ml.mp hc];omega
 ·cases hc
theorem Y3 (h:ML c=true):32 < c/\c<=126/\c≠37:=by
 have:=of_decide_eq_true h
 omega
theorem To (s:List Nat)(ns:List Int):∀ i,(pre s ns i).length<=2 * i
 | 0=>LZ _
 | i+1=>by
  have:=To s ns i
  have h2:(fig (ns.getD i 0)).length<=1:=by unfold fig;split <;> simp
  simp only[pre,Md,O_]
  omega
theorem Rm {y:Pat}(h:VP y.1 y.2):(ptxt y.1 y.2).length<=50/\∀ c∈ptxt y.1 y.2,32 < c/\c<=126/\c≠37:=by
 have hn:=h.nlen
 have hp:∀ i,i<=y.1.length->∀ c∈pre y.1 y.2 i,32 < c/\c<=126/\c≠37:=fun i=>by
  induction i with
  | zero=>intro _ c hc;cases hc
  | succ i ih =>
   intro hi c hc
   simp only[pre] at hc
   rcases L7.mp hc with hc | hc
   ·exact ih (by omega) c hc
   ·rcases L7.mp hc with hc | hc
    ·exact Y2 (h.num i (by omega)).2 c hc
    ·rw[Ml.mp hc]
     rcases h.let_ i (by omega) with h1 | h1
     ·rw[h1.1];decide
     ·exact Y3 h1
 unfold ptxt
 refine⟨?_,fun c hc=>?_⟩
 ·have:=To y.1 y.2 y.1.length
  have h2:(fig (y.2.getD y.1.length 0)).length<=1:=by unfold fig;split <;> simp
  have:=h.len
  rw[Md];omega
 ·rcases L7.mp hc with hc | hc
  ·exact hp _ (LZ _) c hc
  ·exact Y2 (h.num _ (by omega)).2 c hc
theorem rw3 {t w:List Nat}(ht:t=tPAT∨t=tBRK)(h2:w.length<=50/\∀ c∈w,32 < c/\c<=126/\c≠37):RwOk [t,tEN,w]:=by
 refine⟨by simp,by show 3<=41;decide,fun y hy=>?_,by rcases ht with rfl | rfl <;> rfl⟩
 rcases Mc.mp hy with rfl | hy
 ·rcases ht with rfl | rfl <;> decide
 ·rcases Mc.mp hy with rfl | hy
  ·decide
  ·rw[Ml.mp hy];exact h2
theorem SayR.rw (h:SayR CD C CT H d td Q o ws):RwOk ws:=by
 cases h with
 | ton _=>exact⟨by simp,by decide,by decide,by decide +kernel⟩
 | pat _ h _=>exact rw3 (.inl rfl) (Rm h)
 | brk _ _ h1 h2 _=>exact rw3 (.inr rfl) ⟨h1,fun c hc=>Y3 (h2 c hc)⟩
 | pts _ _=>exact⟨by simp,by decide,by decide,by decide +kernel⟩
 | par _ _=>exact⟨by simp,by decide,by decide,by decide +kernel⟩
section
variable {P:Ag}{w:Ak}{K:LR}{mg:Str->Option Ab}{base:Ao}{f:Ac}{fd:AB}{tk:Nat->Tok}{cO2 cO3 cO4:Ac}
theorem gM (F:Fun K "pressed" "pressed" s_pressed f fd):FnOk P w K mg base CX0 1 f fd ["tongues","text","width"] UT:=by
 refine F.ok sc_pressed (fun vs H Q E h=>h.elim) (fun cdv A outer s H vs Q E hr h=>h.elim)
theorem gN (F:Fun K "with_told" "with_told" s_with_told f fd):FnOk P w K mg base CX0 1 f fd ["breaker","broken"] UT:=by
 refine F.ok sc_with_told (fun vs H Q E h=>h.elim) (fun cdv A outer s H vs Q E hr h=>h.elim)
theorem gO (F:Fun K "read_broken" "read_broken" s_read_broken f fd):FnOk P w K mg base CX0 1 f fd ["text"] UT:=by
 refine F.ok sc_read_broken (fun vs H Q E h=>h.elim) (fun cdv A outer s H vs Q E hr h=>h.elim)
theorem gP (T:Txt mg tk)(O3:Ow3 K mg cO3)(O4:Ow4 K mg cO4)(F:Fun K "__init__" "Desk.__init__" s_Desk_init f fd)(CU:Dk P w K mg base cO3 1 ["self"] (spTgI cO3)):FnOk P w K mg base CX0 3 f fd ["self"] (spDkI cO4 cO2 cO3):=by
 refine F.okk ["self"] ?_
 rintro _ _ _ _ H _ _ _ hr ⟨p,dx,rfl,hp,q⟩ nd
 refine⟨_,(LQ (QF (pv 0) (XS CU hr.LV rfl O3.m_Tongues) rfl)),?_⟩
 walk_at "s0"
 ext
 refine QW ?_
 ext
 refine P_ ?_
 ext
 intro x dx1 hx FS C5
 obtain⟨H1,E8,s1,e1⟩:=Ri (C:=cO3) hx FS
 rw[E8]
 refine⟨x,dx1,rfl,e1,fun td H2 EO hT off=>⟨rfl,?_⟩⟩
 have px:p≠x:=Mo hp hx
 have DA:=off _ _ px (s1 _ _ hp)
 ext
 refine QX DA O4.cl O4.n_tongues (by decide) ?_
 ext
 obtain⟨dxt,t1,t2⟩:=hT
 have tpn:td≠p:=fun z=>by rw[z,s1 _ _ hp] at EO;cases EO
 exact q td _ (s1.free EO) ⟨x,dx,LN,dxt,by rw[LU (N2 px)];exact t1,by rw[LU tpn];exact t2⟩ fun b o hb e=>by
  rw[LU hb];exact off _ _ (Mo e hx) (s1 _ _ e)
theorem gQ (T:Txt mg tk)(O3:Ow3 K mg cO3)(O4:Ow4 K mg cO4)(F:Fun K "keep" "Desk.keep" s_Desk_keep f fd)(C0:Dm P w K mg base cO3 "put" 5 ["self","name","breaker"] (spPut cO2 cO3)):FnOk P w K mg base CX0 6 f fd ["self","name","breaker"] (T8 cO4 cO2 cO3):=by
 refine F.okk ["self","name","breaker"] ?_
 rintro _ _ _ _ H _ _ _ hr ⟨d,td,bp,bkd,bld,o,pats,rfl,hD,hB,q⟩ nd
 obtain⟨tp,dd,o,DO,hT⟩:=hD.at
 obtain⟨dxt,t1,t2⟩:=id hT
 refine⟨_,(LM (OP (Nt (Nj (pv 0) rfl) O3.cl C0 hr.LV (LO (pv 1) (pa1 (pv 2)))))
  (LQ (LY (L8 t_ok)))),?_⟩
 walk_at "s0"
 ext
 refine M_ ?_
 ext
 refine Na ?_
 ext
 refine Nb DO O4.cl O4.n_tongues rfl ?_
 refine M' t1 rfl ?_
 ext
 refine⟨tp,td,bp,bkd,bld,o,pats,rfl,hT,hB,fun p kd ld H1 GQ Gm off=>?_⟩
 ext
 exact q H1 ⟨tp,dd,off _ _ (Qi DO t2 (by intro z;cases z)) DO,p,kd,ld,Gm,GQ⟩ off
theorem js (T:Txt mg tk)(O2:Ow2 K mg cO2)(F:Fun K "without_needless" "without_needless" s_without_needless f fd)(Dp:Dn P w K mg base "pared" 8 ["patterns"] TR)(B9:Dn P w K mg base "with_patterns" 4 ["breaker","patterns"] (spWP cO2)):FnOk P w K mg base CX0 9 f fd ["breaker"] (spWN cO2):=by
 refine F.okk ["breaker"] ?_
 rintro _ _ _ s H _ _ _ hr ⟨bp,bkd,bld,pats,rfl,hB,hO,q⟩ nd
 obtain⟨dx0,ys0,e1,e2,e3,DU⟩:=id hB
 refine⟨_,(LQ (LY (L0 B9 hr.LV rfl (LO (pv 0) (pa1 (Nl ["breaker","number"] [some 0,none] rfl (by kernel_rfl) rfl (Mx (K:=K) (L0 Dp hr.LV rfl (pa1 (Nj (pv 0) rfl)))) (fun _ _ _ _=>(ME (i:=1) (show (["breaker","number"]:List Str).Nodup by decide +kernel) rfl (Or.inl rfl) (Or.inr rfl))) (fun _ _ _ _=>Nq) (fun _ _ _ _=>(pix K (YC (K:=K) rfl (pv 0) rfl) (pv 1))))))))),?_⟩
 walk_at "s0"
 have CG:=hO.2
 have De:=DU.length
 rw[LP] at De
 ext
 refine Na ?_
 ext
 refine Nb e1 O2.cl O2.n_patterns rfl ?_
 ext
 refine⟨bld,ys0,pats,rfl,e3,DU,hO.sm,fun r ks H1 B' hL hS er s1=>?_⟩
 have Fs:=US hS
 refine Oe (SqL.of er) ?_
 intro r2 Ed
 refine Pk (K:=K) (xs:=(MP ks).map V.int) (fun j B6 σ H'=>∃ x,σ=[some (.ref bp),x]/\B6=(ks.take j).map (fun k=>ys0.getD k .non)/\H' r2=some (.lst B6)/\Same H1 H') (fun j B6 σ H' _ hI9=>by rcases hI9 with ⟨_,_,_,_,s⟩;exact SqL.of (s _ _ er))
  ⟨none,rfl,rfl,LN,LW Ed _⟩ (fun j B6 σ H' hI9=>by rcases hI9 with ⟨_,_,e,e2,_⟩;exact⟨e2,by rw[e,LP,Mt];omega⟩) (szn (by rw[LP,Oy];omega)) ?_ ?_
 ·intro j B6 σ H3 hj hI9
  obtain⟨x,rfl,rfl,e4,s3⟩:=hI9
  rw[LP,Oy] at hj
  rw[TM (LS hj)]
  have Cm:=RN hS _ (MD hj)
  rw[MA,LS hj]
  generalize ks[j]=k at Cm ⊢
  have Fn:atI ys0 (k:Int)=some (ys0.getD k .non):=Og (by omega) (by rw[show ((k:Int)).toNat=k by omega,L4,LS (show k < ys0.length by omega)];rfl)
  ext
  refine Na ?_
  ext
  refine Nb (s3 _ _ (s1 _ _ e1)) O2.cl O2.n_patterns rfl ?_
  ext
  refine OY (Nd (s3 _ _ (s1 _ _ e3))) Fn ?_
  refine⟨e4,_,rfl,?_,LN,MW Ed s3⟩
  rw[L3];rfl
 ·intro B6 σ H3 hI9
  obtain⟨x,rfl,rfl,e4,s3⟩:=hI9
  rw[LP,Oy,Mz] at e4
  have s13:=s1.trans s3
  ext
  exact⟨bp,bkd,bld,r2,_,pats,sel pats ks,rfl,hB.same s13,e4,Re (IsL.same s13 DU) (RN hS),fun p kd ld H5 _ _ _ Hx s5=>q p kd ld ks H5 hL hS Hx (s13.trans s5)⟩
theorem gR (T:Txt mg tk)(O2:Ow2 K mg cO2)(O4:Ow4 K mg cO4)(F:Fun K "pare" "Desk.pare" s_Desk_pare f fd)(Cr:Dn P w K mg base "without_needless" 9 ["breaker"] (spWN cO2))(Ch:Dm P w K mg base cO4 "keep" 6 ["self","name","breaker"] (T8 cO4 cO2 cO3)):FnOk P w K mg base CX0 10 f fd ["self","name","breaker"] (Y1 cO4 cO2 cO3):=by
 refine F.okk ["self","name","breaker","left"] ?_
 rintro _ _ _ _ H _ _ _ hr ⟨d,td,bp,bkd,bld,o,pats,rfl,hD,hB,hO,q⟩ nd
 refine⟨_,(LM (pst 3 nd (L0 Cr hr.LV rfl (pa1 (pv 2))))
  (LM (OP (Nt (pv 0) O4.cl Ch hr.LV (LO (pv 1) (pa1 (pv 3)))))
  (LQ (LY (pct PQ T.z_str (pa1 (LX Pj (pcb (Mq (K:=K)) T.z_len (pa1 (Nj (pv 2) rfl))) (pcb (Mq (K:=K)) T.z_len (pa1 (Nj (pv 3) rfl)))))))))),?_⟩
 walk_at "s0"
 have CG:=hO.2
 ext
 refine⟨bp,bkd,bld,pats,rfl,hB,hO,fun p kd ld ks H1 hL hS GQ s1=>?_⟩
 have Fs:=US hS
 have D7:=hD.same s1
 obtain⟨tp,dd,o1,DO,⟨dxt,t1,t2⟩⟩:=D7.at
 obtain⟨dx0,ys0,e1,e2,e3,DU⟩:=hB.same s1
 obtain⟨dx1,ys1,f1,f2,f3,Hc⟩:=id GQ
 have Hz:=DU.length
 have GA:=Hc.length
 rw[LP] at Hz GA
 rw[Rc] at GA
 ext
 refine M_ ?_
 ext
 refine M' DO rfl ?_
 ext
 refine⟨d,td,p,kd,ld,o,sel pats ks,rfl,D7,GQ,fun H2 Gf off=>?_⟩
 have up:∀{b o'},H1 b=some o'->(∀ B7,o'≠.dK B7)->H2 b=some o':=fun{b o'} e h=>off b o' (fun z=>by rw[z,t2] at e;injection e with e;exact h _ e.symm) e
 have g1:=up e1 fun _ z=>nomatch z
 have g3:=up e3 fun _ z=>nomatch z
 have k1:=up f1 fun _ z=>nomatch z
 have k3:=up f3 fun _ z=>nomatch z
 ext
 refine Na ?_
 ext
 refine Nb g1 O2.cl O2.n_patterns rfl ?_
 ext
 refine Na ?_
 ext
 refine Nb k1 O2.cl O2.n_patterns rfl ?_
 ext
 rw[Hz,GA,show (pats.length:Int) - (ks.length:Int)=((pats.length - ks.length:Nat):Int) by omega]
 refine⟨T7 _ (by omega),?_⟩
 have:=q ks hL hS H2 Gf fun b o hb e=>off b o hb (s1 _ _ e)
 rw[T5] at this
 exact this
theorem gS (T:Txt mg tk)(O2:Ow2 K mg cO2)(O3:Ow3 K mg cO3)(O4:Ow4 K mg cO4)(F:Fun K "say" "Desk.say" s_Desk_say f fd)(CV:Dn P w K mg base "words_of_row" 5 ["row"] YS)(DF:Dn P w K mg base "pressed" 1 ["tongues","text","width"] UT)(Dy:Dn P w K mg base "parted" 1 ["texts","sign"] YW)(Cg:Dk P w K mg base cO2 2 ["self","patterns","told","head","tail"] (TV cO2))(Ck:Dm P w K mg base cO3 "breaker_of" 3 ["self","name"] (spBof cO3))(Co:Dn P w K mg base "with_pattern_more" 5 ["breaker","text"] (spWPM cO2))(Dh:Dn P w K mg base "with_told" 1 ["breaker","broken"] UT)(C1:Dn P w K mg base "read_broken" 1 ["text"] UT)(Da:Dn P w K mg base "shown_word" 6 ["breaker","text"] (YV cO2))(CL:Dn P w K mg base "shown_pattern" 2 ["pattern"] YJ)(Ch:Dm P w K mg base cO4 "keep" 6 ["self","name","breaker"] (T8 cO4 cO2 cO3))(Di:Dm P w K mg base cO4 "pare" 10 ["self","name","breaker"] (Y1 cO4 cO2 cO3)) :
  FnOk P w K mg base CX0 11 f fd ["self","row"] (T9 cO4 cO2 cO3):=by
 refine F.okk ["self","row","words","name","breaker"] ?_
 rintro _ _ _ s H _ _ _ hr ⟨d,td,o,ws,rfl,hD,hR⟩ nd
 refine⟨_,(LM (pst 2 nd (L0 CV hr.LV rfl (pa1 (pv 1))))
  (LM (Me (L_ (o_eq hr.units) (pix K (pv 2) LL) (L8 Rk) (L6 _))
   (LQ (LY (L0 Dy hr.LV rfl (LO (L0 DF hr.LV rfl (LO (Nj (pv 0) rfl) (LO (Nk (Nm (K:=K)) (pv 2) (MV LL) NL) (pa1 (pct QV T.z_int (pa1 (pix K (pv 2) LL))))))) (pa1 (L8 t_bar))))))
   Mg)
  (LM (pst 3 nd (pix K (pv 2) LL))
  (LM (Me (L_ (o_eq hr.units) (pix K (pv 2) LL) (L8 TZ) (L6 _))
   (LQ (LY (Nt (pv 0) O4.cl Ch hr.LV (LO (pv 3) (pa1 (S9 Cg hr.LV rfl O2.m_Breaker (LO (MZ Ph) (LO (MZ Ph) (LO (pct QV T.z_int (pa1 (pix K (pv 2) LL))) (pa1 (pct QV T.z_int (pa1 (pix K (pv 2) LL)))))))))))))
   Mg)
  (LM (pst 4 nd (Nt (Nj (pv 0) rfl) O3.cl Ck hr.LV (pa1 (pv 3))))
  (LM (Me (L_ (o_eq hr.units) (pix K (pv 2) LL) (L8 t_pat) (L6 _))
   (LQ (LY (Nt (pv 0) O4.cl Ch hr.LV (LO (pv 3) (pa1 (L0 Co hr.LV rfl (LO (pv 4) (pa1 (pix K (pv 2) LL)))))))))
   Mg)
  (LM (Me (L_ (o_eq hr.units) (pix K (pv 2) LL) (L8 t_tol) (L6 _))
   (LQ (LY (Nt (pv 0) O4.cl Ch hr.LV (LO (pv 3) (pa1 (L0 Dh hr.LV rfl (LO (pv 4) (pa1 (L0 C1 hr.LV rfl (pa1 (pix K (pv 2) LL)))))))))))
   Mg)
  (LM (Me (L_ (o_eq hr.units) (pix K (pv 2) LL) (L8 t_brk) (L6 _))
   (LQ (LY (L0 Da hr.LV rfl (LO (pv 4) (pa1 (pix K (pv 2) LL))))))
   Mg)
  (LM (Me (L_ (o_eq hr.units) (pix K (pv 2) LL) (L8 t_pts) (L6 _))
   (LQ (LY (L0 Dy hr.LV rfl (LO (Nl ["pattern"] [none] rfl (by kernel_rfl) rfl (Mx (K:=K) (Nj (pv 4) rfl)) (fun _ _ _ _=>(ME (i:=0) (show (["pattern"]:List Str).Nodup by decide +kernel) rfl (Or.inl rfl) (Or.inr rfl))) (fun _ _ _ _=>Nq) (fun _ _ _ _=>(L0 CL hr.LV rfl (pa1 (pv 0))))) (pa1 (L8 Rj))))))
   Mg)
  (LQ (LY (Nt (pv 0) O4.cl Di hr.LV (LO (pv 3) (pa1 (pv 4))))))))))))))),?_⟩
 walk_at "s0"
 ext
 refine⟨ws,rfl,hR.rw,fun r H1 B' er s1=>?_⟩
 have D7:=hD.same s1
 cases hR with
 | ton q =>
  have er:H1 r=some (.lst [.str (S tTON),.str (S tEN),.str (S [49]),.str (S [49])]):=er
  ext
  obtain⟨tp,dd,o1,DO,hT⟩:=D7.at
  ext
  refine M_ ?_
  ext
  refine M' DO rfl ?_
  ext
  refine P_ ?_
  ext
  intro la Hi
  obtain⟨H2,HA,s2,ela⟩:=MS Hi (.lst [])
  rw[HA]
  ext
  intro lb J4
  obtain⟨H3,E9,s3,elb⟩:=MS J4 (.lst [])
  rw[E9]
  have s23:=s2.trans s3
  have er3:=s23 _ _ er
  ext
  have hi:bj (S [49])=some 1:=by decide +kernel
  refine⟨1,hi,by decide,?_⟩
  ext
  refine⟨1,hi,by decide,?_⟩
  ext
  intro xo dx hx FS C5
  obtain⟨H4,E_,s4,e4⟩:=Ri (C:=cO2) hx FS
  rw[E_]
  refine⟨xo,la,lb,dx,[],[],rfl,e4,s4 _ _ (s3 _ _ ela),s4 _ _ elb,by simp only[MT,L2.IsL],fun kd ld H5 Fv EH hB off=>⟨rfl,?_⟩⟩
  have s05:=s1.trans (s23.trans fun b o e=>off b o (Mo e hx) (s4 _ _ e))
  ext
  exact⟨d,td,xo,kd,ld,none,[],rfl,hD.same s05,hB,q.mono s05⟩
 | pat hO hx q =>
  rename_i pats x
  have er:H1 r=some (.lst [.str (S tPAT),.str (S tEN),.str (S (ptxt x.1 x.2))]):=er
  ext
  obtain⟨tp,dd,DO,bp,bkd,bld,hT,hB⟩:=id D7
  obtain⟨dxt,t1,t2⟩:=id hT
  obtain⟨dx0,ys0,b1,b2,b4,b5⟩:=id hB
  ext
  refine M_ ?_
  ext
  refine Na ?_
  ext
  refine Nb DO O4.cl O4.n_tongues rfl ?_
  refine M' t1 rfl ?_
  ext
  refine⟨tp,td,bp,rfl,hT,?_⟩
  ext
  ext
  refine M_ ?_
  ext
  refine M' DO rfl ?_
  ext
  refine⟨bp,bkd,bld,pats,x,rfl,hB,hO,hx,fun p kd ld H2 Ij s2=>?_⟩
  have s02:=s1.trans s2
  ext
  exact⟨d,td,p,kd,ld,some pats,pats++[x],rfl,hD.same s02,Ij,q.mono s02⟩
 | brk hO h0 hl Du q =>
  rename_i pats w'
  have er:H1 r=some (.lst [.str (S tBRK),.str (S tEN),.str (S w')]):=er
  ext
  obtain⟨tp,dd,DO,bp,bkd,bld,hT,hB⟩:=id D7
  obtain⟨dxt,t1,t2⟩:=id hT
  obtain⟨dx0,ys0,b1,b2,b4,b5⟩:=id hB
  ext
  refine M_ ?_
  ext
  refine Na ?_
  ext
  refine Nb DO O4.cl O4.n_tongues rfl ?_
  refine M' t1 rfl ?_
  ext
  refine⟨tp,td,bp,rfl,hT,?_⟩
  ext
  ext
  exact⟨bp,bkd,bld,pats,w',rfl,hB,hO,by omega,h0,Du,fun H2 s2=>q H2 (s1.trans s2)⟩
 | pts hO q =>
  rename_i pats
  have er:H1 r=some (.lst [.str (S tPTS),.str (S tEN)]):=er
  ext
  obtain⟨tp,dd,DO,bp,bkd,bld,hT,hB⟩:=id D7
  obtain⟨dxt,t1,t2⟩:=id hT
  obtain⟨dx0,ys0,b1,b2,b4,b5⟩:=id hB
  ext
  refine M_ ?_
  ext
  refine Na ?_
  ext
  refine Nb DO O4.cl O4.n_tongues rfl ?_
  refine M' t1 rfl ?_
  ext
  refine⟨tp,td,bp,rfl,hT,?_⟩
  ext
  ext
  refine Na ?_
  ext
  refine Nb b1 O2.cl O2.n_patterns rfl ?_
  refine Oe (SqL.of b4) ?_
  intro r2 Ed
  have De:=b5.length
  rw[LP] at De
  have hpn:=hO.2
  refine Pk (K:=K) (xs:=ys0) (fun i B6 σ H'=>∃ x,σ=[x]/\B6=L9 ((pats.take i).map fun x=>ptxt x.1 x.2)/\H' r2=some (.lst B6)/\Same H1 H') (fun i B6 σ H' _ hI9=>by rcases hI9 with ⟨_,_,_,_,s⟩;exact SqL.of (s _ _ b4))
   ⟨none,rfl,rfl,LN,LW Ed _⟩ (fun i B6 σ H' hI9=>by rcases hI9 with ⟨_,_,e,e2,_⟩;exact⟨e2,by rw[e,L9,LP,LP,Mt];omega⟩) (szn (by omega)) ?_ ?_
  ·intro i B6 σ H2 hi hI9
   obtain⟨x,rfl,rfl,e2,s2⟩:=hI9
   rw[De] at hi
   obtain⟨y,dy,hy,Df,hI⟩:=IsL.get (IsL.same s2 b5) (show i < (pats.map patD).length by simpa using hi)
   rw[Ma,LS hi] at Df
   cases Df
   rw[L4,hy,Ps,MA,LS hi]
   ext
   refine⟨y,pats[i],rfl,hI,(hO.1 _ (MD hi)).1,fun H3 s3=>?_⟩
   refine⟨s3 _ _ e2,_,rfl,?_,LN,MW Ed (s2.trans s3)⟩
   rw[L9,L9,L3,L3];rfl
  ·intro B6 σ H2 hI9
   obtain⟨x,rfl,rfl,e2,s2⟩:=hI9
   rw[De,Mz] at e2
   ext
   refine⟨r2,pats.map (fun x:Pat=>ptxt x.1 x.2),32,rfl,e2,by rw[LP];omega,fun l hl=>?_,q H2 (s1.trans s2)⟩
   obtain⟨y,hy,rfl⟩:=MC.mp hl
   have:=(Rm (hO.1 y hy).1).1
   omega
 | par hO q =>
  rename_i pats
  have er:H1 r=some (.lst [.str (S tPAR),.str (S tEN)]):=er
  ext
  obtain⟨tp,dd,DO,bp,bkd,bld,hT,hB⟩:=id D7
  obtain⟨dxt,t1,t2⟩:=id hT
  obtain⟨dx0,ys0,b1,b2,b4,b5⟩:=id hB
  ext
  refine M_ ?_
  ext
  refine Na ?_
  ext
  refine Nb DO O4.cl O4.n_tongues rfl ?_
  refine M' t1 rfl ?_
  ext
  refine⟨tp,td,bp,rfl,hT,?_⟩
  ext
  refine M_ ?_
  ext
  refine M' DO rfl ?_
  ext
  exact⟨d,td,bp,bkd,bld,some pats,pats,rfl,D7,hB,hO,fun ks h1 h2=>(q ks h1 h2).mono s1⟩
end
noncomputable abbrev s_law_letters:Au:=top 79
noncomputable abbrev s_law_word:Au:=top 80
theorem gT (T:Txt mg tk)(F:Fun K "_law_letters" "_law_letters" s_law_letters f fd)(B8:Dn P w K mg base "_law_next" 1 ["_law_feed_here","_law_many"] O1):FnOk P w K mg base CX0 2 f fd ["_law_feed_here"] Wi:=by
 refine F.okk ["_law_feed_here","_law_every","_law_at"] ?_
 rintro _ _ _ _ H _ _ _ hr ⟨p,n,rfl,hf,hn,q⟩ nd
 refine⟨_,(LM (pst 1 nd (L8 QQ))
  (LM (Me (L_ (o_eq hr.units) (L0 B8 hr.LV rfl (LO (pv 0) (pa1 LL))) LL (L6 _))
   (LQ (LY (pv 1)))
   Mg)
  (LM (pst 2 nd (L0 B8 hr.LV rfl (LO (pv 0) (pa1 LL))))
  (LQ (LY (Nk (Nm (K:=K)) (pv 1) (MV (pv 2)) (MV (LX Mb (LX Mb (pv 2) LL) (L0 B8 hr.LV rfl (LO (pv 0) (pa1 LL))))))))))),?_⟩
 walk_at "s0"
 ext
 refine⟨p,8,n,rfl,hf,by omega,by decide,by decide,fun d H1 DO Df DN o1=>?_⟩
 ext
 refine iteD (fun c=>?_) (fun c=>?_)
 ·ext
  exact q LETL H1 Wo (by decide) (by decide) (DN.mono (by omega)) o1
 ·ext
  refine⟨p,23,n+1,rfl,DN,by omega,by decide,by decide,fun at_ H2 EZ E5 DS o2=>?_⟩
  ext
  refine⟨p,3,n+1+1,rfl,DS,by omega,by decide,by decide,fun d3 H3 EY Eb DP o3=>?_⟩
  ext
  rw[Wj]
  have hl:LETL.length=26:=rfl
  have hc:=Wm LETL (some at_) (some (at_+2+d3))
  rw[hl] at hc
  have e1:sx 26 0 (some at_)=at_.toNat:=by simp only[sx];rw[B3 (by omega)];omega
  have e2:sx 26 26 (some (at_+2+d3))=min (at_+2+d3).toNat 26:=by simp only[sx];rw[B3 (by omega)]
  rw[e1,e2] at hc
  exact q _ H3 (Low_cut Wo _ _) (by omega) (by omega) (DP.mono (by omega)) ((o1.trans o2).trans o3)
theorem gU (T:Txt mg tk)(F:Fun K "_law_word" "_law_word" s_law_word f fd)(B8:Dn P w K mg base "_law_next" 1 ["_law_feed_here","_law_many"] O1):FnOk P w K mg base CX0 2 f fd ["_law_feed_here","_law_letters_here","_law_most_here"] QO:=by
 refine F.okk ["_law_feed_here","_law_letters_here","_law_most_here"] ?_
 rintro _ _ _ _ H _ _ _ hr ⟨p,n,l,m,rfl,hf,hn,hl,D5,DH,G_,Ic,q⟩ nd
 refine⟨_,(LQ (LY (M9 (K:=K) OJ Rt Ru RI (L8 Oh) (pa1 (Nl ["_law_letters_here","_law_feed_here","_law_k"] [some 1,some 0,none] rfl (by kernel_rfl) rfl (Pg rfl T.z_range (pa1 (LX Mb LL (L0 B8 hr.LV rfl (LO (pv 0) (pa1 (pv 2))))))) (fun _ _ _ _=>(ME (i:=2) (show (["_law_letters_here","_law_feed_here","_law_k"]:List Str).Nodup by decide +kernel) rfl (Or.inl rfl) (Or.inr rfl))) (fun _ _ _ _=>Nq) (fun _ _ _ _=>(pix K (pv 0) (L0 B8 hr.LV rfl (LO (pv 1) (pa1 (pcb (Mq (K:=K)) T.z_len (pa1 (pv 0))))))))))))),?_⟩
 walk_at "s0"
 ext
 refine⟨p,m,n,rfl,hf,by omega,by omega,by omega,fun d H1 DO Df DN o1=>?_⟩
 ext
 intro r B'
 have k1:Kept p H (upd H1 r (.lst [])):=o1.kept.new B' _
 have pr:p≠r:=by
  obtain⟨o,e⟩:=DN.some
  exact Mo e B'
 refine Sz (fun i B6 σ H'=>∃(v:Option V) (ws:List Nat),σ=[some (.str (S l)),some (.ref p),v]/\B6=(ws.map fun c=>V.str (S [c]))/\ws.length=i/\Low ws/\FeedAt H' p (n+1+i)/\Kept p H H'/\H' r=some (.lst B6))
  ⟨none,[],rfl,rfl,rfl,(fun c hc=>nomatch hc),DN.new B',k1,LN⟩ (fun i B6 σ H' hI9=>by rcases hI9 with ⟨_,ws,_,e,e1,_,_,_,e2⟩;exact⟨e2,by rw[e,LP];omega⟩) (szn (by omega)) ?_ ?_
 ·intro i B6 σ H' hi hI9
  obtain⟨v,ws,rfl,rfl,C6,Dz,DS,k2,e2⟩:=hI9
  have E7:(S l).length<=Af:=szn (by rw[Mi];omega)
  ext
  refine⟨p,_,n+1+i,rfl,DS,by omega,by omega,by omega,fun c H3 Gi Ia DP o3=>?_⟩
  have EL:c.toNat < l.length:=by omega
  refine OZ (c:=l[c.toNat]) E7 (Og Gi (by rw[QN];simp[EL])) ?_
  have e3:H3 r=some (.lst (ws.map fun c=>V.str (S [c]))):=(o3 r pr.symm).trans e2
  refine⟨e3,_,ws++[l[c.toNat]],rfl,by rw[L3];rfl,by rw[Md,C6];rfl,db Dz (fun x hx=>?_),?_,?_,LN⟩
  ·have:x=l[c.toNat]:=by simpa using hx
   rw[this]
   exact hl _ (MD _)
  ·obtain⟨a1,b1,c1,g1,g2⟩:=DP
   exact⟨a1,b1,c1,by rw[LU pr];exact g1,g2⟩
  ·intro b o hb e
   have Gn:b≠r:=fun z=>by
    subst z
    have:=k1
    by_cases hz:H b=none
    ·rw[hz] at e;cases e
    ·have e4:=o1 b hb
     rw[B'] at e4
     exact hz e4.symm
   rw[LU Gn]
   exact(o3 b hb).trans (k2 b o hb e)
 ·intro B6 σ H' hI9
  obtain⟨v,ws,rfl,rfl,C6,Dz,DS,k2,e2⟩:=hI9
  ext
  have hs:=sum_one ws
  refine RK (ys:=ws.map fun c=>S [c]) (by rw[<- map_one];exact Ot e2) ?_ ?_
  ·rw[hs,LP,Mi]
   simp only[NO,ZJ]
   omega
  ·rw[dc]
   ext
   exact q ws H' Dz (by omega) (by omega) (DS.mono (by omega)) k2
noncomputable abbrev s_law_numbers:Au:=top 81
def Y4:Sp:=fun vs H Q _=>∃(p:Ac) (n:Nat) (s:List Nat) (few:Int),vs=[.ref p,.str (S s),.int few]/\FeedAt H p n/\n+100 < RL/\s.length<=30/\0 < few/\few < 1000 /\
 ∀(t:Ac) (ns:List Int) (H':Hp),H' t=some (.tup (ns.map V.int))->ns.length=s.length+1->(∀(j:Nat) v,ns[j]?=some v->0<=v/\v<=9/\(j=0->s.head?=some 46->v=0)/\(j=s.length->s.getLast?=some 46->v=0))->FeedAt H' p (n+100)->Kept p H H'->Q (.ref t) H'
theorem gW (T:Txt mg tk)(F:Fun K "_law_numbers" "_law_numbers" s_law_numbers f fd)(B8:Dn P w K mg base "_law_next" 1 ["_law_feed_here","_law_many"] O1):FnOk P w K mg base CX0 2 f fd ["_law_feed_here","_law_signs","_law_few"] Y4:=by
 refine F.okk ["_law_feed_here","_law_signs","_law_few","_law_numbers_here","_law_place","_law_number"] ?_
 rintro _ _ _ _ H _ _ _ hr ⟨p,n,sg,few,rfl,hf,hn,hs,ER,Kd,q⟩ nd
 refine⟨_,(LM (pst 3 nd (MZ Ph))
  (LM (MN MH rfl (Pg rfl T.z_range (pa1 (LX Mb (pcb (Mq (K:=K)) T.z_len (pa1 (pv 1))) LL))) (pnm 4 nd)
   (LM (pst 5 nd LL)
  (LM (Me (L_ (o_eq hr.units) (L0 B8 hr.LV rfl (LO (pv 0) (pa1 (pv 2)))) LL (L6 _))
   (LQ (pst 5 nd (LX Mb LL (L0 B8 hr.LV rfl (LO (pv 0) (pa1 LL))))))
   Mg)
  (LM (Me (PW.pt (Pf (PW.pt (QD (L_ (o_eq hr.units) (pv 4) LL (L6 _)) (Qz (L_ (o_eq hr.units) (Nk (Nm (K:=K)) (pv 1) NL (MV LL)) (L8 Ny) (L6 _))))) (QC (PW.pt (QD (L_ (o_eq hr.units) (pv 4) (pcb (Mq (K:=K)) T.z_len (pa1 (pv 1))) (L6 _)) (Qz (L_ (o_eq hr.units) (Nk (Nm (K:=K)) (pv 1) (MV (OS OU LL)) NL) (L8 Ny) (L6 _))))))))
   (LQ (pst 5 nd LL))
   Mg)
  (LQ (OP (M9 (K:=K) Pd Uv Uw UK (pv 3) (pa1 (pv 5)))))))))
  (LQ (LY (pct PR T.z_tuple (pa1 (pv 3))))))),?_⟩
 walk_at "s0"
 ext
 intro a ha
 have pa:p≠a:=by obtain⟨o,e⟩:=hf.some;exact Mo e ha
 ext
 refine RD (fun i σ H'=>∃(v4 v5:Option V) (ns:List Int),σ=[some (.ref p),some (.str (S sg)),some (.int few),some (.ref a),v4,v5]/\ns.length=i/\(∀(j:Nat) v,ns[j]?=some v->0<=v/\v<=9/\(j=0->sg.head?=some 46->v=0)/\(j=sg.length->sg.getLast?=some 46->v=0))/\FeedAt H' p (n+2 * i)/\Kept p H H'/\H' a=some (.lst (ns.map V.int)))
  ⟨none,none,[],rfl,rfl,(fun j v e=>by simp at e),hf.new ha,(Kept.refl p H).new ha _,LN⟩ ?_ ?_
 ·intro i σ H1 hi hI9
  obtain⟨v4,v5,ns,rfl,hl,Eh,DN,k1,e1⟩:=hI9
  ext
  refine⟨p,few,n+2 * i,rfl,DN,by omega,ER,by omega,fun d H2 DO Df DS o2=>?_⟩
  have key:∀(num:Int) (H3:Hp),0<=num->num<=9->FeedAt H3 p (n+2 * i+2)->Kept p H H3->H3 a=some (.lst (ns.map V.int)) ->
    ∀(b:Bool),(b=false->(i=0->sg.head?=some 46->num=0)/\(i=sg.length->sg.getLast?=some 46->num=0)) ->
    ∃(v4 v5:Option V) (ns':List Int),[some (V.ref p),some (.str (S sg)),some (.int few),some (.ref a),some (.int (0+(i:Int))),some (.int (if b then 0 else num))]=[some (.ref p),some (.str (S sg)),some (.int few),some (.ref a),v4,v5]/\ns'.length=i+1/\(∀(j:Nat) v,ns'[j]?=some v->0<=v/\v<=9/\(j=0->sg.head?=some 46->v=0)/\(j=sg.length->sg.getLast?=some 46->v=0)) /\
     FeedAt (upd H3 a (.lst (ns.map V.int++[.int (if b then 0 else num)]))) p (n+2 * (i+1))/\Kept p H (upd H3 a (.lst (ns.map V.int++[.int (if b then 0 else num)])))/\(upd H3 a (.lst (ns.map V.int++[.int (if b then 0 else num)]))) a=some (.lst (ns'.map V.int)):=by
   intro num H3 h0 h9 DP k3 e3 b hb
   refine⟨_,_,ns++[if b then 0 else num],rfl,by simp[hl],fun j v e=>?_,?_,fun c o hc e=>?_,by rw[LN,L3];rfl⟩
   ·by_cases hj:j < ns.length
    ·rw[ai hj] at e
     exact Eh j v e
    ·have Ie:j=ns.length:=by
      have:=(MJ.mp e).1
      simp at this;omega
     subst Ie
     rw[Zn (LZ _),ZI] at e
     simp only[List.getElem?_cons_zero,bm] at e
     subst e
     cases b with
     | true=>exact⟨OL 0,(by show (0:Int)<=9;decide),fun _ _=>rfl,fun _ _=>rfl⟩
     | false=>exact⟨h0,h9,fun z=>(hb rfl).1 (by omega),fun z=>(hb rfl).2 (by omega)⟩
   ·obtain⟨a1,b1,c1,g1,g2⟩:=DP
    exact⟨a1,b1,c1,by rw[LU pa];exact g1,by omega⟩
   ·have Jb:c≠a:=fun z=>by rw[z,ha] at e;cases e
    rw[LU Jb];exact k3 c o hc e
  have e2:H2 a=some (.lst (ns.map V.int)):=(o2 a pa.symm).trans e1
  have Ke:(ns.map V.int).length < 1000000:=by rw[LP];omega
  have hz:∀(num:Int) (H3:Hp),0<=num->num<=9->FeedAt H3 p (n+2 * i+2)->Kept p H H3->H3 a=some (.lst (ns.map V.int))->True:=fun _ _ _ _ _ _ _=>trivial
  ext
  refine iteD (fun c=>?_) (fun c=>?_)
  ·ext
   refine⟨p,9,n+2 * i+1,rfl,DS,by omega,by decide,by decide,fun d2 H3 G5 GL DP o3=>?_⟩
   have e3:H3 a=some (.lst (ns.map V.int)):=(o3 a pa.symm).trans e2
   have kk:=key (1+d2) H3 (by omega) (by omega) DP ((k1.off o2).off o3) e3
   ext
   refine iteD (fun c1=>?_) (fun c1=>?_)
   ·ext
    refine iteD (fun c2=>?_) (fun c2=>?_)
    ·ext
     exact kk true (fun z=>nomatch z)
    ·ext
     refine iteD (fun c3=>?_) (fun c3=>?_)
     ·ext
      refine iteD (fun c4=>?_) (fun c4=>?_)
      ·ext
       exact kk true (fun z=>nomatch z)
      ·ext
       refine kk false (fun _=>⟨fun _ z=>absurd (congrArg (fun l=>V.str (S l)) (head_dot.mpr z)) c2,fun _ z=>absurd (congrArg (fun l=>V.str (S l)) (last_dot.mpr z)) c4⟩)
     ·ext
      refine kk false (fun _=>⟨fun _ z=>absurd (congrArg (fun l=>V.str (S l)) (head_dot.mpr z)) c2,fun z _=>absurd (by rw[z];simp) c3⟩)
   ·ext
    refine iteD (fun c3=>?_) (fun c3=>?_)
    ·ext
     refine iteD (fun c4=>?_) (fun c4=>?_)
     ·ext
      exact kk true (fun z=>nomatch z)
     ·ext
      refine kk false (fun _=>⟨fun z _=>absurd (by rw[z];rfl) c1,fun _ z=>absurd (congrArg (fun l=>V.str (S l)) (last_dot.mpr z)) c4⟩)
    ·ext
     refine kk false (fun _=>⟨fun z _=>absurd (by rw[z];rfl) c1,fun z _=>absurd (by rw[z];simp) c3⟩)
  ·have kk:=key 0 H2 (by omega) (by omega) (DS.mono (by omega)) (k1.off o2) e2 false (fun _=>⟨fun _ _=>rfl,fun _ _=>rfl⟩)
   ext
   refine iteD (fun c1=>?_) (fun c1=>?_)
   ·ext
    refine iteD (fun c2=>?_) (fun c2=>?_)
    ·ext
     exact kk
    ·ext
     refine iteD (fun c3=>?_) (fun c3=>?_)
     ·ext
      refine iteD (fun c4=>?_) (fun c4=>?_)
      ·ext
       exact kk
      ·ext
       exact kk
     ·ext
      exact kk
   ·ext
    refine iteD (fun c3=>?_) (fun c3=>?_)
    ·ext
     refine iteD (fun c4=>?_) (fun c4=>?_)
     ·ext
      exact kk
     ·ext
      exact kk
    ·ext
     exact kk
 ·intro σ H1 hI9
  obtain⟨v4,v5,ns,rfl,hl,Eh,DN,k1,e1⟩:=hI9
  ext
  refine Wb (Nd e1) fun t H2 ht k2=>?_
  ext
  exact q t ns H2 ht (by omega) Eh ((FeedAt.same DN k2).mono (by omega)) (k1.same k2)
noncomputable abbrev s_law_pattern:Au:=top 82
def Sg (s:List Nat):Prop:=s.length<=22/\1<=s.length/\(∀ j,j < s.length->s.getD j 0=46/\(j=0∨j+1=s.length)∨ML (s.getD j 0)=true)/\∃ j,j < s.length/\ML (s.getD j 0)=true
theorem Sg.vp (h:Sg s) (hn:ns.length=s.length+1) (hz:∀(j:Nat) v,ns[j]?=some v->0<=v/\v<=9/\(j=0->s.head?=some 46->v=0)/\(j=s.length->s.getLast?=some 46->v=0)):VP s ns:=by
 obtain⟨h1,h2,h3,h4⟩:=h
 have g:∀ j,j < ns.length->ns[j]?=some (ns.getD j 0):=fun j hj=>by rw[L4,LS hj];rfl
 have at_:∀ j,j < s.length->s[j]?=some (s.getD j 0):=fun j hj=>by rw[L4,LS hj];rfl
 refine⟨h1,h2,hn,h3,h4,fun j hj=>⟨(hz j _ (g j hj)).1,(hz j _ (g j hj)).2.1⟩,fun z=>?_,fun z=>?_⟩
 ·exact(hz 0 _ (g 0 (by omega))).2.2.1 rfl (by rw[List.head?_eq_getElem?,at_ 0 (by omega),z])
 ·exact(hz _ _ (g s.length (by omega))).2.2.2 rfl (by rw[UV,at_ _ (by omega),z])
theorem Sg.low {w:List Nat}(hw:Low w)(h1:1<=w.length)(h2:w.length<=22):Sg w:=by
 have h:∀ j,j < w.length->ML (w.getD j 0)=true:=fun j hj=>by
  rw[L4,LS hj]
  exact hw _ (MD hj)
 exact⟨h2,h1,fun j hj=>.inr (h j hj),0,h1,h 0 h1⟩
theorem Sg.cut {w:List Nat}(hw:Low w)(hl:w.length<=20){a k:Nat}(ha:a<=w.length)(hk:1<=k)(C6:1<=w.length)(C5:(([46]++w++[46]).drop a).take k≠[46]):Sg ((([46]++w++[46]).drop a).take k):=by
 have D6:([46]++w++[46]).length=w.length+2:=by simp
 have DT:((([46]++w++[46]).drop a).take k).length=min k (w.length+2 - a):=by rw[Mt,Ng,D6]
 have hg:∀ j,j < min k (w.length+2 - a)->((([46]++w++[46]).drop a).take k).getD j 0=([46]++w++[46]).getD (a+j) 0:=fun j hj=>by
  rw[L4,io (by omega),List.getElem?_drop,<- L4]
 have hm:∀ i,1<=i->i<=w.length->ML (([46]++w++[46]).getD i 0)=true:=fun i h1 h2=>by
  have e:([46]++w++[46]).getD i 0=w[i - 1]:=by
   rw[L4,Qp,Zn (by simpa using h1),ai (by show i - 1 < _;omega),LS (by show i - 1 < _;omega)];rfl
  rw[e]
  exact hw _ (MD _)
 refine⟨by omega,by omega,fun j hj=>?_,?_⟩
 ·rw[DT] at hj
  rw[hg j hj,DT]
  by_cases h0:a+j=0
  ·rw[h0];exact .inl ⟨rfl,.inl (by omega)⟩
  ·by_cases h1:a+j<=w.length
   ·exact .inr (hm _ (by omega) h1)
   ·have h2:a+j=w.length+1:=by omega
    refine .inl ⟨?_,.inr (by omega)⟩
    rw[h2,L4,Zn (by simp)]
    simp
 ·rw[DT]
  by_cases h0:a=0
  ·have h2:2<=min k (w.length+2 - a):=by
    refine Nat.lt_of_le_of_ne (by omega) fun z=>C5 ?_
    have JW:k=1:=by omega
    rw[JW,h0];rfl
   refine⟨1,by omega,?_⟩
   rw[hg 1 (by omega)]
   exact hm _ (by omega) (by omega)
  ·refine⟨0,by omega,?_⟩
   rw[hg 0 (by omega)]
   exact hm _ (by omega) (by omega)
def Y5:Sp:=fun vs H Q _=>∃(p:Ac) (n:Nat) (l w:List Nat) (m:Nat),vs=[.ref p,.str (S l),.str (S w),.int (m:Int)]/\FeedAt H p n/\n+200 < RL/\Low l/\1<=l.length/\l.length<=26/\Low w/\1<=w.length/\w.length<=20/\1<=m/\m<=22 /\
 ∀(v:V) (x:Pat) (H':Hp),Is H' v (patD x)->VP x.1 x.2->x.1.length<=m+1->FeedAt H' p (n+200)->Kept p H H'->Q v H'
theorem gX (T:Txt mg tk)(F:Fun K "_law_pattern" "_law_pattern" s_law_pattern f fd)(B8:Dn P w K mg base "_law_next" 1 ["_law_feed_here","_law_many"] O1)(Cd:Dn P w K mg base "_law_word" 2 ["_law_feed_here","_law_letters_here","_law_most_here"] QO)(C2:Dn P w K mg base "_law_numbers" 2 ["_law_feed_here","_law_signs","_law_few"] Y4):FnOk P w K mg base CX0 3 f fd ["_law_feed_here","_law_letters_here","_law_word_here","_law_most_here"] Y5:=by
 refine F.okk ["_law_feed_here","_law_letters_here","_law_word_here","_law_most_here","_law_text_here","_law_at","_law_signs"] ?_
 rintro _ _ _ _ H _ Q _ hr ⟨p,n,l,w',m,rfl,hf,hn,hl,D5,DH,hw,C6,Dz,G_,Ic,q⟩ nd
 refine⟨_,(LM (pst 4 nd (LX Mb (LX Mb (L8 Ny) (pv 2)) (L8 Ny)))
  (LM (pst 5 nd (L0 B8 hr.LV rfl (LO (pv 0) (pa1 (LX Pj (pcb (Mq (K:=K)) T.z_len (pa1 (pv 4))) LL)))))
  (LM (pst 6 nd (Nk (Nm (K:=K)) (pv 4) (MV (pv 5)) (MV (LX Mb (LX Mb (pv 5) LL) (L0 B8 hr.LV rfl (LO (pv 0) (pa1 (pv 3))))))))
  (LM (Me (L_ (o_eq hr.units) (L0 B8 hr.LV rfl (LO (pv 0) (pa1 LL))) LL (L6 _))
   (LQ (pst 6 nd (L0 Cd hr.LV rfl (LO (pv 0) (LO (pv 1) (pa1 (pv 3)))))))
   Mg)
  (LM (Me (L_ (o_eq hr.units) (pv 6) (L8 Ny) (L6 _))
   (LQ (pst 6 nd (Nk (Nm (K:=K)) (pv 4) NL (MV LL))))
   Mg)
  (LQ (LY (Nw (LO (pv 6) (pa1 (L0 C2 hr.LV rfl (LO (pv 0) (LO (pv 6) (pa1 LL)))))))))))))),?_⟩
 walk_at "s0"
 ext
 have D6:([46]++w'++[46]).length=w'.length+2:=by simp
 have Jg:=@Sg.cut w' hw Dz
 have HC:Sg (cutA ([46]++w'++[46]) none (some 2)):=by
  have e:cutA ([46]++w'++[46]) none (some 2)=(([46]++w'++[46]).drop 0).take 2:=O9 _ 2 (by omega)
  rw[e]
  exact Jg (MR _) (by decide) C6 fun z=>by have:=congrArg Uk z;rw[Mt,Ng,D6] at this;simp at this
 have GB:(cutA ([46]++w'++[46]) none (some 2)).length<=m+1:=by
  rw[show cutA ([46]++w'++[46]) none (some 2)=([46]++w'++[46]).take 2 from O9 _ 2 (by omega),Mt];omega
 generalize [46]++w'++[46]=tx at D6 Jg HC GB ⊢
 refine⟨p,_,n,rfl,hf,by omega,by omega,by omega,fun at_ H1 EZ E5 DN o1=>?_⟩
 ext
 refine⟨p,_,n+1,rfl,DN,by omega,by omega,by omega,fun d H2 DO Df DS o2=>?_⟩
 have e1:cutA tx (some at_) (some (at_+1+d))=(tx.drop at_.toNat).take (min (at_+1+d).toNat tx.length - at_.toNat):=by
  unfold cutA
  have e1:sx tx.length 0 (some at_)=at_.toNat:=by simp only[sx];rw[B3 (by omega)];omega
  have e2:sx tx.length tx.length (some (at_+1+d))=min (at_+1+d).toNat tx.length:=by simp only[sx];rw[B3 (by omega)]
  rw[e1,e2]
 have IJ:cutA tx (some at_) (some (at_+1+d))≠[46]->Sg (cutA tx (some at_) (some (at_+1+d))):=fun z=>by
  rw[e1] at z ⊢
  exact Jg (by omega) (by omega) C6 z
 have Jh:(cutA tx (some at_) (some (at_+1+d))).length<=m+1:=by rw[e1,Mt];omega
 ext
 refine⟨p,_,n+1+1,rfl,DS,by omega,by omega,by omega,fun d4 H3 Li Lj DP o3=>?_⟩
 have k3:=((o1.kept).off o2).off o3
 have fin:∀(sg:List Nat) (H5 H6:Hp) (t:Ac) (ns:List Int),Sg sg->sg.length<=m+1->H6 t=some (.tup (ns.map V.int))->ns.length=sg.length+1->(∀(j:Nat) v,ns[j]?=some v->0<=v/\v<=9/\(j=0->sg.head?=some 46->v=0)/\(j=sg.length->sg.getLast?=some 46->v=0))->FeedAt H6 p (n+200)->Kept p H H5->Kept p H5 H6->∀ r,H6 r=none->Q (.ref r) (upd H6 r (.tup [.str (S sg),.ref t])):=fun sg H5 H6 t ns hs DT ht Eh FE GR k5 k6 r B' =>
  q (.ref r) (sg,ns) _ (SS LN (by rw[LU (Mo ht B')];exact ht)) (hs.vp Eh FE) DT (GR.new B') ((k5.trans k6).new B' _)
 ext
 refine iteD (fun c=>?_) (fun c=>?_)
 ·ext
  refine⟨p,n+3,l,m,rfl,DP,by omega,hl,D5,DH,G_,by omega,fun w2 H4 Ji Jj Ll GC k4=>?_⟩
  have DG:=Sg.low Ji Jj (by omega)
  have k5:=k3.trans k4
  ext
  refine iteD (fun c2=>?_) (fun c2=>?_)
  ·ext
   refine⟨p,n+33,_,2,rfl,GC,by omega,by have:=HC.1;omega,by decide,by decide,fun t ns H5 ht Eh FE Fh k6=>?_⟩
   ext
   exact fin _ _ _ _ _ HC GB ht Eh FE (Fh.mono (by omega)) k5 k6
  ·ext
   refine⟨p,n+33,_,2,rfl,GC,by omega,by omega,by decide,by decide,fun t ns H5 ht Eh FE Fh k6=>?_⟩
   ext
   exact fin _ _ _ _ _ DG (by omega) ht Eh FE (Fh.mono (by omega)) k5 k6
 ·ext
  refine iteD (fun c2=>?_) (fun c2=>?_)
  ·ext
   refine⟨p,n+3,_,2,rfl,DP,by omega,by have:=HC.1;omega,by decide,by decide,fun t ns H5 ht Eh FE Fh k6=>?_⟩
   ext
   exact fin _ _ _ _ _ HC GB ht Eh FE (Fh.mono (by omega)) k3 k6
  ·have Kf:=IJ fun z=>c2 (by rw[z])
   ext
   refine⟨p,n+3,_,2,rfl,DP,by omega,by have:=Kf.1;omega,by decide,by decide,fun t ns H5 ht Eh FE Fh k6=>?_⟩
   ext
   exact fin _ _ _ _ _ Kf Jh ht Eh FE (Fh.mono (by omega)) k3 k6
noncomputable abbrev s_law_values:Au:=top 83
theorem i_while (h:∃ W:Nat->St->Hp->Prop,(∃ m,W m σ H)/\∀ m σ H,W m σ H ->
 c σ H fun b H1=>if b=true then ∃ N:St->Hp->Prop,(∀ σ' H',N σ' H'->∃ m',m' < m/\W m' σ' H')/\tb { D with nx:=N,ct:=N,bk:=D.nx } σ H1 else D.nx σ H1):Vk c tb D σ H:=h
def T_:Sp:=fun vs H Q _=>∃(v:V) (xs:List Pat) (w:List Nat),vs=[v,.str (S w)]/\Is H v (Ou xs)/\(∀ x∈xs,1<=x.1.length/\x.1.length<=1000/\x.2.length<=x.1.length+1)/\xs.length<=10/\1<=w.length/\w.length<=200000 /\
 ∀(r:Ac) (H':Hp),H r=none->H' r=some (.lst ((vals xs w).map V.int))->Same H H'->Q (.ref r) H'
theorem gY (T:Txt mg tk)(F:Fun K "_law_values" "_law_values" s_law_values f fd):FnOk P w K mg base CX0 1 f fd ["_law_patterns","_law_word_here"] T_:=by
 refine F.okk ["_law_patterns","_law_word_here","_law_text_here","_law_found","_law_signs","_law_numbers_here","_law_place","_law_k"] ?_
 rintro _ _ _ _ H _ _ _ hr ⟨v,xs,w',rfl,hv,Ds,Ea,C6,Dz,q⟩ nd
 obtain⟨a,ys,rfl,ha,Cv⟩:=QR hv
 refine⟨_,(LM (pst 2 nd (LX Mb (LX Mb (L8 Ny) (pv 1)) (L8 Ny)))
  (LM (pst 3 nd (LX NB (MZ (pa1 LL)) (LX Pj (pcb (Mq (K:=K)) T.z_len (pa1 (pv 1))) LL)))
  (LM (MN MH rfl (Mx (K:=K) (pv 0)) (Pw rfl (MU (pnm 4 nd) (MU (pnm 5 nd) OQ)))
   (LM (pst 6 nd (M9 (K:=K) OJ i3 i4 m_find1 (pv 2) (pa1 (pv 4))))
  (LQ (R6 MH (L_ o_ge (pv 6) LL (L6 _))
   (LM (MN MH rfl (Pg rfl T.z_range (pa1 (pcb (Mq (K:=K)) T.z_len (pa1 (pv 5))))) (pnm 7 nd)
   (LQ (Me (Vq o_lt o_lt LL (LX Pj (LX Mb (pv 6) (pv 7)) LL) (pcb (Mq (K:=K)) T.z_len (pa1 (pv 1))))
   (LQ (N8 (pcb (Ob rfl) T.z_max (LO (pix K (pv 3) (LX Pj (LX Mb (pv 6) (pv 7)) LL)) (pa1 (pix K (pv 5) (pv 7))))) (Px (pv 3) (LX Pj (LX Mb (pv 6) (pv 7)) LL) PU)))
   Mg)))
  (LQ (pst 6 nd (M9 (K:=K) OJ i3 i4 m_find2 (pv 2) (LO (pv 4) (pa1 (LX Mb (pv 6) LL)))))))))))
  (LQ (LY (pv 3)))))),?_⟩
 walk_at "s0"
 have EM:=Z_ w'
 ext
 rw[XU]
 intro b0 EY
 ext
 refine Wp LN (by omega) fun t Fq=>?_
 have Gj:(Mw (((w'.length:Nat):Int) - 1).toNat (V.int 0))=(Mw (w'.length - 1) (0:Int)).map V.int:=by
  rw[List.map_replicate];congr 1;omega
 rw[Gj]
 have s0:Same H (upd (upd H b0 (.lst [.int 0])) t (.lst ((Mw (w'.length - 1) (0:Int)).map V.int))):=(LW EY _).trans (LW Fq _)
 have Ib:H t=none:=(LW EY _).free Fq
 have EZ:=s0 _ _ ha
 ext
 refine NJ (K:=K) (xs:=ys) (fun i σ H'=>∃(v4 v5 v6 v7:Option V),σ=[some (.ref a),some (.str (S w')),some (.str (S (frame w'))),some (.ref t),v4,v5,v6,v7]/\H' t=some (.lst ((lawA w'.length (frame w') (Mw (w'.length - 1) 0) (xs.take i)).map V.int))/\Same H H')
  ⟨none,none,none,none,rfl,LN,s0⟩ (fun i σ H' _ hI9=>by rcases hI9 with ⟨_,_,_,_,_,_,s1⟩;exact SqL.of (s1 _ _ ha)) ?_ ?_
 ·intro i x σ H1 hx hI9
  obtain⟨v4,v5,v6,v7,rfl,e1,s1⟩:=hI9
  have DJ:i < xs.length:=by
   have h1:=(MJ.mp hx).1
   have h2:=Cv.length
   rw[LP] at h2;omega
  obtain⟨x',d,DV,EF,Gk⟩:=IsL.get Cv (i:=i) (by rw[LP];exact DJ)
  rw[hx] at DV
  cases DV
  rw[Ma,LS DJ] at EF
  cases EF
  obtain⟨pa,nt,rfl,Er,Es⟩:=P0 Gk
  obtain⟨GL,Ha,JZ⟩:=Ds _ (MD DJ)
  have HD:xs[i].1≠[]:=OA.mp GL
  have Et:=s1 _ _ Er
  have Ec:=s1 _ _ Es
  obtain⟨Gm,_⟩:=SW w'.length (frame w') (xs.take i) (Mw (w'.length - 1) 0) (by simp)
  generalize hT:lawA w'.length (frame w') (Mw (w'.length - 1) 0) (xs.take i)=T0 at e1 Gm
  refine SE Et rfl (M0 (MY (M0 (MY (Pl ?_)))))
  ext
  rw[find_S]
  refine i_while ⟨fun m σ H'=>∃(k:Nat) (bs:List Nat) (v7:Option V),m=(frame w').length+1 - k/\k<=(frame w').length/\Qk xs[i].1 (frame w') 0=bs++Qk xs[i].1 (frame w') k /\
   σ=[some (.ref a),some (.str (S w')),some (.str (S (frame w'))),some (.ref t),some (.str (S xs[i].1)),some (.ref nt),some (.int (PY xs[i].1 (frame w') k)),v7]/\H' t=some (.lst ((bs.foldl (fun t b=>Nr w'.length t b xs[i].2) T0).map V.int))/\Same H H',⟨_,0,[],_,rfl,MR _,rfl,rfl,e1,s1⟩,?_⟩
  intro m σ H2 hI9
  obtain⟨k,bs,v7,rfl,hk,Hd,rfl,e2,s2⟩:=hI9
  ext
  refine iteD (fun c=>?_) (fun c=>?_)
  ·obtain⟨b,Lm,hkb,hbf,DZ,CG⟩:=dv hk c
   rw[Lm]
   have Ln:=fits_lt HD DZ
   have Lo:=s2 _ _ Es
   have Lp:=(dh w'.length xs[i].2 bs T0 Gm).1
   have Jk:bs++Qk xs[i].1 (frame w') k=(bs++[b])++Qk xs[i].1 (frame w') (b+1):=by rw[CG,Qp];rfl
   rw[Jk] at Hd
   have FT:(bs++[b]).foldl (fun t b=>Nr w'.length t b xs[i].2) T0=Nr w'.length (bs.foldl (fun t b=>Nr w'.length t b xs[i].2) T0) b xs[i].2:=by rw[Qr];rfl
   generalize bs.foldl (fun t b=>Nr w'.length t b xs[i].2) T0=T1 at e2 Lp FT
   refine⟨fun σ' H'=>∃(v7:Option V),σ'=[some (.ref a),some (.str (S w')),some (.str (S (frame w'))),some (.ref t),some (.str (S xs[i].1)),some (.ref nt),some (.int (PY xs[i].1 (frame w') (b+1))),v7]/\H' t=some (.lst ((Nr w'.length T1 b xs[i].2).map V.int))/\Same H H',?_,?_⟩
   ·intro σ' H' hI9
    obtain⟨v7',rfl,e',s'⟩:=hI9
    refine⟨(frame w').length+1 - (b+1),by omega,b+1,bs++[b],v7',rfl,by omega,Hd,rfl,?_,s'⟩
    rw[FT];exact e'
   ·ext
    rw[LP]
    ext
    refine RD (fun j σ H'=>∃(v7:Option V),σ=[some (.ref a),some (.str (S w')),some (.str (S (frame w'))),some (.ref t),some (.str (S xs[i].1)),some (.ref nt),some (.int (b:Int)),v7]/\H' t=some (.lst ((Nr w'.length T1 b (xs[i].2.take j)).map V.int))/\Same H H')
     ⟨_,rfl,e2,s2⟩ ?_ ?_
    ·intro j σ H3 hj hI9
     obtain⟨v7,rfl,e3,s3⟩:=hI9
     have hj:j < xs[i].2.length:=by omega
     have Jl:=s3 _ _ Es
     have E1:xs[i].2.take (j+1)=xs[i].2.take j++[xs[i].2[j]]:=by rw[MA,LS hj];rfl
     have G':=Wz w'.length xs[i].2[j] (xs[i].2.take j) T1 b
     rw[<- E1,Mt,aS (OI hj)] at G'
     have IM:=dg w'.length (xs[i].2.take j) T1 b
     rw[G']
     generalize Nr w'.length T1 b (xs[i].2.take j)=T2 at e3 IM ⊢
     ext
     have key:∀(hc:2<=b+j/\b+j<=w'.length),(lput w'.length T2 (b+j) xs[i].2[j])=put T2 (b+j - 2) xs[i].2[j]:=fun hc=>by unfold lput;rw[B4 hc]
     have key2:∀(hc:¬ (2<=b+j/\b+j<=w'.length)),(lput w'.length T2 (b+j) xs[i].2[j])=T2:=fun hc=>by unfold lput;rw[B3 hc]
     refine iteD (fun c1=>?_) (fun c1=>?_)
     ·ext
      refine iteD (fun c2=>?_) (fun c2=>?_)
      ·have hc:2<=b+j/\b+j<=w'.length:=by omega
       have Ft:b+j - 2 < T2.length:=by omega
       have GK:((b:Int)+(0+(j:Int)) - 2).toNat=b+j - 2:=by omega
       ext
       refine OY (v:=.int T2[b+j - 2]) (Nd e3) (Og (by omega) (by rw[GK,Ma,LS Ft];rfl)) ?_
       ext
       refine OY (v:=.int xs[i].2[j]) (So Jl) (Og (by omega) (by rw[show (0+(j:Int)).toNat=j by omega,Ma,LS hj];rfl)) ?_
       ext
       refine QK (j:=b+j - 2) e3 (by rw[LP,SI (by omega) (by omega),GK]) ?_
       rw[XV T2 (b+j - 2) xs[i].2[j] Ft,<- key hc]
       ext
       refine⟨_,rfl,LN,fun c o e=>?_⟩
       have HW:c≠t:=fun z=>by rw[z,Ib] at e;cases e
       rw[LU HW]
       exact s3 c o e
      ·ext
       rw[key2 (by omega)]
       exact⟨_,rfl,e3,s3⟩
     ·ext
      rw[key2 (by omega)]
      exact⟨_,rfl,e3,s3⟩
    ·intro σ H3 hI9
     obtain⟨v7,rfl,e3,s3⟩:=hI9
     have hz:((xs[i].2.length:Nat):Int).toNat=xs[i].2.length:=by omega
     rw[hz,Mz] at e3
     ext
     rw[show (b:Int)+1=((b+1:Nat):Int) by omega,find3_S]
     ext
     exact⟨_,rfl,e3,s3⟩
  ·ext
   have hn:=du (p:=xs[i].1) (f:=frame w') (k:=k) (by omega)
   rw[hn,OD,dj HD] at Hd
   refine⟨_,_,_,_,rfl,?_,s2⟩
   rw[MA,LS DJ]
   show H2 t=some (.lst ((ZC (lawP w'.length (frame w')) _ (xs.take i++[xs[i]])).map V.int))
   rw[Qr]
   show H2 t=some (.lst ((lawP w'.length (frame w') (lawA w'.length (frame w') (Mw (w'.length - 1) 0) (xs.take i)) xs[i]).map V.int))
   rw[hT]
   unfold lawP
   rw[Hd]
   exact e2
 ·intro σ H1 hI9
  obtain⟨v4,v5,v6,v7,rfl,e1,s1⟩:=hI9
  have h2:=Cv.length
  rw[LP] at h2
  rw[h2,Mz,di] at e1
  ext
  exact q t _ Ib e1 s1
theorem T' (l:List α) (lo hi:Option Int):(cutA l lo hi).length<=l.length:=by
 unfold cutA;rw[Mt,Ng];omega
noncomputable abbrev s_law_text:Au:=top 88
noncomputable abbrev s_law_shown:Au:=top 89
noncomputable abbrev s_law_odd:Au:=top 90
theorem cut_one (l:List Nat)(i:Nat)(h:i < l.length):cutA l (some (i:Int)) (some ((i:Int)+1))=[l.getD i 0]:=by
 rw[show ((i:Int)+1)=((i+1:Nat):Int) by omega,Z8 l i (i+1) h (Qw i),RP h,U3,L4,LS h];rfl
theorem gZ (l:List Nat):cutA l (some (l.length:Int)) (some ((l.length:Int)+1))=[]:=by
 refine ah ?_
 rw[Wm]
 have e1:sx l.length 0 (some (l.length:Int))=l.length:=by simp only[sx];rw[B3 (by omega)];omega
 have e2:sx l.length l.length (some ((l.length:Int)+1))=l.length:=by simp only[sx];rw[B3 (by omega)];omega
 rw[e1,e2,ZI]
noncomputable def tI (s:List Nat)(ns:List Int)(i:Nat):List Nat:=if i<=s.length then pre s ns i else ptxt s ns
theorem tI_next (hi:i<=s.length):tI s ns (i+1)=pre s ns i++fig (ns.getD i 0)++cutA s (some (i:Int)) (some ((i:Int)+1)):=by
 unfold tI
 by_cases h:i < s.length
 ·rw[B4 (Nat.succ_le_of_lt h),cut_one s i h,Qp];rfl
 ·have e:i=s.length:=by omega
  subst e
  rw[B3 (Nat.not_succ_le_self _),gZ,OD];rfl
def Y6:Sp:=fun vs H Q _=>∃(v:V) (x:Pat),vs=[v]/\Is H v (patD x)/\VP x.1 x.2/\∀ H',Same H H'->Q (.str (S (ptxt x.1 x.2))) H'
theorem g9 (T:Txt mg tk)(F:Fun K "_law_text" "_law_text" s_law_text f fd):FnOk P w K mg base CX0 1 f fd ["_law_pattern_here"] Y6:=by
 refine F.okk ["_law_pattern_here","_law_signs","_law_numbers_here","_law_text_here","_law_k"] ?_
 rintro _ _ _ _ H _ _ _ hr ⟨v,x,rfl,hv,hx,q⟩ nd
 obtain⟨a,t,rfl,h1,h2⟩:=P0 hv
 have DT:=hx.len
 have Jd:=hx.nlen
 refine⟨_,(LM (N8 (pv 0) (Pw rfl (MU (pnm 1 nd) (MU (pnm 2 nd) OQ))))
  (LM (pst 3 nd (L8 Oh))
  (LM (MN MH rfl (Pg rfl T.z_range (pa1 (pcb (Mq (K:=K)) T.z_len (pa1 (pv 2))))) (pnm 4 nd)
   (LM (Me (L_ o_gt (pix K (pv 2) (pv 4)) LL (L6 _))
   (LQ (pst 3 nd (LX Mb (pv 3) (pct PQ T.z_str (pa1 (pix K (pv 2) (pv 4)))))))
   Mg)
  (LQ (pst 3 nd (LX Mb (pv 3) (Nk (Nm (K:=K)) (pv 1) (MV (pv 4)) (MV (LX Mb (pv 4) LL))))))))
  (LQ (LY (pv 3)))))),?_⟩
 walk_at "s0"
 ext
 refine SE h1 rfl (M0 (MY (M0 (MY (Pl ?_)))))
 ext
 rw[LP]
 ext
 refine RD (fun i σ H'=>∃(v4:Option V),σ=[some (.ref a),some (.str (S x.1)),some (.ref t),some (.str (S (tI x.1 x.2 i))),v4]/\Same H H')
  ⟨none,rfl,Same.refl _⟩ ?_ ?_
 ·intro i σ H1 hi hI9
  obtain⟨v4,rfl,s1⟩:=hI9
  have Gg:i<=x.1.length:=by omega
  have Ei:i < x.2.length:=by omega
  have CG:=To x.1 x.2 i
  have Ka:=s1 _ _ h2
  obtain⟨HV,Lq⟩:=hx.num i Ei
  have Fn:atI (x.2.map V.int) (0+(i:Int))=some (.int (x.2.getD i 0)):=Og (by omega) (by rw[show (0+(i:Int)).toNat=i by omega,Ma,L4,LS Ei];rfl)
  have Ik:=tI_next (ns:=x.2) Gg
  rw[show tI x.1 x.2 i=pre x.1 x.2 i by unfold tI;rw[B4 Gg]]
  generalize x.2.getD i 0=m at HV Lq Fn Ik
  ext
  refine iteD (fun c=>?_) (fun c=>?_)
  ·obtain⟨d,hd,rfl⟩:∃ d:Nat,d < 10/\m=(d:Int):=⟨m.toNat,by omega,by omega⟩
   have e:fig (d:Int)=[48+d]:=by unfold fig;rw[B4 c,OK]
   ext
   refine⟨?_,?_⟩
   ·have:∀ d:Nat,d < 10->(d:Int).natAbs.log2 < 1920:=by decide
    exact this d hd
   rw[Xc d hd,<- e]
   show fAdd (.str (S (pre x.1 x.2 i))) (.str (S (fig (d:Int)))) _ _
   have EM:(fig (d:Int)).length<=1:=by rw[e];exact LZ _
   ext
   have EL:=T' x.1 (some (0+(i:Int))) (some (0+(i:Int)+1))
   ext
   rw[Ik,show (0:Int)+(i:Int)=(i:Int) by omega]
   exact⟨_,rfl,s1⟩
  ·have e:fig m=[]:=by unfold fig;rw[B3 (by omega)]
   rw[e,OD] at Ik
   ext
   have EL:=T' x.1 (some (0+(i:Int))) (some (0+(i:Int)+1))
   ext
   rw[Ik,show (0:Int)+(i:Int)=(i:Int) by omega]
   exact⟨_,rfl,s1⟩
 ·intro σ H1 hI9
  obtain⟨v4,rfl,s1⟩:=hI9
  ext
  rw[Jd,show tI x.1 x.2 ((x.1.length+1:Nat):Int).toNat=ptxt x.1 x.2 by rw[OK];unfold tI;rw[B3 (Nat.not_succ_le_self _)]]
  exact q H1 s1
theorem SQ:Mm "-"=S [45]:=by decide +kernel
theorem Y7 {w:List Nat}(g:List Nat)(h0:0∉g):∀ n,txt w g (n+1)=[w.getD 0 0]++((L5 n).map fun j=>(if j+1∈g then [45] else [])++[w.getD (j+1) 0]).flatten
 | 0=>by rw[SJ,B3 h0];rfl
 | n+1=>by rw[SJ,Y7 g h0 n,Pb,L3,List.flatten_append,Qp,List.map_singleton];simp
theorem g_ (b:Bool):Txt.mul (S [45]) (if b=true then 1 else 0)=S (if b=true then [45] else []):=by
 cases b <;> decide +kernel
theorem hC (h:j < vs.length):j+1∈bkN vs↔Po vs j=true:=by
 unfold bkN
 simp[h]
theorem odd_mod (h:j < vs.length):vs[j] % 2=if Po vs j=true then 1 else 0:=by
 unfold Po
 rw[L4,LS h]
 simp only[Ps,decide_eq_true_eq]
 split <;> omega
def Y8:Sp:=fun vs H Q _=>∃(v:V) (xs:List Pat) (w:List Nat),vs=[v,.str (S w)]/\Is H v (Ou xs)/\PsOk xs/\1<=w.length/\w.length<=100/\∀ H',Same H H'->Q (.str (S (shw xs w))) H'
def spOdd:Sp:=fun vs H Q _=>∃(v:V) (xs:List Pat) (w:List Nat),vs=[v,.str (S w)]/\Is H v (Ou xs)/\PsOk xs/\1<=w.length/\w.length<=200000/\∀(r:Ac) (H':Hp),H' r=some (.lst (((vals xs w).map (· % 2)).map V.int))->Same H H'->Q (.ref r) H'
theorem hJ (T:Txt mg tk)(F:Fun K "_law_odd" "_law_odd" s_law_odd f fd)(Cn:Dn P w K mg base "_law_values" 1 ["_law_patterns","_law_word_here"] T_):FnOk P w K mg base CX0 2 f fd ["_law_patterns","_law_word_here"] spOdd:=by
 refine F.okk ["_law_patterns","_law_word_here"] ?_
 rintro _ _ _ s H _ _ _ hr ⟨v,xs,w',rfl,hv,hO,C6,Dz,q⟩ nd
 refine⟨_,(LQ (LY (Nl ["_law_number"] [none] rfl (by kernel_rfl) rfl (Mx (K:=K) (L0 Cn hr.LV rfl (LO (pv 0) (pa1 (pv 1))))) (fun _ _ _ _=>(ME (i:=0) (show (["_law_number"]:List Str).Nodup by decide +kernel) rfl (Or.inl rfl) (Or.inr rfl))) (fun _ _ _ _=>Nq) (fun _ _ _ _=>(LX N5 (pv 0) LL))))),?_⟩
 walk_at "s0"
 ext
 refine⟨v,xs,w',rfl,hv,hO.ok,hO.2,C6,Dz,fun a H1 EZ ha s1=>?_⟩
 have hl:=UN xs w'
 generalize vals xs w'=vs at ha q hl
 refine Oe (SqL.of ha) ?_
 intro r B'
 refine Pk (K:=K) (xs:=vs.map V.int) (fun i B6 σ H'=>∃ x,σ=[x]/\B6=((vs.take i).map (· % 2)).map V.int/\H' r=some (.lst B6)/\Same H1 H') (fun i B6 σ H' _ hI9=>by rcases hI9 with ⟨_,_,_,_,s⟩;exact SqL.of (s _ _ ha))
  ⟨none,rfl,rfl,LN,LW B' _⟩ (fun i B6 σ H' hI9=>by rcases hI9 with ⟨_,_,e,e2,_⟩;exact⟨e2,by rw[e,LP,LP,Mt];omega⟩) (szn (by rw[LP];omega)) ?_ ?_
 ·intro i B6 σ H2 hi hI9
  obtain⟨x,rfl,rfl,e2,s2⟩:=hI9
  rw[LP] at hi
  rw[L4,Ma,LS hi,MA,LS hi]
  generalize vs[i]=n
  ext
  refine⟨by show (0:Int) < 2;decide,e2,_,rfl,?_,LN,MW B' s2⟩
  rw[L3,L3];rfl
 ·intro B6 σ H2 hI9
  obtain⟨x,rfl,rfl,e2,s2⟩:=hI9
  rw[LP,Mz] at e2
  ext
  exact q r H2 e2 (s1.trans s2)
theorem hU (T:Txt mg tk)(F:Fun K "_law_shown" "_law_shown" s_law_shown f fd)(Cn:Dn P w K mg base "_law_values" 1 ["_law_patterns","_law_word_here"] T_):FnOk P w K mg base CX0 2 f fd ["_law_patterns","_law_word_here"] Y8:=by
 refine F.okk ["_law_patterns","_law_word_here","_law_found"] ?_
 rintro _ _ _ _ H _ _ _ hr ⟨v,xs,w',rfl,hv,hO,C6,Dz,q⟩ nd
 refine⟨_,(LM (OR (i:=2) nd rfl (Or.inr rfl) (L0 Cn hr.LV rfl (LO (pv 0) (pa1 (pv 1)))))
  (LQ (LY (LX Mb (pix K (pv 1) LL) (M9 (K:=K) OJ Rt Ru RI (L8 Oh) (pa1 (Nl ["_law_found","_law_word_here","_law_k"] [some 2,some 1,none] rfl (by kernel_rfl) rfl (Pg rfl T.z_range (pa1 (pcb (Mq (K:=K)) T.z_len (pa1 (pv 2))))) (fun _ _ _ _=>(ME (i:=2) (show (["_law_found","_law_word_here","_law_k"]:List Str).Nodup by decide +kernel) rfl (Or.inl rfl) (Or.inr rfl))) (fun _ _ _ _=>Nq) (fun _ _ _ _=>(LX Mb (LX NB (L8 SQ) (LX N5 (pix K (pv 0) (pv 2)) LL)) (pix K (pv 1) (LX Mb (pv 2) LL))))))))))),?_⟩
 walk_at "s0"
 have E7:(S w').length<=Af:=szn (by rw[Mi];omega)
 have Eg:∀ i,i < w'.length->atI ((S w').cps.toList) (i:Int)=some (w'.getD i 0):=fun i hi=>Og (by omega) (by rw[QN,OK,L4,LS hi];rfl)
 ext
 refine⟨v,xs,w',rfl,hv,hO.ok,hO.2,C6,by omega,fun a H1 EZ ha s1=>?_⟩
 have hl:=UN xs w'
 have G5:0∉bkN (vals xs w'):=fun z=>by have:=(Rg xs C6).mem 0 z;omega
 unfold shw at q
 generalize vals xs w'=vs at ha q hl G5
 ext
 refine OZ (c:=w'.getD 0 0) E7 (Eg 0 C6) ?_
 ext
 rw[LP]
 ext
 intro r B'
 refine Sz (fun i B6 σ H'=>∃(v:Option V),σ=[some (.ref a),some (.str (S w')),v]/\B6=L9 ((L5 i).map fun j=>(if j+1∈bkN vs then [45] else [])++[w'.getD (j+1) 0])/\H' r=some (.lst B6)/\Same H1 H')
  ⟨none,rfl,rfl,LN,LW B' _⟩ (fun i B6 σ H' hI9=>by rcases hI9 with ⟨_,_,e,e2,_⟩;exact⟨e2,by rw[e,L9,LP,LP,Qq];omega⟩) (szn (by omega)) ?_ ?_
 ·intro i B6 σ H2 hi hI9
  obtain⟨v,rfl,rfl,e2,s2⟩:=hI9
  have Jm:i < vs.length:=by omega
  rw[UA]
  ext
  refine OY (v:=.int vs[i]) (Nd (s2 _ _ ha)) (Og (by omega) (by rw[show ((i:Int)).toNat=i by omega,Ma,LS Jm];rfl)) ?_
  ext
  rw[odd_mod Jm]
  refine i_mulS ⟨by rw[Mi];split <;> decide,by split <;> decide,by split <;> decide⟩ ?_
  rw[g_]
  ext
  rw[show (i:Int)+1=((i+1:Nat):Int) by omega]
  refine OZ (c:=w'.getD (i+1) 0) E7 (Eg _ (by omega)) ?_
  refine PZ (b:=[w'.getD (i+1) 0]) (by split <;> simp) ?_
  refine⟨e2,_,rfl,?_,LN,MW B' s2⟩
  rw[Pb,L3,L9,L9,L3]
  simp only[L',MT,hC Jm]
 ·intro B6 σ H2 hI9
  obtain⟨v,rfl,rfl,e2,s2⟩:=hI9
  have e3:∀ ls:List (List Nat),L9 ls=(ls.map S).map V.str:=fun ls=>by rw[MQ];rfl
  rw[e3,show (((vs.length:Nat):Int)).toNat=w'.length - 1 by omega] at e2
  have DT:=Rl (n:=2) ((L5 (w'.length - 1)).map fun j=>(if j+1∈bkN vs then [45] else [])++[w'.getD (j+1) 0]) fun x hx=>by
   obtain⟨j,_,rfl⟩:=MC.mp hx
   rw[Md,O_]
   split <;> simp
  rw[LP,Qq] at DT
  ext
  refine RK (Ot e2) (by rw[show (S ([]:List Nat)).length=0 from rfl,ZJ];omega) ?_
  rw[O5,Z6]
  have e4:=Y7 (w:=w') _ G5 (w'.length - 1)
  have e6:=c6 w' (bkN vs) w'.length
  rw[show w'.length - 1+1=w'.length by omega] at e4
  rw[e4,Md] at e6
  refine PZ (a:=[w'.getD 0 0]) (by omega) ?_
  rw[<- e4]
  exact q H2 (s1.trans s2)
noncomputable abbrev s_law_tail:Au:=top 84
noncomputable abbrev s_law_most:Au:=top 85
noncomputable abbrev s_law_next_views:Au:=top 86
theorem hV (xs:List Pat)(x:Pat)(t:List Nat)(n:Nat)(i:Int):Nc (xs++[x]) t n i=if n<=x.1.length/\x.1 <:+ t then mx (Nc xs t n i) (x.2.getD (x.1.length - n) 0) else Nc xs t n i:=by
 unfold Nc
 rw[Qr];rfl
def spTl:Sp:=fun vs H Q _=>∃(a:Ac) (ys:List V) (xs:List Pat) (t:List Nat),vs=[.ref a,.str (S t)]/\H a=some (.lst ys)/\L2.IsL H ys (xs.map patD)/\OkP xs/\t.length<=1000/\∀ H',Same H H'->Q (.str (S (Mf (begs xs) t))) H'
def Y9:Sp:=fun vs H Q _=>∃(a:Ac) (ys:List V) (xs:List Pat) (t:List Nat) (n:Nat) (i:Int),vs=[.ref a,.str (S t),.int (n:Int),.int i]/\H a=some (.lst ys)/\L2.IsL H ys (xs.map patD)/\OkP xs/\t.length<=1000/\n<=1000/\Q (.int (Nc xs t n i)) H
noncomputable def rawV (one other:List Pat)(v:View)(c:Nat):List View:=match v.b with
 | none=>if c=46 then [] else [⟨Mf (begs (one++other)) (v.t++[c]),none,0,0⟩,⟨Mf (begs (one++other)) (v.t++[c]),some 0,Nc one (v.t++[c]) 0 0,Nc other (v.t++[c]) 0 0⟩]
 | some n=>if c=46/\n=0 then [] else [⟨Mf (begs (one++other)) (v.t++[c]),some (n+1),Nc one (v.t++[c]) (n+1) v.i,Nc other (v.t++[c]) (n+1) v.j⟩]
def spNv:Sp:=fun vs H Q _=>∃(a b va:Ac) (one other:List Pat) (v:View) (c:Nat),vs=[.ref a,.ref b,.ref va,.str (S [c])]/\Two H a b one other/\one.length+other.length<=100/\OkV v/\H va=some (.tup (vdat v)) /\
 ∀(r:Ac) (zs:List V) (H':Hp),H' r=some (.lst zs)->L2.IsL H' zs ((rawV one other v c).map NN)->Same H H'->Q (.ref r) H'
theorem suf_cut :(cutA t (some (if (t.length:Int) - (p.length:Int) > 0 then (t.length:Int) - (p.length:Int) else 0)) none=p)↔p <:+ t:=by
 have e:(if (t.length:Int) - (p.length:Int) > 0 then (t.length:Int) - (p.length:Int) else 0)=((t.length - p.length:Nat):Int):=by split <;> omega
 rw[e,SO t _ (by omega)]
 exact⟨fun h=>h▸Zv ..,fun h=>(al.mp h).symm⟩
theorem hX (T:Txt mg tk)(F:Fun K "_law_tail" "_law_tail" s_law_tail f fd):FnOk P w K mg base CX0 1 f fd ["_law_every","_law_text_here"] spTl:=by
 refine F.okk ["_law_every","_law_text_here","_law_begin","_law_end"] ?_
 rintro _ _ _ s H _ _ _ hr ⟨a,ys,xs,t,rfl,ha,Cv,ok,hl,q⟩ nd
 have De:ys.length=xs.length:=by have:=Cv.length;simpa using this
 have Ea:=ok.2
 refine⟨_,(LM (MN MH rfl (Pg rfl T.z_range (pa1 (pcb (Mq (K:=K)) T.z_len (pa1 (pv 1))))) (pnm 2 nd)
   (LM (OR (i:=3) nd rfl (Or.inr rfl) (Nk (Nm (K:=K)) (pv 1) (MV (pv 2)) NL))
  (LQ (Me (NC (pcb (c_any rfl) T.z_any (pa1 (Nl ["_law_end","_law_signs","_law_numbers_here"] [some 3,none,none] rfl (by kernel_rfl) rfl (Mx (K:=K) (pv 0)) (fun _ _ _ _=>(TU (K:=K) (n:=2) rfl rfl (MU (ME (i:=1) (show (["_law_end","_law_signs","_law_numbers_here"]:List Str).Nodup by decide +kernel) rfl (Or.inl rfl) (Or.inr rfl)) (MU (ME (i:=2) (show (["_law_end","_law_signs","_law_numbers_here"]:List Str).Nodup by decide +kernel) rfl (Or.inl rfl) (Or.inr rfl)) OQ)))) (fun _ _ _ _=>Nq) (fun _ _ _ _=>(NK (o_eq hr.units) (Nk (Nm (K:=K)) (pv 1) NL (MV (pcb (Mq (K:=K)) T.z_len (pa1 (pv 0))))) (pv 0) (L6 _)))))) (fun _=>rfl))
   (LQ (LY (pv 3)))
   Mg))))
  (LQ (LY (L8 Oh)))),?_⟩
 walk_at "s0"
 ext
 refine RD (fun i σ H'=>∃(v2 v3:Option V),Same H H'/\σ=[some (.ref a),some (.str (S t)),v2,v3]/\Mf (begs xs) t=Mf (begs xs) (t.drop i)) ⟨none,none,Same.refl _,rfl,rfl⟩ ?_ ?_
 ·intro i σ H1 hi hI9
  obtain⟨v2,v3,s1,rfl,ht⟩:=hI9
  have DJ:i < t.length:=by omega
  have Ee:cutA t (some (0+(i:Int))) none=t.drop i:=by rw[UA];exact SO t i (by omega)
  have E5:=s1 _ _ ha
  ext
  rw[Ee]
  have D':(t.drop i).length<=1000:=by rw[Ng];omega
  have Go:t.drop i=t[i]::t.drop (i+1):=RP DJ
  have C5:t.drop i≠[]:=by rw[Go];exact List.cons_ne_nil _ _
  generalize hd:t.drop i=u at ht D' Go C5 ⊢
  ext
  intro r B'
  refine Pk (K:=K) (xs:=ys) (fun j B6 σ H'=>∃ v w,σ=[some (.str (S u)),v,w]/\B6=((xs.take j).map fun x=>decide (u <+: x.1)).map V.bl/\H' r=some (.lst B6)/\Same H1 H') (fun j B6 σ H' _ hI9=>by rcases hI9 with ⟨_,_,_,_,_,s⟩;exact SqL.of (s _ _ E5))
   ⟨none,none,rfl,rfl,LN,LW B' _⟩ (fun j B6 σ H' hI9=>by rcases hI9 with ⟨_,_,_,e,e2,_⟩;exact⟨e2,by rw[e];simp;omega⟩) (szn (by omega)) ?_ ?_
  ·intro j B6 σ H2 hj hI9
   obtain⟨v,w',rfl,rfl,e2,s2⟩:=hI9
   rw[De] at hj
   obtain⟨y,d,hy,Df,hI⟩:=IsL.get (IsL.same (s1.trans s2) Cv) (show j < (xs.map patD).length by simpa using hj)
   rw[Ma,LS hj] at Df
   cases Df
   obtain⟨a2,t2,rfl,ea2,et2⟩:=P0 hI
   rw[L4,hy,Ps]
   have hp:=ok.1 _ (MD hj)
   refine SE ea2 rfl (M0 (MY (M0 (MY (Pl ?_)))))
   ext
   refine⟨e2,_,_,rfl,?_,LN,MW B' s2⟩
   rw[MA,LS hj,L3,L3]
   congr 1
   show [V.bl _]=[V.bl (decide (u <+: xs[j].1))]
   congr 2
   rw[decide_eq_decide,S_inj]
   by_cases hc:u.length<=xs[j].1.length
   ·rw[O9 _ _ hc]
    exact⟨fun h=>h▸List.take_prefix ..,fun h=>(ir.mp h).symm⟩
   ·have:=T' xs[j].1 none (some (u.length:Int))
    exact⟨fun h=>absurd (congrArg Uk h) (by omega),fun h=>absurd h.length_le (by omega)⟩
  ·intro B6 σ H2 hI9
   obtain⟨v,w',rfl,rfl,e2,s2⟩:=hI9
   rw[De,Mz] at e2
   ext
   refine QM (Ot e2) ?_
   have Fy:(((xs.map fun x=>decide (u <+: x.1)).any id)=true)↔u∈begs xs:=by
    rw[WZ C5]
    simp
   have s02:=s1.trans s2
   by_cases hm:u∈begs xs
   ·simp only[Fy.mpr hm]
    ext
    have Hf:Mf (begs xs) u=u:=by rw[Go] at hm ⊢;unfold Mf;rw[B4 hm]
    rw[ht,Hf] at q
    exact q H2 s02
   ·simp only[Bool.eq_false_iff.mpr fun z=>hm (Fy.mp z)]
    ext
    refine⟨_,_,s02,rfl,?_⟩
    rw[ht]
    rw[Go] at hm ⊢
    conv=>lhs;unfold Mf
    rw[B3 hm]
 ·intro σ H1 hI9
  obtain⟨v2,v3,s1,rfl,ht⟩:=hI9
  rw[show ((t.length:Int)).toNat=t.length by omega,ax] at ht
  ext
  rw[ht] at q
  exact q H1 s1
theorem hZ (T:Txt mg tk)(F:Fun K "_law_most" "_law_most" s_law_most f fd):FnOk P w K mg base CX0 1 f fd ["_law_patterns","_law_text_here","_law_behind","_law_most_here"] Y9:=by
 refine F.okk ["_law_patterns","_law_text_here","_law_behind","_law_most_here","_law_signs","_law_numbers_here"] ?_
 rintro _ _ _ _ H _ _ _ hr ⟨a,ys,xs,t,n,i,rfl,ha,Cv,ok,ht,hn,q⟩ nd
 have De:ys.length=xs.length:=by have:=Cv.length;simpa using this
 refine⟨_,(LM (MN MH rfl (Mx (K:=K) (pv 0)) (Pw rfl (MU (pnm 4 nd) (MU (pnm 5 nd) OQ)))
   (LQ (Me (PW.pt (QD (L_ o_ge (pcb (Mq (K:=K)) T.z_len (pa1 (pv 4))) (pv 2) (L6 _)) (Qz (L_ (o_eq hr.units) (Nk (Nm (K:=K)) (pv 1) (MV (pcb (Ob rfl) T.z_max (LO LL (pa1 (LX Pj (pcb (Mq (K:=K)) T.z_len (pa1 (pv 1))) (pcb (Mq (K:=K)) T.z_len (pa1 (pv 4)))))))) NL) (pv 4) (L6 _)))))
   (LQ (pst 3 nd (pcb (Ob rfl) T.z_max (LO (pv 3) (pa1 (pix K (pv 5) (LX Pj (pcb (Mq (K:=K)) T.z_len (pa1 (pv 4))) (pv 2))))))))
   Mg)))
  (LQ (LY (pv 3)))),?_⟩
 walk_at "s0"
 ext
 refine NJ (K:=K) (xs:=ys) (fun m σ H'=>∃(v4 v5:Option V),H'=H/\σ=[some (.ref a),some (.str (S t)),some (.int (n:Int)),some (.int (Nc (xs.take m) t n i)),v4,v5])
  ⟨none,none,rfl,rfl⟩ (fun m σ H' _ hI9=>by rcases hI9 with ⟨_,_,e,_⟩;exact SqL.of (e▸ha)) ?_ ?_
 ·intro m x σ H3 hx hI9
  obtain⟨v4,v5,rfl,rfl⟩:=hI9
  have hm:m < xs.length:=by have:=(MJ.mp hx).1;omega
  obtain⟨x',d',DV,EF,Gk⟩:=IsL.get Cv (i:=m) (by rw[LP];exact hm)
  rw[hx] at DV
  cases DV
  rw[Ma,LS hm] at EF
  cases EF
  obtain⟨pa,nt,rfl,Er,Es⟩:=P0 Gk
  obtain⟨Ef,DA,FU⟩:=ok.1 _ (MD hm)
  rw[MA,LS hm,show (some xs[m]).toList=[xs[m]] from rfl,hV]
  generalize Nc (xs.take m) t n i=g
  generalize xs[m]=x at Ef DA FU Er Es
  refine SE Er rfl (M0 (MY (M0 (MY (Pl ?_)))))
  ext
  by_cases c1:n<=x.1.length
  ·refine NP (by omega) ?_
   ext
   by_cases c2:x.1 <:+ t
   ·refine NP (by rw[suf_cut.mpr c2]) ?_
    ext
    refine OY (v:=.int (x.2.getD (x.1.length - n) 0)) (So Es) (Og (by omega) (by rw[show (((x.1.length:Nat):Int) - (n:Int)).toNat=x.1.length - n by omega,Ma,L4,LS (show x.1.length - n < x.2.length by omega)];rfl)) ?_
    ext
    rw[show (if n<=x.1.length/\x.1 <:+ t then mx g (x.2.getD (x.1.length - n) 0) else g)=mx g (x.2.getD (x.1.length - n) 0) from B4 ⟨c1,c2⟩]
    exact⟨_,_,rfl,rfl⟩
   ·refine ND (fun z=>c2 (suf_cut.mp (S_inj.mp z))) ?_
    ext
    rw[B3 fun z=>c2 z.2]
    exact⟨_,_,rfl,rfl⟩
  ·refine ND (by omega) ?_
   ext
   rw[B3 fun z=>c1 z.1]
   exact⟨_,_,rfl,rfl⟩
 ·intro σ H3 hI9
  obtain⟨v4,v5,rfl,rfl⟩:=hI9
  rw[De,Mz]
  ext
  exact q
theorem ia (T:Txt mg tk)(F:Fun K "_law_next_views" "_law_next_views" s_law_next_views f fd)(CA:Dn P w K mg base "_law_tail" 1 ["_law_every","_law_text_here"] spTl)(CB:Dn P w K mg base "_law_most" 1 ["_law_patterns","_law_text_here","_law_behind","_law_most_here"] Y9):FnOk P w K mg base CX0 2 f fd ["_law_one","_law_other","_law_view","_law_sign"] spNv:=by
 refine F.okk ["_law_one","_law_other","_law_view","_law_sign","_law_tail_here","_law_behind","_law_ones","_law_others","_law_text_here","_law_end","_law_more"] ?_
 rintro _ _ _ _ H _ Q _ hr ⟨a,b,va,one,other,v,c,rfl,⟨ya,yb,ha,hb,Dv,Ey,ok1,ok2⟩,Jn,okv,ev,q⟩ nd
 refine⟨_,(LM (N8 (pv 2) (Pw rfl (MU (pnm 4 nd) (MU (pnm 5 nd) (MU (pnm 6 nd) (MU (pnm 7 nd) OQ))))))
  (LM (pst 8 nd (LX Mb (pv 4) (pv 3)))
  (LM (pst 9 nd (L0 CA hr.LV rfl (LO (LX Mb (pv 0) (pv 1)) (pa1 (pv 8)))))
  (LM (Me (L_ o_is (pv 5) Qj (L6 _))
   (LM (Me (L_ (o_eq hr.units) (pv 3) (L8 Ny) (L6 _))
   (LQ (LY (MZ Ph)))
   Mg)
  (LM (pst 6 nd (L0 CB hr.LV rfl (LO (pv 0) (LO (pv 8) (LO LL (pa1 LL))))))
  (LQ (LY (MZ (LO (Nw (LO (pv 9) (LO Qj (LO LL (pa1 LL))))) (pa1 (Nw (LO (pv 9) (LO LL (LO (pv 6) (pa1 (L0 CB hr.LV rfl (LO (pv 1) (LO (pv 8) (LO LL (pa1 LL)))))))))))))))))
   Mg)
  (LM (Me (PW.pt (QD (L_ (o_eq hr.units) (pv 3) (L8 Ny) (L6 _)) (Qz (L_ (o_eq hr.units) (pv 5) LL (L6 _)))))
   (LQ (LY (MZ Ph)))
   Mg)
  (LM (pst 10 nd (LX Mb (pv 5) LL))
  (LM (pst 6 nd (L0 CB hr.LV rfl (LO (pv 0) (LO (pv 8) (LO (pv 10) (pa1 (pv 6)))))))
  (LQ (LY (MZ (pa1 (Nw (LO (pv 9) (LO (pv 10) (LO (pv 6) (pa1 (L0 CB hr.LV rfl (LO (pv 1) (LO (pv 8) (LO (pv 10) (pa1 (pv 7)))))))))))))))))))))),?_⟩
 walk_at "s0"
 obtain⟨vt,vb,vi,vj⟩:=v
 have Gp:vt.length<=100:=okv.1
 have D6:(vt++[c]).length<=1000:=by rw[Md];show _+1<=_;omega
 have D5:=Dv.length
 have DH:=Ey.length
 rw[LP] at D5 DH
 have ev:H va=some (.tup [.str (S vt),bV vb,.int vi,.int vj]):=ev
 ext
 refine SE ev rfl (M0 (MY (M0 (MY (M0 (MY (M0 (MY (Pl ?_)))))))))
 ext
 refine OX ha hb (szn (by omega)) fun p hp=>?_
 obtain⟨H1,E8,s1,ep⟩:=MS hp (.lst (ya++yb))
 rw[E8]
 ext
 refine⟨p,ya++yb,one++other,vt++[c],rfl,ep,?_,⟨fun x hx=>(L7.mp hx).elim (ok1.1 x) (ok2.1 x),by rw[Md];exact Jn⟩,D6,fun H2 s2=>?_⟩
 ·rw[L3]
  exact IsL.append (IsL.same s1 Dv) (IsL.same s1 Ey)
 have s02:=s1.trans s2
 have FP:=s02 _ _ ha
 have EE:=s02 _ _ hb
 have FD:=IsL.same s02 Dv
 have HE:=IsL.same s02 Ey
 unfold rawV at q
 generalize Mf (begs (one++other)) (vt++[c])=tl at q ⊢
 cases vb with
 | none =>
  ext
  by_cases hc:c=46
  ·subst hc
   refine NP rfl ?_
   ext
   intro r B'
   exact q r [] _ LN (by simp[L2.IsL]) (s02.trans (LW B' _))
  ·refine ND (fun z=>hc (Zt.mp (S_inj.mp z))) ?_
   simp only[hc,if_false] at q
   ext
   refine⟨a,ya,one,vt++[c],0,0,rfl,FP,FD,ok1,D6,by decide,?_⟩
   ext
   intro p1 Ef
   obtain⟨H3,E9,s3,ep1⟩:=MS Ef (.tup [.str (S tl),.non,.int 0,.int 0])
   rw[E9]
   have Lr:=s3 _ _ EE
   ext
   refine⟨b,yb,other,vt++[c],0,0,rfl,Lr,IsL.same s3 HE,ok2,D6,by decide,?_⟩
   ext
   intro p2 DA
   obtain⟨H4,E_,s4,ep2⟩:=MS DA (.tup [.str (S tl),.int 0,.int (Nc one (vt++[c]) 0 0),.int (Nc other (vt++[c]) 0 0)])
   rw[E_]
   ext
   intro r B'
   have s5:=LW B' (.lst [.ref p1,.ref p2])
   refine q r _ _ LN ?_ (s02.trans (s3.trans (s4.trans s5)))
   simp only[L',MT,L2.IsL]
   exact⟨Tb (v:=⟨tl,none,0,0⟩) (s5 _ _ (s4 _ _ ep1)),Tb (v:=⟨tl,some 0,_,_⟩) (s5 _ _ ep2),trivial⟩
 | some n =>
  have hn:n<=100:=okv.2 n rfl
  have more:¬ (c=46/\n=0)->∀(p2:Ac) (H3:Hp),Same H2 H3->H3 p2=some (.tup [.str (S tl),.int ((n:Int)+1),.int (Nc one (vt++[c]) (n+1) vi),.int (Nc other (vt++[c]) (n+1) vj)])->∀ r,H3 r=none->Q (.ref r) (upd H3 r (.lst [.ref p2])):=fun hc p2 H3 s3 e3 r B'=>by
   have s5:=LW B' (.lst [.ref p2])
   simp only[hc,if_false] at q
   refine q r _ _ LN ?_ (s02.trans (s3.trans s5))
   simp only[L',MT,L2.IsL]
   exact⟨Tb (v:=⟨tl,some (n+1),_,_⟩) (s5 _ _ e3),trivial⟩
  rw[show bV (some n)=V.int (n:Int) from rfl]
  ext
  by_cases hc:c=46/\n=0
  ·obtain⟨rfl,rfl⟩:=hc
   refine NP rfl ?_
   ext
   intro r B'
   exact q r [] _ LN (by simp[L2.IsL]) (s02.trans (LW B' _))
  have h2:c≠46∨c=46/\n≠0:=by omega
  rcases h2 with h2 | ⟨rfl,h2⟩
  all_goals
   first
    | refine ND (fun z=>h2 (Zt.mp (S_inj.mp z))) ?_
    | (refine NP rfl ?_;ext;refine ND (fun z=>h2 (by injection z with z;omega)) ?_)
   ext
   refine⟨a,ya,one,_,n+1,vi,rfl,FP,FD,ok1,D6,by omega,?_⟩
   ext
   refine⟨b,yb,other,_,n+1,vj,rfl,EE,HE,ok2,D6,by omega,?_⟩
   ext
   intro p2 DA
   obtain⟨H4,E_,s4,ep2⟩:=MS DA (.tup [.str (S tl),.int ((n:Int)+1),.int (Nc one (vt++[_]) (n+1) vi),.int (Nc other (vt++[_]) (n+1) vj)])
   rw[E_]
   ext
   exact more hc p2 H4 s4 ep2
noncomputable abbrev s_law_closed:Au:=top 87
theorem Ua {H:Hp}:∀{ws:List View}{zs:List V},L2.IsL H zs (ws.map NN)->∃ es:List (View×Ac),es.map (·.1)=ws/\zs=es.map (fun e=>V.ref e.2)/\∀ e∈es,H e.2=some (.tup (vdat e.1))
 | [],[],_=>⟨[],rfl,rfl,fun e he=>nomatch he⟩
 | [],_::_,h=>by simp[L2.IsL] at h
 | _::_,[],h=>by simp[L2.IsL] at h
 | v::ws,z::zs,h=>by
  simp only[L',L2.IsL] at h
  obtain⟨a,rfl,ha⟩:=Xo h.1
  obtain⟨es,h1,h2,h3⟩:=Ua h.2
  refine⟨(v,a)::es,by rw[L',h1],by rw[L',h2],fun e he=>?_⟩
  rcases Mc.mp he with rfl | he
  ·exact ha
  ·exact h3 e he
noncomputable def tkv (es:List (View×Ac))(f:View->Bool):List (List (Option Key)×Ac×V):=es.map fun e=>(vk e.1,e.2,V.bl (f e.1))
theorem Y_ (es:List (View×Ac))(f:View->Bool):(tkv es f).length=es.length:=by unfold tkv;rw[LP]
theorem Y' {H:Hp}{es:List (View×Ac)}{f:View->Bool}(h:∀ e∈es,H e.2=some (.tup (vdat e.1))):KO viewKind H (tkv es f):=fun e he=>by
 unfold tkv at he
 obtain⟨x,hx,rfl⟩:=MC.mp he
 exact Qo (h x hx)
theorem tkv_val {es:List (View×Ac)}{f:View->Bool}{v:View}(h:v∈es.map (·.1)):valX (tkv es f) (vk v)=some (.bl (f v)):=by
 induction es with
 | nil=>cases h
 | cons e r ih =>
  unfold valX tkv
  rw[L',Nv]
  by_cases hx:e.1=v
  ·rw[<- hx];simp
  ·have hk:decide (vk e.1=vk v)=false:=B1 fun z=>hx (Qb z)
   simp only[hk]
   rcases Mc.mp h with h | h
   ·exact absurd h.symm hx
   ·have:=ih h
    unfold valX tkv at this
    exact this
theorem tkv_new {es:List (View×Ac)}{f:View->Bool}{e:View×Ac}(h:e.1∉es.map (·.1)):putX (tkv es f) (vk e.1) e.2 (.bl (f e.1))=tkv (es++[e]) f:=by
 unfold putX
 have:((tkv es f).any fun x=>decide (x.1=vk e.1))=false:=by
  rw[Zu]
  intro x hx
  unfold tkv at hx
  obtain⟨y,hy,rfl⟩:=MC.mp hx
  intro z
  exact h (Qb (of_decide_eq_true z)▸MC.mpr ⟨y,hy,rfl⟩)
 rw[this]
 unfold tkv
 rw[L3];rfl
theorem ib (h1:OkP one) (h2:OkP other) (h:Path one other L u v) (hb:v.b=none):v.i=0/\v.j=0:=by
 obtain⟨g,rfl,_⟩:=h.law h1 h2
 cases g with
 | none=>exact⟨rfl,rfl⟩
 | some g=>cases hb
theorem Za (h1:OkP one) (h2:OkP other) (t:List Nat) (n:Nat) (hi:0<=i) (hj:0<=j):
  Nc one t n i=tell one (Mf (begs (one++other)) t) n i/\Nc other t n j=tell other (Mf (begs (one++other)) t) n j:=by
 have hs:=QU (begs (one++other)) t
 exact⟨ae h1.len (fun x hx=>⟨fun h=>Tv (L7.mpr (.inl hx)) h,fun h=>h.trans hs⟩) n hi,ae h2.len (fun x hx=>⟨fun h=>Tv (L7.mpr (.inr hx)) h,fun h=>h.trans hs⟩) n hj⟩
theorem raw_ok (s1:SmP one) (s2:SmP other) (ha:AllV one other L ws) (hv:v∈ws) (hc:c∈L++[46]) (hy:y∈rawV one other v c):
  (y.b=none/\y∈ws)∨∃ n,y.b=some n/\(((c=46∨y.t.length < n)/\y.i % 2=y.j % 2)∨(c≠46/\¬ y.t.length < n/\y∈ws)):=by
 obtain⟨u,hp⟩:=ha.reach v hv
 have hg:=hp.good s1 s2
 have hz:=ib s1.1 s2.1 hp
 obtain⟨Df,GV⟩:=ha.done v hv
 have Kg:c≠46->c∈L:=fun h=>(L7.mp hc).resolve_right fun z=>h (Ml.mp z)
 obtain⟨vt,vb,vi,vj⟩:=v
 have hi:0<=vi:=hg.2.2.1.1
 have hj:0<=vj:=hg.2.2.2.1
 cases vb with
 | none =>
  obtain⟨z1,z2⟩:=hz rfl
  have z1:vi=0:=z1
  have z2:vj=0:=z2
  subst z1 z2
  simp only[rawV] at hy
  split at hy
  ·cases hy
  rename_i FN
  obtain⟨e1,e2⟩:=Za s1.1 s2.1 (vt++[c]) 0 (OL 0) (OL 0)
  rw[e1,e2] at hy
  have hm:y∈No one other ⟨vt,none,0,0⟩ c:=hy
  have hw:=(GV c (Kg FN)).2 y hm
  rcases Mc.mp hy with rfl | hy
  ·exact .inl ⟨rfl,hw⟩
  ·cases Ml.mp hy
   exact .inr ⟨0,rfl,.inr ⟨FN,R1 _,hw⟩⟩
 | some n =>
  right
  simp only[rawV] at hy
  split at hy
  ·cases hy
  rename_i FN
  cases Ml.mp hy
  refine⟨n+1,rfl,?_⟩
  by_cases Ev:c=46
  ·subst Ev
   left
   refine⟨.inl rfl,?_⟩
   cases n with
   | zero=>exact absurd ⟨rfl,rfl⟩ FN
   | succ m =>
    have:=Df _ (Ml.mpr rfl)
    show Nc one _ _ _ % 2=Nc other _ _ _ % 2
    rw[ae s1.1.len (fun x _=>Iff.rfl) _ hi,ae s2.1.len (fun x _=>Iff.rfl) _ hj]
    have h2:=(decide_eq_false_iff_not.mp this)
    exact jk.mp h2
  ·obtain⟨e1,e2⟩:=Za s1.1 s2.1 (vt++[c]) (n+1) hi hj
   rw[e1,e2]
   obtain⟨k1,k2⟩:=GV c (Kg Ev)
   by_cases hs:Q2 one other ⟨vt,some n,vi,vj⟩ c=true
   ·left
    unfold NV at k1
    rw[B4 hs] at k1
    exact⟨.inr (of_decide_eq_true hs),jk.mp (decide_eq_false_iff_not.mp (k1 _ (Ml.mpr rfl)))⟩
   ·right
    unfold No at k2
    rw[B3 hs] at k2
    exact⟨Ev,fun z=>hs (B2 z),k2 _ (L7.mpr (.inr (Ml.mpr rfl)))⟩
theorem raw_t (h:y∈rawV one other v c):y.t.length<=v.t.length+1:=by
 have ht:=(QU (begs (one++other)) (v.t++[c])).length_le
 rw[Md] at ht
 obtain⟨vt,vb,vi,vj⟩:=v
 cases vb <;> simp only[rawV] at h <;> split at h
 ·cases h
 ·rcases Mc.mp h with rfl | h
  ·exact ht
  ·cases Ml.mp h;exact ht
 ·cases h
 ·cases Ml.mp h;exact ht
def Zb:Sp:=fun vs H Q _=>∃(a b l:Ac) (one other:List Pat) (zs:List V) (ws:List View),vs=[.ref a,.ref b,.ref l]/\Two H a b one other/\SmP one/\SmP other/\H l=some (.lst zs)/\L2.IsL H zs (ws.map NN)/\AllV one other (ltr (one++other)) ws/\∀ H',Same H H'->Q (.bl true) H'
theorem ic (T:Txt mg tk)(F:Fun K "_law_closed" "_law_closed" s_law_closed f fd)(CA:Dn P w K mg base "_law_tail" 1 ["_law_every","_law_text_here"] spTl)(CC:Dn P w K mg base "_law_next_views" 2 ["_law_one","_law_other","_law_view","_law_sign"] spNv):FnOk P w K mg base CX0 3 f fd ["_law_one","_law_other","_law_views"] Zb:=by
 refine F.okk ["_law_one","_law_other","_law_views","_law_every","_law_used","_law_signs","_law_there","_law_view","_law_sign","_law_after","_law_settled"] ?_
 rintro _ _ _ s H _ _ _ hr ⟨a,b,l,one,other,zs,ws,rfl,Kh,sm1,sm2,el,Ls,Dr,q⟩ nd
 obtain⟨ya,yb,ha,hb,Dv,Ey,ok1,ok2⟩:=id Kh
 obtain⟨es,E2,rfl,FF⟩:=Ua Ls
 have FV:∀ v∈ws,GoodV one other v:=fun v hv=>by
  obtain⟨u,hp⟩:=Dr.reach v hv
  exact hp.good sm1 sm2
 have ER:=X5 sm1 sm2 Dr.nd FV
 have GD:es.length=ws.length:=by rw[<- E2,LP]
 have Fp:(es.map fun e=>V.ref e.2).length=es.length:=LP ..
 have D5:=Dv.length
 have DH:=Ey.length
 rw[LP] at D5 DH
 have Ff:=sm1.2.2
 have GM:=sm2.2.2
 have De:(ya++yb).length=(one++other).length:=by rw[Md,Md];omega
 have Ea:(one++other).length<=20:=by rw[Md];omega
 have Cv:L2.IsL H (ya++yb) ((one++other).map patD):=by
  rw[L3]
  exact IsL.append Dv Ey
 have GE:=Q4 sm1 sm2
 have okx:OkP (one++other):=⟨fun x hx=>(L7.mp hx).elim (ok1.1 x) (ok2.1 x),by omega⟩
 refine⟨_,(LM (pst 3 nd (L8 QQ))
  (LM (OR (i:=4) nd rfl (Or.inr rfl) (M9 (K:=K) OJ Rt Ru RI (L8 Oh) (pa1 (Nl ["_law_pattern_here"] [none] rfl (by kernel_rfl) rfl (Mx (K:=K) (LX Mb (pv 0) (pv 1))) (fun _ _ _ _=>(ME (i:=0) (show (["_law_pattern_here"]:List Str).Nodup by decide +kernel) rfl (Or.inl rfl) (Or.inr rfl))) (fun _ _ _ _=>Nq) (fun _ _ _ _=>(pix K (pv 0) LL))))))
  (LM (UI (i:=5) ["_law_used","_law_letter"] [some 4,none] rfl (by kernel_rfl) rfl nd rfl rfl (Mx (K:=K) (pv 3)) (fun _ _ _ _=>(ME (i:=1) (show (["_law_used","_law_letter"]:List Str).Nodup by decide +kernel) rfl (Or.inl rfl) (Or.inr rfl))) (fun _ _ _ _=>(RH (L_ o_in (pv 1) (pv 0) (by with_unfolding_all rfl)))) (fun _ _ _ _=>(pv 1)))
  (LM (pst 5 nd (LX Mb (pv 5) (Nk (Nm (K:=K)) (Nl ["_law_used","_law_letter"] [some 4,none] rfl (by kernel_rfl) rfl (Mx (K:=K) (pv 3)) (fun _ _ _ _=>(ME (i:=1) (show (["_law_used","_law_letter"]:List Str).Nodup by decide +kernel) rfl (Or.inl rfl) (Or.inr rfl))) (fun _ _ _ _=>(RH (L_ VX (pv 1) (pv 0) (by with_unfolding_all rfl)))) (fun _ _ _ _=>(pv 1))) NL (MV LL))))
  (LM (pst 6 nd (px_new (N:=viewKind) (P:=P) (w:=w) rfl rfl))
  (LM (MN MH rfl (Mx (K:=K) (pv 2)) (pnm 7 nd)
   (LQ (Xv (N:=viewKind) (P:=P) (w:=w) rfl rfl (Ti hr) (pv 6) (pv 7) Ni rfl)))
  (LM (Me (PW.pt (Pf (L_ (o_ne hr.units) (pcb (px_len (N:=viewKind) (P:=P) (w:=w) rfl rfl) T.z_len (pa1 (pv 6))) (pcb (Mq (K:=K)) T.z_len (pa1 (pv 2))) (L6 _)) (QC (RA (Tj (N:=viewKind) (P:=P) (w:=w) rfl rfl (Ti hr) (Nw (LO (L0 CA hr.LV rfl (LO (LX Mb (pv 0) (pv 1)) (pa1 (L8 Ny)))) (LO Qj (LO LL (pa1 LL))))) (pv 6))))))
   (LQ (LY Ni))
   Mg)
  (LM (MN MH rfl (Mx (K:=K) (pv 2)) (pnm 7 nd)
   (LQ (MN MH rfl (Mx (K:=K) (LX Mb (pv 5) (MZ (pa1 (L8 Ny))))) (pnm 8 nd)
   (LQ (MN MH rfl (Mx (K:=K) (L0 CC hr.LV rfl (LO (pv 0) (LO (pv 1) (LO (pv 7) (pa1 (pv 8))))))) (pnm 9 nd)
   (LM (pst 10 nd (RB (NK VU (pix K (pv 9) LL) Qj (L6 _)) (Pu (R4 (NK (o_eq hr.units) (pv 8) (L8 Ny) (L6 _)) (Pu (NK o_lt (pcb (Mq (K:=K)) T.z_len (pa1 (pix K (pv 9) LL))) (pix K (pv 9) LL) (L6 _)))))))
  (LQ (Me (PW.pt (Pf (PW.pt (QD (NC (pv 10) (fun _=>rfl)) (Qz (L_ (o_ne hr.units) (LX N5 (pix K (pv 9) LL) LL) (LX N5 (pix K (pv 9) LL) LL) (L6 _))))) (QC (PW.pt (QD (OO (NC (pv 10) (fun _=>rfl))) (Qz (RA (Tj (N:=viewKind) (P:=P) (w:=w) rfl rfl (Ti hr) (pv 9) (pv 6)))))))))
   (LQ (LY Ni))
   Mg))))))))
  (LQ (LY Ni)))))))))),?_⟩
 walk_at "s0"
 ext
 refine OX ha hb (szn (by omega)) fun p1 Ef=>?_
 obtain⟨H1,E8,s1,ep1⟩:=MS Ef (.lst (ya++yb))
 rw[E8]
 ext
 intro r1 EN
 generalize Ds:one++other=xs at De Ea Cv GE okx Dr
 refine Pk (K:=K) (xs:=ya++yb) (fun i B6 σ H'=>∃ v,σ=[v]/\B6=((xs.take i).map fun x=>S x.1).map V.str/\H' r1=some (.lst B6)/\Same H1 H') (fun i B6 σ H' _ hI9=>by rcases hI9 with ⟨_,_,_,_,s⟩;exact SqL.of (s _ _ ep1))
  ⟨none,rfl,rfl,LN,LW EN _⟩ (fun i B6 σ H' hI9=>by rcases hI9 with ⟨_,_,e,e2,_⟩;exact⟨e2,by rw[e];simp;omega⟩) (szn (by omega)) ?_ ?_
 ·intro i B6 σ H2 hi hI9
  obtain⟨v,rfl,rfl,e2,s2⟩:=hI9
  rw[De] at hi
  obtain⟨y,d,hy,Df,hI⟩:=IsL.get (IsL.same (s1.trans s2) Cv) (show i < (xs.map patD).length by simpa using hi)
  rw[Ma,LS hi] at Df
  cases Df
  obtain⟨a2,t2,rfl,ea2,et2⟩:=P0 hI
  rw[L4,hy,Ps]
  ext
  refine⟨e2,_,rfl,?_,LN,MW EN s2⟩
  rw[MA,LS hi,L3,L3];rfl
 intro B6 σ H2 hI9
 obtain⟨v,rfl,rfl,e2,s2⟩:=hI9
 rw[De,Mz] at e2
 have s02:=s1.trans s2
 ext
 refine RK (ys:=xs.map fun x=>S x.1) (Ot e2) (by have:=Yd (xs:=xs) fun x hx=>MX (GE x hx) (by decide:8<=22);rw[Mi];simp only[NO,ZJ];omega) ?_
 have hj:Qh (S []) (xs.map fun x=>S x.1)=S (Pn xs):=by
  have:=O5 [] (xs.map (·.1))
  rw[MQ] at this
  exact this
 rw[hj]
 ext
 intro r2 Ed
 have Gr:H r2=none:=s02.free Ed
 have K7:LETL.length=26:=rfl
 refine UL (fun i B6 σ H'=>∃ v,σ=[some (.str (S (Pn xs))),v]/\B6=((LETL.take i).filter (Mv xs)).map (fun c=>V.str (S [c]))/\H' r2=some (.lst B6)/\Same H H')
  ⟨none,rfl,rfl,LN,s02.trans (LW Ed _)⟩ (fun i B6 σ H' ⟨_,_,e,e2,_⟩=>⟨e2,by rw[e,LP];refine MX (Oz _ _) ?_;rw[Mt];omega⟩) (szn (by rw[Nx,Mi];decide)) ?_ ?_
 ·intro i B6 σ H3 hi hI9
  obtain⟨v,rfl,rfl,e3,s3⟩:=hI9
  rw[Nx,Mi] at hi
  rw[UM hi]
  ext
  rw[Wk,Q7,Up]
  have ht:LETL.take (i+1)=LETL.take i++[LETL[i]]:=by rw[MA,LS hi];rfl
  by_cases hc:Mv xs LETL[i]=true
  ·rw[hc]
   ext
   refine⟨e3,_,rfl,?_,LN,MW Gr s3⟩
   rw[ht,Op,Ud hc,L3];rfl
  ·rw[Uo] at hc
   rw[hc]
   ext
   refine⟨_,rfl,?_,e3,s3⟩
   rw[ht,Op,Ue (by rw[hc];exact Mj),UX,OD]
 intro B6 σ H3 hI9
 obtain⟨v,rfl,rfl,e3,s3⟩:=hI9
 rw[Nx,Mi,Mz] at e3
 ext
 intro r3 Fg
 have Gs:H r3=none:=s3.free Fg
 have E4:r2≠r3:=fun z=>by rw[<- z,e3] at Fg;cases Fg
 refine UL (fun i B6 σ H'=>∃ v,σ=[some (.str (S (Pn xs))),v]/\B6=((LETL.take i).filter fun c=>!(Mv xs c)).map (fun c=>V.str (S [c]))/\H' r3=some (.lst B6)/\Same H H'/\H' r2=some (.lst ((LETL.filter (Mv xs)).map (fun c=>V.str (S [c])))))
  ⟨none,rfl,rfl,LN,s3.trans (LW Fg _),by rw[LU E4];exact e3⟩ (fun i B6 σ H' ⟨_,_,e,e2,_,_⟩=>⟨e2,by rw[e,LP];refine MX (Oz _ _) ?_;rw[Mt];omega⟩) (szn (by rw[Nx,Mi];decide)) ?_ ?_
 ·intro i B6 σ H4 hi hI9
  obtain⟨v,rfl,rfl,e4,s4,e42⟩:=hI9
  rw[Nx,Mi] at hi
  rw[UM hi]
  ext
  rw[Wk,Q7,aP]
  have ht:LETL.take (i+1)=LETL.take i++[LETL[i]]:=by rw[MA,LS hi];rfl
  by_cases hc:(!(Mv xs LETL[i]))=true
  ·rw[hc]
   ext
   refine⟨e4,_,rfl,?_,LN,MW Gs s4,by rw[LU E4];exact e42⟩
   rw[ht,Op,Ud (p:=fun c=>!(Mv xs c)) hc,L3];rfl
  ·rw[Uo] at hc
   rw[hc]
   ext
   refine⟨_,rfl,?_,e4,s4,e42⟩
   rw[ht,Op,Ue (p:=fun c=>!(Mv xs c)) (by rw[hc];exact Mj),UX,OD]
 intro B6 σ H4 hI9
 obtain⟨v,rfl,rfl,e4,s4,e42⟩:=hI9
 rw[Nx,Mi,Mz] at e4
 ext
 refine Of (SqL.of e4) fun r5 Fx=>?_
 have Gu:r2≠r5:=fun z=>by rw[<- z,e42] at Fx;cases Fx
 ext
 refine OX (by rw[LU Gu];exact e42) LN (szn (by
  have h1:=Oz (Mv xs) LETL
  have h2:=Oz (fun c=>!(Mv xs c)) LETL
  have h3:=RF ((LETL.filter fun c=>!(Mv xs c)).map fun c=>V.str (S [c])) none (some 1)
  rw[LP] at h3 ⊢
  omega)) fun r6 Ih=>?_
 have s5:=s4.trans (LW Fx (.lst (cutV ((LETL.filter fun c=>!(Mv xs c)).map fun c=>V.str (S [c])) none (some 1))))
 obtain⟨H6,Jo,s6,e6⟩:=MS Ih (.lst (((LETL.filter (Mv xs)).map fun c=>V.str (S [c]))++cutV ((LETL.filter fun c=>!(Mv xs c)).map fun c=>V.str (S [c])) none (some 1)))
 rw[Jo]
 have Hn:((LETL.filter (Mv xs)).map fun c=>V.str (S [c]))++cutV ((LETL.filter fun c=>!(Mv xs c)).map fun c=>V.str (S [c])) none (some 1)=(ltr xs).map fun c=>V.str (S [c]):=by
  rw[Ye]
  unfold ltr
  rw[L3,UZ]
 rw[Hn] at e6
 have s06:=s5.trans s6
 have Ho:=X6 xs
 ext
 refine i_xnew fun wd GN=>?_
 have Jp:H wd=none:=s06.free GN
 obtain⟨H7,Jq,s7,ewd⟩:=MS GN (DX viewKind P w wd [])
 rw[Jq]
 have s07:=s06.trans s7
 have el7:=s07 _ _ el
 ext
 refine NJ (K:=K) (xs:=es.map fun e=>V.ref e.2) (fun i σ H'=>∃ x7,σ=[some (.ref a),some (.ref b),some (.ref l),some (.str (S LETL)),some (.str (S (Pn xs))),some (.ref r6),some (.ref wd),x7,none,none,none]/\H' wd=some (DX viewKind P w wd (tkv (es.take i) fun _=>true))/\Same H H'/\H' r6=some (.lst ((ltr xs).map fun c=>V.str (S [c]))))
  ⟨none,rfl,ewd,s07,s7 _ _ e6⟩ (fun i σ H' _ hI9=>by rcases hI9 with ⟨_,_,_,s,_⟩;exact SqL.of (s _ _ el)) ?_ ?_
 ·intro i y σ H8 hy hI9
  obtain⟨x7,rfl,e8,s8,e68⟩:=hI9
  have hi:i < es.length:=by have:=(MJ.mp hy).1;omega
  rw[Ma,LS hi] at hy
  cases hy
  have Fe:es.take (i+1)=es.take i++[es[i]]:=by rw[MA,LS hi];rfl
  have Gv:=Y' (f:=fun _=>true) fun e (he:e∈es.take i)=>s8 _ _ (FF e (Ro he))
  have Ga:es[i].1∉(es.take i).map (·.1):=fun hm=>by
   obtain⟨j,hj,Ki⟩:=Ug.mp hm
   rw[LP,Mt] at hj
   rw[Zy,List.getElem_take] at Ki
   refine(ak.mp (show (es.map (·.1)).Nodup from E2▸Dr.nd)) j i (by rw[LP];omega) (by rw[LP];omega) (by omega) ?_
   rw[Zy,Zy]
   exact Ki
  ext
  refine Xx ?_
  ext
  refine⟨wd,_,rfl,⟨_,vk es[i].1,es[i].2,e8,Gv,rfl,Qo (s8 _ _ (FF _ (MD hi))),szlt (by rw[Y_,Mt];omega),rfl⟩,?_⟩
  refine⟨_,rfl,?_,MW Jp s8,by rw[LU (Qi e68 e8 (by intro z;cases z))];exact e68⟩
  rw[LN,Fe,<- tkv_new (f:=fun _=>true) Ga]
 intro σ H8 hI9
 obtain⟨x7,rfl,e8,s8,e68⟩:=hI9
 rw[Fp,Mz] at e8
 have Gv:∀{H'},Same H H'->KO viewKind H' (tkv es fun _=>true):=fun s=>Y' (f:=fun _=>true) fun e (he:e∈es)=>s _ _ (FF e he)
 have el8:=s8 _ _ el
 have inW:∀{y},y∈ws->valX (tkv es fun _=>true) (vk y)=some (.bl true):=fun{y} h=>tkv_val (f:=fun _=>true) (E2▸h)
 ext
 refine⟨wd,_,rfl,e8,Gv s8,?_⟩
 ext
 rw[Y_,Fp]
 refine O0 (by simp) ?_
 ext
 refine i_tB (Ra ?_)
 ext
 refine OX (s8 _ _ ha) (s8 _ _ hb) (szn (by omega)) fun p9 Lu=>?_
 obtain⟨H9,Lv,s9,ep9⟩:=MS Lu (.lst (ya++yb))
 rw[Lv]
 have s09:=s8.trans s9
 ext
 refine⟨p9,ya++yb,xs,[46],rfl,ep9,IsL.same s09 Cv,okx,by decide,fun H10 s10=>?_⟩
 have s010:=s09.trans s10
 ext
 intro fa Jr
 obtain⟨H11,EI,s11,efa⟩:=MS Jr (.tup (vdat (fstV one other)))
 have EI:upd H10 fa (.tup [.str (S (Mf (begs xs) [46])),.non,.int 0,.int 0])=H11:=by rw[<- Ds];exact EI
 rw[EI]
 have s011:=s010.trans s11
 have s811:=s9.trans (s10.trans s11)
 have e11:=s811 _ _ e8
 ext
 refine⟨wd,_,rfl,⟨_,vk (fstV one other),fa,.inl e11,Gv s011,rfl,Qo efa,rfl⟩,_,rfl,?_⟩
 rw[inW Dr.fst]
 have el11:=s011 _ _ el
 ext
 refine NJ (K:=K) (xs:=es.map fun e=>V.ref e.2) (fun i σ H'=>∃ x7 x8 x9 x10,σ=[some (.ref a),some (.ref b),some (.ref l),some (.str (S LETL)),some (.str (S (Pn xs))),some (.ref r6),some (.ref wd),x7,x8,x9,x10]/\Same H11 H')
  ⟨_,_,_,_,rfl,Same.refl _⟩ (fun i σ H' _ hI9=>by rcases hI9 with ⟨_,_,_,_,_,s⟩;exact SqL.of (s _ _ el11)) ?_ ?_
 ·intro i y σ H12 hy hI9
  obtain⟨x7,x8,x9,x10,rfl,s12⟩:=hI9
  rw[Ma] at hy
  obtain⟨⟨v,va⟩,h1,rfl⟩:=Rx.mp hy
  have HF:=Pa h1
  have Kj:v∈ws:=E2▸MC.mpr ⟨_,HF,rfl⟩
  have FA:H va=some (.tup (vdat v)):=FF _ HF
  have e612:=s12 _ _ (s811 _ _ e68)
  ext
  intro pd Lw
  obtain⟨H13,Js,s13,epd⟩:=MS Lw (.lst [.str (S [46])])
  rw[Js]
  have e613:=s13 _ _ e612
  ext
  refine OX e613 epd (szn (by rw[LP];show _+1<=_;omega)) fun ps DI=>?_
  obtain⟨H14,GF,s14,eps⟩:=MS DI (.lst ((ltr xs++[46]).map fun c=>V.str (S [c])))
  have GF:upd H13 ps (.lst (((ltr xs).map fun c=>V.str (S [c]))++[.str (S [46])]))=H14:=by rw[<- GF,L3];rfl
  rw[GF]
  have s1114:=s12.trans (s13.trans s14)
  ext
  refine NJ (K:=K) (xs:=(ltr xs++[46]).map fun c=>V.str (S [c])) (fun j σ H'=>∃ x8 x9 x10,σ=[some (.ref a),some (.ref b),some (.ref l),some (.str (S LETL)),some (.str (S (Pn xs))),some (.ref r6),some (.ref wd),some (.ref va),x8,x9,x10]/\Same H14 H')
   ⟨_,_,_,rfl,Same.refl _⟩ (fun j σ H' _ hI9=>by rcases hI9 with ⟨_,_,_,_,s⟩;exact SqL.of (s _ _ eps)) ?_ ?_
  ·intro j z σ H15 hz hI9
   obtain⟨x8,x9,x10,rfl,s15⟩:=hI9
   obtain⟨c,Lx,rfl⟩:∃ c,(ltr xs++[46])[j]?=some c/\z=V.str (S [c]):=by
    rw[Ma] at hz
    obtain⟨c,h1,h2⟩:=Rx.mp hz
    exact⟨c,h1,h2.symm⟩
   have hc:=Pa Lx
   have s1115:=s1114.trans s15
   have s015:=s011.trans s1115
   have okv:=(FV v Kj).ok sm1 sm2
   ext
   refine⟨a,b,va,one,other,v,c,rfl,Kh.same s015,by have:=sm1.2.2;have:=sm2.2.2;omega,okv,s015 _ _ FA,fun r zs2 H16 er Jt s16=>?_⟩
   obtain⟨es2,Ju,rfl,HG⟩:=Ua Jt
   refine Oe (SqL.of er) ?_
   refine NJ (K:=K) (xs:=es2.map fun e=>V.ref e.2) (fun k σ H'=>∃ x9 x10,σ=[some (.ref a),some (.ref b),some (.ref l),some (.str (S LETL)),some (.str (S (Pn xs))),some (.ref r6),some (.ref wd),some (.ref va),some (.str (S [c])),x9,x10]/\Same H16 H')
    ⟨_,_,rfl,Same.refl _⟩ (fun k σ H' _ hI9=>by rcases hI9 with ⟨_,_,_,s⟩;exact SqL.of (s _ _ er)) ?_ ?_
   ·intro k z σ H17 hz hI9
    obtain⟨x9,x10,rfl,s17⟩:=hI9
    rw[Ma] at hz
    obtain⟨e0,h1,rfl⟩:=Rx.mp hz
    have HF:=Pa h1
    have Kk:e0.1∈rawV one other v c:=Ju▸MC.mpr ⟨e0,HF,rfl⟩
    have GS:=s17 _ _ (HG e0 HF)
    have Jv:=raw_ok sm1 sm2 Dr Kj hc Kk
    have Kl:=raw_t Kk
    have Gp:=okv.1
    have s1117:=s1115.trans (s16.trans s17)
    have e17:=s1117 _ _ e11
    have FW:=Gv (s011.trans s1117)
    obtain⟨⟨yt,yb,yi,yj⟩,ay⟩:=e0
    have Kl:yt.length<=v.t.length+1:=Kl
    rcases Jv with ⟨EY,Jw⟩ | ⟨n,Km,⟨E3,GG⟩ | ⟨FN,Cm,Jw⟩⟩
    ·cases EY
     have hey':H17 ay=some (.tup [.str (S yt),.non,.int yi,.int yj]):=GS
     ext
     refine i_tB (Ra ?_)
     ext
     refine⟨wd,_,rfl,⟨_,vk _,ay,.inl e17,FW,rfl,Qo GS,rfl⟩,_,rfl,?_⟩
     rw[inW Jw]
     ext
     exact⟨_,_,rfl,s17⟩
    ·cases Km
     have GS:H17 ay=some (.tup [.str (S yt),.int (n:Int),.int yi,.int yj]):=GS
     have GG:yi % 2=yj % 2:=GG
     ext
     by_cases Ev:c=46
     all_goals
      first
       | refine NP (by rw[Ev]) ?_
       | (refine ND (fun z=>Ev (Zt.mp (S_inj.mp z))) ?_;ext;rw[B2 (show (yt.length:Int) < (n:Int) from Int.ofNat_lt.mpr (E3.resolve_left Ev))])
      ext
      rw[GG]
      refine O0 (by simp) ?_
      ext
      exact⟨_,_,rfl,s17⟩
    ·cases Km
     have hey':H17 ay=some (.tup [.str (S yt),.int (n:Int),.int yi,.int yj]):=GS
     have Cm:¬ yt.length < n:=Cm
     ext
     refine ND (fun z=>FN (Zt.mp (S_inj.mp z))) ?_
     ext
     rw[B1 (show ¬ ((yt.length:Int) < (n:Int)) by omega)]
     ext
     refine i_tB (Ra ?_)
     ext
     refine⟨wd,_,rfl,⟨_,vk _,ay,.inl e17,FW,rfl,Qo GS,rfl⟩,_,rfl,?_⟩
     rw[inW Jw]
     ext
     exact⟨_,_,rfl,s17⟩
   ·intro σ H17 hI9
    obtain⟨x9,x10,rfl,s17⟩:=hI9
    exact⟨_,_,_,rfl,s15.trans (s16.trans s17)⟩
  ·intro σ H15 hI9
   obtain⟨x8,x9,x10,rfl,s15⟩:=hI9
   exact⟨_,_,_,_,rfl,s1114.trans s15⟩
 ·intro σ H12 hI9
  obtain⟨x7,x8,x9,x10,rfl,s12⟩:=hI9
  ext
  exact q H12 (s011.trans s12)
noncomputable abbrev s_law_asked:Au:=top 91
noncomputable abbrev s_law_some_words:Au:=top 92
noncomputable abbrev s_law_wanted:Au:=top 93
theorem Zc:∀{a b:List Int},ZT (toPs (a.map Dt.int)) (toPs (b.map Dt.int))=true->a=b
 | [],[],_=>rfl
 | [],_::_,h=>by simp[toPs,toP,ZT] at h
 | _::_,[],h=>by simp[toPs,toP,ZT] at h
 | x::a,y::b,h=>by
  simp only[L',toPs,toP,ZT,Nn] at h
  have h1:x=y:=by simpa [PyData.eqv] using h.1
  rw[h1,Zc h.2]
theorem ne_ints {a b:List Int}(h:a≠b):eqD (.lst (a.map Dt.int)) (.lst (b.map Dt.int))=false:=by
 cases e:eqD (.lst (a.map Dt.int)) (.lst (b.map Dt.int)) with
 | false=>rfl
 | true =>
  unfold eqD at e
  simp only[toP,PyData.eqv] at e
  exact absurd (Zc (by simpa using e)) h
theorem Zd (a:List Int):okD (.lst (a.map Dt.int)):=(Lay.lst Lay.ints).ok (by decide)
theorem t_brken:Mm "break en "=S (tBRK++[32]++tEN++[32]):=by decide +kernel
theorem t_z:Mm "z"=S [122]:=by decide +kernel
def WOk (w:List Nat):Prop:=Low w/\1<=w.length/\w.length<=20
def Ze (CD C CT:Ac):Sp:=fun vs H Q _=>∃(d td wa:Ac) (v:V) (xs ps:List Pat) (ws:List (List Nat)),vs=[.ref d,v,.ref wa]/\Dsk CD C CT H d td (some ps)/\PsOk ps/\Is H v (Ou xs)/\PsOk xs/\H wa=some (.lst (L9 ws))/\(∀ w∈ws,WOk w/\shw ps w=shw xs w)/\∀ H',Same H H'->Q (.bl true) H'
def Zf:Sp:=fun vs H Q _=>∃(p wa:Ac) (n:Nat) (l:List Nat) (ws:List (List Nat)),vs=[.ref p,.str (S l),.ref wa]/\FeedAt H p n/\n+1000 < RL/\Low l/\2<=l.length/\l.length<=26/\p≠wa/\H wa=some (.lst (L9 ws))/\(∀ w∈ws,WOk w)/\ws.length<=10 /\
 ∀(r:Ac) (ws':List (List Nat)) (H':Hp),H' r=some (.lst (L9 ws'))->(∀ w∈ws',WOk w)->Kept p H H'->Q (.ref r) H'
def Zg:Sp:=fun vs H Q _=>∃(a:Ac) (ys:List V) (xs:List Pat),vs=[.ref a]/\H a=some (.lst ys)/\L2.IsL H ys (xs.map patD)/\PsOk xs/\(∀ k,k < xs.length->¬ Sm xs (Oo xs k))/\∀ H',Same H H'->Q (.bl true) H'
section
variable {P:Ag}{w:Ak}{K:LR}{mg:Str->Option Ab}{base:Ao}{f:Ac}{fd:AB}{tk:Nat->Tok}{cO2 cO3 cO4:Ac}
theorem ie (T:Txt mg tk)(O4:Ow4 K mg cO4)(F:Fun K "_law_asked" "_law_asked" s_law_asked f fd)(Ce:Dm P w K mg base cO4 "say" 11 ["self","row"] (T9 cO4 cO2 cO3))(Dj:Dn P w K mg base "_law_shown" 2 ["_law_patterns","_law_word_here"] Y8):FnOk P w K mg base CX0 12 f fd ["_law_desk","_law_patterns","_law_words"] (Ze cO4 cO2 cO3):=by
 refine F.okk ["_law_desk","_law_patterns","_law_words","_law_word_here"] ?_
 rintro _ _ _ s H _ _ _ hr ⟨d,td,wa,v,xs,ps,ws,rfl,hD,hO,hv,Ly,HH,Fz,q⟩ nd
 refine⟨_,(LM (MN MH rfl (Mx (K:=K) (pv 2)) (pnm 3 nd)
   (LQ (Me (L_ (o_ne hr.units) (Nt (pv 0) O4.cl Ce hr.LV (pa1 (LX Mb (L8 t_brken) (pv 3)))) (L0 Dj hr.LV rfl (LO (pv 1) (pa1 (pv 3)))) (L6 _))
   (LQ (LY Ni))
   Mg)))
  (LQ (LY Ni))),?_⟩
 walk_at "s0"
 ext
 refine NJ (K:=K) (xs:=L9 ws) (fun i σ H'=>∃ x3,σ=[some (.ref d),some v,some (.ref wa),x3]/\Same H H')
  ⟨_,rfl,Same.refl _⟩ (fun i σ H' _ ⟨_,_,s⟩=>SqL.of (s _ _ HH)) ?_ ?_
 ·intro i y σ H1 hy hI9
  obtain⟨x3,rfl,s1⟩:=hI9
  unfold L9 at hy
  rw[Ma] at hy
  obtain⟨w',h1,rfl⟩:=Rx.mp hy
  obtain⟨⟨Lz,C6,Dz⟩,Iw⟩:=Fz w' (Pa h1)
  have D7:=hD.same s1
  obtain⟨tp,dd,_,ed,_⟩:=D7.at
  ext
  refine M_ ?_
  ext
  refine M' ed rfl ?_
  ext
  refine PZ (by have:(tBRK++[32]++tEN++[32]).length=9:=rfl;omega) ?_
  ext
  refine⟨d,td,some ps,[tBRK,tEN,w'],by simp[MO],D7,.brk hO (OA.mp C6) (by omega) Lz fun H2 s2=>?_⟩
  ext
  have s02:=s1.trans s2
  refine⟨v,xs,w',rfl,Is.same s02 hv,Ly,C6,by omega,fun H3 s3=>?_⟩
  rw[Iw]
  ext
  refine O0 (by simp) ?_
  ext
  exact⟨_,rfl,s02.trans s3⟩
 ·intro σ H1 hI9
  obtain⟨x3,rfl,s1⟩:=hI9
  ext
  exact q H1 s1
theorem ig (T:Txt mg tk)(F:Fun K "_law_wanted" "_law_wanted" s_law_wanted f fd)(Cz:Dn P w K mg base "needless" 6 ["patterns","number"] TK)(Dq:Dn P w K mg base "_law_odd" 2 ["_law_patterns","_law_word_here"] spOdd):FnOk P w K mg base CX0 7 f fd ["_law_left"] Zg:=by
 refine F.okk ["_law_left","_law_k","_law_told"] ?_
 rintro _ _ _ _ H _ _ _ hr ⟨a,ys,xs,rfl,ha,Cv,hO,hw,q⟩ nd
 have De:ys.length=xs.length:=by have:=Cv.length;simpa using this
 have Ea:=hO.2
 refine⟨_,(LM (MN MH rfl (Pg rfl T.z_range (pa1 (pcb (Mq (K:=K)) T.z_len (pa1 (pv 0))))) (pnm 1 nd)
   (LM (pst 2 nd (L0 Cz hr.LV rfl (LO (pct Oc T.z_list (pa1 (pv 0))) (pa1 (pv 1)))))
  (LM (Me (PW.pt (Pf (OO (NC (pcb V3 T.z_isinstance (LO (pv 2) (pa1 (pty "tuple" T.z_tuple)))) (fun _=>rfl))) (Pf (L_ (o_ne hr.units) (pcb (Mq (K:=K)) T.z_len (pa1 (pv 2))) LL (L6 _)) (QC (L_ (o_ne hr.units) (pix K (pv 2) LL) (L8 Ym) (L6 _))))))
   (LQ (LY Ni))
   Mg)
  (LQ (Me (L_ (o_eq hr.units) (L0 Dq hr.LV rfl (LO (pv 0) (pa1 (pix K (pv 2) LL)))) (L0 Dq hr.LV rfl (LO (LX Mb (Nk (Nm (K:=K)) (pv 0) NL (MV (pv 1))) (Nk (Nm (K:=K)) (pv 0) (MV (LX Mb (pv 1) LL)) NL)) (pa1 (pix K (pv 2) LL)))) (L6 _))
   (LQ (LY Ni))
   Mg)))))
  (LQ (LY Ni))),?_⟩
 walk_at "s0"
 ext
 refine RD (fun i σ H'=>∃(v1 v2:Option V),Same H H'/\σ=[some (.ref a),v1,v2]) ⟨none,none,Same.refl _,rfl⟩ ?_ ?_
 ·intro i σ H1 hi hI9
  obtain⟨v1,v2,s1,rfl⟩:=hI9
  have hi:i < xs.length:=by omega
  rw[UA]
  have E5:=s1 _ _ ha
  ext
  refine SG (Nd E5) fun l hl=>?_
  obtain⟨H2,HA,s2,el⟩:=MS hl (.lst ys)
  rw[HA]
  have s02:=s1.trans s2
  ext
  refine⟨l,ys,xs,i,rfl,el,IsL.same s02 Cv,hO.sm,hi,fun r u H3 Jx GO B' er s3=>?_,fun r l vs zs H3 Dr _ _ _ _ _ _=>absurd (fun u b=>Dr.not b) (hw i hi)⟩
  have s03:=s02.trans s3
  have Kb:=s03 _ _ ha
  have Kn:PsOk (Oo xs i):=⟨fun x hx=>hO.1 x (Yq hx),by have:=Yr hi;omega⟩
  obtain⟨Ko,C5⟩:=Jx.vals hO.sm.1 Kn.sm.1
  ext
  refine⟨.ref a,xs,u,rfl,Qn Kb (IsL.same s03 Cv),hO,Ko,GO,fun r1 H4 e1 s4=>?_⟩
  have s04:=s03.trans s4
  have er4:=s4 _ _ er
  ext
  refine Of (SqL.of (s04 _ _ ha)) fun p1 Ef=>?_
  obtain⟨H5,Il,s5,ep1⟩:=MS Ef (.lst (cutV ys none (some (i:Int))))
  rw[Il]
  ext
  refine Of (SqL.of (s5 _ _ (s04 _ _ ha))) fun p2 DA=>?_
  obtain⟨H6,Jo,s6,ep2⟩:=MS DA (.lst (cutV ys (some ((i:Int)+1)) none))
  rw[Jo]
  have Jb:=RF ys none (some (i:Int))
  have Lc:=RF ys (some ((i:Int)+1)) none
  ext
  refine OX (s6 _ _ ep1) ep2 (szn (by omega)) fun p3 FU=>?_
  obtain⟨H7,Jq,s7,ep3⟩:=MS FU (.lst (cutV ys none (some (i:Int))++cutV ys (some ((i:Int)+1)) none))
  rw[Jq]
  have s47:=s5.trans (s6.trans s7)
  have s07:=s04.trans s47
  have er7:=s47 _ _ er4
  ext
  refine⟨.ref p3,Oo xs i,u,rfl,Qn ep3 ?_,Kn,Ko,GO,fun r2 H8 e2 s8=>?_⟩
  ·unfold Oo
   rw[L3]
   exact IsL.append (Rb none (some (i:Int)) (IsL.same s07 Cv)) (Rb (some ((i:Int)+1)) none (IsL.same s07 Cv))
  refine i_eqD (d:=.lst (((vals xs u).map (· % 2)).map Dt.int)) (e:=.lst (((vals (Oo xs i) u).map (· % 2)).map Dt.int)) (Qn (s8 _ _ (s47 _ _ e1)) (IsL.ints _ _)) (Qn e2 (IsL.ints _ _)) (Zd _) (Zd _) ?_
  rw[ne_ints C5]
  ext
  exact⟨_,_,s07.trans s8,rfl⟩
 ·intro σ H1 hI9
  obtain⟨v1,v2,s1,rfl⟩:=hI9
  ext
  exact q H1 s1
theorem ii (T:Txt mg tk)(F:Fun K "_law_some_words" "_law_some_words" s_law_some_words f fd)(Cd:Dn P w K mg base "_law_word" 2 ["_law_feed_here","_law_letters_here","_law_most_here"] QO):FnOk P w K mg base CX0 3 f fd ["_law_feed_here","_law_letters_here","_law_words"] Zf:=by
 refine F.okk ["_law_feed_here","_law_letters_here","_law_words","_law_few","_law_every","_law_first"] ?_
 rintro _ _ _ s H _ _ _ hr ⟨p,wa,n,l,ws,rfl,hf,hn,Du,D5,DH,hpw,HH,Fz,El,q⟩ nd
 refine⟨_,(LM (pst 3 nd (MZ (LO (pix K (pv 1) LL) (LO (pix K (pv 1) LL) (LO (pix K (pv 1) (OS OU LL)) (pa1 (L8 t_z)))))))
  (LM (pst 4 nd (pct Oc T.z_list (pa1 (pv 3))))
  (LM (MN MH rfl (Mx (K:=K) (pv 3)) (ME (i:=5) nd rfl (Or.inr rfl))
   (LQ (OP (M9 (K:=K) Pd iR iS Xf (pv 4) (pa1 (Nl ["_law_first","_law_second"] [some 5,none] rfl (by kernel_rfl) rfl (Mx (K:=K) (pv 3)) (fun _ _ _ _=>(ME (i:=1) (show (["_law_first","_law_second"]:List Str).Nodup by decide +kernel) rfl (Or.inl rfl) (Or.inr rfl))) (fun _ _ _ _=>Nq) (fun _ _ _ _=>(LX Mb (pv 0) (pv 1)))))))))
  (LQ (LY (LX Mb (LX Mb (pv 2) (pv 4)) (Nl ["_law_feed_here","_law_letters_here","_law_k"] [some 0,some 1,none] rfl (by kernel_rfl) rfl (Pg rfl T.z_range (pa1 LL)) (fun _ _ _ _=>(ME (i:=2) (show (["_law_feed_here","_law_letters_here","_law_k"]:List Str).Nodup by decide +kernel) rfl (Or.inl rfl) (Or.inr rfl))) (fun _ _ _ _=>Nq) (fun _ _ _ _=>(L0 Cd hr.LV rfl (LO (pv 0) (LO (pv 1) (pa1 LL)))))))))))),?_⟩
 walk_at "s0"
 have E7:(S l).length<=Af:=szn (by rw[Mi];omega)
 have Eg:∀ i,(hi:i < l.length)->atI ((S l).cps.toList) (i:Int)=some l[i]:=fun i hi=>Og (by omega) (by rw[QN,OK,LS hi])
 have Hi:atI ((S l).cps.toList) (-1)=some (l[l.length - 1]'(by omega)):=by
  rw[QN]
  exact TW (by rw[UV,LS])
 obtain⟨c0,h0,l0⟩:∃ c,atI ((S l).cps.toList) 0=some c/\ML c=true:=⟨_,Eg 0 (by omega),Du _ (MD _)⟩
 obtain⟨c1,h1,l1⟩:∃ c,atI ((S l).cps.toList) 1=some c/\ML c=true:=⟨_,Eg 1 (by omega),Du _ (MD _)⟩
 obtain⟨c2,h2,l2⟩:∃ c,atI ((S l).cps.toList) (-1)=some c/\ML c=true:=⟨_,Hi,Du _ (MD _)⟩
 obtain⟨cs,HU,EL,HX⟩:∃ cs:List Nat,cs=[c0,c1,c2,122]/\(∀ c∈cs,ML c=true)/\cs.length=4:=⟨_,rfl,fun c hc=>by
  simp only[Mc,OC,or_false] at hc
  rcases hc with rfl | rfl | rfl | rfl
  ·exact l0
  ·exact l1
  ·exact l2
  ·decide,rfl⟩
 ext
 refine OZ E7 h0 ?_
 ext
 refine OZ E7 h1 ?_
 ext
 refine OZ E7 h2 ?_
 ext
 intro a EZ
 obtain⟨H1,E8,s1,ea⟩:=MS EZ (.lst (L9 (cs.map fun c=>[c])))
 have E8:upd H a (.lst [.str ⟨#[c0]⟩,.str ⟨#[c1]⟩,.str ⟨#[c2]⟩,.str (S [122])])=H1:=by rw[<- E8,HU];rfl
 rw[E8]
 ext
 refine SG (Nd ea) fun ev FA=>?_
 obtain⟨H2,HA,s2,ee⟩:=MS FA (.lst (L9 (cs.map fun c=>[c])))
 rw[HA]
 have s02:=s1.trans s2
 have ea2:=s2 _ _ ea
 ext
 have evH:H ev=none:=s1.free FA
 have elen:(L9 (cs.map fun c=>[c])).length=4:=by rw[L9,LP,LP,HX]
 have HI:∀{i:Nat}{y:V},(L9 (cs.map fun c=>[c]))[i]?=some y->∃ c,cs[i]?=some c/\y=.str (S [c]):=fun{i y} h=>by
  unfold L9 at h
  rw[MQ,Ma] at h
  obtain⟨c,h1,h2⟩:=Rx.mp h
  exact⟨c,h1,h2.symm⟩
 refine NJ (K:=K) (xs:=L9 (cs.map fun c=>[c])) (fun i σ H'=>∃(x5:Option V) (es:List (List Nat)),σ=[some (.ref p),some (.str (S l)),some (.ref wa),some (.ref a),some (.ref ev),x5]/\H' ev=some (.lst (L9 es))/\(∀ w∈es,WOk w)/\es.length<=4+4 * i/\Same H1 H')
  ⟨none,_,rfl,ee,fun w hw=>?_,by rw[LP,HX];decide,s2⟩ (fun i σ H' _ hI9=>by rcases hI9 with ⟨_,_,_,_,_,_,s⟩;exact SqL.of (s _ _ ea)) ?_ ?_
 ·obtain⟨c,hc,rfl⟩:=MC.mp hw
  exact⟨fun d hd=>by rw[Ml.mp hd];exact EL c hc,LZ _,by simp⟩
 ·intro i y σ H3 hy hI9
  obtain⟨x5,es,rfl,e3,E2,GD,s3⟩:=hI9
  have hi:=(MJ.mp hy).1
  rw[elen] at hi
  obtain⟨c,hc,rfl⟩:=HI hy
  have hc:=EL c (Pa hc)
  have ea3:=s3 _ _ ea
  ext
  intro r B'
  refine Pk (K:=K) (xs:=L9 (cs.map fun c=>[c])) (fun j B6 σ H'=>∃ x,σ=[some (.str (S [c])),x]/\(∃ ds,B6=L9 ds/\(∀ w∈ds,WOk w)/\ds.length<=j)/\H' r=some (.lst B6)/\Same H3 H') (fun j B6 σ H' _ hI9=>by rcases hI9 with ⟨_,_,_,_,s⟩;exact SqL.of (s _ _ ea3))
   ⟨none,rfl,⟨[],rfl,(fun w hw=>nomatch hw),LZ _⟩,LN,LW B' _⟩ (fun j B6 σ H' hI9=>by rcases hI9 with ⟨_,_,⟨ds,e,_,e3⟩,e2,_⟩;exact⟨e2,by rw[e,L9,LP];exact e3⟩) (szn (by rw[elen];decide)) ?_ ?_
  ·intro j B6 σ H4 hj hI9
   obtain⟨x,rfl,⟨ds,rfl,EK,D'⟩,e4,s4⟩:=hI9
   obtain⟨c',hc',LA⟩:=HI (LS hj)
   have hc':=EL c' (Pa hc')
   rw[L4,LS hj,Ps,LA]
   ext
   refine⟨e4,_,rfl,⟨ds++[[c]++[c']],by rw[L9,L9,L3];rfl,fun w hw=>?_,by rw[Md];show _+1<=_;omega⟩,LN,MW B' s4⟩
   rcases L7.mp hw with hw | hw
   ·exact EK w hw
   ·rw[Ml.mp hw]
    refine⟨fun d hd=>?_,by simp,by simp⟩
    rcases Mc.mp hd with rfl | hd
    ·exact hc
    ·rw[Ml.mp hd];exact hc'
  ·intro B6 σ H4 hI9
   obtain⟨x,rfl,⟨ds,rfl,EK,D'⟩,e4,s4⟩:=hI9
   rw[elen] at D'
   have e34:=s4 _ _ e3
   ext
   refine Xg e34 e4 (szn (by rw[L9,L9,LP,LP];omega)) ?_
   ext
   refine⟨_,es++ds,rfl,by rw[LN,L9,L9,L9,L3],fun w hw=>(L7.mp hw).elim (E2 w) (EK w),by rw[Md];omega,MW (H:=H1) FA (s3.trans s4)⟩
 ·intro σ H3 hI9
  obtain⟨x5,es,rfl,e3,E2,GD,s3⟩:=hI9
  rw[elen] at GD
  have s03:=s1.trans s3
  ext
  refine OX (s03 _ _ HH) e3 (szn (by rw[L9,L9,LP,LP];omega)) fun p1 Ef=>?_
  obtain⟨H4,E_,s4,ep1⟩:=MS Ef (.lst (L9 (ws++es)))
  have E_:upd H3 p1 (.lst (L9 ws++L9 es))=H4:=by rw[<- E_,L9,L9,L9,L3]
  rw[E_]
  have s04:=s03.trans s4
  have GC:FeedAt H4 p n:=by
   obtain⟨x,y,z,hp,r⟩:=hf
   exact⟨x,y,z,s04 _ _ hp,r⟩
  have Jy:p1≠p:=fun z=>by
   obtain⟨o,ho⟩:=hf.some
   rw[z,s03 _ _ ho] at Ef;cases Ef
  ext
  intro r B'
  have Kp:r≠p:=fun z=>by
   obtain⟨o,ho⟩:=GC.some
   rw[z,ho] at B';cases B'
  refine Sz (fun i B6 σ H'=>∃ v,σ=[some (.ref p),some (.str (S l)),v]/\(∃ ds,B6=L9 ds/\(∀ w∈ds,WOk w)/\ds.length=i)/\H' r=some (.lst B6)/\FeedAt H' p (n+30 * i)/\Kept p H4 H')
   ⟨none,rfl,⟨[],rfl,(fun w hw=>nomatch hw),rfl⟩,LN,GC.new B',(Kept.refl p H4).new B' _⟩ (fun i B6 σ H' hI9=>by rcases hI9 with ⟨_,_,⟨ds,e,_,e3⟩,e2,_⟩;exact⟨e2,by rw[e,L9,LP];omega⟩) (szn (by decide)) ?_ ?_
  ·intro i B6 σ H5 hi hI9
   obtain⟨v,rfl,⟨ds,rfl,EK,D'⟩,e5,Fh,k5⟩:=hI9
   have hi:i < 10:=hi
   ext
   refine⟨p,n+30 * i,l,20,rfl,Fh,by omega,Du,by omega,DH,by decide,by decide,fun w' H6 LB C6 Dz GR k6=>?_⟩
   have e6:=k6 _ _ Kp e5
   refine⟨e6,_,rfl,⟨ds++[w'],by rw[L9,L9,L3];rfl,fun w hw=>(L7.mp hw).elim (EK w) fun hw=>by rw[Ml.mp hw];exact⟨LB,C6,Dz⟩,by rw[Md];show _+1=_;omega⟩,LN,?_,fun b o hb e=>?_⟩
   ·exact(GR.mono (by omega)).off (LU (N2 Kp))
   ·rw[LU (Mo e B')]
    exact k6 b o hb (k5 b o hb e)
  ·intro B6 σ H5 hI9
   obtain⟨v,rfl,⟨ds,rfl,EK,D'⟩,e5,Fh,k5⟩:=hI9
   have D':ds.length=10:=D'
   ext
   refine OX (k5 _ _ Jy ep1) e5 (szn (by rw[L9,L9,LP,LP,Md];omega)) fun p2 DA=>?_
   ext
   refine q p2 (ws++es++ds) _ (by rw[LN];simp only[L9,L3]) (fun w hw=>?_) fun b o hb e=>?_
   ·rcases L7.mp hw with hw | hw
    ·exact(L7.mp hw).elim (Fz w) (E2 w)
    ·exact EK w hw
   ·have:=k5 b o hb (s04 _ _ e)
    rw[LU (Mo this DA)];exact this
end
noncomputable abbrev s_law:Au:=top 94
theorem ij (h:ML c=true):c∈LETL:=by
 have h1:97<=c/\c<=122:=of_decide_eq_true h
 have h2:∀ x:Fin 123,ML x.1=true->x.1∈LETL:=by decide
 exact h2 ⟨c,by omega⟩ h
theorem Zh (xs:List Pat):sel xs (L5 xs.length)=xs:=by
 unfold sel
 refine aw fun i=>?_
 rw[Ma]
 by_cases h:i < xs.length
 ·rw[List.getElem?_range h]
  show some (xs.getD i ([],[]))=xs[i]?
  rw[L4,LS h];rfl
 ·rw[Zo (by rw[Qq];omega),Zo (by omega)];rfl
theorem Zi {xs:List Pat}(sm:SmP xs):∀(ns left:List Nat),NY left (L5 xs.length)->Alk (sel xs left) (sel xs (rnd xs left ns))
 | [],_,_=>fun _ _=>rfl
 | n::ns,left,h=>fun w hw=>by
  have h1:=stp_alk (xs:=xs) (left:=left) (n:=n) (TQ sm h).1 (TQ sm (List.erase_sublist.trans h)).1 w hw
  exact h1.trans (Zi sm ns (stp xs left n) ((Q6 xs left n).trans h) w hw)
theorem Zj {xs:List Pat}(sm:SmP xs):∀ k,NY (itr xs k (L5 xs.length)) (L5 xs.length)/\Alk xs (sel xs (itr xs k (L5 xs.length)))
 | 0=>⟨Ve _,fun w _=>by show _=(vals (sel xs (L5 xs.length)) w).map _;rw[Zh]⟩
 | k+1=>by
  obtain⟨h1,h2⟩:=Zj sm k
  show NY (rd1 xs (itr xs k (L5 xs.length))) (L5 xs.length)/\Alk xs (sel xs (rd1 xs (itr xs k (L5 xs.length))))
  exact⟨(Qa xs _ _).trans h1,fun w hw=>(h2 w hw).trans (Zi sm _ _ h1 w hw)⟩
theorem Left.alk (sm:SmP xs) (h:Left xs (L5 xs.length) ks):Alk xs (sel xs ks):=by
 obtain⟨⟨k,rfl⟩,_⟩:=h
 exact(Zj sm k).2
theorem Alk.sm (h1:OkP one) (h2:OkP other) (h:Alk one other):Sm one other:=fun u b=>(b.vals h1 h2).2 (h u fun c hc=>ltr_abc (b.low c hc))
theorem Zk {xs:List Pat}{left:List Nat}:∀{ns:List Nat},rnd xs left ns=left->∀ n∈ns,stp xs left n=left
 | [],_,n,hn=>nomatch hn
 | m::ns,h,n,hn=>by
  have h1:rnd xs (stp xs left m) ns=left:=h
  have h2:stp xs left m=left:=(Q6 xs left m).eq_of_length (Nat.le_antisymm (Q6 xs left m).length_le (by
   have:=(Qa xs ns (stp xs left m)).length_le
   rwa [h1] at this))
  rw[h2] at h1
  rcases Mc.mp hn with rfl | hn
  ·exact h2
  ·exact Zk h1 n hn
theorem Ub {ks:List Nat}(hn:ks.Nodup){j:Nat}(hj:j < ks.length):ks.erase ks[j]=ks.eraseIdx j:=by
 obtain⟨i,hi,h1,h2,h3⟩:=TN (MD hj)
 rcases Nat.lt_trichotomy i j with h | h | h
 ·rw[LS hi] at h1
  exact absurd (Option.some.inj h1) (ak.mp hn i j hi hj h)
 ·rw[h3,h]
 ·exact absurd (LS hj) (h2 j h)
theorem Left.need (h:Left xs x0 ks) (hn:ks.Nodup):∀ j,j < (sel xs ks).length->¬ Sm (sel xs ks) (Oo (sel xs ks) j):=fun j hj hs=>by
 rw[Rc] at hj
 have h1:=Zk h.2 _ (MD hj)
 rw[af hj,<- Ub hn hj] at hs
 unfold stp at h1
 rw[B4 hs,Ub hn hj] at h1
 have:=congrArg Uk h1
 rw[List.length_eraseIdx_of_lt hj] at this
 omega
theorem Left.again (hw:∀ j,j < ys.length->¬ Sm ys (Oo ys j)) (h:Left ys (L5 ys.length) ks):ks=L5 ys.length:=by
 have h1:∀ n,n < ys.length->stp ys (L5 ys.length) n=L5 ys.length:=fun n hn=>by
  unfold stp
  rw[B3]
  have hj:n < (L5 ys.length).length:=by rw[Qq];exact hn
  have:=Ub az hj
  rw[List.getElem_range] at this
  rw[this,<- af hj,Zh]
  exact hw n hn
 have h2:∀ ns:List Nat,(∀ n∈ns,n < ys.length)->rnd ys (L5 ys.length) ns=L5 ys.length:=fun ns=>by
  induction ns with
  | nil=>exact fun _=>rfl
  | cons n ns ih =>
   intro hn
   show rnd ys (stp ys _ n) ns=_
   rw[h1 n (hn n Mn)]
   exact ih fun m hm=>hn m (Mp _ hm)
 exact h.one ⟨⟨0,rfl⟩,h2 _ fun n hn=>OE.mp hn⟩
theorem ik (h:a.map (· % 2)=b.map (· % 2)):bkN a=bkN b:=by
 have hl:a.length=b.length:=by have:=congrArg Uk h;rwa [LP,LP] at this
 have ho:∀ v:List Int,Po v=fun j=>decide ((v.map (· % 2)).getD j 0=1):=fun v=>by
  funext j
  unfold Po
  rw[L4,L4,Ma]
  cases v[j]? <;> rfl
 unfold bkN
 rw[ho a,ho b,h,hl]
theorem Alk.shw (h:Alk one other) {w:List Nat} (hw:Low w):shw one w=shw other w:=by
 unfold K90.shw
 rw[ik (h w fun c hc=>ij (hw c hc))]
theorem NX (h:Kept p H H1) (s:Same H0 H) (hp:H0 p=none):Same H0 H1:=fun b o e=>h b o (Mo e hp) (s b o e)
theorem keptT {p:Ac}{n:Nat}{H H1:Hp}(h:Kept p H H1)(hf:FeedAt H p n){xs:List Pat}{ys:List V}(hy:L2.IsL H ys (xs.map patD)):L2.IsL H1 ys (xs.map patD):=Rh (fun b zs e=>by
 obtain⟨_,_,_,hp,_⟩:=hf
 exact h b _ (Qi e hp (by intro z;cases z)) e) hy
theorem il (g:List Nat):(g.map fun k:Nat=>V.int (k:Int)).all OT=true:=Qd.mpr fun x hx=>by
 obtain⟨k,_,rfl⟩:=MC.mp hx
 rfl
theorem im (k:Nat)(g:List Nat):inV (.int (k:Int)) (g.map fun j:Nat=>V.int (j:Int))=decide (k∈g):=by
 have e:(g.map fun j:Nat=>V.int (j:Int))=(g.map fun j:Nat=>(j:Int)).map V.int:=by rw[MQ];rfl
 rw[e,de,decide_eq_decide,MC]
 exact⟨fun⟨j,hj,z⟩=>by rwa [<- show j=k by omega],fun h=>⟨k,h,rfl⟩⟩
theorem Uc:∀{s l:List Nat},NY s l->l.Nodup->l.filter (fun k=>decide (k∈s))=s
 | _,_,.slnil,_=>rfl
 | s,_,.cons a h,hn=>by
  have hn:=Rp.mp hn
  rw[Ue (by simpa using fun z=>hn.1 (h.subset z))]
  exact Uc h hn.2
 | _,_,.cons₂ (l₁:=s) (l₂:=l) a h,hn=>by
  have hn:=Rp.mp hn
  rw[Ud (by simp)]
  congr 1
  refine Eq.trans (List.filter_congr fun k hk=>?_) (Uc h hn.2)
  have:k≠a:=fun z=>hn.1 (z▸hk)
  simp[this]
theorem Dsk.up {CD C CT:Ac}{H H':Hp}{d td:Ac}{o:Option (List Pat)}(hD:Dsk CD C CT H d td o)(k:∀ b o,b≠td->H b=some o->H' b=some o){b:Ac}{x:HO}(e:H b=some x)(hx:∀ B7,x≠.dK B7):H' b=some x:=by
 obtain⟨_,_,_,_,_,_,h⟩:=hD.at
 exact k b x (fun z=>by rw[z,h] at e;injection e with e;exact hx _ e.symm) e
theorem dcc_mk (hm:mg "COUNTS"=some (.ref cD)) (hl:K.lookup cD=some ⟨.type "dict",none,.dict #[⟨Os w.params "tongue",.str "tongue" t0,.int 4 u0⟩,⟨Os w.params "pattern",.str "pattern" t1,.int 3 u1⟩,⟨Os w.params "told",.str "told" t2,.int 3 u2⟩,⟨Os w.params "break",.str "break" t3,.int 3 u3⟩,⟨Os w.params "patterns",.str "patterns" t4,.int 2 u4⟩,⟨Os w.params "pare",.str "pare" t5,.int 2 u5⟩,⟨Os w.params "press",.str "press" t6,.int 3 u6⟩] 7,#[]⟩) (hs:(cD == Ar)=false):Dcc P w K mg cD:=by
 rw[TZ,t_pat,t_tol,t_brk,t_pts,t_par,Rk] at hl
 refine⟨hm,_,[(Sum.inr (S tTON),.int 4 u0),(Sum.inr (S tPAT),.int 3 u1),(Sum.inr (S tTOL),.int 3 u2),(Sum.inr (S tBRK),.int 3 u3),(Sum.inr (S tPTS),.int 2 u4),(Sum.inr (S tPAR),.int 2 u5),(Sum.inr (S tPRS),.int 3 u6)],hl,⟨_,_,⟨rfl,rfl,rfl⟩,rfl,fun e he=>?_,(Pairs.cons (by simp[MB,NI,Qf]) rfl (Pairs.cons (by simp[MB,NI,Qf]) rfl (Pairs.cons (by simp[MB,NI,Qf]) rfl (Pairs.cons (by simp[MB,NI,Qf]) rfl (Pairs.cons (by simp[MB,NI,Qf]) rfl (Pairs.cons (by simp[MB,NI,Qf]) rfl (Pairs.cons (by simp[MB,NI,Qf]) rfl Pairs.nil))))))),?_⟩,.cons ⟨rfl,_,rfl⟩ (.cons ⟨rfl,_,rfl⟩ (.cons ⟨rfl,_,rfl⟩ (.cons ⟨rfl,_,rfl⟩ (.cons ⟨rfl,_,rfl⟩ (.cons ⟨rfl,_,rfl⟩ (.cons ⟨rfl,_,rfl⟩ (.nil))))))),hs⟩
 ·simp only[List.mem_toArray,Mc,OC,or_false] at he
  rcases he with rfl | rfl | rfl | rfl | rfl | rfl | rfl
  all_goals exact⟨Sum.inr _,by simp[MB,NI,Qf],rfl⟩
 ·show ([tTON,tPAT,tTOL,tBRK,tPTS,tPAR,tPRS].map fun l=>(Sum.inr (S l):Key)).Nodup
  exact List.pairwise_map.mpr (List.Pairwise.imp (fun h e=>h (S_inj.mp (congrArg V.str (Sum.inr.inj e)))) (show [tTON,tPAT,tTOL,tBRK,tPTS,tPAR,tPRS].Nodup by decide))
def Rn (K:LR):Sp:=fun vs H Q _=>∃(a:Ac) (ns:List Int),vs=[.ref a]/\SqL K H a (ns.map V.int)/\ns.length<=63/\∀ H',Q (.bl true) H'
theorem t_ton11:Mm "tongue en 1 1"=S (MO 32 [tTON,tEN,[49],[49]]):=by decide +kernel
theorem t_paten:Mm "pattern en "=S (tPAT++[32]++tEN++[32]):=by decide +kernel
theorem Zl:Mm "pare en"=S (MO 32 [tPAR,tEN]):=by decide +kernel
theorem t_ptsen:Mm "patterns en"=S (MO 32 [tPTS,tEN]):=by decide +kernel
theorem t_d0:Mm "0"=S (dig 0):=by decide +kernel
section
variable {P:Ag}{w:Ak}{K:LR}{mg:Str->Option Ab}{base:Ao}{f:Ac}{fd:AB}{tk:Nat->Tok}{cO2 cO3 cO4:Ac}
theorem ok_law (T:Txt mg tk)(O4:Ow4 K mg cO4)(F:Fun K "law" "law" s_law f fd)(CW:Dn P w K mg base "_law_feed" 1 ["_law_script","_law_k"] (Wh K))(B8:Dn P w K mg base "_law_next" 1 ["_law_feed_here","_law_many"] O1)(C3:Dn P w K mg base "_law_letters" 2 ["_law_feed_here"] Wi)(Cd:Dn P w K mg base "_law_word" 2 ["_law_feed_here","_law_letters_here","_law_most_here"] QO)(C4:Dn P w K mg base "_law_pattern" 3 ["_law_feed_here","_law_letters_here","_law_word_here","_law_most_here"] Y5)(CF:Dn P w K mg base "_law_some_words" 3 ["_law_feed_here","_law_letters_here","_law_words"] Zf)(Dl:Dk P w K mg base cO4 3 ["self"] (spDkI cO4 cO2 cO3))(Ce:Dm P w K mg base cO4 "say" 11 ["self","row"] (T9 cO4 cO2 cO3))(Db:Dn P w K mg base "_law_text" 1 ["_law_pattern_here"] Y6)(Dp:Dn P w K mg base "pared" 8 ["patterns"] TR)(CY:Dn P w K mg base "_law_asked" 12 ["_law_desk","_law_patterns","_law_words"] (Ze cO4 cO2 cO3))(Do:Dn P w K mg base "apart" 5 ["one","other"] TH)(Dc:Dn P w K mg base "_law_closed" 3 ["_law_one","_law_other","_law_views"] Zb)(Dd:Dn P w K mg base "_law_wanted" 7 ["_law_left"] Zg):FnOk P w K mg base CX0 13 f fd ["_law_script"] (Rn K):=by
 refine F.okk ["_law_script","_law_feed_here","_law_letters_here","_law_words","_law_patterns","_law_desk","_law_pattern_here","_law_numbers_here","_law_left","_law_due","_law_told"] ?_
 rintro _ _ _ s H _ _ _ hr ⟨a,ns,rfl,hS,Ca,q⟩ nd
 refine⟨_,(LM (OR (i:=1) nd rfl (Or.inr rfl) (L0 CW hr.LV rfl (LO (pv 0) (pa1 LL))))
  (LM (OR (i:=2) nd rfl (Or.inr rfl) (L0 C3 hr.LV rfl (pa1 (pv 1))))
  (LM (OR (i:=3) nd rfl (Or.inr rfl) (MZ (LO (L0 Cd hr.LV rfl (LO (pv 1) (LO (pv 2) (pa1 LL)))) (pa1 (L0 Cd hr.LV rfl (LO (pv 1) (LO (pv 2) (pa1 LL))))))))
  (LM (OR (i:=1) nd rfl (Or.inr rfl) (L0 CW hr.LV rfl (LO (pv 0) (pa1 LL))))
  (LM (OR (i:=4) nd rfl (Or.inr rfl) (Nl ["_law_feed_here","_law_letters_here","_law_words","_law_k"] [some 1,some 2,some 3,none] rfl (by kernel_rfl) rfl (Pg rfl T.z_range (pa1 (L0 B8 hr.LV rfl (LO (pv 1) (pa1 LL))))) (fun _ _ _ _=>(ME (i:=3) (show (["_law_feed_here","_law_letters_here","_law_words","_law_k"]:List Str).Nodup by decide +kernel) rfl (Or.inl rfl) (Or.inr rfl))) (fun _ _ _ _=>Nq) (fun _ _ _ _=>(L0 C4 hr.LV rfl (LO (pv 0) (LO (pv 1) (LO (pix K (pv 2) (LX N5 (pv 3) LL)) (pa1 LL))))))))
  (LM (OR (i:=3) nd rfl (Or.inr rfl) (L0 CF hr.LV rfl (LO (L0 CW hr.LV rfl (LO (pv 0) (pa1 LL))) (LO (pv 2) (pa1 (pv 3))))))
  (LM (pst 5 nd (XS Dl hr.LV rfl O4.m_Desk))
  (LM (Me (L_ (o_ne hr.units) (Nt (pv 5) O4.cl Ce hr.LV (pa1 Vj)) (L8 t_ok) (L6 _))
   (LQ (LY Ni))
   Mg)
  (LM (MN MH rfl (Mx (K:=K) (pv 4)) (pnm 6 nd)
   (LQ (Me (L_ (o_ne hr.units) (Nt (pv 5) O4.cl Ce hr.LV (pa1 (LX Mb (L8 t_paten) (L0 Db hr.LV rfl (pa1 (pv 6)))))) (L8 t_ok) (L6 _))
   (LQ (LY Ni))
   Mg)))
  (LM (OR (i:=7) nd rfl (Or.inr rfl) (L0 Dp hr.LV rfl (pa1 (pct Oc T.z_list (pa1 (pv 4))))))
  (LM (Me (PW.pt (Pf (OO (NC (pcb V3 T.z_isinstance (LO (pv 7) (pa1 (pty "list" T.z_list)))) (fun _=>rfl))) (QC (L_ (o_ne hr.units) (pv 7) (Nl ["_law_numbers_here","_law_k"] [some 7,none] rfl (by kernel_rfl) rfl (Pg rfl T.z_range (pa1 (pcb (Mq (K:=K)) T.z_len (pa1 (pv 4))))) (fun _ _ _ _=>(ME (i:=1) (show (["_law_numbers_here","_law_k"]:List Str).Nodup by decide +kernel) rfl (Or.inl rfl) (Or.inr rfl))) (fun _ _ _ _=>(RH (L_ o_in (pv 1) (pv 0) (by with_unfolding_all rfl)))) (fun _ _ _ _=>(pv 1))) (L6 _)))))
   (LQ (LY Ni))
   Mg)
  (LM (UI (i:=8) ["_law_patterns","_law_k"] [some 4,none] rfl (by kernel_rfl) rfl nd rfl rfl (Mx (K:=K) (pv 7)) (fun _ _ _ _=>(ME (i:=1) (show (["_law_patterns","_law_k"]:List Str).Nodup by decide +kernel) rfl (Or.inl rfl) (Or.inr rfl))) (fun _ _ _ _=>Nq) (fun _ _ _ _=>(pix K (pv 0) (pv 1))))
  (LM (Me (PW.pt (Pf (OO (NC (L0 CY hr.LV rfl (LO (pv 5) (LO (pv 4) (pa1 (pv 3))))) (fun _=>rfl))) (QC (L_ (o_ne hr.units) (Nt (pv 5) O4.cl Ce hr.LV (pa1 (L8 Zl))) (pct PQ T.z_str (pa1 (LX Pj (pcb (Mq (K:=K)) T.z_len (pa1 (pv 4))) (pcb (Mq (K:=K)) T.z_len (pa1 (pv 8)))))) (L6 _)))))
   (LQ (LY Ni))
   Mg)
  (LM (pst 9 nd (M9 (K:=K) OJ Rt Ru RI (L8 Rj) (pa1 (Nl ["_law_pattern_here"] [none] rfl (by kernel_rfl) rfl (Mx (K:=K) (pv 8)) (fun _ _ _ _=>(ME (i:=0) (show (["_law_pattern_here"]:List Str).Nodup by decide +kernel) rfl (Or.inl rfl) (Or.inr rfl))) (fun _ _ _ _=>Nq) (fun _ _ _ _=>(L0 Db hr.LV rfl (pa1 (pv 0))))))))
  (LM (Me (L_ (o_ne hr.units) (Nt (pv 5) O4.cl Ce hr.LV (pa1 (L8 t_ptsen))) (pix K (MZ (LO (L8 YX) (pa1 (pv 9)))) (pct Ss T.z_int (pa1 (NK o_gt (pcb (Mq (K:=K)) T.z_len (pa1 (pv 8))) LL (L6 _))))) (L6 _))
   (LQ (LY Ni))
   Mg)
  (LM (Me (PW.pt (Pf (OO (NC (L0 CY hr.LV rfl (LO (pv 5) (LO (pv 4) (pa1 (pv 3))))) (fun _=>rfl))) (QC (L_ (o_ne hr.units) (Nt (pv 5) O4.cl Ce hr.LV (pa1 (L8 Zl))) (L8 t_d0) (L6 _)))))
   (LQ (LY Ni))
   Mg)
  (LM (pst 10 nd (L0 Do hr.LV rfl (LO (pct Oc T.z_list (pa1 (pv 4))) (pa1 (pct Oc T.z_list (pa1 (pv 8)))))))
  (LM (Me (PW.pt (Pf (OO (NC (pcb V3 T.z_isinstance (LO (pv 10) (pa1 (pty "tuple" T.z_tuple)))) (fun _=>rfl))) (Pf (L_ (o_ne hr.units) (pcb (Mq (K:=K)) T.z_len (pa1 (pv 10))) LL (L6 _)) (Pf (L_ (o_ne hr.units) (pix K (pv 10) LL) (L8 TF) (L6 _)) (QC (OO (NC (pcb V3 T.z_isinstance (LO (pix K (pv 10) LL) (pa1 (pty "list" T.z_list)))) (fun _=>rfl))))))))
   (LQ (LY Ni))
   Mg)
  (LQ (LY (RB (L0 Dc hr.LV rfl (LO (pv 4) (LO (pv 8) (pa1 (pix K (pv 10) LL))))) (Pu (L0 Dd hr.LV rfl (pa1 (pv 8))))))))))))))))))))))))),?_⟩
 walk_at "s0"
 rw[t_ton11]
 ext
 refine⟨a,ns,0,rfl,hS,by decide,by decide,fun p1 H1 Ef DN o1=>?_⟩
 ext
 refine⟨p1,0,rfl,DN,by decide,fun l H2 Du D5 DH DS o2=>?_⟩
 ext
 refine⟨p1,3,l,8,rfl,DS,by decide,Du,by omega,DH,by decide,by decide,fun w1 H3 a1 b1 c1 DP k3=>?_⟩
 ext
 refine⟨p1,33,l,8,rfl,DP,by decide,Du,by omega,DH,by decide,by decide,fun w2 H4 a2 b2 c2 GC k4=>?_⟩
 have k04:Kept p1 H H4:=((o1.kept.trans o2.kept).trans k3).trans k4
 have s04:=NX k04 (Same.refl H) Ef
 ext
 intro wa HH
 obtain⟨H5,Il,s5,ewa⟩:=MS HH (.lst (L9 [w1,w2]))
 rw[show upd H4 wa (.lst [.str (S w1),.str (S w2)])=H5 from Il]
 have s05:=s04.trans s5
 clear GC k04 k3 k4 o1 o2 DN DS DP s04 Il s5
 ext
 refine⟨a,ns,1,rfl,s05.seq hS,by decide,by decide,fun p2 H6 DA GR o6=>?_⟩
 have nwp:wa≠p2:=Mo ewa DA
 have s06:=NX o6.kept s05 (s05.free DA)
 have ewa6:=o6.kept _ _ nwp ewa
 ext
 refine⟨p2,6,0,rfl,GR,by decide,by decide,by decide,fun d H7 DO Df Jz o7=>?_⟩
 have s07:=NX o7.kept s06 (s05.free DA)
 have ewa7:=o7.kept _ _ nwp ewa6
 ext
 intro pa Er
 have npp:pa≠p2:=fun z=>by
  obtain⟨o,ho⟩:=Jz.some
  rw[z,ho] at Er;cases Er
 refine Sz (fun i B6 σ H'=>∃ v,σ=[some (.ref p2),some (.str (S l)),some (.ref wa),v]/\(∃ xs:List Pat,L2.IsL H' B6 (xs.map patD)/\(∀ x∈xs,VP x.1 x.2/\x.1.length<=8)/\xs.length=i)/\B6.length<=i/\H' pa=some (.lst B6)/\FeedAt H' p2 (1+200 * i)/\Kept p2 H7 H')
  ⟨none,rfl,⟨[],by simp[L2.IsL],(fun x hx=>nomatch hx),rfl⟩,LZ _,LN,(Jz.new Er),(Kept.refl p2 H7).new Er _⟩ (fun i B6 σ H' hI9=>by rcases hI9 with ⟨_,_,_,e3,e2,_⟩;exact⟨e2,e3⟩) (szn (by omega)) ?_ ?_
 ·intro i B6 σ H8 hi hI9
  obtain⟨v,rfl,⟨xs,Ds,GE,Ea⟩,Fo,e8,Im,k8⟩:=hI9
  have hi:i < 6:=by omega
  obtain⟨wk,LC,wk0,wk1,wk2⟩:∃ wk,atI (L9 [w1,w2]) ((0+(i:Int)) % 2)=some (.str (S wk))/\Low wk/\1<=wk.length/\wk.length<=20:=by
   rcases (show (0+(i:Int)) % 2=0∨(0+(i:Int)) % 2=1 by omega) with e | e
   ·exact⟨w1,by rw[e];rfl,a1,b1,by omega⟩
   ·exact⟨w2,by rw[e];rfl,a2,b2,by omega⟩
  ext
  refine OY (Nd (k8 _ _ nwp ewa7)) LC ?_
  ext
  refine⟨p2,1+200 * i,l,wk,3,rfl,Im,by have:RL=1000000:=rfl;omega,Du,by omega,DH,wk0,wk1,wk2,by decide,by decide,fun v x H9 hv hx hx4 HJ k9=>?_⟩
  have e9:=k9 _ _ npp e8
  have tk9:∀ b zs,H9 b=some (.tup zs)->(upd H9 pa (.lst (B6++[v]))) b=some (.tup zs):=fun b zs e=>by
   rw[LU (Qi e e9 (by intro z;cases z))];exact e
  refine⟨e9,_,rfl,⟨xs++[x],?_,fun y hy=>?_,by rw[Md,Ea];rfl⟩,by rw[Md];show _+1<=_;omega,LN,(HJ.mono (by omega)).off (LU (N2 npp)),fun b o hb e=>?_⟩
  ·have h1:=Rh tk9 (keptT k9 Im Ds)
   have h2:=Rh (xs:=[x]) (ys:=[v]) tk9 ⟨hv,trivial⟩
   rw[L3]
   exact IsL.append h1 h2
  ·rcases L7.mp hy with hy | hy
   ·exact GE y hy
   ·rw[Ml.mp hy]
    exact⟨hx,by omega⟩
  ·rw[LU (Mo e Er)]
   exact k9 b o hb (k8 b o hb e)
 intro ys σ H8 hI9
 obtain⟨v,rfl,⟨xs,Ds,GE,Ea⟩,Fo,e8,Im,k8⟩:=hI9
 have hO:PsOk xs:=⟨GE,by omega⟩
 have s08:=NX k8 s07 (s05.free DA)
 have ewa8:=k8 _ _ nwp ewa7
 clear GE Im k8 ewa7 s07 ewa6 s06 GR Jz o6 o7 ewa s05
 ext
 refine⟨a,ns,2,rfl,s08.seq hS,by decide,by decide,fun p3 H9 FU HJ o9=>?_⟩
 have nwp3:wa≠p3:=Mo ewa8 FU
 have npp3:pa≠p3:=Mo e8 FU
 have HK:L2.IsL H9 ys (xs.map patD):=Rh (fun b zs e=>o9.kept b _ (Mo e FU) e) Ds
 ext
 refine⟨p3,wa,0,l,[w1,w2],rfl,HJ,by decide,Du,D5,DH,N2 nwp3,o9.kept _ _ nwp3 ewa8,fun w' hw'=>?_,by show 2<=10;decide,fun wb ws H10 ewb Fz k10=>?_⟩
 ·rcases Mc.mp hw' with rfl | hw'
  ·exact⟨a1,b1,by omega⟩
  ·rw[Ml.mp hw']
   exact⟨a2,b2,by omega⟩
 have Cv:=keptT k10 HJ HK
 have epa:=k10 _ _ npp3 (o9.kept _ _ npp3 e8)
 clear HK Ds k10 o9 HJ e8 ewa8 s08 FU nwp3 npp3
 ext
 refine P_ ?_
 ext
 intro dk dx JA FS C5
 obtain⟨H11,EI,s11,edk⟩:=Ri (C:=cO4) JA FS
 rw[EI]
 refine⟨dk,dx,rfl,edk,fun td H12 EO hD off=>⟨rfl,?_⟩⟩
 have s12:Same H10 H12:=fun b o e=>off b o (Mo e JA) (s11 _ _ e)
 have td0:H10 td=none:=s11.free EO
 obtain⟨_,dd,_,ed,_⟩:=hD.at
 clear EI s11 edk off EO C5 JA FS
 ext
 refine M_ ?_
 ext
 refine M' ed rfl ?_
 ext
 refine⟨dk,td,none,_,rfl,hD,.ton fun H13 HL k13=>?_⟩
 have s13:Same H10 H13:=NX k13 s12 td0
 clear hD ed k13 s12
 have De:ys.length=xs.length:=by have:=Cv.length;simpa using this
 have LD:=hO.2
 have epa13:=s13 _ _ epa
 ext
 refine NJ (K:=K) (xs:=ys) (fun i σ H'=>∃ x6,σ=[some (.ref a),some (.ref p2),some (.str (S l)),some (.ref wb),some (.ref pa),some (.ref dk),x6,none,none,none,none]/\Dsk cO4 cO2 cO3 H' dk td (some (xs.take i))/\Same H10 H')
  ⟨none,rfl,HL,s13⟩ (fun i σ H' _ hI9=>by rcases hI9 with ⟨_,_,_,s⟩;exact SqL.of (s _ _ epa)) ?_ ?_
 ·intro i y σ H14 hy hI9
  obtain⟨x6,rfl,EJ,s14⟩:=hI9
  have hi:i < xs.length:=by have:=(MJ.mp hy).1;omega
  obtain⟨y',d',Kq,Kr,hI⟩:=IsL.get (IsL.same s14 Cv) (i:=i) (by rw[LP];exact hi)
  rw[hy] at Kq
  cases Kq
  rw[Ma,LS hi] at Kr
  cases Kr
  have hx:=(hO.1 _ (MD hi)).1
  have LF:PsOk (xs.take i):=⟨fun x hx=>hO.1 x (Ro hx),by rw[Mt];omega⟩
  rw[MA,LS hi,show (some xs[i]).toList=[xs[i]] from rfl]
  generalize xs[i]=x at hI hx
  obtain⟨_,dd,_,ed,_⟩:=EJ.at
  ext
  refine M_ ?_
  ext
  refine M' ed rfl ?_
  ext
  refine⟨y,x,rfl,hI,hx,fun H15 s15=>?_⟩
  have hpt:=(Rm hx).1
  refine PZ (by have:(tPAT++[32]++tEN++[32]).length=11:=rfl;omega) ?_
  ext
  refine⟨dk,td,_,[tPAT,tEN,ptxt x.1 x.2],by simp[MO],EJ.same s15,.pat LF hx fun H16 FG k16=>?_⟩
  ext
  exact⟨_,rfl,FG,NX k16 (s14.trans s15) td0⟩
 intro σ H14 hI9
 obtain⟨x6,rfl,EJ,s14⟩:=hI9
 rw[De,Mz] at EJ
 have epa14:=s14 _ _ epa
 clear HL s13 epa13
 ext
 refine SG (Nd epa14) fun p4 Ks=>?_
 obtain⟨H15,HM,s15,ep4⟩:=MS Ks (.lst ys)
 rw[HM]
 ext
 refine⟨p4,ys,xs,rfl,ep4,IsL.same (s14.trans s15) Cv,hO.sm,fun nb ks H16 LG hL EB enb s16=>?_⟩
 have s1016:=s14.trans (s15.trans s16)
 have FG:=EJ.same (s15.trans s16)
 have epa16:=s1016 _ _ epa
 have Fs:=US EB
 clear HM s15 ep4 Ks s16 EJ s14 epa14 LG
 ext
 have enb':H16 nb=some (.lst (ks.map fun k:Nat=>V.int (k:Int))):=by rw[enb,MP,MQ];rfl
 intro r B'
 refine Sz (fun i B6 σ H'=>∃ v,σ=[some (.ref nb),v]/\B6=(MP ((L5 i).filter fun k=>decide (k∈ks))).map V.int/\H' r=some (.lst B6)/\Same H16 H')
  ⟨none,rfl,rfl,LN,LW B' _⟩ (fun i B6 σ H' hI9=>by rcases hI9 with ⟨_,_,e,e2,_⟩;exact⟨e2,by rw[e,LP,Oy];exact MX (Oz _ _) (by simp)⟩) (szn (by omega)) ?_ ?_
 ·intro i B6 σ H17 hi hI9
  obtain⟨v,rfl,rfl,e17,s17⟩:=hI9
  rw[UA]
  ext
  refine SF (Nd (s17 _ _ enb')) ⟨rfl,il ks⟩ ?_
  rw[B3 Mj,im]
  ext
  rw[Pb,Op]
  by_cases hc:i∈ks
  ·refine NP hc ?_
   ext
   refine⟨e17,_,rfl,?_,LN,MW B' s17⟩
   rw[Ud (by simpa using hc),MP,MP,L3,L3];rfl
  ·refine ND hc ?_
   refine⟨_,rfl,?_,e17,s17⟩
   rw[Ue (by simpa using hc),UX,OD]
 intro B6 σ H17 hI9
 obtain⟨v,rfl,rfl,e17,s17⟩:=hI9
 rw[show ((ys.length:Int)).toNat=xs.length by omega,Uc EB az] at e17
 have enb17:=s17 _ _ enb
 have s1017:=s1016.trans s17
 have HN:=FG.same s17
 clear enb' FG epa16 s1016 enb
 refine i_neE (d:=.lst ((MP ks).map Dt.int)) (e:=.lst ((MP ks).map Dt.int)) (Qn enb17 (IsL.ints _ _)) (Qn e17 (IsL.ints _ _)) (Zd _) (Zd _) ?_
 rw[cG (Zd _)]
 clear e17 s17 B'
 have epa17:=s1017 _ _ epa
 ext
 intro lf Io
 refine Pk (K:=K) (xs:=(MP ks).map V.int) (fun j B6 σ H'=>∃ x,σ=[some (.ref pa),x]/\B6=(ks.take j).map (fun k=>ys.getD k .non)/\H' lf=some (.lst B6)/\Same H17 H') (fun j B6 σ H' _ hI9=>by rcases hI9 with ⟨_,_,_,_,s⟩;exact SqL.of (s _ _ enb17))
  ⟨none,rfl,rfl,LN,LW Io _⟩ (fun j B6 σ H' hI9=>by rcases hI9 with ⟨_,_,e,e2,_⟩;exact⟨e2,by rw[e,LP,Mt];omega⟩) (szn (by rw[LP,Oy];omega)) ?_ ?_
 ·intro j B6 σ H18 hj hI9
  obtain⟨x,rfl,rfl,e18,s18⟩:=hI9
  rw[LP,Oy] at hj
  rw[TM (LS hj)]
  have Cm:=RN EB _ (MD hj)
  rw[MA,LS hj]
  generalize ks[j]=k at Cm ⊢
  have Fn:atI ys (k:Int)=some (ys.getD k .non):=Og (by omega) (by rw[show ((k:Int)).toNat=k by omega,L4,LS (show k < ys.length by omega)];rfl)
  ext
  refine OY (Nd (s18 _ _ epa17)) Fn ?_
  refine⟨e18,_,rfl,?_,LN,MW Io s18⟩
  rw[L3];rfl
 intro B6 σ H18 hI9
 obtain⟨x,rfl,rfl,elf,s18⟩:=hI9
 rw[LP,Oy,Mz] at elf
 have s1018:=s1017.trans s18
 have JB:=Re (IsL.same s1018 Cv) (RN EB)
 have GH:=HN.same s18
 have EM:(ks.map fun k=>ys.getD k .non).length=ks.length:=LP ..
 generalize ks.map (fun k=>ys.getD k .non)=zs at elf JB EM
 have Kt:H10 lf=none:=s1017.free Io
 clear s18 HN epa17 s1017 enb17 Io
 have alk:=hL.alk hO.sm
 have FX:=hL.need (Yu EB)
 have Fi:PsOk (sel xs ks):=⟨fun x hx=>hO.1 x (Yv (RN EB) x hx),by rw[Rc];omega⟩
 ext
 refine⟨dk,td,wb,.ref pa,xs,xs,ws,rfl,GH,hO,Qn (s1018 _ _ epa) (IsL.same s1018 Cv),hO,s1018 _ _ ewb,fun w hw=>⟨Fz w hw,rfl⟩,fun H19 s19=>?_⟩
 have Fa:=GH.same s19
 have s1019:=s1018.trans s19
 have elf19:=s19 _ _ elf
 have FY:=IsL.same s19 JB
 clear GH s1018 elf JB s19
 obtain⟨_,dd,_,ed,_⟩:=Fa.at
 ext
 refine M_ ?_
 ext
 refine M' ed rfl ?_
 ext
 refine⟨dk,td,some xs,_,rfl,Fa,.par hO fun ks' hL' _ H20 HP k20=>?_⟩
 cases hL'.one hL
 have s1020:=NX k20 s1019 td0
 have elf20:=Fa.up k20 elf19 fun _ z=>nomatch z
 have Fb:=Rh (fun b zs e=>Fa.up k20 e fun _ z=>nomatch z) FY
 have epa20:=s1020 _ _ epa
 clear Fa s1019 elf19 FY ed k20 hL'
 ext
 rw[De,EM,show (xs.length:Int) - (ks.length:Int)=((xs.length - ks.length:Nat):Int) by omega]
 refine⟨T7 _ (by omega),?_⟩
 rw[<- T5]
 ext
 refine O0 (by simp) ?_
 ext
 intro r1 EN
 refine Pk (K:=K) (xs:=zs) (fun i B6 σ H'=>∃ x,σ=[x]/\B6=L9 (((sel xs ks).take i).map fun x=>ptxt x.1 x.2)/\H' r1=some (.lst B6)/\Same H20 H') (fun i B6 σ H' _ hI9=>by rcases hI9 with ⟨_,_,_,_,s⟩;exact SqL.of (s _ _ elf20))
  ⟨none,rfl,rfl,LN,LW EN _⟩ (fun i B6 σ H' hI9=>by rcases hI9 with ⟨_,_,e,e2,_⟩;exact⟨e2,by rw[e,L9,LP,LP,Mt];omega⟩) (szn (by omega)) ?_ ?_
 ·intro i B6 σ H21 hi hI9
  obtain⟨x,rfl,rfl,e21,s21⟩:=hI9
  rw[EM,<- Rc xs ks] at hi
  obtain⟨y,dy,hy,Df,hI⟩:=IsL.get (IsL.same s21 Fb) (show i < ((sel xs ks).map patD).length by simpa using hi)
  rw[Ma,LS hi] at Df
  cases Df
  rw[L4,hy,Ps,MA,LS hi]
  ext
  refine⟨y,(sel xs ks)[i],rfl,hI,(Fi.1 _ (MD hi)).1,fun H22 s22=>?_⟩
  refine⟨s22 _ _ e21,_,rfl,?_,LN,MW EN (s21.trans s22)⟩
  rw[L9,L9,L3,L3];rfl
 intro B6 σ H21 hI9
 obtain⟨x,rfl,rfl,e21,s21⟩:=hI9
 rw[EM,<- Rc xs ks,Mz] at e21
 have FH:=HP.same s21
 have s1021:=s1020.trans s21
 have elf21:=s21 _ _ elf20
 have FZ:=IsL.same s21 Fb
 clear HP s1020 elf20 Fb s21 epa20 EN
 have DT:=Rl (n:=50) ((sel xs ks).map fun x=>ptxt x.1 x.2) fun y hy=>by
  obtain⟨x,hx,rfl⟩:=MC.mp hy
  exact(Rm (Fi.1 x hx).1).1
 rw[LP,Rc] at DT
 have LH:=Rc xs ks
 generalize Gz:(sel xs ks).map (fun x=>ptxt x.1 x.2)=tx at e21 DT
 have D6:tx.length=ks.length:=by rw[<- Gz,LP,LH]
 rw[show L9 tx=(tx.map S).map V.str by rw[MQ];rfl] at e21
 ext
 refine RK (Ot e21) (by rw[LP,Mi,O_];omega) ?_
 rw[Y0]
 obtain⟨_,dd,_,ed,_⟩:=FH.at
 ext
 refine M_ ?_
 ext
 refine M' ed rfl ?_
 ext
 refine⟨dk,td,_,_,rfl,FH,.pts Fi fun H22 s22=>?_⟩
 rw[Gz]
 have HQ:=FH.same s22
 have s1022:=s1021.trans s22
 have elf22:=s22 _ _ elf21
 have F3:=IsL.same s22 FZ
 clear FH s1021 elf21 FZ s22 ed e21
 ext
 intro p5 Ku
 obtain⟨H23,HR,s23,ep5⟩:=MS Ku (.lst [.str (S [110,111,110,101]),.str (S (MO 32 tx))])
 rw[HR]
 have GI:=HQ.same s23
 have s1023:=s1022.trans s23
 have elf23:=s23 _ _ elf22
 have F4:=IsL.same s23 F3
 clear HQ s1022 elf22 F3 s23 HR Ku
 ext
 refine OY (v:=.str (S (RO 32 tx))) (Nd ep5) ?_ ?_
 ·rw[EM]
  unfold RO
  by_cases h0:tx=[]
  ·rw[B4 h0,B1 (by rw[h0] at D6;simp at D6;omega)];rfl
  ·have:=OA.mpr h0
   rw[B3 h0,B2 (by omega)];rfl
 ext
 refine O0 (by simp) ?_
 clear ep5 Gz D6 DT
 ext
 refine⟨dk,td,wb,.ref pa,xs,sel xs ks,ws,rfl,GI,Fi,Qn (s1023 _ _ epa) (IsL.same s1023 Cv),hO,s1023 _ _ ewb,fun w hw=>⟨Fz w hw,(alk.shw (Fz w hw).1).symm⟩,fun H24 s24=>?_⟩
 have Fc:=GI.same s24
 have s1024:=s1023.trans s24
 have elf24:=s24 _ _ elf23
 have F5:=IsL.same s24 F4
 clear GI s1023 elf23 F4 s24
 obtain⟨_,dd,_,ed,_⟩:=Fc.at
 ext
 refine M_ ?_
 ext
 refine M' ed rfl ?_
 ext
 refine⟨dk,td,_,_,rfl,Fc,.par Fi fun ks' hL' _ H25 JC k25=>?_⟩
 cases hL'.again FX
 rw[Qq,ZI]
 have s1025:=NX k25 s1024 td0
 have elf25:=Fc.up k25 elf24 fun _ z=>nomatch z
 have Fd:=Rh (fun b zs e=>Fc.up k25 e fun _ z=>nomatch z) F5
 have epa25:=s1025 _ _ epa
 clear Fc s1024 elf24 F5 ed k25 hL' JC
 ext
 refine SG (Nd epa25) fun p6 LI=>?_
 obtain⟨H26,JD,s26,ep6⟩:=MS LI (.lst ys)
 rw[JD]
 have elf26:=s26 _ _ elf25
 ext
 refine SG (Nd elf26) fun p7 LJ=>?_
 obtain⟨H27,JE,s27,ep7⟩:=MS LJ (.lst zs)
 rw[JE]
 have s2527:=s26.trans s27
 ext
 refine⟨p6,p7,ys,zs,xs,sel xs ks,rfl,s27 _ _ ep6,ep7,IsL.same (s1025.trans s2527) Cv,IsL.same s2527 Fd,hO.sm,Fi.sm,fun r u H28 hb _ _ _ _=>absurd hb (Alk.sm hO.sm.1 Fi.sm.1 alk u),fun r lv vs zv H28 Dr _ _ er el LK s28=>?_⟩
 have s2528:=s2527.trans s28
 have s1028:=s1025.trans s2528
 ext
 refine⟨pa,lf,lv,xs,sel xs ks,zv,vs,rfl,⟨ys,zs,s1028 _ _ epa,s2528 _ _ elf25,IsL.same s1028 Cv,IsL.same s2528 Fd,hO.sm.1,Fi.sm.1⟩,hO.sm,Fi.sm,el,LK,Dr,fun H29 s29=>?_⟩
 have s2529:=s2528.trans s29
 ext
 exact⟨lf,zs,sel xs ks,rfl,s2529 _ _ elf25,IsL.same s2529 Fd,Fi,FX,fun H30 _=>q H30⟩
end
def GfE (K:LR)(x:Str)(st:Au):Prop:=∃ f fd,MK K Ai x=some (some (.ref f))/\Fun K x x st f fd
def MtE (K:LR)(c:Ac)(x q:Str)(st:Au):Prop:=∃ f fd,MM K (.ref c) x=some (some (.ref f))/\U0 K (.ref f)=true/\Fun K x q st f fd
structure EvE (P:Ag)(w:Ak)(K:LR)(mg:Str->Option Ab)(base:Ao):Prop where
 at_:∃ h:Ao,K.In h/\h.Ns Ai mg
section
variable {P:Ag}{w:Ak}{K:LR}{mg:Str->Option Ab}{base:Ao}{x q:Str}{c:Ac}{st:Au}{k:Nat}{ps:List Str}{sp:Sp}
theorem EvE.dn (E:EvE P w K mg base)(F:GfE K x st)(o:∀{f fd},Fun K x x st f fd->FnOk P w K mg base CX0 k f fd ps sp)(b:∀{f fd},Fun K x x st f fd->Binds K fd ps []:=by walk_at "b"):Dn P w K mg base x k ps sp:=by
 obtain⟨h,X,G⟩:=E.at_
 obtain⟨f,fd,a,F⟩:=F
 exact⟨f,fd,OH X G a,F.kp,b F,o F⟩
theorem EvE.dm (E:EvE P w K mg base)(F:MtE K c x q st)(o:∀{f fd},Fun K x q st f fd->FnOk P w K mg base CX0 k f fd ps sp)(b:∀{f fd},Fun K x q st f fd->Binds K fd ps []:=by walk_at "b"):Dm P w K mg base c x k ps sp:=by
 obtain⟨f,fd,a,i,F⟩:=F
 exact⟨f,fd,⟨a,i,F.kp⟩,b F,o F⟩
theorem EvE.dk (E:EvE P w K mg base)(m:RZ K c=true)(p:OG K (.ref c)=true)(F:MtE K c "__init__" q st)(o:∀{f fd},Fun K "__init__" q st f fd->FnOk P w K mg base CX0 k f fd ps sp)(b:∀{f fd},Fun K "__init__" q st f fd->Binds K fd ps []:=by walk_at "b"):Dk P w K mg base c k ps sp:=by
 obtain⟨f,fd,a,i,F⟩:=F
 exact⟨f,fd,⟨m,a,i,p⟩,b F,o F⟩
end
theorem bn1 {α:Type}{P:List α->Prop}(h:∀ a,P [a]):∀ us:List α,us.length=1->P us
 | [a],_=>h a
theorem bn2 {α:Type}{P:List α->Prop}(h:∀ a b,P [a,b]):∀ us:List α,us.length=2->P us
 | [a,b],_=>h a b
theorem bn3 {α:Type}{P:List α->Prop}(h:∀ a b c,P [a,b,c]):∀ us:List α,us.length=3->P us
 | [a,b,c],_=>h a b c
theorem bn4 {α:Type}{P:List α->Prop}(h:∀ a b c d,P [a,b,c,d]):∀ us:List α,us.length=4->P us
 | [a,b,c,d],_=>h a b c d
theorem bn5 {α:Type}{P:List α->Prop}(h:∀ a b c d e,P [a,b,c,d,e]):∀ us:List α,us.length=5->P us
 | [a,b,c,d,e],_=>h a b c d e
local macro_rules | `(tactic| walk_at "b")=>`(tactic| first | (exact fun F=>F.binds fun _ _ _ _ _ _=>bn1 fun _=>rfl) | (exact fun F=>F.binds fun _ _ _ _ _ _=>bn2 fun _ _=>rfl) | (exact fun F=>F.binds fun _ _ _ _ _ _=>bn3 fun _ _ _=>rfl) | (exact fun F=>F.binds fun _ _ _ _ _ _=>bn4 fun _ _ _ _=>rfl) | (exact fun F=>F.binds fun _ _ _ _ _ _=>bn5 fun _ _ _ _ _=>rfl))
theorem all_mk {l:aN}{w:Ak}{K:LR}{h:Ao}{mg:Str->Option Ab}{fa f70:Ac}(X:K.In h)(G:h.Ns Ai mg)(Jr:mg "law"=some (.ref fa))
  {cO:Ac} (aO:MK K Ai "Sight"=some (some (.ref cO))) (pO:Rq K cO U5=true) (dO:RY K cO=true) (vO:Ul K cO=true) (sO:MM K (.ref cO) "__setattr__"=some (some (.builtin "object.__setattr__"))) (mO:RZ K cO=true) (kO:OG K (.ref cO)=true)
  (n_known:MM K (.ref cO) "known"=some none)
  (n_one_numbers:MM K (.ref cO) "one_numbers"=some none)
  (n_other_numbers:MM K (.ref cO) "other_numbers"=some none)
  {cO2:Ac} (aO2:MK K Ai "Breaker"=some (some (.ref cO2))) (pO2:Rq K cO2 U5=true) (dO2:RY K cO2=true) (vO2:Ul K cO2=true) (sO2:MM K (.ref cO2) "__setattr__"=some (some (.builtin "object.__setattr__"))) (mO2:RZ K cO2=true) (kO2:OG K (.ref cO2)=true)
  (n2_told_gaps:MM K (.ref cO2) "told_gaps"=some none)
  (n2_patterns:MM K (.ref cO2) "patterns"=some none)
  (n2_head:MM K (.ref cO2) "head"=some none)
  (n2_tail:MM K (.ref cO2) "tail"=some none)
  {cO3:Ac} (aO3:MK K Ai "Tongues"=some (some (.ref cO3))) (pO3:Rq K cO3 U5=true) (dO3:RY K cO3=true) (vO3:Ul K cO3=true) (sO3:MM K (.ref cO3) "__setattr__"=some (some (.builtin "object.__setattr__"))) (mO3:RZ K cO3=true) (kO3:OG K (.ref cO3)=true)
  (n3_breakers:MM K (.ref cO3) "breakers"=some none)
  {cO4:Ac} (aO4:MK K Ai "Desk"=some (some (.ref cO4))) (pO4:Rq K cO4 U5=true) (dO4:RY K cO4=true) (vO4:Ul K cO4=true) (sO4:MM K (.ref cO4) "__setattr__"=some (some (.builtin "object.__setattr__"))) (mO4:RZ K cO4=true) (kO4:OG K (.ref cO4)=true)
  (n4_tongues:MM K (.ref cO4) "tongues"=some none)
  (F0:GfE K "beginnings" s_beginnings)
  (F1:GfE K "greatest_numbers" s_greatest_numbers)
  (F2:GfE K "told_at_end" s_told_at_end)
  (M3:MtE K cO "__init__" "Sight.__init__" s_Sight_init)
  (M4:MtE K cO "tail_of" "Sight.tail_of" s_Sight_tail_of)
  (M5:MtE K cO "pair_at_end" "Sight.pair_at_end" s_Sight_pair_at_end)
  (M6:MtE K cO "first" "Sight.first" s_Sight_first)
  (M7:MtE K cO "by_letter" "Sight.by_letter" s_Sight_by_letter)
  (M8:MtE K cO "by_end" "Sight.by_end" s_Sight_by_end)
  (F9:GfE K "letters_to_read" s_letters_to_read)
  (F10:GfE K "steps_from" s_steps_from)
  (F11:GfE K "breaks_otherwise" s_breaks_otherwise)
  (F12:GfE K "apart" s_apart)
  (F13:GfE K "needless" s_needless)
  (F14:GfE K "left_of_round" s_left_of_round)
  (F15:GfE K "pared" s_pared)
  (F16:GfE K "_law_feed" s_law_feed)
  (F17:GfE K "_law_next" s_law_next)
  (F18:GfE K "fitting_places" s_fitting_places)
  (F19:GfE K "values_by_fits" s_values_by_fits)
  (F20:GfE K "values" s_values)
  (F21:GfE K "breaks" s_breaks)
  (F22:GfE K "gaps_by_word" s_gaps_by_word)
  (F23:GfE K "shown_broken" s_shown_broken)
  (M24:MtE K cO2 "__init__" "Breaker.__init__" s_Breaker_init)
  (M25:MtE K cO2 "gaps" "Breaker.gaps" s_Breaker_gaps)
  (M26:MtE K cO2 "shown" "Breaker.shown" s_Breaker_shown)
  (F27:GfE K "with_patterns" s_with_patterns)
  (M28:MtE K cO3 "__init__" "Tongues.__init__" s_Tongues_init)
  (M29:MtE K cO3 "put" "Tongues.put" s_Tongues_put)
  (M30:MtE K cO3 "breaker_of" "Tongues.breaker_of" s_Tongues_breaker_of)
  (F31:GfE K "is_letter" s_is_letter)
  (F32:GfE K "is_word" s_is_word)
  (F33:GfE K "is_name" s_is_name)
  (F34:GfE K "shown_number" s_shown_number)
  (F35:GfE K "can_stand" s_can_stand)
  (F36:GfE K "shown_pattern" s_shown_pattern)
  (F37:GfE K "read_pattern" s_read_pattern)
  (F38:GfE K "check_word" s_check_word)
  (F39:GfE K "shown_word" s_shown_word)
  (F40:GfE K "parted" s_parted)
  (F41:GfE K "with_pattern_more" s_with_pattern_more)
  (F42:GfE K "is_text" s_is_text)
  (F43:GfE K "is_number" s_is_number)
  (F44:GfE K "has_its_count" s_has_its_count)
  (F45:GfE K "is_row" s_is_row)
  (F46:GfE K "words_of_row" s_words_of_row)
  (F47:GfE K "pressed" s_pressed)
  (F48:GfE K "with_told" s_with_told)
  (F49:GfE K "read_broken" s_read_broken)
  (F50:GfE K "without_needless" s_without_needless)
  (M51:MtE K cO4 "__init__" "Desk.__init__" s_Desk_init)
  (M52:MtE K cO4 "keep" "Desk.keep" s_Desk_keep)
  (M53:MtE K cO4 "pare" "Desk.pare" s_Desk_pare)
  (M54:MtE K cO4 "say" "Desk.say" s_Desk_say)
  (F55:GfE K "_law_letters" s_law_letters)
  (F56:GfE K "_law_word" s_law_word)
  (F57:GfE K "_law_numbers" s_law_numbers)
  (F58:GfE K "_law_pattern" s_law_pattern)
  (F59:GfE K "_law_values" s_law_values)
  (F60:GfE K "_law_text" s_law_text)
  (F61:GfE K "_law_odd" s_law_odd)
  (F62:GfE K "_law_shown" s_law_shown)
  (F63:GfE K "_law_tail" s_law_tail)
  (F64:GfE K "_law_most" s_law_most)
  (F65:GfE K "_law_next_views" s_law_next_views)
  (F66:GfE K "_law_closed" s_law_closed)
  (F67:GfE K "_law_asked" s_law_asked)
  (F68:GfE K "_law_wanted" s_law_wanted)
  (F69:GfE K "_law_some_words" s_law_some_words)
  {od70 an70:Option Ac}{sl70:Array (Option Ab)}{oc70 kV70 dc70 pm70 cd70 ct70:Ab}
  (a70:MK K Ai "law"=some (some (.ref f70))) (l70:K.lookup f70=some ⟨oc70,od70,.func (Rs "law" "law" (UG s_law) (RG s_law) (Oa s_law) .none kV70 dc70 pm70 an70 cd70 ct70),sl70⟩) (c_70:ZH K cd70 "law"=true) (k70:OG K (.ref f70)=true)
  {cD:Ac}{tD0 uD0 tD1 uD1 tD2 uD2 tD3 uD3 tD4 uD4 tD5 uD5 tD6 uD6:Tok} (aD:MK K Ai "COUNTS"=some (some (.ref cD))) (lD:K.lookup cD=some ⟨.type "dict",none,.dict #[⟨Os w.params "tongue",.str "tongue" tD0,.int 4 uD0⟩,⟨Os w.params "pattern",.str "pattern" tD1,.int 3 uD1⟩,⟨Os w.params "told",.str "told" tD2,.int 3 uD2⟩,⟨Os w.params "break",.str "break" tD3,.int 3 uD3⟩,⟨Os w.params "patterns",.str "patterns" tD4,.int 2 uD4⟩,⟨Os w.params "pare",.str "pare" tD5,.int 2 uD5⟩,⟨Os w.params "press",.str "press" tD6,.int 3 uD6⟩] 7,#[]⟩) (sD:(cD == Ar)=false)
  {tkLETTERS:Tok} (gLETTERS:MK K Ai "LETTERS"=some (some (.str "abcdefghijklmnopqrstuvwxyz" tkLETTERS)))
  {tkMOST_LETTERS:Tok} (gMOST_LETTERS:MK K Ai "MOST_LETTERS"=some (some (.int 8 tkMOST_LETTERS)))
  {tkFIGURES:Tok} (gFIGURES:MK K Ai "FIGURES"=some (some (.str "123456789" tkFIGURES)))
  {tkMOST_SIGNS:Tok} (gMOST_SIGNS:MK K Ai "MOST_SIGNS"=some (some (.int 22 tkMOST_SIGNS)))
  {tkPERCENT_SIGN:Tok} (gPERCENT_SIGN:MK K Ai "PERCENT_SIGN"=some (some (.int 37 tkPERCENT_SIGN)))
  (z_len:MK K Ai "len"=some none)
  (z_abs:MK K Ai "abs"=some none)
  (z_all:MK K Ai "all"=some none)
  (z_any:MK K Ai "any"=some none)
  (z_range:MK K Ai "range"=some none)
  (z_enumerate:MK K Ai "enumerate"=some none)
  (z_isinstance:MK K Ai "isinstance"=some none)
  (z_tuple:MK K Ai "tuple"=some none)
  (z_list:MK K Ai "list"=some none)
  (z_dict:MK K Ai "dict"=some none)
  (z_bool:MK K Ai "bool"=some none)
  (z_str:MK K Ai "str"=some none)
  (z_int:MK K Ai "int"=some none)
  (z_min:MK K Ai "min"=some none)
  (z_max:MK K Ai "max"=some none)
  (z_zip:MK K Ai "zip"=some none)
  (z_ord:MK K Ai "ord"=some none)
  (z_sorted:MK K Ai "sorted"=some none)
  (z_ValueError:MK K Ai "ValueError"=some none)
  : ∃ fd:AB,(∀(s:Ae) (v:Ab),BS s fd ⟨[v],[]⟩ [("_law_script",v)])/\∀ base:Ao,K.In base->base.Ns Ai mg->FnOk l.prog w K mg base CX0 13 fa fd ["_law_script"] (Rn K):=by
 have e:=Jr.symm.trans (OH X G a70)
 cases e
 have T:Txt mg (fun i=>([tkLETTERS,tkMOST_LETTERS,tkFIGURES,tkMOST_SIGNS,tkPERCENT_SIGN]:List Tok).getD i 0):=⟨Nz X G z_len,Nz X G z_abs,Nz X G z_all,Nz X G z_any,Nz X G z_range,Nz X G z_enumerate,Nz X G z_isinstance,Nz X G z_tuple,Nz X G z_list,Nz X G z_dict,Nz X G z_bool,Nz X G z_str,Nz X G z_int,Nz X G z_min,Nz X G z_max,Nz X G z_zip,Nz X G z_ord,Nz X G z_sorted,Nz X G z_ValueError,OH X G gLETTERS,OH X G gMOST_LETTERS,OH X G gFIGURES,OH X G gMOST_SIGNS,OH X G gPERCENT_SIGN⟩
 have DCC:Dcc l.prog w K mg cD:=dcc_mk (OH X G aD) lD sD
 have O:Ow K mg cO:=⟨OH X G aO,⟨pO,dO,vO,sO⟩,n_known,n_one_numbers,n_other_numbers⟩
 have O2:Ow2 K mg cO2:=⟨OH X G aO2,⟨pO2,dO2,vO2,sO2⟩,n2_told_gaps,n2_patterns,n2_head,n2_tail⟩
 have O3:Ow3 K mg cO3:=⟨OH X G aO3,⟨pO3,dO3,vO3,sO3⟩,n3_breakers⟩
 have O4:Ow4 K mg cO4:=⟨OH X G aO4,⟨pO4,dO4,vO4,sO4⟩,n4_tongues⟩
 have HS:=Sh (st:=s_law) l70 c_70 k70
 refine⟨Rs "law" "law" (UG s_law) (RG s_law) (Oa s_law) .none kV70 dc70 pm70 an70 cd70 ct70,fun s v=>.of_eq rfl,fun base _ _=>?_⟩
 have E:EvE l.prog w K mg base:=⟨h,X,G⟩
 have C7:=E.dn F0 fun F=>fk T F
 have Ci:=E.dn F1 fun F=>jm T F
 have CH:=E.dn F2 fun F=>fm T F
 have C9:=E.dk mO kO M3 fun F=>fo T O F C7 Ci
 have Cb:=E.dm M4 fun F=>fq T O F
 have B_:=E.dm M5 fun F=>jn T O F CH
 have CZ:=E.dm M6 fun F=>fu T O F Cb
 have Cs:=E.dm M7 fun F=>fw T O F Cb B_
 have CN:=E.dm M8 fun F=>fz T O F B_
 have Ct:=E.dn F9 fun F=>jo T F
 have C8:=E.dn F10 fun F=>fT T O F Cs CN
 have Cq:=E.dn F11 fun F=>jp T F
 have Do:=E.dn F12 fun F=>fZ T O F Ct C8 Cq C9 CZ
 have Cz:=E.dn F13 fun F=>f6 T F Do
 have Cp:=E.dn F14 fun F=>f8 T F Cz
 have Dp:=E.dn F15 fun F=>f9 T F Cp
 have CW:=E.dn F16 fun F=>fe T F
 have B8:=E.dn F17 fun F=>ff F
 have Cw:=E.dn F18 fun F=>fh T F
 have Cy:=E.dn F19 fun F=>fi T F
 have DK:=E.dn F20 fun F=>fj T F Cw Cy
 have DL:=E.dn F21 fun F=>ge T F DK
 have CO:=E.dn F22 fun F=>gl T F
 have CP:=E.dn F23 fun F=>gf T F
 have Cg:=E.dk mO2 kO2 M24 fun F=>gm T O2 F CO
 have CQ:=E.dm M25 fun F=>gn T O2 F DL
 have CK:=E.dm M26 fun F=>gq T O2 F CP CQ
 have B9:=E.dn F27 fun F=>gt T O2 F Cg
 have CU:=E.dk mO3 kO3 M28 fun F=>gw T O3 F
 have C0:=E.dm M29 fun F=>gx T O2 O3 F B9
 have Ck:=E.dm M30 fun F=>jq T O3 F
 have Cc:=E.dn F31 fun F=>gu T F
 have DB:=E.dn F32 fun F=>gv T F Cc
 have DD:=E.dn F33 fun F=>gy T F DB
 have Cu:=E.dn F34 fun F=>gA T F
 have Dg:=E.dn F35 fun F=>gB T F Cc
 have CL:=E.dn F36 fun F=>gC T F Cu
 have CS:=E.dn F37 fun F=>gD T F Dg
 have C_:=E.dn F38 fun F=>gJ T F Cc
 have Da:=E.dn F39 fun F=>gK T O2 F C_ CK
 have Dy:=E.dn F40 fun F=>gL T F
 have Co:=E.dn F41 fun F=>jr T O2 F CS B9
 have DE:=E.dn F42 fun F=>gE T F
 have CI:=E.dn F43 fun F=>gF T F
 have CJ:=E.dn F44 fun F=>gG T DCC F
 have DM:=E.dn F45 fun F=>gH T F CJ CI DD
 have CV:=E.dn F46 fun F=>gI T F DE DM
 have DF:=E.dn F47 fun F=>gM F
 have Dh:=E.dn F48 fun F=>gN F
 have C1:=E.dn F49 fun F=>gO F
 have Cr:=E.dn F50 fun F=>js T O2 F Dp B9
 have Dl:=E.dk mO4 kO4 M51 fun F=>gP (cO2:=cO2) T O3 O4 F CU
 have Ch:=E.dm M52 fun F=>gQ T O3 O4 F C0
 have Di:=E.dm M53 fun F=>gR T O2 O4 F Cr Ch
 have Ce:=E.dm M54 fun F=>gS T O2 O3 O4 F CV DF Dy Cg Ck Co Dh C1 Da CL Ch Di
 have C3:=E.dn F55 fun F=>gT T F B8
 have Cd:=E.dn F56 fun F=>gU T F B8
 have C2:=E.dn F57 fun F=>gW T F B8
 have C4:=E.dn F58 fun F=>gX T F B8 Cd C2
 have Cn:=E.dn F59 fun F=>gY T F
 have Db:=E.dn F60 fun F=>g9 T F
 have Dq:=E.dn F61 fun F=>hJ T F Cn
 have Dj:=E.dn F62 fun F=>hU T F Cn
 have CA:=E.dn F63 fun F=>hX T F
 have CB:=E.dn F64 fun F=>hZ T F
 have CC:=E.dn F65 fun F=>ia T F CA CB
 have Dc:=E.dn F66 fun F=>ic T F CA CC
 have CY:=E.dn F67 fun F=>ie T O4 F Ce Dj
 have Dd:=E.dn F68 fun F=>ig T F Cz Dq
 have CF:=E.dn F69 fun F=>ii T F Cd
 exact ok_law T O4 HS CW B8 C3 Cd C4 CF Dl Ce Db Dp CY Do Dc Dd
theorem walk {l:aN}{q:Ag}{loose:List Str}{XP:(Str->Option Ab)->Ao->Prop}{YP:Ak->Ao->Prop}{d:DefRec}{K:Params->LR}(hn:l.most=some 63)(GX:d.params.defaults=[])
  (hY:∀(w:Ak) (h:Ao),YP w h->(K w.params).In h)
  (F:∀(w:Ak) (mg:Str->Option Ab) (fa:Ac) (h:Ao),(K w.params).In h->h.Ns Ai mg->mg d.name=some (.ref fa) ->
   ∃ fd:AB,(∀(s:Ae) (u:Ab),BS s fd ⟨[u],[]⟩ [("_law_script",u)])/\∀ base:Ao,(K w.params).In base->base.Ns Ai mg->FnOk l.prog w (K w.params) mg base CX0 13 fa fd ["_law_script"] (Rn (K w.params))) :
  PySem.W.WalkO q loose XP YP l.row.toRowW d [] (fun f vs=>PySem.call f vs) :=
 L2.VQ (n:=63) (k:=13) (x:="_law_script") (CX:=fun _=>CX0) (sp:=fun w=>Rn (K w.params)) hn (by decide) GX ⟨rfl,by decide,by decide⟩ hY F (fun _ _ a ns hl _ hS=>⟨a,ns,rfl,hS,hl,fun _=>rfl⟩) fun _ _ _ _ _ z=>z
end K90
set_option hygiene true
local macro_rules | `(tactic| walk_at "w")=>`(tactic| (refine' ⟨_,_,?a,L2.Sh ?l ?c ?k⟩;(case a=>k_is);(case l=>k_is);(case c=>k_is);(case k=>k_is)))
local macro_rules | `(tactic| walk_at "v")=>`(tactic| (refine' ⟨_,_,?a,?b,L2.Sh ?l ?c ?k⟩;(case a=>k_is);(case b=>k_is);(case l=>k_is);(case c=>k_is);(case k=>k_is)))
open PySem PySem.W PyProof.Rows
set_option maxRecDepth 100000 in
set_option maxHeartbeats 0 in
theorem PySem.Challenge.cw_breakwords_k90_whole_for_all_words_holds : PySem.Challenge.rw_breakwords_k90_whole_for_all_words.Holds := by
 w_on;o_law;k_head;(case hw=>w_witness2)
 k_fill
 refine K90.walk (l:=PySem.Challenge.rw_breakwords_k90_whole_for_all_words) rfl rfl (fun w h Y=>PySem.W.kIn_of Y) ?F
 case F =>
  intro w mg fa h KX G Gb
  refine' K90.all_mk KX G Gb ?aO ?pO ?dO ?vO ?sO ?mO ?kO ?n_known ?n_one_numbers ?n_other_numbers ?aO2 ?pO2 ?dO2 ?vO2 ?sO2 ?mO2 ?kO2 ?n2_told_gaps ?n2_patterns ?n2_head ?n2_tail ?aO3 ?pO3 ?dO3 ?vO3 ?sO3 ?mO3 ?kO3 ?n3_breakers ?aO4 ?pO4 ?dO4 ?vO4 ?sO4 ?mO4 ?kO4 ?n4_tongues ?F0 ?F1 ?F2 ?M3 ?M4 ?M5 ?M6 ?M7 ?M8 ?F9 ?F10 ?F11 ?F12 ?F13 ?F14 ?F15 ?F16 ?F17 ?F18 ?F19 ?F20 ?F21 ?F22 ?F23 ?M24 ?M25 ?M26 ?F27 ?M28 ?M29 ?M30 ?F31 ?F32 ?F33 ?F34 ?F35 ?F36 ?F37 ?F38 ?F39 ?F40 ?F41 ?F42 ?F43 ?F44 ?F45 ?F46 ?F47 ?F48 ?F49 ?F50 ?M51 ?M52 ?M53 ?M54 ?F55 ?F56 ?F57 ?F58 ?F59 ?F60 ?F61 ?F62 ?F63 ?F64 ?F65 ?F66 ?F67 ?F68 ?F69 ?a70 ?l70 ?c_70 ?k70 ?aD ?lD ?sD ?gLETTERS ?gMOST_LETTERS ?gFIGURES ?gMOST_SIGNS ?gPERCENT_SIGN ?z_len ?z_abs ?z_all ?z_any ?z_range ?z_enumerate ?z_isinstance ?z_tuple ?z_list ?z_dict ?z_bool ?z_str ?z_int ?z_min ?z_max ?z_zip ?z_ord ?z_sorted ?z_ValueError
  case aO | pO | dO | vO | sO | mO | kO | n_known | n_one_numbers | n_other_numbers | aO2 | pO2 | dO2 | vO2 | sO2 | mO2 | kO2 | n2_told_gaps | n2_patterns | n2_head | n2_tail | aO3 | pO3 | dO3 | vO3 | sO3 | mO3 | kO3 | n3_breakers | aO4 | pO4 | dO4 | vO4 | sO4 | mO4 | kO4 | n4_tongues=>k_is
  case F0 | F1 | F2=>walk_at "w"
  case M3 | M4 | M5 | M6 | M7 | M8=>walk_at "v"
  case F9 | F10 | F11 | F12 | F13 | F14 | F15 | F16 | F17 | F18 | F19 | F20 | F21 | F22 | F23=>walk_at "w"
  case M24 | M25 | M26=>walk_at "v"
  case F27=>walk_at "w"
  case M28 | M29 | M30=>walk_at "v"
  case F31 | F32 | F33 | F34 | F35 | F36 | F37 | F38 | F39 | F40 | F41 | F42 | F43 | F44 | F45 | F46 | F47 | F48 | F49 | F50=>walk_at "w"
  case M51 | M52 | M53 | M54=>walk_at "v"
  case F55 | F56 | F57 | F58 | F59 | F60 | F61 | F62 | F63 | F64 | F65 | F66 | F67 | F68 | F69=>walk_at "w"
  case a70 | l70 | c_70 | k70 | aD | lD=>k_is
  case sD=>decide
  case gLETTERS | gMOST_LETTERS | gFIGURES | gMOST_SIGNS | gPERCENT_SIGN | z_len | z_abs | z_all | z_any | z_range | z_enumerate | z_isinstance | z_tuple | z_list | z_dict | z_bool | z_str | z_int | z_min | z_max | z_zip | z_ord | z_sorted | z_ValueError=>k_is
#print axioms PySem.Challenge.cw_breakwords_k90_whole_for_all_words_holds
namespace K90
end K90
