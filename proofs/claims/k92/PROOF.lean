import PyProof.Rows.All
import Wide.All
import OpenK.AllK
import Wide.FinOn
import Lean
import PyProof.EqAt
import PyProof.EqKinds
import PyProof.TupleCall
import PyProof.CompFree
import PyProof.P3Eq
import PyProof.Draws
import PyProof.EnumMake
import PyProof.WalksMore
import PyProof.StrLawsIn
import KE.KDictOf
import PyProof.ZipIter
import PyProof.WalkInts
import PyProof.SeqI3
import KE.KIntText
import PyProof.AutoListH
import PyProof.Rows.SortShellK
import PyProof.Rows.SortStr
import KE.KDictSum
import PyProof.CollectIter
import PyProof.TupleOfGen
import PyProof.ListRange
import KE.KRevIter
import PyProof.CollectWalk
import PyProof.ListNew
import KE.KItemsList
import KE.KDictList
import PyProof.DictTruth
import PyProof.DictWalks
import PyProof.Rows.StrMeet
import PyProof.StrLawsRepr
import PyProof.ExcClass2
import PyProof.ExcBaseAll.ValueError
import PyProof.InstStore
import PyProof.InstStoreFacts
import PyProof.StationsW
import PyProof.ExcArgsOwn
import PyProof.ExcAttrAll.ValueError
import PyProof.FString
import PyProof.FitsInt
import PyProof.PureStr
import PyProof.Rows.FactsFmt
import OpenK.KRaise
import PyProof.RulesAs
import PyProof.RulesDel
import KE.KMinKey
import PyProof.Rows.CallKwBuiltin
import PyProof.Rows.CountFlat
import PyProof.StrCalls2
import PyProof.StrLawsChain
import PyProof.StrLawsTight
import PyProof.FString5
import PyProof.CallFns
import PyProof.FactsAll.list_3
import PyProof.FactsAll.str_8
import PyProof.DictStraight
import PyProof.Rows.TupDisplay
import PySem.Challenge.RW_breakwords_k92_whole_desk
open PySem renaming wpAny_bind→Aa,Addr→Ab,Value→Ac,Shared→Ad,sizeLine→Ae,wpAny_pure→Af,starEach→Ag,mainGlobals→Ah,model→Ai,Program→Aj,World→Ak,wpAny_loadPart_at→Al,Around→Am,Heap→An,wpAny_mono→Ao,wpAny_loadPart'→Ap,eval→Aq,compareOp→Ar,Stmt→As,excClassObj→At,wpAny_field→Au,Expr→Av,FuncData→Aw,checkBuiltinCall→Ax,wpAny_isSubtype_exc→Ay,wpAny_truthy_bool→Az,wpAny_pyIter_list→AA,backTo→AB,wpAny_newObj_type→AC,wpAny_seqItems→AD,wpAny_Call_Name_kw→AE,wpAny_pyIter_tuple→AF,sysModules→AG,attributeBase→AH,binaryOp→AI,wpAny_callSpecial?_slot→AJ,bootBuiltins→AK,rawInt→AL,wpAny_holding→AM,strIterType→AN,wpAny_setField_rec→AO,wpAny_passesOwn→AQ,keywordEach→AR,codeAny_call_builtin→AS,wpAny_pyIter_enum→AT,wpAny_standAt→AU,NameKind→AV,IsPair→AW,typeLookup→AX,wpAny_setField→AY,codeAny_mono→AZ,wpAny_call_entry→A0,wpAny_onRaise→A1,wpAny_execs_nil→A2,assignEach→A3,tupleKind_room_in1→A4,sliceBounds→A5,wpAny_letGo→A6,foldedSetIterable→A7,backToKw→A8,wpAny_tryCatch→A9,plainObj_wpAny_Assign_Attribute→A_,wpAny_call→Ba,call_meets→Bb,behindInMarks→Bc,holding→Bd,wpAny_updateSeq_pair→Be,letOwnedTupleGo→Bf,wpAny_stack_any→Bg,codeAny_builtin→Bh,standAt→Bk,argBest→Bl,swapsWith→Bm,getMethod→Bo,typeIs_str→Br,Scope→Bt,sizeLine_eq→Bu,Keyword→Bv,getItem→Bw,IsZip→Bx,sub_enumerate→By,plainId_quiet→Bz,wpAny_pyIter_zip→BA,spliced→BB,valueAt→BD,cLine→BE,wpAny_updateSeq→BF,wpAny_isTrue_Compare1→BG,wpAny_formatField_str→BH,callWith→BI,subscripted→BJ,IsEnum→BK,unbindBehindTheSuite→BM,tupleKind→BN,BindsTo→BO,callerA→BP,seqItems?→BQ,fromIndex→BR,checkTypeCall→BU,wpAny_attempt→BV,PlainAttrs→BW,wpAny_rule→BX,seqIndex_neg→BY,reprText→BZ
open PyProof.Rows renaming AllBare→Bj,envOfC→Bq,subscriptTail_builtinR→BC,boot_enumerate→BL,subscriptTail→BS
theorem B0 {p:Prop}[Decidable p](h:¬p):decide p=false:=decide_eq_false h
theorem B1 {p:Prop}[Decidable p](h:p):decide p=true:=decide_eq_true h
theorem B2 {c:Prop}{_:Decidable c}(h:¬c){α:Sort _}{t e:α}:ite c t e=e:=if_neg h
theorem B3 {c:Prop}{_:Decidable c}(h:c){α:Sort _}{t e:α}:ite c t e=t:=if_pos h
set_option hygiene false
set_option compiler.extract_closed false
local macro_rules | `(tactic| omega)=>`(tactic| lia)
local macro_rules | `(tactic| obtain $p:rcasesPatMed:=$h:term)=>`(tactic| (refine Classical.byContradiction fun hg9=>?_;rcases $h:term with $p:rcasesPatMed;refine hg9 ?_;clear hg9))
namespace PySem.W.Fast
def tw8772991484539129589:=0
def tw7857206111021405386:=0
def tw7042735324533640374:=0
def tw4630607278723672695:=0
def tw10418005452603597261:=0
def tw9708679393413853246:=0
def tw8856176863308454415:=0
def tw1857908555594880353:=0
def tw4841657699658790924:=0
def tw15931058969613186879:=0
def tw8925424972832317598:=0
def tw1055394277614400991:=0
def tw4181873671079881197:=0
def tw14316289852633292614:=0
def tw1918024285767589904:=0
def tw12125102332895008129:=0
def tw6831664866765992784:=0
def tw9119537035538755758:=0
def tw14517081376783632746:=0
def tw14875860868846470986:=0
def tw16672854063475852316:=0
def tw2960085679675790717:=0
def tw10899828902606302028:=0
def tw71662143068681200:=0
def tw14087276749595549256:=0
def tw6376451074751323601:=0
def tw12335740879631418076:=0
def tw507977805338828198:=0
def tw4244164596197193496:=0
def tw13161384883240056929:=0
def tw4464369605879126025:=0
def tw7520138928273045179:=0
def tw2541288794720319725:=0
def tw11063521272927830382:=0
def tw5110132974878114918:=0
def tw2837013470788069754:=0
def tw18440571245411055375:=0
def tw6383049354409814669:=0
def tw4155871956019925981:=0
def tw2836218057959862519:=0
def tw7815060228102460076:=0
def tw355491370115825695:=0
def tw596600669388030270:=0
def tw6092091458563966203:=0
def tw2780310913167384009:=0
def tw15141336619856583875:=0
def tw16177779799389998560:=0
def tw11946703379840349433:=0
def tw11261249477427311839:=0
def tw1746629352451877062:=0
def tw7613636291202731763:=0
def tw4218940951840970066:=0
def tw7687846586416885363:=0
def tw16005435894961094310:=0
def tw8314437961811280173:=0
def tw7549943695918684598:=0
def tw3229064841028572754:=0
def tw14430495761264568230:=0
def tw8686443166189089214:=0
def tw14585124381976561932:=0
def tw7848974442364271800:=0
def tw10337395329860155706:=0
def tw17745603137053028506:=0
def tw5701714476366894330:=0
def tw14160687514273179564:=0
def tw14176232803462185025:=0
def tw16061505264151868629:=0
def tw1425947030187321502:=0
def tw15226383502663544206:=0
def tw7667608660086438931:=0
def tw1613651124316894004:=0
def tw710990723329094182:=0
def tw14509886991724704719:=0
def tw10937918279003109958:=0
def tw13323380546557611536:=0
def tw2010866845402592438:=0
def tw4339328031594691679:=0
def tw7485694957152665676:=0
def tw9039216731045450113:=0
def tw12614759181961041033:=0
def tw15611201680095480159:=0
def tw378953331495627829:=0
def tw1292794396964358632:=0
def tw11613354984289376437:=0
def tw1198124672195201275:=0
def tw8923321615025740053:=0
def tw8743426492915351331:=0
def tw4910410609249961866:=0
def tw9039916910413083952:=0
def tw527094351066460939:=0
def tw9664296214388677692:=0
def tw11048228923990047174:=0
def tw15417564320220485531:=0
def tw2615157622327387234:=0
def tw12622778522540311795:=0
def tw16084846561897463257:=0
def tw7167626504686474421:=0
def tw2606428321465661716:=0
def tw5018645550998224159:=0
def tw17666062431476172122:=0
def tw14247284265383274478:=0
def tw16942104385507025491:=0
def tw11383588386277747102:=0
def tw4973753441438809137:=0
def tw2525458761470802170:=0
def tw5251171548349516248:=0
def tw5711433525524740964:=0
def tw75874109004320077:=0
def tw14315783103185685354:=0
def tw16672315893270624671:=0
def tw16566017043645947100:=0
def tw15209825751962179551:=0
def tw8239567705005321541:=0
def tw3156849564562506481:=0
def tw5818756597719583007:=0
def tw11953403972713866742:=0
def tw1339643408933518414:=0
def tw9488979050797525247:=0
def tw4833417833274988663:=0
def tw18161647713586871712:=0
def tw7086925110774037464:=0
def tw1714260460975566727:=0
def tw15122862818291344692:=0
def tw4863639618657110359:=0
def tw16115134139166734339:=0
def tw12344267416975300916:=0
def tw16492113572656358349:=0
def tw4075835478142754206:=0
def tw1723157360438967445:=0
def tw13874407517219596400:=0
def tw5280860129158048780:=0
def tw5438881163805154906:=0
def tw3847896832015028846:=0
def tw13429863975538439716:=0
def tw4145930483230865914:=0
def tw13994318566408911744:=0
def tw11133108682394975672:=0
def tw14185262642372706527:=0
def tw9775422957728925991:=0
def tw8007010600188205422:=0
def tw921418640928602820:=0
def tw4025702254861186866:=0
def tw17096900396429454270:=0
def tw2337355394713087119:=0
def tw2617864898263572628:=0
def tw17642163539250963171:=0
def tw3637054957378817668:=0
def tw16872562911628141348:=0
def tw6113596567381986671:=0
def tw13016941996064444572:=0
def tw1056186569357033246:=0
def tw13795376945080522712:=0
def tw15410741887127964599:=0
def tw710638315569970527:=0
def tw1779853299573979870:=0
def tw13288419561857758573:=0
def tw14596137896787875903:=0
def tw10725004003598325713:=0
def tw14632961483023384220:=0
def tw8221814511594018203:=0
def tw15433813499191710132:=0
def tw249060088395912563:=0
def tw3309524830136918028:=0
def tw2668995374131498478:=0
def tw15598873948539964314:=0
def tw3971855947846414809:=0
def tw6331429035046281298:=0
def tw6202451782831833154:=0
def tw3584256203418949427:=0
def tw16066858357413490937:=0
def tw3702581992769319793:=0
def tw12299580745351077507:=0
def tw2041330291698732525:=0
def tw8541636428700231141:=0
def tw7182177105095353590:=0
def tw8781452503622430463:=0
def tw5148356212739557828:=0
def tw10052145382749922173:=0
def tw4312614010944321039:=0
def tw766129766690561918:=0
def tw12164954854625888954:=0
def tw1996387180849527854:=0
def tw10676500878633529360:=0
def tw1915863002294289965:=0
def tw15342356663313974583:=0
def tw6243319781841614959:=0
def tw10918097862563639903:=0
def tw12947120504353777796:=0
def tw15637188746598381279:=0
def tw12544816653884270535:=0
def tw13706919428113586545:=0
def tw11566848020969057279:=0
def tw3856819571692857189:=0
def tw17269400927996277035:=0
def tw12333634719095069107:=0
def tw3873172768319681409:=0
def tw6480286872265331179:=0
def tw17416483801812135979:=0
def tw3733609120796822187:=0
def tw4321339076467846613:=0
def tw2387722093532318176:=0
def tw17139037020808797744:=0
def tw10907969980165203448:=0
def tw15597517267609661364:=0
def tw13705464733213258450:=0
def tw933436550035038795:=0
def tw7442345440527440442:=0
def tw448062607242378829:=0
def tw13895255781219187897:=0
def tw17450191746401253542:=0
def tw11168853065898168323:=0
def tw12029607783743958970:=0
def tw5550021292480528118:=0
def tw16456044237814573180:=0
def tw10412535139189743856:=0
def tw16772213270459250191:=0
def tw338065641090839693:=0
def tw14946768777526517092:=0
def tw7720989745367047897:=0
def tw4227672747025695659:=0
def tw6723346432466606636:=0
def tw17794433079558744831:=0
def tw12285299137536972791:=0
def tw6793779125651474081:=0
def tw504075381967772281:=0
def tw10630356139369636179:=0
def tw5257666743399893505:=0
def tw12383469172301240080:=0
def tw9711872936788085757:=0
def tw6253088936267762805:=0
def tw17591017073115027323:=0
def tw15561149437469119143:=0
def tw15298348839081634037:=0
def tw8221952471371934575:=0
def tw12813313790242855371:=0
def tw14127301387268530824:=0
def tw6481917975120513651:=0
def tw4449438451466709156:=0
def tw2001253613240307460:=0
def tw13853379822306792219:=0
def tw14678902128474858098:=0
def tw7156950620222550718:=0
def tw1427202875725446240:=0
def tw1874500564623762179:=0
def tw2294168368239553414:=0
def tw3501308112857247084:=0
def tw8567633452847486358:=0
def tw8213033186544137976:=0
def tw14421001037244990634:=0
def tw787357466739095719:=0
def tw924672877347195827:=0
def tw7517307995738610662:=0
def tw3289232805098375087:=0
def tw12361603759081114569:=0
def tw9205327129534186490:=0
def tw8564021362020202841:=0
def tw6002859044687431433:=0
def tw4513559643379191252:=0
def tw3810223118225760668:=0
def tw11527039397045580050:=0
def tw7449098414839403892:=0
def tw13427400923027807313:=0
def tw5775450946598968597:=0
def tw12491494391567095978:=0
def tw6664287645558255356:=0
def tw14023225613202736859:=0
def tw10674662051827315507:=0
def tw15286551088056391040:=0
def tw12697157905788228717:=0
def tw7044349839640878633:=0
def tw3980542153086444385:=0
def tw6469252057618741602:=0
def tw18071698839790288788:=0
def tw4339701862423477603:=0
def tw11877554573219082572:=0
def tw18444222381289905327:=0
def tw6990515347845643910:=0
def tw12385654818544304360:=0
def tw12015520066754500337:=0
def tw3716346632099923132:=0
def tw3651825555195148727:=0
def tw15234520143875769555:=0
def tw7264894334296382169:=0
def tw13748608687034270049:=0
def tw7075047615319357945:=0
def tw12748337575382836872:=0
def tw3644559226727759707:=0
def tw2479013198207786054:=0
def tw13678764371860746375:=0
def tw5450775929985577790:=0
def tw15130869696792238872:=0
def tw5128633962510320961:=0
def tw3932592364235775973:=0
def tw3820356871384734462:=0
def tw11497292633584153904:=0
def tw15393517379874892823:=0
def tw2659623798814505348:=0
def tw13358084153366897831:=0
def tw3587456655058501865:=0
def tw11671261672532167743:=0
def tw12861229748701676648:=0
def tw12099785213971747621:=0
def tw17139209152526198022:=0
def tw10318269828080828290:=0
def tw10170513789261536069:=0
def tw5384085093178342622:=0
def tw14304796310910171198:=0
def tw1003588426922809011:=0
def tw360360019788217834:=0
def tw17886498662184742016:=0
def tw811851532879422510:=0
def tw413356692181005195:=0
def tw11569636094248857309:=0
def tw5721250997563774345:=0
def tw15401681114773716473:=0
def tw14277764903813411941:=0
def tw11796045509016344447:=0
def tw5019308042861825419:=0
def tw11316054632449618958:=0
def tw3335114072485684268:=0
def tw3321739281653305495:=0
def tw1973278451552496696:=0
def tw11262449133442709028:=0
def tw18029586180332765951:=0
def tw16802718206638495431:=0
def tw12028294605948922603:=0
def tw1956880856277495004:=0
def tw57335515574647878:=0
def tw3438270707767055377:=0
def tw13392686488415420107:=0
def tw1671988281104975666:=0
def tw11678917824355329254:=0
def tw9035243849374046824:=0
def tw13896210952984159915:=0
def tw8306955550596054875:=0
def tw3385922254240689112:=0
def tw2258966386615494280:=0
def tw18344645680876849616:=0
def tw18290990130622712091:=0
def tw12318825441922969668:=0
def tw10753168160905561453:=0
def tw10235296431537354591:=0
def tw12414983424621341541:=0
def tw12350541599363031189:=0
def tw12318469910005955172:=0
def tw7153151441544102653:=0
def tw3513734316738801224:=0
def tw1807303844443880400:=0
def tw10080080164577781890:=0
def tw14207789532931290420:=0
def tw5709023286616467061:=0
def tw18274093393565785773:=0
def tw13355162860676934689:=0
def tw12676998414202452283:=0
def tw9753798439686920087:=0
def tw7193010959981031764:=0
def tw12817966796836503775:=0
def tw7820567254310243180:=0
def tw1034623007455021008:=0
def tw8842720096827554176:=0
def tw426490658790224172:=0
def tw3578187166333830726:=0
def tw10108678047895363097:=0
def tw13330968769646620856:=0
def tw3775223994059161137:=0
def tw13608714484533677956:=0
def tw9505410278180216905:=0
def tw7363453269734005223:=0
def tw2716644100249117513:=0
def tw16836252757600774643:=0
def tw10267929710738956118:=0
def tw7646978123693615496:=0
def tw5141938922713202280:=0
def tw14286805235715053261:=0
def tw2770908892532666641:=0
def tw18261644598664650960:=0
def tw4484824954065503724:=0
def tw3459600303462000681:=0
def tw14079659877300642953:=0
def tw8502255900954021991:=0
def tw6165734898999697252:=0
def tw8653067033014272061:=0
def tw16845849577399375821:=0
def tw14566086165136918414:=0
def tw6651218102103447925:=0
def tw5186485103258879963:=0
def tw468541472377705695:=0
def tw4307528507838042664:=0
def tw13016690348015146529:=0
def tw9711466262168693023:=0
def tw9686509782266502306:=0
def tw2485821028014246725:=0
def tw13770704443828037901:=0
def tw7937878558989574108:=0
def tw6591342124638728446:=0
def tw9904902556344789498:=0
def tw5576838778304047709:=0
def tw4032871810968843625:=0
def tw2119766318095664241:=0
def tw18053439767505085616:=0
def tw5713381646264034573:=0
def tw1630160327936937497:=0
def tw16087253831409160563:=0
def tw10101300057436382280:=0
def tw2058954613764761130:=0
def tw7091032990812874988:=0
def tw6028500618056825980:=0
def tw17493092614711243049:=0
def tw5588138570296717431:=0
def tw6729183833357622357:=0
def tw12291655331523658756:=0
def tw3782250295732677211:=0
def tw9357954765005055820:=0
def tw3027159068013053713:=0
def tw11113913710846643532:=0
def tw6343835723894815154:=0
def tw11739388691470042517:=0
def tw169022343754981738:=0
def tw12388720588070922039:=0
def tw10047729745789079507:=0
def tw9078253205071804785:=0
def tw16484514892040236928:=0
def tw9080924865972152431:=0
def tw3362798967520413046:=0
def tw13421949434907566910:=0
def tw16807624805503679503:=0
def tw18048550185895850498:=0
def tw14196469458559086826:=0
def tw2058645258254809387:=0
def tw17020937733271679725:=0
def tw1665626723508801422:=0
def tw14557244361832813890:=0
def tw8475167200225607298:=0
def tw4334969289683935937:=0
def tw16267929204578836794:=0
def tw1644922990356194405:=0
def tw4421201689363430361:=0
def tw15296041928257327835:=0
def tw812339755666592043:=0
def tw6997627436829532070:=0
def tw6034941630073283381:=0
def tw5113132282208460185:=0
def tw267283344813478231:=0
def tw13069881519048800390:=0
def tw1064448783425017515:=0
def tw15452251876348480210:=0
def tw7692747158763480480:=0
def tw17282596843488516330:=0
def tw16084165602428926477:=0
def tw15230451027155615281:=0
def tw4204624225295534304:=0
def tw15742036549615707975:=0
def tw533567122309666825:=0
def tw1995560787635686769:=0
def tw1489951761876495257:=0
def tw14622722700770717540:=0
def tw1346320706529813081:=0
def tw4515129791136792586:=0
def tw4376263409690756254:=0
def tw15946353219037746139:=0
def tw11134107275204307740:=0
def tw10944424507171505910:=0
def tw9802569328965223810:=0
def tw729804601135744418:=0
def tw1181939496712535822:=0
def tw3473275070288384954:=0
def tw17498361444864263882:=0
def tw15267451326456046272:=0
def tw357161039919646401:=0
def tw6932448761091571490:=0
def tw11194092983023272212:=0
end PySem.W.Fast
set_option Elab.async false
set_option linter.all false
set_option maxRecDepth 100000
open PySem.W renaming Frag→MV,findIn→Nv,nsIn→Nw,mg_none_of→Os,mg_of→N4,keepIn→Po,emptyDict→Rv,hasDictIn→Sz,instObj→SA,plainGet→S0,kitOne→S3,makesIn→Va,fnOf→SD,plainOver→Vt,specialIn→Vu,looks_findIn→ZF,isFn→S4,callWith_K→ZG,methodCall_KW→aF,plainGet_of→aG,lookIn→ZH,InstAt→ZI,codeIn→ZJ,methodObj→aH,mroIn→ZK,cellsFrom_some→jB,takerIn→aI,OpenLaw→aJ,hideAll_none→jC,typeIn→aK,hideAll_get→jD,findObj_own→jE,of_hideAll→jF,Looks→aL,clsIn→aM,kitx_list→jG
open List renaming getElem?_eq_getElem→Na,getD_eq_getElem?_getD→Nl,length_map→M5,length_append→No,mem_cons→Nf,getElem?_eq_some_iff→NJ,map_append→Np,mem_cons_of_mem→NH,getElem?_map→Nz,size_toArray→NC,replicate→Nr,map_cons→Nq,length_cons→ND,mem_cons_self→N1,mem_singleton→N3,mem_append→NP,length_take→NX,length_singleton→OH,getElem_mem→N5,map_map→NK,range'→NM,take_length→OB,length_nil→Ot,mem_append_right→Qt,map_nil→N8,drop_eq_getElem_cons→Rw,take_succ→OC,find?_cons→OX,range→NW,append_nil→O_,mem_map→On,mem_of_getElem?→Q9,lookup_cons→Py,filter_append→Qu,length_drop→Qh,all_eq_true→Qi,not_mem_nil→Qj,length_pos_iff→Rx,length_filter_le→SE,filter_cons→Qv,any_cons→Pp,getElem?_append_right→Vb,append_assoc→Ry,range_succ→Q_,length_range→SF,getElem?_append_left→Vv,mem_filterMap→S5,cons_append→SG,eq_nil_of_length_eq_zero→ZL,mem_of_mem_drop→Vc,flatten_cons→S6,replicate_succ→Vd,range'_succ→S7,lookup→Qw,getLast?_eq_getElem?→ZM,mem_append_left→Vw,mem_filter→S8,nil_append→S9,map_congr_left→Vx,mem_range→S_,getElem?_set_self→ZN,take_of_length_le→ZO,filter_eq_nil_iff→ZP,contains_cons→Vy,flatMap_cons→Vz,getElem?_set_ne→ZQ,mem_iff_getElem→ZR,mem_of_mem_take→ZS,getLast?_eq_some_iff→aN,drop_length→VA,filterMap_cons→ZT,contains_eq_any_beq→aP,foldl_cons→VB,forIn_cons→VC,foldl_append→ZU,length_replicate→aQ,range_eq_range'→aR,replicate_succ'→aS,nodup_cons→ZV,flatMap_append→aU,getElem?_take→aV,find?_eq_none→aW,mem_of_find?_eq_some→jH,any_eq_false→aX,getElem?_take_of_lt→jI,mem_range'_1→aY,getElem?_inj→aZ,getElem?_replicate→jJ,sum_cons→ZW,any_eq_true→a6,of_mem_zip→a7,mem_range'→a8,take_append_drop→jK,mem_iff_getElem?→jL,any_nil→ZX,getElem?_eq_none→jM,foldl→VD,drop_zero→a9,length→ZY,all_cons→a_
open PySem.Heap renaming get?_push_of_some→Ng,get?_push_size→NE,lt_size→Nm,get?_update_other→Qx,size_push→OY,get?_update_self→SH,SameBut→Rz,IsTuple→ba
open Bool renaming false_ne_true→Nj,and_eq_true→NS,false_and→Ra,true_and→Rb,eq_iff_iff→SI,false_eq_true→VE,true_or→S',or_false→Ve,or_eq_true→VF,false_or→VG,and_false→ZZ,false_xor→Z0,or_true→Z1
open Nat renaming le_refl→M6,lt_of_lt_of_le→N6,ne_of_lt→NB,zero_le→NA,le_trans→NI,lt_of_le_of_lt→Qy,le_of_lt→Pq,lt_irrefl→Qk,le_succ→Pr,lt_succ_self→SJ,add_sub_cancel_left→VH,succ_ne_self→VI,ne_of_gt→Ta,lt_succ_of_lt→bc,add_comm→Z2,sub_self→Z3,le_of_eq→bf,succ_mul→bg,lt_trans→bh,sub_zero→bi
open PySem.Str renaming ofString→M',empty→VJ,join→Vf
open Ne renaming symm→M7
open PySem.F renaming plainAttrs_str→OD,plainAttrs_list→OI,slot_list_append→OZ,type_list_append→O0,called_enumerate→Ql,slot_str_join→Rc,type_str_join→Re,plain_max_loop→Tb,slot_tuple_iterator_next→Z4,entry_enumerate_new→Z5,slot_str_startswith→bj,type_str_startswith→bm,entry_object_init→Z6,slot_dict_items→bn,entry_max_loop→bo,args_tuple_iterator_next_1→jN,entry_tuple_iterator_next→jO,slot_zip_next→Z7,args_str_split_2→bq,slot_dict_getitem→jP,args_tuple_add_2→jQ,entry_str_split→br,entry_tuple_add→jR,attr_ValueError→jS,plainAttrs_dict→jT,type_dict_items→jU,slot_str_split→bu,slot_tuple_add→jV,slot_str_split→jW,type_str_split→jX,slot_str_find→jY,type_str_find→jZ
open PySem.PassesOwn renaming never→Oo,leaving→bv
open Option renaming bind_some→OJ,map_some→Z8,isSome_map→bw,getD_some→bx,map_eq_some_iff→j4,isSome_some→j6
open PySem.Builtin.SmallTypes renaming nextOf→SK,fitsIndex→Vg,ownedTupleIsFree→Z9,ownedTupleHandOut→j7
open PySem.PyData renaming keyHash→Ps,canLay0→Z_,depth→bz
open PyProof.Rows renaming callWith_type1→Vh,slot_tuple_getitem→bA,callWith_builtin1→j8
open PySem.SeqAt renaming EqAt→O1
open Int renaming toNat_natCast→RA,emod_nonneg→VL,emod_lt_of_pos→Z',le_refl→VM
open False renaming elim→O4
open PySem.Calls renaming spliced_cons→Td,spliced_nil→Vi,Name_function_global→j9,callWith_builtin→j_
open PySem.Value renaming isStrOf→Rf
open PySem.Txt renaming split→O5,contains→Te,join→Rg,startswith3→bB,startswith→bC,slice→VN,endswith→bE
open PySem.Builtin.Slice renaming slicePlaces→aa,sliceAdjust→bG,sliceApplied→kf
open PySem.Builtin.Tuple renaming tupleExact→ac
open PySem.Builtin.List renaming listTooLong→ae
open PySem renaming mem_of_lookup→VO,intText?→af,Within→ag
open Array renaming getElem?_eq_some_iff→bH,getElem?_setIfInBounds_ne→kg,length_toList→bI,toList→VQ,size_setIfInBounds→ki
open PySem.Builtin.Str renaming occurrences→bJ
open PySem.Obj renaming data_mapFields→ai,mapFields→aj,isFreed_of_fields→kj,mapSeq→VR
open PySem.StrLaws renaming occBody→VS,found_one→kl
open PySem.Around renaming under_plainId→bK,under→bL
open PySem.Builtin.Builtins renaming bindParams→km
open PySem.Code renaming quiet_builtin→bM,isFrame→bN
open PySem.Paired renaming length→ak
open PySem.Shared renaming heap→VT
open PySem.Heap.SameBut renaming update→ko
open PySem.EntryCells renaming newEntry→kq
open PySem.SeqAt.EqAt renaming int_str→kr,str_int→kt
open PySem.Heap.Ns1 renaming of_empty→ku
open Option.some renaming injEq→kx
namespace L2
open PySem PySem.Spec PyProof.Rows
noncomputable abbrev Key:=Sum Int Str
noncomputable def Pa:Key->Ac->Bool
 | .inl k,v=>Value.isInt k v
 | .inr x,v=>Rf x v
noncomputable def keyH (w:Ak):Key->Int
 | .inl k=>hashInt k
 | .inr x=>hashStr w x
theorem Rh:∀{k:Key}{v:Ac},Pa k v=true->(∃ i t,k=Sum.inl i/\v=Value.int i t)∨(∃ x t,k=Sum.inr x/\v=Value.str x t)
 | .inl i,v,h=>by
  obtain⟨t,e⟩:=Value.isInt_shape (k:=i) (v:=v) h
  exact .inl ⟨i,t,rfl,e⟩
 | .inr x,v,h=>by
  obtain⟨t,e⟩:=Value.isStrOf_shape (x:=x) (v:=v) h
  exact .inr ⟨x,t,rfl,e⟩
theorem bO (i:Int)(t:Tok):Pa (.inl i) (.int i t)=true:=by simp[Pa,Value.isInt]
theorem bP (x:Str)(t:Tok):Pa (.inr x) (.str x t)=true:=by simp[Pa,Rf]
theorem key_ll (a b:Int):decide ((Sum.inl a:Key)=Sum.inl b)=(a == b):=by
 by_cases e:a=b
 ·subst e;simp
 ·have h:¬ (Sum.inl a:Key)=Sum.inl b:=fun q=>e (Sum.inl.inj q)
  rw[B0 h]
  exact(beq_eq_false_iff_ne.mpr e).symm
theorem key_rr (a b:Str):decide ((Sum.inr a:Key)=Sum.inr b)=decide (a=b):=by
 by_cases e:a=b
 ·subst e;simp
 ·have h:¬ (Sum.inr a:Key)=Sum.inr b:=fun q=>e (Sum.inr.inj q)
  rw[B0 h,B0 e]
theorem key_lr (a:Int)(b:Str):decide ((Sum.inl a:Key)=Sum.inr b)=false:=B0 (fun q=>nomatch q)
theorem key_rl (a:Str)(b:Int):decide ((Sum.inr a:Key)=Sum.inl b)=false:=B0 (fun q=>nomatch q)
noncomputable def NU (prog:Aj)(w:Ak):PySem.KeyKind prog w Key where
 is:=Pa
 hash:=keyH w
 inj:=fun v a b ha hb=>by
  rcases Rh ha with ⟨i,t,rfl,rfl⟩ | ⟨x,t,rfl,rfl⟩
  ·rcases Rh hb with ⟨j,u,rfl,e⟩ | ⟨y,u,rfl,e⟩
   ·injection e with e1 _;rw[e1]
   ·exact nomatch e
  ·rcases Rh hb with ⟨j,u,rfl,e⟩ | ⟨y,u,rfl,e⟩
   ·exact nomatch e
   ·injection e with e1 _;rw[e1]
 byValue:=fun k v h=>by
  rcases Rh h with ⟨i,t,rfl,rfl⟩ | ⟨x,t,rfl,rfl⟩ <;> rfl
 pyHash:=fun hv h=>by
  rcases Rh hv with ⟨i,t,rfl,rfl⟩ | ⟨x,t,rfl,rfl⟩
  ·exact wpAny_pyHash_int h
  ·exact wpAny_pyHash_str h
 eqBool:=fun hu hv h=>by
  rcases Rh hu with ⟨i,t,rfl,rfl⟩ | ⟨x,t,rfl,rfl⟩
  ·rcases Rh hv with ⟨j,u,rfl,rfl⟩ | ⟨y,u,rfl,rfl⟩
   ·rw[key_ll] at h;exact wpAny_eqBool_int h
   ·rw[key_lr] at h;exact kr i t y u _ _ _ _ h
  ·rcases Rh hv with ⟨j,u,rfl,rfl⟩ | ⟨y,u,rfl,rfl⟩
   ·rw[key_rl] at h;exact kt x t j u _ _ _ _ h
   ·rw[key_rr] at h;exact wpAny_eqBool_str h
 «strs»:=fun k x t v h=>by
  rcases Rh h with ⟨i,u,rfl,e⟩ | ⟨y,u,rfl,e⟩
  ·exact nomatch e
  ·injection e with e1 _
   subst e1
   cases v <;> rfl
theorem bQ (prog:Aj)(w:Ak)(i:Int)(t:Tok):(NU prog w).is (.inl i) (.int i t)=true:=bO i t
theorem bR (prog:Aj)(w:Ak)(x:Str)(t:Tok):(NU prog w).is (.inr x) (.str x t)=true:=bP x t
inductive V where
 | non | bl (b:Bool) | int (i:Int) | str (x:Str) | byt (b:Array UInt8) | flt (b:UInt64) | ref (a:Ab) | ty (n:String)
 deriving DecidableEq
def RelV:V->Ac->Prop
 | .non,u=>u=Value.none
 | .bl b,u=>u=Value.bool b
 | .int i,u=>∃ t,u=Value.int i t
 | .str x,u=>∃ t,u=Value.str x t
 | .byt b,u=>∃ t,u=Value.bytes b t
 | .flt b,u=>∃ t,u=Value.float b t
 | .ref a,u=>u=Value.ref a
 | .ty n,u=>u=Value.type n
abbrev Vals:List V->List Ac->Prop:=Paired RelV
theorem Vals.length (r:Vals xs us):xs.length=us.length:=ak r
theorem Vals.get:∀{xs:List V}{us:List Ac}{i:Nat}{x:V},Vals xs us->xs[i]?=some x->∃ u,us[i]?=some u/\RelV x u
 | _,_,_,_,.nil,e=>by simp at e
 | _,_,0,_,.cons r _,e=>by simp at e;subst e;exact⟨_,rfl,r⟩
 | _,_,i+1,x,.cons _ t,e=>by
  obtain⟨u,h1,h2⟩:=Vals.get (i:=i) (x:=x) t (by simpa using e)
  exact⟨u,by simpa using h1,h2⟩
theorem Vals.set {x:V}{u:Ac}(r:RelV x u):∀{xs:List V}{us:List Ac} (i:Nat),Vals xs us->Vals (xs.set i x) (us.set i u)
 | _,_,_,.nil=>.nil
 | _,_,0,.cons _ t=>.cons r t
 | _,_,i+1,.cons q t=>.cons q (Vals.set r i t)
theorem Vals.append:∀{xs ys:List V}{us ws:List Ac},Vals xs us->Vals ys ws->Vals (xs++ys) (us++ws)
 | _,_,_,_,.nil,s=>s
 | _,_,_,_,.cons r t,s=>.cons r (Vals.append t s)
theorem Vals.take:∀{xs:List V}{us:List Ac} (n:Nat),Vals xs us->Vals (xs.take n) (us.take n)
 | _,_,0,_=>.nil
 | _,_,_+1,.nil=>.nil
 | _,_,n+1,.cons r t=>.cons r (Vals.take n t)
theorem Vals.drop:∀{xs:List V}{us:List Ac} (n:Nat),Vals xs us->Vals (xs.drop n) (us.drop n)
 | _,_,0,r=>r
 | _,_,_+1,.nil=>.nil
 | _,_,n+1,.cons _ t=>Vals.drop n t
def RelO:Option V->Option Ac->Prop
 | some v,some u=>RelV v u
 | none,none=>True
 | _,_=>False
def KV {κ:Type}:List (κ×V)->List (κ×Ac)->Prop:=Paired fun(p:κ×V) (q:κ×Ac)=>p.1=q.1/\RelV p.2 q.2
noncomputable def kV:Key->V
 | .inl i=>.int i
 | .inr x=>.str x
inductive HO where
 | lst (xs:List V)
 | tup (xs:List V)
 | dK (kvs:List (Key×V)) | dT (kvs:List (List Key×V))
 | set (S:Int->Bool) (n:Nat)
 | ins (C dx:Ab) (fs:List (Str×V))
 | own (x:Ab)
 | xd (fs:List (Str×V))
 | met (f x:Ab)
 | rng (lo hi:Int)
 | frz (o:Obj) (u:HO)
 | tbl (ps:Array Ac)
 | ext (φ:An->Prop)
noncomputable abbrev Hp:=Ab->Option HO
noncomputable def upd (H:Hp)(a:Ab)(o:HO):Hp:=fun b=>if b=a then some o else H b
theorem MT :upd H a o a=some o:=by unfold upd;rw[B3 rfl]
theorem MR (h:b≠a):upd H a o b=H b:=by unfold upd;rw[B2 h]
theorem RB :upd (upd H a o) a u=upd H a u:=by
 funext b;unfold upd;split <;> rfl
theorem OK {H:Hp}{a b:Ab}{o u:HO}(h:H a=some o)(h':H b=some u)(d:o≠u):a≠b:=by
 intro e;subst e;rw[h] at h';exact d (Option.some.inj h')
theorem MZ {H:Hp}{a b:Ab}{o:HO}(h:H a=some o)(h':H b=none):a≠b:=by
 intro e;subst e;rw[h] at h';cases h'
def DcN (h:An)(a:Ab):Prop:=∀ o,h.get? a=some o->o.dict=none
theorem DcN.new (h:An) (items:Array Ac):DcN (h.push { cls:=.type "tuple",data:=.seq items n }) h.objs.size:=fun o e=>by
 rw[NE _ rfl] at e;cases e;rfl
section
variable (P:Aj) (w:Ak)
def ObjOk (H:Hp)(h:An)(a:Ab):HO->Prop
 | .lst xs=>xs.length<=Ae/\∃(its:List Ac) (n:Nat),Vals xs its/\h.get? a=some { cls:=.type "list",data:=.seq its.toArray n }
 | .tup xs=>xs.length<=Ae/\∃ its:List Ac,Vals xs its/\IsTup h a its.toArray/\DcN h a
 | .dK kvs=>kvs.length<=Ae/\(a == AG)=false/\∃ vs,KV kvs vs/\h.DictOf (NU P w) a vs
 | .dT kvs=>kvs.length<=Ae/\(a == AG)=false/\∃ xs:List (List Key×Ab×Ac),
   Paired (fun(p:List Key×V) (q:List Key×Ab×Ac)=>p.1=q.1/\H q.2.1=some (.tup (p.1.map kV))/\RelV p.2 q.2.2) kvs xs /\
   ∃ o es ep,h.get? a=some o/\o.ExactDict/\o.data=.dict es ep/\es.toList=xs.map (entryOfKey (BN (NU P w)))/\(xs.map (·.1)).Nodup
 | .set S n=>h.SetOf (intKind P w) a S n
 | .ins C dx fs=>H dx=some (.own a)/\fs.length<=1000/\dx≠a/\h.get? a=some (SA C dx) /\
   ∃ mA,h.Ns1 dx mA/\(∀ f,RelO (fs.lookup f) (mA f))/\ag mA (fs.map (·.1))
 | .own _=>∃ o,h.get? a=some o
 | .xd fs=>∃ mA,h.Ns1 a mA/\∀ f,RelO (fs.lookup f) (mA f)
 | .rng lo hi=>∃ t u v,h.get? a=some { cls:=.type "range",data:=.fields #[.int lo t,.int hi u,.int 1 v] }
 | .frz o u=>h.get? a=some o/\ObjOk H h a u
 | .tbl ps=>h.get? a=some { cls:=.none,data:=.fields ps }
 | .met f x=>h.get? a=some (aH (.ref f) (.ref x))
 | .ext φ=>φ h/\(∃ o,h.get? a=some o)/\∀ h1 h2:An,φ h1->(∀ o,h1.get? a=some o->h2.get? a=some o)->φ h2
def HOk (H:Hp)(h:An):Prop:=∀ a o,H a=some o->ObjOk P w H h a o
end
section
variable {P:Aj}{w:Ak}{H H':Hp}{h h':An}{a:Ab}{o:HO}
theorem ObjOk.lt (x:ObjOk P w H h a o):a < h.objs.size:=by
 cases o with
 | lst xs=>obtain⟨_,_,_,_,e⟩:=x;exact Nm e
 | tup xs=>obtain⟨_,_,_,p⟩:=x;exact p.1.lt
 | dK kvs=>obtain⟨_,_,_,_,o,_,_,e,_⟩:=x;exact Nm e
 | dT kvs=>obtain⟨_,_,_,_,o,_,_,e,_⟩:=x;exact Nm e
 | set S n=>obtain⟨o,_,_,_,e,_⟩:=x;exact Nm e
 | ins C dx fs=>obtain⟨_,_,_,e,_⟩:=x;exact Nm e
 | own y=>obtain⟨_,e⟩:=x;exact Nm e
 | xd fs=>obtain⟨_,⟨_,_,_,e,_⟩,_⟩:=x;exact Nm e
 | rng lo hi=>obtain⟨_,_,_,e⟩:=x;exact Nm e
 | frz ob u=>obtain⟨e,_⟩:=x;exact Nm e
 | tbl ps=>exact Nm (show h.get? a=some _ from x)
 | met f y=>exact Nm (show h.get? a=some _ from x)
 | ext φ=>obtain⟨_,⟨_,e⟩,_⟩:=x;exact Nm e
theorem Paired.mapP {α β:Type}{F G:α->β->Prop}:∀{l₁:List α}{l₂:List β},Paired F l₁ l₂->(∀ a b,F a b->G a b)->Paired G l₁ l₂
 | _,_,.nil,_=>.nil
 | _,_,.cons r t,f=>.cons (f _ _ r) (Paired.mapP t f)
theorem ObjOk.stay (x:ObjOk P w H h a o)(k:∀ b u,(b=a∨H b=some (.own a))->h.get? b=some u->h'.get? b=some u)
  (ho:∀ b,H b=some (.own a)->H' b=some (.own a)) (ht:∀ b xs,H b=some (.tup xs)->H' b=some (.tup xs)):ObjOk P w H' h' a o:=by
 induction o with
 | lst xs=>obtain⟨z,its,n,r,e⟩:=x;exact⟨z,its,n,r,k _ _ (.inl rfl) e⟩
 | tup xs=>obtain⟨z,its,r,⟨ob,e,c⟩,dn⟩:=x;exact⟨z,its,r,⟨ob,k _ _ (.inl rfl) e,c⟩,fun o' e'=>by rw[k _ _ (.inl rfl) e] at e';cases e';exact dn ob e⟩
 | dK kvs=>obtain⟨z,y,vs,r,ob,es,ep,e,c⟩:=x;exact⟨z,y,vs,r,ob,es,ep,k _ _ (.inl rfl) e,c⟩
 | dT kvs =>
  obtain⟨z,y,xs,r,ob,es,ep,e,c⟩:=x
  exact⟨z,y,xs,Paired.mapP r fun p q z=>⟨z.1,ht _ _ z.2.1,z.2.2⟩,ob,es,ep,k _ _ (.inl rfl) e,c⟩
 | set S n=>obtain⟨ob,es,ep,t,e,c⟩:=x;exact⟨ob,es,ep,t,k _ _ (.inl rfl) e,c⟩
 | ins C dx fs =>
  obtain⟨d,z,ne,e,mA,⟨od,es,ep,e2,c⟩,r⟩:=x
  exact⟨ho _ d,z,ne,k _ _ (.inl rfl) e,mA,⟨od,es,ep,k _ _ (.inr d) e2,c⟩,r⟩
 | own y=>obtain⟨ob,e⟩:=x;exact⟨ob,k _ _ (.inl rfl) e⟩
 | xd fs=>obtain⟨mA,⟨od,es,ep,e,c⟩,r⟩:=x;exact⟨mA,⟨od,es,ep,k _ _ (.inl rfl) e,c⟩,r⟩
 | rng lo hi=>obtain⟨t,u,v,e⟩:=x;exact⟨t,u,v,k _ _ (.inl rfl) e⟩
 | frz ob u ih=>obtain⟨e,q⟩:=x;exact⟨k _ _ (.inl rfl) e,ih q⟩
 | tbl ps =>
  have e:h.get? a=some { cls:=.none,data:=.fields ps }:=x
  show h'.get? a=some { cls:=.none,data:=.fields ps }
  exact k a _ (.inl rfl) e
 | met f y =>
  have e:h.get? a=some (aH (.ref f) (.ref y)):=x
  show h'.get? a=some (aH (.ref f) (.ref y))
  exact k a _ (.inl rfl) e
 | ext φ=>obtain⟨p,⟨o,e⟩,st⟩:=x;exact⟨st _ _ p fun o q=>k _ _ (.inl rfl) q,⟨o,k _ _ (.inl rfl) e⟩,st⟩
theorem HOk.lt (x:HOk P w H h)(e:H a=some o):a < h.objs.size:=(x a o e).lt
theorem HOk.fresh (x:HOk P w H h)(e:h.objs.size<=a):H a=none:=by
 cases q:H a with
 | none=>rfl
 | some u=>exact absurd (N6 (x.lt q) e) (Qk _)
theorem HOk.kept (x:HOk P w H h)(k:∀ b u,h.get? b=some u->h'.get? b=some u):HOk P w H h':=fun a o e =>
 (x a o e).stay (fun b u _ q=>k b u q) (fun _ q=>q) fun _ _ q=>q
theorem HOk.laid (x:HOk P w H h)(k:∀ b u,h.get? b=some u->h'.get? b=some u)(hp:h.objs.size<=a)(new:ObjOk P w (upd H a o) h' a o):HOk P w (upd H a o) h':=fun b u e=>by
 have hn:=x.fresh hp
 by_cases hb:b=a
 ·subst hb;rw[MT] at e;cases e;exact new
 ·rw[MR hb] at e
  exact(x b u e).stay (fun c v _ q=>k c v q) (fun c q=>by rw[MR (MZ q hn)];exact q) fun c xs q=>by rw[MR (MZ q hn)];exact q
end
def Rd (H:Hp)(a:Ab)(u:HO):Prop:=H a=some u∨∃ o,H a=some (.frz o u)
theorem Rd.ok (r:Rd H a u) (x:HOk P w H h):ObjOk P w H h a u:=by
 rcases r with r | ⟨o,r⟩
 ·exact x a u r
 ·obtain⟨_,q⟩:=x a _ r
  exact q
def Mut:Option HO->Prop
 | some (.lst _)=>True
 | some (.dK _)=>True
 | some (.dT _)=>True
 | some (.set _ _)=>True
 | some (.ins _ _ _)=>True
 | some (.ext _)=>True
 | _=>False
section
variable {P:Aj}{w:Ak}{H:Hp}{h h':An}{x e:Ab}{o':HO}
theorem HOk.write (ok:HOk P w H h)(mu:Mut (H x))(he:e=x∨H e=some (.own x))(k:∀ b u,b≠e->h.get? b=some u->h'.get? b=some u)(GI:∃ u,h'.get? e=some u)
  (new:ObjOk P w (upd H x o') h' x o'):HOk P w (upd H x o') h':=fun b u q=>by
 have nown:∀ c y,H c=some (.own y)->c≠x:=fun c y r z=>by subst z;rw[r] at mu;exact mu
 have ntup:∀ c xs,H c=some (.tup xs)->c≠x:=fun c xs r z=>by subst z;rw[r] at mu;exact mu
 by_cases hb:b=x
 ·subst hb;rw[MT] at q;cases q;exact new
 ·rw[MR hb] at q
  by_cases Fy:b=e
  ·have q':H b=some (.own x):=by
    rcases he with z | z
    ·exact absurd (Fy.trans z) hb
    ·rw[Fy];exact z
   rw[q] at q';cases q'
   obtain⟨v,hv⟩:=GI
   exact⟨v,by rw[Fy];exact hv⟩
  ·refine(ok b u q).stay (fun c v hc r=>k c v ?_ r) (fun c r=>by rw[MR (nown c b r)];exact r) fun c xs r=>by rw[MR (ntup c xs r)];exact r
   rcases hc with rfl | hc
   ·exact Fy
   ·rintro rfl
    rcases he with z | z
    ·exact nown c b hc z
    ·rw[hc] at z;cases z;exact hb rfl
end
structure Un (fs ex:List Ab)(H H':Hp)(h h':An):Prop where
 keep:∀ b o,h.get? b=some o->H b=none->b∉fs->b∉ex->h'.get? b=some o
 slot:∀ b o,h.get? b=some o->H b=none->b∈fs->b∉ex->∃ sl,h'.get? b=some { o with slots:=sl }
 free:∀ b o,h.get? b=some o->H b=none->b∉ex->H' b=none
 there:∀ b o,h.get? b=some o->b∉ex->∃ o',h'.get? b=some o'
 tups:∀ b xs,H b=some (.tup xs)->H' b=some (.tup xs)
 frzs:∀ b o u,H b=some (.frz o u)->H' b=some (.frz o u)
 tbls:∀ b ps,H b=some (.tbl ps)->∃ more,H' b=some (.tbl (ps++more))
section
variable {fs fs' ex ex':List Ab}{H H1 H2:Hp}{h h1 h2 h':An}{a x e:Ab}{o:HO}
theorem Un.any (u:Un fs ex H H1 h h1) (q:h.get? b=some ob) (n:H b=none) (hx:b∉ex):∃ sl,h1.get? b=some { ob with slots:=sl }:=by
 by_cases hb:b∈fs
 ·exact u.slot b ob q n hb hx
 ·exact⟨ob.slots,u.keep b ob q n hb hx⟩
theorem Un.trans (a:Un fs ex H H1 h h1)(b:Un fs ex H1 H2 h1 h2):Un fs ex H H2 h h2 where
 keep:=fun c ob q n hc hx=>b.keep c ob (a.keep c ob q n hc hx) (a.free c ob q n hx) hc hx
 slot:=fun c ob q n hc hx=>by
  obtain⟨sl,e1⟩:=a.slot c ob q n hc hx
  obtain⟨sl',e2⟩:=b.slot c _ e1 (a.free c ob q n hx) hc hx
  exact⟨sl',e2⟩
 free:=fun c ob q n hx=>by
  obtain⟨o',e1⟩:=a.there c ob q hx
  exact b.free c o' e1 (a.free c ob q n hx) hx
 there:=fun c ob q hx=>by
  obtain⟨o',e1⟩:=a.there c ob q hx
  exact b.there c o' e1 hx
 tups:=fun c xs q=>b.tups c xs (a.tups c xs q)
 frzs:=fun c ob xs q=>b.frzs c ob xs (a.frzs c ob xs q)
 tbls:=fun c ps q=>by
  obtain⟨m1,e1⟩:=a.tbls c ps q
  obtain⟨m2,e2⟩:=b.tbls c _ e1
  exact⟨m1++m2,by rw[e2,Array.append_assoc]⟩
theorem Un.kept (k:∀ b u,h.get? b=some u->h'.get? b=some u):Un fs ex H H h h' :=
 ⟨fun b ob q _ _ _=>k b ob q,fun b ob q _ _ _=>⟨ob.slots,k b ob q⟩,fun _ _ _ n _=>n,fun b ob q _=>⟨ob,k b ob q⟩,fun _ _ q=>q,fun _ _ _ q=>q,fun _ ps q=>⟨#[],by rw[q];simp⟩⟩
theorem Un.refl:Un fs ex H H h h:=Un.kept fun _ _ q=>q
theorem Un.laid (k:∀ b u,h.get? b=some u->h'.get? b=some u)(hp:h.objs.size<=a)(hn:H a=none):Un fs ex H (upd H a o) h h' where
 keep:=fun b u q _ _ _=>k b u q
 slot:=fun b u q _ _ _=>⟨u.slots,k b u q⟩
 free:=fun b u q n _=>by rw[MR (NB (N6 (Nm q) hp))];exact n
 there:=fun b u q _=>⟨u,k b u q⟩
 tups:=fun b xs q=>by rw[MR (MZ q hn)];exact q
 frzs:=fun b u xs q=>by rw[MR (MZ q hn)];exact q
 tbls:=fun b ps q=>⟨#[],by rw[MR (MZ q hn),q];simp⟩
theorem Un.write (mu:Mut (H x))(he:e=x∨H e=some (.own x))(k:∀ b u,b≠e->h.get? b=some u->h'.get? b=some u)(GI:∃ u,h'.get? e=some u):Un fs ex H (upd H x o) h h':=by
 have hx:∀ b,H b=none->b≠x:=fun b n z=>by subst z;rw[n] at mu;exact mu
 have hb:∀ b,H b=none->b≠e:=fun b n z=>by
  subst z
  rcases he with r | r
  ·exact hx b n r
  ·rw[n] at r;cases r
 have hm:∀ b u,H b=some u->¬ Mut (some u)->b≠x:=fun b u q nm z=>by subst z;rw[q] at mu;exact nm mu
 refine⟨fun b u q n _ _=>k b u (hb b n) q,fun b u q n _ _=>⟨u.slots,k b u (hb b n) q⟩,fun b u q n _=>by rw[MR (hx b n)];exact n,fun b u q _=>?_,
  fun b xs q=>by rw[MR (hm b _ q fun z=>z)];exact q,fun b u xs q=>by rw[MR (hm b _ q fun z=>z)];exact q,fun b ps q=>⟨#[],by rw[MR (hm b _ q fun z=>z),q];simp⟩⟩
 by_cases Fy:b=e
 ·subst Fy;exact GI
 ·exact⟨u,k b u Fy q⟩
theorem Un.mono (u:Un fs ex H H1 h h1)(hs:∀ b∈fs,b∈fs')(hx:∀ b∈ex,b∈ex'):Un fs' ex' H H1 h h1 :=
 ⟨fun b ob q n hb he=>u.keep b ob q n (fun z=>hb (hs b z)) fun z=>he (hx b z),fun _ _ q n _ he=>u.any q n fun z=>he (hx _ z),fun b ob q n he=>u.free b ob q n fun z=>he (hx b z),fun b ob q he=>u.there b ob q fun z=>he (hx b z),u.tups,u.frzs,u.tbls⟩
end
noncomputable def trk (h:An)(H:Hp):List Ab:=(NW h.objs.size).filter fun a=>(H a).isSome
noncomputable def hidT (h:An)(H:Hp):An:=PySem.W.hideAll h (trk h H)
theorem bS (h:An)(H:Hp):(hidT h H).objs.size=h.objs.size:=PySem.W.hideAll_size _ _
theorem bU (e:h.get? b=some o) (n:H b=none):(hidT h H).get? b=some o :=
 jD _ e fun hm=>by
  have q:(H b).isSome=true:=(S8.mp hm).2
  rw[n] at q;simp at q
theorem bW (e:(hidT h H).get? b=some o):h.get? b=some o/\H b=none:=by
 have e':h.get? b=some o:=jF (trk h H) e
 refine⟨e',?_⟩
 cases q:H b with
 | none=>rfl
 | some x =>
  have hm:b∈trk h H:=S8.mpr ⟨S_.mpr (Nm e'),by simp[q]⟩
  have z:(hidT h H).get? b=none:=jC (trk h H) hm
  rw[z] at e;cases e
structure Mod (K:MV)(mg:Str->Option Ac)(base:An):Prop where
 kin:K.In base
 glob:base.Ns Ah mg
 blt:∃ mb,base.Ns builtinsNs mb/\∀ x:Str,x≠"__name__"->mb x=AK x
 nolimit:base.NoLimit
structure Cx where
 prog:Aj
 w:Ak
 K:MV
 mg:Str->Option Ac
 base:An
 A:Am
 N:List Str
 s₀:Ad
 H₀:Hp
 env:Env
 outer:List Env
 stack:List Env
 ex:List Ab
 fn:Str->Bool
 calm:Bool
 pn:List (Ab×Obj)
 xe:Ac->Ad->Prop
noncomputable def frs (l:List Env):List Ab:=l.filterMap (·.frame)
noncomputable abbrev Cx.fs (X:Cx):List Ab:=frs X.outer
def Vis (sc:Bt)(x:Str):Prop:=sc.names.lookup x=some .local∨sc.names.lookup x=some .cell∨sc.names.lookup x=some .free
def Loc (sc:Bt)(x:Str):Prop:=sc.names.lookup x=some .local∨sc.names.lookup x=some .cell
noncomputable def Look (env:Env)(h:An)(m:Str->Option Ac)(x:Str)(u:Ac):Prop :=
 (env.kindOf x=some .local/\m x=some u)∨((env.kindOf x=some .cell∨env.kindOf x=some .free)/\∃ c,env.cells.lookup x=some c/\h.IsCell c (some u))
structure Cx.Ok (X:Cx):Prop where
 mod:Mod X.K X.mg X.base
 kind:X.env.scope.kind=.function
 glob:X.env.globals=Ah
 blt:X.env.builtins=builtinsNs
 above:X.s₀.heap.objs.size<=X.env.locals
 inj:∀ x y c,X.env.cells.lookup x=some c->X.env.cells.lookup y=some c->x=y
 has:∀ x,(X.env.kindOf x=some .cell∨X.env.kindOf x=some .free)->∃ c,X.env.cells.lookup x=some c
 cab:∀ x c,X.fn x=true->X.env.cells.lookup x=some c->X.s₀.heap.objs.size<=c
 hd:X.calm=true->X.A.handled=none
 frames:X.A.frames=some X.stack
 stk:X.stack=X.outer∨(X.stack=X.env::X.outer/\X.env.frame=some X.env.locals)
 exf:∀ b∈X.ex,b≠X.env.locals/\∀ x c,X.env.cells.lookup x=some c->c≠b
 bs:∀ b o,X.base.get? b=some o->X.s₀.heap.get? b=some o/\X.H₀ b=none
 bsz:X.base.objs.size<=X.s₀.heap.objs.size
 noex:∀ b o,X.base.get? b=some o->b∉X.ex
 exfs:∀ b∈X.ex,b∉X.fs
 funs:X.s₀.heap.FunFrames X.base X.outer
 frf:∀ b∈X.fs,X.H₀ b=none
structure Inv (X:Cx)(B4:List (Ab×Obj))(σ:List (Option V))(H:Hp)(s:Ad):Prop where
 ok:X.Ok
 os:s.os=X.s₀.os
 bare:Bj s.gens
 base:Un X.fs X.ex X.H₀ H X.s₀.heap s.heap
 loc:∃ m,s.heap.Ns X.env.locals m/\∀(i:Nat) (x:Str) (v:V),X.N[i]?=some x->σ[i]?=some (some v)->Vis X.env.scope x->∃ u,RelV v u/\Look X.env s.heap m x u
 cell:∀ x c,X.env.cells.lookup x=some c->∃ v,s.heap.IsCell c v
 free:H X.env.locals=none
 freeC:∀ x c,X.env.cells.lookup x=some c->H c=none
 pin:∀ p∈X.pn++B4,s.heap.get? p.1=some p.2/\H p.1=none/\p.1≠X.env.locals/\p.1∉X.fs/\∀ v,p.2.data≠.cell v
 hok:HOk X.prog X.w H s.heap
 len:σ.length=X.N.length
section
variable {X:Cx}{B4:List (Ab×Obj)}{σ:List (Option V)}{H H':Hp}{s:Ad}{h':An}
theorem Cx.Ok.nofr (ok:X.Ok) (e:X.base.get? b=some o):b∉X.fs:=fun hb=>by
 have:=(ok.funs.mem hb).1
 rw[e] at this;cases this
theorem Inv.bs (I:Inv X B4 σ H s):∀ b o,X.base.get? b=some o->s.heap.get? b=some o/\H b=none:=fun b o e =>
 ⟨I.base.keep b o (I.ok.bs b o e).1 (I.ok.bs b o e).2 (I.ok.nofr e) (I.ok.noex b o e),I.base.free b o (I.ok.bs b o e).1 (I.ok.bs b o e).2 (I.ok.noex b o e)⟩
theorem Inv.bk (I:Inv X B4 σ H s):∀ b o,X.base.get? b=some o->s.heap.get? b=some o:=fun b o e=>(I.bs b o e).1
theorem Inv.mod (I:Inv X B4 σ H s):Mod X.K X.mg X.base:=I.ok.mod
theorem Inv.kIn (I:Inv X B4 σ H s):X.K.In s.heap:=I.ok.mod.kin.keeps I.bk
theorem Inv.lt (I:Inv X B4 σ H s):X.env.locals < s.heap.objs.size:=let ⟨_,hn,_⟩:=I.loc;hn.lt
theorem Inv.sz (I:Inv X B4 σ H s):X.s₀.heap.objs.size<=s.heap.objs.size:=NI I.ok.above (Pq I.lt)
theorem Inv.nofs (I:Inv X B4 σ H s) (h:s.heap.objs.size<=a):a∉X.fs:=fun hb=>by
 obtain⟨_,o,ho,_⟩:=I.ok.funs.mem hb
 exact absurd (N6 (Nm ho) (NI I.sz h)) (Qk _)
theorem Inv.cne (I:Inv X B4 σ H s):∀ x c,X.env.cells.lookup x=some c->c≠X.env.locals:=fun x c e z=>by
 obtain⟨v,o,ho,hd⟩:=I.cell x c e
 obtain⟨m,⟨o',es,ep,ho',hd',_⟩,_⟩:=I.loc
 rw[z,ho'] at ho;cases ho;rw[hd'] at hd;cases hd
theorem Inv.funs (I:Inv X B4 σ H s):s.heap.FunFrames X.base X.outer:=by
 have all:∀(l:List Env),(∀ b∈frs l,b∈X.fs)->X.s₀.heap.FunFrames X.base l->s.heap.FunFrames X.base l:=by
  intro l
  induction l with
  | nil=>intro _ _;trivial
  | cons env r ih =>
   intro hs hl
   obtain⟨hk,⟨L,o,hf,hn,ho,hd⟩,hr⟩:=hl
   have hL:L∈X.fs:=hs L (by unfold frs;rw[ZT,hf];exact N1)
   obtain⟨sl,e⟩:=I.base.slot L o ho (I.ok.frf L hL) hL fun z=>I.ok.exfs L z hL
   exact⟨hk,⟨L,_,hf,hn,e,hd⟩,ih (fun b hb=>hs b (by unfold frs;rw[ZT,hf];exact NH _ hb)) hr⟩
 exact all X.outer (fun _ hb=>hb) I.ok.funs
theorem Inv.stack (I:Inv X B4 σ H s):s.heap.FunFrames X.base X.stack:=by
 rcases I.ok.stk with e | ⟨e,hf⟩
 ·rw[e];exact I.funs
 ·rw[e]
  obtain⟨m,hn,_⟩:=I.loc
  refine .cons (by rw[I.ok.kind];decide) hf hn ?_ I.funs
  exact Heap.get?_none_of_le (NI I.ok.bsz I.ok.above)
theorem Inv.stkSub (I:Inv X B4 σ H s):∀ b∈frs X.stack,b∈X.env.locals::X.fs:=fun b hb=>by
 rcases I.ok.stk with e | ⟨e,hf⟩
 ·rw[e] at hb;exact NH _ hb
 ·rw[e] at hb
  unfold frs at hb
  rw[ZT,hf] at hb
  exact hb
theorem Inv.stkFree (I:Inv X B4 σ H s):∀ b∈frs X.stack,H b=none:=fun b hb=>by
 rcases Nf.mp (I.stkSub b hb) with e | hb
 ·rw[e];exact I.free
 ·obtain⟨_,o,ho,_⟩:=I.ok.funs.mem hb
  exact I.base.free b o ho (I.ok.frf b hb) fun z=>I.ok.exfs b z hb
theorem Inv.step {g':Array GenState}{t':Nat}{d':Drawn}{ch:List Ab}(I:Inv X B4 σ H s)
  (EC:∀ b∈ch,(b∈X.ex∨X.s₀.heap.objs.size<=b)/\b≠X.env.locals/\(∀ x c,X.env.cells.lookup x=some c->c≠b)/\∀ p∈X.pn++B4,p.1≠b)
  (keep:∀ b o,b≠X.env.locals->b∉X.fs->b∉ch->s.heap.get? b=some o->H b=none->h'.get? b=some o)
  (slot:∀ b o,b≠X.env.locals->b∈X.fs->b∉ch->s.heap.get? b=some o->H b=none->∃ sl,h'.get? b=some { o with slots:=sl }) (free:∀ b o,b∉ch->s.heap.get? b=some o->H b=none->H' b=none)
  (there:∀ b o,b∉ch->s.heap.get? b=some o->∃ o',h'.get? b=some o')
  (tups:∀ b xs,H b=some (.tup xs)->H' b=some (.tup xs)) (frzs:∀ b o u,H b=some (.frz o u)->H' b=some (.frz o u)) (tbls:∀ b ps,H b=some (.tbl ps)->∃ more,H' b=some (.tbl (ps++more)))
  (ns:∀ m,s.heap.Ns X.env.locals m->h'.Ns X.env.locals m) (hok:HOk X.prog X.w H' h') (hg:Bj g') :
  Inv X B4 σ H' { s with heap:=h',gens:=g',drawn:=d',toks:=t' }:=by
 have neL:∀ b o,X.s₀.heap.get? b=some o->b≠X.env.locals:=fun b o e=>NB (N6 (Nm e) I.ok.above)
 have neC:∀ b o,X.s₀.heap.get? b=some o->b∉X.ex->b∉ch:=fun b o e hx hb=>by
  rcases (EC b hb).1 with z | z
  ·exact hx z
  ·exact absurd (N6 (Nm e) z) (Qk _)
 have cellK:∀ x c,X.env.cells.lookup x=some c->∀ v,s.heap.IsCell c v->h'.IsCell c v:=fun x c e v ⟨o,ho,hd⟩=>by
  have nch:c∉ch:=fun z=>(EC c z).2.2.1 x c e rfl
  by_cases hc:c∈X.fs
  ·obtain⟨sl,q⟩:=slot c o (I.cne x c e) hc nch ho (I.freeC x c e)
   exact⟨_,q,hd⟩
  ·exact⟨o,keep c o (I.cne x c e) hc nch ho (I.freeC x c e),hd⟩
 refine⟨I.ok,I.os,hg,⟨fun b o e n hb hx=>?_,fun b o e n hb hx=>?_,fun b o e n hx=>?_,fun b o e hx=>?_,fun b xs e=>tups b xs (I.base.tups b xs e),fun b o xs e=>frzs b o xs (I.base.frzs b o xs e),fun b ps e=>?_⟩,?_,fun x c e=>?_,?_,fun x c e=>?_,fun p hp=>?_,hok,I.len⟩
 ·exact keep b o (neL b o e) hb (neC b o e hx) (I.base.keep b o e n hb hx) (I.base.free b o e n hx)
 ·obtain⟨sl,e1⟩:=I.base.slot b o e n hb hx
  obtain⟨sl',e2⟩:=slot b _ (neL b o e) hb (neC b o e hx) e1 (I.base.free b o e n hx)
  exact⟨sl',e2⟩
 ·obtain⟨o',e1⟩:=I.base.there b o e hx
  exact free b o' (neC b o e hx) e1 (I.base.free b o e n hx)
 ·obtain⟨o',e1⟩:=I.base.there b o e hx
  exact there b o' (neC b o e hx) e1
 ·obtain⟨m1,e1⟩:=I.base.tbls b ps e
  obtain⟨m2,e2⟩:=tbls b _ e1
  exact⟨m1++m2,by rw[e2,Array.append_assoc]⟩
 ·obtain⟨m,hn,hl⟩:=I.loc
  refine⟨m,ns m hn,fun i x v e1 e2 e3=>?_⟩
  obtain⟨u,r,l⟩:=hl i x v e1 e2 e3
  refine⟨u,r,?_⟩
  rcases l with l | ⟨k,c,e,z⟩
  ·exact .inl l
  ·exact .inr ⟨k,c,e,cellK x c e _ z⟩
 ·obtain⟨v,z⟩:=I.cell x c e
  exact⟨v,cellK x c e v z⟩
 ·obtain⟨m,⟨o,_,_,ho,_⟩,_⟩:=I.loc
  exact free _ o (fun z=>(EC _ z).2.1 rfl) ho I.free
 ·obtain⟨v,o,ho,hd⟩:=I.cell x c e
  exact free c o (fun z=>(EC c z).2.2.1 x c e rfl) ho (I.freeC x c e)
 ·obtain⟨e,n,ne,nf,d⟩:=I.pin p hp
  have nch:p.1∉ch:=fun z=>(EC p.1 z).2.2.2 p hp rfl
  exact⟨keep p.1 p.2 ne nf nch e n,free p.1 p.2 nch e n,ne,nf,d⟩
theorem Inv.un (I:Inv X B4 σ H s) (u:Un X.fs [] H H' s.heap h') (hok:HOk X.prog X.w H' h'):Inv X B4 σ H' { s with heap:=h',toks:=t' }:=by
 obtain⟨m,⟨o,es,ep,ho,r⟩,_⟩:=id I.loc
 obtain⟨sl,hL⟩:=u.any ho I.free (by simp)
 exact I.step (g':=s.gens) (d':=s.drawn) (ch:=[]) (fun _ z=>nomatch z) (fun b o _ hb _ e n=>u.keep b o e n hb (by simp)) (fun b o _ hb _ e n=>u.slot b o e n hb (by simp)) (fun b o _ e n=>u.free b o e n (by simp)) (fun b o _ e=>u.there b o e (by simp)) u.tups u.frzs u.tbls (fun m' hm=>by
  obtain⟨o',es',ep',ho',r'⟩:=hm
  rw[ho] at ho';cases ho'
  exact⟨_,es',ep',hL,r'⟩) hok I.bare
theorem Inv.call (I:Inv X B4 σ H s) (u:Un (frs X.stack) ch H H' s.heap h') (hok:HOk X.prog X.w H' h') (hg:Bj g') (EC:∀ b∈ch,(b∈X.ex∨X.s₀.heap.objs.size<=b)/\b≠X.env.locals/\(∀ x c,X.env.cells.lookup x=some c->c≠b)/\∀ p∈X.pn++B4,p.1≠b):
  Inv X B4 σ H' { s with heap:=h',gens:=g',drawn:=d',toks:=t' }:=by
 obtain⟨m,⟨o,es,ep,ho,r⟩,_⟩:=id I.loc
 obtain⟨sl,hL⟩:=u.any ho I.free fun z=>(EC _ z).2.1 rfl
 exact I.step (ch:=ch) EC (fun b o hL hb hc e n=>u.keep b o e n (fun z=>(Nf.mp (I.stkSub b z)).elim hL hb) hc) (fun b o _ _ hc e n=>u.any e n hc) (fun b o hc e n=>u.free b o e n hc) (fun b o hc e=>u.there b o e hc) u.tups u.frzs u.tbls (fun m' hm=>by
  obtain⟨o',es',ep',ho',r'⟩:=hm
  rw[ho] at ho';cases ho'
  exact⟨_,es',ep',hL,r'⟩) hok hg
theorem Inv.turned (I:Inv X B4 σ H s) (k:∀ b o,b≠it->s.heap.get? b=some o->h'.get? b=some o) (hn:H it=none) (hL:it≠X.env.locals) (h1:it∈X.ex∨X.s₀.heap.objs.size<=it) (h2:∀ x c,X.env.cells.lookup x=some c->c≠it) (h3:∀ p∈X.pn++B4,p.1≠it):Inv X B4 σ H { s with heap:=h',toks:=t' }:=by
 have nit:∀ b u,H b=some u->b≠it:=fun b u e z=>by rw[z,hn] at e;cases e
 refine I.step (g':=s.gens) (d':=s.drawn) (ch:=[it]) (fun b hb=>?_) (fun b o _ _ hc e _=>k b o (fun z=>hc (by simp[z])) e) (fun b o _ _ hc e _=>⟨o.slots,k b o (fun z=>hc (by simp[z])) e⟩) (fun _ _ _ _ n=>n)
  (fun b o hc e=>⟨o,k b o (fun z=>hc (by simp[z])) e⟩) (fun _ _ e=>e) (fun _ _ _ e=>e) (fun b ps e=>⟨#[],by rw[e];simp⟩) (fun m hm=>?_) (fun b u e=>?_) I.bare
 ·have e:b=it:=by simpa using hb
  subst e
  exact⟨h1,hL,h2,h3⟩
 ·obtain⟨o,es,ep,ho,r⟩:=hm
  exact⟨o,es,ep,k _ o (M7 hL) ho,r⟩
 ·refine(I.hok b u e).stay (fun c v hc q=>k c v ?_ q) (fun _ q=>q) fun _ _ q=>q
  rcases hc with z | z
  ·rw[z];exact nit b u e
  ·exact nit c _ z
theorem Inv.tok (I:Inv X B4 σ H s)(t:Nat):Inv X B4 σ H { s with toks:=t }:=I.un (h':=s.heap) (t':=t) Un.refl I.hok
theorem Inv.kept (I:Inv X B4 σ H s) (k:∀ b u,s.heap.get? b=some u->h'.get? b=some u):Inv X B4 σ H { s with heap:=h',toks:=t' }:=I.un (Un.kept k) (I.hok.kept k)
theorem Inv.laid (I:Inv X B4 σ H s) (k:∀ b u,s.heap.get? b=some u->h'.get? b=some u) (hp:s.heap.objs.size<=a) (new:ObjOk X.prog X.w (upd H a o) h' a o):
  Inv X B4 σ (upd H a o) { s with heap:=h',toks:=t' }:=I.un (Un.laid k hp (I.hok.fresh hp)) (I.hok.laid k hp new)
theorem Inv.write (I:Inv X B4 σ H s) (mu:Mut (H x)) (he:e=x∨H e=some (.own x)) (k:∀ b u,b≠e->s.heap.get? b=some u->h'.get? b=some u) (GI:∃ u,h'.get? e=some u) (new:ObjOk X.prog X.w (upd H x o) h' x o):Inv X B4 σ (upd H x o) { s with heap:=h',toks:=t' }:=I.un (Un.write mu he k GI) (I.hok.write mu he k GI new)
theorem Inv.pins_of (I:Inv X B4 σ H s) (h:∀ p∈pins',s.heap.get? p.1=some p.2/\H p.1=none/\p.1≠X.env.locals/\p.1∉X.fs/\∀ v,p.2.data≠.cell v):Inv X pins' σ H s :=
 ⟨I.ok,I.os,I.bare,I.base,I.loc,I.cell,I.free,I.freeC,fun p hp=>(NP.mp hp).elim (fun z=>I.pin p (Vw _ z)) (h p),I.hok,I.len⟩
theorem Tf {N:List Str}(hN:N.Nodup){i j:Nat}{x:Str}(a:N[i]?=some x)(b:N[j]?=some x):i=j:=by
 obtain⟨h1,e1⟩:=NJ.mp a
 obtain⟨h2,e2⟩:=NJ.mp b
 exact(List.getElem_inj hN).mp (e1.trans e2.symm)
theorem VU (I:Inv X B4 σ H s) (hN:X.N.Nodup) (hi:X.N[i]?=some x) (hx:Loc X.env.scope x) (r:RelV v u) (h:∀ s',Inv X B4 (σ.set i (some v)) H s'->(∃ a,Rz a s.heap s'.heap/\(a=X.env.locals∨X.env.cells.lookup x=some a))->Q () s') (hf:X.fn x=true∨X.env.scope.names.lookup x=some .local:=by first | exact .inl rfl | exact .inr rfl | assumption):wpAny M A (storeName X.env x u) Q E s:=by
 obtain⟨m,hn,hl⟩:=id I.loc
 have Gd:(X.env.scope.kind == .class || (X.env.scope.kind == .module&&X.env.locals != X.env.globals))=false:=by rw[I.ok.kind];rfl
 have hiσ:i < σ.length:=by rw[I.len];exact(NJ.mp hi).1
 have cne:=I.cne
 have tracked:∀{a:Ab}{h':An},(∃ o,s.heap.get? a=some o/\H a=none)->Rz a s.heap h'->HOk X.prog X.w H h':=fun{a h'} ha hs b ob e=>by
  obtain⟨_,_,DU⟩:=ha
  refine(I.hok b ob e).stay (fun c w' hc q=>(hs.2 c ?_).trans q) (fun _ q=>q) fun _ _ q=>q
  rintro rfl
  rcases hc with rfl | hc
  ·rw[DU] at e;cases e
  ·rw[DU] at hc;cases hc
 rcases hx with hk | hk
 ·refine wpAny_storeName_local hk hn (fun h' hn' hs=>?_) Gd
  obtain⟨oL,_,_,Ki,_⟩:=id hn
  refine h _ ⟨I.ok,I.os,I.bare,⟨fun b o e n hb hx=>?_,fun b o e n hb hx=>?_,I.base.free,fun b o e hx=>?_,I.base.tups,I.base.frzs,I.base.tbls⟩,⟨_,hn',fun j y v' e1 e2 e3=>?_⟩,fun y c e=>?_,I.free,I.freeC,fun p hp=>?_,tracked ⟨oL,Ki,I.free⟩ hs,by simpa using I.len⟩ ⟨_,hs,.inl rfl⟩
  ·exact(hs.2 b (NB (N6 (Nm e) I.ok.above))).trans (I.base.keep b o e n hb hx)
  ·obtain⟨sl,e1⟩:=I.base.slot b o e n hb hx
   exact⟨sl,(hs.2 b (NB (N6 (Nm e) I.ok.above))).trans e1⟩
  ·obtain⟨o',e1⟩:=I.base.there b o e hx
   exact⟨o',(hs.2 b (NB (N6 (Nm e) I.ok.above))).trans e1⟩
  ·by_cases hj:j=i
   ·subst hj
    rw[hi] at e1;cases e1
    rw[ZN hiσ] at e2
    cases e2
    exact⟨u,r,.inl ⟨hk,by simp⟩⟩
   ·rw[ZQ (M7 hj)] at e2
    obtain⟨u',r',q⟩:=hl j y v' e1 e2 e3
    refine⟨u',r',?_⟩
    rcases q with ⟨k,e⟩ | ⟨k,c,e,z⟩
    ·refine .inl ⟨k,?_⟩
     have:y≠x:=fun e=>hj (Tf hN e1 (e▸hi))
     simp[this,e]
    ·exact .inr ⟨k,c,e,z.sameBut hs (cne y c e)⟩
  ·obtain⟨w',z⟩:=I.cell y c e
   exact⟨w',z.sameBut hs (cne y c e)⟩
  ·obtain⟨e,n,ne,nf,d⟩:=I.pin p hp
   exact⟨(hs.2 p.1 ne).trans e,n,ne,nf,d⟩
 ·have Fz:X.fn x=true:=by
   rcases hf with z | z
   ·exact z
   ·rw[z] at hk;cases hk
  obtain⟨c,hc⟩:=I.ok.has x (.inl hk)
  obtain⟨w',z⟩:=I.cell x c hc
  refine wpAny_storeName_cell I.ok.kind hk hc z (fun h' hc' hs=>?_)
  obtain⟨oc,Im,Ja⟩:=id z
  refine h { s with heap:=h' } ⟨I.ok,I.os,I.bare,⟨fun b o e n hb hx=>?_,fun b o e n hb hx=>?_,I.base.free,fun b o e hx=>?_,I.base.tups,I.base.frzs,I.base.tbls⟩,⟨m,hn.sameBut hs (M7 (cne x c hc)),fun j y v' e1 e2 e3=>?_⟩,fun y c' e=>?_,I.free,I.freeC,fun p hp=>?_,tracked ⟨oc,Im,I.freeC x c hc⟩ hs,by simpa using I.len⟩ ⟨c,hs,.inr hc⟩
  ·exact(hs.2 b (NB (N6 (Nm e) (I.ok.cab x c Fz hc)))).trans (I.base.keep b o e n hb hx)
  ·obtain⟨sl,e1⟩:=I.base.slot b o e n hb hx
   exact⟨sl,(hs.2 b (NB (N6 (Nm e) (I.ok.cab x c Fz hc)))).trans e1⟩
  ·obtain⟨o',e1⟩:=I.base.there b o e hx
   exact⟨o',(hs.2 b (NB (N6 (Nm e) (I.ok.cab x c Fz hc)))).trans e1⟩
  ·by_cases hj:j=i
   ·subst hj
    rw[hi] at e1;cases e1
    rw[ZN hiσ] at e2
    cases e2
    exact⟨u,r,.inr ⟨.inl hk,c,hc,hc'⟩⟩
   ·rw[ZQ (M7 hj)] at e2
    obtain⟨u',r',q⟩:=hl j y v' e1 e2 e3
    refine⟨u',r',?_⟩
    rcases q with q | ⟨k,c',e,z'⟩
    ·exact .inl q
    ·refine .inr ⟨k,c',e,z'.sameBut hs ?_⟩
     rintro rfl
     exact hj (Tf hN e1 (I.ok.inj _ _ _ e hc▸hi))
  ·by_cases Kj:c'=c
   ·subst Kj;exact⟨_,hc'⟩
   ·obtain⟨w2,z2⟩:=I.cell y c' e
    exact⟨w2,z2.sameBut hs Kj⟩
  ·obtain⟨e,n,ne,nf,d⟩:=I.pin p hp
   refine⟨(hs.2 p.1 ?_).trans e,n,ne,nf,d⟩
   intro q
   rw[q,Im] at e
   have q':oc=p.2:=Option.some.inj e
   exact d w' (by rw[<- q'];exact Ja)
theorem RC (I:Inv X B4 σ H s) (hN:X.N.Nodup) (hi:X.N[i]?=some x) (hx:Loc X.env.scope x) (r:RelV v u) (h:∀ s',Inv X B4 (σ.set i (some v)) H s'->Q () s') (hf:X.fn x=true∨X.env.scope.names.lookup x=some .local:=by first | exact .inl rfl | exact .inr rfl | assumption):wpAny M A (storeName X.env x u) Q E s :=
 VU I hN hi hx r (fun s' I' _=>h s' I') hf
theorem Inv.call' (I:Inv X B4 σ H s) (ho:s'.os=s.os) (u:Un (frs X.stack) ch H H' s.heap s'.heap) (hok:HOk X.prog X.w H' s'.heap) (hg:Bj s'.gens) (EC:∀ b∈ch,(b∈X.ex∨X.s₀.heap.objs.size<=b)/\b≠X.env.locals/\(∀ x c,X.env.cells.lookup x=some c->c≠b)/\∀ p∈X.pn++B4,p.1≠b):Inv X B4 σ H' s':=by
 obtain⟨h',g',d',t',o'⟩:=s'
 have e:o'=s.os:=ho
 subst e
 exact I.call (g':=g') (t':=t') (d':=d') u hok hg EC
end
abbrev XK:=Ac->Option Ab->Hp->Prop
noncomputable abbrev St:=List (Option V)
abbrev VK:=V->Hp->Prop
abbrev TE:=St->Hp->VK->Prop
abbrev TT:=St->Hp->(Bool->Hp->Prop)->Prop
abbrev TA:=St->Hp->(List V->Hp->Prop)->Prop
structure Ends where
 nx:St->Hp->Prop
 rt:VK
 bk:St->Hp->Prop:=fun _ _=>False
 ct:St->Hp->Prop:=fun _ _=>False
abbrev TS:=Ends->St->Hp->Prop
def EP (X:Cx)(B4:List (Ab×Obj))(σ:St)(Q:VK)(u:Ac)(s':Ad):Prop:=∃ v H',Inv X B4 σ H' s'/\RelV v u/\Q v H'
def TP (X:Cx)(B4:List (Ab×Obj))(σ:St)(Q:Bool->Hp->Prop)(b:Bool)(s':Ad):Prop:=∃ H',Inv X B4 σ H' s'/\Q b H'
def AP (X:Cx)(B4:List (Ab×Obj))(σ:St)(Q:List V->Hp->Prop)(us:List Ac)(s':Ad):Prop:=∃ vs H',Inv X B4 σ H' s'/\Vals vs us/\Q vs H'
noncomputable def SP (X:Cx)(B4:List (Ab×Obj))(D:Ends)(f:Flow)(s':Ad):Prop :=
 match f with
 | .next=>∃ σ' H',Inv X B4 σ' H' s'/\D.nx σ' H'
 | .brk=>∃ σ' H',Inv X B4 σ' H' s'/\D.bk σ' H'
 | .cont=>∃ σ' H',Inv X B4 σ' H' s'/\D.ct σ' H'
 | .ret u=>∃ v σ' H',Inv X B4 σ' H' s'/\RelV v u/\D.rt v H'
noncomputable def PE (X:Cx)(e:Av)(t:TE):Prop :=
 ∀(B4:List (Ab×Obj)) (s:Ad) (σ:St) (H:Hp) (Q:VK),Inv X B4 σ H s->t σ H Q->wpAny (Ai X.prog X.w) X.A (Aq e X.env) (EP X B4 σ Q) X.xe s
noncomputable def PT (X:Cx)(e:Av)(t:TT):Prop :=
 ∀(B4:List (Ab×Obj)) (s:Ad) (σ:St) (H:Hp) (Q:Bool->Hp->Prop),Inv X B4 σ H s->t σ H Q->wpAny (Ai X.prog X.w) X.A (isTrue e X.env (Aq e X.env)) (TP X B4 σ Q) X.xe s
noncomputable def PW (X:Cx)(e:Av)(t:TT):Prop :=
 ∀(whole:Sem Ac) (B4:List (Ab×Obj)) (s:Ad) (σ:St) (H:Hp) (Q:Bool->Hp->Prop),Inv X B4 σ H s->t σ H Q->wpAny (Ai X.prog X.w) X.A (isTrue e X.env whole) (TP X B4 σ Q) X.xe s
theorem PW.pt (h:PW X e t):PT X e t:=h _
noncomputable def PA (X:Cx)(es:List Av)(t:TA):Prop :=
 ∀(pos:Pos) (B4:List (Ab×Obj)) (s:Ad) (σ:St) (H:Hp) (Q:List V->Hp->Prop),Inv X B4 σ H s->t σ H Q->wpAny (Ai X.prog X.w) X.A (BB (AB pos (Ag es X.env))) (AP X B4 σ Q) X.xe s
noncomputable def PS (X:Cx)(st:As)(t:TS):Prop :=
 ∀(B4:List (Ab×Obj)) (s:Ad) (σ:St) (H:Hp) (D:Ends),Inv X B4 σ H s->t D σ H->wpAny (Ai X.prog X.w) X.A (exec st X.env) (SP X B4 D) X.xe s
noncomputable def PSs (X:Cx)(st:List As)(t:TS):Prop :=
 ∀(B4:List (Ab×Obj)) (s:Ad) (σ:St) (H:Hp) (D:Ends),Inv X B4 σ H s->t D σ H->wpAny (Ai X.prog X.w) X.A (execs st X.env) (SP X B4 D) X.xe s
theorem thn (h:wpAny M A t Q E s) (hQ:∀ a s,Q a s->Q' a s):wpAny M A t Q' E s:=Ao h hQ fun _ _ x=>x
section
variable {X:Cx}
theorem bin {a b:Av}{ta tb:TE}(ha:PE X a ta)(hb:PE X b tb){B4:List (Ab×Obj)}{s:Ad}{σ:St}{H:Hp}{R:V->V->Hp->Prop}(I:Inv X B4 σ H s)(h:ta σ H fun x H1=>tb σ H1 fun y H2=>R x y H2)
  {α:Type}{Q:α->Ad->Prop}{f:Ac->Ac->Sem α}
  (hf:∀ v u s2 x y H2,Inv X B4 σ H2 s2->RelV x v->RelV y u->R x y H2->wpAny (Ai X.prog X.w) X.A (f v u) Q X.xe s2) :
  wpAny (Ai X.prog X.w) X.A (Aq a X.env) (fun v s₁=>wpAny (Ai X.prog X.w) X.A (Aq b X.env) (fun u s₂=>wpAny (Ai X.prog X.w) X.A (f v u) Q X.xe s₂) X.xe s₁) X.xe s:=by
 refine thn (ha B4 s σ H _ I h) fun v s1 hI9=>?_
 obtain⟨x,H1,I1,r1,q1⟩:=hI9
 refine thn (hb B4 s1 σ H1 _ I1 q1) fun u s2 hI9=>?_
 obtain⟨y,H2,I2,r2,q2⟩:=hI9
 exact hf v u s2 x y H2 I2 r1 r2 q2
def tVar (i:Nat):TE:=fun σ H Q=>∃ v,σ[i]?=some (some v)/\Q v H
def tC (v:V):TE:=fun _ H Q=>Q v H
theorem pe_var (hN:X.N[i]?=some x) (hv:Vis X.env.scope x) (hd:(x == ("__debug__":Str))=false:=by decide) (ED:(x == ("__classdict__":Str))=false:=by decide):PE X (.Name x pos) (tVar i):=by
 intro B4 s σ H Q I h
 obtain⟨v,e,h⟩:=h
 obtain⟨m,hn,hl⟩:=I.loc
 obtain⟨u,r,l⟩:=hl i x v hN e hv
 have fin:EP X B4 σ Q u s:=⟨v,H,I,r,h⟩
 rcases l with ⟨hk,hm⟩ | ⟨hk,c,hc,FO⟩
 ·exact wpAny_Name (wpAny_loadName_local I.ok.kind hk hn hm fin) hd
 ·rcases hk with hk | hk
  ·exact wpAny_Name (wpAny_loadName_cell I.ok.kind hk hc FO fin) hd
  ·exact wpAny_Name (wpAny_loadName_free I.ok.kind hk hc FO fin ED) hd
theorem MP :PE X (.Constant (.int i) j pos) (tC (.int i)):=fun _ _ _ H _ I h=>wpAny_Constant_int ⟨.int i,H,I.tok _,⟨_,rfl⟩,h⟩
theorem Pb :PE X (.Constant (.bool b) j pos) (tC (.bl b)):=fun _ _ _ H _ I h=>Constant_bool ⟨.bl b,H,I,rfl,h⟩
theorem Pz :PE X (.Constant .none j pos) (tC .non):=fun _ _ _ H _ I h=>Constant_none ⟨.non,H,I,rfl,h⟩
theorem NQ :PE X (.Constant (.str x) j pos) (tC (.str x)):=fun _ _ _ H _ I h=>Calls.Constant_str ⟨.str x,H,I.tok _,⟨_,rfl⟩,h⟩
def Gl (X:Cx)(x:Str):Prop:=X.env.kindOf x=some .globalImplicit
theorem RD (I:Inv X B4 σ H s) (hg:Gl X x) (hm:X.mg x=some u) (h:Q u s) (hd:(x == ("__debug__":Str))=false:=by decide):wpAny (Ai X.prog X.w) X.A (Aq (.Name x pos) X.env) Q E s :=
 j9 I.ok.kind hg (Calls.loadGlobal_global (by rw[I.ok.glob];exact I.mod.glob.keeps I.bk) hm h) hd
theorem Ri (I:Inv X B4 σ H s) (hg:Gl X x) (hm:X.mg x=none) (hv:AK x=some u) (h:Q u s) (hn:x≠"__name__":=by decide) (hd:(x == ("__debug__":Str))=false:=by decide):wpAny (Ai X.prog X.w) X.A (Aq (.Name x pos) X.env) Q E s:=by
 obtain⟨mb,h1,h2⟩:=I.mod.blt
 exact j9 I.ok.kind hg (Calls.loadGlobal_builtin (by rw[I.ok.glob];exact I.mod.glob.keeps I.bk) hm (by rw[I.ok.blt];exact h1.keeps I.bk) ((h2 x hn).trans hv) h) hd
theorem RE (hg:Gl X x) (hm:X.mg x=some u) (r:RelV v u) (hd:(x == ("__debug__":Str))=false:=by decide):PE X (.Name x pos) (tC v) :=
 fun _ _ _ H _ I h=>RD I hg hm ⟨v,H,I,r,h⟩ hd
theorem bX (hg:Gl X x) (hm:X.mg x=none) (hv:AK x=some u) (r:RelV v u) (hn:x≠"__name__":=by decide) (hd:(x == ("__debug__":Str))=false:=by decide):PE X (.Name x pos) (tC v) :=
 fun _ _ _ H _ I h=>Ri I hg hm hv ⟨v,H,I,r,h⟩ hn hd
variable {a b:Av}{ta tb:TE}{pos:Pos}
noncomputable def PC (X:Cx)(op:CmpOp)(a b:Av)(t:TE):Prop :=
 ∀(B4:List (Ab×Obj)) (s:Ad) (σ:St) (H:Hp) (Q:VK),Inv X B4 σ H s->t σ H Q ->
  wpAny (Ai X.prog X.w) X.A (Aq a X.env) (fun v s₁=>wpAny (Ai X.prog X.w) X.A (Aq b X.env) (fun u s₂=>wpAny (Ai X.prog X.w) X.A (Ar op v u) (EP X B4 σ Q) X.xe s₂) X.xe s₁) X.xe s
def tB (t:TE):TT:=fun σ H Q=>t σ H fun x H1=>∃ c,x=.bl c/\Q c H1
theorem PB (h:PC X op a b t) (h1:Bc op b=false:=by first | exact nobehind _ (by decide) (by decide) | rfl):PT X (.Compare a [op] [b] pos) (tB t):=by
 intro B4 s σ H Q I hw
 refine BG (thn (h B4 s σ H _ I hw) fun v s1 h1=>thn h1 fun u s2 h2=>thn h2 fun c s3 hI9=>?_) h1
 obtain⟨x,H1,I1,r1,q1⟩:=hI9
 obtain⟨d,rfl,q⟩:=q1
 cases r1
 exact Az ⟨H1,I1,q⟩
variable {tA tB':TT}{rest:List Av}
def tAnd (t u:TT):TT:=fun σ H Q=>t σ H fun c H1=>if c=true then u σ H1 Q else Q false H1
def tOr (t u:TT):TT:=fun σ H Q=>t σ H fun c H1=>if c=true then Q true H1 else u σ H1 Q
def tNot (t:TT):TT:=fun σ H Q=>t σ H fun c H1=>Q (!c) H1
theorem Qz (ha:PT X a tA):PW X (.BoolOp .And [a] pos) tA:=by
 intro wh B4 s σ H Q I h
 refine isTrue_and (thn (ha B4 s σ H Q I h) fun c s1 e=>?_)
 cases c with
 | true=>exact isTrue_and_nil e
 | false=>exact e
theorem Tg (ha:PT X a tA):PW X (.BoolOp .Or [a] pos) tA:=by
 intro wh B4 s σ H Q I h
 refine isTrue_or (thn (ha B4 s σ H Q I h) fun c s1 e=>?_)
 cases c with
 | false=>exact isTrue_or_nil e
 | true=>exact e
theorem QC (ha:PT X a tA)(hb:PW X (.BoolOp .And (b::rest) pos) tB'):PW X (.BoolOp .And (a::b::rest) pos) (tAnd tA tB'):=by
 intro wh B4 s σ H Q I h
 refine isTrue_and (thn (ha B4 s σ H _ I h) fun c s1 ⟨H1,I1,q1⟩=>?_)
 cases c with
 | true=>exact hb wh B4 s1 σ H1 Q I1 q1
 | false=>exact⟨H1,I1,q1⟩
theorem Pd (ha:PT X a tA)(hb:PW X (.BoolOp .Or (b::rest) pos) tB'):PW X (.BoolOp .Or (a::b::rest) pos) (tOr tA tB'):=by
 intro wh B4 s σ H Q I h
 refine isTrue_or (thn (ha B4 s σ H _ I h) fun c s1 ⟨H1,I1,q1⟩=>?_)
 cases c with
 | true=>exact⟨H1,I1,q1⟩
 | false=>exact hb wh B4 s1 σ H1 Q I1 q1
theorem RF (ha:PT X a tA):PT X (.UnaryOp .Not a pos) (tNot tA):=by
 intro B4 s σ H Q I h
 exact isTrue_not (ha B4 s σ H (fun c H1=>Q (!c) H1) I h)
def tAndV (ta tb:TE):TE:=fun σ H Q=>ta σ H fun x H1=>∃ c,x=.bl c/\if c=true then tb σ H1 Q else Q (.bl false) H1
def tOrV (ta tb:TE):TE:=fun σ H Q=>ta σ H fun x H1=>∃ c,x=.bl c/\if c=true then Q (.bl true) H1 else tb σ H1 Q
theorem PD (h:PE X a t):PE X (.BoolOp op [a] pos) t:=fun B4 s σ H Q I hw=>BoolOp_one (h B4 s σ H Q I hw)
theorem Qm (ha:PE X a ta)(hb:PE X (.BoolOp .And (b::rest) pos) tb):PE X (.BoolOp .And (a::b::rest) pos) (tAndV ta tb):=by
 intro B4 s σ H Q I h
 refine BoolOp_and (thn (ha B4 s σ H _ I h) fun v s1 hI9=>?_)
 obtain⟨x,H1,I1,r1,q1⟩:=hI9
 obtain⟨c,rfl,q1⟩:=q1
 cases r1
 refine Az ?_
 cases c with
 | true=>exact hb B4 s1 σ H1 Q I1 q1
 | false=>exact⟨.bl false,H1,I1,rfl,q1⟩
theorem pe_or (ha:PE X a ta)(hb:PE X (.BoolOp .Or (b::rest) pos) tb):PE X (.BoolOp .Or (a::b::rest) pos) (tOrV ta tb):=by
 intro B4 s σ H Q I h
 refine BoolOp_or (thn (ha B4 s σ H _ I h) fun v s1 hI9=>?_)
 obtain⟨x,H1,I1,r1,q1⟩:=hI9
 obtain⟨c,rfl,q1⟩:=q1
 cases r1
 refine Az ?_
 cases c with
 | false=>exact hb B4 s1 σ H1 Q I1 q1
 | true=>exact⟨.bl true,H1,I1,rfl,q1⟩
def tIf (t:TT)(ta tb:TE):TE:=fun σ H Q=>t σ H fun c H1=>if c=true then ta σ H1 Q else tb σ H1 Q
theorem VX (hc:PT X c tA) (ha:PE X a ta) (hb:PE X b tb):PE X (.IfExp c a b pos) (tIf tA ta tb):=by
 intro B4 s σ H Q I h
 refine wpAny_IfExp (thn (hc B4 s σ H _ I h) fun d s1 ⟨H1,I1,q1⟩=>?_)
 cases d with
 | true=>exact ha B4 s1 σ H1 Q I1 q1
 | false=>exact hb B4 s1 σ H1 Q I1 q1
end
noncomputable def SqL (K:MV)(H:Hp)(a:Ab)(xs:List V):Prop :=
 Rd H a (.lst xs) ∨
  ∃(o:Obj) (its:Array Ac) (n:Nat),K.lookup a=some o/\o.cls=.type "list"/\o.dict=none/\o.data=.seq its n/\its.size<=Ae/\Vals xs its.toList
noncomputable def SqT (K:MV)(H:Hp)(a:Ab)(xs:List V):Prop :=
 Rd H a (.tup xs) ∨
  ∃(o:Obj) (its:Array Ac) (n:Nat),K.lookup a=some o/\o.cls=.type "tuple"/\o.data=.seq its n/\its.size<=Ae/\Vals xs its.toList
noncomputable def absV:Ac->Option V
 | .none=>some .non
 | .bool b=>some (.bl b)
 | .int i _=>some (.int i)
 | .str x _=>some (.str x)
 | .bytes b _=>some (.byt b)
 | .float b _=>some (.flt b)
 | .ref a=>some (.ref a)
 | .type n=>some (.ty n)
 | _=>none
theorem RelV.abs (r:RelV x u):absV u=some x:=by
 cases x with
 | non=>cases r;rfl
 | bl _=>cases r;rfl
 | int _=>obtain⟨t,rfl⟩:=r;rfl
 | str _=>obtain⟨t,rfl⟩:=r;rfl
 | byt _=>obtain⟨t,rfl⟩:=r;rfl
 | flt _=>obtain⟨t,rfl⟩:=r;rfl
 | ref _=>cases r;rfl
 | ty _=>cases r;rfl
theorem RelV.inj (r:RelV x u) (q:RelV y u):x=y:=Option.some.inj (r.abs.symm.trans q.abs)
theorem Vals.inj:∀{xs ys:List V}{us:List Ac},Vals xs us->Vals ys us->xs=ys
 | _,_,_,.nil,.nil=>rfl
 | _,_,_,.cons r t,.cons r' t'=>by rw[r.inj r',Vals.inj t t']
section
variable {X:Cx}{B4:List (Ab×Obj)}{σ:St}{H:Hp}{s:Ad}{a:Ab}{xs ys:List V}
theorem SqL.of {K:MV}(h:H a=some (.lst xs)):SqL K H a xs:=.inl (.inl h)
theorem SqT.of {K:MV}(h:H a=some (.tup xs)):SqT K H a xs:=.inl (.inl h)
theorem Inv.list (I:Inv X B4 σ H s)(h:SqL X.K H a xs):∃ its:List Ac,Vals xs its/\PlainL s.heap a its.toArray/\xs.length<=Ae:=by
 rcases h with h | ⟨o,its,n,hk,hc,hd,hs,hz,r⟩
 ·obtain⟨z,its,n,r,e⟩:=h.ok I.hok
  exact⟨its,r,⟨_,n,e,rfl,rfl,rfl⟩,z⟩
 ·refine⟨its.toList,r,⟨o,n,I.kIn a o hk,hc,hd,by simpa using hs⟩,?_⟩
  have e:=r.length
  simp only[bI] at e
  omega
theorem Inv.tuple (I:Inv X B4 σ H s)(h:SqT X.K H a xs):∃ its:List Ac,Vals xs its/\IsTup s.heap a its.toArray/\xs.length<=Ae:=by
 rcases h with h | ⟨o,its,n,hk,hc,hs,hz,r⟩
 ·obtain⟨z,its,r,p⟩:=h.ok I.hok
  exact⟨its,r,p.1,z⟩
 ·refine⟨its.toList,r,⟨o,I.kIn a o hk,hc,n,by simpa using hs⟩,?_⟩
  have e:=r.length
  simp only[bI] at e
  omega
theorem Inv.list_inj (I:Inv X B4 σ H s)(h:SqL X.K H a xs)(h':SqL X.K H a ys):xs=ys:=by
 obtain⟨its,r,⟨o,n,e,_,_,d⟩,_⟩:=I.list h
 obtain⟨its',r',⟨o',n',e',_,_,d'⟩,_⟩:=I.list h'
 rw[e] at e';cases e'
 rw[d] at d'
 injection d' with d1 _
 have:its=its':=by simpa using congrArg VQ d1
 subst this
 exact r.inj r'
theorem Inv.tuple_inj (I:Inv X B4 σ H s)(h:SqT X.K H a xs)(h':SqT X.K H a ys):xs=ys:=by
 obtain⟨its,r,⟨o,e,_,n,d⟩,_⟩:=I.tuple h
 obtain⟨its',r',⟨o',e',_,n',d'⟩,_⟩:=I.tuple h'
 rw[e] at e';cases e'
 rw[d] at d'
 injection d' with d1 _
 have:its=its':=by simpa using congrArg VQ d1
 subst this
 exact r.inj r'
end
noncomputable abbrev Cx.wish (X:Cx)(E:Ac->Ad->Prop):Cx:={ X with xe:=E }
noncomputable abbrev Cx.nox (X:Cx):Cx:=X.wish fun _ _=>False
theorem Cx.Ok.wish {X:Cx}(ok:X.Ok)(E:Ac->Ad->Prop):(X.wish E).Ok :=
 ⟨ok.mod,ok.kind,ok.glob,ok.blt,ok.above,ok.inj,ok.has,ok.cab,ok.hd,ok.frames,ok.stk,ok.exf,ok.bs,ok.bsz,ok.noex,ok.exfs,ok.funs,ok.frf⟩
theorem Cx.Ok.unwish {X:Cx}{E:Ac->Ad->Prop}(ok:(X.wish E).Ok):X.Ok :=
 ⟨ok.mod,ok.kind,ok.glob,ok.blt,ok.above,ok.inj,ok.has,ok.cab,ok.hd,ok.frames,ok.stk,ok.exf,ok.bs,ok.bsz,ok.noex,ok.exfs,ok.funs,ok.frf⟩
section
variable {X:Cx}{B4:List (Ab×Obj)}{σ:St}{H:Hp}{s:Ad}{E:Ac->Ad->Prop}
theorem Inv.wish (I:Inv X B4 σ H s)(E:Ac->Ad->Prop):Inv (X.wish E) B4 σ H s:=⟨I.ok.wish E,I.os,I.bare,I.base,I.loc,I.cell,I.free,I.freeC,I.pin,I.hok,I.len⟩
theorem Inv.unwish (I:Inv (X.wish E) B4 σ H s):Inv X B4 σ H s:=⟨I.ok.unwish,I.os,I.bare,I.base,I.loc,I.cell,I.free,I.freeC,I.pin,I.hok,I.len⟩
theorem SP.unwish (h:SP (X.wish E) B4 D f s'):SP X B4 D f s':=by
 cases f with
 | next=>obtain⟨σ',H',I,q⟩:=h;exact⟨σ',H',I.unwish,q⟩
 | brk=>obtain⟨σ',H',I,q⟩:=h;exact⟨σ',H',I.unwish,q⟩
 | cont=>obtain⟨σ',H',I,q⟩:=h;exact⟨σ',H',I.unwish,q⟩
 | ret u=>obtain⟨v,σ',H',I,r,q⟩:=h;exact⟨v,σ',H',I.unwish,r,q⟩
theorem PSs.nox {st:List As}{t:TS}(h:PSs X.nox st t):PSs X st t:=fun B4 s σ H D I hw =>
 Ao (h B4 s σ H D (I.wish _) hw) (fun _ _ q=>q.unwish) fun _ _ z=>O4 z
end
section
variable {X:Cx}{st:As}{rest:List As}{t u:TS}{e:Av}{te:TE}{pos:Pos}
def tNext:TS:=fun D σ H=>D.nx σ H
def tSeq (t u:TS):TS:=fun D σ H=>t { D with nx:=u D } σ H
theorem Ni:PSs X [] tNext:=fun _ _ σ H _ I h=>A2 ⟨σ,H,I,h⟩
theorem MS (h1:PS X st t)(h2:PSs X rest u):PSs X (st::rest) (tSeq t u):=by
 intro B4 s σ H D I h
 refine wpAny_execs_cons (thn (h1 B4 s σ H { D with nx:=u D } I h) fun f s1 q=>?_)
 cases f with
 | next =>
  obtain⟨σ',H',I',q⟩:=q
  exact h2 B4 s1 σ' H' D I' q
 | ret v=>exact q
 | brk=>exact q
 | cont=>exact q
theorem MU (h1:PS X st t):PSs X [st] t:=by
 intro B4 s σ H D I h
 refine wpAny_execs_cons (thn (h1 B4 s σ H D I h) fun f s1 q=>?_)
 cases f with
 | next=>exact A2 q
 | ret v=>exact q
 | brk=>exact q
 | cont=>exact q
theorem Inv.quiet (I:Inv X B4 σ H s):interactive X.env=false:=by simp[interactive,I.ok.kind]
def tDrop (te:TE):TS:=fun D σ H=>te σ H fun _ H1=>D.nx σ H1
theorem N9 (he:PE X e te)(hs:Bm e none pos.line X.env=pure false:=by rfl):PS X (.Expr e pos) (tDrop te):=by
 intro B4 s σ H D I h
 exact wpAny_Expr_any (thn (he B4 s σ H _ I h) fun v s1 ⟨x,H1,I1,r1,q1⟩=>⟨σ,H1,I1,q1⟩) I.quiet hs
def tRet (te:TE):TS:=fun D σ H=>te σ H D.rt
theorem M8 (he:PE X e te):PS X (.Return (some e) pos) (tRet te):=by
 intro B4 s σ H D I h
 exact wpAny_Return_some (thn (he B4 s σ H _ I h) fun v s1 ⟨x,H1,I1,r1,q1⟩=>⟨x,σ,H1,I1,r1,q1⟩)
def tIfS (c:TT)(t u:TS):TS:=fun D σ H=>c σ H fun b H1=>if b=true then t D σ H1 else u D σ H1
theorem Nc (hc:PT X c tc) (ha:PSs X a t) (hb:PSs X b u):PS X (.If c a b pos) (tIfS tc t u):=by
 intro B4 s σ H D I h
 refine wpAny_If (thn (hc B4 s σ H _ I h) fun d s1 ⟨H1,I1,q1⟩=>?_)
 cases d with
 | true=>exact ha B4 s1 σ H1 D I1 q1
 | false=>exact hb B4 s1 σ H1 D I1 q1
def tNever:TS:=fun _ _ _=>False
theorem Rj:PS X st tNever:=fun _ _ _ _ _ _ h=>h.elim
end
abbrev TG:=V->St->Hp->(St->Hp->Prop)->Prop
abbrev TGs:=List V->St->Hp->(St->Hp->Prop)->Prop
noncomputable def PG (X:Cx)(target:Av)(t:TG):Prop :=
 ∀(B4:List (Ab×Obj)) (s:Ad) (σ:St) (H:Hp) (v:V) (u:Ac) (Q:St->Hp->Prop),Inv X B4 σ H s->RelV v u->t v σ H Q ->
  wpAny (Ai X.prog X.w) X.A (assign target X.env u) (fun _ s'=>∃ σ' H',Inv X B4 σ' H' s'/\Q σ' H') X.xe s
noncomputable def PGs (X:Cx)(ts:List Av)(t:TGs):Prop :=
 ∀(B4:List (Ab×Obj)) (s:Ad) (σ:St) (H:Hp) (vs:List V) (us:List Ac) (Q:St->Hp->Prop),Inv X B4 σ H s->Vals vs us->t vs σ H Q ->
  wpAny (Ai X.prog X.w) X.A (assignInOrder ((A3 ts X.env).map (·.2)) us) (fun _ s'=>∃ σ' H',Inv X B4 σ' H' s'/\Q σ' H') X.xe s
abbrev TSet:=V->V->V->Hp->(Hp->Prop)->Prop
noncomputable def PSet (X:Cx)(t:TSet):Prop :=
 ∀(B4:List (Ab×Obj)) (s:Ad) (σ:St) (H:Hp) (o i v:V) (ov iv u:Ac) (Q:Hp->Prop),Inv X B4 σ H s->RelV o ov->RelV i iv->RelV v u->t o i v H Q ->
  wpAny (Ai X.prog X.w) X.A (setItem ov iv u) (fun _ s'=>∃ H',Inv X B4 σ H' s'/\Q H') X.xe s
section
variable {X:Cx}{pos:Pos}
def PF (i:Nat):TG:=fun v σ H Q=>Q (σ.set i (some v)) H
theorem N_ (hN:X.N.Nodup) (hi:X.N[i]?=some x) (hx:Loc X.env.scope x) (hf:X.fn x=true∨X.env.scope.names.lookup x=some .local:=by first | exact .inl rfl | exact .inr rfl | assumption):PG X (.Name x pos) (PF i):=by
 intro B4 s σ H v u Q I r h
 exact wpAny_assign_Name (RC I hN hi hx r (fun s' I'=>⟨_,H,I',h⟩) hf)
def gNil:TGs:=fun vs σ H Q=>vs=[]/\Q σ H
def gCons (t:TG)(u:TGs):TGs:=fun vs σ H Q=>∃ v r,vs=v::r/\t v σ H fun σ' H'=>u r σ' H' Q
theorem OL:PGs X [] gNil:=by
 intro B4 s σ H vs us Q I r h
 obtain⟨e,h⟩:=h
 subst e
 cases r
 exact assignInOrder_nil ⟨σ,H,I,h⟩
theorem Nx (h1:PG X e t) (h2:PGs X es u) (hs:(A3 (e::es) X.env).map (·.2)=assign e X.env::(A3 es X.env).map (·.2):=by rfl):PGs X (e::es) (gCons t u):=by
 intro B4 s σ H vs us Q I r h
 obtain⟨v,vr,e1,h⟩:=h
 subst e1
 cases r with
 | cons r rr =>
  rw[hs]
  refine assignInOrder_cons (thn (h1 B4 s σ H _ _ _ I r h) fun _ s1 ⟨σ1,H1,I1,q1⟩=>?_)
  exact h2 B4 s1 σ1 H1 _ _ Q I1 rr q1
noncomputable def PrX (a:Ab)(xs:List V):HO:=.ext fun h=>xs.length<=Ae/\∃ its:List Ac,Vals xs its/\IsTup h a its.toArray
def gTup (K:MV)(n:Nat)(t:TGs):TG:=fun v σ H Q=>∃ a xs,v=.ref a/\(SqT K H a xs∨H a=some (PrX a xs))/\xs.length=n/\t xs σ H Q
theorem O6 (hc:X.calm=true) (h:PGs X es t) (hn:(A3 es X.env).length=n:=by rfl) (Cn:(A3 es X.env).findIdx? (·.1)=none:=by rfl):PG X (.Tuple es k pos) (gTup X.K n t):=by
 intro B4 s σ H v u Q I r hw
 obtain⟨a,xs,e1,hq,hl,hw⟩:=hw
 subst e1
 cases r
 obtain⟨its,rv,ht,hz⟩:∃ its:List Ac,Vals xs its/\IsTup s.heap a its.toArray/\xs.length<=Ae:=hq.elim (fun q=>I.tuple q) fun q=>by
  obtain⟨⟨z,its,r,p⟩,_⟩:=(show ObjOk X.prog X.w H s.heap a (PrX a xs) from I.hok a _ q)
  exact⟨its,r,p,z⟩
 refine assign_Tuple_tuple (I.ok.hd hc) ht (by simp[hn,<- hl,rv.length]) Cn fun h' hx=>?_
 have I1:Inv X B4 σ H { s with heap:=h' }:=I.kept (t':=s.toks) fun b o e=>hx b o (NB (Nm e)) e
 exact h B4 _ σ H xs _ Q I1 (by simpa using rv) hw
def gSub (to ti:TE)(t:TSet):TG:=fun v σ H Q=>to σ H fun o H1=>ti σ H1 fun i H2=>t o i v H2 fun H3=>Q σ H3
theorem QD (ho:PE X o to) (hi:PE X i ti) (hs:PSet X t) (ha:∀ v,assign (.Subscript o i pos) X.env v=(do
   let ov <- Bd [v] (Aq o X.env)
   let iv <- Bd [v,ov] (Aq i X.env)
   Bk pos
   Bd [v,ov,iv] (setItem ov iv v)
   release [v,ov,iv] []):=by intro _;rfl):PG X (.Subscript o i pos) (gSub to ti t):=by
 intro B4 s σ H v u Q I r h
 rw[ha]
 refine Aa (AM (thn (ho B4 s σ H _ I h) fun ov s1 hI9=>?_))
 obtain⟨x,H1,I1,r1,q1⟩:=hI9
 refine Aa (AM (thn (hi B4 s1 σ H1 _ I1 q1) fun iv s2 hI9=>?_))
 obtain⟨y,H2,I2,r2,q2⟩:=hI9
 refine Aa (AU (Aa (AM (thn (hs B4 s2 σ H2 x y v ov iv u _ I2 r1 r2 r q2) fun _ s3 ⟨H3,I3,q3⟩=>?_))))
 exact wpAny_release ⟨σ,H3,I3,q3⟩
def tAsg (te:TE)(g:TG):TS:=fun D σ H=>te σ H fun x H1=>g x σ H1 D.nx
theorem Rk (he:PE X e te) (hg:PG X tg g) (hs:swapsWithSole [tg] e pos.line X.env=pure false:=by rfl) (hw:swappedStores [tg] e X.env=pure none:=by rfl) (h1:(A3 [tg] X.env).map (·.2)=[assign tg X.env]:=by rfl):PS X (.Assign [tg] e pos) (tAsg te g):=by
 intro B4 s σ H D I h
 refine wpAny_Assign_stores (thn (he B4 s σ H _ I h) fun v s1 hI9=>?_) hs hw
 obtain⟨x,H1,I1,r1,q1⟩:=hI9
 rw[h1]
 exact thn (hg B4 s1 σ H1 x v _ I1 r1 q1) fun _ s2 q=>q
theorem SL (hN:X.N.Nodup) (hi:X.N[i]?=some x) (hx:Loc X.env.scope x) (he:PE X e te) (hs:Bm e (some (.Name x pos')) pos.line X.env=pure false:=by rfl) (hf:X.fn x=true∨X.env.scope.names.lookup x=some .local:=by first | exact .inl rfl | exact .inr rfl | assumption):
  PS X (.Assign [.Name x pos'] e pos) (tAsg te (PF i)):=by
 intro B4 s σ H D I h
 refine wpAny_Assign_Name (thn (he B4 s σ H _ I h) fun v s1 hI9=>?_) hs
 obtain⟨y,H1,I1,r1,q1⟩:=hI9
 exact RC I1 hN hi hx r1 (fun s2 I2=>⟨_,H1,I2,q1⟩) hf
def VY (c:TT)(tb:TS):TS:=fun D σ H=>∃ W:Nat->St->Hp->Prop,(∃ m,W m σ H)/\∀ m σ H,W m σ H ->
 c σ H fun b H1=>if b=true then ∃ N:St->Hp->Prop,(∀ σ' H',N σ' H'->∃ m',m' < m/\W m' σ' H')/\tb { D with nx:=N,ct:=N,bk:=D.nx } σ H1 else D.nx σ H1
theorem RG (hp:PassesOwn (Ai X.prog X.w) X.A X.env X.xe) (hc:PT X c tc) (hb:PSs X body tb):PS X (.While c body [] pos) (VY tc tb):=by
 intro B4 s σ H D I h
 obtain⟨W,⟨m0,w0⟩,turn⟩:=h
 refine wpAny_While (codeAny_whileLoop (fun n s'=>∃ σ' H',Inv X B4 σ' H' s'/\W n σ' H') ?_ m0 ⟨σ,H,I,w0⟩)
 intro n s1 hI9
 obtain⟨σ1,H1,I1,w1⟩:=hI9
 refine AQ hp (thn (hc B4 s1 σ1 H1 _ I1 (turn n σ1 H1 w1)) fun b s2 ⟨H2,I2,q2⟩=>?_)
 cases b with
 | true =>
  obtain⟨N,hN,q2⟩:=q2
  rw[B3 rfl]
  refine AQ hp (thn (hb B4 s2 σ1 H2 _ I2 q2) fun f s3 q3=>?_)
  cases f with
  | next =>
   obtain⟨σ3,H3,I3,n3⟩:=q3
   obtain⟨m',hm,w3⟩:=hN σ3 H3 n3
   exact⟨m',hm,σ3,H3,I3,w3⟩
  | cont =>
   obtain⟨σ3,H3,I3,n3⟩:=q3
   obtain⟨m',hm,w3⟩:=hN σ3 H3 n3
   exact⟨m',hm,σ3,H3,I3,w3⟩
  | brk=>exact q3
  | ret v=>exact q3
 | false =>
  rw[B2 Nj]
  exact A2 ⟨σ1,H2,I2,q2⟩
end
structure It where
 go:Nat->Hp->Prop
 yld:Nat->Hp->V->Hp->Prop
 stop:Nat->Hp->Prop
noncomputable def FpOk (X:Cx)(B4:List (Ab×Obj))(H:Hp)(b:Ab):Prop :=
 H b=none/\b≠X.env.locals/\b∉X.fs/\(b∈X.ex∨X.s₀.heap.objs.size<=b)/\(∀ x c,X.env.cells.lookup x=some c->c≠b)/\∀ p∈X.pn++B4,p.1≠b
theorem Inv.fpOk (I:Inv X B4 σ H s) (hb:s.heap.objs.size<=b) (hn:H' b=none):FpOk X B4 H' b:=by
 refine⟨hn,Ta (N6 I.lt hb),I.nofs hb,.inr (NI I.sz hb),fun x c e z=>?_,fun p hp z=>?_⟩
 ·obtain⟨v,q⟩:=I.cell x c e
  exact absurd (N6 q.lt (by rw[z];exact hb)) (Qk _)
 ·exact absurd (N6 (Nm (I.pin p hp).1) (by rw[z];exact hb)) (Qk _)
structure Turn (P:Aj)(w:Ak)(K:MV)(tg:Av)(J:It)(fp:List Ab)(it:Ab)(tn:Nat->An->Prop):Prop where
 mem:it∈fp
 obj:∀ i h,tn i h->∀ b∈fp,∃ o,h.get? b=some o/\∀ v,o.data≠.cell v
 keep:∀ i h h',tn i h->(∀ b∈fp,∀ o,h.get? b=some o->h'.get? b=some o)->tn i h'
 item:∀(X:Cx),X.prog=P->X.w=w->X.K=K->X.calm=true->∀(i:Nat) (B4:List (Ab×Obj)) (s:Ad) (σ:St) (H:Hp) (E:Ac->Ad->Prop),Inv X B4 σ H s->(∀ b∈fp,FpOk X B4 H b)->tn i s.heap->J.go i H ->
  wpAny (Ai P w) X.A (pyNext (.ref it)) (fun r s1=>∃ u,r=some u /\
   wpAny (Ai P w) X.A (Bf tg (.ref it) u) (fun _ s2=>∃ x H',Inv X B4 σ H' s2/\RelV x u/\J.yld i H x H'/\tn (i+1) s2.heap/\∀ b∈fp,H' b=none) E s1) E s
 done:∀(X:Cx),X.prog=P->X.w=w->X.K=K->X.calm=true->∀(i:Nat) (B4:List (Ab×Obj)) (s:Ad) (σ:St) (H:Hp) (E:Ac->Ad->Prop),Inv X B4 σ H s->(∀ b∈fp,FpOk X B4 H b)->tn i s.heap->J.stop i H ->
  wpAny (Ai P w) X.A (pyNext (.ref it)) (fun r s1=>r=none/\Inv X B4 σ H s1) E s
 self:∀(A:Am) (i:Nat) (s:Ad) (Q:Ac->Ad->Prop) (E:Ac->Ad->Prop),tn i s.heap->Q (.ref it) s->wpAny (Ai P w) A (pyIter (.ref it)) Q E s
abbrev TI:=St->Hp->(It->Hp->Prop)->Prop
noncomputable def PIE (X:Cx)(B4:List (Ab×Obj))(σ:St)(tg:Av)(R:It->Hp->Prop)(itv:Ac)(s2:Ad):Prop :=
 ∃(it:Ab) (fp:List Ab) (tn:Nat->An->Prop) (J:It) (H':Hp),itv=.ref it/\Inv X B4 σ H' s2/\Turn X.prog X.w X.K tg J fp it tn/\tn 0 s2.heap/\(∀ b∈fp,FpOk X B4 H' b)/\R J H'
noncomputable def PI (X:Cx)(tg iter:Av)(wi:TI):Prop :=
 ∀(B4:List (Ab×Obj)) (s:Ad) (σ:St) (H:Hp) (R:It->Hp->Prop),Inv X B4 σ H s->wi σ H R ->
  wpAny (Ai X.prog X.w) X.A (Aq iter X.env) (fun v s1=>wpAny (Ai X.prog X.w) X.A (pyIter v) (PIE X B4 σ tg R) X.xe s1) X.xe s
theorem RH (ho:s.heap.get? it=some o) (hc:o.cls=.type n) (hd:o.data=.fields vs) (hn:["enumerate","zip","dict_itemiterator","dict_reverseitemiterator","odict_iterator","itertools.zip_longest","itertools.pairwise"].contains n=false) (hQ:Q () s):wpAny M A (Bf tg (.ref it) u) Q E s:=by
 unfold Bf
 cases tg <;> first
  | exact Af hQ
  | (cases u <;> first
    | exact Af hQ
    | (refine Aa (wpAny_load ho ?_)
       rw[hc,hd]
       show wpAny M A (if (["enumerate","zip","dict_itemiterator","dict_reverseitemiterator","odict_iterator","itertools.zip_longest","itertools.pairwise"].contains n&&vs[0]? == some (AL _))=true then _ else _) Q E s
       rw[B2 (by intro h;rw[hn,Ra] at h;cases h)]
       exact Af hQ))
noncomputable def Itl (K:MV)(a:Ab):It :=
 ⟨fun i H=>∃ xs x,SqL K H a xs/\xs[i]?=some x,fun i H x H'=>H'=H/\∀ xs,SqL K H a xs->xs[i]?=some x,fun i H=>∃ xs,SqL K H a xs/\xs.length<=i⟩
noncomputable def Itt (K:MV)(a:Ab):It :=
 ⟨fun i H=>∃ xs x,SqT K H a xs/\xs[i]?=some x,fun i H x H'=>H'=H/\∀ xs,SqT K H a xs->xs[i]?=some x,fun i H=>∃ xs,SqT K H a xs/\xs.length<=i⟩
noncomputable def Itr (lo:Int)(n:Nat):It:=⟨fun i _=>i < n,fun i H x H'=>H'=H/\x=.int (lo+i),fun i _=>n<=i⟩
theorem bY {P:Aj}{w:Ak}{K:MV}{tg:Av}(a it:Ab):Turn P w K tg (Itl K a) [it] it (fun i h=>h.IsListIter it a i) where
 mem:=by simp
 obj:=fun i h st b hb=>by
  have e:b=it:=by simpa using hb
  subst e
  obtain⟨o,e,c,d⟩:=st
  exact⟨o,e,fun v z=>by rw[d] at z;cases z⟩
 keep:=fun i h h' st k=>st.at fun o e=>k it (by simp) o e
 item:=by
  intro X hP hw hK hc i B4 s σ H E I hf st hg
  subst hP hw hK
  obtain⟨xs,x,hq,hx⟩:=hg
  obtain⟨its,rv,p,hz⟩:=I.list hq
  obtain⟨u,hu,ru⟩:=rv.get hx
  obtain⟨f0,f1,f2,f3,f4,f5⟩:=hf it (by simp)
  refine wpAny_pyNext_list_item st p.isList (x:=u) (by simpa using hu) fun h' st' sb=>?_
  have I1:Inv X B4 σ H { s with heap:=h' }:=I.turned (t':=s.toks) (fun b o hb e=>(sb.2 b hb).trans e) f0 f1 f3 f4 f5
  obtain⟨o,e,c,d⟩:=id st'
  exact⟨u,rfl,RH (s:={ s with heap:=h' }) e c d (by decide) ⟨x,H,I1,ru,⟨rfl,fun ys hy=>by rw[I.list_inj hy hq];exact hx⟩,st',fun b hb=>(hf b hb).1⟩⟩
 done:=by
  intro X hP hw hK hc i B4 s σ H E I hf st hg
  subst hP hw hK
  obtain⟨xs,hq,hx⟩:=hg
  obtain⟨its,rv,p,hz⟩:=I.list hq
  obtain⟨f0,f1,f2,f3,f4,f5⟩:=hf it (by simp)
  have hl:=rv.length
  exact wpAny_pyNext_list_end (I.ok.hd hc) st p.isList (by simp;omega) fun h' eb=>⟨rfl,I.turned (t':=s.toks) (fun b o hb e=>eb b o hb e) f0 f1 f3 f4 f5⟩
 self:=fun _ _ _ _ _ st h=>wpAny_pyIter_listiter st h
theorem bZ {P:Aj}{w:Ak}{K:MV}{tg:Av}(a it:Ab):Turn P w K tg (Itt K a) [it] it (fun i h=>h.IsTupleIter it a i) where
 mem:=by simp
 obj:=fun i h st b hb=>by
  have e:b=it:=by simpa using hb
  subst e
  obtain⟨o,e,c,d⟩:=st
  exact⟨o,e,fun v z=>by rw[d] at z;cases z⟩
 keep:=fun i h h' st k=>st.at fun o e=>k it (by simp) o e
 item:=by
  intro X hP hw hK hc i B4 s σ H E I hf st hg
  subst hP hw hK
  obtain⟨xs,x,hq,hx⟩:=hg
  obtain⟨its,rv,p,hz⟩:=I.tuple hq
  obtain⟨u,hu,ru⟩:=rv.get hx
  obtain⟨f0,f1,f2,f3,f4,f5⟩:=hf it (by simp)
  refine wpAny_pyNext_tuple_item st (show s.heap.IsTuple a its.toArray from p) (x:=u) (by simpa using hu) fun h' st' sb=>?_
  have I1:Inv X B4 σ H { s with heap:=h' }:=I.turned (t':=s.toks) (fun b o hb e=>(sb.2 b hb).trans e) f0 f1 f3 f4 f5
  obtain⟨o,e,c,d⟩:=id st'
  exact⟨u,rfl,RH (s:={ s with heap:=h' }) e c d (by decide) ⟨x,H,I1,ru,⟨rfl,fun ys hy=>by rw[I.tuple_inj hy hq];exact hx⟩,st',fun b hb=>(hf b hb).1⟩⟩
 done:=by
  intro X hP hw hK hc i B4 s σ H E I hf st hg
  subst hP hw hK
  obtain⟨xs,hq,hx⟩:=hg
  obtain⟨its,rv,p,hz⟩:=I.tuple hq
  obtain⟨f0,f1,f2,f3,f4,f5⟩:=hf it (by simp)
  have hl:=rv.length
  exact wpAny_pyNext_tuple_end (I.ok.hd hc) st (show s.heap.IsTuple a its.toArray from p) (by simp;omega) fun h' eb=>⟨rfl,I.turned (t':=s.toks) (fun b o hb e=>eb b o hb e) f0 f1 f3 f4 f5⟩
 self:=fun _ _ _ _ _ st h=>wpAny_pyIter_tupleiter st h
theorem b6 {P:Aj}{w:Ak}{K:MV}{tg:Av}(it:Ab)(lo:Int)(n:Nat):Turn P w K tg (Itr lo n) [it] it (fun i h=>IsRangeIter h it (lo+(i:Nat) * 1) ((n:Int) - (i:Nat)) 1) where
 mem:=by simp
 obj:=fun i h st b hb=>by
  have e:b=it:=by simpa using hb
  subst e
  exact⟨_,st,fun v z=>by
   have z':Data.fields _=Data.cell v:=z
   cases z'⟩
 keep:=fun i h h' st k=>k it (by simp) _ st
 item:=by
  intro X hP hw hK hc i B4 s σ H E I hf st hg
  subst hP hw hK
  obtain⟨f0,f1,f2,f3,f4,f5⟩:=hf it (by simp)
  have W:=Walks.range (prog:=X.prog) (w:=X.w) (I.ok.hd hc) it lo 1 n
  refine W.item i s _ _ hg st fun v h' tk hv st' kk=>?_
  obtain⟨t,rfl⟩:=hv
  have I1:Inv X B4 σ H { s with heap:=h',toks:=tk }:=I.turned (fun b o hb e=>kk b o (by simpa using hb) e) f0 f1 f3 f4 f5
  refine⟨_,rfl,RH (s:={ s with heap:=h',toks:=tk }) (n:="range_iterator") st' rfl rfl (by decide) ⟨.int (lo+i),H,I1,⟨t,?_⟩,⟨rfl,rfl⟩,st',fun b hb=>(hf b hb).1⟩⟩
  rw[Int.mul_one]
 done:=by
  intro X hP hw hK hc i B4 s σ H E I hf st hg
  subst hP hw hK
  obtain⟨f0,f1,f2,f3,f4,f5⟩:=hf it (by simp)
  exact wpAny_pyNext_range_end (I.ok.hd hc) st (by have:n<=i:=hg;omega) fun h' eb=>⟨rfl,I.turned (t':=s.toks) (fun b o hb e=>eb b o hb e) f0 f1 f3 f4 f5⟩
 self:=fun _ _ _ _ _ st h=>wpAny_pyIter_rangeiter st h
section
variable {X:Cx}{tg:Av}
theorem VZ {lo hi:Int} {tk:Nat} (I:Inv X B4 σ H s) (h1:-(2 ^ 62)<=lo) (h2:lo < 2 ^ 62) (h3:-(2 ^ 62)<=hi) (h4:hi < 2 ^ 62) (q:R (Itr lo (hi - lo).toNat) H):wpAny (Ai X.prog X.w) X.A (pyIter (.ref s.heap.objs.size)) (PIE X B4 σ tg R) E { s with heap:=s.heap.push { cls:=.type "range",data:=.fields #[.int lo t,.int hi u,.int 1 v] },toks:=tk }:=by
 refine wpAny_pyIter_range (IsRange.new ..) (small_one h1 h2 h3 h4) ?_
 have I1:Inv X B4 σ H { s with heap:=s.heap.push { cls:=.type "range",data:=.fields #[.int lo t,.int hi u,.int 1 v] },toks:=tk }:=I.kept fun b o e=>Ng _ e
 refine⟨(s.heap.push { cls:=.type "range",data:=.fields #[.int lo t,.int hi u,.int 1 v] }).objs.size,[(s.heap.push { cls:=.type "range",data:=.fields #[.int lo t,.int hi u,.int 1 v] }).objs.size],_,_,H,rfl,
  I1.kept (t':=tk) fun b o e=>Ng _ e,b6 _ lo (hi - lo).toNat,?_,fun b hb=>?_,q⟩
 ·have e1:lo+((0:Nat):Int) * 1=lo:=by simp
  have e2:(((hi - lo).toNat:Nat):Int) - ((0:Nat):Int)=Builtin.Range.rangeSize lo hi 1:=by rw[rangeSize_one];split <;> omega
  show IsRangeIter _ _ (lo+((0:Nat):Int) * 1) ((((hi - lo).toNat:Nat):Int) - ((0:Nat):Int)) 1
  rw[e1,e2]
  exact NE _ rfl
 ·have e:b=(s.heap.push { cls:=.type "range",data:=.fields #[.int lo t,.int hi u,.int 1 v] }).objs.size:=by simpa using hb
  subst e
  exact I1.fpOk (M6 _) (I1.hok.fresh (M6 _))
def iRng1 (ta:TA):TI:=fun σ H R=>ta σ H fun vs H1=>∃ j:Int,vs=[.int j]/\-(2 ^ 62)<=j/\j < 2 ^ 62/\R (Itr 0 j.toNat) H1
def iRng2 (ta:TA):TI:=fun σ H R=>ta σ H fun vs H1=>∃ i j:Int,vs=[.int i,.int j]/\(-(2 ^ 62)<=i/\i < 2 ^ 62/\-(2 ^ 62)<=j/\j < 2 ^ 62)/\R (Itr i (j - i).toNat) H1
theorem QE (hg:Gl X "range") (hm:X.mg "range"=none) (ha:PA X [a] ta) (hs:Ag [a] X.env=[(false,Aq a X.env)]:=by rfl):PI X tg (.Call (.Name "range" p) [a] [] pos) (iRng1 ta):=by
 intro B4 s σ H R I h
 refine Call_ (Ri I hg hm boot_range (Vh (thn (ha pos B4 s σ H _ I h) fun us s1 hI9=>?_) hs rfl))
 obtain⟨vs,H1,I1,r1,q1⟩:=hI9
 obtain⟨j,e,q1,q2,q⟩:=q1
 subst e
 cases r1 with
 | cons r rr =>
  cases rr
  obtain⟨t,rfl⟩:=r
  exact call_range_1 (VZ I1 (by omega) (by omega) q1 q2 (by simpa using q))
theorem Th (hg:Gl X "range") (hm:X.mg "range"=none) (ha:PA X [a,b] ta) (hs:Ag [a,b] X.env=[(false,Aq a X.env),(false,Aq b X.env)]:=by rfl) (D6:Ag [b] X.env=[(false,Aq b X.env)]:=by rfl):
  PI X tg (.Call (.Name "range" p) [a,b] [] pos) (iRng2 ta):=by
 intro B4 s σ H R I h
 refine Call_ (Ri I hg hm boot_range (Vh (thn (ha pos B4 s σ H _ I h) fun us s1 hI9=>?_) (by rw[hs,D6]) (by rw[D6];rfl)))
 obtain⟨vs,H1,I1,r1,q1⟩:=hI9
 obtain⟨i,j,e,⟨q1,q2,q3,q4⟩,q⟩:=q1
 subst e
 cases r1 with
 | cons r rr =>
  cases rr with
  | cons r' rr =>
   cases rr
   obtain⟨t,rfl⟩:=r
   obtain⟨t',rfl⟩:=r'
   exact call_range_2 (VZ I1 q1 q2 q3 q4 q)
def tFor (wi:TI)(g:TG)(tb:TS):TS:=fun D σ H=>wi σ H fun J H1=>∃ W:Nat->Nat->St->Hp->Prop,(∃ m,W 0 m σ H1)/\∀ i m σ H,W i m σ H ->
 (J.stop i H/\D.nx σ H)∨(J.go i H/\∃ N:St->Hp->Prop,(∀ σ' H',N σ' H'->∃ m',m' < m/\W (i+1) m' σ' H')/\∀ x H',J.yld i H x H'->g x σ H' fun σ2 H2=>tb { D with nx:=N,ct:=N,bk:=D.nx } σ2 H2)
noncomputable def QF (fp:List Ab)(h:An):List (Ab×Obj):=fp.filterMap fun b=>(h.get? b).map fun o=>(b,o)
theorem al (hb:b∈fp) (e:h.get? b=some o):(b,o)∈QF fp h:=S5.mpr ⟨b,hb,by rw[e];rfl⟩
theorem b9 (hp:p∈QF fp h):p.1∈fp/\h.get? p.1=some p.2:=by
 obtain⟨b,hb,e⟩:=S5.mp hp
 cases q:h.get? b with
 | none=>rw[q] at e;cases e
 | some o =>
  rw[q] at e
  have e':(b,o)=p:=Option.some.inj e
  subst e'
  exact⟨hb,q⟩
theorem Inv.pinned (I:Inv X B4 σ H s) (hf:∀ b∈fp,FpOk X B4 H b) (ho:∀ b∈fp,∃ o,s.heap.get? b=some o/\∀ v,o.data≠.cell v):Inv X (B4++QF fp s.heap) σ H s :=
 I.pins_of fun p hp=>(NP.mp hp).elim (fun z=>I.pin p (Qt _ z)) fun z=>by
  obtain⟨hb,e⟩:=b9 z
  obtain⟨f0,f1,f2,_⟩:=hf p.1 hb
  obtain⟨o,e',d⟩:=ho p.1 hb
  rw[e] at e';cases e'
  exact⟨e,f0,f1,f2,d⟩
theorem Inv.unpinned (I:Inv X (B4++pl) σ H s):Inv X B4 σ H s:=I.pins_of fun p hp=>I.pin p (Qt _ (Vw _ hp))
theorem Ou (hp:PassesOwn (Ai X.prog X.w) X.A X.env X.xe) (hc:X.calm=true) (hi:PI X tg iter wi) (hg:PG X tg g) (hb:PSs X body tb) (hs:∀ x,A7 iter X.env x=pure x:=by intro _;rfl):PS X (.For tg iter body [] pos) (tFor wi g tb):=by
 intro B4 s σ H D I h
 refine wpAny_For (thn (hi B4 s σ H _ I h) fun v s1 h1=>thn h1 fun itv s2 h2=>?_) hs
 obtain⟨it,fp,tn,J,H2,e,I2,T,st2,f2,W,⟨m0,w0⟩,turn⟩:=h2
 subst e
 -- what stays true of the iterator's objects through the loop
 have stat:∀{H':Hp},(∀ b∈fp,H' b=none)->∀ b∈fp,FpOk X B4 H' b:=fun hn b hb=>⟨hn b hb,(f2 b hb).2⟩
 refine codeAny_forLoop_any (fun n s'=>∃ i σ' H',Inv X B4 σ' H' s'/\tn i s'.heap/\(∀ b∈fp,H' b=none)/\W i n σ' H') ?_ m0 ⟨0,σ,H2,I2,st2,fun b hb=>(f2 b hb).1,w0⟩
 intro n s3 hI9
 obtain⟨i,σ3,H3,I3,st3,fr3,w3⟩:=hI9
 rcases turn i n σ3 H3 w3 with ⟨stop,qn⟩ | ⟨go,N,hN,step⟩
 ·refine AQ hp (thn (T.done X rfl rfl rfl hc i B4 s3 σ3 H3 X.xe I3 (stat fr3) st3 stop) fun r s4 ⟨hr,I4⟩=>?_)
  subst hr
  exact A2 ⟨σ3,H3,I4,qn⟩
 ·refine AQ hp (thn (T.item X rfl rfl rfl hc i B4 s3 σ3 H3 X.xe I3 (stat fr3) st3 go) fun r s4 ⟨u,hr,h4⟩=>?_)
  subst hr
  refine AQ hp (thn h4 fun _ s5 hI9=>?_)
  obtain⟨x,H5,I5,r5,y5,st5,fr5⟩:=hI9
  have I5':=I5.pinned (stat fr5) (T.obj _ _ st5)
  refine AQ hp (thn (hg _ s5 σ3 H5 x u _ I5' r5 (step x H5 y5)) fun _ s6 ⟨σ6,H6,I6,q6⟩=>?_)
  refine AQ hp (thn (hb _ s6 σ6 H6 _ I6 q6) fun f s7 q7=>?_)
  have again:∀{σ7:St}{H7:Hp},Inv X (B4++QF fp s5.heap) σ7 H7 s7->N σ7 H7->∃ m,m < n/\∃ i σ' H',Inv X B4 σ' H' s7/\tn i s7.heap/\(∀ b∈fp,H' b=none)/\W i m σ' H':=fun{σ7 H7} I7 n7=>by
   obtain⟨m',hm,w7⟩:=hN σ7 H7 n7
   refine⟨m',hm,i+1,σ7,H7,I7.unpinned,T.keep _ _ _ st5 fun b hb o e=>(I7.pin (b,o) (Qt _ (Qt _ (al hb e)))).1,fun b hb=>?_,w7⟩
   obtain⟨o,e,d⟩:=T.obj _ _ st5 b hb
   exact(I7.pin (b,o) (Qt _ (Qt _ (al hb e)))).2.1
  cases f with
  | next=>obtain⟨σ7,H7,I7,n7⟩:=q7;exact again I7 n7
  | cont=>obtain⟨σ7,H7,I7,n7⟩:=q7;exact again I7 n7
  | brk=>obtain⟨σ7,H7,I7,q7⟩:=q7;exact⟨σ7,H7,I7.unpinned,q7⟩
  | ret v=>obtain⟨x7,σ7,H7,I7,r7,q7⟩:=q7;exact⟨x7,σ7,H7,I7.unpinned,r7,q7⟩
end
theorem Vj {K:MV}{a:Ab}{xs:List V}{g:TG}{tb:TS}{D:Ends}{σ:St}{H:Hp}(Pv:Nat->St->Hp->Prop)(h0:Pv 0 σ H)(hl:∀ i σ H,i<=xs.length->Pv i σ H->SqL K H a xs)
  (hs:∀ i x σ H,xs[i]?=some x->Pv i σ H->g x σ H fun σ2 H2=>tb { D with nx:=Pv (i+1),ct:=Pv (i+1),bk:=D.nx } σ2 H2) (hd:∀ σ H,Pv xs.length σ H->D.nx σ H) :
  ∃ W:Nat->Nat->St->Hp->Prop,(∃ m,W 0 m σ H)/\∀ i m σ H,W i m σ H ->
   ((Itl K a).stop i H/\D.nx σ H)∨((Itl K a).go i H/\∃ N:St->Hp->Prop,(∀ σ' H',N σ' H'->∃ m',m' < m/\W (i+1) m' σ' H')/\∀ x H',(Itl K a).yld i H x H'->g x σ H' fun σ2 H2=>tb { D with nx:=N,ct:=N,bk:=D.nx } σ2 H2):=by
 refine⟨fun i m σ H=>m=xs.length - i/\i<=xs.length/\Pv i σ H,⟨xs.length,by simp,NA _,h0⟩,?_⟩
 intro i m σ H hI9
 obtain⟨rfl,hi,p⟩:=hI9
 have q:=hl i σ H hi p
 by_cases Cz:i < xs.length
 ·refine .inr ⟨⟨xs,xs[i],q,by simp[Cz]⟩,Pv (i+1),fun σ' H' p'=>⟨xs.length - (i+1),by omega,rfl,Cz,p'⟩,fun x H' y=>?_⟩
  obtain⟨e,y⟩:=y
  subst e
  exact hs i x σ _ (y xs q) p
 ·have e:i=xs.length:=by omega
  subst e
  exact .inl ⟨⟨xs,q,M6 _⟩,hd σ H p⟩
theorem b_ {K:MV}{a:Ab}{xs:List V}{g:TG}{tb:TS}{D:Ends}{σ:St}{H:Hp}(Pv:Nat->St->Hp->Prop)(h0:Pv 0 σ H)(hl:∀ i σ H,i<=xs.length->Pv i σ H->SqT K H a xs)
  (hs:∀ i x σ H,xs[i]?=some x->Pv i σ H->g x σ H fun σ2 H2=>tb { D with nx:=Pv (i+1),ct:=Pv (i+1),bk:=D.nx } σ2 H2) (hd:∀ σ H,Pv xs.length σ H->D.nx σ H) :
  ∃ W:Nat->Nat->St->Hp->Prop,(∃ m,W 0 m σ H)/\∀ i m σ H,W i m σ H ->
   ((Itt K a).stop i H/\D.nx σ H)∨((Itt K a).go i H/\∃ N:St->Hp->Prop,(∀ σ' H',N σ' H'->∃ m',m' < m/\W (i+1) m' σ' H')/\∀ x H',(Itt K a).yld i H x H'->g x σ H' fun σ2 H2=>tb { D with nx:=N,ct:=N,bk:=D.nx } σ2 H2):=by
 refine⟨fun i m σ H=>m=xs.length - i/\i<=xs.length/\Pv i σ H,⟨xs.length,by simp,NA _,h0⟩,?_⟩
 intro i m σ H hI9
 obtain⟨rfl,hi,p⟩:=hI9
 have q:=hl i σ H hi p
 by_cases Cz:i < xs.length
 ·refine .inr ⟨⟨xs,xs[i],q,by simp[Cz]⟩,Pv (i+1),fun σ' H' p'=>⟨xs.length - (i+1),by omega,rfl,Cz,p'⟩,fun x H' y=>?_⟩
  obtain⟨e,y⟩:=y
  subst e
  exact hs i x σ _ (y xs q) p
 ·have e:i=xs.length:=by omega
  subst e
  exact .inl ⟨⟨xs,q,M6 _⟩,hd σ H p⟩
theorem Vk {lo:Int}{n:Nat}{g:TG}{tb:TS}{D:Ends}{σ:St}{H:Hp}(Pv:Nat->St->Hp->Prop)(h0:Pv 0 σ H)
  (hs:∀ i σ H,i < n->Pv i σ H->g (.int (lo+i)) σ H fun σ2 H2=>tb { D with nx:=Pv (i+1),ct:=Pv (i+1),bk:=D.nx } σ2 H2) (hd:∀ σ H,Pv n σ H->D.nx σ H) :
  ∃ W:Nat->Nat->St->Hp->Prop,(∃ m,W 0 m σ H)/\∀ i m σ H,W i m σ H ->
   ((Itr lo n).stop i H/\D.nx σ H)∨((Itr lo n).go i H/\∃ N:St->Hp->Prop,(∀ σ' H',N σ' H'->∃ m',m' < m/\W (i+1) m' σ' H')/\∀ x H',(Itr lo n).yld i H x H'->g x σ H' fun σ2 H2=>tb { D with nx:=N,ct:=N,bk:=D.nx } σ2 H2):=by
 refine⟨fun i m σ H=>m=n - i/\i<=n/\Pv i σ H,⟨n,by simp,NA _,h0⟩,?_⟩
 intro i m σ H hI9
 obtain⟨rfl,hi,p⟩:=hI9
 by_cases Cz:i < n
 ·refine .inr ⟨Cz,Pv (i+1),fun σ' H' p'=>⟨n - (i+1),by omega,rfl,Cz,p'⟩,fun x H' y=>?_⟩
  obtain⟨e,y⟩:=y
  subst e y
  exact hs i σ _ Cz p
 ·have e:i=n:=by omega
  subst e
  exact .inl ⟨M6 _,hd σ H p⟩
abbrev R2:=V->V->Hp->VK->Prop
noncomputable def OpR (X:Cx)(f:Ac->Ac->Sem Ac)(r:R2):Prop :=
 ∀(B4:List (Ab×Obj)) (s:Ad) (σ:St) (H:Hp) (x y:V) (v u:Ac) (Q:VK),Inv X B4 σ H s->RelV x v->RelV y u->r x y H Q ->
  wpAny (Ai X.prog X.w) X.A (f v u) (EP X B4 σ Q) X.xe s
noncomputable def UnR (X:Cx)(f:Ac->Sem Ac)(r:V->Hp->VK->Prop):Prop :=
 ∀(B4:List (Ab×Obj)) (s:Ad) (σ:St) (H:Hp) (x:V) (v:Ac) (Q:VK),Inv X B4 σ H s->RelV x v->r x H Q ->
  wpAny (Ai X.prog X.w) X.A (f v) (EP X B4 σ Q) X.xe s
noncomputable def CallR (X:Cx)(f:Ac)(r:List V->Hp->VK->Prop):Prop :=
 ∀(B4:List (Ab×Obj)) (s:Ad) (σ:St) (H:Hp) (xs:List V) (us:List Ac) (Q:VK),Inv X B4 σ H s->Vals xs us->r xs H Q ->
  wpAny (Ai X.prog X.w) X.A (call f us) (EP X B4 σ Q) X.xe s
noncomputable def TruR (X:Cx)(r:V->Hp->(Bool->Hp->Prop)->Prop):Prop :=
 ∀(B4:List (Ab×Obj)) (s:Ad) (σ:St) (H:Hp) (x:V) (v:Ac) (Q:Bool->Hp->Prop),Inv X B4 σ H s->RelV x v->r x H Q ->
  wpAny (Ai X.prog X.w) X.A (truthy v) (TP X B4 σ Q) X.xe s
def tOp (r:R2)(ta tb:TE):TE:=fun σ H Q=>ta σ H fun x H1=>tb σ H1 fun y H2=>r x y H2 Q
def tUn (r:V->Hp->VK->Prop)(ta:TE):TE:=fun σ H Q=>ta σ H fun x H1=>r x H1 Q
def rI (C:Int->Int->Prop)(g:Int->Int->V):R2:=fun x y H Q=>∃ i j,x=.int i/\y=.int j/\C i j/\Q (g i j) H
def rI0 (g:Int->Int->V):R2:=fun x y H Q=>∃ i j,x=.int i/\y=.int j/\Q (g i j) H
def rU (g:Int->V):V->Hp->VK->Prop:=fun x H Q=>∃ i,x=.int i/\Q (g i) H
section
variable {X:Cx}{a b c:Av}{ta tb tc:TE}{pos:Pos}
theorem binT (ha:PE X a ta)(hb:PE X b tb){B4:List (Ab×Obj)}{s:Ad}{σ:St}{H:Hp}{R:V->V->Hp->Prop}(I:Inv X B4 σ H s)
  (h:ta σ H fun x H1=>tb σ H1 fun y H2=>R x y H2) {Q:Ac->Ad->Prop}{f:Ac->Ac->Sem Ac}
  (hf:∀ v u s2 x y H2,Inv X B4 σ H2 s2->RelV x v->RelV y u->R x y H2->wpAny (Ai X.prog X.w) X.A (f v u) Q X.xe s2) :
  wpAny (Ai X.prog X.w) X.A (Aq a X.env) (fun v s₁=>wpAny (Ai X.prog X.w) X.A (Aq b X.env) (fun u s₂=>wpAny (Ai X.prog X.w) X.A (f v u) Q X.xe s₂) X.xe s₁) X.xe s:=by
 refine thn (ha B4 s σ H _ I h) fun v s1 hI9=>?_
 obtain⟨x,H1,I1,r1,q1⟩:=hI9
 refine thn (hb B4 s1 σ H1 _ I1 q1) fun u s2 hI9=>?_
 obtain⟨y,H2,I2,r2,q2⟩:=hI9
 exact hf v u s2 x y H2 I2 r1 r2 q2
theorem MY (ho:OpR X (AI op) r) (ha:PE X a ta) (hb:PE X b tb):PE X (.BinOp a op b pos) (tOp r ta tb):=by
 intro B4 s σ H Q I h
 exact wpAny_BinOp (binT ha hb I h fun v u s2 x y H2 I2 rx ry q=>ho B4 s2 σ H2 x y v u Q I2 rx ry q)
theorem Ov (ho:UnR X (unaryOp op) r) (ha:PE X a ta):PE X (.UnaryOp op a pos) (tUn r ta):=by
 intro B4 s σ H Q I h
 exact UnaryOp_ (thn (ha B4 s σ H _ I h) fun v s1 ⟨x,H1,I1,r1,q1⟩=>ho B4 s1 σ H1 x v Q I1 r1 q1)
theorem opI {f:Ac->Ac->Sem Ac}{C:Int->Int->Prop}{g:Int->Int->Int}
  (rule:∀(i j:Int) (t u:Tok) (s:Ad) (Q:Ac->Ad->Prop) (E:Ac->Ad->Prop),C i j->Q (.int (g i j) s.toks) { s with toks:=s.toks+1 }->wpAny (Ai X.prog X.w) X.A (f (.int i t) (.int j u)) Q E s) :
  OpR X f (rI C fun i j=>.int (g i j)):=by
 intro B4 s σ H x y v u Q I rx ry h
 obtain⟨i,j,rfl,rfl,hc,q⟩:=h
 obtain⟨t,rfl⟩:=rx
 obtain⟨t',rfl⟩:=ry
 exact rule i j t t' s _ _ hc ⟨.int (g i j),H,I.tok _,⟨_,rfl⟩,q⟩
theorem opI0 {f:Ac->Ac->Sem Ac}{g:Int->Int->Int}
  (rule:∀(i j:Int) (t u:Tok) (s:Ad) (Q:Ac->Ad->Prop) (E:Ac->Ad->Prop),Q (.int (g i j) s.toks) { s with toks:=s.toks+1 }->wpAny (Ai X.prog X.w) X.A (f (.int i t) (.int j u)) Q E s) :
  OpR X f (rI0 fun i j=>.int (g i j)):=by
 intro B4 s σ H x y v u Q I rx ry h
 obtain⟨i,j,rfl,rfl,q⟩:=h
 obtain⟨t,rfl⟩:=rx
 obtain⟨t',rfl⟩:=ry
 exact rule i j t t' s _ _ ⟨.int (g i j),H,I.tok _,⟨_,rfl⟩,q⟩
theorem opB0 {f:Ac->Ac->Sem Ac}{g:Int->Int->Bool}
  (rule:∀(i j:Int) (t u:Tok) (s:Ad) (Q:Ac->Ad->Prop) (E:Ac->Ad->Prop),Q (.bool (g i j)) s->wpAny (Ai X.prog X.w) X.A (f (.int i t) (.int j u)) Q E s) :
  OpR X f (rI0 fun i j=>.bl (g i j)):=by
 intro B4 s σ H x y v u Q I rx ry h
 obtain⟨i,j,rfl,rfl,q⟩:=h
 obtain⟨t,rfl⟩:=rx
 obtain⟨t',rfl⟩:=ry
 exact rule i j t t' s _ _ ⟨.bl (g i j),H,I,rfl,q⟩
def CDiv (i j:Int):Prop:=0 < j/\j < 1073741824
def CPow (i j:Int):Prop:=0<=j/\j<=1000000/\i.natAbs < 2 ^ 64
def CMul (i j:Int):Prop:=(-(2 ^ 64) < i/\i < 2 ^ 64)∨(-(2 ^ 64) < j/\j < 2 ^ 64)
theorem CMul.ok (h:CMul i j):IntMulOk i j:=by
 rcases h with ⟨h1,h2⟩ | ⟨h1,h2⟩
 ·exact .of_left (intBits_le_64 h1 h2)
 ·exact .of_right (intBits_le_64 h1 h2)
theorem op_add:OpR X (AI .Add) (rI0 fun i j=>.int (i+j)):=opI0 fun _ _ _ _ _ _ _ q=>add_int q
theorem op_sub:OpR X (AI .Sub) (rI0 fun i j=>.int (i - j)):=opI0 fun _ _ _ _ _ _ _ q=>sub_int q
theorem op_mul:OpR X (AI .Mult) (rI CMul fun i j=>.int (i * j)):=opI fun _ _ _ _ _ _ _ hc q=>mul_int q hc.ok
theorem op_fdiv:OpR X (AI .FloorDiv) (rI CDiv fun i j=>.int (i / j)):=opI fun i j _ _ _ _ _ hc q=>by
 have h1:(0:Int) < j:=hc.1
 have h2:j < 1073741824:=hc.2
 exact floordiv_int (by omega) (by rw[Int.fdiv_eq_ediv_of_nonneg i (by omega)];exact q) (.inl (PyProof.noPylong_small (by omega)))
theorem op_mod:OpR X (AI .Mod) (rI (fun _ j=>0 < j) fun i j=>.int (i % j)):=opI fun i j _ _ _ _ _ hc q=>by
 have h1:(0:Int) < j:=hc
 exact mod_int' (by omega) (by rw[Int.fmod_eq_emod_of_nonneg i (by omega)];exact q)
theorem op_pow:OpR X (AI .Pow) (rI CPow fun i j=>.int (i ^ j.toNat)):=opI fun _ _ _ _ _ _ _ hc q=>pow_int_small hc.1 hc.2.1 hc.2.2 q
theorem unI {f:Ac->Sem Ac}{g:Int->Int}
  (rule:∀(i:Int) (t:Tok) (s:Ad) (Q:Ac->Ad->Prop) (E:Ac->Ad->Prop),Q (.int (g i) s.toks) { s with toks:=s.toks+1 }->wpAny (Ai X.prog X.w) X.A (f (.int i t)) Q E s) :
  UnR X f (rU fun i=>.int (g i)):=by
 intro B4 s σ H x v Q I rx h
 obtain⟨i,rfl,q⟩:=h
 obtain⟨t,rfl⟩:=rx
 exact rule i t s _ _ ⟨.int (g i),H,I.tok _,⟨_,rfl⟩,q⟩
theorem un_neg:UnR X (unaryOp .USub) (rU fun i=>.int (-i)):=unI fun _ _ _ _ _ q=>neg_int q
end
noncomputable def scal:V->V->Bool
 | .non,.non=>true | .non,.int _=>true | .int _,.non=>true | .non,.bl _=>true | .bl _,.non=>true | .non,.str _=>true | .str _,.non=>true
 | .int _,.int _=>true | .bl _,.bl _=>true | .str _,.str _=>true | .byt _,.byt _=>true
 | .int _,.str _=>true | .str _,.int _=>true | .bl _,.str _=>true | .str _,.bl _=>true
 | _,_=>false
def rEq:R2:=fun x y H Q=>scal x y=true/\Q (.bl (decide (x=y))) H
def rNe:R2:=fun x y H Q=>scal x y=true/\Q (.bl (!decide (x=y))) H
theorem V0 :decide (V.int i=V.int j)=(i == j):=by
 rw[SI]
 simp
theorem V1 :decide (V.bl i=V.bl j)=(i == j):=by
 rw[SI]
 simp
theorem V2 :decide (V.str i=V.str j)=(i == j):=by
 rw[SI]
 simp
theorem V3 :decide (V.byt i=V.byt j)=(i.toList == j.toList):=by
 rw[SI]
 cases i
 cases j
 simp
section
variable {X:Cx}{a b c:Av}{ta tb tc:TE}{pos:Pos}
theorem NG (I:Inv X B4 σ H s) (q:Q (.bl k) H) (e:k=k'):EP X B4 σ Q (.bool k') s:=by
 subst e
 exact⟨.bl k,H,I,rfl,q⟩
theorem op_eq:OpR X (Ar .Eq) rEq:=by
 intro B4 s σ H x y v u Q I rx ry h
 obtain⟨hs,q⟩:=h
 cases x with
 | non =>
  cases rx
  cases y with
  | non=>cases ry;exact PySem.EqNone.eq_none_none (NG I q (by simp))
  | bl j=>cases ry;exact PySem.EqNone.eq_none_bool (NG I q (by simp))
  | int j=>obtain⟨t',rfl⟩:=ry;exact PySem.EqNone.eq_none_int (NG I q (by simp))
  | str j=>obtain⟨t',rfl⟩:=ry;exact PySem.EqNone.eq_none_str (NG I q (by simp))
  | _=>exact absurd (show false=true from hs) Nj
 | bl i =>
  cases rx
  cases y with
  | non=>cases ry;exact PySem.EqNone.eq_bool_none (NG I q (by simp))
  | bl j=>cases ry;exact eq_bool (NG I q V1)
  | str j=>obtain⟨t',rfl⟩:=ry;exact PySem.EqMixed.eq_bool_str (NG I q (by simp))
  | _=>exact absurd (show false=true from hs) Nj
 | int i =>
  obtain⟨t,rfl⟩:=rx
  cases y with
  | non=>cases ry;exact PySem.EqNone.eq_int_none (NG I q (by simp))
  | int j=>obtain⟨t',rfl⟩:=ry;exact eq_int (NG I q V0)
  | str j=>obtain⟨t',rfl⟩:=ry;exact PySem.EqMixed.eq_int_str (NG I q (by simp))
  | _=>exact absurd (show false=true from hs) Nj
 | str i =>
  obtain⟨t,rfl⟩:=rx
  cases y with
  | non=>cases ry;exact PySem.EqNone.eq_str_none (NG I q (by simp))
  | bl j=>cases ry;exact PySem.EqMixed.eq_str_bool (NG I q (by simp))
  | int j=>obtain⟨t',rfl⟩:=ry;exact PySem.EqMixed.eq_str_int (NG I q (by simp))
  | str j=>obtain⟨t',rfl⟩:=ry;exact eq_str (NG I q V2)
  | _=>exact absurd (show false=true from hs) Nj
 | byt i =>
  obtain⟨t,rfl⟩:=rx
  cases y with
  | byt j=>obtain⟨t',rfl⟩:=ry;exact PySem.W.eq_bytes (NG I q V3)
  | _=>exact absurd (show false=true from hs) Nj
 | _=>cases y <;> exact absurd (show false=true from hs) Nj
theorem op_ne:OpR X (Ar .NotEq) rNe:=by
 intro B4 s σ H x y v u Q I rx ry h
 obtain⟨hs,q⟩:=h
 cases x with
 | non =>
  cases rx
  cases y with
  | non=>cases ry;exact PySem.EqNone.ne_none_none (NG I q (by simp))
  | bl j=>cases ry;exact PySem.EqNone.ne_none_bool (NG I q (by simp))
  | int j=>obtain⟨t',rfl⟩:=ry;exact PySem.EqNone.ne_none_int (NG I q (by simp))
  | str j=>obtain⟨t',rfl⟩:=ry;exact PySem.EqNone.ne_none_str (NG I q (by simp))
  | _=>exact absurd (show false=true from hs) Nj
 | bl i =>
  cases rx
  cases y with
  | non=>cases ry;exact PySem.EqNone.ne_bool_none (NG I q (by simp))
  | bl j=>cases ry;exact ne_bool (NG I q (congrArg not V1))
  | str j=>obtain⟨t',rfl⟩:=ry;exact PySem.EqMixed.ne_bool_str (NG I q (by simp))
  | _=>exact absurd (show false=true from hs) Nj
 | int i =>
  obtain⟨t,rfl⟩:=rx
  cases y with
  | non=>cases ry;exact PySem.EqNone.ne_int_none (NG I q (by simp))
  | int j=>obtain⟨t',rfl⟩:=ry;exact ne_int (NG I q (congrArg not V0))
  | str j=>obtain⟨t',rfl⟩:=ry;exact PySem.EqMixed.ne_int_str (NG I q (by simp))
  | _=>exact absurd (show false=true from hs) Nj
 | str i =>
  obtain⟨t,rfl⟩:=rx
  cases y with
  | non=>cases ry;exact PySem.EqNone.ne_str_none (NG I q (by simp))
  | bl j=>cases ry;exact PySem.EqMixed.ne_str_bool (NG I q (by simp))
  | int j=>obtain⟨t',rfl⟩:=ry;exact PySem.EqMixed.ne_str_int (NG I q (by simp))
  | str j=>obtain⟨t',rfl⟩:=ry;exact ne_str (NG I q (congrArg not V2))
  | _=>exact absurd (show false=true from hs) Nj
 | byt i =>
  obtain⟨t,rfl⟩:=rx
  cases y with
  | byt j=>obtain⟨t',rfl⟩:=ry;exact PySem.W.ne_bytes (NG I q (congrArg not V3))
  | _=>exact absurd (show false=true from hs) Nj
 | _=>cases y <;> exact absurd (show false=true from hs) Nj
theorem op_lt:OpR X (Ar .Lt) (rI0 fun i j=>.bl (decide (i < j))):=opB0 fun _ _ _ _ _ _ _ q=>lt_int q
theorem op_le:OpR X (Ar .LtE) (rI0 fun i j=>.bl (decide (i<=j))):=opB0 fun _ _ _ _ _ _ _ q=>le_int q
theorem op_gt:OpR X (Ar .Gt) (rI0 fun i j=>.bl (decide (j < i))):=opB0 fun _ _ _ _ _ _ _ q=>gt_int q
theorem op_ge:OpR X (Ar .GtE) (rI0 fun i j=>.bl (decide (j<=i))):=opB0 fun _ _ _ _ _ _ _ q=>ge_int q
theorem cb:OpR X (Ar .In) (fun x y H Q=>∃ i j,x=.str i/\y=.str j/\Q (.bl (!(bJ j i 0 j.length 1).isEmpty)) H):=by
 intro B4 s σ H x y v u Q I rx ry h
 obtain⟨i,j,rfl,rfl,q⟩:=h
 obtain⟨t,rfl⟩:=rx
 obtain⟨t',rfl⟩:=ry
 exact in_str (NG I q rfl)
theorem op_isN:OpR X (Ar .Is) (fun x y H Q=>y=.non/\Q (.bl (decide (x=.non))) H):=by
 intro B4 s σ H x y v u Q I rx ry h
 obtain⟨rfl,q⟩:=h
 cases ry
 refine is_none_gen (NG I q ?_)
 cases x <;> first
  | (cases rx;rfl)
  | (obtain⟨t,rfl⟩:=rx;rfl)
theorem M9 (b:Av) (h:op≠.In:=by decide) (h2:op≠.NotIn:=by decide):Bc op b=false:=by
 have e1:(op == CmpOp.In)=false:=by cases op <;> first | rfl | exact absurd rfl h
 have e2:(op == CmpOp.NotIn)=false:=by cases op <;> first | rfl | exact absurd rfl h2
 cases b <;> simp[Bc,e1,e2]
theorem Oa (ho:OpR X (Ar op) r) (ha:PE X a ta) (hb:PE X b tb) (hm:Bc op b=false):PE X (.Compare a [op] [b] pos) (tOp r ta tb):=by
 intro B4 s σ H Q I h
 exact wpAny_Compare1 (binT ha hb I h fun v u s2 x y H2 I2 rx ry q=>ho B4 s2 σ H2 x y v u Q I2 rx ry q) hm
def Ti (t:TE):TT:=fun σ H Q=>t σ H fun x H'=>∃ k,x=.bl k/\Q k H'
theorem Nb (ho:OpR X (Ar op) r) (ha:PE X a ta) (hb:PE X b tb) (hm:Bc op b=false):PT X (.Compare a [op] [b] pos) (Ti (tOp r ta tb)):=by
 intro B4 s σ H Q I h
 refine BG (thn (ha B4 s σ H _ I h) fun v s1 ⟨x,H1,I1,r1,q1⟩=>thn (hb B4 s1 σ H1 _ I1 q1) fun u s2 ⟨y,H2,I2,r2,q2⟩ =>
  thn (ho B4 s2 σ H2 x y v u _ I2 r1 r2 q2) fun c s3 ⟨z,H3,I3,r3,k,e,q3⟩=>?_) hm
 subst e
 cases r3
 exact Az ⟨H3,I3,q3⟩
def Tj (r r':R2)(ta tb tc:TE):TE:=fun σ H Q=>ta σ H fun x H1=>tb σ H1 fun y H2=>r x y H2 fun z H3=>∃ k,z=.bl k /\
 (if k=true then tc σ H3 fun w' H4=>r' y w' H4 Q else Q (.bl false) H3)
theorem ce (ho:OpR X (Ar op) r) (ho':OpR X (Ar op') r') (ha:PE X a ta) (hb:PE X b tb) (hc:PE X c tc) (hm:lastMarks [op,op'] [b,c]=false:=by with_unfolding_all rfl):PE X (.Compare a [op,op'] [b,c] pos) (Tj r r' ta tb tc):=by
 intro B4 s σ H Q I h
 refine Compare_chain (thn (ha B4 s σ H _ I h) fun v s1 ⟨x,H1,I1,r1,q1⟩=>chain_link (thn (hb B4 s1 σ H1 _ I1 q1) fun u s2 ⟨y,H2,I2,r2,q2⟩ =>
  thn (ho B4 s2 σ H2 x y v u _ I2 r1 r2 q2) fun d s3 ⟨z,H3,I3,r3,k,e,q3⟩=>?_)) hm
 subst e
 cases r3
 refine Az ?_
 cases k with
 | false=>exact ite_ff ⟨.bl false,H3,I3,rfl,q3⟩
 | true=>exact ite_tt (chain_last (thn (hc B4 s3 σ H3 _ I3 q3) fun w' s4 ⟨z',H4,I4,r4,q4⟩=>ho' B4 s4 σ H4 y z' u w' Q I4 r2 r4 q4))
theorem RI (ho:OpR X (Ar op) r) (ho':OpR X (Ar op') r') (ha:PE X a ta) (hb:PE X b tb) (hc:PE X c tc) (hm:lastMarks [op,op'] [b,c]=false:=by with_unfolding_all rfl):PT X (.Compare a [op,op'] [b,c] pos) (Ti (Tj r r' ta tb tc)):=by
 intro B4 s σ H Q I h
 refine isTrue_chain (thn (ha B4 s σ H _ I h) fun v s1 ⟨x,H1,I1,r1,q1⟩=>test_link (thn (hb B4 s1 σ H1 _ I1 q1) fun u s2 ⟨y,H2,I2,r2,q2⟩ =>
  thn (ho B4 s2 σ H2 x y v u _ I2 r1 r2 q2) fun d s3 ⟨z,H3,I3,r3,k,e,q3⟩=>?_)) hm
 subst e
 cases r3
 refine Az ?_
 cases k with
 | false =>
  obtain⟨k',e',q'⟩:=q3
  cases e'
  exact ite_ff ⟨H3,I3,q'⟩
 | true =>
  refine ite_tt (test_last (thn (hc B4 s3 σ H3 _ I3 q3) fun w' s4 ⟨z',H4,I4,r4,q4⟩=>thn (ho' B4 s4 σ H4 y z' u w' _ I4 r2 r4 q4) fun d' s5 hI9=>?_))
  obtain⟨z2,H5,I5,r5,k2,e2,q5⟩:=hI9
  subst e2
  cases r5
  exact Az ⟨H5,I5,q5⟩
noncomputable def TruV (K:MV)(x:V)(H:Hp)(k:Bool):Prop :=
 match x with
 | .non=>k=false
 | .bl b=>k=b
 | .int i=>k=(i != 0)
 | .str y=>y.length<=Ae/\k=((y.length:Int) != 0)
 | .byt y=>y.size<=Ae/\k=((y.size:Int) != 0)
 | .ref p=>(∃ xs,SqL K H p xs/\k=!xs.isEmpty)∨(∃ xs,SqT K H p xs/\k=!xs.isEmpty)∨∃ kvs,H p=some (.dK kvs)/\k=!kvs.isEmpty
 | _=>False
theorem cf (r:KV kvs vs):(!vs.isEmpty)=!kvs.isEmpty:=by
 cases r <;> rfl
theorem V4 (r:Vals xs its):(!its.toArray.isEmpty)=!xs.isEmpty:=by
 cases r <;> simp
theorem Tl:(Ae:Nat) < 2 ^ 63:=by rw[Bu];decide
theorem tru_ok:TruR X (fun x H Q=>∃ k,TruV X.K x H k/\Q k H):=by
 intro B4 s σ H x v Q I rx h
 obtain⟨k,e,q⟩:=h
 have hl:=Tl
 have hs:Ae=16777216:=Bu
 cases x with
 | non =>
  cases rx
  have e':k=false:=e
  subst e'
  exact truthy_none ⟨H,I,q⟩
 | bl b =>
  cases rx
  have e':k=b:=e
  subst e'
  exact Az ⟨H,I,q⟩
 | int i =>
  obtain⟨t,rfl⟩:=rx
  have e':k=(i != 0):=e
  subst e'
  exact PySem.P.truthy_int ⟨H,I,q⟩
 | str y =>
  obtain⟨t,rfl⟩:=rx
  obtain⟨hy,e'⟩:y.length<=Ae/\k=((y.length:Int) != 0):=e
  subst e'
  exact PySem.P.truthy_str (by omega) ⟨H,I.tok _,q⟩
 | byt y =>
  obtain⟨t,rfl⟩:=rx
  obtain⟨hy,e'⟩:y.size<=Ae/\k=((y.size:Int) != 0):=e
  subst e'
  exact PySem.W.truthy_bytes (by omega) ⟨H,I.tok _,q⟩
 | ref p =>
  cases rx
  have e':(∃ xs,SqL X.K H p xs/\k=!xs.isEmpty)∨(∃ xs,SqT X.K H p xs/\k=!xs.isEmpty)∨∃ kvs,H p=some (.dK kvs)/\k=!kvs.isEmpty:=e
  rcases e' with ⟨xs,hx,e'⟩ | ⟨xs,hx,e'⟩ | ⟨kvs,hx,e'⟩
  ·subst e'
   obtain⟨its,r,pl,hz⟩:=I.list hx
   have B8:=r.length
   exact wpAny_truthy_list pl.isList (by simp only[NC];omega) ⟨H,I.tok _,by rw[V4 r];exact q⟩
  ·subst e'
   obtain⟨its,r,pl,hz⟩:=I.tuple hx
   have B8:=r.length
   exact truthy_tuple pl (by simp only[NC];omega) ⟨H,I.tok _,by rw[V4 r];exact q⟩
  ·subst e'
   obtain⟨hz,hS,vs,r,m⟩:kvs.length<=Ae/\(p == AG)=false/\∃ vs,KV kvs vs/\s.heap.DictOf (NU X.prog X.w) p vs:=I.hok p _ hx
   have B8:kvs.length=vs.length:=ak r
   exact wpAny_truthy_dict hS m (by omega) ⟨H,I.tok _,by rw[cf r];exact q⟩
 | _=>exact(show False from e).elim
theorem cg:OpR X (AI .Add) (fun x y H Q=>∃ i j,x=.str i/\y=.str j/\i.length+j.length<=Ae/\Q (.str (i++j)) H):=by
 intro B4 s σ H x y v u Q I rx ry h
 obtain⟨i,j,rfl,rfl,hz,q⟩:=h
 obtain⟨t,rfl⟩:=rx
 obtain⟨t',rfl⟩:=ry
 exact add_str (fun t' tk=>⟨.str (i++j),H,I.tok _,⟨_,rfl⟩,q⟩) hz
theorem Op (r:Vals [x] us):∃ u,us=[u]/\RelV x u:=by
 cases r with
 | cons r1 r2=>cases r2;exact⟨_,rfl,r1⟩
theorem PH (r:Vals [x,y] us):∃ u w',us=[u,w']/\RelV x u/\RelV y w':=by
 cases r with
 | cons r1 r2 =>
  cases r2 with
  | cons r3 r4=>cases r4;exact⟨_,_,rfl,r1,r3⟩
theorem call_abs:CallR X (.builtin "abs") (fun xs H Q=>∃ i,xs=[.int i]/\Q (.int (if i < 0 then -i else i)) H):=by
 intro B4 s σ H xs us Q I r h
 obtain⟨i,rfl,q⟩:=h
 obtain⟨u,rfl,t,rfl⟩:=Op r
 exact call_abs_int fun u tk=>⟨.int (if i < 0 then -i else i),H,I.tok _,⟨_,rfl⟩,q⟩
theorem ci (hc:X.calm=true):CallR X (.builtin "max") (fun xs H Q=>∃ i j,xs=[.int i,.int j]/\Q (.int (if j > i then j else i)) H):=by
 intro B4 s σ H xs us Q I r h
 obtain⟨i,j,rfl,q⟩:=h
 obtain⟨u,w',rfl,⟨t,rfl⟩,⟨t',rfl⟩⟩:=PH r
 refine max_two_ints (I.ok.hd hc) fun h' tk k=>⟨_,H,I.kept k,?_,q⟩
 by_cases hj:j > i
 ·rw[B3 hj,B3 hj];exact⟨_,rfl⟩
 ·rw[B2 hj,B2 hj];exact⟨_,rfl⟩
theorem cj (hc:X.calm=true):CallR X (.builtin "min") (fun xs H Q=>∃ i j,xs=[.int i,.int j]/\Q (.int (if j < i then j else i)) H):=by
 intro B4 s σ H xs us Q I r h
 obtain⟨i,j,rfl,q⟩:=h
 obtain⟨u,w',rfl,⟨t,rfl⟩,⟨t',rfl⟩⟩:=PH r
 refine min_two_ints (I.ok.hd hc) fun h' tk k=>⟨_,H,I.kept k,?_,q⟩
 by_cases hj:j < i
 ·rw[B3 hj,B3 hj];exact⟨_,rfl⟩
 ·rw[B2 hj,B2 hj];exact⟨_,rfl⟩
theorem call_int1:CallR X (.type "int") (fun xs H Q=>(∃ i,xs=[.int i]/\Q (.int i) H)∨∃ k,xs=[.bl k]/\Q (.int (if k then 1 else 0)) H):=by
 intro B4 s σ H xs us Q I r h
 rcases h with ⟨i,rfl,q⟩ | ⟨k,rfl,q⟩
 ·obtain⟨u,rfl,t,rfl⟩:=Op r
  exact call_int_int ⟨.int i,H,I,⟨_,rfl⟩,q⟩
 ·obtain⟨u,rfl,r1⟩:=Op r
  cases r1
  exact call_int_bool ⟨.int (if k then 1 else 0),H,I.tok _,⟨_,rfl⟩,q⟩
theorem call_str_int:CallR X (.type "str") (fun xs H Q=>∃ i,xs=[.int i]/\i.natAbs.log2 < 1920/\Q (.str (toString i)) H):=by
 intro B4 s σ H xs us Q I r h
 obtain⟨i,rfl,hz,q⟩:=h
 obtain⟨u,rfl,t,rfl⟩:=Op r
 exact PySem.P.str_of_int hz ⟨.str _,H,I.tok _,⟨_,rfl⟩,q⟩
end
structure ObjM (h:An)(x dx C:Ab)(mA:Str->Option Ac):Prop where
 obj:h.get? x=some (SA C dx)
 ns:h.Ns1 dx mA
 ne:dx≠x
theorem V5 {h:An}{dx:Ab}{mA:Str->Option Ac}(n:h.Ns1 dx mA):∃ od,h.get? dx=some od/\∀ name,ZH name od=some (mA name):=by
 obtain⟨o,es,ep,ho,hd,hk,_,hm⟩:=n
 refine⟨o,ho,fun name=>?_⟩
 have e:=hm name
 unfold nsFind findBy at e
 rw[<- Array.find?_toList] at e
 unfold ZH
 rw[hd]
 dsimp only
 split
 ·rename_i y q
  rw[q] at e
  exact congrArg some e
 ·rename_i q
  rw[q] at e
  have a:es.toList.any (·.refKey)=false:=by
   rw[aX]
   intro y hy
   obtain⟨z,t,Jb⟩:=hk y (Array.mem_toList_iff.mp hy)
   simp[DictEntry.refKey,Jb]
  have a':¬ es.toList.any (·.refKey)=true:=by rw[a];exact Nj
  rw[B2 a']
  exact congrArg some e
theorem ObjM.look (I:ObjM h x dx C mA):∃ od,ZI h x (SA C dx) C (some od)/\∀ name,ZH name od=some (mA name) :=
 let ⟨od,ho,hl⟩:=V5 I.ns
 ⟨od,⟨I.obj,rfl,rfl,ho⟩,hl⟩
section
variable {prog:Aj}{w:Ak}{A:Am}{E:Ac->Ad->Prop}{s:Ad}{K:MV}{x dx C f:Ab}{mA:Str->Option Ac}{name:Str}{v:Ac}
theorem ck (X:K.In s.heap) (I:ObjM s.heap x dx C mA) (hg:S0 K C name=true) (hh:Sz K C=true) (ha:Nv K (.ref C) name=some none) (hv:mA name=some v) (hv':PySem.W.handedIn v=true) (h:Q v { s with toks:=s.toks+1 }):
  wpAny (Ai prog w) A (getAttr (.ref x) name expr) Q E s:=by
 obtain⟨od,J,hl⟩:=I.look
 exact PySem.W.get_value X J (aG hg).1 (jE hh ha rfl (by rw[hl,hv])) hv' h
theorem cm (X:K.In s.heap) (I:ObjM s.heap x dx C mA) (hg:S0 K C name=true) (hf:Nv K (.ref C) name=some (some (.ref f))) (ht:S4 K (.ref f)=true) (hv:mA name=none) (h:Q (.ref f,[.ref x]) s):
  wpAny (Ai prog w) A (Bo (.ref x) name pl) Q E s:=by
 obtain⟨od,J,hl⟩:=I.look
 exact PySem.W.method_fn X J (aG hg).1 (aG hg).2 hf (beq_iff_eq.mp ht) (by show (ZH name od).map (·.isSome)=some false;rw[hl,hv];rfl) h
theorem cq (X:K.In s.heap) (I:ObjM s.heap x dx C mA) (hs:Nv K (.ref C) "__setattr__"=some (some (.builtin "object.__setattr__"))) (hp:Vt K C=true) (ht:aI K C name=some none) (hh:Sz K C=true) (hw:ag mA ns) (hsz:ns.length<=Ae) (h:∀ h',ObjM h' x dx C (fun y=>if y=name then some v else mA y)->Rz dx s.heap h'->Q () { s with heap:=h',toks:=s.toks+2 }):
  wpAny (Ai prog w) A (setAttr (.ref x) name v) Q E s:=by
 obtain⟨od,J,hl⟩:=I.look
 refine PySem.W.set_plain X J hs (PySem.W.osa_open (s:={ s with toks:=s.toks+1 }) (r:=none) X J hp ht fun b=>?_)
 obtain⟨cd,hc,hd'⟩:=PySem.W.any_some hh
 have hx:s.heap.get? x=some ⟨.ref C,some dx,.plain,#[]⟩:=I.obj
 refine Aa (Af (Aa (Aa (wpAny_loadPart hx (Aa (aL.here (s:={ s with toks:=s.toks+1 }) (PySem.W.looks_clsIn X hc) ?_))))))
 rw[hd']
 refine Af (a:=some dx) (Aa (Af (Aa ?_)))
 refine wpAny_nsSet1 (s:={ s with toks:=s.toks+1 }) I.ns fun h' DI D6=>?_
 obtain⟨oD,esD,epD,Jc,Jd,Je⟩:=DI.count (ag.cons name v hw)
 refine Aa (wpAny_lookBehind Jc (by rw[Jd];exact pastItsLine_dict (NI Je (by rw[ND];omega))) ?_)
 exact Af (h _ ⟨(D6.2 _ (M7 I.ne)).trans I.obj,DI,I.ne⟩ D6)
theorem cr (X:K.In s.heap) (hm:Va K C=true) (hi:Nv K (.ref C) "__init__"=some (some (.ref f))) (hf:aK K (.ref f)=some (.type "function")) (h:codeAny (Ai prog w) (A.under (.builtin "type.__call__" ⟨.ref C::vs,kw⟩)) (.call (.ref f) ⟨.ref (s.heap.objs.size+1)::vs,kw⟩) (PySem.W.InitBack (s.heap.objs.size+1) R)
   { s with heap:=(s.heap.push Rv).push (SA C s.heap.objs.size) }):
  codeAny (Ai prog w) A (.call (.ref C) ⟨vs,kw⟩) R s:=by
 obtain⟨hh,g,d,t,os⟩:=s
 exact PySem.W.make_core (PySem.W.makes_of X hm) (ZF X hi) (fun self=>PySem.W.bind_fn X self hf) (.inl rfl) h
end
noncomputable def putF (f:Str)(v:V):List (Str×V)->List (Str×V)
 | []=>[(f,v)]
 | (g,x)::r=>if g=f then (g,v)::r else (g,x)::putF f v r
theorem V6 (f g:Str)(v:V):∀ fs:List (Str×V),(putF f v fs).lookup g=if g=f then some v else fs.lookup g
 | []=>by
  show Qw g [(f,v)]=_
  by_cases h:g=f
  ·have hb:(g == f)=true:=beq_iff_eq.mpr h
   simp only[Qw,hb,B3 h]
  ·have hb:(g == f)=false:=beq_eq_false_iff_ne.mpr h
   simp only[Qw,hb,B2 h]
 | (k,x)::r=>by
  have ih:=V6 f g v r
  rw[show putF f v ((k,x)::r)=(if k=f then (k,v)::r else (k,x)::putF f v r) from rfl]
  by_cases hk:k=f
  ·rw[B3 hk]
   by_cases h:g=k
   ·have hb:(g == k)=true:=beq_iff_eq.mpr h
    simp only[Qw,hb,B3 (h.trans hk)]
   ·have hb:(g == k)=false:=beq_eq_false_iff_ne.mpr h
    simp only[Qw,hb,B2 (fun e:g=f=>h (e.trans hk.symm))]
  ·rw[B2 hk]
   by_cases h:g=k
   ·have hb:(g == k)=true:=beq_iff_eq.mpr h
    simp only[Qw,hb,B2 (fun e:g=f=>hk (h.symm.trans e))]
   ·have hb:(g == k)=false:=beq_eq_false_iff_ne.mpr h
    simp only[Qw,hb]
    exact ih
theorem Tn (f:Str)(v:V):∀ fs:List (Str×V),f∈(putF f v fs).map (·.1)/\∀ g,g∈fs.map (·.1)->g∈(putF f v fs).map (·.1)
 | []=>⟨by simp[putF],fun g h=>by simp at h⟩
 | (k,x)::r=>by
  obtain⟨i1,i2⟩:=Tn f v r
  rw[show putF f v ((k,x)::r)=(if k=f then (k,v)::r else (k,x)::putF f v r) from rfl]
  by_cases hk:k=f
  ·rw[B3 hk]
   subst hk
   exact⟨by simp,fun g h=>by simpa using h⟩
  ·rw[B2 hk]
   refine⟨?_,fun g h=>?_⟩
   ·rw[Nq]
    exact NH _ i1
   ·rw[Nq] at h ⊢
    rcases Nf.mp h with e | e
    ·exact Nf.mpr (.inl e)
    ·exact NH _ (i2 g e)
theorem V7 (f:Str)(v:V):∀ fs:List (Str×V),(putF f v fs).length<=fs.length+1
 | []=>by simp[putF]
 | (k,x)::r=>by
  have ih:=V7 f v r
  rw[show putF f v ((k,x)::r)=(if k=f then (k,v)::r else (k,x)::putF f v r) from rfl]
  by_cases hk:k=f
  ·rw[B3 hk,ND,ND];omega
  ·rw[B2 hk,ND,ND];omega
theorem RelO.some_of (r:RelO (some v) o):∃ u,o=some u/\RelV v u:=by
 cases o with
 | none=>exact(show False from r).elim
 | some u=>exact⟨u,rfl,r⟩
theorem RelO.none_of (r:RelO none o):o=none:=by
 cases o with
 | none=>rfl
 | some u=>exact(show False from r).elim
theorem V8 (r:RelV v u):PySem.W.handedIn u=true:=by
 cases v with
 | non=>cases (show u=Value.none from r);rfl
 | bl b=>cases (show u=Value.bool b from r);rfl
 | int i=>obtain⟨t,e⟩:=(show ∃ t,u=Value.int i t from r);cases e;rfl
 | str x=>obtain⟨t,e⟩:=(show ∃ t,u=Value.str x t from r);cases e;rfl
 | byt b=>obtain⟨t,e⟩:=(show ∃ t,u=Value.bytes b t from r);cases e;rfl
 | flt b=>obtain⟨t,e⟩:=(show ∃ t,u=Value.float b t from r);cases e;rfl
 | ref a=>cases (show u=Value.ref a from r);rfl
 | ty n=>cases (show u=Value.type n from r);rfl
section
variable {P:Aj}{w:Ak}{H H':Hp}{h h':An}{a C dx:Ab}{fs fs':List (Str×V)}
theorem To (hok:HOk P w H h)(e:H a=some (.ins C dx fs)):∃ mA,ObjM h a dx C mA/\(∀ f,RelO (fs.lookup f) (mA f))/\ag mA (fs.map (·.1))/\fs.length<=1000/\H dx=some (.own a):=by
 obtain⟨d,z,ne,ob,mA,n,r,q⟩:=(show ObjOk P w H h a (.ins C dx fs) from hok a _ e)
 exact⟨mA,⟨ob,n,ne⟩,r,q,z,d⟩
end
structure Cls (K:MV)(C:Ab):Prop where
 pg:S0 K C VJ=true
 hd:Sz K C=true
 po:Vt K C=true
 sa:Nv K (.ref C) "__setattr__"=some (some (.builtin "object.__setattr__"))
theorem Cls.get {K:MV}{C:Ab}(c:Cls K C)(f:Str):S0 K C f=true:=c.pg
def NoAttr (K:MV)(C:Ab)(f:Str):Prop:=Nv K (.ref C) f=some none
theorem NoAttr.taker {K:MV}{C:Ab}{f:Str}(n:NoAttr K C f):aI K C f=some none:=by
 unfold aI
 rw[show Nv K (.ref C) f=some none from n]
 rfl
structure Con (K:MV)(C:Ab)(f:Str)(v:V)(u:Ac):Prop where
 at_:Nv K (.ref C) f=some (some u)
 rel:RelV v u
 get:Vu K u "__get__"=some none
 cp:PySem.W.copiedNames.contains f=false
structure Meth (K:MV)(C:Ab)(m:Str)(f:Ab):Prop where
 at_:Nv K (.ref C) m=some (some (.ref f))
 fn:S4 K (.ref f)=true
 kp:Po K (.ref f)=true
section
variable {X:Cx}{B4:List (Ab×Obj)}{σ:St}{H:Hp}{s:Ad}{a C dx:Ab}{fs:List (Str×V)}{f:Str}{v:V}{A:Am}{E:Ac->Ad->Prop}
theorem cu (I:Inv X B4 σ H s) (e:H a=some (.ins C dx fs)) (c:Cls X.K C) (n:NoAttr X.K C f) (l:fs.lookup f=some v) (h:∀ u s',Inv X B4 σ H s'->RelV v u->Q u s'):wpAny (Ai X.prog X.w) A (getAttr (.ref a) f b) Q E s:=by
 obtain⟨mA,O,r,_,_,_⟩:=To I.hok e
 obtain⟨u,hu,ru⟩:=RelO.some_of (v:=v) (o:=mA f) (by rw[<- l];exact r f)
 exact ck I.kIn O (c.get f) c.hd n hu (V8 ru) (h u _ (I.tok _) ru)
theorem V9 (I:Inv X B4 σ H s) (e:H a=some (.ins C dx fs)) (c:Cls X.K C) (k:Meth X.K C m g) (l:fs.lookup m=none) (h:Q (.ref g,[.ref a]) s):wpAny (Ai X.prog X.w) A (Bo (.ref a) m pl) Q E s:=by
 obtain⟨mA,O,r,_,_,_⟩:=To I.hok e
 have hn:mA m=none:=RelO.none_of (by rw[<- l];exact r m)
 exact cm I.kIn O (c.get m) k.at_ k.fn hn h
theorem cw (I:Inv X B4 σ H s) (e:H a=some (.ins C dx fs)) (c:Cls X.K C) (n:NoAttr X.K C f) (hl:fs.length < 1000) (ry:RelV y u) (h:∀ s',Inv X B4 σ (upd H a (.ins C dx (putF f y fs))) s'->Q () s'):wpAny (Ai X.prog X.w) A (setAttr (.ref a) f u) Q E s:=by
 obtain⟨mA,O,r,wi,_,ho⟩:=To I.hok e
 have hz:(fs.map (·.1)).length<=Ae:=by rw[M5,Bu];omega
 refine cq I.kIn O c.sa c.po n.taker c.hd wi hz fun h' O' sb=>h _ ?_
 have hd:∃ o,h'.get? dx=some o:=let ⟨o,_,_,e',_⟩:=O'.ns;⟨o,e'⟩
 refine I.write (x:=a) (e:=dx) (by rw[e];exact True.intro) (.inr ho) (fun b q hb z=>(sb.2 b hb).trans z) hd ?_
 refine⟨by rw[MR O.ne];exact ho,?_,O.ne,O'.obj,_,O'.ns,fun g=>?_,fun g hg=>?_⟩
 ·have:=V7 f y fs;omega
 ·show RelO ((putF f y fs).lookup g) (if g=f then some u else mA g)
  rw[V6]
  by_cases q:g=f
  ·rw[B3 q,B3 q];exact ry
  ·rw[B2 q,B2 q];exact r g
 ·by_cases q:g=f
  ·rw[q];exact(Tn f y fs).1
  ·refine(Tn f y fs).2 g (wi g fun z=>hg ?_)
   show (if g=f then some u else mA g)=none
   rw[B2 q];exact z
theorem Inv.made (I:Inv X B4 σ H s):Inv X B4 σ (upd (upd H s.heap.objs.size (.own (s.heap.objs.size+1))) (s.heap.objs.size+1) (.ins C s.heap.objs.size []))
  { s with heap:=(s.heap.push Rv).push (SA C s.heap.objs.size) }:=by
 have e1:(s.heap.push Rv).get? s.heap.objs.size=some Rv:=NE s.heap rfl
 have e2:((s.heap.push Rv).push (SA C s.heap.objs.size)).get? (s.heap.objs.size+1)=some (SA C s.heap.objs.size):=by
  have:=NE (s.heap.push Rv) (o:=SA C s.heap.objs.size) rfl
  rwa [OY] at this
 have e3:(s.heap.push Rv).Ns s.heap.objs.size (fun _=>none):=⟨Rv,#[],_,e1,rfl,(fun e he=>absurd he (by simp)),fun _=>rfl⟩
 have I1:=I.laid (a:=s.heap.objs.size) (o:=.own (s.heap.objs.size+1)) (h':=s.heap.push Rv) (t':=s.toks) (fun b u q=>Ng _ q) (M6 _) ⟨_,e1⟩
 refine I1.laid (a:=s.heap.objs.size+1) (o:=.ins C s.heap.objs.size []) (t':=s.toks) (fun b u q=>Ng _ q) (bf (OY _ _)) ?_
 have ne:s.heap.objs.size≠s.heap.objs.size+1:=NB (SJ _)
 refine⟨by rw[MR ne,MT],NA _,ne,e2,fun _=>none,(ku e3).at fun o q=>Ng _ q,fun _=>True.intro,fun y hy=>absurd rfl hy⟩
theorem V_ (hb:AH e f env (Aq e env)=Aq e env) (h:wpAny (Ai prog w) A (Aq e env) (fun o s₁=>wpAny (Ai prog w) A (getAttr o f true) Q E s₁) E s):wpAny (Ai prog w) A (Aq (.Attribute e f pos) env) Q E s :=
 Attribute_any_ h (by rw[arm_eval_Attribute,hb])
end
def tFld (K:MV)(ta:TE)(f:Str):TE:=fun σ H Q=>ta σ H fun x H1=>∃ a C dx fs v,x=.ref a/\H1 a=some (.ins C dx fs)/\Cls K C/\NoAttr K C f/\fs.lookup f=some v/\Q v H1
def sFld (K:MV)(ta tv:TE)(f:Str):TS:=fun D σ H=>tv σ H fun y H1=>ta σ H1 fun x H2=>∃ a C dx fs,x=.ref a/\H2 a=some (.ins C dx fs)/\Cls K C/\NoAttr K C f/\fs.length < 1000 /\
 D.nx σ (upd H2 a (.ins C dx (putF f y fs)))
section
variable {X:Cx}{o e value:Av}{f:Str}{pos pos' tpos:Pos}{ta tv:TE}
theorem Oh (he:PE X e ta)(hb:AH e f X.env (Aq e X.env)=Aq e X.env):PE X (.Attribute e f pos) (tFld X.K ta f):=by
 intro B4 s σ H Q I h
 refine V_ hb (thn (he B4 s σ H _ I h) fun u s1 hI9=>?_)
 obtain⟨x,H1,I1,rx,a,C,dx,fs,v,ex,ea,c,n,l,q⟩:=hI9
 subst ex
 obtain rfl:u=Value.ref a:=rx
 exact cu I1 ea c n l fun u' s2 I2 ru=>⟨v,H1,I2,ru,q⟩
theorem PL (ha:PE X o ta)(hv:PE X value tv)(hs:Bm value (some (.Attribute o f pos')) pos.line X.env=pure false):PS X (.Assign [.Attribute o f pos'] value pos) (sFld X.K ta tv f):=by
 intro B4 s σ H D I h
 refine A_ (thn (hv B4 s σ H _ I h) fun u s1 ⟨y,H1,I1,ry,q⟩=>thn (ha B4 s1 σ H1 _ I1 q) fun ov s2 hI9=>?_) hs
 obtain⟨x,H2,I2,rx,a,C,dx,fs,ex,ea,c,n,l,q2⟩:=hI9
 subst ex
 obtain rfl:ov=Value.ref a:=rx
 exact cw I2 ea c n l ry fun s3 I3=>⟨σ,_,I3,q2⟩
theorem methcall_of (he:PE X e te) (I:Inv X B4 σ H s) (h:te σ H fun x H1=>∃ a C dx fs g,x=.ref a/\H1 a=some (.ins C dx fs)/\Cls X.K C/\Meth X.K C m g/\fs.lookup m=none /\
   ∀ s1,Inv X B4 σ H1 s1->wpAny (Ai X.prog X.w) X.A (BI pos (.ref g) [.ref a] (AB pos (Ag args X.env)) (A8 pos (AR [] X.env))) Q X.xe s1) (ht:Aq (.Call (.Attribute e m Ck) args [] pos) X.env=(do
   let ov <- Aq e X.env
   Bk Ck.atName
   let (f,first) <- Bd [ov] (Bo ov m pl)
   BI pos f first (AB pos (Ag args X.env)) (A8 pos (AR [] X.env)))):
  wpAny (Ai X.prog X.w) X.A (Aq (.Call (.Attribute e m Ck) args [] pos) X.env) Q X.xe s:=by
 refine aF (pl:=pl) (thn (he B4 s σ H _ I h) fun u s1 hI9=>?_) ht
 obtain⟨x,H1,I1,rx,a,C,dx,fs,g,ex,ea,c,k,l,q⟩:=hI9
 subst ex
 obtain rfl:u=Value.ref a:=rx
 exact V9 I1 ea c k l (q s1 I1)
end
section
variable {X:Cx}{B4:List (Ab×Obj)}{σ:St}{H:Hp}{s:Ad}{A:Am}{E:Ac->Ad->Prop}{Q:Ac->Ad->Prop}{c:Ac}{b:Bool}
inductive TyOf (K:MV) (H:Hp):V->Ac->Prop where
 | non:TyOf K H .non (.type "NoneType")
 | bl (x:Bool):TyOf K H (.bl x) (.type "bool")
 | int (i:Int):TyOf K H (.int i) (.type "int")
 | str (x:Str):TyOf K H (.str x) (.type "str")
 | flt (x:UInt64):TyOf K H (.flt x) (.type "float")
 | lst {a:Ab}{xs:List V} (e:H a=some (.lst xs)):TyOf K H (.ref a) (.type "list")
 | frz {a:Ab}{o:Obj}{xs:List V} (e:H a=some (.frz o (.lst xs))):TyOf K H (.ref a) (.type "list")
 | tup {a:Ab}{xs:List V} (e:H a=some (.tup xs)):TyOf K H (.ref a) (.type "tuple")
 | dK {a:Ab}{kvs:List (Key×V)} (e:H a=some (.dK kvs)):TyOf K H (.ref a) (.type "dict")
 | dT {a:Ab}{kvs:List (List Key×V)} (e:H a=some (.dT kvs)):TyOf K H (.ref a) (.type "dict")
 | ins {a C dx:Ab}{fs:List (Str×V)} (e:H a=some (.ins C dx fs)) (cl:Cls K C) (ha:Nv K (.ref C) "__class__"=some (some (.builtin "object.__class__")))
   (hn:Vu K (.builtin "object.__class__") "__get__"=some (some (.builtin "getset_descriptor.__get__"))) (EE:PySem.W.takesIn K (.builtin "object.__class__")=some true)
   (hm:ZK K C (.type "object")=some true):TyOf K H (.ref a) (.ref C)
end
structure Room (k:Nat)(A:Am):Prop where
 hd:A.handled=none
 dp:A.depth+3 * k+5 < recursionLimit
 un:A.units+16 * k+200 < BE
theorem Room.mono (r:Room k A) (h:j<=k):Room j A:=⟨r.hd,by have:=r.dp;omega,by have:=r.un;omega⟩
theorem Room.deeper (r:Room (k+1) A) (env:Env):Room k (A.deeper env) :=
 ⟨r.hd,by have:=r.dp;show A.depth+1+3 * k+5 < _;omega,by have:=r.un;show A.units+3+16 * k+200 < _;omega⟩
theorem cz {A:Am}{C:Ab}{us:List Ac}{kw:List (Str×Ac)}:(A.under (.builtin "type.__call__" ⟨.ref C::us,kw⟩)).depth=A.depth+1:=by
 first | rfl | simp[bL,Code.weight,Code.isCreation,Code.isGuard,Code.isCaller,Code.frames,bN,guardIds]
theorem cA {A:Am}{C:Ab}{us:List Ac}{kw:List (Str×Ac)}:(A.under (.builtin "type.__call__" ⟨.ref C::us,kw⟩)).units=A.units+1:=by
 first | rfl | simp[bL,Code.cUnits,Code.frames,bN]
theorem Room.make (r:Room (k+1) A) (C:Ab) (us:List Ac) (kw:List (Str×Ac)):Room k (A.under (.builtin "type.__call__" ⟨.ref C::us,kw⟩)) :=
 ⟨r.hd,by have:=r.dp;rw[cz];omega,by have:=r.un;rw[cA];omega⟩
theorem Room.depth (r:Room k A):A.depth < recursionLimit:=by have:=r.dp;omega
theorem Room.units (r:Room k A):A.units+64 < BE:=by have:=r.un;omega
def tNil:TA:=fun _ H Q=>Q [] H
def Tp (ta:TE)(tr:TA):TA:=fun σ H Q=>ta σ H fun x H1=>tr σ H1 fun xs H2=>Q (x::xs) H2
section
variable {X:Cx}{e:Av}{es:List Av}{te:TE}{t:TA}{pos:Pos}
theorem O7:PA X [] tNil:=fun _ _ _ _ H Q I h=>Vi ⟨[],H,I,.nil,h⟩
theorem MQ (ha:PE X e te)(hr:PA X es t)(hs:Ag (e::es) X.env=(false,Aq e X.env)::Ag es X.env:=by rfl):PA X (e::es) (Tp te t):=by
 intro pos B4 s σ H Q I h
 rw[hs]
 show wpAny _ _ (BB ((false,Aq e X.env)::AB pos (Ag es X.env))) _ _ s
 refine Td (thn (ha B4 s σ H _ I h) fun u s1 hI9=>?_)
 obtain⟨x,H1,I1,r1,q1⟩:=hI9
 exact thn (hr pos B4 s1 σ H1 _ I1 q1) fun us s2 ⟨xs,H2,I2,r2,q2⟩=>⟨x::xs,H2,I2,.cons r1 r2,q2⟩
def tTup (t:TA):TE:=fun σ H Q=>t σ H fun xs H1=>xs.length<=Ae/\∀ p,H1 p=none->Q (.ref p) (upd H1 p (.tup xs))
def tLst (t:TA):TE:=fun σ H Q=>t σ H fun xs H1=>xs.length<=Ae/\∀ p,H1 p=none->Q (.ref p) (upd H1 p (.lst xs))
theorem NY (h:PA X es t):PE X (.Tuple es x1 pos) (tTup t):=by
 intro B4 s σ H Q I hq
 refine wpAny_Tuple_spliced (thn (h pos B4 s σ H _ I hq) fun us s1 ⟨xs,H1,I1,r,z,q⟩=>⟨by rw[<- r.length];exact z,?_⟩)
 have hf:H1 s1.heap.objs.size=none:=I1.hok.fresh (M6 _)
 refine⟨.ref s1.heap.objs.size,upd H1 s1.heap.objs.size (.tup xs),I1.laid (t':=s1.toks) (fun b u e=>Ng _ e) (M6 _) ?_,rfl,q _ hf⟩
 exact⟨z,us,r,⟨_,NE _ rfl,rfl,_,rfl⟩,DcN.new _ _⟩
theorem NN (h:PA X es t):PE X (.List es pos) (tLst t):=by
 intro B4 s σ H Q I hq
 refine wpAny_List_spliced (thn (h pos B4 s σ H _ I hq) fun us s1 ⟨xs,H1,I1,r,z,q⟩=>⟨by rw[<- r.length];exact z,?_⟩)
 have hf:H1 s1.heap.objs.size=none:=I1.hok.fresh (M6 _)
 refine⟨.ref s1.heap.objs.size,upd H1 s1.heap.objs.size (.lst xs),I1.laid (t':=s1.toks) (fun b u e=>Ng _ e) (M6 _) ?_,rfl,q _ hf⟩
 exact⟨z,us,0,r,NE _ rfl⟩
end
abbrev Sp:=List V->Hp->VK->XK->Prop
abbrev CXT:=List Env->Hp->Ad->XK->Ac->Ad->Prop
structure Env0 (P:Aj)(w:Ak)(K:MV)(mg:Str->Option Ac)(base:An)(A:Am)(outer:List Env)(s:Ad)(H:Hp):Prop where
 frames:A.frames=some outer
 mod:Mod K mg base
 bs:∀ b o,base.get? b=some o->s.heap.get? b=some o/\H b=none
 bsz:base.objs.size<=s.heap.objs.size
 funs:s.heap.FunFrames base outer
 frf:∀ b∈frs outer,H b=none
 hok:HOk P w H s.heap
 bare:Bj s.gens
noncomputable def CE (outer:List Env)(P:Aj)(w:Ak)(H:Hp)(s:Ad)(Q:VK)(u:Ac)(s':Ad):Prop :=
 ∃ v H',s'.os=s.os/\Bj s'.gens/\Un (frs outer) [] H H' s.heap s'.heap/\HOk P w H' s'.heap/\RelV v u/\Q v H'
noncomputable def CR (CX:CXT)(outer:List Env)(P:Aj)(w:Ak)(H:Hp)(s:Ad)(Q:VK)(E:XK)(r:Result)(s':Ad):Prop :=
 match r with
 | .ok (.ret u)=>CE outer P w H s Q u s'
 | .ok _=>False
 | .error e=>CX outer H s E e s'
structure FnOk (P:Aj)(w:Ak)(K:MV)(mg:Str->Option Ac)(base:An)(CX:CXT)(k:Nat)(f:Ab)(fd:Aw)(ps:List Str)(sp:Sp):Prop where
 len:∀ vs H Q E,sp vs H Q E->vs.length=ps.length
 run:∀(A:Am) (outer:List Env) (s:Ad) (H:Hp) (args:Args) (us:List Ac) (vs:List V) (Q:VK) (E:XK),Room k A->Env0 P w K mg base A outer s H->BO s fd args (ps.zip us)->Vals vs us->sp vs H Q E ->
  codeAny (Ai P w) A (.call (.ref f) args) (CR CX outer P w H s Q E) s
theorem Env0.make {P:Aj}{w:Ak}{K:MV}{mg:Str->Option Ac}{base:An}{A:Am}{outer:List Env}{s:Ad}{H:Hp}(e:Env0 P w K mg base A outer s H)(C:Ab)(us:List Ac)(kw:List (Str×Ac)) :
  Env0 P w K mg base (A.under (.builtin "type.__call__" ⟨.ref C::us,kw⟩)) outer s H:=⟨by first | exact e.frames | (simpa [bL,Code.envs,bN,pushEnvs] using e.frames),e.mod,e.bs,e.bsz,e.funs,e.frf,e.hok,e.bare⟩
section
variable {X:Cx}{B4:List (Ab×Obj)}{σ:St}{H:Hp}{s s':Ad}
theorem Inv.env0 (I:Inv X B4 σ H s):Env0 X.prog X.w X.K X.mg X.base X.A X.stack s H :=
 ⟨I.ok.frames,I.ok.mod,I.bs,NI I.ok.bsz I.sz,I.stack,I.stkFree,I.hok,I.bare⟩
theorem Inv.after (I:Inv X B4 σ H s) (h:CE X.stack X.prog X.w H s Q u s'):EP X B4 σ Q u s':=by
 obtain⟨v,H',os,bare,un,hok,r,q⟩:=h
 obtain⟨hh,g,d,t,os'⟩:=s'
 obtain rfl:os'=s.os:=os
 exact⟨v,H',I.call (h':=hh) (g':=g) (d':=d) (t':=t) (ch:=[]) un hok bare (fun b z=>absurd z (by simp)),r,q⟩
end
def RJ (sp:Sp)(dvs:List V)(E:XK)(t:TA):TE:=fun σ H Q=>t σ H fun vs H1=>sp (vs++dvs) H1 Q E
def RK (C:Ab)(m:Str)(sp:Sp)(dvs:List V)(E:XK)(ta:TE)(t:TA):TE:=fun σ H Q=>ta σ H fun x H1=>∃ a dx fs,x=.ref a/\H1 a=some (.ins C dx fs)/\fs.lookup m=none /\
 t σ H1 fun vs H2=>sp (x::(vs++dvs)) H2 Q E
def QG (C:Ab)(sp:Sp)(dvs:List V)(E:XK)(t:TA):TE:=fun σ H Q=>t σ H fun vs H1=>∀ x dx,H1 x=none->H1 dx=none->dx≠x ->
 sp (.ref x::(vs++dvs)) (upd (upd H1 dx (.own x)) x (.ins C dx [])) (fun v H2=>v=.non/\Q (.ref x) H2) E
noncomputable def Binds (K:MV)(fd:Aw)(ps:List Str)(ds:List Ac):Prop :=
 ∀(s:Ad) (us:List Ac),K.In s.heap->(us++ds).length=ps.length->BO s fd ⟨us,[]⟩ (ps.zip (us++ds))
theorem Binds.all {K:MV}{fd:Aw}{ps:List Str}(h:∀ us:List Ac,us.length=ps.length->bindArgs fd ⟨us,[]⟩=pure (ps.zip us)):Binds K fd ps []:=fun s us _ hl=>by
 rw[O_] at hl ⊢
 exact .of_eq (h us hl)
def PM (CX:CXT)(X:Cx)(E:XK):Prop:=∀(B4:List (Ab×Obj)) (σ:St) (H:Hp) (s:Ad) (e:Ac) (s':Ad),Inv X B4 σ H s->CX X.stack H s E e s'->X.xe e s'
section
variable {X:Cx}{CX:CXT}{k:Nat}{f C:Ab}{fd:Aw}{ps:List Str}{sp:Sp}{dvs:List V}{ds:List Ac}{E:XK}{x m:Str}{p pos Ck:Pos}{e o:Av}{es:List Av}{ta:TE}{t:TA}
theorem V' (F:FnOk X.prog X.w X.K X.mg X.base CX k f fd ps sp) (hr:Room k X.A) (hb:Binds X.K fd ps ds) (hd:Vals dvs ds) (hx:PM CX X E) (I:Inv X B4 σ H s) (r:Vals vs us) (h:sp (vs++dvs) H Q E):wpAny (Ai X.prog X.w) X.A (call (.ref f) us) (EP X B4 σ Q) X.xe s:=by
 have r2:Vals (vs++dvs) (us++ds):=r.append hd
 have hl:(us++ds).length=ps.length:=by rw[<- r2.length];exact F.len _ _ _ _ h
 refine Ba (AZ (F.run X.A X.stack s H ⟨us,[]⟩ (us++ds) (vs++dvs) Q E hr I.env0 (hb s us I.kIn hl) r2 h) fun r s' hq=>?_)
 cases r with
 | error e=>exact hx B4 σ H s e s' I hq
 | ok fl =>
  cases fl with
  | ret u=>exact I.after hq
  | next=>exact O4 hq
  | brk=>exact O4 hq
  | cont=>exact O4 hq
theorem Wa (F:FnOk X.prog X.w X.K X.mg X.base CX k f fd ps sp)(hr:Room k X.A)(hg:Gl X x)(hm:X.mg x=some (.ref f))(hk:Po X.K (.ref f)=true)(hb:Binds X.K fd ps ds)(hd:Vals dvs ds)(hx:PM CX X E)
  (ha:PA X (e::es) t) (Do:(x == ("__debug__":Str))=false:=by decide) (he:Ag (e::es) X.env=(false,Aq e X.env)::Ag es X.env:=by rfl) (Cj:(AB pos (Ag es X.env)).any (·.1)=false:=by rfl) :
  PE X (.Call (.Name x p) (e::es) [] pos) (RJ sp dvs E t):=by
 intro B4 s σ H Q I h
 refine AE (RD I hg hm ?_ Do)
 refine ZG (h₀:=X.base) I.ok.mod.kin hk (thn (ha pos B4 s σ H _ I h) fun us s1 ⟨vs,H1,I1,r,q⟩=>⟨I1.kIn,?_⟩) he Cj
 exact V' F hr hb hd hx I1 r q
theorem Wb (he:PE X o ta) (c:Cls X.K C) (hm:Meth X.K C m f) (F:FnOk X.prog X.w X.K X.mg X.base CX k f fd ps sp) (hr:Room k X.A) (hb:Binds X.K fd ps ds) (hd:Vals dvs ds) (hx:PM CX X E) (ha:PA X (e::es) t) (Cn:Ag (e::es) X.env=(false,Aq e X.env)::Ag es X.env:=by rfl) (Cj:(AB pos (Ag es X.env)).any (·.1)=false:=by rfl) (ht:Aq (.Call (.Attribute o m Ck) (e::es) [] pos) X.env=(do
   let ov <- Aq o X.env
   Bk Ck.atName
   let (f,first) <- Bd [ov] (Bo ov m pl)
   BI pos f first (AB pos (Ag (e::es) X.env)) (A8 pos (AR [] X.env))):=by rfl):
  PE X (.Call (.Attribute o m Ck) (e::es) [] pos) (RK C m sp dvs E ta t):=by
 intro B4 s σ H Q I h
 refine aF (pl:=pl) (thn (he B4 s σ H _ I h) fun u s1 hI9=>?_) ht
 obtain⟨x,H1,I1,rx,a,dx,fs,ex,ea,l,q⟩:=hI9
 subst ex
 obtain rfl:u=Value.ref a:=rx
 refine V9 I1 ea c hm l ?_
 refine ZG (first:=[.ref a]) (h₀:=X.base) I.ok.mod.kin hm.kp (thn (ha pos B4 s1 σ H1 _ I1 q) fun us s2 ⟨vs,H2,I2,r,q2⟩=>⟨I2.kIn,?_⟩) Cn Cj
 exact V' (us:=.ref a::us) (vs:=.ref a::vs) F hr hb hd hx I2 (.cons rfl r) q2
structure Mk (K:MV)(C f:Ab):Prop where
 makes:Va K C=true
 init:Nv K (.ref C) "__init__"=some (some (.ref f))
 fn:S4 K (.ref f)=true
 kp:Po K (.ref C)=true
theorem Wc (M:Mk X.K C f) (F:FnOk X.prog X.w X.K X.mg X.base CX k f fd ps sp) (hr:Room (k+1) X.A) (hb:Binds X.K fd ps ds) (hd:Vals dvs ds) (hx:PM CX X E) (I:Inv X B4 σ H s) (r:Vals vs us) (h:∀ x dx,H x=none->H dx=none->dx≠x->sp (.ref x::(vs++dvs)) (upd (upd H dx (.own x)) x (.ins C dx [])) (fun v H2=>v=.non/\Q (.ref x) H2) E):
  wpAny (Ai X.prog X.w) X.A (call (.ref C) us) (EP X B4 σ Q) X.xe s:=by
 have hq:=h (s.heap.objs.size+1) s.heap.objs.size (I.hok.fresh (Pr _)) (I.hok.fresh (M6 _)) (NB (SJ _))
 have I2:=Inv.made (C:=C) I
 have r2:Vals (V.ref (s.heap.objs.size+1)::(vs++dvs)) (Value.ref (s.heap.objs.size+1)::(us++ds)):=.cons rfl (r.append hd)
 have hl:(Value.ref (s.heap.objs.size+1)::us++ds).length=ps.length:=by
  have e:=r2.length
  rw[F.len _ _ _ _ hq] at e
  exact e.symm
 refine Ba (cr (f:=f) I.kIn M.makes M.init (beq_iff_eq.mp M.fn) (AZ (F.run _ X.stack _ _ ⟨Value.ref (s.heap.objs.size+1)::us,[]⟩ (Value.ref (s.heap.objs.size+1)::(us++ds)) _ _ E (hr.make C us [])
  (I2.env0.make C us []) (hb _ (Value.ref (s.heap.objs.size+1)::us) I2.kIn hl) r2 hq) fun r s' hq'=>?_))
 cases r with
 | error e=>exact hx B4 σ _ _ e s' I2 hq'
 | ok fl =>
  cases fl with
  | ret u =>
   obtain⟨v,H',I3,rv,ev,q3⟩:=I2.after hq'
   subst ev
   exact⟨rv,⟨V.ref (s.heap.objs.size+1),H',I3,rfl,q3⟩⟩
  | next=>exact O4 hq'
  | brk=>exact O4 hq'
  | cont=>exact O4 hq'
theorem cB (M:Mk X.K C f)(F:FnOk X.prog X.w X.K X.mg X.base CX k f fd ps sp)(hr:Room (k+1) X.A)(hg:Gl X x)(hm:X.mg x=some (.ref C))(hb:Binds X.K fd ps ds)(hd:Vals dvs ds)(hx:PM CX X E)
  (ha:PA X (e::es) t) (Do:(x == ("__debug__":Str))=false:=by decide) (he:Ag (e::es) X.env=(false,Aq e X.env)::Ag es X.env:=by rfl) (Cj:(AB pos (Ag es X.env)).any (·.1)=false:=by rfl) :
  PE X (.Call (.Name x p) (e::es) [] pos) (QG C sp dvs E t):=by
 intro B4 s σ H Q I h
 refine AE (RD I hg hm ?_ Do)
 refine ZG (h₀:=X.base) I.ok.mod.kin M.kp (thn (ha pos B4 s σ H _ I h) fun us s1 ⟨vs,H1,I1,r,q⟩=>⟨I1.kIn,?_⟩) he Cj
 exact Wc M F hr hb hd hx I1 r q
theorem cC (M:Mk X.K C f)(F:FnOk X.prog X.w X.K X.mg X.base CX k f fd ps sp)(hr:Room (k+1) X.A)(hg:Gl X x)(hm:X.mg x=some (.ref C))(hb:Binds X.K fd ps ds)(hd:Vals dvs ds)(hx:PM CX X E)
  (Do:(x == ("__debug__":Str))=false:=by decide):PE X (.Call (.Name x p) [] [] pos) (QG C sp dvs E tNil):=by
 intro B4 s σ H Q I h
 refine AE (RD I hg hm ?_ Do)
 exact PySem.W.callWith_K0 I.kIn M.kp (Wc (us:=[]) M F hr hb hd hx I .nil h)
end
section
variable {X:Cx}{CX:CXT}{k:Nat}{f C:Ab}{fd:Aw}{ps ks:List Str}{sp:Sp}{E:XK}{x m:Str}{p pos Ck kpos:Pos}{e o:Av}{es:List Av}{kws:List Bv}{te ta:TE}{t tk:TA}{nm:Option Str}
structure KBinds (K:MV)(fd:Aw)(ps ks:List Str)(g:List Ac->List Ac->List Ac)(gV:List V->List V->List V):Prop where
 to:∀(s:Ad) (us ws:List Ac),K.In s.heap->(g us ws).length=ps.length->BO s fd ⟨us,ks.zip ws⟩ (ps.zip (g us ws))
 rel:∀{vs:List V}{us:List Ac}{zs:List V}{ws:List Ac},Vals vs us->Vals zs ws->Vals (gV vs zs) (g us ws)
variable {g:List Ac->List Ac->List Ac}{gV:List V->List V->List V}
end
structure FnScope (N P:List Str)(sc:Bt):Prop where
 kind:sc.kind=.function
 co:sc.isCoroutine=false
 gen:sc.isGenerator=false
 nd:N.Nodup
 pre:N.take P.length=P
 par:∀ x∈P,sc.names.lookup x=some .local∨sc.names.lookup x=some .cell
 nofree:∀ y∈sc.names,y.2≠.free
theorem Wd {kindOf:Str->Option AV}{x:Str}:∀{binds:List (Str×Ac)}{m:Str->Option Ac},(∀ v,(x,v)∉binds)->bindL kindOf binds m x=m x
 | [],_,_=>rfl
 | (n,v)::r,m,h=>by
  unfold bindL
  rw[Wd fun w hw=>h w (NH _ hw)]
  split
  ·have:x≠n:=by rintro rfl;exact h v N1
   simp[this]
  ·rfl
theorem We {kindOf:Str->Option AV}{x:Str}:∀{binds:List (Str×Ac)}{m:Str->Option Ac},(∀ v,(x,v)∉binds)->bindC kindOf binds m x=m x
 | [],_,_=>rfl
 | (n,v)::r,m,h=>by
  unfold bindC
  rw[We fun w hw=>h w (NH _ hw)]
  split
  ·rfl
  ·have:x≠n:=by rintro rfl;exact h v N1
   simp[this]
theorem Wf {kindOf:Str->Option AV}{x:Str}{v:Ac}:∀{P:List Str}{vs:List Ac}{i:Nat}{m:Str->Option Ac},P.Nodup->P[i]?=some x->vs[i]?=some v->kindOf x=some .local ->
  bindL kindOf (P.zip vs) m x=some v
 | [],_,_,_,_,h,_,_=>by simp at h
 | _::_,[],_,_,_,_,h,_=>by simp at h
 | p::P,w::vs,0,m,nd,h1,h2,hk=>by
  simp at h1 h2;subst h1;subst h2
  show bindL kindOf ((p,w)::P.zip vs) m p=_
  unfold bindL
  rw[Wd fun v hv=>(ZV.mp nd).1 (a7 hv).1,B3 hk]
  simp
 | p::P,w::vs,i+1,m,nd,h1,h2,hk=>by
  show bindL kindOf ((p,w)::P.zip vs) m x=_
  unfold bindL
  exact Wf (i:=i) (ZV.mp nd).2 (by simpa using h1) (by simpa using h2) hk
theorem Wg {kindOf:Str->Option AV}{x:Str}{v:Ac}:∀{P:List Str}{vs:List Ac}{i:Nat}{m:Str->Option Ac},P.Nodup->P[i]?=some x->vs[i]?=some v->kindOf x≠some .local ->
  bindC kindOf (P.zip vs) m x=some v
 | [],_,_,_,_,h,_,_=>by simp at h
 | _::_,[],_,_,_,_,h,_=>by simp at h
 | p::P,w::vs,0,m,nd,h1,h2,hk=>by
  simp at h1 h2;subst h1;subst h2
  show bindC kindOf ((p,w)::P.zip vs) m p=_
  unfold bindC
  rw[We fun v hv=>(ZV.mp nd).1 (a7 hv).1,B2 hk]
  simp
 | p::P,w::vs,i+1,m,nd,h1,h2,hk=>by
  show bindC kindOf ((p,w)::P.zip vs) m x=_
  unfold bindC
  exact Wg (i:=i) (ZV.mp nd).2 (by simpa using h1) (by simpa using h2) hk
noncomputable def OM (N:List Str)(vs:List V):St:=vs.map some++Nr (N.length - vs.length) none
noncomputable def cxOf (CX:CXT)(P:Aj)(w:Ak)(K:MV)(mg:Str->Option Ac)(base:An)(N:List Str)(Ca:Str)(scope:Bt)(f:Ab)(cd:Ac)(A:Am)(outer:List Env)(s:Ad)(H:Hp)(E:XK):Cx where
 prog:=P
 w:=w
 K:=K
 mg:=mg
 base:=base
 A:=A.deeper (Bq Ca scope s.heap.objs.size f cd)
 N:=N
 s₀:=s
 H₀:=H
 env:=Bq Ca scope s.heap.objs.size f cd
 outer:=outer
 stack:=Bq Ca scope s.heap.objs.size f cd::outer
 ex:=[]
 calm:=true
 fn:=fun _=>true
 pn:=[]
 xe:=fun e s'=>wpAny (Ai P w) (A.deeper (Bq Ca scope s.heap.objs.size f cd)) (leaving (Bq Ca scope s.heap.objs.size f cd) e) (fun _ s''=>CX outer H s E e s'') (fun e' s''=>CX outer H s E e' s'') s'
theorem Wh {sc:Bt}{n:Nat}{x:Str}(h:sc.names.lookup x=some .cell):∃ c,(cellsFrom n sc.names []).lookup x=some c:=by
 have q:=jB sc.names n [] (.inl h)
 exact Option.isSome_iff_exists.mp q
theorem cE {CX:CXT}{P:Aj}{w:Ak}{K:MV}{mg:Str->Option Ac}{base:An}{N ps:List Str}{Ca:Str}{scope:Bt}{f:Ab}{cd:Ac}{A:Am}{outer:List Env}{s s1:Ad}{H:Hp}{E:XK}{us:List Ac}{vs:List V}
  (S:FnScope N ps scope) (hd:A.handled=none) (e0:Env0 P w K mg base A outer s H) (hl:vs.length=ps.length) (r:Vals vs us)
  (x:InCallC s s.heap.objs.size (bindL (Bq Ca scope s.heap.objs.size f cd).kindOf (ps.zip us) fun _=>none) (cellsFrom (s.heap.objs.size+1) scope.names []) (bindC (Bq Ca scope s.heap.objs.size f cd).kindOf (ps.zip us) fun _=>none) s1) :
  Inv (cxOf CX P w K mg base N Ca scope f cd A outer s H E) [] (OM N vs) H s1:=by
 have Cj:ps.length<=N.length:=by have:=congrArg ZY S.pre;rw[NX] at this;omega
 obtain⟨h1,tk,rfl,hk⟩:=x.done
 have noA:∀ b:Ab,b∉(cxOf CX P w K mg base N Ca scope f cd A outer s H E).ex:=fun b z=>absurd (show b∈([]:List Ab) from z) (by simp)
 refine⟨⟨e0.mod,S.kind,rfl,rfl,M6 _,fun y z c h1 h2=>?_,fun y hy=>?_,fun y c _ h=>?_,fun _=>hd,Around.frames_deeper e0.frames,.inr ⟨rfl,rfl⟩,fun b z=>absurd z (noA b),e0.bs,e0.bsz,fun b _ _=>noA b,fun b z=>absurd z (noA b),e0.funs,e0.frf⟩,
  rfl,e0.bare,Un.kept hk,⟨_,x.toInCall.ns,fun i y v h1 h2 h3=>?_⟩,fun y c h=>⟨_,x.cell y c h⟩,e0.hok.fresh (M6 _),fun y c h=>?_,fun p hp=>absurd (show p∈([]:List (Ab×Obj)) from hp) (by simp),e0.hok.kept hk,?_⟩
 ·exact name_of_addr x.apart (VO h1) (VO h2)
 ·have hy:scope.names.lookup y=some .cell∨scope.names.lookup y=some .free:=hy
  rcases hy with hy | hy
  ·exact Wh hy
  ·exact absurd rfl (S.nofree _ (VO hy))
 ·exact Pq (x.above y c (VO h))
 ·have hi:i < vs.length:=by
   unfold OM at h2
   by_cases hi:i < vs.length
   ·exact hi
   ·rw[Vb (by simpa using hi)] at h2
    rw[jJ] at h2
    split at h2 <;> cases h2
  have ha:vs[i]?=some v:=by
   unfold OM at h2
   rw[Vv (by simpa using hi),Nz] at h2
   cases e:vs[i]? with
   | none=>rw[e] at h2;cases h2
   | some a=>rw[e] at h2;cases h2;rfl
  obtain⟨u,hu,rv⟩:=r.get ha
  have hp:ps[i]?=some y:=by
   rw[<- S.pre,jI (by omega)];exact h1
  have ndP:ps.Nodup:=by rw[<- S.pre];exact S.nd.sublist (List.take_sublist _ _)
  refine⟨u,rv,?_⟩
  rcases S.par y (Q9 hp) with k | k
  ·exact .inl ⟨k,Wf ndP hp hu k⟩
  ·obtain⟨c,e⟩:=Wh (n:=s.heap.objs.size+1) k
   refine .inr ⟨.inl k,c,e,?_⟩
   have q:=x.cell y c e
   rw[Wg ndP hp hu (by show scope.names.lookup y≠_;rw[k];decide)] at q
   exact q
 ·exact e0.hok.fresh (Pq (x.above y c (VO h)))
 ·unfold OM
  show _=N.length
  rw[No,M5,aQ]
  omega
theorem fn_of {CX:CXT}{P:Aj}{w:Ak}{K:MV}{mg:Str->Option Ac}{base:An}{k:Nat}{f:Ab}{name Ca:Str}{params:Arguments}{body:List As}{scope:Bt}{dV kV doc pm cdv ct oc:Ac}{an od:Option Ab}
  {osl:Array (Option Ac)}{N ps:List Str}{sp:Sp} (lk:K.lookup f=some ⟨oc,od,.func (SD name Ca params body scope dV kV doc pm an cdv ct),osl⟩) (ED:ZJ K cdv Ca=true) (S:FnScope N ps scope)
  (len:∀ vs H Q E,sp vs H Q E->vs.length=ps.length)
  (Dp:∀(A:Am) (outer:List Env) (s:Ad) (H:Hp) (vs:List V) (Q:VK) (E:XK),Room k (A.deeper (Bq Ca scope s.heap.objs.size f cdv))->sp vs H Q E ->
   ∃ t,PSs (cxOf CX P w K mg base N Ca scope f cdv A outer s H E) body t/\t { nx:=fun _ H'=>Q .non H',rt:=Q } (OM N vs) H) :
  FnOk P w K mg base CX (k+1) f (SD name Ca params body scope dV kV doc pm an cdv ct) ps sp:=by
 refine⟨len,fun A outer s H args us vs Q E hr e0 hb r DJ=>?_⟩
 have hl:=len _ _ _ _ DJ
 have KX:K.In s.heap:=e0.mod.kin.keeps fun b o e=>(e0.bs b o e).1
 have lim:s.heap.NoLimit:=e0.mod.nolimit.keeps fun b o e=>(e0.bs b o e).1
 have GY:∀ y∈ps.zip us,scope.names.lookup y.1=some .local∨(scope.names.lookup y.1=some .cell/\((cellsFrom (s.heap.objs.size+1) scope.names []).lookup y.1).isSome=true):=fun⟨n,v⟩ hy=>by
  rcases S.par n (a7 hy).1 with q | q
  ·exact .inl q
  ·exact .inr ⟨q,jB _ _ _ (.inl q)⟩
 refine codeAny_call_function hr.depth (KX _ _ lk) rfl S.co S.gen rfl (PySem.W.codeRec_of KX ED) (hb _ _ _ _ ?_)
 refine wpAny_newFunctionEnv_cells S.kind GY fun env he s1 x=>?_
 subst he
 refine⟨lim.keeps x.toInCall.keep,codeAny_func ?_⟩
 obtain⟨t,ht,hq⟩:=Dp A outer s H vs Q E (hr.deeper _) DJ
 have I:Inv (cxOf CX P w K mg base N Ca scope f cdv A outer s H E) [] (OM N vs) H s1:=cE S hr.hd e0 hl r x
 refine Ao (ht [] s1 (OM N vs) H _ I hq) (fun fl s' hs=>?_) fun e s' hs=>hs
 have fin:∀{σ':St}{H':Hp}{v:V}{u:Ac},Inv (cxOf CX P w K mg base N Ca scope f cdv A outer s H E) [] σ' H' s'->RelV v u->Q v H'->CE outer P w H s Q u s' :=
  fun{σ' H' v u} J rv q=>⟨v,H',J.os,J.bare,J.base,J.hok,rv,q⟩
 cases fl with
 | ret u =>
  obtain⟨v,σ',H',J,rv,q⟩:=hs
  exact fin J rv q
 | next =>
  obtain⟨σ',H',J,q⟩:=hs
  exact fin (v:=V.non) (u:=Value.none) J rfl q
 | brk =>
  obtain⟨_,_,_,q⟩:=hs
  exact O4 q
 | cont =>
  obtain⟨_,_,_,q⟩:=hs
  exact O4 q
section
variable {X:Cx}{x:Str}{p pos:Pos}{e:Av}{es:List Av}{t:TA}{id T:String}{r:List V->Hp->VK->Prop}
def tCB (r:List V->Hp->VK->Prop)(t:TA):TE:=fun σ H Q=>t σ H fun vs H1=>r vs H1 Q
theorem cF (hc:CallR X (.builtin id) r)(hg:Gl X x)(hm:X.mg x=none)(hv:AK x=some (.builtin id))(ha:PA X (e::es) t)(hn:x≠"__name__":=by decide)(Do:(x == ("__debug__":Str))=false:=by decide)
  (he:Ag (e::es) X.env=(false,Aq e X.env)::Ag es X.env:=by rfl) (Cj:(AB pos (Ag es X.env)).any (·.1)=false:=by rfl):PE X (.Call (.Name x p) (e::es) [] pos) (tCB r t):=by
 intro B4 s σ H Q I h
 refine AE (Ri I hg hm hv ?_ hn Do)
 exact j8 (thn (ha pos B4 s σ H _ I h) fun us s1 ⟨vs,H1,I1,r1,q1⟩=>hc B4 s1 σ H1 vs us Q I1 r1 q1) he Cj
theorem cG (hc:CallR X (.type T) r)(hg:Gl X x)(hm:X.mg x=none)(hv:AK x=some (.type T))(ha:PA X (e::es) t)(hn:x≠"__name__":=by decide)(Do:(x == ("__debug__":Str))=false:=by decide)
  (he:Ag (e::es) X.env=(false,Aq e X.env)::Ag es X.env:=by rfl) (Cj:(AB pos (Ag es X.env)).any (·.1)=false:=by rfl):PE X (.Call (.Name x p) (e::es) [] pos) (tCB r t):=by
 intro B4 s σ H Q I h
 refine AE (Ri I hg hm hv ?_ hn Do)
 exact Vh (thn (ha pos B4 s σ H _ I h) fun us s1 ⟨vs,H1,I1,r1,q1⟩=>hc B4 s1 σ H1 vs us Q I1 r1 q1) he Cj
end
end L2
namespace HT
open PySem PyProof.Rows
section
open PySem.SeqAt
open PySem.AutoSeq1 (wpAny_loadPart')
open PySem.MeetsSeq PySem.MeetsSeq2 PySem.MeetsSeq3
end
section
variable {prog:Aj}{w:Ak}{A:Am}{E:Ac->Ad->Prop}{s:Ad}
theorem cat_tup (ht:IsTup s.heap t vs.toArray) (hb:IsTup s.heap b ws.toArray) (hv:vs≠[]) (h1:ws=[]->Q (.ref t) s) (h2:ws≠[]->Q (.ref s.heap.objs.size) { s with heap:=s.heap.push { cls:=.type "tuple",data:=.seq (vs++ws).toArray } }) (hsz:vs.length+ws.length<=Ae):wpAny (Ai prog w) A (AI .Add (.ref t) (.ref b)) Q E s:=by
 obtain⟨⟨cls,dd,data,sl⟩,ho,hc,n,hd⟩:=id ht
 obtain⟨⟨cls2,dd2,data2,sl2⟩,Io,GZ,n2,C8⟩:=id hb
 simp only at hc hd GZ C8
 subst hc hd GZ C8
 have e:vs.toArray++ws.toArray=(vs++ws).toArray:=by simp
 by_cases hw:ws=[]
 ·exact concat_meets ⟨_,ho,rfl⟩ ⟨_,Io,rfl⟩ noFill_tuple_add seq_tuple_add jV jR (jQ _ _)
   (tuple_addW1 t b vs.toArray ws.toArray n n2 dd dd2 sl sl2 (by simpa using hv) (by simp[hw])) ⟨ho,Io,h1 hw⟩
 ·refine concat_meets ⟨_,ho,rfl⟩ ⟨_,Io,rfl⟩ noFill_tuple_add seq_tuple_add jV jR (jQ _ _)
   (tuple_addW2 t b vs.toArray ws.toArray n n2 dd dd2 sl sl2 (by simpa using hv) (by simpa using hw) (by rw[NC,NC];exact hsz)) ⟨ho,Io,?_⟩
  rw[e]
  exact h2 hw
noncomputable def sIx (n d:Nat):Option Int->Nat
 | none=>d
 | some v=>if v < 0 then (v+(n:Int)).toNat else min v.toNat n
theorem sIx_le (n d:Nat)(hd:d<=n)(o:Option Int):sIx n d o<=n:=by
 cases o with
 | none=>exact hd
 | some v =>
  show (if v < 0 then (v+(n:Int)).toNat else min v.toNat n)<=n
  by_cases hv:v < 0
  ·rw[B3 hv];omega
  ·rw[B2 hv];exact Nat.min_le_right _ _
theorem Wi (v:Int)(n d:Nat):(if v < 0 then max (v+(n:Int)) 0 else min v (n:Int))=((sIx n d (some v):Nat):Int):=by
 show (if v < 0 then max (v+(n:Int)) 0 else min v (n:Int))=(((if v < 0 then (v+(n:Int)).toNat else min v.toNat n):Nat):Int)
 by_cases hv:v < 0
 ·simp only[B3 hv];omega
 ·simp only[B2 hv];omega
theorem cH (lo hi:Option Int)(n:Nat):bG lo hi 1 (n:Int)=(((sIx n 0 lo:Nat):Int),((sIx n n hi:Nat):Int)):=by
 have h1:¬ ((1:Int) < 0):=by omega
 unfold bG
 simp only[h1,if_false]
 refine Prod.ext ?_ ?_
 ·cases lo with
  | none=>rfl
  | some v=>exact Wi v n 0
 ·cases hi with
  | none=>rfl
  | some v=>exact Wi v n n
theorem cI (i j:Nat):aa (i:Int) (j:Int) 1=j - i:=by
 unfold aa
 have h1:(1:Int) > 0:=by omega
 simp only[h1,if_true,Int.ediv_one]
 split <;> omega
theorem Wj (p:IsPart v o) (h:Q o s):wpAny (Ai prog w) A (Builtin.Slice.slicePartIndex v) Q E s:=by
 cases p with
 | none=>exact slicePart_none h
 | int i t=>exact slicePart_int h
theorem cJ {sl:Ab}{vl vu:Ac}{lo hi:Option Int}{n:Nat}{Q:Int×Int×Nat->Ad->Prop}(hs:s.heap.IsSliceOf sl vl vu .none)(pl:IsPart vl lo)(pu:IsPart vu hi)
  (h:Q (((sIx n 0 lo:Nat):Int),1,sIx n n hi - sIx n 0 lo) s):wpAny (Ai prog w) A (kf (.ref sl) (pure (n:Int))) Q E s:=by
 obtain⟨os,G0,Kk,Ip⟩:=id hs
 unfold kf Builtin.Slice.sliceFields
 refine Aa (Aa (Au G0 Ip (x:=vl) rfl (Aa (Au G0 Ip (x:=vu) rfl (Aa (Au G0 Ip (x:=.none) rfl (Af ?_)))))))
 refine Aa (slicePart_none ?_)
 show wpAny _ _ (if ((1:Int) == 0)=true then _ else _) _ _ s
 rw[B2 (by decide)]
 refine Aa (Wj pl (Aa (Wj pu (Aa (Af ?_)))))
 show wpAny _ _ (match bG lo hi 1 (n:Int) with | (lo,hi)=>pure (lo,(1:Int),aa lo hi 1)) _ _ s
 rw[cH lo hi n]
 show wpAny _ _ (pure (((sIx n 0 lo:Nat):Int),(1:Int),aa ((sIx n 0 lo:Nat):Int) ((sIx n n hi:Nat):Int) 1)) _ _ s
 rw[cI]
 exact Af h
theorem cK (xs:Array Ac)(i k:Nat):((NW k).filterMap fun(m:Nat)=>xs[((i:Int)+(m:Int) * 1).toNat]?).toArray=((xs.toList.drop i).take k).toArray:=by
 have e:(fun(m:Nat)=>xs[((i:Int)+(m:Int) * 1).toNat]?)=fun m=>xs[i+m]?:=by
  funext m
  have:((i:Int)+(m:Int) * 1).toNat=i+m:=by omega
  rw[this]
 rw[e]
 have:=pick_run xs i k
 rw[List.filterMap_map] at this
 have e2:((fun x=>xs[x]?)∘fun x=>i+x)=fun m=>xs[i+m]?:=rfl
 rw[e2] at this
 rw[this]
theorem getItem_tuple_cut {t sl:Ab}{items:Array Ac}{vl vu:Ac}{lo hi:Option Int}{Q:Ac->Ad->Prop}(ht:IsTup s.heap t items)(hs:s.heap.IsSliceOf sl vl vu .none)(pl:IsPart vl lo)(pu:IsPart vu hi)
  (hw:¬ (sIx items.size 0 lo=0/\sIx items.size items.size hi=items.size))
  (h:Q (.ref s.heap.objs.size) { s with heap:=s.heap.push { cls:=.type "tuple",data:=.seq ((items.toList.drop (sIx items.size 0 lo)).take (sIx items.size items.size hi - sIx items.size 0 lo)).toArray } })
  (hsz:items.size<=Ae):wpAny (Ai prog w) A (Bw (.ref t) (.ref sl)) Q E s:=by
 have Ew:sizeOk (.seq ((items.toList.drop (sIx items.size 0 lo)).take (sIx items.size items.size hi - sIx items.size 0 lo)).toArray):=by
  show ((items.toList.drop (sIx items.size 0 lo)).take (sIx items.size items.size hi - sIx items.size 0 lo)).toArray.size<=Ae
  rw[NC,NX,Qh,bI]
  omega
 have hj:sIx items.size items.size hi<=items.size:=sIx_le _ _ (M6 _) hi
 obtain⟨os,G0,Kk,Ip⟩:=id hs
 have G1:s.TypeIs (.ref sl) "slice":=⟨os,G0,Kk⟩
 unfold Bw
 try with_reducible refine AM ?_
 first | refine Aa (Af ?_) | skip
 refine Aa (wpAny_sequenceKey ht.typeIs (by decide) ?_)
 refine Aa (AJ (name:=M' "__getitem__") ht.typeIs bA
  (A0 bA ht.typeIs entry_tuple_getitem ?_ (args_tuple_getitem _ _)))
 show wpAny _ _ (Builtin.Tuple.tupleItemsOf (.ref t) >>= _) _ _ s
 refine Aa (tupleItemsOf_ ht ?_)
 refine Aa (wpAny_typeOf G1 ?_)
 rw[B3 (by decide)]
 refine Aa (cJ hs pl pu ?_)
 have Eh:¬ ((((sIx items.size 0 lo:Nat):Int) == 0&&(1:Int) == 1&&(sIx items.size items.size hi - sIx items.size 0 lo) == items.size)=true):=by
  intro q
  rw[NS,NS] at q
  have q1:((sIx items.size 0 lo:Nat):Int)=0:=eq_of_beq q.1.1
  have q2:sIx items.size items.size hi - sIx items.size 0 lo=items.size:=eq_of_beq q.2
  exact hw ⟨by omega,by omega⟩
 show wpAny _ _ (if (((sIx items.size 0 lo:Nat):Int) == 0&&(1:Int) == 1&&(sIx items.size items.size hi - sIx items.size 0 lo) == items.size)=true then _ else _) _ _ s
 rw[B2 Eh,cK]
 first
  | exact Aa (m:=ac _) (AC (Af ⟨_,rfl,Af h⟩) Ew)
  | exact Aa (m:=ac _) (AC (Aa (Af (Af ⟨_,rfl,Af h⟩))) Ew)
  | exact Aa (Aa (m:=ac _) (AC (Af (Af ⟨_,rfl,Af h⟩)) Ew))
  | exact Aa (Aa (m:=ac _) (AC (Af ⟨_,rfl,Af h⟩) Ew))
end
end HT
namespace L2
open PySem PySem.Spec PyProof.Rows
abbrev TO:=St->Hp->(Option Int->Hp->Prop)->Prop
noncomputable def PO (X:Cx)(e:Option Av)(t:TO):Prop :=
 ∀(B4:List (Ab×Obj)) (s:Ad) (σ:St) (H:Hp) (Q:Option Int->Hp->Prop),Inv X B4 σ H s->t σ H Q ->
  wpAny (Ai X.prog X.w) X.A (evalPart e X.env) (fun u s'=>∃ o H',Inv X B4 σ H' s'/\IsPart u o/\Q o H') X.xe s
def Wk:TO:=fun _ H Q=>Q none H
def tPart (t:TE):TO:=fun σ H Q=>t σ H fun x H1=>∃ i,x=.int i/\Q (some i) H1
section
variable {X:Cx}{e:Av}{te:TE}{lo hi:Option Av}{tl th:TO}{pos p2:Pos}
theorem Pe:PO X none Wk:=by
 intro B4 s σ H Q I h
 rw[evalPart_none]
 exact Af ⟨none,H,I,.none,h⟩
theorem NR (h:PE X e te):PO X (some e) (tPart te):=by
 intro B4 s σ H Q I hw
 rw[evalPart_some]
 refine thn (h B4 s σ H _ I hw) fun u s1 hI9=>?_
 obtain⟨x,H1,I1,r1,q1⟩:=hI9
 obtain⟨i,rfl,q⟩:=q1
 obtain⟨t,rfl⟩:=r1
 exact⟨some i,H1,I1,.int i t,q⟩
noncomputable def SlR (X:Cx)(r:V->Option Int->Option Int->Hp->VK->Prop):Prop :=
 ∀(B4:List (Ab×Obj)) (s:Ad) (σ:St) (H:Hp) (x:V) (v vl vu:Ac) (lo hi:Option Int) (sl:Ab) (Q:VK),Inv X B4 σ H s->RelV x v->s.heap.IsSliceOf sl vl vu .none->IsPart vl lo->IsPart vu hi->r x lo hi H Q ->
  ∃ T id,AX (.type T) "__getitem__"=pure (some (.builtin id))/\s.TypeIs v T/\wpAny (Ai X.prog X.w) X.A (Bw v (.ref sl)) (EP X B4 σ Q) X.xe s
def tSl (r:V->Option Int->Option Int->Hp->VK->Prop)(te:TE)(tl th:TO):TE:=fun σ H Q=>te σ H fun x H1=>tl σ H1 fun l H2=>th σ H2 fun u H3=>r x l u H3 Q
theorem Ob (hr:SlR X r) (he:PE X e te) (hl:PO X lo tl) (hu:PO X hi th):PE X (.Subscript e (.Slice lo hi none p2) pos) (tSl r te tl th):=by
 intro B4 s σ H Q I h
 refine Subscript_ (thn (he B4 s σ H _ I h) fun v s1 hI9=>?_)
 obtain⟨x,H1,I1,r1,q1⟩:=hI9
 refine wpAny_Slice (thn (hl B4 s1 σ H1 _ I1 q1) fun vl s2 ⟨l,H2,I2,pl,q2⟩=>thn (hu B4 s2 σ H2 _ I2 q2) fun vu s3 hI9=>?_)
 obtain⟨u,H3,I3,pu,q3⟩:=hI9
 rw[evalPart_none]
 refine Af ?_
 have I4:Inv X B4 σ H3 { s3 with heap:=s3.heap.push { cls:=.type "slice",data:=.fields #[vl,vu,.none] } }:=I3.kept (t':=s3.toks) fun b ob q=>Ng _ q
 obtain⟨T,id,hT,ht,hg⟩:=hr B4 { s3 with heap:=s3.heap.push { cls:=.type "slice",data:=.fields #[vl,vu,.none] } } σ H3 x v vl vu l u s3.heap.objs.size Q I4 r1 (Heap.IsSliceOf.new ..) pl pu q3
 show wpAny (Ai X.prog X.w) X.A (BS e (.Slice lo hi none p2) v (.ref s3.heap.objs.size)) (EP X B4 σ Q) X.xe { s3 with heap:=s3.heap.push { cls:=.type "slice",data:=.fields #[vl,vu,.none] } }
 exact tail_any (ops:=[.ref s3.heap.objs.size,v]) ht hT hg (by with_unfolding_all rfl)
noncomputable def cutV (xs:List V)(lo hi:Option Int):List V:=(xs.drop (HT.sIx xs.length 0 lo)).take (HT.sIx xs.length xs.length hi - HT.sIx xs.length 0 lo)
theorem Wl (xs:List V)(lo hi:Option Int):(cutV xs lo hi).length<=xs.length:=by
 unfold cutV
 rw[NX,Qh]
 omega
def rSlT (K:MV):V->Option Int->Option Int->Hp->VK->Prop:=fun x lo hi H Q=>∃ a xs,x=.ref a/\SqT K H a xs /\
 ¬ (HT.sIx xs.length 0 lo=0/\HT.sIx xs.length xs.length hi=xs.length)/\∀ p,H p=none->Q (.ref p) (upd H p (.tup (cutV xs lo hi)))
theorem sl_tup:SlR X (rSlT X.K):=by
 intro B4 s σ H x v vl vu lo hi sl Q I rx hs pl pu h
 obtain⟨a,xs,rfl,hx,hw,q⟩:=h
 cases rx
 obtain⟨its,r,ht,hz⟩:=I.tuple hx
 have B8:its.toArray.size=xs.length:=by rw[NC];exact r.length.symm
 refine⟨"tuple",_,bA.lookup,ht.typeIs,?_⟩
 refine HT.getItem_tuple_cut ht hs pl pu (by rw[B8];exact hw) ?_ (by rw[B8];exact hz)
 rw[B8]
 refine⟨.ref s.heap.objs.size,_,I.laid (t':=s.toks) (o:=.tup (cutV xs lo hi)) (fun b ob q=>Ng _ q) (M6 _) ?_,rfl,q _ (I.hok.fresh (M6 _))⟩
 exact⟨NI (Wl xs lo hi) hz,_,(r.drop (HT.sIx xs.length 0 lo)).take (HT.sIx xs.length xs.length hi - HT.sIx xs.length 0 lo),IsTup.new _ _,DcN.new _ _⟩
def rCatT (K:MV):R2:=fun x y H Q=>∃ a b xs ys,x=.ref a/\y=.ref b/\SqT K H a xs/\SqT K H b ys/\xs≠[]/\xs.length+ys.length<=Ae /\
 (ys=[]->Q (.ref a) H)/\(ys≠[]->∀ p,H p=none->Q (.ref p) (upd H p (.tup (xs++ys))))
theorem Vals.nil_iff (r:Vals xs us):us=[]↔xs=[]:=by
 cases r with
 | nil=>simp
 | cons _ _=>simp
theorem cL:OpR X (AI .Add) (rCatT X.K):=by
 intro B4 s σ H x y v u Q I rx ry h
 obtain⟨a,b,xs,ys,rfl,rfl,ha,hb,hx,hz,q1,q2⟩:=h
 cases rx
 cases ry
 obtain⟨its,r1,p1,_⟩:=I.tuple ha
 obtain⟨its2,r2,p2,_⟩:=I.tuple hb
 refine HT.cat_tup p1 p2 (fun z=>hx (r1.nil_iff.mp z)) (fun z=>⟨.ref a,H,I,rfl,q1 (r2.nil_iff.mp z)⟩) (fun z=>?_) (by rw[<- r1.length,<- r2.length];exact hz)
 refine⟨.ref s.heap.objs.size,_,I.laid (t':=s.toks) (o:=.tup (xs++ys)) (fun b ob q=>Ng _ q) (M6 _) ?_,rfl,q2 (fun w=>z (r2.nil_iff.mpr w)) _ (I.hok.fresh (M6 _))⟩
 exact⟨by rw[No];exact hz,_,r1.append r2,IsTup.new _ _,DcN.new _ _⟩
end
noncomputable def ixN (n:Nat)(i:Int):Option Nat:=if 0<=i then (if i < n then some i.toNat else none) else if -(n:Int)<=i then some (i+n).toNat else none
noncomputable def atI {α:Type}(xs:List α)(i:Int):Option α:=(ixN xs.length i).bind fun j=>xs[j]?
theorem Wm (h:ixN n i=some j):seqIndex? i n=some j/\j < n/\-(n:Int)<=i/\i < n:=by
 unfold ixN at h
 by_cases h0:0<=i
 ·rw[B3 h0] at h
  by_cases h1:i < n
  ·rw[B3 h1] at h
   have e:i.toNat=j:=Option.some.inj h
   exact⟨by rw[seqIndex_of h0 h1,e],by omega,by omega,h1⟩
  ·rw[B2 h1] at h;cases h
 ·rw[B2 h0] at h
  by_cases h1:-(n:Int)<=i
  ·rw[B3 h1] at h
   have e:(i+n).toNat=j:=Option.some.inj h
   exact⟨by rw[BY (by omega) h1,e],by omega,h1,by omega⟩
  ·rw[B2 h1] at h;cases h
theorem Tq (h:atI xs i=some v):∃ j,seqIndex? i xs.length=some j/\xs[j]?=some v/\j < xs.length/\-(xs.length:Int)<=i/\i < xs.length:=by
 unfold atI at h
 cases e:ixN xs.length i with
 | none=>rw[e] at h;cases h
 | some j =>
  rw[e] at h
  obtain⟨h1,h2,h3,h4⟩:=Wm e
  exact⟨j,h1,h,h2,h3,h4⟩
theorem QH {α:Type}{xs:List α}{j:Nat}{v:α}(h:xs[j]?=some v):atI xs (j:Int)=some v:=by
 have hj:j < xs.length:=(NJ.mp h).1
 have e:ixN xs.length (j:Int)=some j:=by
  unfold ixN
  rw[B3 (by omega),B3 (by omega)];simp
 unfold atI;rw[e];exact h
def Wo (b:Av):Prop:=∀ o i,BJ b false o i=operate [o,i] (Bw o i)
noncomputable def IxR (X:Cx)(r:R2):Prop :=
 ∀(value slice:Av) (B4:List (Ab×Obj)) (s:Ad) (σ:St) (H:Hp) (x y:V) (v u:Ac) (Q:VK),Inv X B4 σ H s->RelV x v->RelV y u->r x y H Q ->
  BJ slice false v u=operate [v,u] (Bw v u)->wpAny (Ai X.prog X.w) X.A (BS value slice v u) (EP X B4 σ Q) X.xe s
noncomputable def MtR (X:Cx)(id:String)(r:V->List V->Hp->VK->Prop):Prop :=
 ∀(B4:List (Ab×Obj)) (s:Ad) (σ:St) (H:Hp) (x:V) (xs:List V) (v:Ac) (us:List Ac) (Q:VK),Inv X B4 σ H s->RelV x v->Vals xs us->r x xs H Q ->
  wpAny (Ai X.prog X.w) X.A (call (.builtin id) (v::us)) (EP X B4 σ Q) X.xe s
section
variable {X:Cx}{a b:Av}{ta tb:TE}{pos:Pos}
theorem pe_ix (hr:IxR X r) (ha:PE X a ta) (hb:PE X b tb) (hs:Wo b):PE X (.Subscript a b pos) (tOp r ta tb):=by
 intro B4 s σ H Q I h
 exact Subscript_ (binT ha hb I h fun v u s2 x y H2 I2 rx ry q=>hr a b B4 s2 σ H2 x y v u Q I2 rx ry q (hs _ _))
def rIxL (K:MV):R2:=fun x y H Q=>∃ p xs i v,x=.ref p/\y=.int i/\SqL K H p xs/\atI xs i=some v/\Q v H
def rIxT (K:MV):R2:=fun x y H Q=>∃ p xs i v,x=.ref p/\y=.int i/\SqT K H p xs/\atI xs i=some v/\Q v H
def rIxS:R2:=fun x y H Q=>∃ z i c,x=.str z/\y=.int i/\z.length<=Ae/\atI z.cps.toList i=some c/\Q (.str ⟨#[c]⟩) H
theorem cM:IxR X (rIxL X.K):=by
 intro value slice B4 s σ H x y v u Q I rx ry h hs
 obtain⟨p,xs,i,z,rfl,rfl,hq,he,q⟩:=h
 cases rx
 obtain⟨t,rfl⟩:=ry
 obtain⟨its,r,pl,hz⟩:=I.list hq
 obtain⟨j,h1,h2,h3,h4,h5⟩:=Tq he
 obtain⟨w,ew,rw'⟩:=r.get h2
 have hl:=r.length
 have hn:=Tl
 have fin:EP X B4 σ Q w s:=⟨z,H,I,rw',q⟩
 by_cases h0:0<=i
 ·have hj:i.toNat=j:=by
   rw[seqIndex_of h0 h5] at h1
   exact Option.some.inj h1
  exact item_listR pl.isList h0 (by omega) (by rw[hj];simpa using ew) fin hs
 ·have hj:(i+(its.toArray.size:Int)).toNat=j:=by
   rw[BY (by omega) h4] at h1
   rw[NC,<- hl]
   exact Option.some.inj h1
  exact BC (x:=w) pl.isList.typeIs slot_list_getitem.lookup
   (wpAny_getItem_list_neg (Q:=fun r s'=>r=w/\EP X B4 σ Q r s') pl.isList (by omega) (by rw[NC] <;> omega) (by omega) (by rw[hj];simpa using ew) ⟨rfl,fin⟩) hs
theorem ix_tup:IxR X (rIxT X.K):=by
 intro value slice B4 s σ H x y v u Q I rx ry h hs
 obtain⟨p,xs,i,z,rfl,rfl,hq,he,q⟩:=h
 cases rx
 obtain⟨t,rfl⟩:=ry
 obtain⟨its,r,pl,hz⟩:=I.tuple hq
 obtain⟨j,h1,h2,h3,h4,h5⟩:=Tq he
 obtain⟨w,ew,rw'⟩:=r.get h2
 have hl:=r.length
 have hn:=Tl
 have fin:EP X B4 σ Q w s:=⟨z,H,I,rw',q⟩
 exact BC (x:=w) pl.typeIs slot_tuple_getitem.lookup
  (getItem_tuple (j:=j) (Q:=fun r s'=>r=w/\EP X B4 σ Q r s') pl (by omega) (by omega) (by rw[NC,<- hl];exact h1) (by simpa using ew) ⟨rfl,fin⟩) hs
theorem ix_str:IxR X rIxS:=by
 intro value slice B4 s σ H x y v u Q I rx ry h hs
 obtain⟨z,i,c,rfl,rfl,hz,he,q⟩:=h
 obtain⟨t,rfl⟩:=rx
 obtain⟨t',rfl⟩:=ry
 obtain⟨j,h1,h2,h3,h4,h5⟩:=Tq he
 have hl:z.cps.toList.length=z.length:=by simp[Str.length]
 rw[hl] at h1 h4 h5
 have hn:=Tl
 exact tail_any (Br s z t) slot_str_getitem.lookup (getItem_str (c:=c) (by
  have e1:decide (i < -(2 ^ 63:Int))=false:=B0 (by omega)
  have e2:decide (i≥2 ^ 63)=false:=B0 (by omega)
  rw[e1,e2,Ve]) (by rw[h1];simpa using h2) ⟨.str ⟨#[c]⟩,H,I.tok _,⟨_,rfl⟩,q⟩) hs
theorem cN (its:List Ac)(n j:Nat)(u:Ac):VR (·.setIfInBounds j u) { cls:=.type "list",data:=.seq its.toArray n }={ cls:=.type "list",data:=.seq (its.set j u).toArray n }:=by
 simp[VR]
theorem Inv.lst (I:Inv X B4 σ H s) (h:H p=some (.lst xs)):
  ∃(its:List Ac) (n:Nat),Vals xs its/\s.heap.get? p=some { cls:=.type "list",data:=.seq its.toArray n }/\xs.length<=Ae:=by
 obtain⟨z,its,n,r,e⟩:=I.hok p _ h
 exact⟨its,n,r,e,z⟩
theorem Inv.lstUpd {B4:List (Ab×Obj)}{σ:St}{H:Hp}{s:Ad}{p:Ab}{xs ys:List V}{its its':List Ac}{n n':Nat}{f:Obj->Obj}(I:Inv X B4 σ H s)(h:H p=some (.lst xs))
  (ho:s.heap.get? p=some { cls:=.type "list",data:=.seq its.toArray n }) (hf:f { cls:=.type "list",data:=.seq its.toArray n }={ cls:=.type "list",data:=.seq its'.toArray n' }) (r:Vals ys its') (hz:ys.length<=Ae) (t:Nat) :
  Inv X B4 σ (upd H p (.lst ys)) { s with heap:=s.heap.update p f,toks:=t }:=by
 have e:(s.heap.update p f).get? p=some { cls:=.type "list",data:=.seq its'.toArray n' }:=by
  rw[SH f ho (by rw[hf] <;> rfl),hf]
 refine I.write (x:=p) (e:=p) (by rw[h];trivial) (.inl rfl) (fun b u hb q=>(Qx _ _ (M7 hb)).trans q) ⟨_,e⟩ ?_
 exact⟨hz,its',n',r,e⟩
def rSetL:V->V->V->Hp->(Hp->Prop)->Prop:=fun o i v H Q=>∃ p xs k j,o=.ref p/\i=.int k/\H p=some (.lst xs)/\ixN xs.length k=some j/\Q (upd H p (.lst (xs.set j v)))
theorem cP:PSet X rSetL:=by
 intro B4 s σ H o i v ov iv u Q I ro ri rv h
 obtain⟨p,xs,k,j,rfl,rfl,hp,hj,q⟩:=h
 cases ro
 obtain⟨t,rfl⟩:=ri
 obtain⟨its,n,r,ho,hz⟩:=I.lst hp
 obtain⟨h1,h2,h3,h4⟩:=Wm hj
 have hl:=r.length
 have hn:=Tl
 have I':Inv X B4 σ (upd H p (.lst (xs.set j v))) { s with heap:=s.heap.update p (VR (·.setIfInBounds j u)) } :=
  I.lstUpd hp ho (cN its n j u) (r.set rv j) (by rw[List.length_set];exact hz) s.toks
 by_cases h0:0<=k
 ·have hk:k.toNat=j:=by
   rw[seqIndex_of h0 h4] at h1
   exact Option.some.inj h1
  exact PySem.W.ki_setAt ho h0 (by omega) (by rw[NC,<- hl];exact h4) (by rw[hk];exact⟨_,I',q⟩)
 ·have hk:(k+(its.toArray.size:Int)).toNat=j:=by
   rw[BY (by omega) h3] at h1
   rw[NC,<- hl]
   exact Option.some.inj h1
  exact PySem.W.ki_setBack ho (by omega) (by rw[NC,<- hl];exact h3) (by omega) (by rw[hk];exact⟨_,I',q⟩)
theorem cQ (lo hi:Option Int)(n:Nat):(A5 lo hi none n).1=((HT.sIx n 0 lo:Nat):Int)/\(A5 lo hi none n).2.1=((HT.sIx n n hi:Nat):Int)/\(A5 lo hi none n).2.2=1:=by
 refine⟨?_,?_,rfl⟩
 ·cases lo with
  | none=>simp[A5,HT.sIx]
  | some i =>
   simp only[A5,HT.sIx,Option.getD_none,show (1:Int) > 0 by decide,if_true]
   by_cases h:i < 0
   ·simp only[h,if_true] <;> omega
   ·simp only[h,if_false] <;> omega
 ·cases hi with
  | none=>simp[A5,HT.sIx]
  | some i =>
   simp only[A5,HT.sIx,Option.getD_none,show (1:Int) > 0 by decide,if_true]
   by_cases h:i < 0
   ·simp only[h,if_true] <;> omega
   ·simp only[h,if_false] <;> omega
theorem cR (its:List Ac)(lo hi:Option Int):slicePick its.toArray lo hi none=((its.drop (HT.sIx its.length 0 lo)).take (HT.sIx its.length its.length hi - HT.sIx its.length 0 lo)).toArray:=by
 obtain⟨h1,h2,h3⟩:=cQ lo hi its.toArray.size
 unfold slicePick
 rw[h1,h2,h3]
 simp only[sliceRange_one,pick_run,NC] <;> rfl
def rSlL (K:MV):V->Option Int->Option Int->Hp->VK->Prop:=fun x lo hi H Q=>∃ a xs,x=.ref a/\SqL K H a xs/\∀ p,H p=none->Q (.ref p) (upd H p (.lst (cutV xs lo hi)))
theorem cS:SlR X (rSlL X.K):=by
 intro B4 s σ H x v vl vu lo hi sl Q I rx hs pl pu h
 obtain⟨a,xs,rfl,hx,q⟩:=h
 cases rx
 obtain⟨its,r,ht,hz⟩:=I.list hx
 have B8:=r.length
 refine⟨"list",_,slot_list_getitem.lookup,ht.isList.typeIs,?_⟩
 refine wpAny_getItem_list_slice ht.isList hs pl pu .none (by simp) ?_ (by rw[NC] <;> omega)
 rw[cR,<- B8]
 refine⟨.ref s.heap.objs.size,_,I.laid (t':=s.toks) (o:=.lst (cutV xs lo hi)) (fun b ob q=>Ng _ q) (M6 _) ?_,rfl,q _ (I.hok.fresh (M6 _))⟩
 exact⟨NI (Wl xs lo hi) hz,_,0,(r.drop (HT.sIx xs.length 0 lo)).take (HT.sIx xs.length xs.length hi - HT.sIx xs.length 0 lo),NE _ rfl⟩
noncomputable def PN:V->Bool
 | .non=>true
 | .bl _=>true
 | .int _=>true
 | .str _=>true
 | _=>false
noncomputable def eqV:V->V->Bool
 | .non,.non=>true
 | .bl a,.bl b=>a == b
 | .bl a,.int b=>(if a then 1 else 0) == b
 | .int a,.bl b=>a == (if b then 1 else 0)
 | .int a,.int b=>a == b
 | .str a,.str b=>a == b
 | _,_=>false
theorem eqAt_V (ry:RelV y u) (rx:RelV x v) (fy:PN y=true) (fx:PN x=true):O1 A s u v (eqV y x):=by
 cases y with
 | non =>
  cases ry
  cases x with
  | non=>cases rx;exact O1.same _
  | bl b=>cases rx;exact O1.none_bool b
  | int b=>obtain⟨t,rfl⟩:=rx;exact O1.none_int b t
  | str b=>obtain⟨t,rfl⟩:=rx;exact O1.none_str b t
  | _=>exact absurd (show false=true from fx) Nj
 | bl a =>
  cases ry
  cases x with
  | non=>cases rx;exact O1.bool_none a
  | bl b=>cases rx;exact O1.bool_bool a b
  | int b=>obtain⟨t,rfl⟩:=rx;exact O1.bool_int a b t
  | str b=>obtain⟨t,rfl⟩:=rx;exact O1.bool_str a b t
  | _=>exact absurd (show false=true from fx) Nj
 | int a =>
  obtain⟨t',rfl⟩:=ry
  cases x with
  | non=>cases rx;exact O1.int_none a t'
  | bl b=>cases rx;exact O1.int_bool a t' b
  | int b=>obtain⟨t,rfl⟩:=rx;exact O1.int_int a t' b t
  | str b=>obtain⟨t,rfl⟩:=rx;exact kr a t' b t
  | _=>exact absurd (show false=true from fx) Nj
 | str a =>
  obtain⟨t',rfl⟩:=ry
  cases x with
  | non=>cases rx;exact O1.str_none a t'
  | bl b=>cases rx;exact O1.str_bool a t' b
  | int b=>obtain⟨t,rfl⟩:=rx;exact kt a t' b t
  | str b=>obtain⟨t,rfl⟩:=rx;exact O1.str_str a t' b t
  | _=>exact absurd (show false=true from fx) Nj
 | _=>exact absurd (show false=true from fy) Nj
noncomputable def eqU (x:V)(u:Ac):Bool:=match u with
 | .none=>eqV .non x
 | .bool b=>eqV (.bl b) x
 | .int i _=>eqV (.int i) x
 | .str z _=>eqV (.str z) x
 | _=>false
theorem Wp (r:RelV y u) (f:PN y=true):eqU x u=eqV y x:=by
 cases y with
 | non=>cases r;rfl
 | bl b=>cases r;rfl
 | int i=>obtain⟨t,rfl⟩:=r;rfl
 | str z=>obtain⟨t,rfl⟩:=r;rfl
 | _=>exact absurd (show false=true from f) Nj
theorem Tr {x:V}:∀{xs:List V}{us:List Ac},Vals xs us->xs.all PN=true->us.any (eqU x)=xs.any fun y=>eqV y x
 | _,_,.nil,_=>rfl
 | y::xs,u::us,.cons r t,f=>by
  rw[a_,NS] at f
  rw[Pp,Pp,Wp r f.1,Tr t f.2]
theorem Tt {A:Am}{s:Ad}{x:V}{v:Ac}(rx:RelV x v)(fx:PN x=true):∀{xs:List V}{us:List Ac},Vals xs us->xs.all PN=true->∀ u∈us,O1 A s u v (eqU x u)
 | _,_,.nil,_=>fun u hu=>by cases hu
 | y::xs,u::us,.cons r t,f=>fun u' hu=>by
  rw[a_,NS] at f
  rcases Nf.mp hu with rfl | hu
  ·rw[Wp r f.1];exact eqAt_V r rx f.1 fx
  ·exact Tt rx fx t f.2 u' hu
noncomputable def inV (x:V)(xs:List V):Bool:=xs.any fun y=>eqV y x
def rIn (K:MV)(neg:Bool):R2:=fun x y H Q=>∃ p xs,y=.ref p/\(SqL K H p xs∨SqT K H p xs)/\PN x=true/\xs.all PN=true/\Q (.bl (if neg then !inV x xs else inV x xs)) H
theorem Wq:OpR X (Ar .In) (rIn X.K false):=by
 intro B4 s σ H x y v u Q I rx ry h
 obtain⟨p,xs,rfl,hq,fx,fs,q⟩:=h
 cases ry
 rcases hq with hq | hq
 ·obtain⟨its,r,pl,hz⟩:=I.list hq
  refine SeqAt.in_listAt (eqU x) pl.isList (fun w hw=>Tt rx fx r fs w (by simpa using hw)) ⟨.bl _,H,I,rfl,?_⟩
  rw[show its.toArray.any (eqU x)=its.any (eqU x) by simp,Tr r fs]
  exact q
 ·obtain⟨its,r,pl,hz⟩:=I.tuple hq
  refine SeqAt.in_tupleAt (eqU x) pl (fun w hw=>Tt rx fx r fs w (by simpa using hw)) ⟨.bl _,H,I,rfl,?_⟩
  rw[show its.toArray.any (eqU x)=its.any (eqU x) by simp,Tr r fs]
  exact q
theorem cT:CallR X (.builtin "len") (fun xs H Q=>∃ p ys,xs=[.ref p]/\(SqL X.K H p ys∨SqT X.K H p ys)/\Q (.int ys.length) H):=by
 intro B4 s σ H xs us Q I r h
 obtain⟨p,ys,rfl,hq,q⟩:=h
 obtain⟨u,rfl,rx⟩:=Op r
 cases rx
 have hn:=Tl
 rcases hq with hq | hq
 ·obtain⟨its,r',pl,hz⟩:=I.list hq
  have B8:=r'.length
  exact Calls.call_len_list pl.isList (by simp only[NC] <;> omega) ⟨.int ys.length,H,I.tok _,⟨s.toks+1,by rw[NC,B8]⟩,q⟩
 ·obtain⟨its,r',pl,hz⟩:=I.tuple hq
  have B8:=r'.length
  exact len_tuple pl (by simp only[NC] <;> omega) ⟨.int ys.length,H,I.tok _,⟨s.toks+1,by rw[NC,B8]⟩,q⟩
theorem cU:CallR X (.builtin "len") (fun xs H Q=>∃ z,xs=[.str z]/\z.length<=Ae/\Q (.int z.length) H):=by
 intro B4 s σ H xs us Q I r h
 obtain⟨z,rfl,hz,q⟩:=h
 obtain⟨u,rfl,t,rfl⟩:=Op r
 have hn:=Tl
 exact len_str (by omega) ⟨.int z.length,H,I.tok _,⟨_,rfl⟩,q⟩
theorem call_list_of:CallR X (.type "list") (fun xs H Q=>∃ p ys,xs=[.ref p]/\(SqL X.K H p ys∨SqT X.K H p ys)/\∀ l,H l=none->Q (.ref l) (upd H l (.lst ys))):=by
 intro B4 s σ H xs us Q I r h
 obtain⟨p,ys,rfl,hq,q⟩:=h
 obtain⟨u,rfl,rx⟩:=Op r
 cases rx
 have fin:∀(its:List Ac),Vals ys its->ys.length<=Ae->∀(h':An) (c':Nat),(∀ b o',s.heap.get? b=some o'->h'.get? b=some o') ->
   h'.get? s.heap.objs.size=some { cls:=.type "list",dict:=none,data:=.seq its.toArray c',slots:=#[] }->EP X B4 σ Q (.ref s.heap.objs.size) { s with heap:=h' }:=fun its r' hz h' c' kp e =>
  ⟨.ref s.heap.objs.size,_,I.laid (t':=s.toks) kp (M6 _) (show ObjOk X.prog X.w _ h' _ (.lst ys) from ⟨hz,its,c',r',e⟩),rfl,q _ (I.hok.fresh (M6 _))⟩
 rcases hq with hq | hq
 ·obtain⟨its,r',pl,hz⟩:=I.list hq
  have B8:=r'.length
  obtain⟨o,ho,hc,n,hd⟩:=pl.isList
  exact call_list_seq p (.inl rfl) ho hc hd (fun h' c' kp e=>fin its r' hz h' c' kp e) (by simp only[NC] <;> omega)
 ·obtain⟨its,r',pl,hz⟩:=I.tuple hq
  have B8:=r'.length
  obtain⟨o,ho,hc,n,hd⟩:=pl
  exact call_list_seq p (.inr rfl) ho hc hd (fun h' c' kp e=>fin its r' hz h' c' kp e) (by simp only[NC] <;> omega)
theorem call_tuple_of:CallR X (.type "tuple") (fun xs H Q=>∃ p ys,xs=[.ref p]/\((SqL X.K H p ys/\∀ l,H l=none->Q (.ref l) (upd H l (.tup ys)))∨(SqT X.K H p ys/\Q (.ref p) H))):=by
 intro B4 s σ H xs us Q I r h
 obtain⟨p,ys,rfl,h⟩:=h
 obtain⟨u,rfl,rx⟩:=Op r
 cases rx
 rcases h with ⟨hq,q⟩ | ⟨hq,q⟩
 ·obtain⟨its,r',pl,hz⟩:=I.list hq
  have B8:=r'.length
  refine call_tuple_list pl.isList (fun h' kp=>?_) (by simp only[NC] <;> omega)
  have I1:Inv X B4 σ H { s with heap:=h' }:=I.kept (t':=s.toks) kp
  have I2:Inv X B4 σ (upd H h'.objs.size (.tup ys)) { s with heap:=h'.push { cls:=.type "tuple",data:=.seq its.toArray } } :=
   I1.laid (t':=s.toks) (fun b o e=>Ng _ e) (M6 _) (show ObjOk X.prog X.w _ _ _ (.tup ys) from ⟨hz,its,r',IsTup.new _ _,DcN.new _ _⟩)
  exact⟨.ref h'.objs.size,_,I2,rfl,q _ (I1.hok.fresh (M6 _))⟩
 ·obtain⟨its,r',pl,hz⟩:=I.tuple hq
  exact call_tuple_same pl ⟨.ref p,H,I,rfl,q⟩
def tyV (K:MV)(T:String)(x:V)(H:Hp):Prop:=match x with
 | .str _=>T="str"
 | .int _=>T="int"
 | .ref p=>(T="list"/\∃ xs,SqL K H p xs)∨(T="tuple"/\∃ o,K.lookup p=some o/\o.cls=.type "tuple"/\o.dict=none) ∨
   (T="dict"/\((∃ kvs,H p=some (.dK kvs))∨∃ kvs,H p=some (.dT kvs)))∨(T="set"/\∃ S n,H p=some (.set S n))
 | _=>False
theorem Wr (I:Inv X B4 σ H s) (r:RelV x v) (ty:tyV X.K T x H):
  s.TypeIs v T/\∀ a,v=.ref a->∃ ob,s.heap.get? a=some ob/\ob.dict=none:=by
 cases x with
 | str z =>
  obtain⟨t,rfl⟩:=r
  cases (show T="str" from ty)
  exact⟨Br s z t,fun _ e=>nomatch e⟩
 | int i =>
  obtain⟨t,rfl⟩:=r
  cases (show T="int" from ty)
  exact⟨typeIs_int s i t,fun _ e=>nomatch e⟩
 | ref p =>
  cases r
  rcases ty with ⟨rfl,xs,hq⟩ | ⟨rfl,o,hk,hc,hd⟩ | ⟨rfl,hk⟩ | ⟨rfl,S,n,hk⟩
  ·obtain⟨its,_,pl,_⟩:=I.list hq
   refine⟨pl.isList.typeIs,fun a e=>?_⟩
   cases e
   obtain⟨o,n,e,c,hd,_⟩:=pl
   exact⟨o,e,hd⟩
  ·refine⟨⟨o,I.kIn p o hk,hc⟩,fun a e=>?_⟩
   cases e
   exact⟨o,I.kIn _ o hk,hd⟩
  ·have z:∃ o,s.heap.get? p=some o/\o.ExactDict:=by
    rcases hk with ⟨kvs,hk⟩ | ⟨kvs,hk⟩
    ·obtain⟨_,_,_,_,o,_,_,e,ex,_⟩:=I.hok p _ hk
     exact⟨o,e,ex⟩
    ·obtain⟨_,_,_,_,o,_,_,e,ex,_⟩:=I.hok p _ hk
     exact⟨o,e,ex⟩
   obtain⟨o,e,ex⟩:=z
   refine⟨⟨o,e,ex.1⟩,fun a e2=>?_⟩
   cases e2
   exact⟨o,e,ex.2.1⟩
  ·obtain⟨o,_,_,_,e,ex,_⟩:=I.hok p _ hk
   refine⟨⟨o,e,ex.1⟩,fun a e2=>?_⟩
   cases e2
   exact⟨o,e,ex.2.1⟩
 | _=>exact O4 ty
def tBM0 (K:MV)(T:String)(r:V->List V->Hp->VK->Prop)(to:TE):TE:=fun σ H Q=>to σ H fun x H1=>tyV K T x H1/\r x [] H1 Q
def tBM (K:MV)(T:String)(r:V->List V->Hp->VK->Prop)(to:TE)(t:TA):TE:=fun σ H Q=>to σ H fun x H1=>tyV K T x H1/\t σ H1 fun xs H2=>r x xs H2 Q
variable {o e:Av}{es:List Av}{to:TE}{t:TA}{name:Str}{Ck cpos:Pos}{T id:String}{r:V->List V->Hp->VK->Prop}
theorem pe_bm0 (pa:BW T)(slot:Slot T name id)(Ge:typeOf (.builtin id)=pure (.type "method_descriptor"))(hm:MtR X id r)(ho:PE X o to)
  (D9:AH o name X.env (Aq o X.env)=Aq o X.env:=by rfl) (D_:(Ck.endLine == cpos.line)=true:=by rfl):PE X (.Call (.Attribute o name Ck) [] [] cpos) (tBM0 X.K T r to):=by
 intro B4 s σ H Q I h
 refine wpAny_Call_method0_late D9 D_ (thn (ho B4 s σ H _ I h) fun v s1 hI9=>?_)
 obtain⟨x,H1,I1,r1,ty,q1⟩:=hI9
 obtain⟨h1,h2⟩:=Wr I1 r1 ty
 exact⟨T,id,pa,slot,Ge,h1,h2,j_ rfl (PySem.evalArgs_none (hm B4 s1 σ H1 x [] v [] Q I1 r1 .nil q1))⟩
theorem pe_bm (pa:BW T)(slot:Slot T name id)(Ge:typeOf (.builtin id)=pure (.type "method_descriptor"))(hm:MtR X id r)(ho:PE X o to)(ha:PA X (e::es) t)
  (D9:AH o name X.env (Aq o X.env)=Aq o X.env:=by rfl)
  (Gf:((AB cpos (Ag (e::es) X.env)).all (fun x=>!x.1)&&(A8 cpos (AR [] X.env)).all (fun x=>x.1.isSome)
   && decide ((e::es).length+([]:List Bv).length+(if ([]:List Bv).isEmpty then 0 else 1) < 30))=true:=by rfl)
  (D_:(Ck.endLine == cpos.line)=true:=by rfl) (hs:Ag (e::es) X.env=(false,Aq e X.env)::Ag es X.env:=by rfl) (Gg:(AB cpos (Ag es X.env)).any (·.1)=false:=by rfl) :
  PE X (.Call (.Attribute o name Ck) (e::es) [] cpos) (tBM X.K T r to t):=by
 intro B4 s σ H Q I h
 refine wpAny_Call_method_late D9 Gf D_ rfl (thn (ho B4 s σ H _ I h) fun v s1 hI9=>?_)
 obtain⟨x,H1,I1,r1,ty,q1⟩:=hI9
 obtain⟨h1,h2⟩:=Wr I1 r1 ty
 refine⟨T,id,pa,slot,Ge,h1,h2,?_⟩
 have hA:=ha cpos B4 s1 σ H1 _ I1 q1
 rw[hs] at hA ⊢
 refine j_ (by show (false || (AB cpos (Ag es X.env)).any (·.1))=false;rw[Gg] <;> rfl) (Calls.evalArgs_plain ?_)
 exact thn hA fun us s2 ⟨vs,H2,I2,r2,q2⟩=>hm B4 s2 σ H2 x vs v us Q I2 r1 r2 q2
/- xs.append(e),list.index on a module's tuple .. are MtR facts of 06m -/
end
noncomputable def MtM (X:Cx)(id:String)(r:V->List V->Hp->VK->Prop):Prop :=
 ∀(B4:List (Ab×Obj)) (s:Ad) (σ:St) (H:Hp) (x:V) (xs:List V) (v:Ac) (us:List Ac) (Q:VK),Inv X B4 σ H s->RelV x v->Vals xs us->r x xs H Q ->
  wpAny (Ai X.prog X.w) X.A (call (.builtin id) (v::us)) (EP X B4 σ Q) X.xe s
theorem Vals.one:∀{x:V}{us:List Ac},Vals [x] us->∃ u,us=[u]/\RelV x u
 | _,_,.cons r .nil=>⟨_,rfl,r⟩
theorem Vals.rep {xs:List V}{us:List Ac}(h:Vals xs us):∀ k:Nat,Vals (Nr k xs).flatten (Nr k us).flatten
 | 0=>.nil
 | k+1=>by
  rw[Vd,Vd,S6,S6]
  exact Vals.append h (Vals.rep h k)
theorem Ws (its:List Ac):∀(k:Nat) (B6:List Ac),
  VD (fun x1 x2=>x1++x2) B6.toArray (Nr k its.toArray)=(B6++(Nr k its).flatten).toArray
 | 0,B6=>by simp
 | k+1,B6=>by
  have e:B6.toArray++its.toArray=(B6++its).toArray:=by simp
  have e2:(B6++its)++(Nr k its).flatten=B6++(Nr (k+1) its).flatten:=by
   rw[Vd,S6,Ry]
  rw[<- e2,<- Ws its k (B6++its),<- e,Vd,VB]
section
variable {X:Cx}{B4:List (Ab×Obj)}{σ:St}{H:Hp}{s:Ad}{l b:Ab}{xs ys zs:List V}
theorem Inv.lset {its its':List Ac}{n:Nat}{f:Array Ac->Array Ac}{t':Nat}(I:Inv X B4 σ H s)(hH:H l=some (.lst xs))
  (e:s.heap.get? l=some { cls:=.type "list",data:=.seq its.toArray n }) (hf:f its.toArray=its'.toArray) (hv:Vals ys its') (hz:ys.length<=Ae) :
  Inv X B4 σ (upd H l (.lst ys)) { s with heap:=s.heap.update l (VR f),toks:=t' }:=by
 have q:=PySem.IsL.update e f
 rw[hf] at q
 refine I.write (x:=l) (e:=l) (by rw[hH];exact trivial) (.inl rfl) (fun b' u hb hu=>(Qx s.heap (VR f) (M7 hb)).trans hu) ⟨_,q⟩ ?_
 exact⟨hz,its',_,hv,q⟩
theorem Inv.lnew (I:Inv X B4 σ H s) (hv:Vals ys its) (hz:ys.length<=Ae):
  Inv X B4 σ (upd H s.heap.objs.size (.lst ys)) { s with heap:=s.heap.push { cls:=.type "list",data:=.seq its.toArray },toks:=t' } :=
 I.laid (fun _ _ q=>Ng _ q) (M6 _) ⟨hz,its,0,hv,NE _ rfl⟩
theorem Inv.fresh (I:Inv X B4 σ H s):H s.heap.objs.size=none:=I.hok.fresh (M6 _)
theorem Inv.lstM (I:Inv X B4 σ H s)(hH:H l=some (.lst xs)):xs.length<=Ae/\∃(its:List Ac) (n:Nat),Vals xs its/\xs.length=its.length/\s.heap.get? l=some { cls:=.type "list",data:=.seq its.toArray n }:=by
 obtain⟨z,its,n,r,e⟩:=I.hok l _ hH
 exact⟨z,its,n,r,r.length,e⟩
theorem Wt (h:n<=Ae):ae n=false:=by
 unfold ae
 exact B0 (by omega)
end
section
variable {X:Cx}
def cV:V->List V->Hp->VK->Prop:=fun x vs H Q=>∃ l xs y,x=.ref l/\vs=[y]/\H l=some (.lst xs)/\xs.length < Ae/\Q .non (upd H l (.lst (xs++[y])))
theorem Wu:MtM X "list.append" cV:=by
 intro B4 s σ H x vs v us Q I rx rv h
 obtain⟨l,xs,y,rfl,rfl,hH,hz,q⟩:=h
 cases rx
 obtain⟨u,rfl,ru⟩:=rv.one
 obtain⟨z,its,n,r,hl,e⟩:=I.lstM hH
 refine Bb F.slot_list_append ⟨_,e,rfl⟩ F.entry_list_append (F.args_list_append_2 _ _) (PySem.list_append l its.toArray n u (by rw[NC];omega)) ⟨e,?_⟩
 refine⟨.non,_,I.lset (its':=its++[u]) hH e (by simp) (r.append (.cons ru .nil)) ?_,rfl,q⟩
 rw[No,OH]
 omega
def cW:V->List V->Hp->VK->Prop:=fun x vs H Q=>∃ l b xs zs,x=.ref l/\vs=[.ref b]/\H l=some (.lst xs)/\H b=some (.lst zs)/\xs.length+zs.length<=Ae/\Q .non (upd H l (.lst (xs++zs)))
theorem cX:MtM X "list.extend" cW:=by
 intro B4 s σ H x vs v us Q I rx rv h
 obtain⟨l,b,xs,zs,rfl,rfl,hH,hB,hz,q⟩:=h
 cases rx
 obtain⟨u,rfl,ru⟩:=rv.one
 cases ru
 obtain⟨z,its,n,r,hl,e⟩:=I.lstM hH
 obtain⟨z2,its2,n2,r2,GJ,e2⟩:=I.lstM hB
 have hsz:its.toArray.size+its2.toArray.size<=Ae:=by rw[NC,NC];omega
 have E5:¬ (!its.toArray.isEmpty&&ae (its.toArray.size+its2.toArray.size))=true:=by
  rw[Wt hsz,ZZ]
  exact Nj
 refine Bb F.slot_list_extend ⟨_,e,rfl⟩ F.entry_list_extend (F.args_list_extend_2 _ _)
  (AutoSeq1.list_extend_list_list_0 l its.toArray n b its2.toArray n2 E5 (by rw[NC];omega) (by omega)) ⟨e,e2,?_⟩
 refine⟨.non,_,I.lset (its':=its++its2) hH e (by simp) (r.append r2) ?_,rfl,q⟩
 rw[No]
 omega
def rCat:R2:=fun x y H Q=>∃ l b xs zs,x=.ref l/\y=.ref b/\H l=some (.lst xs)/\H b=some (.lst zs)/\xs.length+zs.length<=Ae/\∀ p,H p=none->Q (.ref p) (upd H p (.lst (xs++zs)))
theorem op_cat:OpR X (AI .Add) rCat:=by
 intro B4 s σ H x y v u Q I rx ry h
 obtain⟨l,b,xs,zs,rfl,rfl,hH,hB,hz,q⟩:=h
 cases rx
 cases ry
 obtain⟨z,its,n,r,hl,e⟩:=I.lstM hH
 obtain⟨z2,its2,n2,r2,GJ,e2⟩:=I.lstM hB
 refine PySem.P.add_list e e2 ?_ (by rw[NC,NC];omega)
 have ea:its.toArray++its2.toArray=(its++its2).toArray:=by simp
 rw[ea]
 exact⟨.ref _,_,I.lnew (t':=s.toks) (r.append r2) (by rw[No];omega),rfl,q _ I.fresh⟩
def rRep:R2:=fun x y H Q=>∃ l k xs,x=.ref l/\y=.int k/\H l=some (.lst xs)/\-(2 ^ 63)<=k/\k < 2 ^ 63/\xs.length * k.toNat<=Ae /\
 ∀ p,H p=none->Q (.ref p) (upd H p (.lst (Nr k.toNat xs).flatten))
theorem cY (xs:List α) (k:Nat):(Nr k xs).flatten.length=k * xs.length:=by
 induction k with
 | zero=>simp
 | succ k ih=>rw[Vd,S6,No,ih,bg,Z2]
theorem op_rep:OpR X (AI .Mult) rRep:=by
 intro B4 s σ H x y v u Q I rx ry h
 obtain⟨l,k,xs,rfl,rfl,hH,h1,h2,hz,q⟩:=h
 cases rx
 obtain⟨t,rfl⟩:=ry
 obtain⟨z,its,n,r,hl,e⟩:=I.lstM hH
 have B8:its.toArray.size * k.toNat<=Ae:=by rw[NC,<- hl];exact hz
 have Jf:¬ its.toArray.size * k.toNat > (2 ^ 63 - 1) / 8:=by
  have:(Ae:Nat)<=(2 ^ 63 - 1) / 8:=by decide
  omega
 have EF:¬ (!Builtin.List.listFitsIndex k)=true:=by
  rw[fitsIndex_both h1 h2]
  exact Nj
 have E5:¬ ae (its.toArray.size * k.toNat)=true:=by
  rw[Wt B8]
  exact Nj
 have Ea:VD (fun x1 x2=>x1++x2) #[] (Nr (if its.toArray.isEmpty=true then 0 else k.toNat) its.toArray)=(Nr k.toNat its).flatten.toArray:=by
  have f0:∀ m:Nat,VD (fun x1 x2=>x1++x2) #[] (Nr m its.toArray)=(Nr m its).flatten.toArray:=fun m=>by
   have:=Ws its m []
   rw[S9] at this
   exact this
  rw[f0]
  cases its with
  | nil=>simp
  | cons a r'=>rw[B2 (by simp)]
 refine wpAny_binaryOp_repeat_ref (T:="list") (U:="int") (by decide) ⟨_,e,rfl⟩ (fun s'=>typeIs_int s' k t) noFill_list_mul F.fills_int_mul F.slot_int_rmul repeat_list F.slot_int_index.lookup
  (Bb F.slot_int_rmul (typeIs_int s k t) F.entry_int_rmul (F.args_int_rmul_2 _ _) (int___rmul___int_list k t l its.toArray n)
   ⟨e,rfl,⟨_,e,rfl⟩,Bb F.slot_list_mul ⟨_,e,rfl⟩ F.entry_list_mul (F.args_list_mul_2 _ _) (AutoListH.list___mul___list_int_3 l its.toArray n k t EF Jf E5) ⟨e,?_⟩⟩)
 rw[Ea]
 exact⟨.ref _,_,I.lnew (t':=s.toks) (r.rep k.toNat) (by rw[cY,Nat.mul_comm];exact hz),rfl,q _ I.fresh⟩
end
section
variable {prog:Aj}{w:Ak}{A:Am}{E:Ac->Ad->Prop}{s:Ad}
set_option maxRecDepth 100000 in
end
section
variable {X:Cx}
end
end L2
namespace Att
open PySem PySem.W PySem.Calls PyProof.Rows
theorem cZ :∀(ns:List Int) (vs:List Ac),WellAll P h vs (ns.map WData.int)->IntsAre vs ns:=by
 intro ns
 induction ns with
 | nil =>
  intro vs w
  rw[N8] at w
  cases w
  exact .nil
 | cons n ns ih =>
  intro vs w
  rw[Nq] at w
  cases w with
  | cons a b =>
   cases a
   exact .cons _ _ (ih _ b)
theorem c8 {l:OpenLaw}{n:Nat}(hn:l.most=some n){P:Params}{h:An}{args:List WData}{vals:List Ac}
  (E6:l.row.toRowW.claim.pre args=true) (DX:WellAll P h vals args) :
  ∃ a vs ns,vals=[Value.ref a]/\args=[WData.list (ns.map WData.int)]/\h.get? a=some { cls:=.type "list",data:=.seq vs.toArray }/\IntsAre vs ns/\ns.length<=n:=by
 have K7:WShape.hasAll [] args [.list .int]=true:=(pre_splitW E6).1
 have hc:l.pre.holds [] { args:=args }=true:=(pre_splitW E6).2
 obtain⟨d,r,rfl,h1,h2⟩:=hasAllW_cons K7
 obtain rfl:=hasAllW_nil h2
 obtain⟨xs,rfl,h3⟩:=hasW_list h1
 obtain⟨ns,rfl⟩:=items_int h3
 have B8:ns.length<=n:=by
  unfold OpenLaw.pre at hc
  have h4:(WTm.not (.lt (.lit (.int (n:Int))) (.len (.arg 0)))).holds [] { args:=[.list (ns.map .int)] }=true:=by
   have h4:=(holds_andW hc).1
   rw[hn] at h4
   exact h4
  have h5:=condW_of h4 (w_not (w_lt w_lit (w_len_list (w_arg rfl))))
  rw[M5] at h5
  refine Nat.le_of_not_lt fun q=>?_
  have q':(n:Int) < ((ns.length:Nat):Int):=by omega
  first
   | (rw[B1 q'] at h5;exact absurd h5 (by decide))
   | (simp at h5;omega)
 cases DX with
 | cons w1 w2 =>
  cases w2
  cases w1 with
  | list ho Ei=>exact⟨_,_,ns,rfl,rfl,ho,cZ ns _ Ei,B8⟩
theorem c9 (l:OpenLaw)(args:List WData):l.row.toRowW.claim.post args (.bool true) args=true :=
 postW_of (r:=l.row.toRowW) (X:=(true == true))
  (show WShape.has [] (.bool true) .bool=true by first | rfl | decide | simp[WShape.has,WShape.arms,WShape.armsAll])
  (show (WTm.eq .res (.lit (.bool true))).value [] { args:=args,res:=some (.bool true),after:=args }=some (.bool (true == true)) from w_eq_bool (w_res rfl) w_lit) rfl
theorem attach_call {l:OpenLaw}{n:Nat}{q:Aj}{loose:List Str}{XP:(Str->Option Ac)->An->Prop}{YP:Ak->An->Prop}{d:DefRec}
  (hn:l.most=some n) (G2:d.params.defaults=[])
  (call:∀(w:Ak) (s₀ s₁:Ad) (mg mb:Str->Option Ac) (fa:Ab) (o:Obj) (pm cd doc:Ac) (a:Ab) (vs:List Ac) (ns:List Int),
   Ground q loose [] XP w s₀ mg mb s₁.heap->YP w s₁.heap ->
   s₁.heap.get? fa=some o->o.data=.func (docDef d.name d.params d.body d.scope pm cd doc)->s₁.heap.CodeRec cd d.name->mg d.name=some (.ref fa) ->
   s₁.heap.get? a=some { cls:=.type "list",data:=.seq vs.toArray }->IntsAre vs ns->ns.length<=n->s₁.gens=#[] ->
   codeAny (Ai l.prog w) BP (.call (.ref fa) ⟨[.ref a],[]⟩) (fun r s'=>r=.ok (.ret (.bool true))/\OldK s₁.heap s'.heap/\s'.os=s₁.os/\Bj s'.gens) s₁) :
  WalkO q loose XP YP l.row.toRowW d [] (fun f vs=>PySem.call f vs):=by
 intro w s₀ s₁ mg mb G Y fa o pm cd doc dV kV ho hd ED hD Gh hg args vals as E6 K8 hrd DX Gi
 obtain rfl:dV=.none:=Dflts.none hD G2
 obtain rfl:kV=.none:=Dflts.noKw hD
 obtain⟨a,vs,ns,rfl,rfl,DY,E7,B8⟩:=c8 hn E6 DX
 refine enter_call (AZ (call w s₀ s₁ mg mb fa o pm cd doc a vs ns G Y ho (fd_plain hd) ED Gh DY E7 B8 hg) fun r s' hq=>?_)
 obtain⟨rfl,h2,h3,h4⟩:=hq
 exact⟨.inl ⟨.bool true,.bool true,[],rfl,fun _=>rfl,.bool true,c9 l _,fun _=>⟨List.Pairwise.nil,fun _ hm=>(nomatch hm)⟩⟩,h2,h3,h4⟩
section
variable {prog:Aj}{w:Ak}{A:Am}{E:Ac->Ad->Prop}{s:Ad}{K:Frag}
end
end Att
namespace L2
open PySem PySem.Spec PyProof.Rows
theorem Wv:∀{vs:List Ac}{ns:List Int},IntsAre vs ns->Vals (ns.map V.int) vs
 | _,_,.nil=>.nil
 | _,_,.cons n t h=>.cons ⟨t,rfl⟩ (Wv h)
def Only (H:Hp):Prop:=∀ b,H b=none∨∃ o xs,H b=some (.frz o (.lst xs))
theorem c_ {P:Aj}{w:Ak}{K:MV}{mg mb:Str->Option Ac}{CX:CXT}{k:Nat}{fa a:Ab}{fd:Aw}{x:Str}{sp:Sp}{s₁:Ad}{vs:List Ac}{ns:List Int}
  (KX:K.In s₁.heap) (D7:s₁.heap.Ns Ah mg) (hb:s₁.heap.Ns builtinsNs mb) (Jg:∀ x:Str,x≠"__name__"->mb x=AK x) (Jh:s₁.heap.NoLimit) (hg:s₁.gens=#[])
  (ha:s₁.heap.get? a=some { cls:=.type "list",data:=.seq vs.toArray }) (hi:IntsAre vs ns) (hl:ns.length<=Ae) (hr:Room k BP)
  (F:∀ base:An,K.In base->base.Ns Ah mg->FnOk P w K mg base CX k fa fd [x] sp) (G3:∀(s:Ad) (u:Ac),BO s fd ⟨[u],[]⟩ [(x,u)])
  (DJ:∀ H:Hp,Only H->SqL K H a (ns.map V.int)->sp [.ref a] H (fun v _=>v=.bl true) fun _ _ _=>False)
  (Ji:∀ H e s',CX [] H s₁ (fun _ _ _=>False) e s'->False) :
  codeAny (Ai P w) BP (.call (.ref fa) ⟨[.ref a],[]⟩) (fun r s'=>r=.ok (.ret (.bool true))/\OldK s₁.heap s'.heap/\s'.os=s₁.os/\Bj s'.gens) s₁:=by
 have rv:=Wv hi
 have lenV:=hi.length
 -- from an abstract heap in which nothing but the script may be tracked
 have core:∀ H:Hp,Only H->SqL K H a (ns.map V.int)->HOk P w H s₁.heap->(∀ b,H b≠none->b=a)->(H a≠none->K.lookup a=none) ->
   codeAny (Ai P w) BP (.call (.ref fa) ⟨[.ref a],[]⟩) (fun r s'=>r=.ok (.ret (.bool true))/\OldK s₁.heap s'.heap/\s'.os=s₁.os/\Bj s'.gens) s₁:=by
  intro H hO hS hok hA hK
  have base_of:∀{b:Ab}{o:Obj},s₁.heap.get? b=some o->H b=none->(hidT s₁.heap H).get? b=some o:=fun e n=>bU e n
  have noA:∀{b:Ab}{o:Obj}{es:Array DictEntry}{ep:Nat},s₁.heap.get? b=some o->o.data=.dict es ep->H b=none:=fun{b o es ep} e d=>by
   cases q:H b with
   | none=>rfl
   | some u =>
    have e':b=a:=hA b (by rw[q];simp)
    subst e'
    rw[ha] at e;cases e
    have d':Data.seq vs.toArray _=Data.dict es ep:=d
    cases d'
  have nsK:∀{b:Ab}{m:Str->Option Ac},s₁.heap.Ns b m->(hidT s₁.heap H).Ns b m:=fun{b m} ⟨o,es,ep,e,d,r⟩=>⟨o,es,ep,base_of e (noA e d),d,r⟩
  have Kl:K.In (hidT s₁.heap H):=fun b o e=>base_of (KX b o e) (by
   cases q:H b with
   | none=>rfl
   | some u =>
    have e':b=a:=hA b (by rw[q];simp)
    subst e'
    rw[hK (by rw[q];simp)] at e;cases e)
  have hM:Mod K mg (hidT s₁.heap H):=⟨Kl,nsK D7,⟨mb,nsK hb,Jg⟩,let ⟨mc,h1,h2⟩:=Jh;⟨mc,nsK h1,h2⟩⟩
  have e0:Env0 P w K mg (hidT s₁.heap H) BP [] s₁ H:=⟨rfl,hM,fun b o e=>bW e,bf (bS _ _),trivial,fun b hb=>absurd (show b∈([]:List Ab) from hb) (by simp),hok,.of_eq hg⟩
  refine AZ ((F _ Kl (nsK D7)).run BP [] s₁ H ⟨[.ref a],[]⟩ [.ref a] [.ref a] _ _ hr e0 (G3 s₁ (.ref a)) (.cons rfl .nil) (DJ H hO hS)) fun r s' h=>?_
  cases r with
  | error e=>exact(Ji H e s' h).elim
  | ok fl =>
   cases fl with
   | next=>exact O4 h
   | brk=>exact O4 h
   | cont=>exact O4 h
   | ret u =>
    obtain⟨v,H',os,bare,un,hok',r',q⟩:=h
    have q':v=.bl true:=q
    subst q'
    obtain rfl:u=Value.bool true:=r'
    refine⟨rfl,OldK.of_keep fun b o e=>?_,os,bare⟩
    cases q:H b with
    | none=>exact un.keep b o e q (by intro z;exact absurd (show b∈([]:List Ab) from z) (by simp)) (by simp)
    | some u =>
     rcases hO b with z | ⟨ob,xs,z⟩
     ·rw[q] at z;cases z
     ·have z2:=un.frzs b ob _ z
      obtain⟨e1,_⟩:=hok b _ z
      obtain⟨e2,_⟩:=hok' b _ z2
      rw[e] at e1;cases e1
      exact e2
 cases hk:K.lookup a with
 | some o =>
  -- the script is one of the module's own objects
  have e:=KX a o hk
  rw[ha] at e
  cases e
  refine core (fun _=>none) (fun _=>.inl rfl) (.inr ⟨_,vs.toArray,_,hk,rfl,rfl,rfl,by rw[NC,lenV];exact hl,by simpa using rv⟩) (fun b u z=>by have z':(none:Option HO)=some u:=z;cases z') (fun b z=>absurd rfl z) fun z=>absurd rfl z
 | none =>
  refine core (fun b=>if b=a then some (.frz { cls:=.type "list",data:=.seq vs.toArray } (.lst (ns.map V.int))) else none) (fun b=>?_) (.inl (.inr ⟨{ cls:=.type "list",data:=.seq vs.toArray },B3 rfl⟩)) (fun b u z=>?_) (fun b z=>?_) fun _=>hk
  ·by_cases hb:b=a
   ·exact .inr ⟨_,_,B3 hb⟩
   ·exact .inl (B2 hb)
  ·by_cases hb:b=a
   ·have z':=(B3 hb).symm.trans z
    cases z'
    subst hb
    exact⟨ha,by rw[M5];exact hl,vs,_,rv,ha⟩
   ·have z':=(B2 hb).symm.trans z
    cases z'
  ·by_cases hb:b=a
   ·exact hb
   ·exact absurd (B2 hb) z
theorem Ww {l:aJ}{n k:Nat}{q:Aj}{loose:List Str}{XP:(Str->Option Ac)->An->Prop}{YP:Ak->An->Prop}{d:DefRec}{K:Params->MV}{CX:Ak->CXT}{sp:Ak->Sp}{x:Str}
  (hn:l.most=some n) (DI:n<=Ae) (G2:d.params.defaults=[]) (hr:Room k BP)
  (hY:∀(w:Ak) (h:An),YP w h->(K w.params).In h)
  (F:∀(w:Ak) (mg:Str->Option Ac) (fa:Ab) (h:An),(K w.params).In h->h.Ns Ah mg->mg d.name=some (.ref fa) ->
   ∃ fd:Aw,(∀(s:Ad) (u:Ac),BO s fd ⟨[u],[]⟩ [(x,u)]) /\
    ∀ base:An,(K w.params).In base->base.Ns Ah mg->FnOk l.prog w (K w.params) mg base (CX w) k fa fd [x] (sp w))
  (DJ:∀(w:Ak) (H:Hp) (a:Ab) (ns:List Int),ns.length<=n->Only H->SqL (K w.params) H a (ns.map V.int)->sp w [.ref a] H (fun v _=>v=.bl true) fun _ _ _=>False)
  (Ji:∀(w:Ak) (H:Hp) (s:Ad) (e:Ac) (s':Ad),CX w [] H s (fun _ _ _=>False) e s'->False) :
  PySem.W.WalkO q loose XP YP l.row.toRowW d [] (fun f vs=>PySem.call f vs):=by
 refine Att.attach_call hn G2 fun w s₀ s₁ mg mb fa o pm cd doc a vs ns G Y ho hd ED Gh DY E7 B8 hg=>?_
 have KX:=hY w _ Y
 obtain⟨fd,hb,hF⟩:=F w mg fa _ KX G.T.g Gh
 exact c_ KX G.T.g G.T.b G.T.builtins G.T.nolimit hg DY E7 (NI B8 DI) hr hF hb (fun H hO hS=>DJ w H a ns B8 hO hS) fun H e s'=>Ji w H s₁ e s'
end L2
/- THE LAST THEOREM (shape;LID,My.* are yours):
  My.Adr: a structure of the addresses that your layer names (classes,functions);My.Txt K t: a structure (Prop) of the equations over K;
  My.txt_mk:{K}{implicit addresses ..} (e1:nsIn K Ah "law"=some (some (.ref f))) (e2:K.lookup f=some ⟨oc,od,.func (fnOf "law" "law" params body scope dV kV doc pm an cdv ct),sl⟩) (e3:codeIn K cdv "law"=true) ..:∃ t,My.Txt K t
set_option maxRecDepth 100000 in
set_option maxHeartbeats 0 in
theorem PySem.Challenge.cw_LID_holds : PySem.Challenge.rw_LID.Holds := by
 w_on;o_law;k_head;(case hw=>w_witness2)
 k_fill
 refine L2.Ww (l:=PySem.Challenge.rw_LID) (n:=63) (k:=40) (x:="script") (CX:=fun w=>..) (sp:=fun _=>My.sp_law) rfl (by decide) rfl ⟨rfl,by decide,by decide⟩ (fun w h Y=>PySem.W.kIn_of Y) ?F ?S ?C
 case F =>
  intro w mg fa h KX G Gh
  have T:∃ t,My.Txt (L2.KOf KX) t:=by
   dsimp only [L2.KOf]                          -- K must stand as «<heap const> w.params» for k_is
   refine' My.txt_mk ?e1 ?e2 ?e3 ..
   (case e1=>PySem.W.k_is)                    -- in the order: a name -> its address -> its object -> its parts
   (case e2=>PySem.W.k_is)
   ..
  obtain⟨t,T⟩:=T
  have e0:=Gh.symm.trans (N4 KX G T.law)
  cases e0                                       -- fa is the law's own address
  exact⟨_,fun s u=>.of_eq rfl,fun base kb nb=>My.law_fn T kb nb⟩     -- if «.of_eq rfl» comes too early: refine' ⟨_,?b,fun base kb nb=>My.law_fn T kb nb⟩;exact fun s u=>.of_eq rfl
 case S=>exact fun w H a ns hl hO hS=>..
 case C=>exact ..
(the tactic k_is has no namespace: write k_is) -/
namespace L2
open PySem PySem.Spec PyProof.Rows
noncomputable def Qn (s:As)(j:Nat):As:=match s with
 | .ClassDef _ _ _ body _ _ _ _ _ _ _=>body.getD j (.Pass ⟨0,0,0,0⟩)
 | _=>.Pass ⟨0,0,0,0⟩
noncomputable def Vl (s:As):Arguments:=match s with
 | .FunctionDef _ a _ _ _ _ _ _ _ _=>a
 | _=>{ posonlyargs:=[],args:=[],vararg:=none,kwonlyargs:=[],kw_defaults:=[],kwarg:=none,defaults:=[] }
noncomputable def Rl (s:As):List As:=match s with
 | .FunctionDef _ _ b _ _ _ _ _ _ _=>b
 | _=>[]
noncomputable def Ox (s:As):Bt:=match s with
 | .FunctionDef _ _ _ _ _ _ sc _ _ _=>sc
 | _=>{ kind:=.function,names:=[],isGenerator:=false,isCoroutine:=false }
noncomputable abbrev CX0:CXT:=fun _ _ _ _ _ _=>False
noncomputable abbrev E0:XK:=fun _ _ _=>False
theorem QI :PM CX0 X E0:=fun _ _ _ _ _ _ _ h=>h.elim
structure Fun (K:MV)(x Ca:Str)(st:As)(f:Ab)(fd:Aw):Prop where
 ex:∃(oc:Ac) (od:Option Ab) (kV doc pm:Ac) (an:Option Ab) (cdv ct:Ac) (osl:Array (Option Ac)),
  fd=SD x Ca (Vl st) (Rl st) (Ox st) .none kV doc pm an cdv ct/\K.lookup f=some ⟨oc,od,.func fd,osl⟩/\ZJ K cdv Ca=true
 kp:Po K (.ref f)=true
section
variable {P:Aj}{w:Ak}{K:MV}{mg:Str->Option Ac}{base:An}
theorem Fun.ok {x Ca:Str}{st:As}{f:Ab}{fd:Aw}{N ps:List Str}{k:Nat}{sp:Sp}(F:Fun K x Ca st f fd)(S:FnScope N ps (Ox st))(len:∀ vs H Q E,sp vs H Q E->vs.length=ps.length)
  (Dp:∀(cdv:Ac) (A:Am) (outer:List Env) (s:Ad) (H:Hp) (vs:List V) (Q:VK) (E:XK),Room k (A.deeper (Bq Ca (Ox st) s.heap.objs.size f cdv))->sp vs H Q E ->
   ∃ t,PSs (cxOf CX0 P w K mg base N Ca (Ox st) f cdv A outer s H E).nox (Rl st) t/\t { nx:=fun _ H'=>Q .non H',rt:=Q } (OM N vs) H):FnOk P w K mg base CX0 (k+1) f fd ps sp:=by
 obtain⟨oc,od,kV,doc,pm,an,cdv,ct,osl,rfl,lk,ED⟩:=F.ex
 refine fn_of lk ED S len fun A outer s H vs Q E hr DJ=>?_
 obtain⟨t,h,q⟩:=Dp cdv A outer s H vs Q E hr DJ
 exact⟨t,h.nox,q⟩
theorem Fun.binds {x Ca:Str}{st:As}{f:Ab}{fd:Aw}{ps:List Str}(F:Fun K x Ca st f fd)
  (h:∀(kV doc pm:Ac) (an:Option Ab) (cdv ct:Ac) (us:List Ac),us.length=ps.length->bindArgs (SD x Ca (Vl st) (Rl st) (Ox st) .none kV doc pm an cdv ct) ⟨us,[]⟩=pure (ps.zip us)):Binds K fd ps []:=by
 obtain⟨oc,od,kV,doc,pm,an,cdv,ct,osl,rfl,lk,ED⟩:=F.ex
 exact .all (h kV doc pm an cdv ct)
theorem Tu {x Ca:Str}{st:As}{f:Ab}{oc:Ac}{od an:Option Ab}{osl:Array (Option Ac)}{kV doc pm cdv ct:Ac}(l:K.lookup f=some ⟨oc,od,.func (SD x Ca (Vl st) (Rl st) (Ox st) .none kV doc pm an cdv ct),osl⟩)
  (c:ZJ K cdv Ca=true) (k:Po K (.ref f)=true):Fun K x Ca st f (SD x Ca (Vl st) (Rl st) (Ox st) .none kV doc pm an cdv ct):=⟨⟨oc,od,kV,doc,pm,an,cdv,ct,osl,rfl,l,c⟩,k⟩
end
theorem NO (hr:Room k A):A.units+1 < BE:=Qy (Nat.add_le_add_left (by decide:1<=64) _) hr.units
section
variable {X:Cx}
theorem pv (i:Nat) (hN:X.N[i]?=some x:=by rfl) (hv:Vis X.env.scope x:=by first | exact Or.inl rfl | exact Or.inr (Or.inl rfl) | exact Or.inr (Or.inr rfl)) (hd:(x == ("__debug__":Str))=false:=by decide) (ED:(x == ("__classdict__":Str))=false:=by decide):PE X (.Name x pos) (tVar i):=pe_var hN hv hd ED
end
theorem iteF {A B:Prop}(h:B):if false=true then A else B:=by
 rw[B2 Nj]
 exact h
theorem iteT {A B:Prop}(h:A):if true=true then A else B:=by
 rw[B3 rfl]
 exact h
def Same (H H':Hp):Prop:=∀ b o,H b=some o->H' b=some o
theorem Same.refl (H:Hp):Same H H:=fun _ _ h=>h
theorem Same.trans (a:Same H H1) (b:Same H1 H2):Same H H2:=fun c o h=>b c o (a c o h)
theorem Same.free (e:Same H H') (h:H' l=Option.none):H l=Option.none:=by
 cases q:H l with
 | none=>rfl
 | some o =>
  rw[e l o q] at h
  cases h
theorem Same.seq {K:MV}{H H':Hp}{a:Ab}{xs:List V}(e:Same H H')(h:SqL K H a xs):SqL K H' a xs:=by
 rcases h with (h | ⟨o,h⟩) | h
 ·exact .inl (.inl (e _ _ h))
 ·exact .inl (.inr ⟨o,e _ _ h⟩)
 ·exact .inr h
end L2
namespace L2
open PySem
noncomputable def clTo (cells:List (Str×Ab)):List (Str×AV)->List (Str×Ab)->List (Str×Ab)
 | [],B6=>B6
 | (n,k)::r,B6=>if k == .free then clTo cells r ((n,(cells.lookup n).getD 0)::B6) else clTo cells r B6
theorem da (h:∀ y∈scope.names,y.2=.free->∃ c,env.cells.lookup y.1=some c):
  closureFor scope env=pure (clTo env.cells scope.names []):=by
 simp only[closureFor]
 generalize ([]:List (Str×Ab))=B6
 revert h
 generalize scope.names=l
 intro h
 have key:∀(l:List (Str×AV)) (B6:List (Str×Ab)),(∀ y∈l,y.2=.free->∃ c,env.cells.lookup y.1=some c) ->
   (forIn l B6 (fun x r=>if (x.snd == NameKind.free)=true then do
      let a <- cellOf env x.fst
      pure (ForInStep.yield ((x.fst,a)::r)) else pure (ForInStep.yield r)):Sem _)=pure (clTo env.cells l B6):=by
  intro l
  induction l with
  | nil=>intro B6 _;rfl
  | cons y l ih =>
   intro B6 h
   obtain⟨n,k⟩:=y
   rw[VC]
   have hr:=fun y hy=>h y (NH _ hy)
   by_cases hk:(k == NameKind.free)=true
   ·obtain⟨c,hc⟩:=h (n,k) N1 (by simpa using hk)
    have hc':env.cells.lookup n=some c:=hc
    have e1:cellOf env n=pure c:=by unfold cellOf;rw[hc']
    simp only[hk,if_true,e1,clTo,hc',bx,pure_bind]
    exact ih _ hr
   ·simp only[Bool.not_eq_true] at hk
    simp only[hk,VE,if_false,clTo,pure_bind]
    exact ih _ hr
 rw[key l B6 h]
 rfl
theorem am {cells:List (Str×Ab)}{x:Str}:∀(l:List (Str×AV)) (B6:List (Str×Ab)),((x,NameKind.free)∈l∨B6.lookup x=some ((cells.lookup x).getD 0)) ->
  (clTo cells l B6).lookup x=some ((cells.lookup x).getD 0)
 | [],B6,h=>by
  rcases h with h | h
  ·cases h
  ·exact h
 | (n,k)::r,B6,h=>by
  unfold clTo
  by_cases hk:(k == NameKind.free)=true
  ·rw[B3 hk]
   refine am r _ ?_
   by_cases e:x=n
   ·subst e;right;simp
   ·rcases h with h | h
    ·left
     rcases Nf.mp h with h | h
     ·injection h with h1 _;exact absurd h1 e
     ·exact h
    ·right
     rw[Py,beq_eq_false_iff_ne.mpr e];exact h
  ·rw[B2 hk]
   refine am r _ ?_
   rcases h with h | h
   ·left
    rcases Nf.mp h with h | h
    ·injection h with _ h2;rw[<- h2] at hk;exact absurd rfl hk
    ·exact h
   ·exact .inr h
theorem Tv {cells:List (Str×Ab)}{x:Str}{c:Ab}:∀(l:List (Str×AV)) (B6:List (Str×Ab)),(clTo cells l B6).lookup x=some c ->
  B6.lookup x=some c∨((x,NameKind.free)∈l/\c=(cells.lookup x).getD 0)
 | [],B6,h=>.inl h
 | (n,k)::r,B6,h=>by
  unfold clTo at h
  by_cases hk:(k == NameKind.free)=true
  ·rw[B3 hk] at h
   rcases Tv r _ h with q | ⟨q1,q2⟩
   ·by_cases e:x=n
    ·subst e
     rw[Py,beq_self_eq_true] at q
     have hk':k=.free:=by simpa using hk
     subst hk'
     exact .inr ⟨N1,(Option.some.inj q).symm⟩
    ·rw[Py,beq_eq_false_iff_ne.mpr e] at q
     exact .inl q
   ·exact .inr ⟨NH _ q1,q2⟩
  ·rw[B2 hk] at h
   rcases Tv r _ h with q | ⟨q1,q2⟩
   ·exact .inl q
   ·exact .inr ⟨NH _ q1,q2⟩
section
variable {prog:Aj}{w:Ak}{A:Am}
 {R:Result->Ad->Prop}{s:Ad}
theorem db (hM:M=Ai prog w) (I:Nat->Ad->Prop) (turn:∀ n s,I n s->wpAny M A (pyNext it) (fun r z₁=>match r with
   | none=>R (.ok .next) z₁
   | some v=>wpAny M A (Bf target it v) (fun _ z₀=>wpAny M A (assign target env v) (fun _ z₂ =>
     wpAny M A (forIn ifs true fun c r=>if r=true then do let ok <- isTrue c env (Aq c env);pure (ForInStep.yield ok) else pure (ForInStep.yield r)) (fun ok z₃ =>
      if ok=true then wpAny M A (Aq elt env) (fun x z₄ =>
       wpAny M A (call (.builtin "list.append") [B6,x]) (fun _ z₅=>∃ m,m < n/\I m z₅) (notedBy M A env fun e s'=>R (.error e) s') z₄) (notedBy M A env fun e s'=>R (.error e) s') z₃
      else ∃ m,m < n/\I m z₃) (notedBy M A env fun e s'=>R (.error e) s') z₂) (notedBy M A env fun e s'=>R (.error e) s') z₀) (notedBy M A env fun e s'=>R (.error e) s') z₁) (notedBy M A env fun e s'=>R (.error e) s') s) (n:Nat) (h:I n s):
  codeAny M A (.compLoop (.ListComp elt [⟨target,iter,ifs,0⟩] scope pos) 0 it B6 env) R s:=by
 subst hM
 refine codeAny_loop rfl I (fun k z hz=>?_) n h
 show wpAny _ A (Sem.onRaise (compTurn (.ListComp elt [⟨target,iter,ifs,0⟩] scope pos) 0 it B6 env) _) _ _ z
 rw[compTurn_list]
 refine wpAny_noted (Aa (AU (Aa (Ao (turn k z hz) (fun r z1 g1=>?_) fun _ _ e=>e))))
 match r,g1 with
 | none,g1=>exact Af g1
 | some v,g1 =>
  refine Aa (Ao g1 (fun _ z2 g2=>Aa (Ao g2 (fun _ z3 g3=>Aa (Ao g3 (fun b z4 g4=>?_) fun _ _ e=>e)) fun _ _ e=>e)) fun _ _ e=>e)
  match b,g4 with
  | false,g4=>exact Af ⟨rfl,g4⟩
  | true,g4 =>
   refine Aa (Aa (Ao g4 (fun y z5 g5=>Aa (Ao g5 (fun _ z6 g6=>?_) fun _ _ e=>e)) fun _ _ e=>e))
   exact Af (Af ⟨rfl,g6⟩)
end
end L2
namespace L2
open PySem PySem.Spec PyProof.Rows
noncomputable def Tw (σ:St):Option Nat->Option V
 | none=>none
 | some j=>match σ[j]? with
  | some (some v)=>some v
  | _=>none
noncomputable def pick (ix:List (Option Nat))(σ:St):St:=ix.map (Tw σ)
theorem dc {i:Nat} (h:(pick ix σ)[i]?=some (some v)):∃ j,ix[i]?=some (some j)/\σ[j]?=some (some v):=by
 unfold pick at h
 rw[Nz] at h
 cases e:ix[i]? with
 | none=>rw[e] at h;cases h
 | some o =>
  rw[e] at h
  have h':Tw σ o=some v:=Option.some.inj h
  cases o with
  | none=>cases h'
  | some j =>
   refine⟨j,rfl,?_⟩
   unfold Tw at h'
   dsimp only at h'
   split at h'
   ·rename_i q;rw[q,h']
   ·cases h'
noncomputable def OE (X:Cx)(B4:List (Ab×Obj))(scope:Bt)(N':List Str)(fp:List Ab)(s3:Ad)(H3:Hp):Cx where
 prog:=X.prog
 w:=X.w
 K:=X.K
 mg:=X.mg
 base:=X.base
 A:=X.A
 N:=N'
 s₀:=s3
 H₀:=H3
 env:=compEnvC scope (clTo X.env.cells scope.names []) s3.heap.objs.size X.env
 outer:=X.stack
 stack:=X.stack
 ex:=fp
 fn:=fun _=>false
 calm:=X.calm
 pn:=X.pn++B4
 xe:=fun _ _=>False
noncomputable def O8 (names:List (Str×AV))(N:List Str):List (Option Nat)->List Str->Bool
 | [],[]=>true
 | none::r,_::q=>O8 names N r q
 | some j::r,x::q=>N[j]? == some x&&names.lookup x == some .free&&O8 names N r q
 | _,_=>false
noncomputable def QJ (sc:Bt)(N:List Str)(scope:Bt)(N':List Str)(ix:List (Option Nat)):Bool :=
 scope.names.all (fun y=>y.2 != .cell)&&scope.names.all (fun y=>y.2 != .local || scope.names.lookup y.1 == some .local)
  && scope.names.all (fun y=>y.2 != .free || (sc.names.lookup y.1 == some .cell || sc.names.lookup y.1 == some .free))&&O8 scope.names N ix N'
theorem de {names:List (Str×AV)}{N:List Str}:∀{ix:List (Option Nat)}{N':List Str},O8 names N ix N'=true->ix.length=N'.length
 | [],[],_=>rfl
 | none::r,_::q,h=>by simp only[O8] at h;simp[de h]
 | some j::r,x::q,h=>by simp only[O8,NS] at h;simp[de h.2]
 | [],_::_,h=>by simp[O8] at h
 | none::_,[],h=>by simp[O8] at h
 | some _::_,[],h=>by simp[O8] at h
theorem df {names:List (Str×AV)}{N:List Str}:∀{ix:List (Option Nat)}{N':List Str}{i j:Nat}{x:Str},O8 names N ix N'=true->ix[i]?=some (some j)->N'[i]?=some x ->
  N[j]?=some x/\names.lookup x=some .free
 | [],[],_,_,_,_,e,_=>by simp at e
 | none::r,_::q,0,_,_,_,e,_=>by simp at e
 | none::r,_::q,i+1,_,_,h,e,e'=>by
  simp only[O8] at h
  exact df h (by simpa using e) (by simpa using e')
 | some j::r,x::q,0,_,_,h,e,e'=>by
  simp only[O8,NS] at h
  simp at e e'
  subst e;subst e'
  exact⟨by simpa using h.1.1,by simpa using h.1.2⟩
 | some j::r,x::q,i+1,_,_,h,e,e'=>by
  simp only[O8,NS] at h
  exact df h.2 (by simpa using e) (by simpa using e')
 | [],_::_,_,_,_,h,_,_=>by simp[O8] at h
 | none::_,[],_,_,_,h,_,_=>by simp[O8] at h
 | some _::_,[],_,_,_,h,_,_=>by simp[O8] at h
theorem mem_of_lookup {α β:Type} [BEq α] [LawfulBEq α]{x:α}{k:β}:∀{l:List (α×β)},l.lookup x=some k->(x,k)∈l
 | [],h=>by cases h
 | (n,k')::r,h=>by
  rw[Py] at h
  by_cases e:x == n
  ·rw[e] at h
   have e':x=n:=by simpa using e
   cases h
   rw[e'];exact N1
  ·have e':(x == n)=false:=by simpa using e
   rw[e'] at h
   exact NH _ (mem_of_lookup h)
theorem dg {env:Env}{x:Str}{k:AV}:∀{names:List (Str×AV)},(∀ y∈names,y.2≠.cell) ->
  (names.map fun(n,k)=>if (k == NameKind.free&&env.scope.kind == .function&&env.kindOf n == some .cell) then (n,NameKind.cell) else (n,k)).lookup x=some k->(k=.cell∨k=.free)->(x,NameKind.free)∈names
 | [],_,h,_=>by cases h
 | (n,k')::r,hc,h,hk=>by
  rw[Nq] at h
  have hc':=fun y hy=>hc y (NH _ hy)
  have hk':k'≠.cell:=hc (n,k') N1
  by_cases e:x=n
  ·subst e
   dsimp only at h
   split at h
   ·rename_i q
    rw[Py,beq_self_eq_true] at h
    have:k'=.free:=by simp only[NS] at q;simpa using q.1.1
    subst this;exact N1
   ·rw[Py,beq_self_eq_true] at h
    have K9:k'=k:=Option.some.inj h
    subst K9
    rcases hk with z | z
    ·exact absurd z hk'
    ·subst z;exact N1
  ·have e':(x == n)=false:=beq_eq_false_iff_ne.mpr e
   refine NH _ (dg (env:=env) hc' ?_ hk)
   dsimp only at h
   split at h
   ·rw[Py,e'] at h;exact h
   ·rw[Py,e'] at h;exact h
theorem dh {env:Env}{x:Str}:∀{names:List (Str×AV)},names.lookup x=some .free ->
  (names.map fun(n,k)=>if (k == NameKind.free&&env.scope.kind == .function&&env.kindOf n == some .cell) then (n,NameKind.cell) else (n,k)).lookup x=some .cell ∨
  (names.map fun(n,k)=>if (k == NameKind.free&&env.scope.kind == .function&&env.kindOf n == some .cell) then (n,NameKind.cell) else (n,k)).lookup x=some .free
 | [],h=>by cases h
 | (n,k')::r,h=>by
  rw[Nq]
  rw[Py] at h
  by_cases e:x=n
  ·subst e
   rw[beq_self_eq_true] at h
   have hk:k'=.free:=Option.some.inj h
   subst hk
   dsimp only
   split
   ·left;rw[Py,beq_self_eq_true]
   ·right;rw[Py,beq_self_eq_true]
  ·have e':(x == n)=false:=beq_eq_false_iff_ne.mpr e
   rw[e'] at h
   dsimp only
   split
   ·rw[Py,e'];exact dh h
   ·rw[Py,e'];exact dh h
structure CompFacts (X:Cx)(scope:Bt)(N':List Str)(ix:List (Option Nat)):Prop where
 nocell:∀ y∈scope.names,y.2≠.cell
 names:∀ y∈scope.names,y.2=.local->scope.names.lookup y.1=some .local
 free:∀ x,(x,NameKind.free)∈scope.names->X.env.kindOf x=some .cell∨X.env.kindOf x=some .free
 len:ix.length=N'.length
 link:∀{i j:Nat}{x:Str},ix[i]?=some (some j)->N'[i]?=some x->X.N[j]?=some x/\scope.names.lookup x=some .free
theorem dj (h:QJ X.env.scope X.N scope N' ix=true):CompFacts X scope N' ix:=by
 simp only[QJ,NS,Qi] at h
 obtain⟨⟨⟨h1,h2⟩,h3⟩,h4⟩:=h
 refine⟨fun y hy=>by simpa using h1 y hy,fun y hy e=>?_,fun x hx=>?_,de h4,fun e e'=>df h4 e e'⟩
 ·have q:=h2 y hy
  rw[e] at q
  simpa using q
 ·have q:=h3 _ hx
  have q':X.env.scope.names.lookup x=some .cell∨X.env.scope.names.lookup x=some .free:=by simpa using q
  exact q'
section
variable {X:Cx}{B4:List (Ab×Obj)}{σ:St}{H H':Hp}{s s':Ad}{scope:Bt}{N':List Str}{ix:List (Option Nat)}{fp:List Ab}
theorem FpOk.stk (I:Inv X B4 σ H s) (f:FpOk X B4 H b):b∉frs X.stack:=fun z=>by
 rcases Nf.mp (I.stkSub b z) with q | q
 ·exact f.2.1 q
 ·exact f.2.2.1 q
theorem Vm (I:Inv X B4 σ H s) (F:CompFacts X scope N' ix) (h:(clTo X.env.cells scope.names []).lookup x=some c):X.env.cells.lookup x=some c/\(x,NameKind.free)∈scope.names:=by
 rcases Tv _ _ h with q | ⟨q1,q2⟩
 ·cases q
 ·obtain⟨c',e⟩:=I.ok.has x (F.free x q1)
  rw[e] at q2
  exact⟨by rw[e,q2];rfl,q1⟩
theorem dq (I:Inv X B4 σ H s)(F:CompFacts X scope N' ix)(hk:scope.kind=.function)(hf:∀ b∈fp,FpOk X B4 H b)(ho:∀ b∈fp,∃ o,s.heap.get? b=some o):(OE X B4 scope N' fp s H).Ok where
 mod:=I.ok.mod
 kind:=hk
 glob:=I.ok.glob
 blt:=I.ok.blt
 above:=M6 _
 inj:=fun x y c e1 e2=>I.ok.inj x y c (Vm I F e1).1 (Vm I F e2).1
 has:=fun x hx=>by
  have q:(x,NameKind.free)∈scope.names:=by
   rcases hx with z | z
   ·exact dg F.nocell z (.inl rfl)
   ·exact dg F.nocell z (.inr rfl)
  exact⟨_,am _ _ (.inl q)⟩
 cab:=fun x c e=>by cases e
 hd:=I.ok.hd
 frames:=I.ok.frames
 stk:=.inl rfl
 exf:=fun b hb=>by
  obtain⟨o,e⟩:=ho b hb
  exact⟨NB (Nm e),fun x c q=>(hf b hb).2.2.2.2.1 x c (Vm I F q).1⟩
 bs:=fun b o e=>I.bs b o e
 bsz:=NI I.ok.bsz I.sz
 noex:=fun b o e hb=>by
  rcases (hf b hb).2.2.2.1 with z | z
  ·exact I.ok.noex b o e z
  ·exact absurd (N6 (Nm (I.ok.bs b o e).1) z) (Qk _)
 exfs:=fun b hb=>FpOk.stk I (hf b hb)
 funs:=I.stack
 frf:=I.stkFree
theorem du (I:Inv X B4 σ H s) (F:CompFacts X scope N' ix) (hk:scope.kind=.function) (hf:∀ b∈fp,FpOk X B4 H b) (ho:∀ b∈fp,∃ o,s.heap.get? b=some o) (hn:h'.Ns s.heap.objs.size m) (hs:Rz s.heap.objs.size (s.heap.push ob) h'):
  Inv (OE X B4 scope N' fp s H) [] (pick ix σ) H { s with heap:=h',toks:=t }:=by
 have k:∀ b u,s.heap.get? b=some u->h'.get? b=some u:=fun b u e =>
  (hs.2 b (NB (Nm e))).trans (Ng _ e)
 refine⟨dq I F hk hf ho,rfl,I.bare,Un.kept k,⟨m,hn,fun i x v e1 e2 e3=>?_⟩,fun x c e=>?_,I.fresh,fun x c e=>?_,fun p hp=>?_,I.hok.kept k,?_⟩
 ·obtain⟨j,ej,ev⟩:=dc e2
  obtain⟨l1,l2⟩:=F.link ej e1
  have fr:(x,NameKind.free)∈scope.names:=mem_of_lookup l2
  obtain⟨m0,Jj,hl⟩:=I.loc
  have vis:Vis X.env.scope x:=.inr (F.free x fr)
  obtain⟨u,r,l⟩:=hl j x v l1 ev vis
  refine⟨u,r,.inr ⟨dh l2,?_⟩⟩
  rcases l with ⟨l,_⟩ | ⟨_,c,e,z⟩
  ·rcases F.free x fr with q | q
   ·rw[q] at l;cases l
   ·rw[q] at l;cases l
  ·refine⟨c,?_,z.keeps k⟩
   show (clTo X.env.cells scope.names []).lookup x=some c
   rw[am _ _ (.inl fr),e];rfl
 ·obtain⟨v,z⟩:=I.cell x c (Vm I F e).1
  exact⟨v,z.keeps k⟩
 ·exact I.freeC x c (Vm I F e).1
 ·have hp':p∈X.pn++B4:=by
   have z:p∈(X.pn++B4)++[]:=hp
   rwa [O_] at z
  obtain⟨e,n,ne,nf,d⟩:=I.pin p hp'
  refine⟨k _ _ e,n,NB (Nm e),fun z=>?_,d⟩
  rcases Nf.mp (I.stkSub p.1 z) with q | q
  ·exact ne q
  ·exact nf q
 ·show (pick ix σ).length=N'.length
  unfold pick;rw[M5];exact F.len
theorem HOk.sameBut (ok:HOk P w H h) (hn:H a=none) (hs:Rz a h h'):HOk P w H h':=fun b ob e=>by
 refine(ok b ob e).stay (fun c w' hc q=>(hs.2 c ?_).trans q) (fun _ q=>q) fun _ _ q=>q
 rintro rfl
 rcases hc with rfl | hc
 ·rw[hn] at e;cases e
 ·rw[hn] at hc;cases hc
theorem dv (I:Inv X B4 σ H s) (hf:∀ b∈fp,FpOk X B4 H b) (I':Inv (OE X B4 scope N' fp s H) ps σ' H' s') (hs:Rz s.heap.objs.size s'.heap h'):
  Inv X B4 σ H' { s' with heap:=h' }:=by
 have bk:∀{b o o'},s.heap.get? b=some o->s'.heap.get? b=some o'->h'.get? b=some o':=fun{b o o'} e e'=>(hs.2 b (NB (Nm e))).trans e'
 refine I.call' (s':={ s' with heap:=h' }) (ch:=fp) I'.os ⟨fun b o e n hb hx=>?_,fun b o e n hb hx=>?_,I'.base.free,fun b o e hx=>?_,I'.base.tups,I'.base.frzs,I'.base.tbls⟩ (I'.hok.sameBut I'.free hs) I'.bare fun b hb=>⟨(hf b hb).2.2.2.1,(hf b hb).2.1,(hf b hb).2.2.2.2.1,(hf b hb).2.2.2.2.2⟩
 ·exact bk e (I'.base.keep b o e n hb hx)
 ·obtain⟨sl,q⟩:=I'.base.slot b o e n hb hx
  exact⟨sl,bk e q⟩
 ·obtain⟨o',q⟩:=I'.base.there b o e hx
  exact⟨o',bk e q⟩
end
noncomputable def PTs (X:Cx)(ifs:List Av)(t:TT):Prop :=
 ∀(B4:List (Ab×Obj)) (s:Ad) (σ:St) (H:Hp) (Q:Bool->Hp->Prop),Inv X B4 σ H s->t σ H Q ->
  wpAny (Ai X.prog X.w) X.A (forIn ifs true fun c r=>if r=true then do let ok <- isTrue c X.env (Aq c X.env);pure (ForInStep.yield ok) else pure (ForInStep.yield r)) (TP X B4 σ Q) X.xe s
def tTrue:TT:=fun _ H Q=>Q true H
theorem QK :PTs X [] tTrue:=fun _ _ _ H _ I h=>wpAny_tests_nil ⟨H,I,h⟩
theorem Tx (h:PT X c t):PTs X [c] t:=fun B4 s σ H Q I q=>wpAny_tests_one (h B4 s σ H Q I q)
noncomputable def RL (J:It)(p:Ab)(g:TG)(tc:TT)(te:TE)(Q:VK)(σ0:St)(H0:Hp):Prop :=
 ∃ W:Nat->Nat->List V->St->Hp->Prop,(∃ m,W 0 m [] σ0 H0)/\∀ i m B6 σ' H',W i m B6 σ' H'->H' p=some (.lst B6) /\
  ((J.stop i H'/\Q (.ref p) H')∨(J.go i H'/\B6.length < Ae/\∃ N:List V->St->Hp->Prop,(∀ a' σ3 H3,N a' σ3 H3->∃ m',m' < m/\W (i+1) m' a' σ3 H3) /\
   ∀ x H2,J.yld i H' x H2->g x σ' H2 fun σ3 H3=>tc σ3 H3 fun b H4 =>
    if b=true then te σ3 H4 fun v H5=>H5 p=some (.lst B6)/\N (B6++[v]) σ3 (upd H5 p (.lst (B6++[v]))) else N B6 σ3 H4))
def RM (ix:List (Option Nat))(wi:TI)(g:TG)(tc:TT)(te:TE):TE:=fun σ H Q=>wi σ H fun J H1=>∀ p,H1 p=none->RL J p g tc te Q (pick ix σ) (upd H1 p (.lst []))
section
variable {X:Cx}{elt tg iter:Av}{ifs:List Av}{scope:Bt}{pos:Pos}{N':List Str}{ix:List (Option Nat)}{wi:TI}{g:TG}{tc:TT}{te:TE}
theorem Wx (hc:X.calm=true) (ok:QJ X.env.scope X.N scope N' ix=true) (hk:scope.kind=.function) (hi:PI X tg iter wi) (hg:∀ B4 fp s3 H3,PG (OE X B4 scope N' fp s3 H3) tg g) (ht:∀ B4 fp s3 H3,PTs (OE X B4 scope N' fp s3 H3) ifs tc) (he:∀ B4 fp s3 H3,PE (OE X B4 scope N' fp s3 H3) elt te) (hs:∀ x,A7 iter X.env x=pure x) (I:Inv X B4 σ H s) (h:RM ix wi g tc te σ H Q) (fin:∀(p C:Ab) (H':Hp) (s':Ad),(∃ m,s'.heap.Ns C m)->FpOk X B4 H' C->(∀ h',Rz C s'.heap h'->Inv X B4 σ H' { s' with heap:=h' })->Q (.ref p) H'->compPost (Ai X.prog X.w) X.A X.xe use R (.ref p) C (.ok .next) s'):
  wpAny (Ai X.prog X.w) X.A (comprehension (.ListComp elt [⟨tg,iter,ifs,0⟩] scope pos) scope X.env (firstIterPos [⟨tg,iter,ifs,0⟩] pos) (newList []) (firstAsync [⟨tg,iter,ifs,0⟩]) (firstIter [⟨tg,iter,ifs,0⟩] X.env) use) R X.xe s:=by
 have F:=dj ok
 refine wpAny_comprehension_free (cl:=clTo X.env.cells scope.names []) rfl hs (da fun y hy e=>?_) hk F.names ?_
 ·obtain⟨n,k⟩:=y
  have e':k=.free:=e
  subst e'
  exact I.ok.has n (F.free n hy)
 refine thn (hi B4 s σ H _ I h) fun v s1 h1=>thn h1 fun itv s2 h2=>?_
 obtain⟨it,fp,tn,J,H2,e,I2,T,st2,f2,rd⟩:=h2
 subst e
 refine AC ?_
 have hp:=I2.fresh
 obtain⟨W,⟨m0,w0⟩,turn⟩:=rd _ hp
 have I3:=I2.lnew (ys:=[]) (its:=[]) (t':=s2.toks) Paired.nil (NA _)
 have Df:∀ b∈fp,FpOk X B4 (upd H2 s2.heap.objs.size (.lst [])) b:=fun b hb=>by
  obtain⟨o,e,_⟩:=T.obj _ _ st2 b hb
  exact⟨by rw[MR (NB (Nm e))];exact(f2 b hb).1,(f2 b hb).2⟩
 have Km:∀ b∈fp,∃ o,(s2.heap.push { cls:=.type "list",data:=.seq ([]:List Ac).toArray }).get? b=some o:=fun b hb=>by
  obtain⟨o,e,_⟩:=T.obj _ _ st2 b hb
  exact⟨o,Ng _ e⟩
 have hpC:s2.heap.objs.size≠(s2.heap.push { cls:=.type "list",data:=.seq ([]:List Ac).toArray }).objs.size:=by
  rw[OY];exact NB (SJ _)
 refine wpAny_newFunctionEnv F.nocell (by intro y hy;simp at hy) (fun h4 K_ Kn=>?_) hk
 have I4:=du (t:=s2.toks+([]:List (Str×Ac)).length) I3 F hk Df Km K_ Kn
 have k4:∀ b o,s2.heap.get? b=some o->h4.get? b=some o:=fun b o e =>
  (Kn.2 b (NB (N6 (Nm e) (by rw[OY];exact Pr _)))).trans (Ng _ (Ng _ e))
 have st4:tn 0 h4:=T.keep _ _ _ st2 fun b _ o e=>k4 b o e
 have fx:∀{H':Hp}{ps:List (Ab×Obj)},(∀ b∈fp,H' b=none)->(∀ b∈fp,∀ p∈ps,p.1≠b)->∀ b∈fp,FpOk (OE X B4 scope N' fp { s2 with heap:=s2.heap.push { cls:=.type "list",data:=.seq ([]:List Ac).toArray },toks:=s2.toks } (upd H2 s2.heap.objs.size (.lst []))) ps H' b:=fun{H' ps} hn Ef b hb=>by
  obtain⟨o,e⟩:=Km b hb
  refine⟨hn b hb,NB (Nm e),FpOk.stk I3 (Df b hb),.inl hb,fun x c q=>(Df b hb).2.2.2.2.1 x c (Vm I3 F q).1,fun p hp=>?_⟩
  rcases NP.mp hp with z | z
  ·exact(Df b hb).2.2.2.2.2 p z
  ·exact Ef b hb p z
 have loop:codeAny (Ai X.prog X.w) X.A (.compLoop (.ListComp elt [⟨tg,iter,ifs,0⟩] scope pos) 0 (.ref it) (.ref s2.heap.objs.size) (compEnvC scope (clTo X.env.cells scope.names []) (s2.heap.push { cls:=.type "list",data:=.seq ([]:List Ac).toArray }).objs.size X.env))
   (compPost (Ai X.prog X.w) X.A X.xe use R (.ref s2.heap.objs.size) (s2.heap.push { cls:=.type "list",data:=.seq ([]:List Ac).toArray }).objs.size) { s2 with heap:=h4,toks:=s2.toks+([]:List (Str×Ac)).length }:=by
  refine db rfl (fun n s'=>∃ i B6 σ' H',Inv (OE X B4 scope N' fp { s2 with heap:=s2.heap.push { cls:=.type "list",data:=.seq ([]:List Ac).toArray },toks:=s2.toks } (upd H2 s2.heap.objs.size (.lst []))) [] σ' H' s'/\tn i s'.heap/\(∀ b∈fp,H' b=none)/\W i n B6 σ' H')
   ?_ m0 ⟨0,[],_,_,I4,st4,fun b hb=>(Df b hb).1,w0⟩
  intro n s5 hI9
  obtain⟨i,B6,σ5,H5,I5,st5,fr5,w5⟩:=hI9
  obtain⟨G4,alt⟩:=turn i n B6 σ5 H5 w5
  rcases alt with ⟨stop,q⟩ | ⟨go,hz,N,hN,step⟩
  ·refine Ao (T.done (OE X B4 scope N' fp { s2 with heap:=s2.heap.push { cls:=.type "list",data:=.seq ([]:List Ac).toArray },toks:=s2.toks } (upd H2 s2.heap.objs.size (.lst []))) rfl rfl rfl hc i [] s5 σ5 H5 (fun _ _=>False) I5 (fx (ps:=[]) fr5 (fun _ _ _ z=>nomatch z)) st5 stop) (fun r s6 ⟨hr,I6⟩=>?_) fun _ _ f=>f.elim
   subst hr
   refine fin _ _ H5 s6 ?_ (I3.fpOk (M6 _) I6.free) (fun h' hs'=>dv I3 Df I6 hs') q
   obtain⟨m,hm,_⟩:=I6.loc
   exact⟨m,hm⟩
  ·refine Ao (T.item (OE X B4 scope N' fp { s2 with heap:=s2.heap.push { cls:=.type "list",data:=.seq ([]:List Ac).toArray },toks:=s2.toks } (upd H2 s2.heap.objs.size (.lst []))) rfl rfl rfl hc i [] s5 σ5 H5 (fun _ _=>False) I5 (fx (ps:=[]) fr5 (fun _ _ _ z=>nomatch z)) st5 go) (fun r s6 ⟨u,hr,h6⟩=>?_) fun _ _ f=>f.elim
   subst hr
   refine Ao h6 (fun _ s7 hI9=>?_) fun _ _ f=>f.elim
   obtain⟨x,H7,I7,r7,y7,st7,fr7⟩:=hI9
   have I7':=I7.pinned (fx (ps:=[]) fr7 (fun _ _ _ z=>nomatch z)) (T.obj _ _ st7)
   refine Ao (hg _ _ _ _ _ s7 σ5 H7 x u _ I7' r7 (step x H7 y7)) (fun _ s8 ⟨σ8,H8,I8,q8⟩=>?_) fun _ _ f=>f.elim
   refine Ao (ht _ _ _ _ _ s8 σ8 H8 _ I8 q8) (fun b s9 ⟨H9,I9,q9⟩=>?_) fun _ _ f=>f.elim
   have keep:∀{σ':St}{H':Hp}{s':Ad},Inv (OE X B4 scope N' fp { s2 with heap:=s2.heap.push { cls:=.type "list",data:=.seq ([]:List Ac).toArray },toks:=s2.toks } (upd H2 s2.heap.objs.size (.lst []))) ([]++QF fp s7.heap) σ' H' s' ->
     tn (i+1) s'.heap/\∀ b∈fp,H' b=none:=fun{σ' H' s'} I'=>by
    refine⟨T.keep _ _ _ st7 fun b hb o e=>(I'.pin (b,o) (Qt _ (Qt _ (al hb e)))).1,fun b hb=>?_⟩
    obtain⟨o,e,d⟩:=T.obj _ _ st7 b hb
    exact(I'.pin (b,o) (Qt _ (Qt _ (al hb e)))).2.1
   cases b with
   | false =>
    rw[B2 Nj] at q9 ⊢
    obtain⟨m',hm,w9⟩:=hN _ _ _ q9
    exact⟨m',hm,i+1,B6,σ8,H9,I9.unpinned,(keep I9).1,(keep I9).2,w9⟩
   | true =>
    rw[B3 rfl] at q9 ⊢
    refine Ao (he _ _ _ _ _ s9 σ8 H9 _ I9 q9) (fun y s10 hI9=>?_) fun _ _ f=>f.elim
    obtain⟨v10,H10,I10,r10,Jk,w10⟩:=hI9
    refine Ao (Wu (X:=(OE X B4 scope N' fp { s2 with heap:=s2.heap.push { cls:=.type "list",data:=.seq ([]:List Ac).toArray },toks:=s2.toks } (upd H2 s2.heap.objs.size (.lst [])))) _ s10 σ8 H10 (.ref s2.heap.objs.size) [v10] (.ref s2.heap.objs.size) [y] (fun _ H'=>N (B6++[v10]) σ8 H') I10 rfl (.cons r10 .nil) ⟨_,B6,v10,rfl,rfl,Jk,hz,w10⟩) (fun _ s11 hI9=>?_) fun _ _ f=>f.elim
    obtain⟨_,H11,I11,_,n11⟩:=hI9
    obtain⟨m',hm,w11⟩:=hN _ _ _ n11
    exact⟨m',hm,i+1,B6++[v10],σ8,H11,I11.unpinned,(keep I11).1,(keep I11).2,w11⟩
 exact codeAny_compStart_list loop (T.self X.A 0 _ _ _ st4 loop)
theorem PP (N':List Str)(ix:List (Option Nat))(hc:X.calm=true)(ok:QJ X.env.scope X.N scope N' ix=true)(hk:scope.kind=.function)(hi:PI X tg iter wi)
  (hg:∀ B4 fp s3 H3,PG (OE X B4 scope N' fp s3 H3) tg g) (ht:∀ B4 fp s3 H3,PTs (OE X B4 scope N' fp s3 H3) ifs tc) (he:∀ B4 fp s3 H3,PE (OE X B4 scope N' fp s3 H3) elt te)
  (hs:∀ x,A7 iter X.env x=pure x:=by intro _;rfl):PE X (.ListComp elt [⟨tg,iter,ifs,0⟩] scope pos) (RM ix wi g tc te):=by
 intro B4 s σ H Q I h
 rw[eval_ListComp]
 refine Wx hc ok hk hi hg ht he hs I h fun p C H' s' hm fC inv q=>?_
 obtain⟨m,hm⟩:=hm
 exact⟨m,hm,fun h' hs'=>⟨.ref p,H',inv h' hs',rfl,q⟩⟩
theorem QL (N':List Str) (ix:List (Option Nat)) (hc:X.calm=true) (ok:QJ X.env.scope X.N scope N' ix=true) (hk:scope.kind=.function) (hN:X.N.Nodup) (Eb:X.N[i]?=some x) (hx:X.env.scope.names.lookup x=some .local) (hi:PI X tg iter wi) (hg:∀ B4 fp s3 H3,PG (OE X B4 scope N' fp s3 H3) tg g) (ht:∀ B4 fp s3 H3,PTs (OE X B4 scope N' fp s3 H3) ifs tc) (he:∀ B4 fp s3 H3,PE (OE X B4 scope N' fp s3 H3) elt te) (hw:Bm (.ListComp elt [⟨tg,iter,ifs,0⟩] scope pos) (some (.Name x pos')) spos.line X.env=pure true:=by rfl) (hs:∀ x,A7 iter X.env x=pure x:=by intro _;rfl):PS X (.Assign [.Name x pos'] (.ListComp elt [⟨tg,iter,ifs,0⟩] scope pos) spos) (tAsg (RM ix wi g tc te) (PF i)):=by
 intro B4 s σ H D I h
 rw[exec_Assign_Name_used _ _ _ _ hw]
 refine Aa (AU (Aa ?_))
 show wpAny _ X.A (do let _ <- comprehension (.ListComp elt [⟨tg,iter,ifs,0⟩] scope pos) scope X.env (firstIterPos [⟨tg,iter,ifs,0⟩] pos) (newList []) (firstAsync [⟨tg,iter,ifs,0⟩]) (firstIter [⟨tg,iter,ifs,0⟩] X.env) (some (assign (.Name x pos') X.env))) _ _ s
 refine Aa (thn (Wx (R:=fun _ s'=>∃ σ' H',Inv X B4 σ' H' s'/\D.nx σ' H') hc ok hk hi hg ht he hs I h fun p C H' s' hm fC inv q=>?_) fun _ s' ⟨σ',H',I',q⟩=>Af (Af ⟨σ',H',I',q⟩))
 have inv0:Inv X B4 σ H' s':=by
  have:=inv s'.heap ⟨rfl,fun _ _=>rfl⟩
  exact this
 obtain⟨m,hm⟩:=hm
 refine wpAny_assign_Name ?_
 refine VU (v:=.ref p) inv0 hN Eb (.inl hx) rfl (fun s'' I'' ⟨a,sb,ha⟩=>?_) (.inr hx)
 have ne:C≠a:=by
  rcases ha with z | z
  ·rw[z];exact fC.2.1
  ·exact fun q=>fC.2.2.2.2.1 x a z q.symm
 refine⟨m,hm.sameBut sb ne,fun h' hs'=>⟨_,H',?_,q⟩⟩
 exact I''.turned (t':=s''.toks) (it:=C) (fun b o hb e=>(hs'.2 b hb).trans e) fC.1 fC.2.1 fC.2.2.2.1 fC.2.2.2.2.1 fC.2.2.2.2.2
end
inductive Dt where
 | non | bl (b:Bool) | int (i:Int) | str (x:Str) | tup (ds:List Dt) | lst (ds:List Dt)
mutual
def Is (H:Hp):V->Dt->Prop
 | v,.non=>v=.non
 | v,.bl b=>v=.bl b
 | v,.int i=>v=.int i
 | v,.str x=>v=.str x
 | v,.tup ds=>∃ a xs,v=.ref a/\H a=some (.tup xs)/\IsL H xs ds
 | v,.lst ds=>∃ a xs,v=.ref a/\H a=some (.lst xs)/\IsL H xs ds
def IsL (H:Hp):List V->List Dt->Prop
 | [],[]=>True
 | x::xs,d::ds=>Is H x d/\IsL H xs ds
 | _,_=>False
end
mutual
noncomputable def dep:Dt->Nat
 | .tup ds=>depL ds+1
 | .lst ds=>depL ds+1
 | _=>0
noncomputable def depL:List Dt->Nat
 | []=>0
 | d::ds=>max (dep d) (depL ds)
end
mutual
noncomputable def wid:Dt->Nat
 | .tup ds=>max ds.length (widL ds)
 | .lst ds=>max ds.length (widL ds)
 | _=>0
noncomputable def widL:List Dt->Nat
 | []=>0
 | d::ds=>max (wid d) (widL ds)
end
theorem Wy {i:Nat} (h:ds[i]?=some d):wid d<=widL ds:=by
 induction ds generalizing i with
 | nil=>simp at h
 | cons e ds ih =>
  simp only[widL]
  cases i with
  | zero=>simp at h;subst h;omega
  | succ i=>have:=ih (by simpa using h);omega
mutual
theorem Is.same {H H':Hp}(h:∀ b o,H b=some o->H' b=some o):∀{d:Dt}{v:V},Is H v d->Is H' v d
 | .non,_,k=>by simp only[Is] at k ⊢;exact k
 | .bl _,_,k=>by simp only[Is] at k ⊢;exact k
 | .int _,_,k=>by simp only[Is] at k ⊢;exact k
 | .str _,_,k=>by simp only[Is] at k ⊢;exact k
 | .tup ds,_,k=>by
  simp only[Is] at k ⊢
  obtain⟨a,xs,e,h1,h2⟩:=k
  exact⟨a,xs,e,h _ _ h1,IsL.same h h2⟩
 | .lst ds,_,k=>by
  simp only[Is] at k ⊢
  obtain⟨a,xs,e,h1,h2⟩:=k
  exact⟨a,xs,e,h _ _ h1,IsL.same h h2⟩
theorem IsL.same {H H':Hp}(h:∀ b o,H b=some o->H' b=some o):∀{ds:List Dt}{xs:List V},IsL H xs ds->IsL H' xs ds
 | [],[],_=>by simp only[IsL]
 | d::ds,x::xs,k=>by
  simp only[IsL] at k ⊢
  exact⟨Is.same h k.1,IsL.same h k.2⟩
 | [],_::_,k=>by simp only[IsL] at k
 | _::_,[],k=>by simp only[IsL] at k
end
theorem IsL.length {H:Hp}:∀{ds:List Dt}{xs:List V},IsL H xs ds->xs.length=ds.length
 | [],[],_=>rfl
 | d::ds,x::xs,k=>by
  simp only[IsL] at k
  simp only[ND,IsL.length k.2]
 | [],_::_,k=>by simp only[IsL] at k
 | _::_,[],k=>by simp only[IsL] at k
theorem IsL.get {H:Hp}:∀{ds:List Dt}{xs:List V}{i:Nat},IsL H xs ds->i < ds.length->∃ x d,xs[i]?=some x/\ds[i]?=some d/\Is H x d
 | [],_,_,_,h=>by simp at h
 | d::ds,x::xs,0,k,_=>by
  simp only[IsL] at k
  exact⟨x,d,rfl,rfl,k.1⟩
 | d::ds,x::xs,i+1,k,h=>by
  simp only[IsL] at k
  obtain⟨y,e,h1,h2,h3⟩:=IsL.get (i:=i) k.2 (by simpa using h)
  exact⟨y,e,by simpa using h1,by simpa using h2,h3⟩
 | _::_,[],_,k,_=>by simp only[IsL] at k
theorem Wz {i:Nat} (h:ds[i]?=some d):dep d<=depL ds:=by
 induction ds generalizing i with
 | nil=>simp at h
 | cons e ds ih =>
  simp only[depL]
  cases i with
  | zero=>simp at h;subst h;omega
  | succ i=>have:=ih (by simpa using h);omega
theorem IsL.ints (H:Hp):∀ ns:List Int,IsL H (ns.map V.int) (ns.map Dt.int)
 | []=>by simp only[N8,IsL]
 | n::ns=>by simp only[Nq,IsL,Is,true_and];exact IsL.ints H ns
mutual
noncomputable def toP:Dt->PyData
 | .non=>.none
 | .bl b=>.bool b
 | .int i=>.int i
 | .str x=>.str x
 | .tup ds=>.tuple (toPs ds)
 | .lst ds=>.list (toPs ds)
noncomputable def toPs:List Dt->List PyData
 | []=>[]
 | d::ds=>toP d::toPs ds
end
mutual
theorem Is.reads {P:Aj}{w:Ak}{H:Hp}{h:An}(ok:HOk P w H h):∀{d:Dt}{v:V}{u:Ac},Is H v d->RelV v u->∃ as,Reads h u (toP d) as
 | .non,_,_,k,r=>by simp only[Is] at k;subst k;cases r;exact⟨_,Reads.none⟩
 | .bl b,_,_,k,r=>by simp only[Is] at k;subst k;cases r;exact⟨_,Reads.bool b⟩
 | .int i,_,_,k,r=>by simp only[Is] at k;subst k;obtain⟨t,rfl⟩:=r;exact⟨_,Reads.int i t⟩
 | .str x,_,_,k,r=>by simp only[Is] at k;subst k;obtain⟨t,rfl⟩:=r;exact⟨_,Reads.str x t⟩
 | .tup ds,_,_,k,r=>by
  simp only[Is] at k
  obtain⟨a,xs,rfl,h1,h2⟩:=k
  cases r
  obtain⟨_,its,rv,⟨o,ho,hc,n,hd⟩,_⟩:=(show ObjOk P w H h a (.tup xs) from ok a _ h1)
  obtain⟨as,q⟩:=IsL.reads ok h2 rv
  exact⟨_,Reads.tuple ho hc hd (by simpa using q)⟩
 | .lst ds,_,_,k,r=>by
  simp only[Is] at k
  obtain⟨a,xs,rfl,h1,h2⟩:=k
  cases r
  obtain⟨_,its,n,rv,e⟩:=(show ObjOk P w H h a (.lst xs) from ok a _ h1)
  obtain⟨as,q⟩:=IsL.reads ok h2 rv
  exact⟨_,Reads.list e rfl rfl (by simpa using q)⟩
theorem IsL.reads {P:Aj}{w:Ak}{H:Hp}{h:An}(ok:HOk P w H h):∀{ds:List Dt}{xs:List V}{us:List Ac},IsL H xs ds->Vals xs us->∃ as,ReadsAll h us (toPs ds) as
 | [],[],_,_,.nil=>⟨_,ReadsAll.nil⟩
 | d::ds,x::xs,_,k,.cons r t=>by
  simp only[IsL] at k
  obtain⟨as,q⟩:=Is.reads ok k.1 r
  obtain⟨bs,q2⟩:=IsL.reads ok k.2 t
  exact⟨_,ReadsAll.cons q q2⟩
 | [],_::_,_,k,_=>by simp only[IsL] at k
 | _::_,[],_,k,_=>by simp only[IsL] at k
end
def okD (d:Dt):Prop:=SeqAt.shaped (toP d)=true
noncomputable def eqD (d e:Dt):Bool:=PyData.eqv (toP d) (toP e)
theorem dw (h:okD d):eqD d d=true:=SeqAt.eqv_refl _ (SeqAt.canLay_of_shaped h)
section
variable {X:Cx}
theorem OpR.imp (h:OpR X f r) (hi:∀ x y H Q,r' x y H Q->r x y H Q):OpR X f r':=fun B4 s σ H x y v u Q I rx ry q=>h B4 s σ H x y v u Q I rx ry (hi x y H Q q)
theorem CallR.imp (h:CallR X f r) (hi:∀ xs H Q,r' xs H Q->r xs H Q):CallR X f r':=fun B4 s σ H xs us Q I rs q=>h B4 s σ H xs us Q I rs (hi xs H Q q)
end
section
variable {X:Cx}{B4:List (Ab×Obj)}{σ:St}{H:Hp}{s:Ad}{Q:VK}
theorem endS (I:Inv X B4 σ H s) (q:Q (.str z) H):EP X B4 σ Q (.str z t) s:=⟨.str z,H,I,⟨t,rfl⟩,q⟩
theorem endN (I:Inv X B4 σ H s) (q:Q (.int i) H):EP X B4 σ Q (.int i t) s:=⟨.int i,H,I,⟨t,rfl⟩,q⟩
theorem endB (I:Inv X B4 σ H s) (q:Q (.bl b) H):EP X B4 σ Q (.bool b) s:=⟨.bl b,H,I,rfl,q⟩
end
noncomputable def lstR (H:Hp)(a:Ab):Option (List V):=match H a with
 | some (.lst xs)=>some xs
 | some (.frz _ (.lst xs))=>some xs
 | _=>none
noncomputable def tupR (H:Hp)(a:Ab):Option (List V):=match H a with
 | some (.tup xs)=>some xs
 | _=>none
noncomputable def seqR (H:Hp)(a:Ab):Option (List V):=match lstR H a with
 | some xs=>some xs
 | none=>tupR H a
theorem Pt (h:H a=some (.lst xs)):lstR H a=some xs:=by unfold lstR;rw[h]
theorem WA (h:H a=some (.tup xs)):tupR H a=some xs:=by unfold tupR;rw[h]
theorem OF (h:H a=some (.lst xs)):seqR H a=some xs:=by unfold seqR;rw[Pt h]
theorem Tz (h:H a=some (.tup xs)):seqR H a=some xs:=by
 have e:lstR H a=none:=by unfold lstR;rw[h]
 unfold seqR;rw[e];exact WA h
theorem RN {K:MV}{H:Hp}{a:Ab}{xs:List V}(h:lstR H a=some xs):SqL K H a xs:=by
 unfold lstR at h
 split at h
 ·rename_i e;cases h;exact .inl (.inl e)
 ·rename_i e;cases h;exact .inl (.inr ⟨_,e⟩)
 ·cases h
theorem TD {K:MV}{H:Hp}{a:Ab}{xs:List V}(h:tupR H a=some xs):SqT K H a xs:=by
 unfold tupR at h
 split at h
 ·rename_i e;cases h;exact .inl (.inl e)
 ·cases h
theorem QM {K:MV}{H:Hp}{a:Ab}{xs:List V}(h:seqR H a=some xs):SqL K H a xs∨SqT K H a xs:=by
 unfold seqR at h
 split at h
 ·rename_i e;cases h;exact .inl (RN e)
 ·exact .inr (TD h)
def GetT (H:Hp)(xs:List V)(Q:VK):Prop:=∀ p H',H' p=some (.tup xs)->(∀ b o,H b=some o->H' b=some o)->Q (.ref p) H'
theorem GetT.new (h:GetT H xs Q) (hp:H p=none):Q (.ref p) (upd H p (.tup xs)) :=
 h p _ MT fun b o e=>by rw[MR (MZ e hp)];exact e
theorem GetT.old (h:GetT H xs Q) (hp:H p=some (.tup xs)):Q (.ref p) H:=h p _ hp fun b o e=>e
def GetL (H:Hp)(xs:List V)(Q:VK):Prop:=∀ p,H p=none->Q (.ref p) (upd H p (.lst xs))
def fAdd:R2:=fun x y H Q=>match x,y with
 | .int i,.int j=>Q (.int (i+j)) H
 | .str i,.str j=>i.length+j.length<=Ae/\Q (.str (i++j)) H
 | .ref a,.ref b=>match H a,H b with
  | some (.lst xs),some (.lst ys)=>xs.length+ys.length<=Ae/\GetL H (xs++ys) Q
  | some (.tup xs),some (.tup ys)=>xs≠[]/\xs.length+ys.length<=Ae/\GetT H (xs++ys) Q
  | _,_=>False
 | _,_=>False
def fMul:R2:=fun x y H Q=>match x,y with
 | .int i,.int j=>CMul i j/\Q (.int (i * j)) H
 | .str z,.int n=>z.length * n.toNat<=1000000/\-(2 ^ 62) < n/\n < 2 ^ 62/\Q (.str (Txt.mul z n)) H
 | .ref a,.int k=>match H a with
  | some (.lst xs)=>-(2 ^ 63)<=k/\k < 2 ^ 63/\xs.length * k.toNat<=Ae/\GetL H (Nr k.toNat xs).flatten Q
  | _=>False
 | _,_=>False
def fI (C:Int->Int->Prop)(g:Int->Int->V):R2:=fun x y H Q=>match x,y with
 | .int i,.int j=>C i j/\Q (g i j) H
 | _,_=>False
def fI0 (g:Int->Int->V):R2:=fun x y H Q=>match x,y with
 | .int i,.int j=>Q (g i j) H
 | _,_=>False
theorem QN :∀ x y H Q,fI0 g x y H Q->rI0 g x y H Q:=fun x y H Q h=>by
 unfold fI0 at h
 split at h
 ·exact⟨_,_,rfl,rfl,h⟩
 ·exact h.elim
theorem TF :∀ x y H Q,fI C g x y H Q->rI C g x y H Q:=fun x y H Q h=>by
 unfold fI at h
 split at h
 ·exact⟨_,_,rfl,rfl,h.1,h.2⟩
 ·exact h.elim
section
variable {X:Cx}
theorem M_:OpR X (AI .Add) fAdd:=by
 intro B4 s σ H x y v u Q I rx ry h
 unfold fAdd at h
 split at h
 ·exact op_add B4 s σ H _ _ v u Q I rx ry ⟨_,_,rfl,rfl,h⟩
 ·exact cg B4 s σ H _ _ v u Q I rx ry ⟨_,_,rfl,rfl,h.1,h.2⟩
 ·split at h
  ·rename_i h1 h2
   exact op_cat B4 s σ H _ _ v u Q I rx ry ⟨_,_,_,_,rfl,rfl,h1,h2,h.1,h.2⟩
  ·rename_i xs ys h1 h2
   refine cL B4 s σ H _ _ v u Q I rx ry ⟨_,_,_,_,rfl,rfl,SqT.of h1,SqT.of h2,h.1,h.2.1,fun e=>?_,fun _ p hp=>h.2.2.new hp⟩
   subst e
   have:=h.2.2
   rw[O_] at this
   exact this.old h1
  ·exact h.elim
 ·exact h.elim
theorem QO:OpR X (AI .Sub) (fI0 fun i j=>.int (i - j)):=op_sub.imp QN
theorem WB:OpR X (AI .FloorDiv) (fI CDiv fun i j=>.int (i / j)):=op_fdiv.imp TF
theorem QP:OpR X (AI .Mod) (fI (fun _ j=>0 < j) fun i j=>.int (i % j)):=op_mod.imp TF
theorem o_pow:OpR X (AI .Pow) (fI CPow fun i j=>.int (i ^ j.toNat)):=op_pow.imp TF
theorem dz (h:z.length * n.toNat<=1000000) (h1:-(2 ^ 62) < n) (h2:n < 2 ^ 62):MulOk z n:=by
 have e1:((2:Int) ^ 62)=4611686018427387904:=by decide
 have e2:((2:Int) ^ 63)=9223372036854775808:=by decide
 rw[e1] at h1 h2
 refine⟨?_,fun hn _=>?_,fun hn _=>?_⟩
 ·rw[e2];simp only[Bool.or_eq_false_iff,decide_eq_false_iff_not];omega
 ·have hp:0 < n:=by omega
  have hz:(z.length:Int)<=1000000:=by
   have:z.length * 1<=z.length * n.toNat:=Nat.mul_le_mul_left _ (by omega)
   omega
  have e3:((2:Int) ^ 63 - 1)=9223372036854775807:=by decide
  rw[e3]
  intro La
  have h3:(9223372036854775807:Int) / n < z.length:=La
  have h4:(9223372036854775807:Int) < z.length * n:=by
   have:=Int.lt_mul_of_ediv_lt hp h3
   exact this
  have h5:(z.length:Int) * n<=1000000:=by
   have e:((z.length * n.toNat:Nat):Int)=(z.length:Int) * n:=by
    rw[Int.natCast_mul];congr 1;omega
   omega
  omega
 ·unfold Builtin.Str.tooLong Ae
  have e4:(2:Nat) ^ 24=16777216:=by decide
  exact B0 (by omega)
theorem Rm:OpR X (AI .Mult) fMul:=by
 intro B4 s σ H x y v u Q I rx ry h
 unfold fMul at h
 split at h
 ·exact op_mul B4 s σ H _ _ v u Q I rx ry ⟨_,_,rfl,rfl,h.1,h.2⟩
 ·obtain⟨h1,h2,h3,q⟩:=h
  obtain⟨t,rfl⟩:=rx
  obtain⟨t',rfl⟩:=ry
  exact SB.mul (dz h1 h2 h3) fun t' k=>endS (I.tok _) q
 ·split at h
  ·rename_i h1
   exact op_rep B4 s σ H _ _ v u Q I rx ry ⟨_,_,_,rfl,rfl,h1,h.1,h.2.1,h.2.2.1,h.2.2.2⟩
  ·exact h.elim
 ·exact h.elim
theorem o_lt:OpR X (Ar .Lt) (fI0 fun i j=>.bl (decide (i < j))):=op_lt.imp QN
theorem o_le:OpR X (Ar .LtE) (fI0 fun i j=>.bl (decide (i<=j))):=op_le.imp QN
theorem o_gt:OpR X (Ar .Gt) (fI0 fun i j=>.bl (decide (j < i))):=op_gt.imp QN
theorem o_ge:OpR X (Ar .GtE) (fI0 fun i j=>.bl (decide (j<=i))):=op_ge.imp QN
def fEq:R2:=fun x y H Q=>(scal x y=true/\Q (.bl (decide (x=y))) H)∨∃ d e,Is H x d/\Is H y e/\okD d/\okD e/\Q (.bl (eqD d e)) H
def fNe:R2:=fun x y H Q=>(scal x y=true/\Q (.bl (!decide (x=y))) H)∨∃ d e,Is H x d/\Is H y e/\okD d/\okD e/\Q (.bl (!eqD d e)) H
def fIs:R2:=fun x y H Q=>y=.non/\Q (.bl (decide (x=.non))) H
theorem o_eq (hu:X.A.units+64 < BE):OpR X (Ar .Eq) fEq:=by
 intro B4 s σ H x y v u Q I rx ry h
 rcases h with h | ⟨d,e,h1,h2,h3,h4,q⟩
 ·exact op_eq B4 s σ H x y v u Q I rx ry h
 ·obtain⟨as,r1⟩:=Is.reads I.hok h1 rx
  obtain⟨bs,r2⟩:=Is.reads I.hok h2 ry
  exact eq_dataH r1 r2 h3 h4 hu (endB I q)
theorem o_ne (hu:X.A.units+64 < BE):OpR X (Ar .NotEq) fNe:=by
 intro B4 s σ H x y v u Q I rx ry h
 rcases h with h | ⟨d,e,h1,h2,h3,h4,q⟩
 ·exact op_ne B4 s σ H x y v u Q I rx ry h
 ·obtain⟨as,r1⟩:=Is.reads I.hok h1 rx
  obtain⟨bs,r2⟩:=Is.reads I.hok h2 ry
  exact ne_dataH r1 r2 h3 h4 hu (endB I q)
theorem o_is:OpR X (Ar .Is) fIs:=op_isN
def fIn (neg:Bool):R2:=fun x y H Q=>match x,y with
 | .str i,.str j=>Q (.bl (xor neg (Te j i))) H
 | x,.ref p=>match seqR H p with
  | some xs=>PN x=true/\xs.all PN=true/\Q (.bl (if neg then !inV x xs else inV x xs)) H
  | none=>False
 | _,_=>False
theorem o_in:OpR X (Ar .In) (fIn false):=by
 intro B4 s σ H x y v u Q I rx ry h
 unfold fIn at h
 split at h
 ·refine cb B4 s σ H _ _ v u Q I rx ry ⟨_,_,rfl,rfl,?_⟩
  simpa [Te] using h
 ·split at h
  ·rename_i e
   exact Wq B4 s σ H _ _ v u Q I rx ry ⟨_,_,rfl,QM e,h.1,h.2.1,h.2.2⟩
  ·exact h.elim
 ·exact h.elim
def fNeg:V->Hp->VK->Prop:=fun x H Q=>match x with
 | .int i=>Q (.int (-i)) H
 | _=>False
theorem RO:UnR X (unaryOp .USub) fNeg:=fun B4 s σ H x v Q I rx h=>by
 unfold fNeg at h
 split at h
 ·exact un_neg B4 s σ H _ v Q I rx ⟨_,rfl,h⟩
 ·exact h.elim
def fIx (K:MV):R2:=fun x y H Q=>match x,y with
 | .ref p,.int i=>∃ xs v,(SqL K H p xs∨SqT K H p xs)/\atI xs i=some v/\Q v H
 | .str z,.int i=>z.length<=Ae/\(match atI z.cps.toList i with | some c=>Q (.str ⟨#[c]⟩) H | none=>False)
 | _,_=>False
theorem ix_any {K:MV}(hK:X.K=K:=by rfl):IxR X (fIx K):=by
 subst hK
 intro value slice B4 s σ H x y v u Q I rx ry h hs
 unfold fIx at h
 split at h
 ·obtain⟨xs,w',e,e',h⟩:=h
  rcases e with q | q
  ·exact cM value slice B4 s σ H _ _ v u Q I rx ry ⟨_,_,_,_,rfl,rfl,q,e',h⟩ hs
  ·exact ix_tup value slice B4 s σ H _ _ v u Q I rx ry ⟨_,_,_,_,rfl,rfl,q,e',h⟩ hs
 ·obtain⟨hz,h⟩:=h
  split at h
  ·rename_i c e
   exact ix_str value slice B4 s σ H _ _ v u Q I rx ry ⟨_,_,_,rfl,rfl,hz,e,h⟩ hs
  ·exact h.elim
 ·exact h.elim
def fSl (K:MV):V->Option Int->Option Int->Hp->VK->Prop:=fun x lo hi H Q=>match x with
 | .str z=>z.length<=Ae/\Q (.str (VN z lo hi)) H
 | .ref a=>(∃ xs,SqL K H a xs/\GetL H (cutV xs lo hi) Q) ∨
  (∃ xs,SqT K H a xs/\¬ (HT.sIx xs.length 0 lo=0/\HT.sIx xs.length xs.length hi=xs.length)/\GetT H (cutV xs lo hi) Q)
 | _=>False
theorem sl_str:SlR X (fun x lo hi H Q=>∃ z,x=.str z/\z.length<=Ae/\Q (.str (VN z lo hi)) H):=by
 intro B4 s σ H x v vl vu lo hi sl Q I rx hs pl pu h
 obtain⟨z,rfl,hz,q⟩:=h
 obtain⟨t,rfl⟩:=rx
 refine⟨"str",_,PySem.F.slot_str_getitem.lookup,Br _ _ _,?_⟩
 have fin:∀(l u:Option (Int×Tok)),l.map (·.1)=lo->u.map (·.1)=hi->s.heap.IsSlice sl l u none->wpAny (Ai X.prog X.w) X.A (Bw (.str z t) (.ref sl)) (EP X B4 σ Q) X.xe s:=fun l u el eu hs'=>by
  subst el eu
  refine wpAny_getItem_str_slice hs' rfl ?_
  have q':∀ t' k,EP X B4 σ Q (.str (VN z (l.map (·.1)) (u.map (·.1))) t') { s with toks:=k }:=fun t' k=>endS (I.tok _) q
  exact post_val_or_str ⟨NI (Txt.slice_le z _ _) hz,fun t' k=>q' t' k⟩
 cases pl with
 | none =>
  cases pu with
  | none=>exact fin none none rfl rfl hs
  | int j u=>exact fin none (some (j,u)) rfl rfl hs
 | int i t' =>
  cases pu with
  | none=>exact fin (some (i,t')) none rfl rfl hs
  | int j u=>exact fin (some (i,t')) (some (j,u)) rfl rfl hs
theorem Od {K:MV}(hK:X.K=K:=by rfl):SlR X (fSl K):=by
 subst hK
 intro B4 s σ H x v vl vu lo hi sl Q I rx hs pl pu h
 unfold fSl at h
 split at h
 ·exact sl_str B4 s σ H _ v vl vu lo hi sl Q I rx hs pl pu ⟨_,rfl,h.1,h.2⟩
 ·rcases h with ⟨xs,e,h⟩ | ⟨xs,e,h⟩
  ·exact cS B4 s σ H _ v vl vu lo hi sl Q I rx hs pl pu ⟨_,_,rfl,e,h⟩
  ·exact sl_tup B4 s σ H _ v vl vu lo hi sl Q I rx hs pl pu ⟨_,_,rfl,e,h.1,fun p hp=>h.2.new hp⟩
 ·exact h.elim
def fLen (K:MV):List V->Hp->VK->Prop:=fun xs H Q=>match xs with
 | [.str z]=>z.length<=Ae/\Q (.int z.length) H
 | [.ref p]=>∃ ys,(SqL K H p ys∨SqT K H p ys)/\Q (.int ys.length) H
 | _=>False
theorem Nu {K:MV}(hK:X.K=K:=by rfl):CallR X (.builtin "len") (fLen K):=by
 subst hK
 intro B4 s σ H xs us Q I r h
 unfold fLen at h
 split at h
 ·exact cU B4 s σ H _ us Q I r ⟨_,rfl,h.1,h.2⟩
 ·obtain⟨ys,e,h⟩:=h
  exact cT B4 s σ H _ us Q I r ⟨_,_,rfl,e,h⟩
 ·exact h.elim
def f1I (g:Int->V):List V->Hp->VK->Prop:=fun xs H Q=>match xs with
 | [.int i]=>Q (g i) H
 | _=>False
def f2I (g:Int->Int->V):List V->Hp->VK->Prop:=fun xs H Q=>match xs with
 | [.int i,.int j]=>Q (g i j) H
 | _=>False
theorem c_abs:CallR X (.builtin "abs") (f1I fun i=>.int (if i < 0 then -i else i)):=call_abs.imp fun xs H Q h=>by
 unfold f1I at h
 split at h
 ·exact⟨_,rfl,h⟩
 ·exact h.elim
theorem c_max (hc:X.calm=true):CallR X (.builtin "max") (f2I fun i j=>.int (if j > i then j else i)):=(ci hc).imp fun xs H Q h=>by
 unfold f2I at h
 split at h
 ·exact⟨_,_,rfl,h⟩
 ·exact h.elim
theorem c_min (hc:X.calm=true):CallR X (.builtin "min") (f2I fun i j=>.int (if j < i then j else i)):=(cj hc).imp fun xs H Q h=>by
 unfold f2I at h
 split at h
 ·exact⟨_,_,rfl,h⟩
 ·exact h.elim
def fInt:List V->Hp->VK->Prop:=fun xs H Q=>match xs with
 | [.int i]=>Q (.int i) H
 | [.bl b]=>Q (.int (if b then 1 else 0)) H
 | _=>False
theorem QQ:CallR X (.type "int") fInt:=call_int1.imp fun xs H Q h=>by
 unfold fInt at h
 split at h
 ·exact .inl ⟨_,rfl,h⟩
 ·exact .inr ⟨_,rfl,h⟩
 ·exact h.elim
def fStr:List V->Hp->VK->Prop:=fun xs H Q=>match xs with
 | [.int i]=>i.natAbs.log2 < 1920/\Q (.str (toString i)) H
 | _=>False
theorem PQ:CallR X (.type "str") fStr:=call_str_int.imp fun xs H Q h=>by
 unfold fStr at h
 split at h
 ·exact⟨_,rfl,h.1,h.2⟩
 ·exact h.elim
def TH:List V->Hp->VK->Prop:=fun xs H Q=>match xs with
 | [.ref p]=>(match seqR H p with | some ys=>GetL H ys Q | none=>False)
 | _=>False
theorem c_list:CallR X (.type "list") TH:=call_list_of.imp fun xs H Q h=>by
 unfold TH at h
 split at h
 ·split at h
  ·rename_i e;exact⟨_,_,rfl,QM e,h⟩
  ·exact h.elim
 ·exact h.elim
def TK:List V->Hp->VK->Prop:=fun xs H Q=>match xs with
 | [.ref p]=>(match seqR H p with | some ys=>GetT H ys Q | none=>False)
 | _=>False
theorem dA (h:tupR H p=some ys):H p=some (.tup ys):=by
 unfold tupR at h
 split at h
 ·rename_i e;cases h;exact e
 ·cases h
theorem QR:CallR X (.type "tuple") TK:=call_tuple_of.imp fun xs H Q h=>by
 unfold TK at h
 split at h
 ·split at h
  ·rename_i ys e
   refine⟨_,ys,rfl,?_⟩
   unfold seqR at e
   split at e
   ·rename_i e';cases e
    exact .inl ⟨RN e',fun l hl=>h.new hl⟩
   ·exact .inr ⟨TD e,h.old (dA e)⟩
  ·exact h.elim
 ·exact h.elim
def fTru (x:V)(H:Hp)(Q:Bool->Hp->Prop):Prop:=match x with
 | .non=>Q false H
 | .bl b=>Q b H
 | .int i=>Q (i != 0) H
 | .str z=>z.length<=Ae/\Q ((z.length:Int) != 0) H
 | .ref p=>(match seqR H p with | some xs=>Q (!xs.isEmpty) H | none=>False)
 | _=>False
theorem Oe (ha:PE X a ta) (he:∀ whole,isTrue a X.env whole=(do let v <- whole;Bk a.pos;Bd [v] (truthy v))):
  PT X a (fun σ H Q=>ta σ H fun x H'=>fTru x H' Q):=by
 intro B4 s σ H Q I h
 show wpAny _ _ (isTrue a X.env (Aq a X.env)) _ _ _
 rw[he]
 refine Aa (thn (ha B4 s σ H _ I h) fun v s1 ⟨x,H1,I1,r1,q1⟩=>Aa (AU (AM ?_)))
 refine tru_ok B4 s1 σ H1 x v Q I1 r1 ?_
 have q1:fTru x H1 Q:=q1
 unfold fTru at q1
 split at q1
 ·exact⟨_,rfl,q1⟩
 ·exact⟨_,rfl,q1⟩
 ·exact⟨_,rfl,q1⟩
 ·exact⟨_,⟨q1.1,rfl⟩,q1.2⟩
 ·split at q1
  ·rename_i xs e
   refine⟨_,?_,q1⟩
   rcases QM (K:=X.K) e with z | z
   ·exact .inl ⟨_,z,rfl⟩
   ·exact .inr (.inl ⟨_,z,rfl⟩)
  ·exact q1.elim
 ·exact q1.elim
def TL:V->List V->Hp->VK->Prop:=fun x vs H Q=>match x,vs with
 | .ref l,[y]=>(match H l with | some (.lst xs)=>xs.length < Ae/\Q .non (upd H l (.lst (xs++[y]))) | _=>False)
 | _,_=>False
theorem O9:MtR X "list.append" TL:=fun B4 s σ H x xs v us Q I rx rs h=>by
 unfold TL at h
 split at h
 ·split at h
  ·rename_i e
   exact Wu B4 s σ H _ _ v us Q I rx rs ⟨_,_,_,rfl,rfl,e,h.1,h.2⟩
  ·exact h.elim
 ·exact h.elim
theorem WC:∀{ys:List Str}{us:List Ac},Vals (ys.map V.str) us->StrsAre us ys
 | [],_,.nil=>.nil
 | y::ys,_,.cons r t=>by
  obtain⟨k,rfl⟩:=r
  exact .cons y k (WC t)
noncomputable def strs?:List V->Option (List Str)
 | []=>some []
 | .str z::r=>(strs? r).map (z::·)
 | _=>none
theorem strs?_map:∀ ys:List Str,strs? (ys.map V.str)=some ys
 | []=>rfl
 | y::ys=>by simp only[Nq,strs?,strs?_map ys,Z8]
theorem strs?_of:∀{xs:List V}{ys:List Str},strs? xs=some ys->xs=ys.map V.str
 | [],_,h=>by cases h;rfl
 | .str z::r,ys,h=>by
  simp only[strs?] at h
  cases e:strs? r with
  | none=>rw[e] at h;cases h
  | some q=>rw[e] at h;cases h;rw[strs?_of e];rfl
 | .non::_,_,h=>by cases h
 | .bl _::_,_,h=>by cases h
 | .int _::_,_,h=>by cases h
 | .byt _::_,_,h=>by cases h
 | .flt _::_,_,h=>by cases h
 | .ref _::_,_,h=>by cases h
 | .ty _::_,_,h=>by cases h
def TM:V->List V->Hp->VK->Prop:=fun x vs H Q=>match x,vs with
 | .str z,[.ref p]=>(match lstR H p with
  | some xs=>(match strs? xs with
   | some ys=>(ys.map (·.length)).sum+ys.length * z.length<=16777216/\Q (.str (Rg z ys)) H
   | none=>False)
  | none=>False)
 | _,_=>False
theorem SM:MtR X "str.join" TM:=fun B4 s σ H x xs v us Q I rx rs h=>by
 unfold TM at h
 split at h
 ·rename_i z p
  split at h
  ·rename_i ws e
   split at h
   ·rename_i ys e2
    obtain⟨t,rfl⟩:=rx
    obtain⟨u,rfl,ru⟩:=Op rs
    cases ru
    obtain⟨its,r',pl,hz⟩:=I.list (RN e)
    rw[strs?_of e2] at r'
    exact join_list pl.isList (WC (by simpa using r')) h.1 fun t' k=>endS (I.tok _) h.2
   ·exact h.elim
  ·exact h.elim
 ·exact h.elim
def fSS (g:Str->Str->V):V->List V->Hp->VK->Prop:=fun x vs H Q=>match x,vs with
 | .str z,[.str y]=>Q (g z y) H
 | _,_=>False
def fSSI (g:Str->Str->Int->V):V->List V->Hp->VK->Prop:=fun x vs H Q=>match x,vs with
 | .str z,[.str y,.int i]=>Q (g z y i) H
 | _,_=>False
theorem ky:MtR X "str.startswith" (fSS fun z y=>.bl (bC z y)):=fun B4 s σ H x xs v us Q I rx rs h=>by
 unfold fSS at h
 split at h
 ·obtain⟨t,rfl⟩:=rx
  obtain⟨u,rfl,t',rfl⟩:=Op rs
  exact SC.startswith (endB I h)
 ·exact h.elim
theorem dB:MtR X "str.endswith" (fSS fun z y=>.bl (bE z y)):=fun B4 s σ H x xs v us Q I rx rs h=>by
 unfold fSS at h
 split at h
 ·obtain⟨t,rfl⟩:=rx
  obtain⟨u,rfl,t',rfl⟩:=Op rs
  exact SC.endswith (endB I h)
 ·exact h.elim
theorem dC:MtR X "str.find" (fSS fun z y=>.int (Txt.find z y)):=fun B4 s σ H x xs v us Q I rx rs h=>by
 unfold fSS at h
 split at h
 ·obtain⟨t,rfl⟩:=rx
  obtain⟨u,rfl,t',rfl⟩:=Op rs
  exact SC.find (endN (I.tok _) h)
 ·exact h.elim
theorem dD:MtR X "str.find" (fSSI fun z y i=>.int (Txt.find3 z y i)):=fun B4 s σ H x xs v us Q I rx rs h=>by
 unfold fSSI at h
 split at h
 ·obtain⟨t,rfl⟩:=rx
  obtain⟨u,w',rfl,⟨t',rfl⟩,⟨t'',rfl⟩⟩:=PH rs
  exact SC.find3 (endN (I.tok _) h)
 ·exact h.elim
theorem dE:MtR X "str.startswith" (fSSI fun z y i=>.bl (bB z y i)):=fun B4 s σ H x xs v us Q I rx rs h=>by
 unfold fSSI at h
 split at h
 ·obtain⟨t,rfl⟩:=rx
  obtain⟨u,w',rfl,⟨t',rfl⟩,⟨t'',rfl⟩⟩:=PH rs
  exact SC.startswith3 (endB I h)
 ·exact h.elim
end
noncomputable def tyN (H:Hp):V->Option String
 | .non=>some "NoneType"
 | .bl _=>some "bool"
 | .int _=>some "int"
 | .str _=>some "str"
 | .ref a=>match H a with
  | some (.lst _)=>some "list"
  | some (.frz _ (.lst _))=>some "list"
  | some (.tup _)=>some "tuple"
  | _=>none
 | _=>none
noncomputable def subB (t T:String):Bool:=t == T || (t == "bool"&&T == "int")
noncomputable def tys?:List V->Option (List String)
 | []=>some []
 | .ty T::r=>(tys? r).map (T::·)
 | _=>none
noncomputable def QS (T:String):Bool:=["bool","int","str","list","tuple"].contains T
theorem WD {K:MV}{t T:String}(ht:t="NoneType"∨t="bool"∨t="int"∨t="str"∨t="list"∨t="tuple")(hT:T="bool"∨T="int"∨T="str"∨T="list"∨T="tuple") :
  S3 K (.type t) (.type T)=some (subB t T):=by
 rcases ht with rfl | rfl | rfl | rfl | rfl | rfl <;> rcases hT with rfl | rfl | rfl | rfl | rfl <;> kernel_rfl
def fIsi:List V->Hp->VK->Prop:=fun xs H Q=>match xs with
 | [x,.ty T]=>(match tyN H x with
  | some t=>QS T=true/\Q (.bl (subB t T)) H
  | none=>False)
 | [x,.ref p]=>(match tyN H x,tupR H p with
  | some t,some ts=>(match tys? ts with
   | some Ts=>Ts.all QS=true/\Q (.bl (Ts.any (subB t))) H
   | none=>False)
  | _,_=>False)
 | _=>False
section
variable {X:Cx}
theorem WE {K:MV}{B4:List (Ab×Obj)}{σ:St}{H:Hp}{s:Ad}{x:V}{u:Ac}{t:String}(I:Inv X B4 σ H s)(rx:RelV x u)(e:tyN H x=some t) :
  (t="NoneType"∨t="bool"∨t="int"∨t="str"∨t="list"∨t="tuple")/\u≠.builtin "__main__.__loader__#opaque"/\∃ Hp',PySem.W.KitX K u (.type t) Hp'/\Hp' s.heap:=by
 cases x with
 | non=>cases (show u=Value.none from rx);cases e;exact⟨by simp,(fun z=>nomatch z),_,PySem.W.kitx_none,True.intro⟩
 | bl b=>cases (show u=Value.bool b from rx);cases e;exact⟨by simp,(fun z=>nomatch z),_,PySem.W.kitx_bool,True.intro⟩
 | int i=>obtain⟨k,q⟩:=(show ∃ t,u=Value.int i t from rx);cases q;cases e;exact⟨by simp,(fun z=>nomatch z),_,PySem.W.kitx_int,True.intro⟩
 | str z=>obtain⟨k,q⟩:=(show ∃ t,u=Value.str z t from rx);cases q;cases e;exact⟨by simp,(fun z=>nomatch z),_,PySem.W.kitx_str,True.intro⟩
 | ref a =>
  cases (show u=Value.ref a from rx)
  unfold tyN at e
  dsimp only at e
  split at e
  ·rename_i xs ea
   cases e
   obtain⟨_,_,n,_,h1⟩:=(show ObjOk X.prog X.w H s.heap a (.lst xs) from I.hok a _ ea)
   exact⟨by simp,(fun z=>nomatch z),_,jG,⟨_,h1,rfl⟩⟩
  ·rename_i ob xs ea
   cases e
   obtain⟨_,_,_,n,_,h1⟩:=(show ObjOk X.prog X.w H s.heap a (.frz ob (.lst xs)) from I.hok a _ ea)
   exact⟨by simp,(fun z=>nomatch z),_,jG,⟨_,h1,rfl⟩⟩
  ·rename_i xs ea
   cases e
   obtain⟨_,_,_,p⟩:=(show ObjOk X.prog X.w H s.heap a (.tup xs) from I.hok a _ ea)
   obtain⟨⟨o,h1,h2,_⟩,_⟩:=p
   exact⟨by simp,(fun z=>nomatch z),_,PySem.W.kitx_tuple,⟨o,h1,h2⟩⟩
  ·cases e
 | byt _=>cases e
 | flt _=>cases e
 | ty _=>cases e
theorem WF (h:QS T=true):T="bool"∨T="int"∨T="str"∨T="list"∨T="tuple":=by
 simpa [QS] using h
theorem WG {K:MV}{t:String}(ht:t="NoneType"∨t="bool"∨t="int"∨t="str"∨t="list"∨t="tuple"):∀{ts:List V}{Ts:List String}{its:List Ac},tys? ts=some Ts->Vals ts its->Ts.all QS=true ->
  PySem.W.kitAny K (.type t) its=some (Ts.any (subB t))
 | [],_,_,e,.nil,_=>by cases e;rfl
 | .ty T::r,Ts,_,e,.cons rv rt,hk=>by
  simp only[tys?] at e
  cases er:tys? r with
  | none=>rw[er] at e;cases e
  | some q =>
   rw[er] at e
   cases e
   simp only[a_,NS] at hk
   cases rv
   have h1:=WD (K:=K) ht (WF hk.1)
   have h2:=WG (K:=K) ht er rt hk.2
   unfold PySem.W.kitAny
   rw[h1]
   cases hb:subB t T with
   | true=>simp[hb]
   | false=>simp only[Pp,hb,VG];exact h2
 | .non::_,_,_,e,_,_=>by cases e
 | .bl _::_,_,_,e,_,_=>by cases e
 | .int _::_,_,_,e,_,_=>by cases e
 | .str _::_,_,_,e,_,_=>by cases e
 | .byt _::_,_,_,e,_,_=>by cases e
 | .flt _::_,_,_,e,_,_=>by cases e
 | .ref _::_,_,_,e,_,_=>by cases e
theorem PR:CallR X (.builtin "isinstance") fIsi:=by
 intro B4 s σ H xs us Q I r h
 unfold fIsi at h
 split at h
 ·rename_i x T
  split at h
  ·rename_i t et
   obtain⟨u,c,rfl,rx,rc⟩:=PH r
   cases rc
   obtain⟨ht,hu,H',hk,hH⟩:=WE (K:=X.K) I rx et
   exact PySem.W.kia_one hk I.kIn hH (WD ht (WF h.1)) hu fun tk=>endB (I.tok _) h.2
  ·exact h.elim
 ·rename_i x p
  split at h
  ·rename_i t ts et ep
   split at h
   ·rename_i Ts eT
    obtain⟨u,c,rfl,rx,rc⟩:=PH r
    cases rc
    obtain⟨ht,hu,H',hk,hH⟩:=WE (K:=X.K) I rx et
    obtain⟨its,rv,pl,hz⟩:=I.tuple (TD ep)
    obtain⟨⟨cls,dd,data,sl⟩,ho,hc,n,hd⟩:=id pl
    simp only at hc hd
    subst hc hd
    exact PySem.W.kia_tup hk I.kIn hH ho (WG ht eT rv h.1) hu fun tk=>endB (I.tok _) h.2
   ·exact h.elim
  ·exact h.elim
 ·exact h.elim
noncomputable def bls?:List V->Option (List Bool)
 | []=>some []
 | .bl b::r=>(bls? r).map (b::·)
 | _=>none
theorem bls?_map:∀ bs:List Bool,bls? (bs.map V.bl)=some bs
 | []=>rfl
 | b::bs=>by simp only[Nq,bls?,bls?_map bs,Z8]
theorem bls?_of:∀{xs:List V}{bs:List Bool},bls? xs=some bs->xs=bs.map V.bl
 | [],_,h=>by cases h;rfl
 | .bl z::r,ys,h=>by
  simp only[bls?] at h
  cases e:bls? r with
  | none=>rw[e] at h;cases h
  | some q=>rw[e] at h;cases h;rw[bls?_of e];rfl
 | .non::_,_,h=>by cases h
 | .str _::_,_,h=>by cases h
 | .int _::_,_,h=>by cases h
 | .byt _::_,_,h=>by cases h
 | .flt _::_,_,h=>by cases h
 | .ref _::_,_,h=>by cases h
 | .ty _::_,_,h=>by cases h
def fAll (f:List Bool->Bool):List V->Hp->VK->Prop:=fun xs H Q=>match xs with
 | [.ref p]=>(match lstR H p with
  | some ys=>(match bls? ys with | some bs=>Q (.bl (f bs)) H | none=>False)
  | none=>False)
 | _=>False
theorem dF (bs:List Bool):(NW bs.length).all (fun i=>bs.getD i true)=bs.all id:=by
 rw[SI,Qi,Qi]
 constructor
 ·intro h b hb
  obtain⟨i,hi,rfl⟩:=ZR.mp hb
  have:=h i (S_.mpr hi)
  simpa [Nl,hi] using this
 ·intro h i hi
  have hi':=S_.mp hi
  have:=h bs[i] (N5 hi')
  simpa [Nl,hi'] using this
theorem TQ (hc:X.calm=true):CallR X (.builtin "all") (fAll fun bs=>bs.all id):=by
 intro B4 s σ H xs us Q I r h
 unfold fAll at h
 split at h
 ·rename_i p
  split at h
  ·rename_i ys e
   split at h
   ·rename_i bs eb
    obtain⟨u,rfl,ru⟩:=Op r
    cases ru
    obtain⟨its,rv,pl,hz⟩:=I.list (RN e)
    rw[bls?_of eb] at rv
    have B8:=rv.length
    rw[M5] at B8
    have Cz:p < s.heap.objs.size:=by obtain⟨o,ho,_⟩:=pl.isList;exact Nm ho
    refine call_all_walk (AA pl.isList ?_)
    refine⟨s.heap.objs.size,_,_,_,_,_,(fun i=>bs.getD i true),rfl,Walks.list (A:=X.A.in1) (show X.A.in1.handled=none from I.ok.hd hc) s.heap.objs.size p (NB Cz) its.toArray,⟨⟨_,NE _ rfl,rfl,rfl⟩,?_⟩,fun i v s' Q' E' hv hq=>?_,fun h' tk k=>?_⟩
    ·obtain⟨o,ho,q⟩:=pl.isList
     exact⟨o,Ng _ ho,q⟩
    ·have hv':its[i]?=some v:=by simpa using hv
     have DF:i < its.length:=(NJ.mp hv').1
     obtain⟨w',hw,rw'⟩:=rv.get (i:=i) (x:=V.bl (bs.getD i true)) (by rw[Nz];simp[Nl,show i < bs.length by omega])
     rw[hv'] at hw
     cases hw
     cases rw'
     exact Az hq
    ·have e2:(NW its.toArray.size).all (fun i=>bs.getD i true)=bs.all id:=by rw[NC,<- B8];exact dF bs
     rw[e2]
     have I1:Inv X B4 σ H { s with heap:=s.heap.push { cls:=.type "list_iterator",data:=.fields #[.ref p,.int 0 0] },toks:=s.toks }:=I.kept fun b u q=>Ng _ q
     have f1:=I.fpOk (H':=H) (b:=s.heap.objs.size) (M6 _) (I.hok.fresh (M6 _))
     exact endB (I1.turned (t':=tk) (it:=s.heap.objs.size) (fun b o hb q=>k b o (by simpa using hb) q) f1.1 f1.2.1 f1.2.2.2.1 f1.2.2.2.2.1 f1.2.2.2.2.2) h
   ·exact h.elim
  ·exact h.elim
 ·exact h.elim
end
noncomputable def Its (xs:List V):It:=⟨fun i _=>i < xs.length,fun i H x H'=>H'=H/\xs[i]?=some x,fun i _=>i=xs.length⟩
noncomputable def chs (z:Str):List V:=z.cps.toList.map fun c=>V.str ⟨#[c]⟩
theorem RP (z:Str):(chs z).length=z.length:=by unfold chs;rw[M5];rfl
theorem WH {P:Aj}{w:Ak}{K:MV}{tg:Av}{it:Ab}{n:Nat}{Pv:Nat->Ac->Prop}{St:Nat->An->Prop}{xs:List V}
  (hW:∀ A:Am,A.handled=none->Walks P w A it [it] [it] n Pv St) (hn:xs.length=n) (hx:∀ i u,Pv i u->∃ x,xs[i]?=some x/\RelV x u)
  (DY:∀ i h,St i h->∃ o ty vs,h.get? it=some o/\o.cls=.type ty/\o.data=.fields vs/\["enumerate","zip","dict_itemiterator","dict_reverseitemiterator","odict_iterator","itertools.zip_longest","itertools.pairwise"].contains ty=false)
  (G5:∀(A:Am) (i:Nat) (s:Ad) (Q:Ac->Ad->Prop) (E:Ac->Ad->Prop),St i s.heap->Q (.ref it) s->wpAny (Ai P w) A (pyIter (.ref it)) Q E s) :
  Turn P w K tg (Its xs) [it] it St where
 mem:=by simp
 obj:=fun i h st b hb=>by
  have e:b=it:=by simpa using hb
  subst e
  obtain⟨o,ty,vs,ho,_,hd,_⟩:=DY i h st
  exact⟨o,ho,fun v z=>by rw[hd] at z;cases z⟩
 keep:=fun i h h' st k=>(hW {} rfl).frame i h h' st k
 item:=by
  intro X hP hw hK hc i B4 s σ H E I hf st hg
  subst hP hw hK
  obtain⟨f0,f1,f2,f3,f4,f5⟩:=hf it (by simp)
  have Cz:i < n:=by rw[<- hn];exact hg
  refine(hW X.A (I.ok.hd hc)).item i s _ E Cz st fun v h' tk pv st' k=>?_
  obtain⟨x,ex,rx⟩:=hx i v pv
  have I1:Inv X B4 σ H { s with heap:=h',toks:=tk }:=I.turned (fun b o hb e=>k b o (by simpa using hb) e) f0 f1 f3 f4 f5
  obtain⟨o,ty,vs,ho,EW,hd,Lb⟩:=DY _ _ st'
  exact⟨v,rfl,RH (s:={ s with heap:=h',toks:=tk }) ho EW hd Lb ⟨x,H,I1,rx,⟨rfl,ex⟩,st',fun b hb=>(hf b hb).1⟩⟩
 done:=by
  intro X hP hw hK hc i B4 s σ H E I hf st hg
  subst hP hw hK
  obtain⟨f0,f1,f2,f3,f4,f5⟩:=hf it (by simp)
  have e:i=n:=by rw[<- hn];exact hg
  subst e
  exact(hW X.A (I.ok.hd hc)).done s _ E st fun h' tk k=>⟨rfl,I.turned (fun b o hb e=>k b o (by simpa using hb) e) f0 f1 f3 f4 f5⟩
 self:=G5
section
variable {X:Cx}{tg:Av}
def PU (K:MV)(R:It->Hp->Prop):V->Hp->Prop:=fun x H1=>match x with
 | .str z=>R (Its (chs z)) H1
 | .ref a=>(∃ xs,SqL K H1 a xs/\R (Itl K a) H1)∨(∃ xs,SqT K H1 a xs/\R (Itt K a) H1)
 | _=>False
def iAny (K:MV)(te:TE):TI:=fun σ H R=>te σ H (PU K R)
theorem TR (h:SignAt z i u):∃ x,(chs z)[i]?=some x/\RelV x u:=by
 obtain⟨c,k,hc,rfl⟩:=h
 refine⟨.str ⟨#[c]⟩,?_,⟨k,rfl⟩⟩
 unfold chs
 rw[Nz,Array.getElem?_toList,hc]
 rfl
theorem Pf {K:MV}{l:Av}{tl:TE}(hl:PE X l tl)(hK:X.K=K:=by rfl):PI X tg l (iAny K tl):=by
 subst hK
 intro B4 s σ H R I h
 refine thn (hl B4 s σ H _ I h) fun v s1 hI9=>?_
 obtain⟨x,H1,I1,r1,q1⟩:=hI9
 have fresh1:∀ b∈[s1.heap.objs.size],FpOk X B4 H1 b:=fun b hb=>by
  have e:b=s1.heap.objs.size:=by simpa using hb
  subst e
  exact I1.fpOk (M6 _) (I1.hok.fresh (M6 _))
 have kept1:∀ ob:Obj,Inv X B4 σ H1 { s1 with heap:=s1.heap.push ob }:=fun ob=>I1.kept (t':=s1.toks) fun b o e=>Ng _ e
 unfold PU at q1
 split at q1
 ·rename_i z
  obtain⟨t,rfl⟩:=r1
  have B8:(chs z).length=z.cps.size:=by unfold chs;simp
  cases ha:z.cps.all (· < 128)
  ·refine wpAny_pyIter_wide ha ⟨s1.heap.objs.size,[s1.heap.objs.size],_,_,H1,rfl,kept1 _,WH (fun A hA=>Walks.strWide hA s1.heap.objs.size z t) B8 (fun i u hu=>TR hu) ?_ (fun A i s Q E st q=>wpAny_pyIter_striter_wide st q),⟨_,NE _ rfl,rfl,rfl⟩,fresh1,q1⟩
   intro i h st
   obtain⟨o,ho,hc,hd⟩:=st
   exact⟨o,_,_,ho,hc,hd,by decide⟩
  ·refine wpAny_pyIter_ascii ha ⟨s1.heap.objs.size,[s1.heap.objs.size],_,_,H1,rfl,kept1 _,WH (fun A hA=>Walks.strAscii hA s1.heap.objs.size z t) B8 (fun i u hu=>TR hu) ?_ (fun A i s Q E st q=>wpAny_pyIter_striter_ascii st q),⟨_,NE _ rfl,rfl,rfl⟩,fresh1,q1⟩
   intro i h st
   obtain⟨o,ho,hc,hd⟩:=st
   exact⟨o,_,_,ho,hc,hd,by decide⟩
 ·rename_i a
  cases r1
  rcases q1 with ⟨xs,e,q1⟩ | ⟨xs,e,q1⟩
  ·obtain⟨its,rv,p,hz⟩:=I1.list e
   exact AA p.isList ⟨s1.heap.objs.size,[s1.heap.objs.size],_,_,H1,rfl,kept1 _,bY a _,⟨_,NE _ rfl,rfl,rfl⟩,fresh1,q1⟩
  ·obtain⟨its,rv,p,hz⟩:=I1.tuple e
   exact AF (show s1.heap.IsTuple a its.toArray from p) ⟨s1.heap.objs.size,[s1.heap.objs.size],_,_,H1,rfl,kept1 _,bZ a _,⟨_,NE _ rfl,rfl,rfl⟩,fresh1,q1⟩
 ·exact q1.elim
end
theorem RQ {J:It}{n:Nat}{val:Nat->V}{p:Ab}{g:TG}{tc:TT}{te:TE}{Q:VK}{σ0:St}{H0:Hp}(Pv:Nat->List V->St->Hp->Prop)
  (Jl:∀ i B6 σ H,i < n->Pv i B6 σ H->J.go i H) (Cn:∀ B6 σ H,Pv n B6 σ H->J.stop n H) (hy:∀ i B6 σ H x H',i < n->Pv i B6 σ H->J.yld i H x H'->H'=H/\x=val i)
  (h0:Pv 0 [] σ0 H0) (hp:∀ i B6 σ H,Pv i B6 σ H->H p=some (.lst B6)/\B6.length<=i) (hz:n<=Ae)
  (hs:∀ i B6 σ H,i < n->Pv i B6 σ H->g (val i) σ H fun σ3 H3=>tc σ3 H3 fun b H4 =>
   if b=true then te σ3 H4 fun v H5=>H5 p=some (.lst B6)/\Pv (i+1) (B6++[v]) σ3 (upd H5 p (.lst (B6++[v]))) else Pv (i+1) B6 σ3 H4)
  (hd:∀ B6 σ H,Pv n B6 σ H->Q (.ref p) H) :
  RL J p g tc te Q σ0 H0:=by
 refine⟨fun i m B6 σ H=>m=n - i/\i<=n/\Pv i B6 σ H,⟨n,by simp,NA _,h0⟩,fun i m B6 σ' H' w=>?_⟩
 obtain⟨rfl,hi,q⟩:=w
 obtain⟨q1,q2⟩:=hp i B6 σ' H' q
 refine⟨q1,?_⟩
 by_cases Cz:i < n
 ·refine .inr ⟨Jl i B6 σ' H' Cz q,by omega,Pv (i+1),fun a' σ3 H3 k=>⟨n - (i+1),by omega,rfl,Cz,k⟩,fun x H2 y=>?_⟩
  obtain⟨rfl,rfl⟩:=hy i B6 σ' H' x H2 Cz q y
  exact hs i B6 σ' _ Cz q
 ·have e:i=n:=by omega
  subst e
  exact .inl ⟨Cn B6 σ' H' q,hd B6 σ' H' q⟩
theorem RR {lo:Int} {n:Nat} (Pv:Nat->List V->St->Hp->Prop) (h0:Pv 0 [] σ0 H0) (hp:∀ i B6 σ H,Pv i B6 σ H->H p=some (.lst B6)/\B6.length<=i) (hz:n<=Ae) (hs:∀ i B6 σ H,i < n->Pv i B6 σ H->g (.int (lo+i)) σ H fun σ3 H3=>tc σ3 H3 fun b H4 =>
   if b=true then te σ3 H4 fun v H5=>H5 p=some (.lst B6)/\Pv (i+1) (B6++[v]) σ3 (upd H5 p (.lst (B6++[v]))) else Pv (i+1) B6 σ3 H4) (hd:∀ B6 σ H,Pv n B6 σ H->Q (.ref p) H):RL (Itr lo n) p g tc te Q σ0 H0 :=
 RQ (J:=Itr lo n) (val:=fun i=>.int (lo+i)) Pv (fun _ _ _ _ h _=>h) (fun _ _ _ _=>M6 n) (fun _ _ _ _ _ _ _ _ y=>y) h0 hp hz hs hd
theorem WI (Pv:Nat->List V->St->Hp->Prop) (h0:Pv 0 [] σ0 H0) (hp:∀ i B6 σ H,Pv i B6 σ H->H p=some (.lst B6)/\B6.length<=i) (hz:xs.length<=Ae) (hs:∀ i B6 σ H,i < xs.length->Pv i B6 σ H->g (xs.getD i .non) σ H fun σ3 H3=>tc σ3 H3 fun b H4 =>
   if b=true then te σ3 H4 fun v H5=>H5 p=some (.lst B6)/\Pv (i+1) (B6++[v]) σ3 (upd H5 p (.lst (B6++[v]))) else Pv (i+1) B6 σ3 H4) (hd:∀ B6 σ H,Pv xs.length B6 σ H->Q (.ref p) H):RL (Its xs) p g tc te Q σ0 H0 :=
 RQ (J:=Its xs) (n:=xs.length) (val:=fun i=>xs.getD i .non) Pv (fun _ _ _ _ h _=>h) (fun _ _ _ _=>rfl)
  (fun i _ _ _ x _ hi _ y=>⟨y.1,by have:=y.2;rw[Nl,this];rfl⟩) h0 hp hz hs hd
theorem ao {K:MV}{a:Ab}{xs:List V}{p:Ab}{g:TG}{tc:TT}{te:TE}{Q:VK}{σ0:St}{H0:Hp}(Pv:Nat->List V->St->Hp->Prop)
  (hl:∀ i B6 σ H,i<=xs.length->Pv i B6 σ H->SqL K H a xs)
  (h0:Pv 0 [] σ0 H0) (hp:∀ i B6 σ H,Pv i B6 σ H->H p=some (.lst B6)/\B6.length<=i) (hz:xs.length<=Ae)
  (hs:∀ i B6 σ H,i < xs.length->Pv i B6 σ H->g (xs.getD i .non) σ H fun σ3 H3=>tc σ3 H3 fun b H4 =>
   if b=true then te σ3 H4 fun v H5=>H5 p=some (.lst B6)/\Pv (i+1) (B6++[v]) σ3 (upd H5 p (.lst (B6++[v]))) else Pv (i+1) B6 σ3 H4)
  (hd:∀ B6 σ H,Pv xs.length B6 σ H->Q (.ref p) H):RL (Itl K a) p g tc te Q σ0 H0 :=
 RQ (J:=Itl K a) (n:=xs.length) (val:=fun i=>xs.getD i .non) Pv
  (fun i B6 σ H hi q=>⟨xs,xs[i],(hl i B6 σ H (Pq hi) q),by simp[hi]⟩) (fun B6 σ H q=>⟨xs,(hl _ B6 σ H (M6 _) q),M6 _⟩)
  (fun i B6 σ H x _ hi q y=>⟨y.1,by have:=y.2 xs (hl i B6 σ H (Pq hi) q);rw[Nl,this];rfl⟩) h0 hp hz hs hd
section
variable {X:Cx}{o e:Av}{es:List Av}{to:TE}{t:TA}{name:Str}{Ck cpos:Pos}{T id:String}{r:V->List V->Hp->VK->Prop}
theorem NF {K:MV}(pa:BW T)(slot:Slot T name id)(Ge:typeOf (.builtin id)=pure (.type "method_descriptor"))(hm:MtR X id r)(ho:PE X o to)(ha:PA X (e::es) t)(hK:X.K=K:=by rfl)
  (hb:AH o name X.env (Aq o X.env)=Aq o X.env:=by rfl)
  (hf:((AB cpos (Ag (e::es) X.env)).all (fun x=>!x.1)&&(A8 cpos (AR [] X.env)).all (fun x=>x.1.isSome)&&decide ((e::es).length+([]:List Bv).length+(if ([]:List Bv).isEmpty then 0 else 1) < 30))=true:=by rfl)
  (hl:(Ck.endLine == cpos.line)=true:=by rfl) (he:Ag (e::es) X.env=(false,Aq e X.env)::Ag es X.env:=by rfl) (Cj:(AB cpos (Ag es X.env)).any (·.1)=false:=by rfl):PE X (.Call (.Attribute o name Ck) (e::es) [] cpos) (tBM K T r to t):=by
 subst hK
 exact pe_bm pa slot Ge hm ho ha hb hf hl he Cj
theorem WJ {K:MV}(pa:BW T)(slot:Slot T name id)(Ge:typeOf (.builtin id)=pure (.type "method_descriptor"))(hm:MtR X id r)(ho:PE X o to)(hK:X.K=K:=by rfl)
  (D9:AH o name X.env (Aq o X.env)=Aq o X.env:=by rfl) (D_:(Ck.endLine == cpos.line)=true:=by rfl):PE X (.Call (.Attribute o name Ck) [] [] cpos) (tBM0 K T r to):=by
 subst hK
 exact pe_bm0 pa slot Ge hm ho D9 D_
end
def fSet:V->V->V->Hp->(Hp->Prop)->Prop:=fun o i v H Q=>match o,i with
 | .ref p,.int k=>(match H p with
  | some (.lst xs)=>(match ixN xs.length k with | some j=>Q (upd H p (.lst (xs.set j v))) | none=>False)
  | _=>False)
 | _,_=>False
theorem QT :PSet X fSet:=fun B4 s σ H o i v ov iv u Q I ro ri rv h=>by
 unfold fSet at h
 split at h
 ·split at h
  ·rename_i xs e
   split at h
   ·rename_i j ej
    exact cP B4 s σ H _ _ v ov iv u Q I ro ri rv ⟨_,_,_,_,rfl,rfl,e,ej,h⟩
   ·exact h.elim
  ·exact h.elim
 ·exact h.elim
structure Dn (P:Aj)(w:Ak)(K:MV)(mg:Str->Option Ac)(base:An)(x:Str)(k:Nat)(ps:List Str)(sp:Sp):Prop where
 ex:∃(f:Ab) (fd:Aw),mg x=some (.ref f)/\Po K (.ref f)=true/\Binds K fd ps []/\FnOk P w K mg base CX0 k f fd ps sp
theorem M3 (D:Dn X.prog X.w X.K X.mg X.base x k ps sp) (hr:Room k X.A) (hg:Gl X x) (ha:PA X (e::es) t) (Do:(x == ("__debug__":Str))=false:=by decide) (he:Ag (e::es) X.env=(false,Aq e X.env)::Ag es X.env:=by rfl) (Cj:(AB pos (Ag es X.env)).any (·.1)=false:=by rfl):
  PE X (.Call (.Name x p) (e::es) [] pos) (RJ sp [] E0 t):=by
 obtain⟨f,fd,h1,h2,h3,h4⟩:=D.ex
 exact Wa h4 hr hg h1 h2 h3 .nil QI ha Do he Cj
end L2
namespace L2
open PySem
open Sem (wp)
open AutoSeq1 (wpAny_loadPart')
section
variable {prog:Aj}{w:Ak}{A:Am}{E:Ac->Ad->Prop}{s:Ad}
theorem dG (Ec:s.heap.IsTupleIter it t i) (ht:s.heap.IsTuple t items) (hx:items[i]?=some x) (hQ:∀ h',h'.IsTupleIter it t (i+1)->Rz it s.heap h'->Q x { s with heap:=h' }):wpAny (Ai prog w) A (SK (.ref it)) Q E s:=by
 obtain⟨ob,FP,EW,FA⟩:=id Ec
 obtain⟨ot,Jm,_,nt,Gj⟩:=ht
 unfold SK
 refine Aa (AJ (name:=M' "__next__") Ec.typeIs Z4 (A0 Z4 Ec.typeIs jO ?_ (jN _)))
 show wpAny _ _ (field (.ref it) 0 >>= _) _ _ s
 refine Aa (Au FP FA (x:=.ref t) rfl ?_)
 have nn:¬ ((Value.ref t == Value.none)=true):=Nj
 show wpAny _ _ (if (Value.ref t == Value.none)=true then _ else _) _ _ s
 rw[B2 nn]
 show wpAny _ _ (field (.ref it) 1 >>= _) _ _ s
 refine Aa (Au FP FA (x:=.int i 0) rfl ?_)
 show wpAny _ _ (BQ (.ref t) >>= _) _ _ s
 refine Aa (AD Jm Gj ?_)
 simp only[RA,hx]
 refine Aa (AY FP FA (by simp) (Af ⟨x,rfl,Af (hQ _ ?_ (ko ..))⟩))
 exact⟨_,SH _ FP (kj (ai FA _)),(Obj.cls_mapFields ..).trans EW,by rw[ai FA];simp[AL]⟩
theorem dH (hh:A.handled=none) (Ec:s.heap.IsTupleIter it t i) (ht:s.heap.IsTuple t items) (hx:items[i]?=none) (hE:∀ h' e,Heap.ExtBut it s.heap h'->(∃ o,h'.get? e=some o/\o.cls=.type "StopIteration")->E (.ref e) { s with heap:=h' }):wpAny (Ai prog w) A (SK (.ref it)) Q E s:=by
 obtain⟨ob,FP,EW,FA⟩:=id Ec
 obtain⟨ot,Jm,_,nt,Gj⟩:=ht
 unfold SK
 refine Aa (AJ (name:=M' "__next__") Ec.typeIs Z4 (A0 Z4 Ec.typeIs jO ?_ (jN _)))
 show wpAny _ _ (field (.ref it) 0 >>= _) _ _ s
 refine Aa (Au FP FA (x:=.ref t) rfl ?_)
 have nn:¬ ((Value.ref t == Value.none)=true):=Nj
 show wpAny _ _ (if (Value.ref t == Value.none)=true then _ else _) _ _ s
 rw[B2 nn]
 show wpAny _ _ (field (.ref it) 1 >>= _) _ _ s
 refine Aa (Au FP FA (x:=.int i 0) rfl ?_)
 show wpAny _ _ (BQ (.ref t) >>= _) _ _ s
 refine Aa (AD Jm Gj ?_)
 simp only[RA,hx]
 refine Aa (BX (Aa (AY FP FA (by simp) ?_)))
 show wpAny _ _ (newExc (.type "StopIteration") [] >>= _) _ _ _
 refine Aa ?_
 simp only[newExc,newTuple]
 refine Aa (AC ?_ (by size_fits))
 refine Aa (m:=firstArgMember _ _) (wpAny_of_eq (a:=Value.none) (by first | rfl | (simp only[firstArgMember];rfl)) (AC ?_ (by size_fits)))
 simp only[raiseNew]
 refine Aa (wpAny_handled ?_)
 first | rw[show A.in1.handled=none from hh] | rw[hh]
 exact Aa (Af (wpAny_throw (hE _ _ (((ko ..).extBut.push _).push _) ⟨_,NE _ rfl,rfl⟩)))
end
theorem dI {prog:Aj}{w:Ak}{A:Am}(hh:A.handled=none)(it t:Ab)(CA:t≠it)(items:Array Ac) :
  Draws prog w A it [it,t] items.size (fun i v=>items[i]?=some v) (fun i h=>h.IsTupleIter it t i/\h.IsTuple t items) where
 live:=fun _ _ st=>let ⟨o,ho,_⟩:=st.1;⟨o,ho⟩
 frame:=fun _ _ _ st hk=>⟨st.1.at fun o e=>hk it (by simp) o e,let ⟨o,ho,r⟩:=st.2;⟨o,hk t (by simp) o ho,r⟩⟩
 item:=fun i s Q E hi st hQ=>by
  refine dG st.1 st.2 (x:=items[i]) (by simp[hi]) fun h' hit' hs'=>?_
  exact hQ _ h' s.toks (by simp[hi]) ⟨hit',st.2.extBut hs'.extBut CA⟩ hs'
 done:=fun s Q E st hE=>dH hh st.1 st.2 (by simp) hE
set_option maxHeartbeats 4000000 in
theorem dJ (l:Ab)(items:Array Ac)(n:Nat)(dct:Option Ab)(sl:Array (Option Ac))(b:Int)(u:Tok)(hb:Vg b=true) :
  Meets (Builtin.«enumerate.__new__» ⟨[.type "enumerate",.ref l],[(M' "start",.int b u)]⟩) (fun _ R s=>s.heap.get? l=some { cls:=.type "tuple",dict:=dct,data:=.seq items n,slots:=sl } /\
   R (.ok (.ret (.ref (s.heap.push { cls:=.type "tuple_iterator",data:=.fields #[.ref l,.int 0 0] }).objs.size)))
    { s with heap:=(s.heap.push { cls:=.type "tuple_iterator",data:=.fields #[.ref l,.int 0 0] }).push { cls:=.type "enumerate",data:=.fields #[.none,.bool false,.ref s.heap.objs.size,AL b,.none,.none] } }) :=
 .of_wp fun prog w A R s h=>by
  obtain⟨hp,g,d,tk,os⟩:=s;obtain⟨hl,h⟩:=h
  have E8:=By
  have hL:ba (VT ⟨hp,g,d,tk,os⟩) l items:=⟨_,hl,rfl,n,rfl⟩
  have hb':(!Builtin.SmallTypes.fitsIndex b)=false:=by rw[hb];rfl
  wp_walk using Ap hl
  refine Bg fun st=>Af ?_
  split
  ·rename_i c _ _ _ _ _
   cases (c == Value.type "enumerate")
   ·wp_walk using Ap hl,AF hL
    exact⟨_,rfl,h⟩
   ·wp_walk using Ap hl,AF hL
    exact⟨_,rfl,h⟩
  ·wp_walk using Ap hl,AF hL
   exact⟨_,rfl,h⟩
set_option maxHeartbeats 4000000 in
theorem dL (l:Ab)(items:Array Ac)(n:Nat)(dct:Option Ab)(sl:Array (Option Ac))(b:Int)(u:Tok)(hb:Vg b=true) :
  Meets (Builtin.«enumerate.__new__» ⟨[.type "enumerate",.ref l],[(M' "start",.int b u)]⟩) (fun _ R s=>s.heap.get? l=some { cls:=.type "list",dict:=dct,data:=.seq items n,slots:=sl } /\
   R (.ok (.ret (.ref (s.heap.push { cls:=.type "list_iterator",data:=.fields #[.ref l,.int 0 0] }).objs.size)))
    { s with heap:=(s.heap.push { cls:=.type "list_iterator",data:=.fields #[.ref l,.int 0 0] }).push { cls:=.type "enumerate",data:=.fields #[.none,.bool false,.ref s.heap.objs.size,AL b,.none,.none] } }) :=
 .of_wp fun prog w A R s h=>by
  obtain⟨hp,g,d,tk,os⟩:=s;obtain⟨hl,h⟩:=h
  have E8:=By
  have hL:Heap.IsList (VT ⟨hp,g,d,tk,os⟩) l items:=⟨_,hl,rfl,n,rfl⟩
  have hb':(!Builtin.SmallTypes.fitsIndex b)=false:=by rw[hb];rfl
  wp_walk using Ap hl
  refine Bg fun st=>Af ?_
  split
  ·rename_i c _ _ _ _ _
   cases (c == Value.type "enumerate")
   ·wp_walk using Ap hl,AA hL
    exact⟨_,rfl,h⟩
   ·wp_walk using Ap hl,AA hL
    exact⟨_,rfl,h⟩
  ·wp_walk using Ap hl,AA hL
   exact⟨_,rfl,h⟩
section
variable {prog:Aj}{w:Ak}{A:Am}{E:Ac->Ad->Prop}{s:Ad}
theorem RT (hl:AX (.type T) "__init__"=pure (some (.builtin "object.__init__"))) (hm:Bind.madeBy (.type T)=pure (some newId)) (CA:(some newId != some "object.__new__")=true):
  Meets (Builtin.«object.__init__» ⟨self::rest,kw⟩) (fun _ R s=>s.TypeIs self T/\R (.ok (.ret .none)) s):=by
 refine Meets.of_wp fun prog w A R s hs=>?_
 obtain⟨hT,hq⟩:=hs
 cases rest with
 | nil =>
  cases kw with
  | nil=>exact Af ⟨_,rfl,hq⟩
  | cons k kw =>
   repeat (any_goals (first | assumption | wp_step))
   exact⟨_,rfl,hq⟩
 | cons a rest =>
  repeat (any_goals (first | assumption | wp_step))
  exact⟨_,rfl,hq⟩
set_option maxHeartbeats 4000000 in
theorem ap (ft:TypeCalled T newId initId) (Iq:BU T ⟨args,kw⟩=pure ()) (E9:Ax newId ⟨.type T::args,kw⟩=pure ()) (entryN:entryFor table newId=some Bn) (entryI:entryFor table initId=some Bi) (g:Meets (Bn ⟨.type T::args,kw⟩) S) (h:S A.in1 (wants Q₁ E) s) (G6:∀ obj s₁,Q₁ obj s₁->s₁.TypeIs obj T/\argsOk initId ⟨obj::args,kw⟩/\∃ Si,Meets (Bi ⟨obj::args,kw⟩) Si/\Si A.in1 (wants (fun r s₂=>r=.none/\Q obj s₂) E) s₁):
  wpAny (Ai prog w) A (call (.type T) args kw) Q E s:=by
 obtain⟨c,tl,Lc⟩:=ft.mro
 have Ko:=ft.made
 have E8:=ft.sub
 refine Ba (codeAny_of_tree ?_)
 show wpAny _ _ (callAny (.type T) _) _ _ _
 refine Af ⟨bM _ (by decide +kernel),Bh F.entry_type_call ?_⟩
 rw[Around.under_plain (weight_type_call_type T args kw) (units_type_call_type T args kw)]
 have h1:=ft.notType
 have h2:=ft.canCreate
 repeat (any_goals (first | assumption | wp_step))
 refine AZ (AS ft.plain entryN (wpAny_of_eq E9 (g prog w A.in1 _ s h))) fun r s₁ hr=>?_
 cases r with
 | error e=>exact hr
 | ok fl =>
  cases fl with
  | ret obj =>
   obtain⟨hT,hok,Si,gi,Ld⟩:=G6 _ _ hr
   have hli:=ft.init.lookup
   have hbi:=ft.init.bind obj
   repeat (any_goals (first | assumption | wp_step))
   refine AZ (AS ft.init.plain entryI (ft.init.check _ _ _ _ _ _ _ _ hT hok (gi prog w A.in1 _ s₁ Ld))) fun r₂ s₂ hr₂=>?_
   cases r₂ with
   | error e=>exact hr₂
   | ok fl₂ =>
    cases fl₂ with
    | ret r =>
     obtain⟨rfl,hq⟩:=hr₂
     repeat (any_goals (first | assumption | wp_step))
    | _=>exact hr₂.elim
  | _=>exact hr.elim
theorem chk1 (a b:Ac):BU "enumerate" ⟨[a],[(M' "start",b)]⟩=pure ():=by kernel_rfl
theorem chk2 (a b:Ac):Ax "enumerate.__new__" ⟨[.type "enumerate",a],[(M' "start",b)]⟩=pure ():=by kernel_rfl
theorem argsK (obj a b:Ac):argsOk "object.__init__" ⟨[obj,a],[(M' "start",b)]⟩:=by
 unfold argsOk
 rw[signature?_of (id:="object.__init__") (n:=['_','_','t','i','n','i','_','_']) (o:=['t','c','e','j','b','o']) (by kernel_rfl) F.owner_object]
 kernel_rfl
theorem dM (hL:s.heap.IsTuple l items) (hb:Vg b=true) (h:∀ h',BK h' (s.heap.objs.size+1) s.heap.objs.size b .none->h'.IsTupleIter s.heap.objs.size l 0->(∀ b o,s.heap.get? b=some o->h'.get? b=some o)->Q (.ref (s.heap.objs.size+1)) { s with heap:=h' }):
  wpAny (Ai prog w) A (call (.type "enumerate") [.ref l] [(M' "start",.int b u)]) Q E s:=by
 obtain⟨⟨c,dct,dt,sl⟩,hl,hc,n,hd⟩:=hL
 simp only at hc hd
 subst hc hd
 refine ap (Q₁:=fun obj s₁=>s₁.TypeIs obj "enumerate"/\Q obj s₁) Ql (chk1 _ _) (chk2 _ _) Z5 Z6 (dJ l items n dct sl b u hb) ⟨hl,?_⟩
  fun obj s₁ hq=>⟨hq.1,argsK obj _ _,_,RT Ql.init.lookup Ql.made (by decide),hq.1,rfl,hq.2⟩
 have hz:(s.heap.push { cls:=.type "tuple_iterator",data:=.fields #[.ref l,.int 0 0] }).objs.size=s.heap.objs.size+1:=OY ..
 show _/\_
 rw[hz]
 have he:BK ((s.heap.push { cls:=.type "tuple_iterator",data:=.fields #[.ref l,.int 0 0] }).push { cls:=.type "enumerate",data:=.fields #[.none,.bool false,.ref s.heap.objs.size,AL b,.none,.none] }) (s.heap.objs.size+1) s.heap.objs.size b .none:=by
  have:=NE (s.heap.push { cls:=.type "tuple_iterator",data:=.fields #[.ref l,.int 0 0] }) (o:={ cls:=.type "enumerate",data:=.fields #[.none,.bool false,.ref s.heap.objs.size,AL b,.none,.none] }) rfl
  rw[hz] at this;exact this
 exact⟨⟨_,he,rfl⟩,h _ he ⟨_,Ng _ (NE _ rfl),rfl,rfl⟩ fun b o x=>Ng _ (Ng _ x)⟩
theorem dN (hL:s.heap.IsList l items) (hb:Vg b=true) (h:∀ h',BK h' (s.heap.objs.size+1) s.heap.objs.size b .none->h'.IsListIter s.heap.objs.size l 0->(∀ b o,s.heap.get? b=some o->h'.get? b=some o)->Q (.ref (s.heap.objs.size+1)) { s with heap:=h' }):
  wpAny (Ai prog w) A (call (.type "enumerate") [.ref l] [(M' "start",.int b u)]) Q E s:=by
 obtain⟨⟨c,dct,dt,sl⟩,hl,hc,n,hd⟩:=hL
 simp only at hc hd
 subst hc hd
 refine ap (Q₁:=fun obj s₁=>s₁.TypeIs obj "enumerate"/\Q obj s₁) Ql (chk1 _ _) (chk2 _ _) Z5 Z6 (dL l items n dct sl b u hb) ⟨hl,?_⟩
  fun obj s₁ hq=>⟨hq.1,argsK obj _ _,_,RT Ql.init.lookup Ql.made (by decide),hq.1,rfl,hq.2⟩
 have hz:(s.heap.push { cls:=.type "list_iterator",data:=.fields #[.ref l,.int 0 0] }).objs.size=s.heap.objs.size+1:=OY ..
 show _/\_
 rw[hz]
 have he:BK ((s.heap.push { cls:=.type "list_iterator",data:=.fields #[.ref l,.int 0 0] }).push { cls:=.type "enumerate",data:=.fields #[.none,.bool false,.ref s.heap.objs.size,AL b,.none,.none] }) (s.heap.objs.size+1) s.heap.objs.size b .none:=by
  have:=NE (s.heap.push { cls:=.type "list_iterator",data:=.fields #[.ref l,.int 0 0] }) (o:={ cls:=.type "enumerate",data:=.fields #[.none,.bool false,.ref s.heap.objs.size,AL b,.none,.none] }) rfl
  rw[hz] at this;exact this
 exact⟨⟨_,he,rfl⟩,h _ he ⟨_,Ng _ (NE _ rfl),rfl,rfl⟩ fun b o x=>Ng _ (Ng _ x)⟩
end
end L2
namespace L2
open PySem PySem.Spec PyProof.Rows
section
variable {X:Cx}{B4:List (Ab×Obj)}{σ:St}{H:Hp}{s:Ad}{h':An}
theorem Inv.turnedL {t':Nat}{ch:List Ab}(I:Inv X B4 σ H s)(k:∀ b u,b∉ch->s.heap.get? b=some u->h'.get? b=some u)(hf:∀ b∈ch,FpOk X B4 H b):Inv X B4 σ H { s with heap:=h',toks:=t' }:=by
 have nch:∀ b u,H b=some u->b∉ch:=fun b u e z=>by rw[(hf b z).1] at e;cases e
 refine I.step (g':=s.gens) (d':=s.drawn) (ch:=ch) (fun b hb=>⟨(hf b hb).2.2.2.1,(hf b hb).2.1,(hf b hb).2.2.2.2.1,(hf b hb).2.2.2.2.2⟩)
  (fun b u _ _ hc e _=>k b u hc e) (fun b u _ _ hc e _=>⟨u.slots,k b u hc e⟩) (fun _ _ _ _ n=>n)
  (fun b u hc e=>⟨u,k b u hc e⟩) (fun _ _ e=>e) (fun _ _ _ e=>e) (fun b ps e=>⟨#[],by rw[e];simp⟩) (fun m hm=>?_) (fun b u e=>?_) I.bare
 ·obtain⟨ob,es,ep,ho,r⟩:=hm
  exact⟨ob,es,ep,k _ ob (fun z=>(hf _ z).2.1 rfl) ho,r⟩
 ·refine(I.hok b u e).stay (fun c v hc q=>k c v ?_ q) (fun _ q=>q) fun _ _ q=>q
  rcases hc with z | z
  ·rw[z];exact nch b u e
  ·exact nch c _ z
theorem Inv.turnedNew {t':Nat}{ch:List Ab}{T:Ab}{o:HO}(I:Inv X B4 σ H s)(hT:s.heap.objs.size<=T)
  (k:∀ b u,b∉ch->s.heap.get? b=some u->h'.get? b=some u) (hf:∀ b∈ch,FpOk X B4 H b) (new:ObjOk X.prog X.w (upd H T o) h' T o) :
  Inv X B4 σ (upd H T o) { s with heap:=h',toks:=t' }:=by
 have hn:H T=none:=I.hok.fresh hT
 have nch:∀ b u,H b=some u->b∉ch:=fun b u e z=>by rw[(hf b z).1] at e;cases e
 refine I.step (g':=s.gens) (d':=s.drawn) (ch:=ch) (fun b hb=>⟨(hf b hb).2.2.2.1,(hf b hb).2.1,(hf b hb).2.2.2.2.1,(hf b hb).2.2.2.2.2⟩)
  (fun b u _ _ hc e _=>k b u hc e) (fun b u _ _ hc e _=>⟨u.slots,k b u hc e⟩) (fun b u _ e n=>by rw[MR (NB (N6 (Nm e) hT))];exact n)
  (fun b u hc e=>⟨u,k b u hc e⟩) (fun b xs e=>by rw[MR (MZ e hn)];exact e) (fun b u v e=>by rw[MR (MZ e hn)];exact e) (fun b ps e=>⟨#[],by rw[MR (MZ e hn),e];simp⟩)
  (fun m hm=>?_) (fun b u e=>?_) I.bare
 ·obtain⟨ob,es,ep,ho,r⟩:=hm
  exact⟨ob,es,ep,k _ ob (fun z=>(hf _ z).2.1 rfl) ho,r⟩
 ·by_cases hb:b=T
  ·subst hb;rw[MT] at e;cases e;exact new
  ·rw[MR hb] at e
   refine(I.hok b u e).stay (fun c v hc q=>k c v ?_ q) (fun c q=>by rw[MR (MZ q hn)];exact q) fun c xs q=>by rw[MR (MZ q hn)];exact q
   rcases hc with z | z
   ·rw[z];exact nch b u e
   ·exact nch c _ z
end
theorem Draws.shift {P:Aj}{w:Ak}{A:Am}{it:Ab}{fp:List Ab}{n:Nat}{Pv:Nat->Ac->Prop}{St:Nat->An->Prop}(D:Draws P w A it fp n Pv St)(b:Nat) :
  Draws P w A it fp (b+n) (fun j x=>b<=j/\Pv (j - b) x) (fun j h=>b<=j/\St (j - b) h) where
 live:=fun j h st=>D.live _ _ st.2
 frame:=fun j h h' st k=>⟨st.1,D.frame _ _ _ st.2 k⟩
 item:=fun j s Q E hj st hQ=>D.item (j - b) s Q E (by have:=st.1;omega) st.2 fun x h' tk hP hS sb=>hQ x h' tk ⟨st.1,hP⟩ ⟨by have:=st.1;omega,by rw[show j+1 - b=j - b+1 by have:=st.1;omega];exact hS⟩ sb
 done:=fun s Q E st hE=>D.done s Q E (by have:=st.2;rwa [VH] at this) hE
theorem PrX.ok (x:xs.length<=Ae/\∃ its:List Ac,Vals xs its/\IsTup h a its.toArray):ObjOk P w H h a (PrX a xs):=by
 refine⟨x,?_,fun h1 h2 q k=>?_⟩
 ·obtain⟨_,_,_,o,ho,_⟩:=x
  exact⟨o,ho⟩
 ·obtain⟨z,its,r,o,ho,c⟩:=q
  exact⟨z,its,r,o,k o ho,c⟩
noncomputable def Ien (b:Nat)(xs:List V)(ok:Hp->Prop):It :=
 ⟨fun i H=>ok H/\i < xs.length,fun i H x H'=>∃ T v,H T=none/\xs[i]?=some v/\x=.ref T/\H'=upd H T (PrX T [.int ((b:Int)+(i:Int)),v]),fun i H=>ok H/\i=xs.length⟩
noncomputable def PV (P:Aj)(w:Ak)(A:Am)(it:Ab)(xs:List V)(St0:Nat->An->Prop)(H:Hp)(i:Nat)(h:An):Prop :=
 ∃(fp:List Ab) (Pv:Nat->Ac->Prop) (St:Nat->An->Prop),Draws P w A it fp xs.length Pv St/\it∈fp/\(∀ b∈fp,b=it∨H b≠none)/\St i h/\(∀ j x,Pv j x->∃ v,xs[j]?=some v/\RelV v x)/\∀ j h',St j h'->St0 j h'
theorem WK {P:Aj}{w:Ak}{K:MV}{elts:List Av}{k:Nat}{pos:Pos}{e it:Ab}{xs:List V}{b:Nat}{ok:Hp->Prop}{St0:Nat->An->Prop}(Ir:e≠it)
  (hD:∀(X:Cx),X.prog=P->X.w=w->X.K=K->X.calm=true->∀(i:Nat) (B4:List (Ab×Obj)) (s:Ad) (σ:St) (H:Hp),Inv X B4 σ H s->ok H->H it=none->St0 i s.heap->PV P w X.A.in1 it xs St0 H i s.heap)
  (DY:∀ i h,St0 i h->∃ o,h.get? it=some o/\∀ v,o.data≠.cell v) (G7:∀ i h h',St0 i h->(∀ o,h.get? it=some o->h'.get? it=some o)->St0 i h') :
  Turn P w K (.Tuple elts k pos) (Ien b xs ok) [e,it] e (fun i h=>(∃ old,BK h e it ((b+i:Nat):Int) old)/\St0 i h) where
 mem:=by simp
 obj:=fun i h st c hc=>by
  rcases Nf.mp hc with z | z
  ·obtain⟨⟨old,he⟩,_⟩:=st
   rw[z]
   exact⟨_,he,fun v q=>by
    have q':Data.fields _=Data.cell v:=q
    cases q'⟩
  ·have z':c=it:=by simpa using z
   rw[z']
   exact DY i h st.2
 keep:=fun i h h' st kk=>by
  obtain⟨⟨old,he⟩,hs⟩:=st
  exact⟨⟨old,kk e (by simp) _ he⟩,G7 i h h' hs fun o q=>kk it (by simp) o q⟩
 item:=by
  intro X hP hw hK hc i B4 s σ H E I hf st hg
  subst hP hw hK
  obtain⟨⟨old,he⟩,hs⟩:=st
  obtain⟨hok,Cz⟩:=hg
  obtain⟨fp,Pv,St,D,Jn,G8,Cn,G9,FQ⟩:=hD X rfl rfl rfl hc i B4 s σ H I hok (hf it (by simp)).1 hs
  have Jo:e∉fp:=fun z=>by
   rcases G8 e z with q | q
   ·exact Ir q
   ·exact q (hf e (by simp)).1
  have W:=WalksT.enumerateD (Draws.shift D b) e Ir Jo Jn
  refine W.item (b+i) s _ E (by omega) ⟨⟨old,he⟩,by omega,by rw[VH];exact Cn⟩ fun T vals h1 tk Jp hT Gk hm hk=>⟨.ref T,rfl,?_⟩
  obtain⟨t,x,⟨_,Kp⟩,rfl⟩:=Jp
  rw[VH] at Kp
  obtain⟨v,hv,rv⟩:=G9 _ _ Kp
  have apart:=W.apart _ _ _ hm
  refine W.go elts k pos (b+i) T _ _ E hm fun h2 st2 FR=>?_
  have kk:∀ c u,c∉[e,it]->s.heap.get? c=some u->h2.get? c=some u:=fun c u hc q=>FR c u hc (hk c u hc q)
  have tup2:IsTup h2 T #[.int ((b+i:Nat):Int) t,x]:=by
   obtain⟨o,ho,r⟩:=Gk
   exact⟨o,FR T o apart ho,r⟩
  refine⟨.ref T,upd H T (PrX T [.int ((b:Int)+(i:Int)),v]),I.turnedNew (t':=tk) hT kk hf ?_,rfl,⟨T,v,I.hok.fresh hT,hv,rfl,rfl⟩,?_,?_⟩
  ·refine PrX.ok ⟨by show 2<=Ae;decide,[.int ((b+i:Nat):Int) t,x],.cons ⟨t,?_⟩ (.cons rv .nil),tup2⟩
   rw[Int.natCast_add]
  ·obtain⟨⟨old2,Iu⟩,_,D6⟩:=st2
   refine⟨⟨old2,Iu⟩,FQ _ _ ?_⟩
   rwa [show b+i+1 - b=i+1 by omega] at D6
  ·intro c hc
   have Cz:c < s.heap.objs.size:=by
    rcases Nf.mp hc with z | z
    ·rw[z];exact Nm he
    ·have z':c=it:=by simpa using z
     rw[z']
     obtain⟨o,ho,_⟩:=DY i _ hs
     exact Nm ho
   rw[MR (NB (N6 Cz hT))]
   exact(hf c hc).1
 done:=by
  intro X hP hw hK hc i B4 s σ H E I hf st hg
  subst hP hw hK
  obtain⟨⟨old,he⟩,hs⟩:=st
  obtain⟨hok,rfl⟩:=hg
  obtain⟨fp,Pv,St,D,Jn,G8,Cn,G9,FQ⟩:=hD X rfl rfl rfl hc _ B4 s σ H I hok (hf it (by simp)).1 hs
  have Jo:e∉fp:=fun z=>by
   rcases G8 e z with q | q
   ·exact Ir q
   ·exact q (hf e (by simp)).1
  have W:=WalksT.enumerateD (Draws.shift D b) e Ir Jo Jn
  exact W.done s _ E ⟨⟨old,he⟩,by omega,by rw[VH];exact Cn⟩ fun h1 tk hk=>⟨rfl,I.turnedL hk hf⟩
 self:=fun A i s Q E st q=>by
  obtain⟨⟨old,he⟩,_⟩:=st
  exact AT he q
section
variable {X:Cx}
theorem WL (hh:A.handled=none) (st:h.IsStrIter it (AN z) z t i):
  PV P w A it (chs z) (fun i h=>h.IsStrIter it (AN z) z t i) H i h:=by
 have B8:(chs z).length=z.cps.size:=by unfold chs;simp
 have rel:∀(j:Nat) (x:Ac),(∃ c u,z.cps[j]?=some c/\x=Value.str ⟨#[c]⟩ u)->∃ v,(chs z)[j]?=some v/\RelV v x:=fun j x hx=>by
  obtain⟨c,u,hc,rfl⟩:=hx
  exact TR ⟨c,u,hc,rfl⟩
 cases ha:z.cps.all (· < 128)
 ·have e:AN z="str_iterator":=by simp[AN,ha]
  rw[e] at st ⊢
  refine⟨[it],_,_,?_,by simp,fun b hb=>.inl (by simpa using hb),st,rel,fun _ _ q=>q⟩
  rw[B8]
  exact Draws.strWide hh it z t
 ·have e:AN z="str_ascii_iterator":=by simp[AN,ha]
  rw[e] at st ⊢
  refine⟨[it],_,_,?_,by simp,fun b hb=>.inl (by simpa using hb),st,rel,fun _ _ q=>q⟩
  rw[B8]
  exact Draws.strAscii hh it z t
def enIt (R:It->Hp->Prop):V->Hp->Prop:=fun x H1=>match x with
 | .str z=>R (Ien 0 (chs z) fun _=>True) H1
 | _=>False
def iEnum (te:TE):TI:=fun σ H R=>te σ H (enIt R)
theorem TU (hg:Gl X "enumerate") (hm:X.mg "enumerate"=none) (ha:PE X a ta) (hs:Ag [a] X.env=[(false,Aq a X.env)]:=by rfl):
  PI X (.Tuple elts k tpos) (.Call (.Name "enumerate" p) [a] [] pos) (iEnum ta):=by
 intro B4 s σ H R I h
 refine Call_ (Ri I hg hm BL (Vh ?_ hs rfl))
 rw[hs]
 show wpAny _ _ (BB ((false,Aq a X.env)::AB pos (Ag [] X.env))) _ _ s
 refine Td (thn (ha B4 s σ H _ I h) fun u s1 ⟨x,H1,I1,ru,q1⟩=>Vi ?_)
 unfold enIt at q1
 split at q1
 ·rename_i z
  obtain⟨t,rfl⟩:=ru
  refine call_enumerate_str fun h1 he Ec hsz hk=>?_
  refine AT he ?_
  have I2:Inv X B4 σ H1 { s1 with heap:=h1 }:=I1.kept (t':=s1.toks) hk
  refine⟨s1.heap.objs.size+1,[s1.heap.objs.size+1,s1.heap.objs.size],_,_,H1,rfl,I2,WK (b:=0) (ok:=fun _=>True) (xs:=chs z) (St0:=fun i h=>h.IsStrIter s1.heap.objs.size (AN z) z t i) (VI _) ?_ ?_ ?_,⟨⟨.none,he⟩,Ec⟩,?_,q1⟩
  ·intro X' h1 h2 h3 hc i B4 s σ H I _ _ st
   exact h1▸h2▸WL (A:=X'.A.in1) (show X'.A.in1.handled=none from I.ok.hd hc) st
  ·intro i h st
   obtain⟨o,ho,hc,hd⟩:=st
   exact⟨o,ho,fun v q=>by rw[hd] at q;cases q⟩
  ·intro i h h' st kk
   obtain⟨o,ho,r⟩:=st
   exact⟨o,kk o ho,r⟩
  ·intro b hb
   have:s1.heap.objs.size<=b:=by
    rcases Nf.mp hb with z | z
    ·rw[z];exact Pr _
    ·have z':b=s1.heap.objs.size:=by simpa using z
     rw[z'];exact M6 _
   exact I1.fpOk this (I1.hok.fresh this)
 ·exact q1.elim
end
def ON (n:Nat)(R:It->Hp->Prop):V->Hp->Prop:=fun x H1=>match x with
 | .ref a=>(∃ xs,H1 a=some (.lst xs)/\R (Ien n xs fun H=>H a=some (.lst xs)) H1)∨(∃ xs,H1 a=some (.tup xs)/\R (Ien n xs fun H=>H a=some (.tup xs)) H1)
 | _=>False
def WM (te ts:TE):TI:=fun σ H R=>te σ H fun x H1=>ts σ H1 fun y H2=>∃ n:Nat,y=.int (n:Int)/\n < 1000000/\ON n R x H2
theorem WN (hc:X.calm=true) (I:Inv X B4 σ H s) (h:SqL X.K H a xs) (hn:H it=none) (ha:H a≠none) (st:s.heap.IsListIter it a i):
  PV X.prog X.w X.A.in1 it xs (fun i h=>h.IsListIter it a i) H i s.heap:=by
 obtain⟨its,rv,pl,hz⟩:=I.list h
 have hl:its.toArray.size=xs.length:=by rw[NC];exact rv.length.symm
 have CA:a≠it:=fun z=>ha (z▸hn)
 refine⟨[it,a],_,_,hl▸Draws.list (A:=X.A.in1) (show X.A.in1.handled=none from I.ok.hd hc) it a CA its.toArray,by simp,fun b hb=>?_,⟨st,pl.isList⟩,fun j x hx=>?_,fun _ _ q=>q.1⟩
 ·rcases Nf.mp hb with z | z
  ·exact .inl z
  ·have z':b=a:=by simpa using z
   rw[z'];exact .inr ha
 ·have hx':its[j]?=some x:=by simpa using hx
  have hj:j < xs.length:=by rw[rv.length];exact(NJ.mp hx').1
  obtain⟨u,hu,ru⟩:=rv.get (i:=j) (x:=xs[j]) (by simp[hj])
  rw[hx'] at hu
  cases hu
  exact⟨xs[j],by simp[hj],ru⟩
theorem TV (hc:X.calm=true) (I:Inv X B4 σ H s) (h:SqT X.K H a xs) (hn:H it=none) (ha:H a≠none) (st:s.heap.IsTupleIter it a i):
  PV X.prog X.w X.A.in1 it xs (fun i h=>h.IsTupleIter it a i) H i s.heap:=by
 obtain⟨its,rv,pl,hz⟩:=I.tuple h
 have hl:its.toArray.size=xs.length:=by rw[NC];exact rv.length.symm
 have CA:a≠it:=fun z=>ha (z▸hn)
 refine⟨[it,a],_,_,hl▸dI (A:=X.A.in1) (show X.A.in1.handled=none from I.ok.hd hc) it a CA its.toArray,by simp,fun b hb=>?_,⟨st,pl⟩,fun j x hx=>?_,fun _ _ q=>q.1⟩
 ·rcases Nf.mp hb with z | z
  ·exact .inl z
  ·have z':b=a:=by simpa using z
   rw[z'];exact .inr ha
 ·have hx':its[j]?=some x:=by simpa using hx
  have hj:j < xs.length:=by rw[rv.length];exact(NJ.mp hx').1
  obtain⟨u,hu,ru⟩:=rv.get (i:=j) (x:=xs[j]) (by simp[hj])
  rw[hx'] at hu
  cases hu
  exact⟨xs[j],by simp[hj],ru⟩
section
variable {X:Cx}
theorem WO (hg:Gl X "enumerate") (hm:X.mg "enumerate"=none) (ha:PE X a ta) (hb:PE X b tb) (hs:Ag [a] X.env=[(false,Aq a X.env)]:=by rfl):
  PI X (.Tuple elts k tpos) (.Call (.Name "enumerate" p) [a] [⟨some "start",b,kpos⟩] pos) (WM ta tb):=by
 intro B4 s σ H R I h
 refine AE (Ri I hg hm BL ?_)
 refine PySem.W.callWith_of (P:=fun _=>True) (by rw[hs];rfl) (fun _ _=>⟨.machine,.inr (.inl rfl),aL.of_pure rfl⟩) (PyProof.Rows.evalArgs_kw2 (by rfl) ?_ hs)
 rw[hs]
 show wpAny _ _ (BB ((false,Aq a X.env)::AB pos (Ag [] X.env))) _ _ s
 refine Td (thn (ha B4 s σ H _ I h) fun u s1 ⟨x,H1,I1,ru,q1⟩=>Vi ?_)
 show wpAny _ _ (evalAll ((do let v <- Aq b X.env;Bk pos;pure v)::[])) _ _ s1
 refine wpAny_evalAll_cons (Aa (thn (hb B4 s1 σ H1 _ I1 q1) fun u2 s2 ⟨y,H2,I2,ry,n,ey,hn,q2⟩=>Aa (AU (Af (wpAny_evalAll_nil ⟨trivial,?_⟩)))))
 subst ey
 obtain⟨t,rfl⟩:=ry
 show wpAny _ _ (call (.type "enumerate") [u] [(M' "start",.int (n:Int) t)]) _ _ s2
 have EF:Vg (n:Int)=true:=by
  unfold Vg
  have e:((2:Int) ^ 63)=9223372036854775808:=by decide
  simp only[e,NS,decide_eq_true_eq]
  omega
 unfold ON at q2
 split at q2
 ·rename_i l _
  cases ru
  have fp:∀ b∈[s2.heap.objs.size+1,s2.heap.objs.size],FpOk X B4 H2 b:=fun b hb=>by
   have:s2.heap.objs.size<=b:=by
    rcases Nf.mp hb with z | z
    ·rw[z];exact Pr _
    ·have z':b=s2.heap.objs.size:=by simpa using z
     rw[z'];exact M6 _
   exact I2.fpOk this (I2.hok.fresh this)
  rcases q2 with ⟨xs,hl,q2⟩ | ⟨xs,hl,q2⟩
  ·obtain⟨its,rv,pl,hz⟩:=I2.list (SqL.of hl)
   refine dN pl.isList EF fun h1 he Ec hk=>?_
   refine AT he ?_
   refine⟨s2.heap.objs.size+1,[s2.heap.objs.size+1,s2.heap.objs.size],_,_,H2,rfl,I2.kept (t':=s2.toks) hk,WK (b:=n) (ok:=fun H=>H l=some (.lst xs)) (xs:=xs) (St0:=fun i h=>h.IsListIter s2.heap.objs.size l i) (VI _) ?_ ?_ ?_,⟨⟨.none,he⟩,Ec⟩,fp,q2⟩
   ·intro X' h1 h2 h3 hc i B4 s σ H I ok hn st
    exact h1▸h2▸WN hc I (SqL.of ok) hn (by rw[ok];exact fun z=>nomatch z) st
   ·intro i h st
    obtain⟨o,ho,hc,hd⟩:=st
    exact⟨o,ho,fun v q=>by rw[hd] at q;cases q⟩
   ·intro i h h' st kk
    exact st.at kk
  ·obtain⟨its,rv,pl,hz⟩:=I2.tuple (SqT.of hl)
   refine dM pl EF fun h1 he Ec hk=>?_
   refine AT he ?_
   refine⟨s2.heap.objs.size+1,[s2.heap.objs.size+1,s2.heap.objs.size],_,_,H2,rfl,I2.kept (t':=s2.toks) hk,WK (b:=n) (ok:=fun H=>H l=some (.tup xs)) (xs:=xs) (St0:=fun i h=>h.IsTupleIter s2.heap.objs.size l i) (VI _) ?_ ?_ ?_,⟨⟨.none,he⟩,Ec⟩,fp,q2⟩
   ·intro X' h1 h2 h3 hc i B4 s σ H I ok hn st
    exact h1▸h2▸TV hc I (SqT.of ok) hn (by rw[ok];exact fun z=>nomatch z) st
   ·intro i h st
    obtain⟨o,ho,hc,hd⟩:=st
    exact⟨o,ho,fun v q=>by rw[hd] at q;cases q⟩
   ·intro i h h' st kk
    exact st.at kk
 ·exact q2.elim
end
theorem PX {b:Nat}{xs:List V}{ok:Hp->Prop}{g:TG}{tb:TS}{D:Ends}{σ:St}{H:Hp}(Pv:Nat->St->Hp->Prop)(h0:Pv 0 σ H)(hok:∀ i σ H,i<=xs.length->Pv i σ H->ok H)
  (hs:∀ i v σ H T,xs[i]?=some v->Pv i σ H->H T=none->g (.ref T) σ (upd H T (PrX T [.int ((b:Int)+(i:Int)),v])) fun σ2 H2=>tb { D with nx:=Pv (i+1),ct:=Pv (i+1),bk:=D.nx } σ2 H2) (hd:∀ σ H,Pv xs.length σ H->D.nx σ H) :
  ∃ W:Nat->Nat->St->Hp->Prop,(∃ m,W 0 m σ H)/\∀ i m σ H,W i m σ H ->
   ((Ien b xs ok).stop i H/\D.nx σ H)∨((Ien b xs ok).go i H/\∃ N:St->Hp->Prop,(∀ σ' H',N σ' H'->∃ m',m' < m/\W (i+1) m' σ' H')/\∀ x H',(Ien b xs ok).yld i H x H'->g x σ H' fun σ2 H2=>tb { D with nx:=N,ct:=N,bk:=D.nx } σ2 H2):=by
 refine⟨fun i m σ H=>m=xs.length - i/\i<=xs.length/\Pv i σ H,⟨xs.length,by simp,NA _,h0⟩,fun i m σ' H' w=>?_⟩
 obtain⟨rfl,hi,p⟩:=w
 have ho:=hok i σ' H' hi p
 by_cases Cz:i < xs.length
 ·refine .inr ⟨⟨ho,Cz⟩,Pv (i+1),fun σ2 H2 p'=>⟨xs.length - (i+1),by omega,rfl,Cz,p'⟩,fun x H2 y=>?_⟩
  obtain⟨T,v,hT,hv,rfl,rfl⟩:=y
  exact hs i v σ' H' T hv p hT
 ·have e:i=xs.length:=by omega
  exact .inl ⟨⟨ho,e⟩,hd σ' H' (e▸p)⟩
section
variable {σ:St}{H:Hp}{D:Ends}{Q:VK}{QB:Bool->Hp->Prop}{QA:List V->Hp->Prop}
theorem PY (h:t { D with nx:=u D } σ H):tSeq t u D σ H:=h
theorem i_ifs (h:c σ H fun b H1=>if b=true then t D σ H1 else u D σ H1):tIfS c t u D σ H:=h
theorem WP (h:D.nx σ H):tNext D σ H:=h
theorem i_ret (h:te σ H D.rt):tRet te D σ H:=h
theorem TW (h:te σ H fun _ H1=>D.nx σ H1):tDrop te D σ H:=h
theorem i_asg (h:te σ H fun x H1=>g x σ H1 D.nx):tAsg te g D σ H:=h
theorem Nt {i:Nat}{v:V}{K:St->Hp->Prop}(h:K (σ.set i (some v)) H):PF i v σ H K:=h
theorem i_gsub {to ti:TE}{t:TSet}{v:V}{K:St->Hp->Prop}(h:to σ H fun o H1=>ti σ H1 fun i H2=>t o i v H2 fun H3=>K σ H3):gSub to ti t v σ H K:=h
theorem RU {K':MV}{n:Nat}{t:TGs}{a:Ab}{xs:List V}{K:St->Hp->Prop}(h1:H a=some (.tup xs))(h2:xs.length=n)(h:t xs σ H K):gTup K' n t (.ref a) σ H K:=⟨a,xs,rfl,.inl (SqT.of h1),h2,h⟩
theorem SN {K':MV}{n:Nat}{t:TGs}{a:Ab}{xs:List V}{K:St->Hp->Prop}(h1:H a=some (PrX a xs))(h2:xs.length=n)(h:t xs σ H K):gTup K' n t (.ref a) σ H K:=⟨a,xs,rfl,.inr h1,h2,h⟩
theorem OO {K:St->Hp->Prop}(h:K σ H):gNil [] σ H K:=⟨rfl,h⟩
theorem Ny {t:TG}{u:TGs}{v:V}{r:List V}{K:St->Hp->Prop}(h:t v σ H fun σ' H'=>u r σ' H' K):gCons t u (v::r) σ H K:=⟨v,r,rfl,h⟩
theorem i_for (h:wi σ H fun J H1=>∃ W:Nat->Nat->St->Hp->Prop,(∃ m,W 0 m σ H1)/\∀ i m σ H,W i m σ H ->
 (J.stop i H/\D.nx σ H)∨(J.go i H/\∃ N:St->Hp->Prop,(∀ σ' H',N σ' H'->∃ m',m' < m/\W (i+1) m' σ' H')/\∀ x H',J.yld i H x H'->g x σ H' fun σ2 H2=>tb { D with nx:=N,ct:=N,bk:=D.nx } σ2 H2)):tFor wi g tb D σ H:=h
theorem TX (e:σ[i]?=some (some v)) (h:Q v H):tVar i σ H Q:=⟨v,e,h⟩
theorem i_c (h:Q v H):tC v σ H Q:=h
theorem i_op (h:ta σ H fun x H1=>tb σ H1 fun y H2=>r x y H2 Q):tOp r ta tb σ H Q:=h
theorem i_un (h:ta σ H fun x H1=>r x H1 Q):tUn r ta σ H Q:=h
theorem i_test (h:t σ H fun x H'=>∃ k,x=.bl k/\QB k H'):Ti t σ H QB:=h
theorem i_bl {b:Bool}{P:Bool->Prop}(h:P b):∃ k,V.bl b=.bl k/\P k:=⟨b,rfl,h⟩
theorem i_and (h:t σ H fun c H1=>if c=true then u σ H1 QB else QB false H1):tAnd t u σ H QB:=h
theorem i_or (h:t σ H fun c H1=>if c=true then QB true H1 else u σ H1 QB):tOr t u σ H QB:=h
theorem i_not (h:t σ H fun c H1=>QB (!c) H1):tNot t σ H QB:=h
theorem i_andV (h:ta σ H fun x H1=>∃ c,x=.bl c/\if c=true then tb σ H1 Q else Q (.bl false) H1):tAndV ta tb σ H Q:=h
theorem i_orV (h:ta σ H fun x H1=>∃ c,x=.bl c/\if c=true then Q (.bl true) H1 else tb σ H1 Q):tOrV ta tb σ H Q:=h
theorem i_ifE (h:t σ H fun c H1=>if c=true then ta σ H1 Q else tb σ H1 Q):tIf t ta tb σ H Q:=h
theorem dP (h:ta σ H fun x H1=>tb σ H1 fun y H2=>r x y H2 fun z H3=>∃ k,z=.bl k/\(if k=true then tc σ H3 fun w' H4=>r' y w' H4 Q else Q (.bl false) H3)):Tj r r' ta tb tc σ H Q:=h
theorem TY (h:QA [] H):tNil σ H QA:=h
theorem QU (h:ta σ H fun x H1=>tr σ H1 fun xs H2=>QA (x::xs) H2):Tp ta tr σ H QA:=h
theorem i_cb (h:t σ H fun vs H1=>r vs H1 Q):tCB r t σ H Q:=h
theorem i_call (h:t σ H fun vs H1=>sp (vs++dvs) H1 Q E):RJ sp dvs E t σ H Q:=h
theorem i_lst (h:t σ H fun xs H1=>xs.length<=Ae/\∀ p,H1 p=none->Q (.ref p) (upd H1 p (.lst xs))):tLst t σ H Q:=h
theorem i_tup (h:t σ H fun xs H1=>xs.length<=Ae/\∀ p,H1 p=none->Q (.ref p) (upd H1 p (.tup xs))):tTup t σ H Q:=h
theorem i_bm {K:MV}{T:String}{r:V->List V->Hp->VK->Prop}{to:TE}{t:TA}(h:to σ H fun x H1=>tyV K T x H1/\t σ H1 fun xs H2=>r x xs H2 Q):tBM K T r to t σ H Q:=h
theorem i_bm0 {K:MV}{T:String}{r:V->List V->Hp->VK->Prop}{to:TE}(h:to σ H fun x H1=>tyV K T x H1/\r x [] H1 Q):tBM0 K T r to σ H Q:=h
theorem i_sl (h:te σ H fun x H1=>tl σ H1 fun l H2=>th σ H2 fun u H3=>r x l u H3 Q):tSl r te tl th σ H Q:=h
theorem dQ {K:Option Int->Hp->Prop}(h:K none H):Wk σ H K:=h
theorem i_part {t:TE}{K:Option Int->Hp->Prop}(h:t σ H fun x H1=>∃ i,x=.int i/\K (some i) H1):tPart t σ H K:=h
theorem i_exI {i:Int}{P:Int->Prop}(h:P i):∃ k,V.int i=.int k/\P k:=⟨i,rfl,h⟩
theorem i_comp (h:wi σ H fun J H1=>∀ p,H1 p=none->RL J p g tc te Q (pick ix σ) (upd H1 p (.lst []))):RM ix wi g tc te σ H Q:=h
theorem i_true (h:QB true H):tTrue σ H QB:=h
theorem i_rng1 (h:ta σ H fun vs H1=>∃ j:Int,vs=[.int j]/\-(2 ^ 62)<=j/\j < 2 ^ 62/\R (Itr 0 j.toNat) H1):iRng1 ta σ H R:=h
theorem p62:((2:Int) ^ 62)=4611686018427387904:=by decide
theorem p63:((2:Int) ^ 63)=9223372036854775808:=by decide
theorem i_r1 {j:Int}{P:Int->Prop}(h1:-1000000000<=j/\j<=1000000000)(h:P j):∃ k:Int,[V.int j]=[.int k]/\-(2 ^ 62)<=k/\k < 2 ^ 62/\P k:=⟨j,rfl,by rw[p62];omega,by rw[p62];omega,h⟩
theorem i_rng2 (h:ta σ H fun vs H1=>∃ i j:Int,vs=[.int i,.int j]/\(-(2 ^ 62)<=i/\i < 2 ^ 62/\-(2 ^ 62)<=j/\j < 2 ^ 62)/\R (Itr i (j - i).toNat) H1):iRng2 ta σ H R:=h
theorem i_r2 {i j:Int}{P:Int->Int->Prop}(h1:-1000000000<=i/\i<=1000000000/\-1000000000<=j/\j<=1000000000)(h:P i j):∃ a b:Int,[V.int i,V.int j]=[.int a,.int b]/\(-(2 ^ 62)<=a/\a < 2 ^ 62/\-(2 ^ 62)<=b/\b < 2 ^ 62)/\P a b:=⟨i,j,rfl,by rw[p62];omega,h⟩
theorem i_any {K:MV}{te:TE}{R:It->Hp->Prop}(h:te σ H (PU K R)):iAny K te σ H R:=h
theorem i_anyS {K:MV}{R:It->Hp->Prop}{z:Str}(h:R (Its (chs z)) H):PU K R (.str z) H:=h
theorem RV {K:MV}{R:It->Hp->Prop}{a:Ab}{xs:List V}(h1:SqL K H a xs)(h:R (Itl K a) H):PU K R (.ref a) H:=.inl ⟨xs,h1,h⟩
theorem WQ {K:MV}{R:It->Hp->Prop}{a:Ab}{xs:List V}(h1:SqT K H a xs)(h:R (Itt K a) H):PU K R (.ref a) H:=.inr ⟨xs,h1,h⟩
theorem i_enum (h:te σ H (enIt R)):iEnum te σ H R:=h
theorem dR (h:te σ H fun x H1=>ts σ H1 fun y H2=>∃ n:Nat,y=.int (n:Int)/\n < 1000000/\ON n R x H2):WM te ts σ H R:=h
theorem TZ (h1:H a=some (.lst xs)) (h:R (Ien n xs fun H=>H a=some (.lst xs)) H):ON n R (.ref a) H:=.inl ⟨xs,h1,h⟩
theorem i_enST (h1:H a=some (.tup xs)) (h:R (Ien n xs fun H=>H a=some (.tup xs)) H):ON n R (.ref a) H:=.inr ⟨xs,h1,h⟩
theorem i_enS (h:R (Ien 0 (chs z) fun _=>True) H):enIt R (.str z) H:=h
theorem i_tyS {K:MV}{z:Str}{R:Prop}(h:R):tyV K "str" (.str z) H/\R:=⟨rfl,h⟩
theorem i_tyL {K:MV}{p:Ab}{xs:List V}{R:Prop}(h1:SqL K H p xs)(h:R):tyV K "list" (.ref p) H/\R:=⟨.inl ⟨rfl,xs,h1⟩,h⟩
theorem i_fI0 (h:Q (g i j) H):fI0 g (.int i) (.int j) H Q:=h
theorem i_fI (c:C i j) (h:Q (g i j) H):fI C g (.int i) (.int j) H Q:=⟨c,h⟩
theorem i_addI (h:Q (.int (i+j)) H):fAdd (.int i) (.int j) H Q:=h
theorem T5 (c:i.length+j.length<=Ae) (h:Q (.str (i++j)) H):fAdd (.str i) (.str j) H Q:=⟨c,h⟩
theorem i_addL (h1:H a=some (.lst xs)) (h2:H b=some (.lst ys)) (c:xs.length+ys.length<=Ae) (h:∀ p,H p=none->Q (.ref p) (upd H p (.lst (xs++ys)))):fAdd (.ref a) (.ref b) H Q:=by
 show (match H a,H b with | some (.lst xs),some (.lst ys)=>_ | some (.tup xs),some (.tup ys)=>_ | _,_=>_)
 rw[h1,h2];exact⟨c,h⟩
theorem i_mulI (c:CMul i j) (h:Q (.int (i * j)) H):fMul (.int i) (.int j) H Q:=⟨c,h⟩
theorem WR (c:z.length * n.toNat<=1000000/\-1000000000<=n/\n<=1000000000) (h:Q (.str (Txt.mul z n)) H):fMul (.str z) (.int n) H Q:=⟨c.1,by rw[p62];omega,by rw[p62];omega,h⟩
theorem i_mulL (h1:H a=some (.lst xs)) (c:-1000000000<=k/\k<=1000000000/\xs.length * k.toNat<=1000000) (h:∀ p,H p=none->Q (.ref p) (upd H p (.lst (Nr k.toNat xs).flatten))):fMul (.ref a) (.int k) H Q:=by
 show (match H a with | some (.lst xs)=>_ | _=>_)
 rw[h1];exact⟨by rw[p63];omega,by rw[p63];omega,NI c.2.2 (by decide),h⟩
theorem i_ixK {K:MV}{p:Ab}{i:Int}{xs:List V}{v:V}(h1:SqL K H p xs)(h2:atI xs i=some v)(h:Q v H):fIx K (.ref p) (.int i) H Q:=⟨xs,v,.inl h1,h2,h⟩
theorem PZ {K:MV}{p:Ab}{i:Int}{xs:List V}{v:V}(h1:seqR H p=some xs)(h2:atI xs i=some v)(h:Q v H):fIx K (.ref p) (.int i) H Q:=⟨xs,v,QM h1,h2,h⟩
theorem T6 {K:MV}{z:Str}{i:Int}{c:Nat}(hz:z.length<=Ae)(h2:atI z.cps.toList i=some c)(h:Q (.str ⟨#[c]⟩) H):fIx K (.str z) (.int i) H Q:=by
 refine⟨hz,?_⟩
 rw[h2];exact h
theorem RW {p:Ab}{k:Int}{v:V}{xs:List V}{j:Nat}{K:Hp->Prop}(h1:H p=some (.lst xs))(h2:ixN xs.length k=some j)(h:K (upd H p (.lst (xs.set j v)))):fSet (.ref p) (.int k) v H K:=by
 show (match H p with | some (.lst xs)=>(match ixN xs.length k with | some j=>K (upd H p (.lst (xs.set j v))) | none=>False) | _=>False)
 rw[h1];dsimp only;rw[h2];exact h
theorem i_neg (h:Q (.int (-i)) H):fNeg (.int i) H Q:=h
theorem i_eq (c:scal x y=true) (h:Q (.bl (decide (x=y))) H):fEq x y H Q:=.inl ⟨c,h⟩
theorem i_ne (c:scal x y=true) (h:Q (.bl (!decide (x=y))) H):fNe x y H Q:=.inl ⟨c,h⟩
theorem i_eqD (h1:Is H x d) (h2:Is H y e) (c:okD d) (c2:okD e) (h:Q (.bl (eqD d e)) H):fEq x y H Q:=.inr ⟨d,e,h1,h2,c,c2,h⟩
theorem i_neE (h1:Is H x d) (h2:Is H y e) (c:okD d) (c2:okD e) (h:Q (.bl (!eqD d e)) H):fNe x y H Q:=.inr ⟨d,e,h1,h2,c,c2,h⟩
theorem i_is (h:Q (.bl (decide (x=.non))) H):fIs x .non H Q:=⟨rfl,h⟩
theorem i_inS (h:Q (.bl (xor neg (Te j i))) H):fIn neg (.str i) (.str j) H Q:=h
theorem T7 (h1:seqR H p=some xs) (c:PN x=true/\xs.all PN=true) (h:Q (.bl (if neg then !inV x xs else inV x xs)) H):fIn neg x (.ref p) H Q:=by
 unfold fIn
 cases x <;> (dsimp only;rw[h1];exact⟨c.1,c.2,h⟩)
theorem WS {K:MV}{z:Str}(hz:z.length<=Ae)(h:Q (.int z.length) H):fLen K [.str z] H Q:=⟨hz,h⟩
theorem i_lenK {K:MV}{p:Ab}{xs:List V}(h1:SqL K H p xs)(h:Q (.int xs.length) H):fLen K [.ref p] H Q:=⟨xs,.inl h1,h⟩
theorem i_lenR {K:MV}{p:Ab}{xs:List V}(h1:seqR H p=some xs)(h:Q (.int xs.length) H):fLen K [.ref p] H Q:=⟨xs,QM h1,h⟩
theorem i_1I (h:Q (g i) H):f1I g [.int i] H Q:=h
theorem i_2I (h:Q (g i j) H):f2I g [.int i,.int j] H Q:=h
theorem i_intB (h:Q (.int (if b then 1 else 0)) H):fInt [.bl b] H Q:=h
theorem dS (h1:seqR H p=some xs) (h:∀ q,H q=none->Q (.ref q) (upd H q (.lst xs))):TH [.ref p] H Q:=by
 show (match seqR H p with | some ys=>GetL H ys Q | none=>False)
 rw[h1];exact h
theorem WT (h1:seqR H p=some xs) (h:GetT H xs Q):TK [.ref p] H Q:=by
 show (match seqR H p with | some ys=>GetT H ys Q | none=>False)
 rw[h1];exact h
theorem i_slS {K:MV}{z:Str}{lo hi:Option Int}(hz:z.length<=Ae)(h:Q (.str (VN z lo hi)) H):fSl K (.str z) lo hi H Q:=⟨hz,h⟩
theorem i_slL {K:MV}{a:Ab}{xs:List V}{lo hi:Option Int}(h1:SqL K H a xs)(h:∀ q,H q=none->Q (.ref q) (upd H q (.lst (cutV xs lo hi)))):fSl K (.ref a) lo hi H Q:=.inl ⟨xs,h1,h⟩
theorem i_truB (h:QB b H):fTru (.bl b) H QB:=h
theorem QV (h1:H l=some (.lst xs)) (c:xs.length < Ae) (h:Q .non (upd H l (.lst (xs++[y])))):TL (.ref l) [y] H Q:=by
 show (match H l with | some (.lst xs)=>xs.length < Ae/\Q .non (upd H l (.lst (xs++[y]))) | _=>False)
 rw[h1];exact⟨c,h⟩
theorem SO (h1:lstR H p=some (ys.map V.str)) (c:(ys.map (·.length)).sum+ys.length * z.length<=16777216) (h:Q (.str (Rg z ys)) H):TM (.str z) [.ref p] H Q:=by
 show (match lstR H p with | some xs=>(match strs? xs with | some ys=>(ys.map (·.length)).sum+ys.length * z.length<=16777216/\Q (.str (Rg z ys)) H | none=>False) | none=>False)
 rw[h1];dsimp only;rw[strs?_map];exact⟨c,h⟩
theorem i_SS (h:Q (g z y) H):fSS g (.str z) [.str y] H Q:=h
theorem i_SSI (h:Q (g z y i) H):fSSI g (.str z) [.str y,.int i] H Q:=h
theorem RX (h1:lstR H p=some (bs.map V.bl)) (h:Q (.bl (f bs)) H):fAll f [.ref p] H Q:=by
 show (match lstR H p with | some ys=>(match bls? ys with | some bs=>Q (.bl (f bs)) H | none=>False) | none=>False)
 rw[h1];dsimp only;rw[bls?_map];exact h
theorem i_isi (h1:tyN H x=some t) (c:QS T=true) (h:Q (.bl (subB t T)) H):fIsi [x,.ty T] H Q:=by
 show (match tyN H x with | some t=>QS T=true/\Q (.bl (subB t T)) H | none=>False)
 rw[h1];exact⟨c,h⟩
theorem P0 (h1:tyN H x=some t) (h2:H p=some (.tup [.ty T,.ty T'])) (c:QS T=true/\QS T'=true) (h:Q (.bl (subB t T || subB t T')) H):fIsi [x,.ref p] H Q:=by
 show (match tyN H x,tupR H p with | some t,some ts=>(match tys? ts with | some Ts=>Ts.all QS=true/\Q (.bl (Ts.any (subB t))) H | none=>False) | _,_=>False)
 rw[h1,WA h2]
 show [T,T'].all QS=true/\Q (.bl ([T,T'].any (subB t))) H
 refine⟨by simp[c.1,c.2],?_⟩
 have e:[T,T'].any (subB t)=(subB t T || subB t T'):=by simp
 rw[e];exact h
end
theorem iteD {c A B:Prop} [Decidable c](h1:c->A)(h2:¬ c->B):if decide c=true then A else B:=by
 by_cases h:c
 ·rw[B3 (B1 h)];exact h1 h
 ·rw[B2 (by rw[B0 h];exact Nj)];exact h2 h
theorem Pg {c A B:Prop} [Decidable c](hc:c)(h:A):if decide c=true then A else B:=by rw[B3 (B1 hc)];exact h
theorem Ph {c A B:Prop} [Decidable c](hc:¬ c)(h:B):if decide c=true then A else B:=by rw[B2 (by rw[B0 hc];exact Nj)];exact h
theorem RY {b:Bool}{A B:Prop}(h:b=true)(hA:A):if b=true then A else B:=by rw[B3 h];exact hA
theorem Pi {b:Bool}{A B:Prop}(h:b=false)(hB:B):if b=true then A else B:=by rw[h];exact iteF hB
theorem szc {xs:List V}(h:decide (xs.length<=1000)=true):xs.length<=Ae:=NI (of_decide_eq_true h) (by decide)
theorem szn (h:n<=1000000):n<=Ae:=NI h (by decide)
theorem i_sz {xs:List V}{R:Prop}(h:xs.length<=Ae)(r:R):xs.length<=Ae/\R:=⟨h,r⟩
theorem WU (h:H a=some (.tup xs)):tyN H (.ref a)=some "tuple":=by
 show (match H a with | some (.lst _)=>some "list" | some (.frz _ (.lst _))=>some "list" | some (.tup _)=>some "tuple" | _=>none)=_
 rw[h]
theorem WV (h:H a=some (.lst xs)):tyN H (.ref a)=some "list":=by
 show (match H a with | some (.lst _)=>some "list" | some (.frz _ (.lst _))=>some "list" | some (.tup _)=>some "tuple" | _=>none)=_
 rw[h]
theorem Nh (h:H p=none) (o:HO):Same H (upd H p o):=fun b u q=>by rw[MR (MZ q h)];exact q
theorem iteB {b:Bool}{A B:Prop}(h1:b=true->A)(h2:b=false->B):if b=true then A else B:=by
 cases b
 ·exact iteF (h2 rfl)
 ·exact iteT (h1 rfl)
theorem atI_0 (x:α) (xs:List α):atI (x::xs) 0=some x:=QH (xs:=x::xs) (j:=0) (v:=x) rfl
theorem atI_1 (x y:α) (xs:List α):atI (x::y::xs) 1=some y:=QH (xs:=x::y::xs) (j:=1) (v:=y) rfl
theorem atI_2 (x y z:α) (xs:List α):atI (x::y::z::xs) 2=some z:=QH (xs:=x::y::z::xs) (j:=2) (v:=z) rfl
theorem atI_3 (x y z u:α) (xs:List α):atI (x::y::z::u::xs) 3=some u:=QH (xs:=x::y::z::u::xs) (j:=3) (v:=u) rfl
theorem T8 {n:Nat}{i:Int}(h:0<=i)(h2:i < n):ixN n i=some i.toNat:=by
 unfold ixN;rw[B3 h,B3 h2]
theorem dU :seqR (upd H p (.lst xs)) p=some xs:=OF MT
theorem WW :lstR (upd H p (.lst xs)) p=some xs:=Pt MT
theorem dW :seqR (upd H p (.tup xs)) p=some xs:=Tz MT
theorem Pj (h:0<=i) (h2:xs[i.toNat]?=some v):atI xs i=some v:=by
 have e:i=((i.toNat:Nat):Int):=by omega
 rw[e];exact QH h2
theorem CMul.l (h1:-(2 ^ 64) < i) (h2:i < 2 ^ 64):CMul i j:=.inl ⟨h1,h2⟩
theorem CMul.r (h1:-(2 ^ 64) < j) (h2:j < 2 ^ 64):CMul i j:=.inr ⟨h1,h2⟩
def Off (p:Ab)(H H':Hp):Prop:=∀ b,b≠p->H' b=H b
def Kept (p:Ab)(H H':Hp):Prop:=∀ b o,b≠p->H b=some o->H' b=some o
theorem Off.kept (h:Off p H H'):Kept p H H':=fun b o hb e=>(h b hb).trans e
theorem Off.refl (p:Ab)(H:Hp):Off p H H:=fun _ _=>rfl
theorem Off.trans (a:Off p H H1) (b:Off p H1 H2):Off p H H2:=fun c hc=>(b c hc).trans (a c hc)
theorem Off.upd (a:Off p H H1) (o:HO):Off p H (L2.upd H1 p o):=fun c hc=>(MR hc).trans (a c hc)
theorem Kept.refl (p:Ab)(H:Hp):Kept p H H:=fun _ _ _ e=>e
theorem Kept.trans (a:Kept p H H1) (b:Kept p H1 H2):Kept p H H2:=fun c o hc e=>b c o hc (a c o hc e)
theorem Kept.new (a:Kept p H H1) (hq:H1 q=none) (o:HO):Kept p H (L2.upd H1 q o):=fun c u hc e=>by
 rw[MR (MZ (a c u hc e) hq)];exact a c u hc e
end L2
namespace L2
noncomputable def QW (sep:List Nat):List (List Nat)->List Nat
 | []=>[]
 | [x]=>x
 | x::y::r=>x++sep++QW sep (y::r)
theorem dX {sep x:List Nat}:∀{r:List (List Nat)},r≠[]->QW sep (x::r)=x++sep++QW sep r
 | [],h=>absurd rfl h
 | _::_,_=>rfl
theorem aq:∀ ls:List (List Nat),QW [] ls=ls.flatten
 | []=>rfl
 | [x]=>by simp[QW]
 | x::y::r=>by
  have:=aq (y::r)
  simp only[QW,this,O_,S6]
noncomputable def bit (w gs:List Nat)(k:Nat):List Nat:=(if k∈gs then [45] else [])++[w.getD k 0]
noncomputable def txt (w gs:List Nat)(n:Nat):List Nat:=(NW n).flatMap (bit w gs)
theorem WX (w gs:List Nat)(n:Nat):txt w gs (n+1)=txt w gs n++((if n∈gs then [45] else [])++[w.getD n 0]):=by
 unfold txt
 rw[Q_,aU]
 simp[bit]
theorem au (w gs:List Nat)(n:Nat):(txt w gs n).length<=2 * n:=by
 induction n with
 | zero=>simp[txt]
 | succ n ih =>
  rw[WX,No,No]
  split <;> simp <;> omega
noncomputable def Oy (w:List Nat):Nat->List Nat->List (List Nat)
 | b,[]=>[w.drop b]
 | b,g::gs=>(w.take g).drop b::Oy w g gs
theorem dY (w:List Nat):∀ b gs,Oy w b gs≠[]
 | _,[]=>by simp[Oy]
 | _,_::_=>by simp[Oy]
def Rise (b n:Nat):List Nat->Prop
 | []=>True
 | g::gs=>b < g/\g < n/\Rise g n gs
theorem Rise.mem {n:Nat}:∀{b:Nat}{gs:List Nat},Rise b n gs->∀ g∈gs,b < g/\g < n
 | _,[],_,g,h=>by cases h
 | b,g::gs,r,k,h=>by
  rcases Nf.mp h with rfl | h
  ·exact⟨r.1,r.2.1⟩
  ·have:=Rise.mem r.2.2 k h
   exact⟨bh r.1 this.1,this.2⟩
theorem T9 (w:List Nat):∀(m b:Nat),b+m<=w.length->(NM b m).flatMap (fun k=>[w.getD k 0])=(w.drop b).take m
 | 0,b,_=>by simp
 | m+1,b,h=>by
  have hb:b < w.length:=by omega
  rw[S7,Vz,T9 w m (b+1) (by omega),Rw hb,List.take_succ_cons]
  simp[Nl,hb]
theorem av {f g:Nat->List Nat}:∀{l:List Nat},(∀ k∈l,f k=g k)->l.flatMap f=l.flatMap g
 | [],_=>rfl
 | a::l,h=>by
  rw[Vz,Vz,h a N1,av fun k hk=>h k (NH _ hk)]
theorem WY (w:List Nat):∀(gs:List Nat) (b:Nat),Rise b w.length gs->b<=w.length->QW [45] (Oy w b gs)=(NM b (w.length - b)).flatMap (bit w gs)
 | [],b,_,hb=>by
  have e:(NM b (w.length - b)).flatMap (bit w [])=(NM b (w.length - b)).flatMap (fun k=>[w.getD k 0]):=av fun k _=>by simp[bit]
  rw[e,T9 w _ b (by omega)]
  simp only[Oy,QW]
  rw[ZO (by simp)]
 | g::gs,b,r,hb=>by
  obtain⟨r1,r2,r3⟩:=r
  have ih:=WY w gs g r3 (Pq r2)
  have hs:NM b (w.length - b)=NM b (g - b)++NM g (w.length - g):=by
   have:w.length - b=(g - b)+(w.length - g):=by omega
   have e2:b+(g - b)=g:=by omega
   rw[this,<- List.range'_append_1,e2]
  have hg:NM g (w.length - g)=g::NM (g+1) (w.length - (g+1)):=by
   have:w.length - g=(w.length - (g+1))+1:=by omega
   rw[this,S7]
  have f1:(NM b (g - b)).flatMap (bit w (g::gs))=(w.drop b).take (g - b):=by
   rw[<- T9 w (g - b) b (by omega)]
   refine av fun k hk=>?_
   have hk':b<=k/\k < g:=by
    have:=a8.mp hk
    omega
   have:k∉g::gs:=fun z=>by
    rcases Nf.mp z with z | z
    ·omega
    ·have:=(Rise.mem r3 k z).1;omega
   simp only[bit,B2 this,S9]
  have hn:g∉gs:=fun z=>Qk _ (Rise.mem r3 g z).1
  have f2:(NM (g+1) (w.length - (g+1))).flatMap (bit w (g::gs))=(NM (g+1) (w.length - (g+1))).flatMap (bit w gs):=by
   refine av fun k hk=>?_
   have hk':g < k:=by
    have:=a8.mp hk
    omega
   have e:(k∈g::gs)↔k∈gs:=by
    rw[Nf]
    constructor
    ·rintro(z | z)
     ·omega
     ·exact z
    ·exact Or.inr
   unfold bit
   simp only[e]
  rw[Oy,dX (dY _ _ _),ih,hs,aU,f1,hg,Vz,Vz,f2]
  have b1:bit w (g::gs) g=[45,w.getD g 0]:=by simp[bit]
  have b2:bit w gs g=[w.getD g 0]:=by simp[bit,hn]
  rw[b1,b2,List.drop_take]
  simp
theorem dZ (w gs:List Nat)(r:Rise 0 w.length gs):QW [45] (Oy w 0 gs)=txt w gs w.length:=by
 rw[WY w gs 0 r (NA _)]
 unfold txt
 rw[aR,bi]
noncomputable def NL (c:Nat):Bool:=decide (97<=c/\c<=122)
def Low (l:List Nat):Prop:=∀ c∈l,NL c=true
structure RS where
 w:List Nat
 g:List Nat
 lacks:Bool
noncomputable def RZ (s:RS)(c:Nat):Option RS :=
 if NL c=true then some ⟨s.w++[c],s.g,false⟩ else if c=45/\s.lacks=false then some ⟨s.w,s.g++[s.w.length],true⟩ else none
noncomputable def rrun:List Nat->RS->Option RS
 | [],s=>some s
 | c::r,s=>(RZ s c).bind (rrun r)
theorem aw:∀(a b:List Nat) (s:RS),rrun (a++b) s=(rrun a s).bind (rrun b)
 | [],_,_=>rfl
 | c::a,b,s=>by
  simp only[SG,rrun]
  cases RZ s c with
  | none=>rfl
  | some t=>simp only[OJ];exact aw a b t
theorem WZ {w gs:List Nat}(hw:Low w)(r:Rise 0 w.length gs):∀ k,k<=w.length->rrun (txt w gs k) ⟨[],[],true⟩=some ⟨w.take k,gs.filter (· < k),decide (k=0)⟩
 | 0,_=>by simp[txt,rrun]
 | k+1,h=>by
  have ih:=WZ hw r k (by omega)
  have hk:k < w.length:=h
  have hc:w.getD k 0=w[k]:=by simp[Nl,hk]
  have hl:NL w[k]=true:=hw _ (N5 hk)
  have ht:w.take (k+1)=w.take k++[w[k]]:=by rw[OC,Na hk];rfl
  rw[WX,aw,ih,OJ]
  have GK:∀{b:Nat}{l:List Nat},Rise b w.length l->l.filter (· < k+1)=l.filter (· < k)++(if k∈l then [k] else []):=by
   intro b l
   induction l generalizing b with
   | nil=>intro _;simp
   | cons g l ihl =>
    intro rr
    have i2:=ihl rr.2.2
    by_cases e:g=k
    ·subst e
     have hn:g∉l:=fun z=>Qk _ (Rise.mem rr.2.2 g z).1
     have hz:l.filter (· < g)=[]:=by
      rw[ZP]
      intro a ha
      have:=(Rise.mem rr.2.2 a ha).1
      simp;omega
     rw[B2 hn,hz] at i2
     simp[i2,hz]
    ·have e':¬ k=g:=fun z=>e z.symm
     have em:(k∈g::l)↔k∈l:=by simp[e']
     by_cases hg:g < k
     ·have Gn:g < k+1:=by omega
      simp only[Qv,hg,Gn,decide_true,if_true,i2,em,SG]
     ·have Gn:¬ g < k+1:=by omega
      simp only[Qv,hg,Gn,decide_false,VE,if_false,i2,em]
  have hf:=GK r
  by_cases hm:k∈gs
  ·have h0:k≠0:=by have:=(Rise.mem r k hm).1;omega
   rw[B3 hm] at hf ⊢
   rw[hc,hf,ht]
   have Cz:(w.take k).length=k:=by rw[NX];omega
   have n45:NL 45=false:=by decide
   simp[rrun,RZ,n45,h0,hl,Cz]
  ·rw[B2 hm] at hf ⊢
   rw[hc,hf,ht]
   simp[rrun,RZ,hl]
theorem d7 (hw:Low w) (r:Rise 0 w.length gs) (h0:1<=w.length):rrun (txt w gs w.length) ⟨[],[],true⟩=some ⟨w,gs,false⟩:=by
 rw[WZ hw r _ (M6 _),OB]
 have e:gs.filter (· < w.length)=gs:=by
  rw[List.filter_eq_self]
  intro a ha
  have:=(Rise.mem r a ha).2
  simpa using this
 rw[e]
 have:¬ w.length=0:=by omega
 simp[this]
end L2
namespace L2
open PySem PySem.Builtin PySem.Builtin.Str
noncomputable def S (l:List Nat):Str:=⟨l.toArray⟩
theorem T_ (l:List Nat):(S l).cps.toList=l:=rfl
theorem Nn (l:List Nat):(S l).length=l.length:=by show l.toArray.size=_;simp
theorem R0 (a b:List Nat):S a++S b=S (a++b):=by
 show (⟨a.toArray++b.toArray⟩:Str)=⟨(a++b).toArray⟩
 rw[List.append_toArray]
theorem S_inj (h:S a=S b):a=b:=by
 have:=congrArg (fun z:Str=>z.cps.toList) h
 exact this
noncomputable def sx (n d:Nat):Option Int->Nat
 | none=>d
 | some v=>if v < 0 then (v+(n:Int)).toNat else min v.toNat n
noncomputable def cutA {α:Type}(l:List α)(lo hi:Option Int):List α:=(l.drop (sx l.length 0 lo)).take (sx l.length l.length hi - sx l.length 0 lo)
theorem R1 (n d:Nat)(hd:d<=n)(o:Option Int):sx n d o<=n:=by
 cases o with
 | none=>exact hd
 | some v=>simp only[sx];split <;> omega
theorem d8 (lo hi:Option Int)(n:Nat):strSliceIndices lo hi 1 n=(NW (sx n n hi - sx n 0 lo)).map (sx n 0 lo+·):=by
 have key:∀(a c:Nat),sliceRange (a:Int) (c:Int) 1=(NW (c - a)).map (a+·):=fun a c=>by
  unfold sliceRange
  have e:(if (1:Int) > 0 then (if (a:Int) < (c:Int) then ((c:Int) - a+1 - 1) / 1 else 0) else (if (a:Int) > (c:Int) then ((a:Int) - c - 1 - 1) / (-1) else 0)).toNat=c - a:=by
   rw[B3 (by decide)]
   split
   ·rw[Int.ediv_one];omega
   ·omega
  simp only[e]
  apply Vx
  intro k _
  omega
 have cl:∀ v:Int,max 0 (min (if v < 0 then v+(n:Int) else v) (n:Int))=(((if v < 0 then (v+(n:Int)).toNat else min v.toNat n):Nat):Int):=fun v=>by
  by_cases hv:v < 0
  ·simp only[B3 hv];omega
  ·simp only[B2 hv];omega
 unfold strSliceIndices
 have h1:((1:Int) > 0)=True:=by simp
 cases lo with
 | none =>
  cases hi with
  | none=>simp only[h1,if_true];exact key 0 n
  | some v=>simp only[h1,if_true,cl];exact key 0 _
 | some u =>
  cases hi with
  | none=>simp only[h1,if_true,cl];exact key _ n
  | some v=>simp only[h1,if_true,cl];exact key _ _
theorem pickL (l:List Nat):∀(m a:Nat),a+m<=l.length->((NW m).map (a+·)).filterMap (l.toArray[·]?)=(l.drop a).take m
 | 0,a,_=>by simp
 | m+1,a,h=>by
  have ha:a < l.length:=by omega
  rw[List.range_succ_eq_map,Nq,ZT,NK]
  have e:((a+·)∘Nat.succ)=((a+1)+·):=by funext k;simp;omega
  have:=pickL l m (a+1) (by omega)
  rw[e,this,Rw ha,List.take_succ_cons]
  simp[ha]
theorem d9 (l:List Nat)(lo hi:Option Int) :
  (if ((1:Int) == 1&&(strSliceIndices lo hi 1 (S l).length).length == (S l).length)=true then S l else ⟨((strSliceIndices lo hi 1 (S l).length).filterMap ((S l).cps[·]?)).toArray⟩:Str)=S (cutA l lo hi):=by
 have h1:=R1 l.length l.length (M6 _) hi
 have h2:=R1 l.length 0 (NA _) lo
 rw[Nn,d8]
 unfold cutA
 generalize sx l.length l.length hi=c at *
 generalize sx l.length 0 lo=a at *
 split
 ·rename_i hc
  simp only[M5,SF,beq_self_eq_true,Rb,beq_iff_eq] at hc
  by_cases h0:l.length=0
  ·have:l=[]:=List.length_eq_zero_iff.mp h0
   subst this;simp
  ·have ha:a=0:=by omega
   have hc':c=l.length:=by omega
   subst ha hc'
   simp
 ·by_cases Jq:a<=c
  ·show S _=S _
   congr 1
   exact pickL l _ a (by omega)
  ·have:c - a=0:=by omega
   rw[this]
   simp[S]
theorem W0 (s sub:Str)(hi:Nat):∀(l:List Nat) (arr:Array Nat) (f:Nat),1<=arr.size->(forIn l (arr,f) (VS s sub hi 1)).run.fst=arr
 | [],_,_,_=>rfl
 | a::l,arr,f,h=>by
  rw[VC]
  unfold VS
  have c:¬ ((((arr,f).fst.size < 1/\(arr,f).snd<=a)/\a+sub.length<=hi)/\subAt s sub a=true):=fun q=>by
   have t:arr.size < 1:=q.1.1.1
   omega
  rw[B2 c]
  exact W0 s sub hi l arr f h
theorem W1 (s sub:Str)(hi:Nat):∀(l:List Nat) (f:Nat),(∀ i∈l,f<=i) ->
  (forIn l ((#[]:Array Nat),f) (VS s sub hi 1)).run.fst.toList=(l.find? fun i=>decide (i+sub.length<=hi)&&subAt s sub i).toList
 | [],_,_=>rfl
 | a::l,f,hf=>by
  rw[VC]
  unfold VS
  have ha:f<=a:=hf a N1
  by_cases hc:a+sub.length<=hi/\subAt s sub a=true
  ·have c1:((((#[]:Array Nat),f).fst.size < 1/\((#[]:Array Nat),f).snd<=a)/\a+sub.length<=hi)/\subAt s sub a=true:=⟨⟨⟨by simp,ha⟩,hc.1⟩,hc.2⟩
   rw[B3 c1]
   have e:=W0 s sub hi l (#[].push a) (a+sub.length) (by simp)
   have e2:(decide (a+sub.length<=hi)&&subAt s sub a)=true:=by simp[hc.1,hc.2]
   rw[OX,e2]
   show ((forIn l ((#[]:Array Nat).push a,a+sub.length) (VS s sub hi 1)).run.fst).toList=_
   rw[e]
   simp
  ·have c2:¬ (((((#[]:Array Nat),f).fst.size < 1/\((#[]:Array Nat),f).snd<=a)/\a+sub.length<=hi)/\subAt s sub a=true):=fun q=>hc ⟨q.1.2,q.2⟩
   rw[B2 c2]
   have e2:(decide (a+sub.length<=hi)&&subAt s sub a)=false:=by
    rw[Bool.eq_false_iff]
    intro q
    simp only[NS,decide_eq_true_eq] at q
    exact hc q
   rw[OX,e2]
   exact W1 s sub hi l f fun i hi'=>hf i (NH _ hi')
noncomputable def fits (p l:List Nat)(i:Nat):Bool:=decide (i+p.length<=l.length)&&((l.drop i).take p.length == p)
theorem R3 (l p:List Nat)(i:Nat):subAt (S l) (S p) i=((l.drop i).take p.length == p):=by
 rw[StrLaws.subAt_eq,Nn];rfl
theorem occ_S (l p:List Nat)(k:Nat):occurrences (S l) (S p) k (S l).length 1=((NM k (l.length+1 - k)).find? (fits p l)).toList:=by
 rw[StrLaws.occ_eq,Nn,W1 _ _ _ _ k (fun i hi=>by have:=a8.mp hi;omega)]
 have e:(fun i=>decide (i+(S p).length<=l.length)&&subAt (S l) (S p) i)=fits p l:=by
  funext i
  rw[R3,Nn];rfl
 rw[e]
noncomputable def QX (p l:List Nat)(k:Nat):Int:=match (NM k (l.length+1 - k)).find? (fits p l) with
 | some i=>(i:Int)
 | none=>-1
theorem W2 (l p:List Nat)(k:Nat):(match occurrences (S l) (S p) k (S l).length 1 with | i::_=>(i:Int) | []=>-1)=QX p l k:=by
 rw[occ_S]
 unfold QX
 cases (NM k (l.length+1 - k)).find? (fits p l) <;> rfl
theorem joinS (sep:List Nat):∀ ls:List (List Nat),Vf (S sep) (ls.map S)=S (QW sep ls)
 | []=>rfl
 | [x]=>rfl
 | x::y::r=>by
  have ih:=joinS sep (y::r)
  show S x++S sep++Vf (S sep) ((y::r).map S)=_
  rw[ih,R0,R0]
  rfl
theorem d_ (big:List Nat)(c:Nat):(!(occurrences (S big) (S [c]) 0 (S big).length 1).isEmpty)=decide (c∈big):=by
 have:=kl (S big) c
 exact this
end L2
namespace L2
open PySem PySem.Spec PyProof.Rows
noncomputable def LET:Str:=S [97,98,99,100,101,102,103,104,105,106,107,108,109,110,111,112,113,114,115,116,117,118,119,120,121,122]
theorem let_eq:M' "abcdefghijklmnopqrstuvwxyz"=LET:=by decide +kernel
theorem ee (c:Nat):Te LET (S [c])=NL c:=by
 show (!(bJ LET ⟨#[c]⟩ 0 LET.length 1).isEmpty)=_
 rw[kl]
 show decide (c∈[97,98,99,100,101,102,103,104,105,106,107,108,109,110,111,112,113,114,115,116,117,118,119,120,121,122])=_
 unfold NL
 rw[decide_eq_decide]
 exact(aY (s:=97) (n:=26)).trans ⟨fun h=>⟨h.1,Nat.le_of_lt_succ h.2⟩,fun h=>⟨h.1,Nat.lt_succ_of_le h.2⟩⟩
def FeedAt (H:Hp)(p:Ab)(n:Nat):Prop:=∃ a b c:Int,H p=some (.lst [.int a,.int b,.int c])/\0<=a/\0<=b/\b < 2147483399/\0<=c/\c<=n
theorem FeedAt.off (h:FeedAt H p n) (e:H' p=H p):FeedAt H' p n:=by
 obtain⟨a,b,c,h1,r⟩:=h
 exact⟨a,b,c,e.trans h1,r⟩
theorem FeedAt.mono (h:FeedAt H p n) (e:n<=m):FeedAt H p m:=by
 obtain⟨a,b,c,h1,h2,h3,h4,h5,h6⟩:=h
 exact⟨a,b,c,h1,h2,h3,h4,h5,by omega⟩
theorem FeedAt.new (h:FeedAt H p n) (hq:H q=none):FeedAt (upd H q o) p n:=by
 obtain⟨a,b,c,h1,r⟩:=h
 exact⟨a,b,c,by rw[MR (MZ h1 hq)];exact h1,r⟩
theorem FeedAt.some (h:FeedAt H p n):∃ o,H p=some o:=by
 obtain⟨a,b,c,h1,r⟩:=h
 exact⟨_,h1⟩
noncomputable def R4:Nat:=1000000
def W3 (K:MV):Sp:=fun vs H Q _=>∃(a:Ab) (ns:List Int) (k:Int),vs=[.ref a,.int k]/\SqL K H a (ns.map V.int)/\0<=k/\k < 1000 /\
 ∀(p:Ab) (H':Hp),H p=none->FeedAt H' p 0->Off p H H'->Q (.ref p) H'
def R5:Sp:=fun vs H Q _=>∃(p:Ab) (m:Int) (n:Nat),vs=[.ref p,.int m]/\FeedAt H p n/\n < R4/\0 < m/\m < 1073741824 /\
 ∀(d:Int) (H':Hp),0<=d->d < m->FeedAt H' p (n+1)->Off p H H'->Q (.int d) H'
def W4:Sp:=fun vs H Q _=>∃(p:Ab) (n:Nat),vs=[.ref p]/\FeedAt H p n/\n+3 < R4 /\
 ∀(l:List Nat) (H':Hp),Low l->2<=l.length->l.length<=26->FeedAt H' p (n+3)->Off p H H'->Q (.str (S l)) H'
def QY:Sp:=fun vs H Q _=>∃(p:Ab) (n:Nat) (l:List Nat) (m:Nat),vs=[.ref p,.str (S l),.int m]/\FeedAt H p n/\n+30 < R4/\Low l/\1<=l.length/\l.length<=26/\1<=m/\m<=25 /\
 ∀(w:List Nat) (H':Hp),Low w->1<=w.length->w.length<=m->FeedAt H' p (n+30)->Kept p H H'->Q (.str (S w)) H'
def W5 (n:Nat):Sp:=fun vs H Q _=>∃(u v:V) (d:Dt),vs=[u,v]/\Is H u d/\Is H v d/\dep d < n/\wid d<=100000/\∀ H',Same H H'->Q (.bl true) H'
theorem W6 (l:List Nat)(lo hi:Option Int):VN (S l) lo hi=S (cutA l lo hi):=d9 l lo hi
theorem find_S (l p:List Nat):Txt.find (S l) (S p)=QX p l 0:=W2 l p 0
theorem eh (l p:List Nat)(k:Nat):Txt.find3 (S l) (S p) (k:Int)=QX p l k:=by
 have e:BR (S l).length (k:Int)=k:=by
  unfold BR
  rw[B2 (by omega)];omega
 show (match bJ (S l) (S p) (BR (S l).length (k:Int)) (S l).length 1 with | k::_=>(k:Int) | []=>-1)=_
 rw[e];exact W2 l p k
theorem ei (l p:List Nat)(k:Nat):bB (S l) (S p) (k:Int)=fits p l k:=by
 have e:BR (S l).length (k:Int)=k:=by
  unfold BR
  rw[B2 (by omega)];omega
 unfold bB
 rw[e,R3,Nn,Nn];rfl
theorem R6 (sep:List Nat)(ls:List (List Nat)):Rg (S sep) (ls.map S)=S (QW sep ls):=by
 show Builtin.Str.glued (S sep) (ls.map S)=_
 rw[StrLaws.glued_eq_join,joinS]
theorem ek (big:List Nat)(c:Nat):Te (S big) (S [c])=decide (c∈big):=d_ big c
theorem QZ (l:List Nat):chs (S l)=l.map fun c=>V.str (S [c]):=rfl
theorem W7 (h:i < l.length):(chs (S l)).getD i .non=V.str (S [l[i]]):=by
 rw[QZ];simp[Nl,h]
theorem Ua (l:List α) (i j:Nat) (h:j<=l.length) (hij:i<=j):cutA l (some (i:Int)) (some (j:Int))=(l.drop i).take (j - i):=by
 unfold cutA
 have e1:sx l.length 0 (some (i:Int))=i:=by simp only[sx];rw[B2 (by omega)];omega
 have e2:sx l.length l.length (some (j:Int))=j:=by simp only[sx];rw[B2 (by omega)];omega
 rw[e1,e2]
theorem W8 (l:List α) (i:Nat) (h:i<=l.length):cutA l (some (i:Int)) none=l.drop i:=by
 unfold cutA
 have e1:sx l.length 0 (some (i:Int))=i:=by simp only[sx];rw[B2 (by omega)];omega
 rw[e1]
 show (l.drop i).take (l.length - i)=_
 rw[ZO (by simp)]
theorem W9 (xs:List V)(lo hi:Option Int):cutV xs lo hi=cutA xs lo hi:=rfl
theorem ez (h:Low l) (lo hi:Option Int):Low (cutA l lo hi):=fun c hc=>h c (Vc (ZS hc))
theorem eA (ha:Low a) (hb:Low b):Low (a++b):=fun c hc=>(NP.mp hc).elim (ha c) (hb c)
theorem eB (l:List α) (lo hi:Option Int):(cutA l lo hi).length=sx l.length l.length hi - sx l.length 0 lo:=by
 have h1:=R1 l.length l.length (M6 _) hi
 unfold cutA
 rw[NX,Qh]
 omega
noncomputable def LETL:List Nat:=[97,98,99,100,101,102,103,104,105,106,107,108,109,110,111,112,113,114,115,116,117,118,119,120,121,122]
theorem W_:Low LETL:=by unfold Low;decide
theorem t_let:M' "abcdefghijklmnopqrstuvwxyz"=S LETL:=let_eq
theorem Of:M' ""=S []:=by decide +kernel
theorem SQ:M' "-"=S [45]:=by decide +kernel
theorem P3:M' "."=S [46]:=by decide +kernel
theorem let_in (c:Nat):Te (S LETL) (S [c])=NL c:=ee c
theorem eC (ws:List Nat):Rg (S []) (ws.map fun c=>S [c])=S ws:=by
 have e:(ws.map fun c=>S [c])=(ws.map fun c=>[c]).map S:=by rw[NK];rfl
 rw[e,R6,aq]
 congr 1
 clear e
 induction ws with
 | nil=>rfl
 | cons c ws ih=>simp only[Nq,S6];rw[ih];rfl
theorem eD (ws:List Nat):((ws.map fun c=>S [c]).map (·.length)).sum=ws.length:=by
 induction ws with
 | nil=>rfl
 | cons c ws ih=>simp only[Nq,ZW,ND,Nn,Ot];rw[NK] at ih ⊢;omega
theorem eE (ws:List Nat):(ws.map fun c=>V.str (S [c]))=(ws.map fun c=>S [c]).map V.str:=by rw[NK];rfl
theorem eF (g:Int)(gs:List Int):inV (.int g) (gs.map V.int)=decide (g∈gs):=by
 induction gs with
 | nil=>rfl
 | cons x gs ih =>
  show (eqV (.int x) (.int g) || inV (.int g) (gs.map V.int))=_
  rw[ih]
  show ((x == g) || decide (g∈gs))=_
  by_cases e:x=g
  ·subst e;simp
  ·have e':¬ g=x:=fun z=>e z.symm
   simp[e,e']
theorem FeedAt.same (h:FeedAt H p n) (k:∀ b o,H b=Option.some o->H' b=Option.some o):FeedAt H' p n:=by
 obtain⟨a,b,c,h1,r⟩:=h
 exact⟨a,b,c,k _ _ h1,r⟩
theorem Kept.same (a:Kept p H H1) (b:∀ c o,H1 c=some o->H2 c=some o):Kept p H H2:=fun c o hc e=>b c o (a c o hc e)
theorem Kept.off (a:Kept p H H1) (b:Off p H1 H2):Kept p H H2:=fun c o hc e=>(b c hc).trans (a c o hc e)
theorem R7 (hz:a.length+b.length<=1000000) (h:Q (.str (S (a++b))) H):fAdd (.str (S a)) (.str (S b)) H Q:=T5 (szn (by rw[Nn,Nn];exact hz)) (by rw[R0];exact h)
theorem i_slC {K:MV}{H:Hp}{Q:VK}{l:List Nat}{lo hi:Option Int}(hz:l.length<=1000000)(h:Q (.str (S (cutA l lo hi))) H):fSl K (.str (S l)) lo hi H Q:=i_slS (szn (by rw[Nn];exact hz)) (by rw[W6];exact h)
theorem i_lenC {K:MV}{H:Hp}{Q:VK}{l:List Nat}(hz:l.length<=1000000)(h:Q (.int (l.length:Int)) H):fLen K [.str (S l)] H Q:=WS (szn (by rw[Nn];exact hz)) (by rw[Nn];exact h)
theorem W' (h1:H a=some (.lst [x])) (c:0<=k/\k<=1000000) (h:∀ p,H p=none->Q (.ref p) (upd H p (.lst (Nr k.toNat x)))):fMul (.ref a) (.int k) H Q:=by
 refine i_mulL h1 ⟨by omega,by omega,by simp;omega⟩ fun p hp=>?_
 have e:(Nr k.toNat [x]).flatten=Nr k.toNat x:=by
  generalize k.toNat=m
  induction m with
  | zero=>rfl
  | succ m ih=>rw[Vd,S6,ih];rfl
 rw[e];exact h p hp
theorem Xa (g:α->β) (l:List α) (lo hi:Option Int):cutA (l.map g) lo hi=(cutA l lo hi).map g:=by
 unfold cutA
 rw[M5,List.map_take,List.map_drop]
noncomputable def patD (x:List Nat×List Int):Dt:=.tup [.str (S x.1),.tup (x.2.map Dt.int)]
noncomputable def P4 (xs:List (List Nat×List Int)):Dt:=.lst (xs.map patD)
structure GP (x:List Nat×List Int):Prop where
 ne:1<=x.1.length
 le:x.1.length<=22
 len:x.2.length=x.1.length+1
 num:∀ v∈x.2,0<=v/\v<=9
 cs:∀ c∈x.1,c < 128
theorem Ub {H:Hp}:∀{g:List Int}{xs:List V},L2.IsL H xs (g.map Dt.int)->xs=g.map V.int
 | [],[],_=>rfl
 | [],_::_,h=>by simp only[N8,L2.IsL] at h
 | _::_,[],h=>by simp only[Nq,L2.IsL] at h
 | k::g,x::xs,h=>by
  simp only[Nq,L2.IsL,Is] at h
  rw[h.1,Ub h.2];rfl
theorem Pk (h:Is H v (patD x)):∃ a t,v=.ref a/\H a=some (.tup [.str (S x.1),.ref t])/\H t=some (.tup (x.2.map V.int)):=by
 simp only[Is,patD] at h
 obtain⟨a,xs,rfl,ha,Dc⟩:=h
 match xs,Dc with
 | [],h=>simp only[L2.IsL] at h
 | [_],h=>simp only[L2.IsL] at h;exact h.2.elim
 | _::_::_::_,h=>simp only[L2.IsL] at h;exact h.2.2.elim
 | [y,z],h =>
  simp only[L2.IsL,Is] at h
  obtain⟨rfl,⟨t,ys,rfl,ht,Dr⟩,_⟩:=h
  have:=Ub Dr
  subst this
  exact⟨a,t,rfl,ha,ht⟩
theorem R8 (h1:H a=some (.tup [.str (S x.1),.ref t])) (h2:H t=some (.tup (x.2.map V.int))):Is H (.ref a) (patD x):=by
 simp only[Is,patD,L2.IsL]
 exact⟨a,_,rfl,h1,rfl,⟨t,_,rfl,h2,IsL.ints _ _⟩,trivial⟩
theorem Xb (h:Is H v (P4 xs)):∃ a ys,v=.ref a/\H a=some (.lst ys)/\L2.IsL H ys (xs.map patD):=by
 simp only[Is,P4] at h
 exact h
theorem IsL.append {H:Hp}:∀{ds es:List Dt}{xs ys:List V},L2.IsL H xs ds->L2.IsL H ys es->L2.IsL H (xs++ys) (ds++es)
 | [],_,[],_,_,h=>h
 | d::ds,es,x::xs,ys,h,k=>by
  simp only[L2.IsL] at h
  simp only[SG,L2.IsL]
  exact⟨h.1,IsL.append h.2 k⟩
 | [],_,_::_,_,h,_=>by simp only[L2.IsL] at h
 | _::_,_,[],_,h,_=>by simp only[L2.IsL] at h
theorem head_dot :(cutA s none (some 1)=[46])↔s.head?=some 46:=by
 cases s with
 | nil=>simp[cutA,sx]
 | cons c s =>
  have e:cutA (c::s) none (some 1)=[c]:=by
   unfold cutA
   have e2:sx (c::s).length (c::s).length (some 1)=1:=by simp only[sx];rw[B2 (by decide)];simp
   rw[e2];rfl
  rw[e];simp
theorem last_dot :(cutA s (some (-1)) none=[46])↔s.getLast?=some 46:=by
 cases h:s.getLast? with
 | none =>
  have:s=[]:=by simpa using h
  subst this
  simp[cutA,sx]
 | some c =>
  obtain⟨r,rfl⟩:=aN.mp h
  have e:cutA (r++[c]) (some (-1)) none=[c]:=by
   unfold cutA
   have e1:sx (r++[c]).length 0 (some (-1))=r.length:=by simp only[sx];rw[B3 (by decide)];simp;omega
   have e2:sx (r++[c]).length (r++[c]).length none=r.length+1:=by simp[sx]
   rw[e1,e2];simp
  rw[e];simp
noncomputable def N7 (l:List Nat):Bool:=decide (0 < l.length)&&l.all NL
end L2
namespace L2
noncomputable abbrev Pat:=List Nat×List Int
noncomputable def mx (a b:Int):Int:=if b > a then b else a
noncomputable def put (t:List Int)(p:Nat)(v:Int):List Int:=t.set p (mx (t.getD p 0) v)
theorem eI (t:List Int)(p:Nat)(v:Int):(put t p v).length=t.length:=by unfold put;simp
theorem Xc (t:List Int)(p q:Nat)(v:Int)(hq:q < t.length):(put t p v).getD q 0=if p=q then mx (t.getD q 0) v else t.getD q 0:=by
 unfold put
 simp only[Nl,List.getElem?_set]
 by_cases h:p=q
 ·subst h;simp[hq]
 ·simp[h]
noncomputable def laid (t:List Int)(b:Nat):List Int->List Int
 | []=>t
 | v::r=>laid (put t b v) (b+1) r
theorem Xd (b:Nat)(v:Int):∀(r:List Int) (t:List Int) (c:Nat),laid t c (r++[v])=put (laid t c r) (c+r.length) v
 | [],t,c=>by simp[laid]
 | x::r,t,c=>by
  simp only[SG,laid,ND]
  rw[Xd b v r]
  congr 1;omega
theorem ax:∀(ns:List Int) (t:List Int) (b:Nat),(laid t b ns).length=t.length
 | [],_,_=>rfl
 | v::r,t,b=>by simp only[laid];rw[ax r,eI]
noncomputable def OP (m:Int)(p b:Nat):List Int->Int
 | []=>m
 | v::r=>OP (if b=p then mx m v else m) p (b+1) r
theorem Xe:∀(ns:List Int) (t:List Int) (b q:Nat),q < t.length->(laid t b ns).getD q 0=OP (t.getD q 0) q b ns
 | [],_,_,_,_=>rfl
 | v::r,t,b,q,h=>by
  simp only[laid,OP]
  rw[Xe r _ _ q (by rw[eI];exact h),Xc t b q v h]
noncomputable def NZ (p f:List Nat):List Nat:=(NW f.length).filter (fits p f)
noncomputable def R9 (f:List Nat)(t:List Int)(x:Pat):List Int:=(NZ x.1 f).foldl (fun t b=>laid t b x.2) t
noncomputable def P5 (f:List Nat)(t:List Int)(xs:List Pat):List Int:=xs.foldl (R9 f) t
noncomputable def numP (f:List Nat)(p:Nat)(m:Int)(x:Pat):Int:=(NZ x.1 f).foldl (fun m b=>OP m p b x.2) m
noncomputable def numA (f:List Nat)(p:Nat)(m:Int)(xs:List Pat):Int:=xs.foldl (numP f p) m
theorem Xf (ns:List Int):∀(bs:List Nat) (t:List Int),(bs.foldl (fun t b=>laid t b ns) t).length=t.length/\∀ q,q < t.length->(bs.foldl (fun t b=>laid t b ns) t).getD q 0=bs.foldl (fun m b=>OP m q b ns) (t.getD q 0)
 | [],t=>⟨rfl,fun _ _=>rfl⟩
 | b::bs,t=>by
  obtain⟨h1,h2⟩:=Xf ns bs (laid t b ns)
  rw[ax] at h1 h2
  refine⟨by simpa using h1,fun q hq=>?_⟩
  simp only[VB]
  rw[h2 q hq,Xe ns t b q hq]
theorem Xg (f:List Nat):∀(xs:List Pat) (t:List Int),(P5 f t xs).length=t.length/\∀ q,q < t.length->(P5 f t xs).getD q 0=numA f q (t.getD q 0) xs
 | [],t=>⟨rfl,fun _ _=>rfl⟩
 | x::xs,t=>by
  obtain⟨h1,h2⟩:=Xf x.2 (NZ x.1 f) t
  obtain⟨h3,h4⟩:=Xg f xs (R9 f t x)
  have e:(R9 f t x).length=t.length:=h1
  rw[e] at h3 h4
  refine⟨h3,fun q hq=>?_⟩
  show (P5 f (R9 f t x) xs).getD q 0=_
  rw[h4 q hq]
  show numA f q ((R9 f t x).getD q 0) xs=numA f q (numP f q (t.getD q 0) x) xs
  rw[show (R9 f t x).getD q 0=numP f q (t.getD q 0) x from h2 q hq]
noncomputable def frame (w:List Nat):List Nat:=46::(w++[46])
theorem ay (w:List Nat):(frame w).length=w.length+2:=by simp[frame]
noncomputable def vals (xs:List Pat)(w:List Nat):List Int:=(NW (w.length - 1)).map fun j=>numA (frame w) (j+2) 0 xs
theorem Vn (xs:List Pat)(w:List Nat):(vals xs w).length=w.length - 1:=by simp[vals]
theorem Xh (xs:List Pat)(w:List Nat)(j:Nat)(h:j < w.length - 1):(vals xs w)[j]?=some (numA (frame w) (j+2) 0 xs):=by
 simp[vals,h]
theorem Xi (n q:Nat):(Nr n (0:Int)).getD q 0=0:=by
 simp only[Nl,jJ];split <;> rfl
theorem Xj {a b:List Int}(h:a.length=b.length)(k:∀ q,q < a.length->a.getD q 0=b.getD q 0):a=b:=by
 apply List.ext_getElem h
 intro i h1 h2
 have:=k i h1
 simpa [Nl,h1,h2] using this
theorem eJ (xs:List Pat)(w:List Nat)(h:1<=w.length):cutA (P5 (frame w) (Nr ((frame w).length+1) 0) xs) (some 2) (some (-2))=vals xs w:=by
 obtain⟨h1,h2⟩:=Xg (frame w) xs (Nr ((frame w).length+1) 0)
 rw[aQ] at h1 h2
 unfold cutA
 rw[h1]
 rw[ay] at h1 h2 ⊢
 have e1:sx (w.length+2+1) 0 (some 2)=2:=by simp only[sx];rw[B2 (by decide)];show min 2 (w.length+2+1)=2;omega
 have e2:sx (w.length+2+1) (w.length+2+1) (some (-2))=w.length+1:=by simp only[sx];rw[B3 (by decide)];omega
 rw[e1,e2]
 apply Xj
 ·rw[Vn,NX,Qh,h1];omega
 ·intro q hq
  rw[NX,Qh,h1] at hq
  have hq':q < w.length - 1:=by omega
  have:=h2 (2+q) (by omega)
  rw[Xi] at this
  have e3:(vals xs w).getD q 0=numA (frame w) (q+2) 0 xs:=by rw[Nl,Xh xs w q hq'];rfl
  rw[e3,Z2 q 2,<- this]
  simp only[Nl,aV,List.getElem?_drop]
  rw[B3 (by omega)]
noncomputable def lput (n:Nat)(t:List Int)(p:Nat)(v:Int):List Int:=if 2<=p/\p<=n then put t (p - 2) v else t
noncomputable def Oi (n:Nat)(t:List Int)(b:Nat):List Int->List Int
 | []=>t
 | v::r=>Oi n (lput n t b v) (b+1) r
theorem Xk (n:Nat)(v:Int):∀(r:List Int) (t:List Int) (c:Nat),Oi n t c (r++[v])=lput n (Oi n t c r) (c+r.length) v
 | [],t,c=>by simp[Oi]
 | x::r,t,c=>by
  simp only[SG,Oi,ND]
  rw[Xk n v r]
  congr 1;omega
theorem Xl (n:Nat)(t:List Int)(p:Nat)(v:Int):(lput n t p v).length=t.length:=by
 unfold lput;split
 ·rw[eI]
 ·rfl
theorem eM (n:Nat):∀(ns:List Int) (t:List Int) (b:Nat),(Oi n t b ns).length=t.length
 | [],_,_=>rfl
 | v::r,t,b=>by simp only[Oi];rw[eM n r,Xl]
theorem Xm (n:Nat):∀(ns:List Int) (t:List Int) (b j:Nat),t.length=n - 1->j < n - 1->(Oi n t b ns).getD j 0=OP (t.getD j 0) (j+2) b ns
 | [],_,_,_,_,_=>rfl
 | v::r,t,b,j,ht,hj=>by
  simp only[Oi,OP]
  rw[Xm n r _ _ j (by rw[Xl];exact ht) hj]
  congr 1
  unfold lput
  by_cases hb:2<=b/\b<=n
  ·rw[B3 hb,Xc t (b - 2) j v (by omega)]
   by_cases e:b=j+2
   ·rw[B3 e,B3 (by omega)]
   ·rw[B2 e,B2 (by omega)]
  ·rw[B2 hb,B2 (by omega)]
noncomputable def lawP (n:Nat)(f:List Nat)(t:List Int)(x:Pat):List Int:=(NZ x.1 f).foldl (fun t b=>Oi n t b x.2) t
noncomputable def lawA (n:Nat)(f:List Nat)(t:List Int)(xs:List Pat):List Int:=xs.foldl (lawP n f) t
theorem eN (n:Nat)(ns:List Int):∀(bs:List Nat) (t:List Int),t.length=n - 1->(bs.foldl (fun t b=>Oi n t b ns) t).length=n - 1/\∀ j,j < n - 1->(bs.foldl (fun t b=>Oi n t b ns) t).getD j 0=bs.foldl (fun m b=>OP m (j+2) b ns) (t.getD j 0)
 | [],t,h=>⟨h,fun _ _=>rfl⟩
 | b::bs,t,h=>by
  obtain⟨h1,h2⟩:=eN n ns bs (Oi n t b ns) (by rw[eM];exact h)
  refine⟨by simpa using h1,fun j hj=>?_⟩
  simp only[VB]
  rw[h2 j hj,Xm n ns t b j h hj]
theorem Uc (n:Nat)(f:List Nat):∀(xs:List Pat) (t:List Int),t.length=n - 1->(lawA n f t xs).length=n - 1/\∀ j,j < n - 1->(lawA n f t xs).getD j 0=numA f (j+2) (t.getD j 0) xs
 | [],t,h=>⟨h,fun _ _=>rfl⟩
 | x::xs,t,h=>by
  obtain⟨h1,h2⟩:=eN n x.2 (NZ x.1 f) t h
  obtain⟨h3,h4⟩:=Uc n f xs (lawP n f t x) h1
  refine⟨h3,fun j hj=>?_⟩
  show (lawA n f (lawP n f t x) xs).getD j 0=_
  rw[h4 j hj]
  show numA f (j+2) ((lawP n f t x).getD j 0) xs=numA f (j+2) (numP f (j+2) (t.getD j 0) x) xs
  rw[show (lawP n f t x).getD j 0=numP f (j+2) (t.getD j 0) x from h2 j hj]
theorem eO (xs:List Pat)(w:List Nat):lawA w.length (frame w) (Nr (w.length - 1) 0) xs=vals xs w:=by
 obtain⟨h1,h2⟩:=Uc w.length (frame w) xs (Nr (w.length - 1) 0) (by simp)
 apply Xj
 ·rw[h1,Vn]
 ·intro j hj
  rw[h1] at hj
  rw[h2 j hj,Xi,Nl,Xh xs w j hj];rfl
noncomputable def Rn (p f:List Nat)(k:Nat):List Nat:=(NM k (f.length+1 - k)).filter (fits p f)
theorem eQ (hp:p≠[]):Rn p f 0=NZ p f:=by
 unfold Rn NZ
 rw[bi,<- aR,Q_,Qu]
 have:fits p f f.length=false:=by
  unfold fits
  have:0 < p.length:=Rx.mpr hp
  rw[B0 (by omega)];rfl
 simp[this]
theorem eR (hp:p≠[]) (h:fits p f i=true):i < f.length:=by
 unfold fits at h
 have:0 < p.length:=Rx.mpr hp
 simp only[NS,decide_eq_true_eq] at h
 omega
theorem eS (p f:List Nat):∀(m k:Nat),(NM k m).find? (fits p f)=none->(NM k m).filter (fits p f)=[]:=fun m k h=>by
 rw[ZP]
 intro a ha
 have:=aW.mp h a ha
 exact this
theorem Xn (p f:List Nat):∀(m k i:Nat),(NM k m).find? (fits p f)=some i->k<=i/\i < k+m/\fits p f i=true/\(NM k m).filter (fits p f)=i::(NM (i+1) (k+m - (i+1))).filter (fits p f)
 | 0,k,i,h=>by simp at h
 | m+1,k,i,h=>by
  rw[S7,OX] at h
  cases hk:fits p f k with
  | true =>
   rw[hk] at h
   cases h
   refine⟨M6 _,by omega,hk,?_⟩
   rw[S7,Qv,hk,B3 rfl]
   congr 3
   omega
  | false =>
   rw[hk] at h
   obtain⟨h1,h2,h3,h4⟩:=Xn p f m (k+1) i h
   refine⟨by omega,by omega,h3,?_⟩
   rw[S7,Qv,hk,B2 Nj,h4]
   congr 3
   omega
theorem eU (h:QX p f k < 0):Rn p f k=[]:=by
 unfold QX at h
 split at h
 ·omega
 ·rename_i e;exact eS p f _ _ e
theorem eV (hk:k<=f.length) (h:0<=QX p f k):∃ i:Nat,QX p f k=i/\k<=i/\i<=f.length/\fits p f i=true/\Rn p f k=i::Rn p f (i+1):=by
 unfold QX at h ⊢
 split at h
 ·rename_i i e
  obtain⟨h1,h2,h3,h4⟩:=Xn p f _ _ _ e
  refine⟨i,rfl,h1,by omega,h3,?_⟩
  unfold Rn
  rw[h4]
  congr 3
  omega
 ·omega
end L2
namespace L2
open PySem PySem.Spec PyProof.Rows
def Ud:V->List V->Hp->VK->Prop:=fun x vs H Q=>match x,vs with
 | .ref l,[.ref b]=>(match H l,H b with | some (.lst xs),some (.lst zs)=>xs.length+zs.length<=Ae/\Q .non (upd H l (.lst (xs++zs))) | _,_=>False)
 | _,_=>False
theorem eW :MtR X "list.extend" Ud:=fun B4 s σ H x xs v us Q I rx rs h=>by
 unfold Ud at h
 split at h
 ·split at h
  ·rename_i e e2
   exact cX B4 s σ H _ _ v us Q I rx rs ⟨_,_,_,_,rfl,rfl,e,e2,h.1,h.2⟩
  ·exact h.elim
 ·exact h.elim
theorem i_extL (h1:H l=some (.lst xs)) (h2:H b=some (.lst zs)) (c:xs.length+zs.length<=Ae) (h:Q .non (upd H l (.lst (xs++zs)))):Ud (.ref l) [.ref b] H Q:=by
 show (match H l,H b with | some (.lst xs),some (.lst zs)=>xs.length+zs.length<=Ae/\Q .non (upd H l (.lst (xs++zs))) | _,_=>False)
 rw[h1,h2];exact⟨c,h⟩
mutual
noncomputable def P6:Dt->Bool
 | .lst _=>false
 | .tup ds=>OQ ds
 | _=>true
noncomputable def OQ:List Dt->Bool
 | []=>true
 | d::ds=>P6 d&&OQ ds
end
def Tk (H H':Hp):Prop:=∀ b xs,H b=some (.tup xs)->H' b=some (.tup xs)
theorem Tk.trans (a:Tk H H1) (b:Tk H1 H2):Tk H H2:=fun c o h=>b c o (a c o h)
theorem Same.tk (h:Same H H'):Tk H H':=fun b xs e=>h b _ e
theorem Tk.new (h:H p=none) (o:HO):Tk H (upd H p o):=(Nh h o).tk
theorem Tk.lst (h:H p=some (.lst zs)) (o:HO):Tk H (upd H p o):=fun b xs e=>by
 rw[MR (OK e h (by intro z;cases z))];exact e
mutual
theorem Is.tk {H H':Hp}(h:Tk H H'):∀{d:Dt}{v:V},P6 d=true->Is H v d->Is H' v d
 | .non,_,_,k=>by simp only[Is] at k ⊢;exact k
 | .bl _,_,_,k=>by simp only[Is] at k ⊢;exact k
 | .int _,_,_,k=>by simp only[Is] at k ⊢;exact k
 | .str _,_,_,k=>by simp only[Is] at k ⊢;exact k
 | .tup ds,_,t,k=>by
  simp only[P6] at t
  simp only[Is] at k ⊢
  obtain⟨a,xs,e,h1,h2⟩:=k
  exact⟨a,xs,e,h _ _ h1,IsL.tk h t h2⟩
 | .lst ds,_,t,_=>by simp only[P6] at t;cases t
theorem IsL.tk {H H':Hp}(h:Tk H H'):∀{ds:List Dt}{xs:List V},OQ ds=true->IsL H xs ds->IsL H' xs ds
 | [],[],_,_=>by simp only[IsL]
 | [],_::_,_,k=>by simp only[IsL] at k
 | _::_,[],_,k=>by simp only[IsL] at k
 | d::ds,x::xs,t,k=>by
  simp only[OQ,NS] at t
  simp only[IsL] at k ⊢
  exact⟨Is.tk h t.1 k.1,IsL.tk h t.2 k.2⟩
end
theorem Ue:∀{ds:List Dt},(∀ d∈ds,P6 d=true)->OQ ds=true
 | [],_=>rfl
 | d::ds,h=>by simp only[OQ,NS];exact⟨h d N1,Ue fun e he=>h e (NH _ he)⟩
theorem eX (ns:List Int):OQ (ns.map Dt.int)=true:=Ue fun d hd=>by
 obtain⟨n,_,rfl⟩:=On.mp hd;rfl
theorem IsL.snoc (h:IsL H xs ds) (k:Is H x d):IsL H (xs++[x]) (ds++[d]) :=
 IsL.append h (by simp only[IsL];exact⟨k,trivial⟩)
noncomputable abbrev Fit:=Nat×List Int
noncomputable def fitD (x:Fit):Dt:=.tup [.int (x.1:Int),.tup (x.2.map Dt.int)]
noncomputable def R_ (xs:List Fit):Dt:=.lst (xs.map fitD)
theorem eY (xs:List Fit):OQ (xs.map fitD)=true:=Ue fun d hd=>by
 obtain⟨n,_,rfl⟩:=On.mp hd;simp only[fitD,P6,OQ,eX,Bool.and_true]
theorem isFit (h:Is H v (fitD x)):∃ a t,v=.ref a/\H a=some (.tup [.int (x.1:Int),.ref t])/\H t=some (.tup (x.2.map V.int)):=by
 simp only[Is,fitD] at h
 obtain⟨a,xs,rfl,ha,Dc⟩:=h
 match xs,Dc with
 | [],h=>simp only[L2.IsL] at h
 | [_],h=>simp only[L2.IsL] at h;exact h.2.elim
 | _::_::_::_,h=>simp only[L2.IsL] at h;exact h.2.2.elim
 | [y,z],h =>
  simp only[L2.IsL,Is] at h
  obtain⟨rfl,⟨t,ys,rfl,ht,Dr⟩,_⟩:=h
  have:=Ub Dr
  subst this
  exact⟨a,t,rfl,ha,ht⟩
theorem eZ (h1:H a=some (.tup [.int (x.1:Int),.ref t])) (h2:H t=some (.tup (x.2.map V.int))):Is H (.ref a) (fitD x):=by
 simp only[Is,fitD,L2.IsL]
 exact⟨a,_,rfl,h1,rfl,⟨t,_,rfl,h2,IsL.ints _ _⟩,trivial⟩
theorem isFits (h:Is H v (R_ xs)):∃ a ys,v=.ref a/\H a=some (.lst ys)/\L2.IsL H ys (xs.map fitD):=by
 simp only[Is,R_] at h
 exact h
noncomputable def layF (t:List Int)(xs:List Fit):List Int:=xs.foldl (fun t x=>laid t x.1 x.2) t
theorem Xo:∀(xs:List Fit) (t:List Int),(layF t xs).length=t.length
 | [],_=>rfl
 | x::xs,t=>by show (layF (laid t x.1 x.2) xs).length=_;rw[Xo xs,ax]
theorem Xp (t:List Int)(xs ys:List Fit):layF t (xs++ys)=layF (layF t xs) ys:=ZU
theorem e_ {xs:List Fit}{i:Nat}(h:i < xs.length)(t:List Int):layF t (xs.take (i+1))=laid (layF t (xs.take i)) xs[i].1 xs[i].2:=by
 rw[OC,Na h,Xp];rfl
noncomputable def OR (f:List Nat)(x:Pat):List Fit:=(NZ x.1 f).map fun b=>(b,x.2)
noncomputable def Qo (f:List Nat)(xs:List Pat):List Fit:=xs.flatMap (OR f)
theorem fb {f:List Nat}{xs:List Pat}{i:Nat}(h:i < xs.length):Qo f (xs.take (i+1))=Qo f (xs.take i)++OR f xs[i]:=by
 unfold Qo;rw[OC,Na h,aU];simp
theorem fc (f:List Nat)(x:Pat)(t:List Int):layF t (OR f x)=R9 f t x:=by
 unfold layF OR R9;rw[List.foldl_map]
theorem Xq (f:List Nat):∀(xs:List Pat) (t:List Int),layF t (Qo f xs)=P5 f t xs
 | [],_=>rfl
 | x::xs,t=>by
  show layF t (OR f x++Qo f xs)=P5 f (R9 f t x) xs
  rw[Xp,fc,Xq f xs]
theorem Xr (p f:List Nat):(NZ p f).length<=f.length:=by
 unfold NZ;exact NI (SE _ _) (by simp)
theorem Xs (f:List Nat):∀(xs:List Pat),(Qo f xs).length<=xs.length * f.length
 | []=>by simp[Qo]
 | x::xs=>by
  show (OR f x++Qo f xs).length<=_
  have h1:=Xs f xs
  have h2:=Xr x.1 f
  have h3:(OR f x).length=(NZ x.1 f).length:=by simp[OR]
  rw[No,ND,Nat.add_mul];omega
theorem fe (h:y∈Qo f xs):∃ x∈xs,y.1∈NZ x.1 f/\y.2=x.2:=by
 obtain⟨x,hx,hy⟩:=List.mem_flatMap.mp h
 obtain⟨b,hb,rfl⟩:=On.mp hy
 exact⟨x,hx,hb,rfl⟩
section
variable {κ:Type} [DecidableEq κ]
noncomputable def valV (kvs:List (κ×V))(k:κ):Option V:=(kvs.find? fun kv=>decide (kv.1=k)).map (·.2)
noncomputable def putK (kvs:List (κ×V))(k:κ)(v:V):List (κ×V) :=
 if (kvs.any fun kv=>decide (kv.1=k))=true then kvs.map (fun kv=>if kv.1=k then (kv.1,v) else kv) else kvs++[(k,v)]
theorem Vo {p:κ×V}{r:List (κ×V)}{k:κ}(e:p.1=k):valV (p::r) k=some p.2:=by simp[valV,OX,e]
theorem Uf {p:κ×V}{r:List (κ×V)}{k:κ}(e:¬ p.1=k):valV (p::r) k=valV r k:=by simp[valV,OX,e]
theorem Xt (k:κ):∀ kvs:List (κ×V),(kvs.any fun kv=>decide (kv.1=k))=(valV kvs k).isSome
 | []=>rfl
 | p::r=>by
  rw[Pp]
  by_cases e:p.1=k
  ·simp only[Vo e,B1 e,S',j6]
  ·rw[Uf e,B0 e,VG];exact Xt k r
theorem ff (kvs:List (κ×V))(k:κ)(v:V):(putK kvs k v).length<=kvs.length+1:=by
 unfold putK
 split
 ·rw[M5];omega
 ·rw[No,ND,Ot];omega
theorem RelO.isSome_eq (r:RelO o u):o.isSome=u.isSome:=by
 cases o with
 | none=>cases u with
  | none=>rfl
  | some _=>exact(show False from r).elim
 | some _=>cases u with
  | none=>exact(show False from r).elim
  | some _=>rfl
theorem KV.val (r:KV kvs vs) (k:κ):RelO (valV kvs k) (BD vs k):=by
 unfold KV at r
 induction r with
 | nil=>exact True.intro
 | @cons p q ps qs h t ih =>
  obtain⟨h1,h2⟩:=h
  by_cases e:p.1=k
  ·have e':q.1=k:=h1.symm.trans e
   have b:BD (q::qs) k=some q.2:=by simp[BD,OX,e']
   rw[Vo e,b];exact h2
  ·have e':¬ q.1=k:=fun z=>e (h1.trans z)
   have b:BD (q::qs) k=BD qs k:=by simp[BD,OX,e']
   rw[Uf e,b];exact ih
theorem KV.any (r:KV kvs vs) (k:κ):(kvs.any fun kv=>decide (kv.1=k))=vs.any fun kv=>decide (kv.1=k):=by
 unfold KV at r
 induction r with
 | nil=>rfl
 | cons h t ih=>rw[Pp,Pp,ih,h.1]
theorem KV.repl (r:KV kvs vs) (k:κ) (ry:RelV y u):
  KV (kvs.map fun kv=>if kv.1=k then (kv.1,y) else kv) (vs.map fun kv=>if kv.1=k then (kv.1,u) else kv):=by
 unfold KV at r ⊢
 induction r with
 | nil=>exact .nil
 | @cons p q ps qs h t ih =>
  rw[Nq,Nq]
  refine .cons ?_ ih
  obtain⟨h1,h2⟩:=h
  by_cases e:p.1=k
  ·rw[B3 e,B3 (h1.symm.trans e)];exact⟨h1,ry⟩
  ·rw[B2 e,B2 (fun z=>e (h1.trans z))];exact⟨h1,h2⟩
theorem KV.put (r:KV kvs vs) (k:κ) (ry:RelV y u):KV (putK kvs k y) (stored vs k u):=by
 unfold putK stored
 rw[r.any k]
 by_cases e:(vs.any fun kv=>decide (kv.1=k))=true
 ·rw[B3 e,B3 e];exact r.repl k ry
 ·rw[B2 e,B2 e];exact Paired.snoc r ⟨rfl,ry⟩
theorem KV.length (r:KV kvs vs):kvs.length=vs.length:=ak r
end
theorem OS (r:RelV (kV k) u):(NU P w).is k u=true:=by
 cases k with
 | inl i=>obtain⟨t,e⟩:=(show ∃ t,u=Value.int i t from r);subst e;exact bQ P w i t
 | inr x=>obtain⟨t,e⟩:=(show ∃ t,u=Value.str x t from r);subst e;exact bR P w x t
theorem Xu {P:Aj}{w:Ak}:∀{ks:List Key}{us:List Ac},Vals (ks.map kV) us->ItemsAre (NU P w) ks us
 | [],_,r=>by rw[N8] at r;cases r;exact .nil
 | k::ks,_,r=>by
  rw[Nq] at r
  cases r with
  | cons h t=>exact .cons (OS h) (Xu t)
abbrev KT (H:Hp):List (List Key×V)->List (List Key×Ab×Ac)->Prop:=Paired fun p q=>p.1=q.1/\H q.2.1=some (.tup (p.1.map kV))/\RelV p.2 q.2.2
theorem KT.val (r:KT H kvs xs) (k:List Key):RelO (valV kvs k) ((atKey xs k).map (·.2)):=by
 induction r with
 | nil=>exact True.intro
 | @cons p q ps qs h t ih =>
  obtain⟨h1,_,h2⟩:=h
  by_cases e:p.1=k
  ·have e':q.1=k:=h1.symm.trans e
   have b:atKey (q::qs) k=some q.2:=by simp[atKey,OX,e']
   rw[Vo e,b];exact h2
  ·have e':¬ q.1=k:=fun z=>e (h1.trans z)
   have b:atKey (q::qs) k=atKey qs k:=by simp[atKey,OX,e']
   rw[Uf e,b];exact ih
theorem KT.repl (r:KT H kvs xs) (k:List Key) (ry:RelV y u):
  KT H (kvs.map fun kv=>if kv.1=k then (kv.1,y) else kv) (xs.map (putAt k u)):=by
 induction r with
 | nil=>exact .nil
 | @cons p q ps qs h t ih =>
  rw[Nq,Nq]
  refine .cons ?_ ih
  obtain⟨h1,h2,h3⟩:=h
  unfold putAt
  by_cases e:p.1=k
  ·rw[B3 e,B3 (h1.symm.trans e)];exact⟨h1,h2,ry⟩
  ·rw[B2 e,B2 (fun z=>e (h1.trans z))];exact⟨h1,h2,h3⟩
theorem KT.put (r:KT H kvs xs) (k:List Key) (hb:H b=some (.tup (k.map kV))) (ry:RelV y u):
  KT H (putK kvs k y) (storedH xs k b u):=by
 have e:(kvs.any fun kv=>decide (kv.1=k))=(atKey xs k).isSome:=by
  rw[Xt,(r.val k).isSome_eq,bw]
 unfold putK storedH
 rw[e]
 by_cases q:(atKey xs k).isSome=true
 ·rw[B3 q,B3 q];exact r.repl k ry
 ·rw[B2 q,B2 q];exact Paired.snoc r ⟨rfl,hb,ry⟩
theorem KT.keeps (r:KT H kvs xs) (ht:∀ b ys,H b=some (.tup ys)->H' b=some (.tup ys)):KT H' kvs xs :=
 Paired.mapP r fun _ _ z=>⟨z.1,ht _ _ z.2.1,z.2.2⟩
section
variable {P:Aj}{w:Ak}{H:Hp}{h:An}{a:Ab}
theorem rd_of (ok:HOk P w H h) (e:Rd H a u):ObjOk P w H h a u:=e.ok ok
theorem P7 (ok:HOk P w H h) (e:Rd H a (.dK kvs)):kvs.length<=Ae/\(a == AG)=false/\∃ vs,KV kvs vs/\h.DictOf (NU P w) a vs :=
 show ObjOk P w H h a (.dK kvs) from rd_of ok e
theorem R' (ok:HOk P w H h) (e:H a=some (.dK kvs)):kvs.length<=Ae/\(a == AG)=false/\∃ vs,KV kvs vs/\h.DictOf (NU P w) a vs:=P7 ok (.inl e)
theorem Q0 (ok:HOk P w H h) (e:H a=some (.tup (ks.map kV))):(BN (NU P w)).is h ks a:=by
 obtain⟨_,its,r,⟨o,h1,h2,n,h3⟩,_⟩:=(show ObjOk P w H h a (.tup (ks.map kV)) from ok a _ e)
 exact⟨o,its.toArray,n,h1,h2,h3,by simpa using Xu r⟩
theorem Q1 (ok:HOk P w H h) (e:Rd H a (.dT kvs)):kvs.length<=Ae/\(a == AG)=false /\
  ∃ xs,KT H kvs xs/\h.DictOfH (BN (NU P w)) a xs:=by
 obtain⟨z,y,xs,r,o,es,ep,h1,h2,h3,h4,h5⟩:=(show ObjOk P w H h a (.dT kvs) from rd_of ok e)
 refine⟨z,y,xs,r,o,es,ep,h1,h2,h3,h4,fun x hx=>?_,h5⟩
 have all:∀{l:List (List Key×V)}{m:List (List Key×Ab×Ac)},KT H l m->∀ x∈m,(BN (NU P w)).is h x.1 x.2.1:=by
  intro l m q
  induction q with
  | nil=>intro x hx;exact nomatch hx
  | @cons p q ps qs hq t ih =>
   intro x hx
   rcases Nf.mp hx with e | hx
   ·subst e
    exact Q0 ok (by rw[<- hq.1];exact hq.2.1)
   ·exact ih x hx
 exact all r x hx
theorem dt_of (ok:HOk P w H h) (e:H a=some (.dT kvs)):kvs.length<=Ae/\(a == AG)=false /\
  ∃ xs,KT H kvs xs/\h.DictOfH (BN (NU P w)) a xs:=Q1 ok (.inl e)
end
noncomputable def DGet (H:Hp)(a:Ab)(y:V)(r:Option V):Prop :=
 (∃ kvs k,Rd H a (.dK kvs)/\y=kV k/\r=valV kvs k)∨∃ kvs k b,Rd H a (.dT kvs)/\y=.ref b/\H b=some (.tup (k.map kV))/\r=valV kvs k
noncomputable def DPut (H:Hp)(a:Ab)(y v:V)(H':Hp):Prop :=
 (∃ kvs k,H a=some (.dK kvs)/\y=kV k/\kvs.length < Ae/\H'=upd H a (.dK (putK kvs k v))) ∨
 ∃ kvs k b,H a=some (.dT kvs)/\y=.ref b/\H b=some (.tup (k.map kV))/\kvs.length < Ae/\H'=upd H a (.dT (putK kvs k v))
theorem DGet.k {H:Hp}{a:Ab}{kvs:List (Key×V)}{k:Key}(e:H a=some (.dK kvs)):DGet H a (kV k) (valV kvs k):=.inl ⟨kvs,k,.inl e,rfl,rfl⟩
theorem DPut.k {H:Hp}{a:Ab}{kvs:List (Key×V)}{k:Key}{v:V}(e:H a=some (.dK kvs))(hl:kvs.length < Ae):DPut H a (kV k) v (upd H a (.dK (putK kvs k v))):=.inl ⟨kvs,k,e,rfl,hl,rfl⟩
section
variable {X:Cx}{B4:List (Ab×Obj)}{σ:St}{H:Hp}{s:Ad}{a:Ab}{y v:V}{u r:Ac}{o:Option V}{A:Am}{E:Ac->Ad->Prop}
theorem Inv.big (I:Inv X B4 σ H s):AG < s.heap.objs.size:=by
 have h:Ah < s.heap.objs.size:=(I.mod.glob.keeps I.bk).lt
 exact bh (by decide) h
theorem fg (hu:A.units+1 < BE) (I:Inv X B4 σ H s) (g:DGet H a y (some v)) (ry:RelV y u) (h:∀ w' s',Inv X B4 σ H s'->RelV v w'->Q w' s'):
  wpAny (Ai X.prog X.w) A (Bw (.ref a) u) Q E s:=by
 rcases g with ⟨kvs,k,e,ey,l⟩ | ⟨kvs,k,b,e,ey,eb,l⟩
 ·subst ey
  obtain⟨z,hd,vs,rel,dd⟩:=P7 I.hok e
  obtain⟨w',hw,rw'⟩:=RelO.some_of (v:=v) (o:=BD vs k) (by rw[l];exact rel.val k)
  exact wpAny_getItem_of (OS ry) dd.mapOf hw (h w' _ (I.tok _) rw')
 ·subst ey
  cases (show u=Value.ref b from ry)
  obtain⟨z,hd,xs,rel,dd⟩:=Q1 I.hok e
  obtain⟨w',hw,rw'⟩:=RelO.some_of (v:=v) (o:=(atKey xs k).map (·.2)) (by rw[l];exact rel.val k)
  obtain⟨p,hp,DV⟩:=j4.mp hw
  refine wpAny_getItem_heap (A4 hu) (Q0 I.hok eb) dd hp ?_
  rw[DV]
  exact h w' _ (I.tok _) rw'
theorem d_in (hu:A.units+1 < BE) (I:Inv X B4 σ H s) (g:DGet H a y o) (ry:RelV y u) (h:∀ s',Inv X B4 σ H s'->Q (.bool o.isSome) s'):
  wpAny (Ai X.prog X.w) A (Ar .In u (.ref a)) Q E s:=by
 rcases g with ⟨kvs,k,e,ey,l⟩ | ⟨kvs,k,b,e,ey,eb,l⟩
 ·subst ey
  obtain⟨z,hd,vs,rel,dd⟩:=P7 I.hok e
  refine wpAny_in_of (OS ry) hd dd.mapOf ?_
  rw[<- (rel.val k).isSome_eq,<- l]
  exact h _ (I.tok _)
 ·subst ey
  cases (show u=Value.ref b from ry)
  obtain⟨z,hd,xs,rel,dd⟩:=Q1 I.hok e
  refine wpAny_in_heap (A4 hu) (Q0 I.hok eb) hd dd ?_
  have q:=(rel.val k).isSome_eq
  rw[bw] at q
  rw[<- q,<- l]
  exact h _ (I.tok _)
theorem fh (hu:A.units+1 < BE) (I:Inv X B4 σ H s) (g:DGet H a y o) (ry:RelV y u) (h:∀ s',Inv X B4 σ H s'->Q (.bool (!o.isSome)) s'):
  wpAny (Ai X.prog X.w) A (Ar .NotIn u (.ref a)) Q E s:=by
 rcases g with ⟨kvs,k,e,ey,l⟩ | ⟨kvs,k,b,e,ey,eb,l⟩
 ·subst ey
  obtain⟨z,hd,vs,rel,dd⟩:=P7 I.hok e
  refine wpAny_notIn_of (OS ry) hd dd.mapOf ?_
  rw[<- (rel.val k).isSome_eq,<- l]
  exact h _ (I.tok _)
 ·subst ey
  cases (show u=Value.ref b from ry)
  obtain⟨z,hd,xs,rel,dd⟩:=Q1 I.hok e
  refine wpAny_notIn_heap (A4 hu) (Q0 I.hok eb) hd dd ?_
  have q:=(rel.val k).isSome_eq
  rw[bw] at q
  rw[<- q,<- l]
  exact h _ (I.tok _)
theorem Ug (I:Inv X B4 σ H s) (mu:Mut (H a)) (hs:Rz a s.heap h') (he:∃ q,h'.get? a=some q) (new:ObjOk X.prog X.w (upd H a ob) h' a ob):
  Inv X B4 σ (upd H a ob) { s with heap:=h',toks:=t' } :=
 I.write (x:=a) (e:=a) mu (.inl rfl) (fun b q hb z=>(hs.2 b hb).trans z) he new
theorem Xv (z:kvs.length<=Ae) (hd:(a == AG)=false) (rel:KV kvs vs) (dd:h'.DictOf (NU P w) a vs):
  ObjOk P w H' h' a (.dK kvs):=⟨z,hd,vs,rel,dd⟩
theorem fi (hu:A.units+1 < BE) (I:Inv X B4 σ H s) (g:DPut H a y v H') (ry:RelV y u) (rv:RelV v r) (h:∀ s',Inv X B4 σ H' s'->Q () s'):
  wpAny (Ai X.prog X.w) A (setItem (.ref a) u r) Q E s:=by
 rcases g with ⟨kvs,k,e,ey,l,eH⟩ | ⟨kvs,k,b,e,ey,eb,l,eH⟩
 ·subst ey eH
  obtain⟨z,hd,vs,rel,dd⟩:=R' I.hok e
  have hz:vs.length<=Ae:=by rw[<- rel.length];exact z
  have hl:(putK kvs k v).length<=Ae:=by have:=ff kvs k v;omega
  refine wpAny_setItem_pairs (hsz:=hz) (OS ry) dd fun h' dd' hs=>h _ ?_
  have he:∃ q,h'.get? a=some q:=let ⟨q,_,_,hq,_⟩:=dd';⟨q,hq⟩
  exact Ug I (by rw[e];exact True.intro) hs he (Xv hl hd (rel.put k rv) dd')
 ·subst ey eH
  cases (show u=Value.ref b from ry)
  obtain⟨z,hd,xs,rel,dd⟩:=dt_of I.hok e
  have hz:xs.length<=Ae:=by rw[<- ak rel];exact z
  have hl:(putK kvs k v).length<=Ae:=by have:=ff kvs k v;omega
  refine wpAny_setItem_heap (hsz:=hz) (A4 hu) (Q0 I.hok eb) dd fun h' dd' hs=>h _ ?_
  obtain⟨q,es,ep,hq,h2,h3,h4,_,h5⟩:=dd'
  refine Ug I (by rw[e];exact True.intro) hs ⟨q,hq⟩ ⟨hl,hd,_,(rel.put k eb rv).keeps fun c ys ec=>?_,q,es,ep,hq,h2,h3,h4,h5⟩
  rw[MR (OK ec e (fun z=>nomatch z))]
  exact ec
end
section
variable {X:Cx}{B4:List (Ab×Obj)}{σ:St}{H:Hp}{s:Ad}{a:Ab}{kvs:List (Key×V)}{k:Key}{u:Ac}{A:Am}{E:Ac->Ad->Prop}
end
def NoSl (i:Av):Prop:=∀ ov iv,BJ i false ov iv=operate [ov,iv] (Bw ov iv)
theorem Xw {prog:Aj}{w:Ak}{A:Am}{E:Ac->Ad->Prop}{s:Ad}{env:Env}{value slice:Av}{pos:Pos}{T id:String}{Q:Ac->Ad->Prop}
  (hl:AX (.type T) "__getitem__"=pure (some (.builtin id))) (hs:NoSl slice)
  (h:wpAny (Ai prog w) A (Aq value env) (fun o s₁=>wpAny (Ai prog w) A (Aq slice env) (fun i s₂=>s₂.TypeIs o T/\wpAny (Ai prog w) A (Bw o i) Q E s₂) E s₁) E s) :
  wpAny (Ai prog w) A (Aq (.Subscript value slice pos) env) Q E s:=by
 refine Subscript_ (Ao h (fun o s₁ h₁=>Ao h₁ (fun i s₂ h₂=>?_) fun _ _ x=>x) fun _ _ x=>x)
 obtain⟨hT,h₂⟩:=h₂
 unfold BS
 refine Aa ?_
 rw[getitemInPython_of_ne hT.not_modules]
 refine Aa (wpAny_specialOf hT hl ?_)
 have fin:wpAny (Ai prog w) A (BJ slice false o i) (fun r s₃=>wpAny (Ai prog w) A (letTemporaryGo value o r >>= fun _=>pure r) Q E s₃) E s₂:=by
  rw[hs o i]
  exact wpAny_operating (Ao h₂ (fun r s₃ h₃=>Aa (wpAny_letTemporaryGo (Af h₃))) fun _ _ x=>x)
 first
  | exact Af (Aa fin)
  | exact Aa (Af (Aa fin))
  | exact Aa fin
theorem fj (I:Inv X B4 σ H s) (g:DGet H a y o):s.TypeIs (.ref a) "dict":=by
 rcases g with ⟨kvs,k,e,_,_⟩ | ⟨kvs,k,b,e,_,_,_⟩
 ·obtain⟨_,_,vs,_,dd⟩:=P7 I.hok e
  exact dd.typeIs
 ·obtain⟨_,_,xs,_,dd⟩:=Q1 I.hok e
  exact dd.typeIs
def Uh (td ty:TE):TE:=fun σ H Q=>td σ H fun x H1=>ty σ H1 fun y H2=>∃ a v,x=.ref a/\DGet H2 a y (some v)/\Q v H2
def tDIn (ty td:TE):TE:=fun σ H Q=>ty σ H fun y H1=>td σ H1 fun x H2=>∃ a o,x=.ref a/\DGet H2 a y o/\Q (.bl o.isSome) H2
def Xx (ty td:TE):TE:=fun σ H Q=>ty σ H fun y H1=>td σ H1 fun x H2=>∃ a o,x=.ref a/\DGet H2 a y o/\Q (.bl (!o.isSome)) H2
def sDPut (td ty tv:TE):TS:=fun D σ H=>tv σ H fun v H1=>td σ H1 fun x H2=>ty σ H2 fun y H3=>∃ a H4,x=.ref a/\DPut H3 a y v H4/\D.nx σ H4
section
variable {X:Cx}{o i e value:Av}{pos pos' tpos:Pos}{td ty tv:TE}
theorem Oq (hu:X.A.units+1 < BE)(ho:PE X o td)(hi:PE X i ty)(hs:NoSl i):PE X (.Subscript o i pos) (Uh td ty):=by
 intro B4 s σ H Q I h
 refine Xw jP.lookup hs (thn (ho B4 s σ H _ I h) fun u s1 ⟨x,H1,I1,rx,q1⟩=>thn (hi B4 s1 σ H1 _ I1 q1) fun iv s2 hI9=>?_)
 obtain⟨y,H2,I2,ry,a,v,ex,g,q2⟩:=hI9
 subst ex
 obtain rfl:u=Value.ref a:=rx
 exact⟨fj I2 g,fg hu I2 g ry fun w' s3 I3 rw'=>⟨v,H2,I3,rw',q2⟩⟩
theorem Ui (hu:X.A.units+1 < BE)(hi:PE X i ty)(ho:PE X o td):PC X .In i o (tDIn ty td):=by
 intro B4 s σ H Q I h
 refine thn (hi B4 s σ H _ I h) fun iv s1 ⟨y,H1,I1,ry,q1⟩=>thn (ho B4 s1 σ H1 _ I1 q1) fun u s2 hI9=>?_
 obtain⟨x,H2,I2,rx,a,ov,ex,g,q2⟩:=hI9
 subst ex
 obtain rfl:u=Value.ref a:=rx
 exact d_in hu I2 g ry fun s3 I3=>⟨.bl ov.isSome,H2,I3,rfl,q2⟩
theorem Xy (hu:X.A.units+1 < BE)(hi:PE X i ty)(ho:PE X o td):PC X .NotIn i o (Xx ty td):=by
 intro B4 s σ H Q I h
 refine thn (hi B4 s σ H _ I h) fun iv s1 ⟨y,H1,I1,ry,q1⟩=>thn (ho B4 s1 σ H1 _ I1 q1) fun u s2 hI9=>?_
 obtain⟨x,H2,I2,rx,a,ov,ex,g,q2⟩:=hI9
 subst ex
 obtain rfl:u=Value.ref a:=rx
 exact fh hu I2 g ry fun s3 I3=>⟨.bl (!ov.isSome),H2,I3,rfl,q2⟩
theorem Q2 (hu:X.A.units+1 < BE)(ho:PE X o td)(hi:PE X i ty)(hv:PE X value tv)(hs:Bm value (some (.Subscript o i pos')) pos.line X.env=pure false) :
  PS X (.Assign [.Subscript o i pos'] value pos) (sDPut td ty tv):=by
 intro B4 s σ H D I h
 refine wpAny_Assign_Subscript (thn (hv B4 s σ H _ I h) fun r s1 ⟨v,H1,I1,rv,q1⟩=>thn (ho B4 s1 σ H1 _ I1 q1) fun u s2 ⟨x,H2,I2,rx,q2⟩=>thn (hi B4 s2 σ H2 _ I2 q2) fun iv s3 hI9=>?_) hs
 obtain⟨y,H3,I3,ry,a,H4,ex,g,q3⟩:=hI9
 subst ex
 obtain rfl:u=Value.ref a:=rx
 exact fi hu I3 g ry rv fun s4 I4=>⟨σ,H4,I4,q3⟩
end
theorem Xz (h:An) (hb:AG < h.objs.size):ObjOk P w H (h.push { cls:=.type "dict",data:=.dict #[] }) h.objs.size (.dK []) :=
 ⟨NA _,beq_eq_false_iff_ne.mpr (M7 (NB hb)),[],.nil,Heap.DictOf.new h⟩
def XA:TE:=fun _ H Q=>∀ p,H p=none->Q (.ref p) (upd H p (.dK []))
section
variable {X:Cx}{pos:Pos}
theorem Sa:PE X (.Dict [] [] pos) XA:=fun B4 s σ H Q I h =>
 wpAny_Dict_empty ⟨.ref s.heap.objs.size,_,I.laid (a:=s.heap.objs.size) (o:=.dK []) (t':=s.toks) (fun _ _ q=>Ng _ q) (M6 _) (Xz s.heap I.big),rfl,h _ (I.hok.fresh (M6 _))⟩
end
def Q3:List (TE×TE)->St->Hp->(List (V×V)->Hp->Prop)->Prop
 | [],_,H,Q=>Q [] H
 | (tk,tv)::r,σ,H,Q=>tk σ H fun x H1=>tv σ H1 fun y H2=>Q3 r σ H2 fun ps H3=>Q ((x,y)::ps) H3
abbrev VV:List (V×V)->List (Ac×Ac)->Prop:=Paired fun p q=>RelV p.1 q.1/\RelV p.2 q.2
noncomputable def PPs (X:Cx)(pos:Pos)(keys:List (Option Av))(values:List Av)(trs:List (TE×TE)):Prop :=
 ∀(B4:List (Ab×Obj)) (s:Ad) (σ:St) (H:Hp) (Q:List (V×V)->Hp->Prop),Inv X B4 σ H s->Q3 trs σ H Q ->
  wpAny (Ai X.prog X.w) X.A (evalPairs (pairTrees keys values X.env pos)) (fun vs s'=>∃ ps H',Inv X B4 σ H' s'/\VV ps vs/\Q ps H') X.xe s
theorem fk :PPs X pos [] [] []:=fun B4 s σ H Q I h=>pairTrees_nil_walk ⟨[],H,I,.nil,h⟩
theorem az (hk:PE X k tk) (hv:PE X v tv) (hr:PPs X pos ks vs trs):
  PPs X pos (some k::ks) (v::vs) ((tk,tv)::trs):=fun B4 s σ H Q I h =>
 pairTrees_cons_walk (thn (hk B4 s σ H _ I h) fun u s1 ⟨x,H1,I1,rx,q1⟩=>thn (hv B4 s1 σ H1 _ I1 q1) fun w2 s2 ⟨y,H2,I2,ry,q2⟩ =>
  thn (hr B4 s2 σ H2 _ I2 q2) fun ws s3 ⟨ps,H3,I3,rel,q3⟩=>⟨(x,y)::ps,H3,I3,.cons ⟨rx,ry⟩ rel,q3⟩)
noncomputable def P8 (kvs more:List (Key×V)):List (Key×V):=more.foldl (fun B6 kv=>putK B6 kv.1 kv.2) kvs
theorem KV.merge:∀{more:List (Key×V)}{rs:List (Key×Ac)}{kvs:List (Key×V)}{vs:List (Key×Ac)},KV more rs->KV kvs vs->KV (P8 kvs more) (merged vs rs):=by
 intro more rs kvs vs r
 unfold KV at r
 induction r generalizing kvs vs with
 | nil=>intro q;exact q
 | @cons p q ps qs h t ih =>
  intro r0
  have e:KV (putK kvs p.1 p.2) (stored vs q.1 q.2):=by
   have:=r0.put p.1 h.2
   rw[<- h.1];exact this
  exact ih e
theorem kz:∀(more kvs:List (Key×V)),(P8 kvs more).length<=kvs.length+more.length
 | [],kvs=>by show kvs.length<=kvs.length+0;omega
 | p::r,kvs=>by
  have h1:=kz r (putK kvs p.1 p.2)
  have h2:=ff kvs p.1 p.2
  show (P8 (putK kvs p.1 p.2) r).length<=_
  rw[ND];omega
theorem XB {P:Aj}{w:Ak}:∀{kvs:List (Key×V)}{ws:List (Ac×Ac)},VV (kvs.map fun kv=>(kV kv.1,kv.2)) ws->∃ rs,Carries (NU P w) ws rs/\KV kvs rs
 | [],_,r=>by rw[N8] at r;cases r;exact⟨[],True.intro,.nil⟩
 | p::kvs,_,r=>by
  rw[Nq] at r
  cases r with
  | @cons a b as bs h t =>
   obtain⟨rs,c,q⟩:=XB (P:=P) (w:=w) t
   obtain⟨b1,b2⟩:=b
   exact⟨(p.1,b2)::rs,⟨OS h.1,rfl,c⟩,.cons ⟨rfl,h.2⟩ q⟩
def tDisp (trs:List (TE×TE)):TE:=fun σ H Q=>∀ p,H p=none->Q3 trs σ (upd H p (.dK [])) fun ps H2=>H2 p=some (.dK [])/\∃ kvs:List (Key×V),ps=kvs.map (fun kv=>(kV kv.1,kv.2))/\kvs.length<=15/\Q (.ref p) (upd H2 p (.dK (P8 [] kvs)))
theorem fm (h:PPs X pos keys values trs) (Ei:keys.all (·.isSome)=true) (hl:keys.length=values.length) (h0:keys≠[]) (Le:keys.length<=15):PE X (.Dict keys values pos) (tDisp trs):=by
 intro B4 s σ H Q I q
 have hn:=I.hok.fresh (M6 s.heap.objs.size)
 have I1:=I.laid (a:=s.heap.objs.size) (o:=.dK []) (h':=s.heap.push { cls:=.type "dict",data:=.dict #[] }) (t':=s.toks) (fun _ _ q=>Ng _ q) (M6 _) (Xz s.heap I.big)
 refine wpAny_Dict_walk (knd:=NU X.prog X.w) Ei hl h0 Le (thn (h B4 _ σ _ _ I1 (q _ hn)) fun ws s2 hI9=>?_)
 obtain⟨ps,H2,I2,rel,e,kvs,ep,lk,q2⟩:=hI9
 subst ep
 obtain⟨rs,c,rk⟩:=XB (P:=X.prog) (w:=X.w) rel
 obtain⟨z,hd,vs0,r0,dd⟩:=R' I2.hok e
 cases r0
 refine⟨rs,c,dd,fun h' dd' hs=>⟨.ref s.heap.objs.size,_,?_,rfl,q2⟩⟩
 have hz:(P8 [] kvs).length<=Ae:=by
  have h1:=kz kvs []
  rw[Ot] at h1
  rw[Bu];omega
 have he:∃ q,h'.get? s.heap.objs.size=some q:=let ⟨q,_,_,hq,_⟩:=dd';⟨q,hq⟩
 exact Ug I2 (by rw[e];exact True.intro) hs he (Xv hz hd (rk.merge .nil) dd')
structure M1 (X:Cx)(o:Av)(m:Str)(Ck:Pos)(e:Av)(cpos:Pos):Prop where
 base:AH o m X.env (Aq o X.env)=Aq o X.env
 few:((AB cpos (Ag [e] X.env)).all (fun x=>!x.1)&&(A8 cpos (AR [] X.env)).all (fun x=>x.1.isSome)
  && decide (([e]:List Av).length+([]:List Bv).length+(if ([]:List Bv).isEmpty then 0 else 1) < 30))=true
 line:(Ck.endLine == cpos.line)=true
 trees:AB cpos (Ag [e] X.env)=[(false,Aq e X.env)]
structure M2 (X:Cx)(o:Av)(m:Str)(Ck:Pos)(e f:Av)(cpos:Pos):Prop where
 base:AH o m X.env (Aq o X.env)=Aq o X.env
 few:((AB cpos (Ag [e,f] X.env)).all (fun x=>!x.1)&&(A8 cpos (AR [] X.env)).all (fun x=>x.1.isSome)
  && decide (([e,f]:List Av).length+([]:List Bv).length+(if ([]:List Bv).isEmpty then 0 else 1) < 30))=true
 line:(Ck.endLine == cpos.line)=true
 trees:AB cpos (Ag [e,f] X.env)=[(false,Aq e X.env),(false,Aq f X.env)]
section
variable {X:Cx}{B4:List (Ab×Obj)}{σ:St}{H:Hp}{s:Ad}{a:Ab}{y d:V}{u r:Ac}{o:Option V}{A:Am}{E:Ac->Ad->Prop}
end
section
variable {X:Cx}{o e f:Av}{Ck cpos:Pos}{td ty tx:TE}
end
section
variable {X:Cx}{B4:List (Ab×Obj)}{σ:St}{H:Hp}{s:Ad}{a:Ab}{kvs:List (Key×V)}{A:Am}{E:Ac->Ad->Prop}
end
section
variable {X:Cx}{B4:List (Ab×Obj)}{σ:St}{H:Hp}{s:Ad}{a:Ab}{y:V}{u:Ac}{A:Am}{E:Ac->Ad->Prop}
end
end L2
namespace L2
theorem SR (h:(Sum.inr (S a):Key)=Sum.inr (S b)):a=b:=by
 injection h with h
 exact S_inj h
def NT (H:Hp):List (Key×V)->List Pat->Prop
 | [],[]=>True
 | kv::kvs,g::gs=>kv.1=Sum.inr (S g.1)/\(∃ t,kv.2=.ref t/\H t=some (.tup (g.2.map V.int)))/\NT H kvs gs
 | _,_=>False
noncomputable def Ro (gs:List Pat)(z:List Nat):Option Pat:=gs.find? fun g=>decide (g.1=z)
theorem NT.val {H:Hp}{z:List Nat}:∀{kvs:List (Key×V)}{gs:List Pat},NT H kvs gs->(Ro gs z=none/\valV kvs (Sum.inr (S z))=none)∨∃ g t,Ro gs z=some g/\g∈gs/\g.1=z/\valV kvs (Sum.inr (S z))=some (.ref t)/\H t=some (.tup (g.2.map V.int))
 | [],[],_=>.inl ⟨rfl,rfl⟩
 | [],_::_,h=>h.elim
 | _::_,[],h=>h.elim
 | kv::kvs,g::gs,h=>by
  obtain⟨h1,⟨t,h2,h3⟩,h4⟩:=h
  by_cases e:g.1=z
  ·refine .inr ⟨g,t,?_,N1,e,?_,h3⟩
   ·unfold Ro;rw[OX,B1 e]
   ·rw[Vo (by rw[h1,e]),h2]
  ·have hl:Ro (g::gs) z=Ro gs z:=by unfold Ro;rw[OX,B0 e]
   have hv:valV (kv::kvs) (Sum.inr (S z))=valV kvs (Sum.inr (S z)):=Uf fun q=>e (SR (h1.symm.trans q))
   rw[hl,hv]
   rcases NT.val (z:=z) h4 with q | ⟨g',t',a,b,c,d,f⟩
   ·exact .inl q
   ·exact .inr ⟨g',t',a,NH _ b,c,d,f⟩
theorem NT.same {H H':Hp}(s:Same H H'):∀{kvs:List (Key×V)}{gs:List Pat},NT H kvs gs->NT H' kvs gs
 | [],[],_=>trivial
 | [],_::_,h=>h.elim
 | _::_,[],h=>h.elim
 | kv::kvs,g::gs,h=>by
  obtain⟨h1,⟨t,h2,h3⟩,h4⟩:=h
  exact⟨h1,⟨t,h2,s _ _ h3⟩,NT.same s h4⟩
end L2
namespace L2
open PySem
noncomputable def putG (gs:List Pat)(s:List Nat)(ns:List Int):List Pat :=
 if (gs.any fun g=>decide (g.1=s))=true then gs.map (fun g=>if g.1=s then (g.1,ns) else g) else gs++[(s,ns)]
theorem NT.anyK {H:Hp}{s:List Nat}:∀{kvs:List (Key×V)}{gs:List Pat},NT H kvs gs->(kvs.any fun kv=>decide (kv.1=(Sum.inr (S s):Key)))=gs.any fun g=>decide (g.1=s)
 | [],[],_=>rfl
 | [],_::_,h=>h.elim
 | _::_,[],h=>h.elim
 | kv::kvs,g::gs,h=>by
  obtain⟨h1,_,h4⟩:=h
  rw[Pp,Pp,NT.anyK h4]
  congr 1
  rw[h1]
  by_cases e:g.1=s
  ·rw[B1 e,B1 (by rw[e])]
  ·rw[B0 e,B0 fun q=>e (SR q)]
theorem NT.append {H:Hp}:∀{kvs kvs':List (Key×V)}{gs gs':List Pat},NT H kvs gs->NT H kvs' gs'->NT H (kvs++kvs') (gs++gs')
 | [],_,[],_,_,h=>h
 | [],_,_::_,_,h,_=>h.elim
 | _::_,_,[],_,h,_=>h.elim
 | kv::kvs,_,g::gs,_,h,h'=>⟨h.1,h.2.1,NT.append h.2.2 h'⟩
theorem NT.mapP {H:Hp}{s:List Nat}{ns:List Int}{t:Ab}(ht:H t=some (.tup (ns.map V.int))):∀{kvs:List (Key×V)}{gs:List Pat},NT H kvs gs->NT H (kvs.map fun kv=>if kv.1=(Sum.inr (S s):Key) then (kv.1,.ref t) else kv) (gs.map fun g=>if g.1=s then (g.1,ns) else g)
 | [],[],_=>trivial
 | [],_::_,h=>h.elim
 | _::_,[],h=>h.elim
 | kv::kvs,g::gs,h=>by
  obtain⟨h1,h2,h4⟩:=h
  rw[Nq,Nq]
  by_cases e:g.1=s
  ·rw[B3 e,B3 (by rw[h1,e])]
   exact⟨h1,⟨t,rfl,ht⟩,NT.mapP ht h4⟩
  ·rw[B2 e,B2 (by rw[h1];exact fun q=>e (SR q))]
   exact⟨h1,h2,NT.mapP ht h4⟩
theorem NT.put (h:NT H kvs gs) (ht:H t=some (.tup (ns.map V.int))):NT H (putK kvs (Sum.inr (S s)) (.ref t)) (putG gs s ns):=by
 unfold putK putG
 rw[h.anyK]
 split
 ·exact h.mapP ht
 ·exact h.append ⟨rfl,⟨t,rfl,ht⟩,trivial⟩
theorem NT.tups {H H':Hp}(hk:∀ b zs,H b=some (.tup zs)->H' b=some (.tup zs)):∀{kvs:List (Key×V)}{gs:List Pat},NT H kvs gs->NT H' kvs gs
 | [],[],_=>trivial
 | [],_::_,h=>h.elim
 | _::_,[],h=>h.elim
 | kv::kvs,g::gs,h=>by
  obtain⟨h1,⟨t,h2,h3⟩,h4⟩:=h
  exact⟨h1,⟨t,h2,hk _ _ h3⟩,NT.tups hk h4⟩
end L2
namespace L2
noncomputable def fig (n:Int):List Nat:=if n > 0 then [48+n.toNat] else []
noncomputable def pre (s:List Nat)(ns:List Int):Nat->List Nat
 | 0=>[]
 | i+1=>pre s ns i++(fig (ns.getD i 0)++[s.getD i 0])
noncomputable def ptxt (s:List Nat)(ns:List Int):List Nat:=pre s ns s.length++fig (ns.getD s.length 0)
noncomputable def Rp (c:Nat):Bool:=decide (49<=c/\c<=57)
noncomputable def canS (c:Nat)(sg:List Nat)(n:Int):Bool :=
 if 1 < sg.length/\sg.getLast?=some 46 then false
 else if Rp c=true then decide (n=0)
 else if sg.length=22 then false
 else if c=46 then decide (sg≠[46])&&(decide (sg≠[]) || decide (n=0))
 else NL c
structure PS3 where
 sg:List Nat
 ns:List Int
 n:Int
noncomputable def OT (t:PS3)(c:Nat):Option PS3 :=
 if canS c t.sg t.n=true then (if Rp c=true then some ⟨t.sg,t.ns,(c:Int) - 48⟩ else some ⟨t.sg++[c],t.ns++[t.n],0⟩) else none
noncomputable def prun:List Nat->PS3->Option PS3
 | [],t=>some t
 | c::r,t=>(OT t c).bind (prun r)
theorem Vp:∀(a b:List Nat) (t:PS3),prun (a++b) t=(prun a t).bind (prun b)
 | [],b,t=>rfl
 | c::a,b,t=>by
  simp only[SG,prun]
  cases OT t c with
  | none=>rfl
  | some u=>simp only[OJ];exact Vp a b u
structure VP (s:List Nat)(ns:List Int):Prop where
 len:s.length<=22
 pos:1<=s.length
 nlen:ns.length=s.length+1
 let_:∀ j,j < s.length->s.getD j 0=46/\(j=0∨j+1=s.length)∨NL (s.getD j 0)=true
 some_:∃ j,j < s.length/\NL (s.getD j 0)=true
 num:∀ j,j < ns.length->0<=ns.getD j 0/\ns.getD j 0<=9
 n0:s.getD 0 0=46->ns.getD 0 0=0
 nl:s.getD (s.length - 1) 0=46->ns.getD s.length 0=0
theorem Q4:NL 46=false:=by decide
theorem fo (h:NL c=true):Rp c=false:=by
 unfold NL at h
 unfold Rp
 have:=of_decide_eq_true h
 exact B0 (by omega)
theorem XC {s:List Nat}{i:Nat}(h:i < s.length)(h0:0 < i):(s.take i).getLast?=some (s.getD (i - 1) 0):=by
 rw[ZM]
 have e:(s.take i).length=i:=by rw[NX];omega
 rw[e,aV,B3 (by omega),Na (by omega),Nl,Na (by omega)]
 rfl
theorem fq {α:Type}{s:List α}{i:Nat}{d:α}(h:i < s.length):s.take (i+1)=s.take i++[s.getD i d]:=by
 rw[OC,Na h,Nl,Na h];rfl
theorem XD (h0:0<=n) (h9:n<=9) (hn:t.n=0) (hs:¬ (1 < t.sg.length/\t.sg.getLast?=some 46)∨n=0):prun (fig n) t=some ⟨t.sg,t.ns,n⟩:=by
 unfold fig
 by_cases c:n > 0
 ·rw[B3 c]
  have hs':¬ (1 < t.sg.length/\t.sg.getLast?=some 46):=by
   rcases hs with h | h
   ·exact h
   ·omega
  have hf:Rp (48+n.toNat)=true:=B1 (by omega)
  have hc:canS (48+n.toNat) t.sg t.n=true:=by
   unfold canS
   rw[B2 hs',B3 hf]
   exact B1 hn
  simp only[prun,OT,hc,hf,if_true,OJ]
  congr 2
  omega
 ·rw[B2 c]
  have:n=0:=by omega
  subst this
  cases t
  simp only at hn
  subst hn
  rfl
theorem VP.run {s:List Nat}{ns:List Int}(h:VP s ns):∀ i,i<=s.length->prun (pre s ns i) ⟨[],[],0⟩=some ⟨s.take i,ns.take i,0⟩
 | 0,_=>by simp[pre,prun]
 | i+1,hi=>by
  have ih:=VP.run h i (by omega)
  have Cz:i < s.length:=hi
  have hn:=h.num i (by have:=h.nlen;omega)
  have e:(s.take i).length=i:=by rw[NX];omega
  have nodot:¬ (1 < (s.take i).length/\(s.take i).getLast?=some 46):=fun⟨c1,c2⟩=>by
   rw[e] at c1
   rw[XC Cz (by omega)] at c2
   have c3:s.getD (i - 1) 0=46:=Option.some.inj c2
   rcases h.let_ (i - 1) (by omega) with ⟨_,q⟩ | q
   ·omega
   ·rw[c3,Q4] at q;cases q
  simp only[pre]
  rw[Vp,ih,OJ,Vp,XD hn.1 hn.2 rfl (.inl nodot),OJ]
  have G_:Rp (s.getD i 0)=false:=by
   rcases h.let_ i Cz with ⟨q,_⟩ | q
   ·rw[q];decide
   ·exact fo q
  have hc:canS (s.getD i 0) (s.take i) (ns.getD i 0)=true:=by
   unfold canS
   rw[B2 nodot,B2 (by rw[G_];exact Nj),e,B2 (by have:=h.len;omega)]
   rcases h.let_ i Cz with ⟨q,p⟩ | q
   ·rw[B3 q]
    have n1:s.take i≠[46]:=fun z=>by
     have l1:(s.take i).length=1:=by rw[z];rfl
     have i1:i=1:=by omega
     subst i1
     have s0:s.getD 0 0=46:=by
      have:=XC Cz (by omega)
      rw[z] at this
      exact(Option.some.inj this).symm
     obtain⟨j,hj,lj⟩:=h.some_
     have:j=0∨j=1:=by omega
     rcases this with rfl | rfl
     ·rw[s0,Q4] at lj;cases lj
     ·rw[q,Q4] at lj;cases lj
    rw[B1 n1,Rb]
    by_cases i0:i=0
    ·subst i0
     rw[B1 (h.n0 q),Z1]
    ·have n2:s.take i≠[]:=fun z=>by rw[z] at e;simp at e;omega
     rw[B1 n2,S']
   ·have:s.getD i 0≠46:=fun z=>by rw[z,Q4] at q;cases q
    rw[B2 this];exact q
  simp only[prun,OT,hc,G_,if_true,OJ]
  rw[B2 Nj,fq (d:=0) Cz,fq (d:=0) (show i < ns.length by have:=h.nlen;omega)]
  rfl
theorem VP.read (h:VP s ns):∃ m,prun (ptxt s ns) ⟨[],[],0⟩=some ⟨s,m,ns.getD s.length 0⟩/\ns=m++[ns.getD s.length 0]:=by
 have hr:=VP.run h s.length (M6 _)
 have hn:=h.num s.length (by have:=h.nlen;omega)
 refine⟨ns.take s.length,?_,?_⟩
 ·unfold ptxt
  rw[Vp,hr,OJ,OB]
  refine XD hn.1 hn.2 rfl ?_
  by_cases c:s.getD (s.length - 1) 0=46
  ·exact .inr (h.nl c)
  ·refine .inl fun⟨_,z⟩=>c ?_
   rw[ZM] at z
   rw[Nl]
   show s[s.length - 1]?.getD 0=46
   have z':s[s.length - 1]?=some 46:=z
   rw[z'];rfl
 ·rw[<- fq (d:=0) (show s.length < ns.length by have:=h.nlen;omega),ZO (by have:=h.nlen;omega)]
theorem Vq (s:List Nat)(ns:List Int):∀ i,(pre s ns i).length<=2 * i
 | 0=>M6 _
 | i+1=>by
  have:=Vq s ns i
  simp only[pre,No,ND,Ot]
  have:(fig (ns.getD i 0)).length<=1:=by unfold fig;split <;> simp
  omega
theorem Vr (s:List Nat)(ns:List Int):(ptxt s ns).length<=2 * s.length+1:=by
 unfold ptxt
 rw[No]
 have:=Vq s ns s.length
 have:(fig (ns.getD s.length 0)).length<=1:=by unfold fig;split <;> simp
 omega
theorem fu (h:prun l s=some t) (h1:prun (l.take i) s=some u) (hi:i < l.length):∃ u',OT u l[i]=some u'/\prun (l.take (i+1)) s=some u':=by
 have e:l=l.take i++(l[i]::l.drop (i+1)):=by rw[<- Rw hi,jK]
 have h2:=h
 rw[e,Vp,h1,OJ] at h2
 simp only[prun] at h2
 cases e2:OT u l[i] with
 | none=>rw[e2] at h2;cases h2
 | some u' =>
  refine⟨u',rfl,?_⟩
  rw[OC,Na hi,Vp,h1,OJ]
  simp only[Option.toList,prun,e2,OJ]
theorem XE:∀{l:List Nat}{s t:PS3},prun l s=some t->t.sg.length<=s.sg.length+l.length/\t.ns.length<=s.ns.length+l.length
 | [],s,t,h=>by cases h;exact⟨M6 _,M6 _⟩
 | c::r,s,t,h=>by
  simp only[prun] at h
  cases e:OT s c with
  | none=>rw[e] at h;cases h
  | some s1 =>
   rw[e] at h
   have ih:=XE h
   unfold OT at e
   split at e
   ·split at e
    ·cases e;simp at ih ⊢;omega
    ·cases e;simp at ih ⊢;omega
   ·cases e
structure PinP (u:PS3)(t:List Nat):Prop where
 len:u.sg.length<=22
 nl:u.ns.length=u.sg.length
 tx:pre u.sg u.ns u.sg.length++fig u.n=t
 num:∀ j,j < u.ns.length->0<=u.ns.getD j 0/\u.ns.getD j 0<=9
 n9:0<=u.n/\u.n<=9
 lt:∀ j,j < u.sg.length->u.sg.getD j 0=46/\(j=0∨j+1=u.sg.length)∨NL (u.sg.getD j 0)=true
 n0:1<=u.sg.length->u.sg.getD 0 0=46->u.ns.getD 0 0=0
 ne:1 < u.sg.length->u.sg.getLast?=some 46->u.n=0
 sm:u.sg=[]∨u.sg=[46]∨∃ j,j < u.sg.length/\NL (u.sg.getD j 0)=true
end L2
namespace L2
open PySem PySem.Spec PyProof.Rows
open Sem (wp)
open AutoSeq1 (wpAny_loadPart')
set_option maxHeartbeats 4000000 in
theorem fv (l:Ab)(items:Array Ac)(n:Nat)(dct:Option Ab)(sl:Array (Option Ac)) :
  Meets (Builtin.«enumerate.__new__» ⟨[.type "enumerate",.ref l],[]⟩) (fun _ R s=>s.heap.get? l=some { cls:=.type "tuple",dict:=dct,data:=.seq items n,slots:=sl } /\
   R (.ok (.ret (.ref (s.heap.push { cls:=.type "tuple_iterator",data:=.fields #[.ref l,.int 0 0] }).objs.size)))
    { s with heap:=(s.heap.push { cls:=.type "tuple_iterator",data:=.fields #[.ref l,.int 0 0] }).push { cls:=.type "enumerate",data:=.fields #[.none,.bool false,.ref s.heap.objs.size,AL 0,.none,.none] } }) :=
 .of_wp fun prog w A R s h=>by
  obtain⟨hp,g,d,tk,os⟩:=s;obtain⟨hl,h⟩:=h
  have E8:=By
  have hL:ba (VT ⟨hp,g,d,tk,os⟩) l items:=⟨_,hl,rfl,n,rfl⟩
  wp_walk using Ap hl
  refine Bg fun st=>Af ?_
  split
  ·rename_i c _ _ _ _ _
   cases (c == Value.type "enumerate")
   ·wp_walk using Ap hl,AF hL
    exact⟨_,rfl,h⟩
   ·wp_walk using Ap hl,AF hL
    exact⟨_,rfl,h⟩
  ·wp_walk using Ap hl,AF hL
   exact⟨_,rfl,h⟩
set_option maxHeartbeats 4000000 in
theorem fw (l:Ab)(items:Array Ac)(n:Nat)(dct:Option Ab)(sl:Array (Option Ac)) :
  Meets (Builtin.«enumerate.__new__» ⟨[.type "enumerate",.ref l],[]⟩) (fun _ R s=>s.heap.get? l=some { cls:=.type "list",dict:=dct,data:=.seq items n,slots:=sl } /\
   R (.ok (.ret (.ref (s.heap.push { cls:=.type "list_iterator",data:=.fields #[.ref l,.int 0 0] }).objs.size)))
    { s with heap:=(s.heap.push { cls:=.type "list_iterator",data:=.fields #[.ref l,.int 0 0] }).push { cls:=.type "enumerate",data:=.fields #[.none,.bool false,.ref s.heap.objs.size,AL 0,.none,.none] } }) :=
 .of_wp fun prog w A R s h=>by
  obtain⟨hp,g,d,tk,os⟩:=s;obtain⟨hl,h⟩:=h
  have E8:=By
  have hL:Heap.IsList (VT ⟨hp,g,d,tk,os⟩) l items:=⟨_,hl,rfl,n,rfl⟩
  wp_walk using Ap hl
  refine Bg fun st=>Af ?_
  split
  ·rename_i c _ _ _ _ _
   cases (c == Value.type "enumerate")
   ·wp_walk using Ap hl,AA hL
    exact⟨_,rfl,h⟩
   ·wp_walk using Ap hl,AA hL
    exact⟨_,rfl,h⟩
  ·wp_walk using Ap hl,AA hL
   exact⟨_,rfl,h⟩
theorem chk10 (a:Ac):BU "enumerate" ⟨[a],[]⟩=pure ():=by kernel_rfl
theorem chk20 (a:Ac):Ax "enumerate.__new__" ⟨[.type "enumerate",a],[]⟩=pure ():=by kernel_rfl
section
variable {prog:Aj}{w:Ak}{A:Am}{E:Ac->Ad->Prop}{s:Ad}
theorem fz (hL:s.heap.IsTuple l items) (h:∀ h',BK h' (s.heap.objs.size+1) s.heap.objs.size 0 .none->h'.IsTupleIter s.heap.objs.size l 0->(∀ b o,s.heap.get? b=some o->h'.get? b=some o)->Q (.ref (s.heap.objs.size+1)) { s with heap:=h' }):
  wpAny (Ai prog w) A (call (.type "enumerate") [.ref l]) Q E s:=by
 obtain⟨⟨c,dct,dt,sl⟩,hl,hc,n,hd⟩:=hL
 simp only at hc hd
 subst hc hd
 refine ap (Q₁:=fun obj s₁=>s₁.TypeIs obj "enumerate"/\Q obj s₁) Ql (chk10 _) (chk20 _) Z5 Z6 (fv l items n dct sl) ⟨hl,?_⟩
  fun obj s₁ hq=>⟨hq.1,F.args_object_init_2 obj _,_,RT Ql.init.lookup Ql.made (by decide),hq.1,rfl,hq.2⟩
 have hz:(s.heap.push { cls:=.type "tuple_iterator",data:=.fields #[.ref l,.int 0 0] }).objs.size=s.heap.objs.size+1:=OY ..
 show _/\_
 rw[hz]
 have he:BK ((s.heap.push { cls:=.type "tuple_iterator",data:=.fields #[.ref l,.int 0 0] }).push { cls:=.type "enumerate",data:=.fields #[.none,.bool false,.ref s.heap.objs.size,AL 0,.none,.none] }) (s.heap.objs.size+1) s.heap.objs.size 0 .none:=by
  have:=NE (s.heap.push { cls:=.type "tuple_iterator",data:=.fields #[.ref l,.int 0 0] }) (o:={ cls:=.type "enumerate",data:=.fields #[.none,.bool false,.ref s.heap.objs.size,AL 0,.none,.none] }) rfl
  rw[hz] at this;exact this
 exact⟨⟨_,he,rfl⟩,h _ he ⟨_,Ng _ (NE _ rfl),rfl,rfl⟩ fun b o x=>Ng _ (Ng _ x)⟩
theorem fA (hL:s.heap.IsList l items) (h:∀ h',BK h' (s.heap.objs.size+1) s.heap.objs.size 0 .none->h'.IsListIter s.heap.objs.size l 0->(∀ b o,s.heap.get? b=some o->h'.get? b=some o)->Q (.ref (s.heap.objs.size+1)) { s with heap:=h' }):
  wpAny (Ai prog w) A (call (.type "enumerate") [.ref l]) Q E s:=by
 obtain⟨⟨c,dct,dt,sl⟩,hl,hc,n,hd⟩:=hL
 simp only at hc hd
 subst hc hd
 refine ap (Q₁:=fun obj s₁=>s₁.TypeIs obj "enumerate"/\Q obj s₁) Ql (chk10 _) (chk20 _) Z5 Z6 (fw l items n dct sl) ⟨hl,?_⟩
  fun obj s₁ hq=>⟨hq.1,F.args_object_init_2 obj _,_,RT Ql.init.lookup Ql.made (by decide),hq.1,rfl,hq.2⟩
 have hz:(s.heap.push { cls:=.type "list_iterator",data:=.fields #[.ref l,.int 0 0] }).objs.size=s.heap.objs.size+1:=OY ..
 show _/\_
 rw[hz]
 have he:BK ((s.heap.push { cls:=.type "list_iterator",data:=.fields #[.ref l,.int 0 0] }).push { cls:=.type "enumerate",data:=.fields #[.none,.bool false,.ref s.heap.objs.size,AL 0,.none,.none] }) (s.heap.objs.size+1) s.heap.objs.size 0 .none:=by
  have:=NE (s.heap.push { cls:=.type "list_iterator",data:=.fields #[.ref l,.int 0 0] }) (o:={ cls:=.type "enumerate",data:=.fields #[.none,.bool false,.ref s.heap.objs.size,AL 0,.none,.none] }) rfl
  rw[hz] at this;exact this
 exact⟨⟨_,he,rfl⟩,h _ he ⟨_,Ng _ (NE _ rfl),rfl,rfl⟩ fun b o x=>Ng _ (Ng _ x)⟩
end
section
variable {X:Cx}
def XF (te:TE):TI:=fun σ H R=>te σ H (ON 0 R)
theorem XG (hg:Gl X "enumerate") (hm:X.mg "enumerate"=none) (ha:PE X a ta) (hs:Ag [a] X.env=[(false,Aq a X.env)]:=by rfl):
  PI X (.Tuple elts k tpos) (.Call (.Name "enumerate" p) [a] [] pos) (XF ta):=by
 intro B4 s σ H R I h
 refine Call_ (Ri I hg hm BL (Vh ?_ hs rfl))
 rw[hs]
 show wpAny _ _ (BB ((false,Aq a X.env)::AB pos (Ag [] X.env))) _ _ s
 refine Td (thn (ha B4 s σ H _ I h) fun u s2 ⟨x,H2,I2,ru,q2⟩=>Vi ?_)
 unfold ON at q2
 split at q2
 ·rename_i l
  cases ru
  have fp:∀ b∈[s2.heap.objs.size+1,s2.heap.objs.size],FpOk X B4 H2 b:=fun b hb=>by
   have:s2.heap.objs.size<=b:=by
    rcases Nf.mp hb with z | z
    ·rw[z];exact Pr _
    ·have z':b=s2.heap.objs.size:=by simpa using z
     rw[z'];exact M6 _
   exact I2.fpOk this (I2.hok.fresh this)
  rcases q2 with ⟨xs,hl,q2⟩ | ⟨xs,hl,q2⟩
  ·obtain⟨its,rv,pl,hz⟩:=I2.list (SqL.of hl)
   refine fA pl.isList fun h1 he Ec hk=>?_
   refine AT he ?_
   refine⟨s2.heap.objs.size+1,[s2.heap.objs.size+1,s2.heap.objs.size],_,_,H2,rfl,I2.kept (t':=s2.toks) hk,WK (b:=0) (ok:=fun H=>H l=some (.lst xs)) (xs:=xs) (St0:=fun i h=>h.IsListIter s2.heap.objs.size l i) (VI _) ?_ ?_ ?_,⟨⟨.none,he⟩,Ec⟩,fp,q2⟩
   ·intro X' h1 h2 h3 hc i B4 s σ H I ok hn st
    exact h1▸h2▸WN hc I (SqL.of ok) hn (by rw[ok];exact fun z=>nomatch z) st
   ·intro i h st
    obtain⟨o,ho,hc,hd⟩:=st
    exact⟨o,ho,fun v q=>by rw[hd] at q;cases q⟩
   ·intro i h h' st kk
    exact st.at kk
  ·obtain⟨its,rv,pl,hz⟩:=I2.tuple (SqT.of hl)
   refine fz pl fun h1 he Ec hk=>?_
   refine AT he ?_
   refine⟨s2.heap.objs.size+1,[s2.heap.objs.size+1,s2.heap.objs.size],_,_,H2,rfl,I2.kept (t':=s2.toks) hk,WK (b:=0) (ok:=fun H=>H l=some (.tup xs)) (xs:=xs) (St0:=fun i h=>h.IsTupleIter s2.heap.objs.size l i) (VI _) ?_ ?_ ?_,⟨⟨.none,he⟩,Ec⟩,fp,q2⟩
   ·intro X' h1 h2 h3 hc i B4 s σ H I ok hn st
    exact h1▸h2▸TV hc I (SqT.of ok) hn (by rw[ok];exact fun z=>nomatch z) st
   ·intro i h st
    obtain⟨o,ho,hc,hd⟩:=st
    exact⟨o,ho,fun v q=>by rw[hd] at q;cases q⟩
   ·intro i h h' st kk
    exact st.at kk
 ·exact q2.elim
end
end L2
namespace L2
open PySem PySem.Spec PyProof.Rows
structure Dm (P:Aj)(w:Ak)(K:MV)(mg:Str->Option Ac)(base:An)(C:Ab)(m:Str)(k:Nat)(ps:List Str)(sp:Sp):Prop where
 ex:∃(f:Ab) (fd:Aw),Meth K C m f/\Binds K fd ps []/\FnOk P w K mg base CX0 k f fd ps sp
structure Dk (P:Aj)(w:Ak)(K:MV)(mg:Str->Option Ac)(base:An)(C:Ab)(k:Nat)(ps:List Str)(sp:Sp):Prop where
 ex:∃(f:Ab) (fd:Aw),Mk K C f/\Binds K fd ps []/\FnOk P w K mg base CX0 k f fd ps sp
section
variable {X:Cx}{k:Nat}{C:Ab}{ps:List Str}{sp:Sp}{x m:Str}{p pos Ck:Pos}{e o:Av}{es:List Av}{ta:TE}{t:TA}
theorem SS (he:PE X o ta) (c:Cls X.K C) (D:Dm X.prog X.w X.K X.mg X.base C m k ps sp) (hr:Room k X.A) (ha:PA X (e::es) t) (Cn:Ag (e::es) X.env=(false,Aq e X.env)::Ag es X.env:=by rfl) (Cj:(AB pos (Ag es X.env)).any (·.1)=false:=by rfl) (ht:Aq (.Call (.Attribute o m Ck) (e::es) [] pos) X.env=(do
   let ov <- Aq o X.env
   Bk Ck.atName
   let (f,first) <- Bd [ov] (Bo ov m pl)
   BI pos f first (AB pos (Ag (e::es) X.env)) (A8 pos (AR [] X.env))):=by rfl):
  PE X (.Call (.Attribute o m Ck) (e::es) [] pos) (RK C m sp [] E0 ta t):=by
 obtain⟨f,fd,h1,h2,h3⟩:=D.ex
 exact Wb he c h1 h3 hr h2 .nil QI ha Cn Cj ht
theorem Uj (D:Dk X.prog X.w X.K X.mg X.base C k ps sp)(hr:Room (k+1) X.A)(hg:Gl X x)(hm:X.mg x=some (.ref C))(ha:PA X (e::es) t)
  (Do:(x == ("__debug__":Str))=false:=by decide) (he:Ag (e::es) X.env=(false,Aq e X.env)::Ag es X.env:=by rfl) (Cj:(AB pos (Ag es X.env)).any (·.1)=false:=by rfl) :
  PE X (.Call (.Name x p) (e::es) [] pos) (QG C sp [] E0 t):=by
 obtain⟨f,fd,h1,h2,h3⟩:=D.ex
 exact cB h1 h3 hr hg hm h2 .nil QI ha Do he Cj
end
section
variable {σ:St}{H:Hp}{Q:VK}{D:Ends}
theorem Rq (h:ta σ H fun x H1=>∃ a dx fs,x=.ref a/\H1 a=some (.ins C dx fs)/\fs.lookup m=none/\t σ H1 fun vs H2=>sp (x::(vs++[])) H2 Q E):RK C m sp [] E ta t σ H Q:=h
theorem Rr (h1:H a=some (.ins C dx fs)) (h2:fs.lookup m=none) (h:R):∃ a' dx' fs',V.ref a=.ref a'/\H a'=some (.ins C dx' fs')/\fs'.lookup m=none/\R:=⟨a,dx,fs,rfl,h1,h2,h⟩
theorem P9 (h:t σ H fun vs H1=>∀ x dx,H1 x=none->H1 dx=none->dx≠x->sp (.ref x::(vs++[])) (upd (upd H1 dx (.own x)) x (.ins C dx [])) (fun v H2=>v=.non/\Q (.ref x) H2) E):QG C sp [] E t σ H Q:=h
theorem Oj {K:MV}{ta:TE}{f:Str}(h:ta σ H fun x H1=>∃ a C dx fs v,x=.ref a/\H1 a=some (.ins C dx fs)/\Cls K C/\NoAttr K C f/\fs.lookup f=some v/\Q v H1):tFld K ta f σ H Q:=h
theorem P_ {K:MV}{ta tv:TE}{f:Str}(h:tv σ H fun y H1=>ta σ H1 fun x H2=>∃ a C dx fs,x=.ref a/\H2 a=some (.ins C dx fs)/\Cls K C/\NoAttr K C f/\fs.length < 1000/\D.nx σ (upd H2 a (.ins C dx (putF f y fs)))):sFld K ta tv f D σ H:=h
theorem Ol {K:MV}{a C dx:Ab}{fs:List (Str×V)}{f:Str}{v:V}{R:V->Prop}(h1:H a=some (.ins C dx fs))(c:Cls K C)(n:NoAttr K C f)(l:fs.lookup f=some v)(h:R v):∃ a' C' dx' fs' v',V.ref a=.ref a'/\H a'=some (.ins C' dx' fs')/\Cls K C'/\NoAttr K C' f/\fs'.lookup f=some v'/\R v':=⟨a,C,dx,fs,v,rfl,h1,c,n,l,h⟩
theorem Qa {K:MV}{a C dx:Ab}{fs:List (Str×V)}{f:Str}{y:V}{R:Hp->Prop}(h1:H a=some (.ins C dx fs))(c:Cls K C)(n:NoAttr K C f)(l:fs.length < 1000)(h:R (upd H a (.ins C dx (putF f y fs)))) :
  ∃ a' C' dx' fs',V.ref a=.ref a'/\H a'=some (.ins C' dx' fs')/\Cls K C'/\NoAttr K C' f/\fs'.length < 1000/\R (upd H a' (.ins C' dx' (putF f y fs'))):=⟨a,C,dx,fs,rfl,h1,c,n,l,h⟩
end
end L2
namespace L2
open PySem
open Sem (wp)
structure ZA (z TI TO i1 i2:Ab)(f1 f2:List Ab):Prop where
 TIz:TI≠z
 TOz:TO≠z
 i1z:i1≠z
 i2z:i2≠z
 TITO:TI≠TO
 TIi1:TI≠i1
 TIi2:TI≠i2
 TOi1:TO≠i1
 TOi2:TO≠i2
 i12:i1≠i2
 zf1:z∉f1
 zf2:z∉f2
 of1:TO∉f1
 of2:TO∉f2
 i1f2:i1∉f2
 i2f1:i2∉f1
theorem Draws.still {P:Aj}{w:Ak}{A:Am}{it c:Ab}{fp:List Ab}{n i:Nat}{Pv:Nat->Ac->Prop}{St:Nat->An->Prop}{h h':An}(D:Draws P w A it fp n Pv St)(st:St i h)(k:Heap.ExtBut c h h')(hc:c∉fp):St i h' :=
 D.frame _ _ _ st fun b hb o e=>k b o (fun z=>hc (z▸hb)) e
section
variable {prog:Aj}{w:Ak}{A:Am}{E:Ac->Ad->Prop}{s:Ad}
theorem fB {z TI TO i1 i2:Ab}{f1 f2:List Ab}{n1 n2 k1 k2:Nat}{P1 P2:Nat->Ac->Prop}{S1 S2:Nat->An->Prop}{a b:Ac}{Q:Ac->Ad->Prop}
  (D1:Draws prog w A i1 f1 n1 P1 S1) (D2:Draws prog w A i2 f2 n2 P2 S2) (Z:ZA z TI TO i1 i2 f1 f2)
  (hz:Bx s.heap z TI TO .none) (Jr:AW s.heap TI (.ref i1) (.ref i2)) (Js:AW s.heap TO a b) (h1:S1 k1 s.heap) (h2:S2 k2 s.heap) (l1:k1 < n1) (l2:k2 < n2)
  (hQ:∀ x y h' tk,P1 k1 x->P2 k2 y->Bx h' z TI TO (AL s.heap.objs.size)->AW h' TO x y->S1 (k1+1) h'->S2 (k2+1) h'->AW h' s.heap.objs.size x y ->
   (∀ c o,c≠z->c≠TO->c≠i1->c≠i2->s.heap.get? c=some o->h'.get? c=some o)->Q (.ref s.heap.objs.size) { s with heap:=h',toks:=tk }) :
  wpAny (Ai prog w) A (Builtin.«zip.__next__» ⟨[.ref z],[]⟩) (fun fin s'=>∃ v,fin=.done (.ret v)/\Q v s') E s:=by
 show wpAny _ _ (field (.ref z) 2 >>= _) _ _ _
 refine Aa (Au hz rfl (x:=.bool false) rfl ?_)
 show wpAny _ _ (field (.ref z) 3 >>= _) _ _ _
 refine Aa (Au hz rfl (x:=.ref TI) rfl (Aa (AD Jr rfl ?_)))
 show wpAny _ _ (Z9 (.ref z) >>= _) _ _ _
 refine Aa ?_
 unfold Z9
 refine Aa (Au hz rfl (x:=.none) rfl (Af ?_))
 simp only[if_true]
 refine Aa (BX (Aa (Au hz rfl (x:=.ref TO) rfl (Aa (AO hz (by simp) fun g1 zg1 b1=>?_)))))
 have zg1':Bx g1 z TI TO .ellipsis:=zg1
 refine Aa ?_
 simp only[List.zipIdx_cons,List.zipIdx_nil,VC,List.forIn_nil]
 refine Aa (Aa (A1 ?_))
 show wpAny _ _ (SK (.ref i1) >>= _) _ _ _
 refine Aa (D1.item k1 _ _ _ l1 (Draws.still D1 h1 b1.extBut Z.zf1) fun x g2 tk1 hx h1' b2=>Af ?_)
 have to2:AW g2 TO a b:=b2.extBut _ _ Z.TOi1 (b1.extBut _ _ Z.TOz Js)
 refine Aa (AD to2 rfl (Aa (Be to2 fun g3 to3 b3=>?_)))
 have to3':AW g3 TO x b:=to3
 refine Aa (A6 (Af ?_))
 refine Aa (Aa (A1 ?_))
 show wpAny _ _ (SK (.ref i2) >>= _) _ _ _
 refine Aa (D2.item k2 _ _ _ l2 (Draws.still D2 (Draws.still D2 (Draws.still D2 h2 b1.extBut Z.zf2) b2.extBut Z.i1f2) b3.extBut Z.of2) fun y g4 tk2 hy h2' b4=>Af ?_)
 have to4:AW g4 TO x b:=b4.extBut _ _ Z.TOi2 to3'
 refine Aa (AD to4 rfl (Aa (Be to4 fun g5 to5 b5=>?_)))
 have to5':AW g5 TO x y:=to5
 refine Aa (A6 (Af (Af ?_)))
 refine Aa (AD to5' rfl (Aa (wpAny_newTuple ?_)))
 have sz:g5.objs.size=s.heap.objs.size:=by rw[b5.1,b4.1,b3.1,b2.1,b1.1]
 have zg5:Bx g5 z TI TO .ellipsis:=b5.extBut _ _ Z.TOz.symm (b4.extBut _ _ Z.i2z.symm (b3.extBut _ _ Z.TOz.symm (b2.extBut _ _ Z.i1z.symm zg1')))
 have kp:∀ c o,c≠z->c≠TO->c≠i1->c≠i2->s.heap.get? c=some o->g5.get? c=some o:=fun c o c1 c2 c3 c4 e =>
  b5.extBut _ _ c2 (b4.extBut _ _ c4 (b3.extBut _ _ c2 (b2.extBut _ _ c3 (b1.extBut _ _ c1 e))))
 have s1:S1 (k1+1) g5:=Draws.still D1 (Draws.still D1 (Draws.still D1 h1' b3.extBut Z.of1) b4.extBut Z.i2f1) b5.extBut Z.of1
 have s2:S2 (k2+1) g5:=Draws.still D2 h2' b5.extBut Z.of2
 have zlt:z < g5.objs.size:=Nm zg5
 show wpAny _ _ (j7 (.ref z) (.ref g5.objs.size) >>= _) _ _ _
 refine Aa ?_
 unfold j7
 have zg6:Bx (g5.push { cls:=.type "tuple",data:=.seq #[x,y] }) z TI TO .ellipsis:=Ng _ zg5
 refine Aa (AO zg6 (by simp) fun g7 zg7 b7=>?_)
 have zg7':Bx g7 z TI TO (AL g5.objs.size):=zg7
 refine AO zg7' (by simp) fun g8 zg8 b8=>?_
 have zg8':Bx g8 z TI TO (AL g5.objs.size):=zg8
 have up:∀ c o,c≠z->g5.get? c=some o->g8.get? c=some o:=fun c o c1 e=>b8.extBut _ _ c1 (b7.extBut _ _ c1 (Ng _ e))
 have tp:AW g8 g5.objs.size x y:=b8.extBut _ _ (Ta zlt) (b7.extBut _ _ (Ta zlt) (NE _ rfl))
 rw[sz] at zg8' tp
 refine Af ⟨_,rfl,?_⟩
 show Q (.ref g5.objs.size) _
 rw[sz]
 exact hQ x y g8 _ hx hy zg8' (up _ _ Z.TOz to5') (D1.frame _ _ _ s1 fun c hc o e=>up c o (fun q=>Z.zf1 (q▸hc)) e) (D2.frame _ _ _ s2 fun c hc o e=>up c o (fun q=>Z.zf2 (q▸hc)) e) tp fun c o c1 c2 c3 c4 e=>up c o c1 (kp c o c1 c2 c3 c4 e)
theorem fD {z TI TO i1 i2:Ab}{f1 f2:List Ab}{n1 n2 k:Nat}{P1 P2:Nat->Ac->Prop}{S1 S2:Nat->An->Prop}{a b:Ac}{Q:Fin->Ad->Prop}
  (D1:Draws prog w A i1 f1 n1 P1 S1) (D2:Draws prog w A i2 f2 n2 P2 S2) (Z:ZA z TI TO i1 i2 f1 f2)
  (hz:Bx s.heap z TI TO .none) (Jr:AW s.heap TI (.ref i1) (.ref i2)) (Js:AW s.heap TO a b) (h1:S1 k s.heap) (h2:S2 k s.heap) (hk:k=min n1 n2)
  (hE:∀ h' e tk,(∀ c o,c≠z->c≠TO->c≠i1->c≠i2->s.heap.get? c=some o->h'.get? c=some o)->(∃ o,h'.get? e=some o/\o.cls=.type "StopIteration")->E (.ref e) { s with heap:=h',toks:=tk }) :
  wpAny (Ai prog w) A (Builtin.«zip.__next__» ⟨[.ref z],[]⟩) Q E s:=by
 show wpAny _ _ (field (.ref z) 2 >>= _) _ _ _
 refine Aa (Au hz rfl (x:=.bool false) rfl ?_)
 show wpAny _ _ (field (.ref z) 3 >>= _) _ _ _
 refine Aa (Au hz rfl (x:=.ref TI) rfl (Aa (AD Jr rfl ?_)))
 show wpAny _ _ (Z9 (.ref z) >>= _) _ _ _
 refine Aa ?_
 unfold Z9
 refine Aa (Au hz rfl (x:=.none) rfl (Af ?_))
 simp only[if_true]
 refine Aa (BX (Aa (Au hz rfl (x:=.ref TO) rfl (Aa (AO hz (by simp) fun g1 zg1 b1=>?_)))))
 have zg1':Bx g1 z TI TO .ellipsis:=zg1
 refine Aa ?_
 simp only[List.zipIdx_cons,List.zipIdx_nil,VC,List.forIn_nil]
 refine Aa (Aa (A1 ?_))
 show wpAny _ _ (SK (.ref i1) >>= _) _ _ _
 have Kq:=Draws.still D1 h1 b1.extBut Z.zf1
 by_cases c:n1<=n2
 ·have e:k=n1:=by omega
  subst e
  refine Aa (D1.done _ _ _ Kq fun g2 e b2 he=>?_)
  obtain⟨oe,Go,Hi⟩:=he
  have zg2:Bx g2 z TI TO .ellipsis:=b2 _ _ Z.i1z.symm zg1'
  have Jt:e≠z:=fun x=>by subst x;rw[zg2] at Go;cases Go;simp at Hi
  exact AO zg2 (by simp) fun g3 _ b3=>hE g3 e _ (fun c o c1 _ c3 _ x=>b3.extBut _ _ c1 (b2 _ _ c3 (b1.extBut _ _ c1 x))) ⟨oe,b3.extBut _ _ Jt Go,Hi⟩
 ·have e:k=n2:=by omega
  subst e
  refine Aa (D1.item k _ _ _ (by omega) Kq fun x g2 tk1 hx h1' b2=>Af ?_)
  have to2:AW g2 TO a b:=b2.extBut _ _ Z.TOi1 (b1.extBut _ _ Z.TOz Js)
  refine Aa (AD to2 rfl (Aa (Be to2 fun g3 to3 b3=>?_)))
  refine Aa (A6 (Af ?_))
  refine Aa (Aa (A1 ?_))
  show wpAny _ _ (SK (.ref i2) >>= _) _ _ _
  refine Aa (D2.done _ _ _ (Draws.still D2 (Draws.still D2 (Draws.still D2 h2 b1.extBut Z.zf2) b2.extBut Z.i1f2) b3.extBut Z.of2) fun g4 e b4 he=>?_)
  obtain⟨oe,Go,Hi⟩:=he
  have zg4:Bx g4 z TI TO .ellipsis:=b4 _ _ Z.i2z.symm (b3.extBut _ _ Z.TOz.symm (b2.extBut _ _ Z.i1z.symm zg1'))
  have Jt:e≠z:=fun x=>by subst x;rw[zg4] at Go;cases Go;simp at Hi
  exact AO zg4 (by simp) fun g5 _ b5=>hE g5 e _ (fun c o c1 c2 c3 c4 x=>b5.extBut _ _ c1 (b4 _ _ c4 (b3.extBut _ _ c2 (b2.extBut _ _ c3 (b1.extBut _ _ c1 x))))) ⟨oe,b5.extBut _ _ Jt Go,Hi⟩
end
theorem XH {prog:Aj}{w:Ak}{A:Am}{z TI TO i1 i2:Ab}{f1 f2:List Ab}{n1 n2:Nat}{P1 P2:Nat->Ac->Prop}{S1 S2:Nat->An->Prop}
  (D1:Draws prog w A.in1 i1 f1 n1 P1 S1) (D2:Draws prog w A.in1 i2 f2 n2 P2 S2) (Z:ZA z TI TO i1 i2 f1 f2) (m1:i1∈f1) (m2:i2∈f2) :
  WalksT prog w A z (z::TI::TO::(f1++f2)) [z,TO,i1,i2] (min n1 n2)
   (fun i vals=>∃ x y,P1 i x/\P2 i y/\vals=#[x,y])
   (fun i h=>Bx h z TI TO .none/\AW h TI (.ref i1) (.ref i2)/\(∃ a b,AW h TO a b)/\S1 i h/\S2 i h)
   (fun i T h=>Bx h z TI TO (AL T)/\AW h TI (.ref i1) (.ref i2)/\(∃ a b,AW h TO a b)/\S1 (i+1) h/\S2 (i+1) h/\T≠z/\T≠TO/\T≠i1/\T≠i2) where
 sub:=fun c hc=>by
  simp only[Nf,Qj,or_false] at hc
  rcases hc with rfl | rfl | rfl | rfl
  ·simp
  ·simp
  ·simp[m1]
  ·simp[m2]
 frame:=fun i h h' st k=>by
  obtain⟨a1,a2,⟨a,b,a3⟩,a4,a5⟩:=st
  exact⟨k z (by simp) _ a1,k TI (by simp) _ a2,⟨a,b,k TO (by simp) _ a3⟩,D1.frame _ _ _ a4 fun c hc o e=>k c (by simp[hc]) o e,D2.frame _ _ _ a5 fun c hc o e=>k c (by simp[hc]) o e⟩
 item:=fun i s Q E hi st hQ=>by
  obtain⟨a1,a2,⟨a,b,a3⟩,a4,a5⟩:=st
  have hT:s.TypeIs (.ref z) "zip":=⟨_,a1,rfl⟩
  have lt:∀{c o},s.heap.get? c=some o->s.heap.objs.size≠c:=fun e=>Ta (Nm e)
  unfold pyNext
  refine Aa (BV (AJ (name:=M' "__next__") hT Z7 (A0 Z7 hT F.entry_zip_next
   (fB D1 D2 Z a1 a2 a3 a4 a5 (by omega) (by omega) fun x y h' tk hx hy c1 c2 c3 c4 c5 hk=>Af ?_) (F.args_zip_next_1 _))))
  exact hQ s.heap.objs.size #[x,y] h' tk ⟨x,y,hx,hy,rfl⟩ (M6 _) ⟨_,c5,rfl,_,rfl⟩
   ⟨c1,hk _ _ Z.TIz Z.TITO Z.TIi1 Z.TIi2 a2,⟨_,_,c2⟩,c3,c4,lt a1,lt a3,(by obtain⟨_,e⟩:=D1.live _ _ a4;exact lt e),(by obtain⟨_,e⟩:=D2.live _ _ a5;exact lt e)⟩
   fun c o hc e=>hk c o (fun q=>hc (by simp[q])) (fun q=>hc (by simp[q])) (fun q=>hc (by simp[q])) (fun q=>hc (by simp[q])) e
 go:=fun elts k pos i T s Q E hm hQ=>by
  obtain⟨a1,a2,⟨a,b,a3⟩,a4,a5,_⟩:=hm
  exact wpAny_letOwnedTupleGo_zip a1 fun h' z' b'=>hQ h' ⟨z',b'.extBut _ _ Z.TIz a2,⟨a,b,b'.extBut _ _ Z.TOz a3⟩,Draws.still D1 a4 b'.extBut Z.zf1,Draws.still D2 a5 b'.extBut Z.zf2⟩
   fun c o hc e=>b'.extBut _ _ (fun q=>hc (by simp[q])) e
 apart:=fun i T h hm hT=>by
  obtain⟨_,_,_,_,_,t1,t2,t3,t4⟩:=hm
  simp only[Nf,Qj,or_false] at hT
  rcases hT with q | q | q | q
  ·exact t1 q
  ·exact t2 q
  ·exact t3 q
  ·exact t4 q
 done:=fun s Q E st hQ=>by
  obtain⟨a1,a2,⟨a,b,a3⟩,a4,a5⟩:=st
  have hT:s.TypeIs (.ref z) "zip":=⟨_,a1,rfl⟩
  unfold pyNext
  refine Aa (BV (AJ (name:=M' "__next__") hT Z7 (A0 Z7 hT F.entry_zip_next
   (fD D1 D2 Z a1 a2 a3 a4 a5 rfl fun h' e tk hk he=>?_) (F.args_zip_next_1 _))))
  obtain⟨o,ho,hc⟩:=he
  refine Aa (wpAny_isInstance (T:="StopIteration") (b:=true) ⟨o,ho,hc⟩ isSubtype_stop ?_)
  exact Af (hQ _ _ fun c o hc e=>hk c o (fun q=>hc (by simp[q])) (fun q=>hc (by simp[q])) (fun q=>hc (by simp[q])) (fun q=>hc (by simp[q])) e)
 self:=fun i s Q E st hQ=>BA st.1 hQ
noncomputable abbrev zs1 (h:An)(x:Str)(t:Tok):An:=h.push { cls:=.type (AN x),data:=.fields #[.str x t,.int 0 0] }
noncomputable abbrev zs2 (h:An)(x:Str)(t:Tok)(l:Ab):An:=(zs1 h x t).push { cls:=.type "tuple_iterator",data:=.fields #[.ref l,.int 0 0] }
noncomputable abbrev zs3 (h:An)(x:Str)(t:Tok)(l:Ab):An:=(zs2 h x t l).push { cls:=.type "tuple",data:=.seq #[.ref h.objs.size,.ref (zs1 h x t).objs.size] }
noncomputable abbrev zs4 (h:An)(x:Str)(t:Tok)(l:Ab):An:=(zs3 h x t l).push { cls:=.type "tuple",data:=.seq #[.none,.none] }
noncomputable abbrev zs5 (h:An)(x:Str)(t:Tok)(l:Ab):An:=(zs4 h x t l).push { cls:=.type "zip",data:=.fields #[.none,.bool false,.bool false,.ref (zs2 h x t l).objs.size,.ref (zs3 h x t l).objs.size] }
theorem fE {h:An}{l:Ab}{ys:Array Ac}(hl:h.IsTuple l ys)(o:Obj):(h.push o).IsTuple l ys:=by
 obtain⟨u,e,r⟩:=hl
 exact⟨u,Ng _ e,r⟩
set_option maxHeartbeats 4000000 in
theorem fF (x:Str)(t:Tok)(l:Ab)(ys:Array Ac) :
  Meets (Builtin.«zip.__new__» ⟨[.type "zip",.str x t,.ref l],[]⟩) (fun _ R s=>s.heap.IsTuple l ys /\
   R (.ok (.ret (.ref (zs4 s.heap x t l).objs.size))) { s with heap:=zs5 s.heap x t l }) :=
 .of_wp fun prog w A R s h=>by
  obtain⟨hp,g,d,tk,os⟩:=s;obtain⟨hl,h⟩:=h
  have E8:=sub_zip
  have hL:ba (VT ⟨hp.push { cls:=.type (AN x),data:=.fields #[.str x t,.int 0 0] },g,d,tk,os⟩) l ys:=fE hl _
  wp_walk using wpAny_pyIter_strU,AF hL
  exact⟨_,rfl,h⟩
section
variable {prog:Aj}{w:Ak}{A:Am}{E:Ac->Ad->Prop}{s:Ad}
theorem fG (hl:s.heap.IsTuple l ys) (h:∀ h',Bx h' (s.heap.objs.size+4) (s.heap.objs.size+2) (s.heap.objs.size+3) .none->AW h' (s.heap.objs.size+2) (.ref s.heap.objs.size) (.ref (s.heap.objs.size+1)) ->
   AW h' (s.heap.objs.size+3) .none .none->h'.IsStrIter s.heap.objs.size (AN x) x t 0->h'.IsTupleIter (s.heap.objs.size+1) l 0 ->
   (∀ c o,s.heap.get? c=some o->h'.get? c=some o)->Q (.ref (s.heap.objs.size+4)) { s with heap:=h' }):
  wpAny (Ai prog w) A (call (.type "zip") [.str x t,.ref l]) Q E s:=by
 refine callType_new F.called_zip (by decide) (F.typeCall_zip_2 _ _) (F.newCall_zip_2 _ _) (fun obj=>F.args_object_init_3 obj _ _) F.entry_zip_new (fF x t l ys) ⟨hl,?_⟩
 have z1:(zs1 s.heap x t).objs.size=s.heap.objs.size+1:=OY ..
 have z2:(zs2 s.heap x t l).objs.size=s.heap.objs.size+2:=by rw[OY,z1]
 have z3:(zs3 s.heap x t l).objs.size=s.heap.objs.size+3:=by rw[OY,z2]
 have z4:(zs4 s.heap x t l).objs.size=s.heap.objs.size+4:=by rw[OY,z3]
 have p5:(zs5 s.heap x t l).get? (zs4 s.heap x t l).objs.size=some _:=NE _ rfl
 have p4:(zs5 s.heap x t l).get? (zs3 s.heap x t l).objs.size=some _:=Ng _ (NE _ rfl)
 have p3:(zs5 s.heap x t l).get? (zs2 s.heap x t l).objs.size=some _:=Ng _ (Ng _ (NE _ rfl))
 have p2:(zs5 s.heap x t l).get? (zs1 s.heap x t).objs.size=some _:=Ng _ (Ng _ (Ng _ (NE _ rfl)))
 have p1:(zs5 s.heap x t l).get? s.heap.objs.size=some _:=Ng _ (Ng _ (Ng _ (Ng _ (NE _ rfl))))
 show _/\_
 rw[z2,z3,z4] at p5
 rw[z1,z2] at p3
 rw[z3] at p4
 rw[z1] at p2
 rw[z4]
 exact⟨⟨_,p5,rfl⟩,h _ p5 p3 p4 ⟨_,p1,rfl,rfl⟩ ⟨_,p2,rfl,rfl⟩ fun c o e=>Ng _ (Ng _ (Ng _ (Ng _ (Ng _ e))))⟩
end
end L2
namespace L2
open PySem PySem.Spec PyProof.Rows
noncomputable def Izp (xs ys:List V)(ok:Hp->Prop):It :=
 ⟨fun i H=>ok H/\i < xs.length/\i < ys.length,fun i H x H'=>∃ T u v,H T=none/\xs[i]?=some u/\ys[i]?=some v/\x=.ref T/\H'=upd H T (PrX T [u,v]),fun i H=>ok H/\i=min xs.length ys.length⟩
theorem fH {P:Aj}{w:Ak}{K:MV}{elts:List Av}{k:Nat}{pos:Pos}{z TI TO i1 i2:Ab}{xs ys:List V}{ok:Hp->Prop}{S1 S2:Nat->An->Prop}
  (n1:TI≠z) (n2:TO≠z) (n3:i1≠z) (n4:i2≠z) (n5:TI≠TO) (n6:TI≠i1) (n7:TI≠i2) (n8:TO≠i1) (n9:TO≠i2) (n10:i1≠i2)
  (E_:∀(X:Cx),X.prog=P->X.w=w->X.K=K->X.calm=true->∀(i:Nat) (B4:List (Ab×Obj)) (s:Ad) (σ:St) (H:Hp),Inv X B4 σ H s->ok H->H i1=none->S1 i s.heap->PV P w X.A.in1 i1 xs S1 H i s.heap)
  (EY:∀(X:Cx),X.prog=P->X.w=w->X.K=K->X.calm=true->∀(i:Nat) (B4:List (Ab×Obj)) (s:Ad) (σ:St) (H:Hp),Inv X B4 σ H s->ok H->H i2=none->S2 i s.heap->PV P w X.A.in1 i2 ys S2 H i s.heap)
  (o1:∀ i h,S1 i h->∃ o,h.get? i1=some o/\∀ v,o.data≠.cell v) (o2:∀ i h,S2 i h->∃ o,h.get? i2=some o/\∀ v,o.data≠.cell v)
  (k1:∀ i h h',S1 i h->(∀ o,h.get? i1=some o->h'.get? i1=some o)->S1 i h') (k2:∀ i h h',S2 i h->(∀ o,h.get? i2=some o->h'.get? i2=some o)->S2 i h') :
  Turn P w K (.Tuple elts k pos) (Izp xs ys ok) [z,TI,TO,i1,i2] z (fun i h=>Bx h z TI TO .none/\AW h TI (.ref i1) (.ref i2)/\(∃ a b,AW h TO a b)/\S1 i h/\S2 i h) where
 mem:=by simp
 obj:=fun i h st c hc=>by
  obtain⟨a1,a2,⟨a,b,a3⟩,a4,a5⟩:=st
  simp only[Nf,Qj,or_false] at hc
  rcases hc with q | q | q | q | q <;> rw[q]
  ·exact⟨_,a1,fun v q=>by have q':Data.fields _=Data.cell v:=q;cases q'⟩
  ·exact⟨_,a2,fun v q=>by have q':Data.seq _ _=Data.cell v:=q;cases q'⟩
  ·exact⟨_,a3,fun v q=>by have q':Data.seq _ _=Data.cell v:=q;cases q'⟩
  ·exact o1 i h a4
  ·exact o2 i h a5
 keep:=fun i h h' st kk=>by
  obtain⟨a1,a2,⟨a,b,a3⟩,a4,a5⟩:=st
  exact⟨kk z (by simp) _ a1,kk TI (by simp) _ a2,⟨a,b,kk TO (by simp) _ a3⟩,k1 i h h' a4 fun o q=>kk i1 (by simp) o q,k2 i h h' a5 fun o q=>kk i2 (by simp) o q⟩
 item:=by
  intro X hP hw hK hc i B4 s σ H E I hf st hg
  subst hP hw hK
  obtain⟨a1,a2,⟨a,b,a3⟩,a4,a5⟩:=st
  obtain⟨hok,Eg,GJ⟩:=hg
  obtain⟨f1,P1,T1,D1,m1,Dv,st1,r1,bk1⟩:=E_ X rfl rfl rfl hc i B4 s σ H I hok (hf i1 (by simp)).1 a4
  obtain⟨f2,P2,T2,D2,m2,Dw,st2,r2,bk2⟩:=EY X rfl rfl rfl hc i B4 s σ H I hok (hf i2 (by simp)).1 a5
  have out1:∀ c∈[z,TI,TO,i1,i2],c≠i1->c∉f1:=fun c hc hn q=>by
   rcases Dv c q with e | e
   ·exact hn e
   ·exact e (hf c hc).1
  have out2:∀ c∈[z,TI,TO,i1,i2],c≠i2->c∉f2:=fun c hc hn q=>by
   rcases Dw c q with e | e
   ·exact hn e
   ·exact e (hf c hc).1
  have Z:ZA z TI TO i1 i2 f1 f2:=⟨n1,n2,n3,n4,n5,n6,n7,n8,n9,n10,out1 z (by simp) n3.symm,out2 z (by simp) n4.symm,out1 TO (by simp) n8,out2 TO (by simp) n9,out2 i1 (by simp) n10,out1 i2 (by simp) n10.symm⟩
  have W:=XH D1 D2 Z m1 m2
  refine W.item i s _ E (by omega) ⟨a1,a2,⟨a,b,a3⟩,st1,st2⟩ fun T vals h1 tk Jp hT Gk hm hk=>⟨.ref T,rfl,?_⟩
  obtain⟨x,y,hx,hy,rfl⟩:=Jp
  obtain⟨u,hu,ru⟩:=r1 _ _ hx
  obtain⟨v,hv,rv⟩:=r2 _ _ hy
  have apart:=W.apart _ _ _ hm
  refine W.go elts k pos i T _ _ E hm fun h2 st2 FR=>?_
  have sub:∀ c,c∉[z,TI,TO,i1,i2]->c∉[z,TO,i1,i2]:=fun c hc q=>hc (by simp only[Nf,Qj,or_false] at q ⊢;rcases q with q | q | q | q <;> simp[q])
  have kk:∀ c u,c∉[z,TI,TO,i1,i2]->s.heap.get? c=some u->h2.get? c=some u:=fun c u hc q=>FR c u (sub c hc) (hk c u (sub c hc) q)
  have tup2:IsTup h2 T #[x,y]:=by
   obtain⟨o,ho,r⟩:=Gk
   exact⟨o,FR T o apart ho,r⟩
  refine⟨.ref T,upd H T (PrX T [u,v]),I.turnedNew (t':=tk) hT kk hf ?_,rfl,⟨T,u,v,I.hok.fresh hT,hu,hv,rfl,rfl⟩,?_,?_⟩
  ·exact PrX.ok ⟨by show 2<=Ae;decide,[x,y],.cons ru (.cons rv .nil),tup2⟩
  ·obtain⟨c1,c2,c3,c4,c5⟩:=st2
   exact⟨c1,c2,c3,bk1 _ _ c4,bk2 _ _ c5⟩
  ·intro c hc
   have Cz:c < s.heap.objs.size:=by
    simp only[Nf,Qj,or_false] at hc
    rcases hc with q | q | q | q | q <;> rw[q]
    ·exact Nm a1
    ·exact Nm a2
    ·exact Nm a3
    ·obtain⟨o,ho,_⟩:=o1 i _ a4;exact Nm ho
    ·obtain⟨o,ho,_⟩:=o2 i _ a5;exact Nm ho
   rw[MR (NB (N6 Cz hT))]
   exact(hf c hc).1
 done:=by
  intro X hP hw hK hc i B4 s σ H E I hf st hg
  subst hP hw hK
  obtain⟨a1,a2,⟨a,b,a3⟩,a4,a5⟩:=st
  obtain⟨hok,rfl⟩:=hg
  obtain⟨f1,P1,T1,D1,m1,Dv,st1,r1,bk1⟩:=E_ X rfl rfl rfl hc _ B4 s σ H I hok (hf i1 (by simp)).1 a4
  obtain⟨f2,P2,T2,D2,m2,Dw,st2,r2,bk2⟩:=EY X rfl rfl rfl hc _ B4 s σ H I hok (hf i2 (by simp)).1 a5
  have out1:∀ c∈[z,TI,TO,i1,i2],c≠i1->c∉f1:=fun c hc hn q=>by
   rcases Dv c q with e | e
   ·exact hn e
   ·exact e (hf c hc).1
  have out2:∀ c∈[z,TI,TO,i1,i2],c≠i2->c∉f2:=fun c hc hn q=>by
   rcases Dw c q with e | e
   ·exact hn e
   ·exact e (hf c hc).1
  have Z:ZA z TI TO i1 i2 f1 f2:=⟨n1,n2,n3,n4,n5,n6,n7,n8,n9,n10,out1 z (by simp) n3.symm,out2 z (by simp) n4.symm,out1 TO (by simp) n8,out2 TO (by simp) n9,out2 i1 (by simp) n10,out1 i2 (by simp) n10.symm⟩
  have sub:∀ c,c∉[z,TI,TO,i1,i2]->c∉[z,TO,i1,i2]:=fun c hc q=>hc (by simp only[Nf,Qj,or_false] at q ⊢;rcases q with q | q | q | q <;> simp[q])
  exact(XH D1 D2 Z m1 m2).done s _ E ⟨a1,a2,⟨a,b,a3⟩,st1,st2⟩ fun h1 tk hk=>⟨rfl,I.turnedL (fun c u hc q=>hk c u (sub c hc) q) hf⟩
 self:=fun A i s Q E st q=>BA st.1 q
theorem zn1 {n i j:Nat}(h:i≠j):n+i≠n+j:=by omega
theorem zn2 (h:0≠j):n≠n+j:=by omega
theorem zn3 (h:0≠j):n+j≠n:=by omega
section
variable {X:Cx}
def zpIt (R:It->Hp->Prop):V->V->Hp->Prop:=fun x y H1=>match x,y with
 | .str z,.ref a=>∃ ys,H1 a=some (.tup ys)/\R (Izp (chs z) ys fun H=>H a=some (.tup ys)) H1
 | _,_=>False
def iZip (ta tb:TE):TI:=fun σ H R=>ta σ H fun x H1=>tb σ H1 fun y H2=>zpIt R x y H2
theorem pi_zip (hg:Gl X "zip") (hm:X.mg "zip"=none) (ha:PE X a ta) (hb:PE X b tb) (hs:Ag [a,b] X.env=(false,Aq a X.env)::Ag [b] X.env:=by rfl) (D6:Ag [b] X.env=[(false,Aq b X.env)]:=by rfl):
  PI X (.Tuple elts k tpos) (.Call (.Name "zip" p) [a,b] [] pos) (iZip ta tb):=by
 intro B4 s σ H R I h
 refine Call_ (Ri I hg hm (by decide +kernel:AK "zip"=some (.type "zip")) (Vh ?_ hs (by rw[D6];rfl)))
 rw[hs,D6]
 show wpAny _ _ (BB ((false,Aq a X.env)::AB pos [(false,Aq b X.env)])) _ _ s
 refine Td (thn (ha B4 s σ H _ I h) fun u s1 hI9=>?_)
 obtain⟨x,H1,I1,ru,q1⟩:=hI9
 show wpAny _ _ (BB ((false,Aq b X.env)::[])) _ _ s1
 refine Td (thn (hb B4 s1 σ H1 _ I1 q1) fun u2 s2 ⟨y,H2,I2,ru2,q2⟩=>Vi ?_)
 have q2:zpIt R x y H2:=q2
 obtain⟨z,l,rfl,rfl⟩:∃ z l,x=.str z/\y=.ref l:=by
  unfold zpIt at q2
  split at q2
  ·exact⟨_,_,rfl,rfl⟩
  ·exact q2.elim
 obtain⟨t,rfl⟩:=ru
 cases ru2
 obtain⟨ys,hl,q2⟩:=q2
 obtain⟨its,rv,pl,hz⟩:=I2.tuple (SqT.of hl)
 refine fG pl fun h1 c1 c2 c3 c4 c5 hk=>?_
 refine BA c1 ?_
 refine⟨_,[_,_,_,_,_],_,_,H2,rfl,I2.kept (t':=s2.toks) hk,fH (z:=s2.heap.objs.size+4) (TI:=s2.heap.objs.size+2) (TO:=s2.heap.objs.size+3) (i1:=s2.heap.objs.size) (i2:=s2.heap.objs.size+1) (ok:=fun H=>H l=some (.tup ys)) (xs:=chs z) (ys:=ys)
  (S1:=fun i h=>h.IsStrIter s2.heap.objs.size (AN z) z t i) (S2:=fun i h=>h.IsTupleIter (s2.heap.objs.size+1) l i) (zn1 (by decide)) (zn1 (by decide)) (zn2 (by decide)) (zn1 (by decide)) (zn1 (by decide)) (zn3 (by decide)) (zn1 (by decide)) (zn3 (by decide)) (zn1 (by decide)) (zn2 (by decide)) ?_ ?_ ?_ ?_ ?_ ?_,⟨c1,c2,⟨_,_,c3⟩,c4,c5⟩,?_,q2⟩
 ·intro X' h1 h2 h3 hc i B4 s σ H I _ _ st
  exact h1▸h2▸WL (A:=X'.A.in1) (show X'.A.in1.handled=none from I.ok.hd hc) st
 ·intro X' h1 h2 h3 hc i B4 s σ H I ok hn st
  exact h1▸h2▸TV hc I (SqT.of ok) hn (by rw[ok];exact fun z=>nomatch z) st
 ·intro i h st
  obtain⟨o,ho,hc,hd⟩:=st
  exact⟨o,ho,fun v q=>by rw[hd] at q;cases q⟩
 ·intro i h st
  obtain⟨o,ho,hc,hd⟩:=st
  exact⟨o,ho,fun v q=>by rw[hd] at q;cases q⟩
 ·intro i h h' st kk
  obtain⟨o,ho,r⟩:=st
  exact⟨o,kk o ho,r⟩
 ·intro i h h' st kk
  exact st.at kk
 ·intro c hc
  have Ju:s2.heap.objs.size<=c:=by
   simp only[Nf,Qj,or_false] at hc
   rcases hc with q | q | q | q | q <;> rw[q] <;> first | exact Nat.le_add_right _ _ | exact M6 _
  exact I2.fpOk Ju (I2.hok.fresh Ju)
end
theorem fJ (n:Nat) (hn:n=min xs.length ys.length) (Pv:Nat->List V->St->Hp->Prop) (hok:∀ i B6 σ H,i<=n->Pv i B6 σ H->ok H) (h0:Pv 0 [] σ0 H0) (hp:∀ i B6 σ H,Pv i B6 σ H->H p=some (.lst B6)/\B6.length<=i) (hz:n<=Ae) (hs:∀ i u v B6 σ H T,xs[i]?=some u->ys[i]?=some v->Pv i B6 σ H->H T=none->g (.ref T) σ (upd H T (PrX T [u,v])) fun σ3 H3=>tc σ3 H3 fun bb H4 =>
   if bb=true then te σ3 H4 fun v H5=>H5 p=some (.lst B6)/\Pv (i+1) (B6++[v]) σ3 (upd H5 p (.lst (B6++[v]))) else Pv (i+1) B6 σ3 H4) (hd:∀ B6 σ H,Pv n B6 σ H->Q (.ref p) H):RL (Izp xs ys ok) p g tc te Q σ0 H0:=by
 refine⟨fun i m B6 σ H=>m=n - i/\i<=n/\Pv i B6 σ H,⟨n,by simp,NA _,h0⟩,fun i m B6 σ' H' w=>?_⟩
 obtain⟨rfl,hi,q⟩:=w
 obtain⟨q1,q2⟩:=hp i B6 σ' H' q
 have ho:=hok i B6 σ' H' hi q
 refine⟨q1,?_⟩
 by_cases Cz:i < n
 ·refine .inr ⟨⟨ho,by omega,by omega⟩,by omega,Pv (i+1),fun a' σ3 H3 k=>⟨n - (i+1),by omega,rfl,Cz,k⟩,fun x H2 y=>?_⟩
  obtain⟨T,u,v,hT,hu,hv,rfl,rfl⟩:=y
  exact hs i u v B6 σ' H' T hu hv q hT
 ·have e:i=n:=by omega
  subst e
  exact .inl ⟨⟨ho,hn⟩,hd B6 σ' H' q⟩
noncomputable def ints?:List V->Option (List Int)
 | []=>some []
 | .int i::r=>(ints? r).map (i::·)
 | _=>none
def fBest (le:Int->Int->Prop):List V->Hp->VK->Prop:=fun xs H Q=>match xs with
 | [.ref p]=>(match tupR H p with
  | some ys=>(match ints? ys with
   | some ns=>ns≠[]/\∀ m,m∈ns->(∀ n∈ns,le n m)->Q (.int m) H
   | none=>False)
  | none=>False)
 | _=>False
section
variable {X:Cx}
def fIntS:List V->Hp->VK->Prop:=fun xs H Q=>match xs with
 | [.int i]=>Q (.int i) H
 | [.bl b]=>Q (.int (if b then 1 else 0)) H
 | [.str z]=>∃ n,af z=some n/\z.length<=640/\Q (.int n) H
 | _=>False
theorem Sb:CallR X (.type "int") fIntS:=fun B4 s σ H xs us Q I r h=>by
 unfold fIntS at h
 split at h
 ·exact QQ B4 s σ H _ us Q I r h
 ·exact QQ B4 s σ H _ us Q I r h
 ·obtain⟨n,hn,hl,q⟩:=h
  obtain⟨u,rfl,t,rfl⟩:=Op r
  exact PySem.W.KIN.call_text hn hl ⟨.int n,H,I.tok _,⟨_,rfl⟩,q⟩
 ·exact h.elim
end
end L2
namespace L2
open PySem
theorem fK:∀ d:Nat,d < 10->af ⟨#[48+d]⟩=some (d:Int):=by decide +kernel
theorem XI:∀ d:Nat,d < 10->(toString (d:Int):Str)=⟨#[48+d]⟩:=by decide +kernel
end L2
namespace L2
open PySem PySem.Spec PyProof.Rows
section
variable {X:Cx}
end
def Dat (H H':Hp):Prop:=(∀ b xs,H b=some (.lst xs)->H' b=some (.lst xs))/\(∀ b xs,H b=some (.tup xs)->H' b=some (.tup xs))/\∀ b kvs,H b=some (.dK kvs)->H' b=some (.dK kvs)
theorem Same.dat (h:Same H H'):Dat H H':=⟨fun b xs e=>h b _ e,fun b xs e=>h b _ e,fun b xs e=>h b _ e⟩
theorem Dat.trans (a:Dat H H1) (b:Dat H1 H2):Dat H H2:=⟨fun c o e=>b.1 c o (a.1 c o e),fun c o e=>b.2.1 c o (a.2.1 c o e),fun c o e=>b.2.2 c o (a.2.2 c o e)⟩
theorem Dat.ins (hp:H p=some (.ins C dx fs)) (o:HO):Dat H (upd H p o):=by
 refine⟨fun b xs e=>?_,fun b xs e=>?_,fun b xs e=>?_⟩ <;>
 ·have hb:b≠p:=fun z=>by rw[z,hp] at e;cases e
  rw[MR hb];exact e
mutual
theorem Is.dat {H H':Hp}(h:Dat H H'):∀{d:Dt}{v:V},Is H v d->Is H' v d
 | .non,_,k=>by simp only[Is] at k ⊢;exact k
 | .bl _,_,k=>by simp only[Is] at k ⊢;exact k
 | .int _,_,k=>by simp only[Is] at k ⊢;exact k
 | .str _,_,k=>by simp only[Is] at k ⊢;exact k
 | .tup ds,_,k=>by
  simp only[Is] at k ⊢
  obtain⟨a,xs,e,h1,h2⟩:=k
  exact⟨a,xs,e,h.2.1 _ _ h1,IsL.dat h h2⟩
 | .lst ds,_,k=>by
  simp only[Is] at k ⊢
  obtain⟨a,xs,e,h1,h2⟩:=k
  exact⟨a,xs,e,h.1 _ _ h1,IsL.dat h h2⟩
theorem IsL.dat {H H':Hp}(h:Dat H H'):∀{ds:List Dt}{xs:List V},IsL H xs ds->IsL H' xs ds
 | [],[],_=>by simp only[IsL]
 | d::ds,x::xs,k=>by
  simp only[IsL] at k ⊢
  exact⟨Is.dat h k.1,IsL.dat h k.2⟩
 | [],_::_,k=>by simp only[IsL] at k
 | _::_,[],k=>by simp only[IsL] at k
end
theorem NT.dat (h:Dat H H') (k:NT H kvs gs):NT H' kvs gs:=NT.tups h.2.1 k
theorem off_new {H H1 H2:Hp}{p:Ab}(h:∀ b o,b≠p->H b=some o->H1 b=some o)(s:Same H1 H2):∀ b o,b≠p->H b=some o->H2 b=some o:=fun b o hb e=>s _ _ (h b o hb e)
theorem Q5 {H H1:Hp}{p:Ab}{x:HO}(h:∀ b o,b≠p->H b=some o->H1 b=some o):∀ b o,b≠p->H b=some o->(upd H1 p x) b=some o:=fun b o hb e=>by rw[MR hb];exact h b o hb e
theorem Uk (h:ty σ H fun y H1=>td σ H1 fun x H2=>∃ a o,x=.ref a/\DGet H2 a y o/\Q (.bl o.isSome) H2):tDIn ty td σ H Q:=h
theorem i_tB (h:t σ H fun x H1=>∃ c,x=.bl c/\Q c H1):tB t σ H Q:=h
structure View where
 t:List Nat
 b:Option Nat
 i:Int
 j:Int
def Lay (n:Nat)(d:Dt):Prop:=Z_ (toP d)=true/\bz (toP d)<=n
theorem Lay.ok (h:Lay n d) (hn:n<=64):okD d:=by
 unfold okD SeqAt.shaped
 rw[h.1,B1 (NI h.2 hn)];rfl
theorem Ul {n:Nat}:∀{ds:List Dt},(∀ d∈ds,Lay n d)->PyData.canLayAll0 (toPs ds)=true/\PyData.depthAll (toPs ds)<=n
 | [],_=>⟨rfl,NA _⟩
 | d::ds,h=>by
  have h1:=h d N1
  have h2:=Ul (ds:=ds) fun e he=>h e (NH _ he)
  simp only[toPs,PyData.canLayAll0,PyData.depthAll,h1.1,h2.1,Bool.and_self,true_and]
  have:=h1.2
  have:=h2.2
  omega
theorem Lay.lst (h:∀ d∈ds,Lay n d):Lay (n+1) (.lst ds):=by
 have:=Ul h
 unfold Lay
 simp only[toP,Z_,bz,this.1,true_and]
 omega
theorem Lay.tup (h:∀ d∈ds,Lay n d):Lay (n+1) (.tup ds):=by
 have:=Ul h
 unfold Lay
 simp only[toP,Z_,bz,this.1,true_and]
 omega
theorem Lay.str (h:∀ c∈l,c < 128):Lay 0 (.str (S l)):=by
 refine⟨?_,M6 _⟩
 simp only[toP,Z_]
 unfold PyData.strOk
 rw[<- Array.all_toList]
 show (l.all fun x=>decide (x < 0x110000))=true
 rw[Qi]
 intro c hc
 have:=h c hc
 exact B1 (by omega)
section
variable {X:Cx}
theorem KV.key :∀{kvs:List (κ×V)}{vs:List (κ×Ac)},KV kvs vs->vs.map (·.1)=kvs.map (·.1):=by
 intro kvs vs r
 unfold KV at r
 induction r with
 | nil=>rfl
 | cons r t ih=>rw[Nq,Nq,ih,r.1]
end
end L2
namespace L2
open PySem
section
variable {prog:Aj}{w:Ak}{A:Am}{E:Ac->Ad->Prop}{s:Ad}
end
open PySem.Spec PyProof.Rows
end L2
namespace L2
open PySem PySem.Spec
section
variable {prog:Aj}{w:Ak}{A:Am}{E:Ac->Ad->Prop}{s:Ad}
end
end L2
namespace L2
open PySem PySem.Spec PyProof.Rows
section
variable {prog:Aj}{w:Ak}{A:Am}{E:Ac->Ad->Prop}{s:Ad}{z TI TO i1 i2 l1 l2 S:Ab}{xs ys:Array Ac}{R:Result->Ad->Prop}
end
section
variable {X:Cx}{B4:List (Ab×Obj)}{σ:St}{H H':Hp}{s:Ad}{h':An}
theorem Inv.laidAll (I:Inv X B4 σ H s) (k:∀ b u,s.heap.get? b=some u->h'.get? b=some u) (old:∀ b o,H b=some o->H' b=some o) (none_:∀ b,b < s.heap.objs.size->H b=none->H' b=none) (new:∀ b o,H' b=some o->H b=none->ObjOk X.prog X.w H' h' b o):Inv X B4 σ H' { s with heap:=h',toks:=t' }:=by
 refine I.un ⟨fun b o q _ _ _=>k b o q,fun b o q _ _ _=>⟨o.slots,k b o q⟩,fun b o q n _=>none_ b (Nm q) n,fun b o q _=>⟨o,k b o q⟩,fun b xs e=>old b _ e,fun b o u e=>old b _ e,fun b ps e=>⟨#[],by simpa using old b _ e⟩⟩ fun b o e=>?_
 cases q:H b with
 | none=>exact new b o e q
 | some o' =>
  have e':o'=o:=by rw[old b o' q] at e;injection e
  subst e'
  exact(I.hok b o' q).stay (fun c u _ q=>k c u q) (fun c q=>old c _ q) fun c xs q=>old c _ q
end
theorem XJ (a:RelV u x) (b:RelV v x):u=v:=by
 cases u <;> cases v <;> simp only[RelV] at a b <;> first
  | (subst a;cases b;done)
  | (obtain⟨t,rfl⟩:=a;obtain⟨t',b⟩:=b;cases b;rfl)
  | (obtain⟨t,rfl⟩:=a;cases b;done)
  | (obtain⟨t,rfl⟩:=a;obtain⟨t',b⟩:=b;cases b;done)
  | (subst a;obtain⟨t',b⟩:=b;cases b;done)
  | (subst a;cases b;rfl)
  | rfl
section
variable {X:Cx}
end
noncomputable def VW (v d:Ab):HO:=.ext fun h=>h.IsItemsView v d
theorem vw_ok (x:h.IsItemsView v d):ObjOk P w H h v (VW v d) :=
 ⟨x,(let ⟨o,ho,_⟩:=x;⟨o,ho⟩),fun _ _ ⟨o,a,b⟩ k=>⟨o,k _ a,b⟩⟩
def Um:V->List V->Hp->VK->Prop:=fun x vs H Q=>match x,vs with
 | .ref d,[]=>∃ kvs,H d=some (.dK kvs)/\∀ v,H v=none->Q (.ref v) (upd H v (VW v d))
 | _,_=>False
section
variable {X:Cx}
theorem XM:MtR X "dict.items" Um:=fun B4 s σ H x vs v us Q I rx rs h=>by
 unfold Um at h
 split at h
 ·rename_i d
  obtain⟨kvs,e,q⟩:=h
  cases rx
  cases rs
  obtain⟨z,hd,vs,rel,dd⟩:=R' I.hok e
  refine call_meetsIn bn dd.typeIs PySem.F.entry_dict_items (PySem.F.args_dict_items_1 _) (meets_dict_items (NU X.prog X.w) d hd) ⟨⟨vs,dd⟩,?_⟩
  have I2:Inv X B4 σ (upd H s.heap.objs.size (VW s.heap.objs.size d)) { s with heap:=s.heap.push { cls:=.type "dict_items",data:=.fields #[.ref d] } } :=
   I.laid (a:=s.heap.objs.size) (o:=VW s.heap.objs.size d) (t':=s.toks) (fun b u q=>Ng _ q) (M6 _) (vw_ok ⟨_,NE _ rfl,rfl,rfl⟩)
  exact⟨.ref s.heap.objs.size,_,I2,rfl,q _ (I.hok.fresh (M6 _))⟩
 ·exact h.elim
theorem Inv.pairs {B4:List (Ab×Obj)}{σ:St}{H2:Hp}{s2:Ad}{h3:An}{tk c:Nat}{qa:Ab}{Ts:List Ab}{xs ys:List V}{B6:Array Ac}(I2:Inv X B4 σ H2 s2)(kk:∀ b o,s2.heap.get? b=some o->h3.get? b=some o)(hq:s2.heap.objs.size<=qa)
  (Fk:h3.get? qa=some { cls:=.type "list",dict:=none,data:=.seq B6 c,slots:=#[] }) (Hj:B6.toList=Ts.map Value.ref) (hT:Ts.length=xs.length) (EG:xs.length<=Ae)
  (Hk:∀(j:Nat) T,Ts[j]?=some T->∃ u v x y,xs[j]?=some u/\ys[j]?=some v/\RelV u x/\RelV v y/\AW h3 T x y/\qa < T) :
  ∃ H3:Hp,Inv X B4 σ H3 { s2 with heap:=h3,toks:=tk }/\H2 qa=none/\H3 qa=some (.lst (Ts.map V.ref))/\(∀(j:Nat) T,Ts[j]?=some T->∃ u v,xs[j]?=some u/\ys[j]?=some v/\H3 T=some (.tup [u,v]))/\Same H2 H3:=by
 have Kr:H2 qa=none:=I2.hok.fresh hq
 have Fm:∀ T∈Ts,H2 T=none/\T≠qa:=fun T hm=>by
  obtain⟨j,hj⟩:=jL.mp hm
  obtain⟨_,_,_,_,_,_,_,_,_,g⟩:=Hk j T hj
  exact⟨I2.hok.fresh (Pq (Qy hq g)),(NB g).symm⟩
 obtain⟨H3,hH⟩:∃ H3:Hp,H3=fun b=>if b=qa then some (.lst (Ts.map V.ref)) else match (NW Ts.length).find? (fun j=>decide (Ts[j]?=some b)) with
   | some j=>some (.tup [xs.getD j .non,ys.getD j .non])
   | none=>H2 b:=⟨_,rfl⟩
 have Ks:H3 qa=some (.lst (Ts.map V.ref)):=by rw[hH];simp
 have Jv:∀ b,b≠qa->b∉Ts->H3 b=H2 b:=fun b hb hm=>by
  rw[hH]
  simp only[B2 hb]
  have:(NW Ts.length).find? (fun j=>decide (Ts[j]?=some b))=none:=by
   rw[aW]
   intro j _ hc
   exact hm (Q9 (of_decide_eq_true hc))
  rw[this]
 have Kt:∀ T∈Ts,∃ j,Ts[j]?=some T/\H3 T=some (.tup [xs.getD j .non,ys.getD j .non]):=fun T hm=>by
  have CA:=(Fm T hm).2
  cases hf:(NW Ts.length).find? (fun j=>decide (Ts[j]?=some T)) with
  | none =>
   obtain⟨j,hj,Lf⟩:=ZR.mp hm
   have:=aW.mp hf j (S_.mpr hj)
   exact absurd (B1 (by rw[Na hj,Lf])) this
  | some j =>
   have hd:=List.find?_some hf
   refine⟨j,of_decide_eq_true hd,?_⟩
   rw[hH]
   simp only[B2 CA,hf]
 have same:Same H2 H3:=fun b o e=>by
  rw[Jv b (fun z=>by rw[z,Kr] at e;cases e) (fun m=>by rw[(Fm b m).1] at e;cases e)]
  exact e
 have I3:Inv X B4 σ H3 { s2 with heap:=h3,toks:=tk }:=by
  refine I2.laidAll kk same (fun b hb hn=>?_) fun b o e hn=>?_
  ·rw[Jv b (fun z=>by rw[z] at hb;exact absurd hb (Nat.not_lt_of_le hq)) (fun m=>?_)]
   ·exact hn
   ·obtain⟨j,hj⟩:=jL.mp m
    obtain⟨_,_,_,_,_,_,_,_,_,g⟩:=Hk j b hj
    exact absurd hb (Nat.not_lt_of_le (Pq (Qy hq g)))
  ·by_cases hb:b=qa
   ·subst hb
    rw[Ks] at e
    cases e
    refine⟨by rw[M5,hT];exact EG,B6.toList,c,?_,by rw[Array.toArray_toList];exact Fk⟩
    rw[Hj]
    have:∀ l:List Ab,Vals (l.map V.ref) (l.map Value.ref):=fun l=>by
     induction l with
     | nil=>exact .nil
     | cons t l ih=>exact .cons rfl ih
    exact this Ts
   ·by_cases hm:b∈Ts
    ·obtain⟨j,hj,e'⟩:=Kt b hm
     rw[e'] at e
     cases e
     obtain⟨u,v,x,y,g1,g2,r1,r2,g3,_⟩:=Hk j b hj
     have d1:xs.getD j .non=u:=by rw[Nl,g1];rfl
     have d2:ys.getD j .non=v:=by rw[Nl,g2];rfl
     rw[d1,d2]
     exact⟨by show 2<=Ae;decide,[x,y],.cons r1 (.cons r2 .nil),⟨_,g3,rfl,_,rfl⟩,fun o e=>by rw[g3] at e;cases e;rfl⟩
    ·rw[Jv b hb hm,hn] at e
     cases e
 refine⟨H3,I3,Kr,Ks,fun j T e=>?_,same⟩
 obtain⟨j',hj',e'⟩:=Kt T (Q9 e)
 obtain⟨u,v,x,y,g1,g2,r1,r2,g3,_⟩:=Hk j T e
 obtain⟨u',v',x',y',g1',g2',r1',r2',g3',_⟩:=Hk j' T hj'
 have Lg:x=x'/\y=y':=by
  have e3:some _=some _:=g3.symm.trans g3'
  have e4:=congrArg (fun o:Option Obj=>o.map fun o=>o.data) e3
  simp only[Z8,kx,Data.seq.injEq] at e4
  have e5:=congrArg VQ e4.1
  simp only[List.cons.injEq,and_true] at e5
  exact e5
 obtain⟨rfl,rfl⟩:=Lg
 have hu:=XJ r1 r1'
 have hv:=XJ r2 r2'
 subst hu hv
 refine⟨u,v,g1,g2,?_⟩
 rw[e',Nl,g1',Nl,g2']
 rfl
theorem KV.valD :∀{kvs:List (κ×V)}{vs:List (κ×Ac)},KV kvs vs->∀{j:Nat}{p:κ×Ac},vs[j]?=some p->∃ q,kvs[j]?=some q/\q.1=p.1/\RelV q.2 p.2:=by
 intro kvs vs r
 unfold KV at r
 induction r with
 | nil=>intro j p h;cases h
 | cons r t ih =>
  intro j p h
  cases j with
  | zero=>cases h;exact⟨_,rfl,r.1,r.2⟩
  | succ j=>exact ih (j:=j) h
def Uo:List V->Hp->VK->Prop:=fun xs H Q=>match xs with
 | [.ref v]=>∃(d:Ab) (kvs:List (Key×V)),H v=some (VW v d)/\H d=some (.dK kvs)/\∀(q:Ab) (Ts:List Ab) (H3:Hp),H q=none->H3 q=some (.lst (Ts.map V.ref))->Ts.length=kvs.length->(∀(j:Nat) T,Ts[j]?=some T->∃ kv,kvs[j]?=some kv/\H3 T=some (.tup [kV kv.1,kv.2]))->Same H H3->Q (.ref q) H3
 | _=>False
theorem XN (hc:X.calm=true):CallR X (.type "list") Uo:=by
 intro B4 s σ H xs us Q I r h
 unfold Uo at h
 split at h
 ·rename_i v
  obtain⟨u,rfl,ru⟩:=Op r
  cases ru
  obtain⟨d,kvs,hv,e,q⟩:=h
  have vw:s.heap.IsItemsView v d:=(I.hok v _ hv).1
  obtain⟨z,hd,vs,rel,dd⟩:=R' I.hok e
  obtain⟨ep,DW⟩:=dd.dictAt
  have hk:=KV.key rel
  have hl:vs.length=kvs.length:=by rw[<- M5 (f:=(·.1)),hk,M5]
  refine PySem.W.kdx_call (knd:=NU X.prog X.w) (I.ok.hd hc) vw DW (by rw[hl];exact z) fun h3 tk B6 c as kk hS FS hG G4=>?_
  obtain⟨H3,I3,a1,a2,a3,a4⟩:=I.pairs (tk:=tk) (Ts:=as) (xs:=kvs.map fun kv=>kV kv.1) (ys:=kvs.map fun kv=>kv.2) kk (M6 _) hS G4 (by rw[M5,FS,hl]) (by rw[M5];exact z) fun j T hT=>by
   obtain⟨key,k,x,e1,e2,e3⟩:=hG.pairs j T hT
   obtain⟨kv,b1,b2,b3⟩:=KV.valD rel e1
   refine⟨kV kv.1,kv.2,key,x,by rw[Nz,b1];rfl,by rw[Nz,b1];rfl,?_,b3,e3,hG.above T (Q9 hT)⟩
   rw[b2]
   rcases Rh (show Pa k key=true from e2) with ⟨i,t,rfl,rfl⟩ | ⟨y,t,rfl,rfl⟩
   ·exact⟨t,rfl⟩
   ·exact⟨t,rfl⟩
  refine⟨.ref s.heap.objs.size,H3,I3,rfl,q _ as H3 a1 a2 (by rw[FS,hl]) (fun j T hT=>?_) a4⟩
  obtain⟨u,v',c1,c2,c3⟩:=a3 j T hT
  rw[Nz] at c1 c2
  cases Iv:kvs[j]? with
  | none=>rw[Iv] at c1;cases c1
  | some kv =>
   rw[Iv] at c1 c2
   cases c1;cases c2
   exact⟨kv,rfl,c3⟩
 ·exact h.elim
theorem XQ (h1:H d=some (.dK kvs)) (h:∀ v,H v=none->Q (.ref v) (upd H v (VW v d))):Um (.ref d) [] H Q:=⟨kvs,h1,h⟩
theorem XR (h1:H v=some (VW v d)) (h2:H d=some (.dK kvs)) (h:∀(q:Ab) (Ts:List Ab) (H3:Hp),H q=none->H3 q=some (.lst (Ts.map V.ref))->Ts.length=kvs.length->(∀(j:Nat) T,Ts[j]?=some T->∃ kv,kvs[j]?=some kv/\H3 T=some (.tup [kV kv.1,kv.2]))->Same H H3->Q (.ref q) H3):Uo [.ref v] H Q:=⟨d,kvs,h1,h2,h⟩
end
section
variable {X:Cx}{tg:Av}
end
section
variable {X:Cx}
theorem o_inK {K:MV}(hK:X.K=K:=by rfl):OpR X (Ar .In) (rIn K false):=hK▸Wq
end
theorem XS (h:∀ c∈l,c < 128) (hl:l.length<=50):(BZ (S l)).length<=1000:=by
 have:=PySem.StrLaws.reprText_len (S l) (fun c hc=>by
  have:=h c (by rw[<- T_ l];simpa using hc)
  exact bh this (by decide))
 rw[Nn] at this
 omega
end L2
namespace L2
open PySem
noncomputable abbrev vBM:List Ac:=[.type "ValueError",.type "Exception",.type "BaseException",.type "object"]
noncomputable abbrev xNew:String:="ValueError.__new__"
noncomputable abbrev xIni:String:="ValueError.__init__"
theorem xB:ExcBaseFacts "ValueError" xNew xIni vBM:=PySem.F.excBase_ValueError
def Lk (M:Model)(h:An){α:Type}(m:Sem α)(r:α):Prop:=∀(A:Am) (Q:α->Ad->Prop) (E:Ac->Ad->Prop) (s:Ad),s.heap=h->Q r s->wpAny M A m Q E s
theorem Lk.run (l:Lk M h m r) (e:s.heap=h) (q:Q r s):wpAny M A m Q E s:=l A Q E s e q
noncomputable abbrev Up (C:Ab)(t:Ab):Obj:={ cls:=.ref C,data:=.fields #[.ref t,.none,.none,.none,.bool false,.none] }
noncomputable def Qp (C:Ab)(us:List Ac)(h:An):An:=(h.push { cls:=.type "tuple",data:=.seq us.toArray }).push (Up C h.objs.size)
theorem XT (e:h.get? b=some o):(Qp C us h).get? b=some o:=Ng _ (Ng _ e)
theorem XU :(Qp C us h).get? (h.objs.size+1)=some (Up C h.objs.size):=by
 have:=NE (h.push { cls:=.type "tuple",data:=.seq us.toArray }) (o:=Up C h.objs.size) rfl
 rwa [OY] at this
section
variable {prog:Aj}{w:Ak}{M:Model}{A:Am}{E:Ac->Ad->Prop}{R:Result->Ad->Prop}{h:An}{g:Array GenState}{dr:Drawn}{tk:Nat}{os:OsState}
variable {nm qn:Str}{C N W:Ab}{bs:List Ac}{CW:Bool}{sn:List Str}{sub:List Ac}{ab:Bool}{col:Option Bool}{dd:Option Ab}{k0 k1 k2 k3 k5:Option Ac}{us:List Ac}
theorem SU (e:vBM.contains (.type X)=b):(Value.ref C::.ref W::vBM).contains (.type X)=b:=by
 rw[Vy,Vy,e];rfl
theorem fL (oC:h.get? C=some (At nm qn C N bs (.ref W::vBM) CW sn sub ab col dd k0 k1 k2 k3 k5 xNew)) (k:Q () ⟨h,g,dr,tk,os⟩):
  wpAny M A (Ax xNew ⟨.ref C::us,[]⟩) Q E ⟨h,g,dr,tk,os⟩:=by
 have c1:(Value.ref C::.ref W::vBM).contains (.type "ValueError")=true:=SU xB.hasB
 have c2:=xB.noStar
 simp only[Ax,xB.newKind,xB.newSplit,xB.newRow]
 repeat (first | refine Al oC ?_ | (refine Ay oC ?_;rw[c1]) | refine wpAny_staticBase_exc oC ?_ | refine wpAny_madeBy_exc oC ?_ | simp only[bne_self_eq_false,VE,if_false] | wp_step)
 exact k
theorem xc_new (oC:h.get? C=some (At nm qn C N bs (.ref W::vBM) CW sn sub ab col dd k0 k1 k2 k3 k5 xNew))
  (k:R (.ok (.ret (.ref (h.objs.size+1)))) ⟨Qp C us h,g,dr,tk,os⟩) (Gp:us.length<=Ae) :
  codeAny (Ai prog w) A (.builtin xNew ⟨.ref C::us,[]⟩) R ⟨h,g,dr,tk,os⟩:=by
 have c0:=xB.ends
 have c1:(Value.ref C::.ref W::vBM).contains (.type "ValueError")=true:=SU xB.hasB
 have c2:(Value.ref C::.ref W::vBM).contains (.type "AttributeError")=false:=SU xB.noAttr
 have c3:(Value.ref C::.ref W::vBM).contains (.type "NameError")=false:=SU xB.noName
 refine codeAny_builtinAt xB.entry ?_
 unfold Builtin.«BaseException.__new__»
 refine wpAt_bind ?_
 show wpAt _ _ _ (stack >>= _) _ _ _
 refine wpAt_bind (wpAt_stack fun p below=>wpAt_of_wpAny ?_)
 wp_walk
 refine wpAt_of_wpAny ?_
 rw[xB.owner]
 repeat (first | with_reducible refine wpAny_madeHere_exc xB.canon oC ?_ | with_reducible refine Al oC ?_ | (with_reducible refine Ay oC ?_;first | rw[c1] | rw[c2] | rw[c3]) | wp_step)
 show R _ _
 rw[OY]
 exact k
theorem fM (oC:h.get? C=some (At nm qn C N bs (.ref W::vBM) CW sn sub ab col dd k0 k1 k2 k3 k5 xNew)) (he:h.get? e=some oe) (ec:oe.cls=.ref C) (k:Q () ⟨h,g,dr,tk,os⟩):wpAny M A (Ax xIni ⟨.ref e::us,[]⟩) Q E ⟨h,g,dr,tk,os⟩:=by
 have c1:(Value.ref C::.ref W::vBM).contains (.type "ValueError")=true:=SU xB.hasB
 have c2:=xB.noStar
 simp only[Ax,xB.initKind,xB.initSplit,xB.initRow]
 repeat (first | (with_reducible refine Al he ?_;rw[ec]) | with_reducible refine Al oC ?_ | (with_reducible refine Ay oC ?_;rw[c1]) | wp_step)
 refine A1 ?_
 rw[show ∀(a b:String) (n:Nat),Bind.check ⟨.positional,"*","ValueError",.self,[⟨"args",.varPos,false⟩]⟩ a b n (List.map (fun x=>x.fst) ({ pos:=Value.ref e::us }:Args).kw)=pure () from fun a b n=>check_star_args _ _ _ _ _ _]
 exact Af k
theorem fN (oC:h.get? C=some (At nm qn C N bs (.ref W::vBM) CW sn sub ab col dd k0 k1 k2 k3 k5 xNew)) (he:h.get? e=some ⟨.ref C,od,.fields vs,#[]⟩) (h0:vs[0]?=some (.ref t0)) (Gp:us.length<=Ae) (k:∀ h',(∀ b o,b≠e->h.get? b=some o->h'.get? b=some o)->h'.get? e=some ⟨.ref C,od,.fields (vs.setIfInBounds 0 (.ref h.objs.size)),#[]⟩->Q .none ⟨h',g,dr,tk,os⟩):
  wpAny (Ai prog w) A (call (.builtin xIni) (.ref e::us)) Q E ⟨h,g,dr,tk,os⟩:=by
 refine Ba (AS xB.init.plain xB.initEntry (fM oC he rfl ?_))
 unfold Builtin.«BaseException.__init__»
 wp_walk
 rw[h0]
 have hz:0 < vs.size:=(bH.mp h0).1
 have Iu:(h.push { cls:=Value.type "tuple",data:=Data.seq us.toArray }).get? e=some ⟨.ref C,od,.fields vs,#[]⟩:=Ng _ he
 refine Af (Aa (AY Iu rfl hz ?_))
 wp_walk
 refine k _ (fun b o hb eb=>?_) ?_
 ·rw[Qx _ _ (M7 hb)];exact Ng _ eb
 ·rw[SH _ Iu rfl];rfl
theorem fO (oC:h.get? C=some (At nm qn C N bs (.ref W::vBM) CW sn sub ab col dd k0 k1 k2 k3 k5 xNew)) (Gp:us.length<=Ae) (lk:Lk (Ai prog w) (Qp C us h) (AX (.ref C) "__init__") (some f)) (bd:Lk (Ai prog w) (Qp C us h) (bindSpecial f (.ref (h.objs.size+1))) (f,[.ref (h.objs.size+1)])) (k:wpAny (Ai prog w) A (call f (.ref (h.objs.size+1)::us)) (fun r s'=>r=.none/\Q (.done (.ret (.ref (h.objs.size+1)))) s') E ⟨Qp C us h,g,dr,tk,os⟩):
  wpAny (Ai prog w) A (Builtin.«type.__call__» ⟨.ref C::us,[]⟩) Q E ⟨h,g,dr,tk,os⟩:=by
 repeat (first | with_reducible refine Al oC ?_ | with_reducible refine wpAny_madeBy_exc oC ?_ | wp_step)
 refine codeAny_call_builtin_code (bM _ xB.quiet) (fL oC ?_)
 refine xc_new oC ?_ Gp
 show wpAny _ _ _ _ _ _
 have oC1:=XT (C:=C) (us:=us) oC
 have Jw:=XU (C:=C) (us:=us) (h:=h)
 have c1:(Value.ref C::.ref W::vBM).contains (.ref C)=true:=by simp
 unfold isInstance
 repeat (first | with_reducible refine Al Jw ?_ | (with_reducible refine Ay oC1 ?_;rw[c1]) | wp_step)
 show wpAny _ _ (AX (.ref C) _) _ _ _
 refine lk _ _ _ _ rfl ?_
 refine AM (Aa (bd _ _ _ _ rfl ?_))
 refine Aa (Ao k (fun r s' hr=>?_) fun _ _ x=>x)
 obtain⟨rfl,hQ⟩:=hr
 wp_walk
 exact hQ
theorem fP (oC:h.get? C=some (At nm qn C N bs (.ref W::vBM) CW sn sub ab col dd k0 k1 k2 k3 k5 xNew)) (Gp:us.length<=Ae) (lk:Lk (Ai prog w) (Qp C us h) (AX (.ref C) "__init__") (some f)) (bd:Lk (Ai prog w) (Qp C us h) (bindSpecial f (.ref (h.objs.size+1))) (f,[.ref (h.objs.size+1)])) (k:wpAny (Ai prog w) (A.under (.builtin "type.__call__" ⟨.ref C::us,[]⟩)) (call f (.ref (h.objs.size+1)::us)) (fun r s'=>r=.none/\Q (.ref (h.objs.size+1)) s') E ⟨Qp C us h,g,dr,tk,os⟩):
  wpAny (Ai prog w) A (call (.ref C) us) Q E ⟨h,g,dr,tk,os⟩:=by
 have c1:=tc_lookup
 have c2:=tc_bind (.ref C)
 have c3:(⟨h,g,dr,tk,os⟩:Ad).TypeIs (.ref C) "type":=⟨_,oC,rfl⟩
 refine Ba (codeAny_of_tree ?_)
 show wpAny _ _ (callAny (.ref C) _) _ _ _
 repeat (any_goals (first | assumption | with_reducible refine Al oC ?_ | wp_step))
 refine⟨rfl,?_⟩
 exact codeAny_call_builtin_at (bM _ (by decide +kernel)) entry_typeCall (wpAny_check_type_call_sub oC (fO oC Gp lk bd k))
theorem sV:StoreFacts "ValueError" vBM "object.__setattr__" "object":=PySem.F.store_ValueError
theorem fQ (oC:h.get? C=some (At nm qn C N bs (.ref W::vBM) CW sn sub ab col dd k0 k1 k2 k3 k5 xNew)) (he:h.get? e=some oe) (ec:oe.cls=.ref C) (k:Q () ⟨h,g,dr,tk,os⟩):wpAny M A (Ax "object.__setattr__" ⟨[.ref e,nv,v],[]⟩) Q E ⟨h,g,dr,tk,os⟩:=by
 have c1:(Value.ref C::.ref W::vBM).contains (.type "object")=true:=SU sV.hasOwner
 have c2:=sV.args (.ref e) nv v
 simp only[Ax,sV.kind,sV.split]
 refine Aa ?_
 unfold isInstance
 repeat (first | (with_reducible refine Al he ?_;rw[ec]) | (with_reducible refine Ay oC ?_;rw[c1]) | wp_step)
 exact k
open Builtin Builtin.ObjectAttr in
theorem fR (oC:h.get? C=some (At nm qn C N bs (.ref W::vBM) true sn sub ab col dd k0 k1 k2 k3 k5 xNew)) (he:h.get? e=some oe) (ec:oe.cls=.ref C) (ed:oe.dict=none) (ef:oe.data=.fields vs) (es:oe.slots=#[]) (ls:Lk (Ai prog w) h (AX (.ref C) "__setattr__") (some (.builtin "object.__setattr__"))) (ln:Lk (Ai prog w) h (AX (.ref C) name) none) (k:∀ h' tk',h'.get? e=some ⟨.ref C,some h.objs.size,.fields vs,#[]⟩->h'.Ns1 h.objs.size (fun y=>if y=name then some v else none)->(∀ b o,b≠e->h.get? b=some o->h'.get? b=some o)->Q () ⟨h',g,dr,tk',os⟩):
  wpAny (Ai prog w) A (setAttr (.ref e) name v) Q E ⟨h,g,dr,tk,os⟩:=by
 have c0:=sV.slot.bind (.ref e)
 have c1:=sV.passes (.ref e)
 unfold setAttr callSpecial? specialOf
 repeat (any_goals (first | assumption | (with_reducible refine Al he ?_;rw[ec]) | (with_reducible refine Lk.run ls rfl ?_) | wp_step))
 refine AS sV.slot.plain sV.entry (fQ oC he ec ?_)
 unfold Builtin.«object.__setattr__»
 repeat (first | rw[refuse_eq] | (rw[refuseLoop_ref,refuseLoop_ref,c1]) | (with_reducible refine Al he ?_;rw[ec]) | with_reducible refine wpAny_mroOf_exc oC ?_ | (with_reducible refine Lk.run ln rfl ?_) | wp_step)
 have Ed:=(Heap.get?_some_iff.mp he).2
 obtain⟨oc,od,odt,osl⟩:=oe
 dsimp only at ec ed ef es
 subst ec ed ef es
 dsimp only
 rw[B2 (by simp[typeHasDict])]
 have Hl:(h.push { cls:=.type "dict",data:=.dict #[] }).get? e=some ⟨.ref C,none,.fields vs,#[]⟩:=Ng _ he
 have Ku:e≠h.objs.size:=NB (Nm he)
 refine Aa (wpAny_alloc' (Aa (wpAny_update' Hl (Af ?_))))
 have g1:((h.push { cls:=.type "dict",data:=.dict #[] }).update e fun o=>{ cls:=o.cls,dict:=some h.objs.size,data:=o.data,slots:=o.slots }).get? h.objs.size=some { cls:=.type "dict",data:=.dict #[] } :=
  (Heap.get?_update_ne _ _ _ _ Ku.symm).trans (Heap.get?_push_at rfl rfl)
 have g2:((h.push { cls:=.type "dict",data:=.dict #[] }).update e fun o=>{ cls:=o.cls,dict:=some h.objs.size,data:=o.data,slots:=o.slots }).Ns h.objs.size (fun _=>none) :=
  ⟨_,#[],_,g1,rfl,fun y hy=>absurd hy (by simp),fun _=>rfl⟩
 show wpAny _ _ (storeInDict h.objs.size (.str name tk) name v) _ _ _
 unfold storeInDict newKeyGuard
 refine Aa (Af (Aa (wpAny_nsSet1 (ku g2) fun h' hn' hs=>?_)))
 obtain⟨oD,esD,epD,Jc,Jd,Je⟩:=hn'.count (Within.cons name v Within.nil)
 refine Aa (wpAny_lookBehind Jc (by rw[Jd];exact pastItsLine_dict (NI Je (by rw[ND,Ot,Bu];omega))) ?_)
 wp_walk
 refine k h' _ ?_ hn' fun b o hb eb=>?_
 ·exact(hs.2 e Ku).trans (SH _ Hl rfl)
 ·exact(hs.2 b (NB (Nm eb))).trans ((Heap.get?_update_ne _ _ _ _ hb).trans (Ng _ eb))
end
noncomputable def Fl (base:An)(l:List Env)(e C:Ab)(od:Option Ab)(fl:Ac)(h:An):Prop :=
 base.StaysIn h/\base.get? e=none/\h.FunFrames base l/\∃(vs:Array Ac) (T:Ab) (oT:Obj) (ts:Array Ac) (t0:Ab),
  h.get? e=some ⟨.ref C,od,.fields vs,#[]⟩/\vs.size=6/\vs[0]?=some (.ref t0)/\vs[1]?=some (.ref T)/\base.get? T=none/\T≠e/\h.get? T=some oT/\oT.data=.fields ts/\ts[3]?=some fl
theorem Fl.tail (x:Fl base (env::l) e C od fl h):Fl base l e C od fl h :=
 ⟨x.1,x.2.1,x.2.2.1.2.2,x.2.2.2⟩
theorem Fl.at (x:Fl base l e C od fl h):∃(vs:Array Ac) (t0:Ab),h.get? e=some ⟨.ref C,od,.fields vs,#[]⟩/\vs.size=6/\vs[0]?=some (.ref t0):=by
 obtain⟨_,_,_,vs,T,oT,ts,t0,a1,a2,a3,_⟩:=x
 exact⟨vs,t0,a1,a2,a3⟩
section
variable {M:Model}{A:Am}{E:Ac->Ad->Prop}{s:Ad}{base:An}{env:Env}{outer l:List Env}{L e C:Ab}{od:Option Ab}{Q:Unit->Ad->Prop}
theorem XV (Ed:A.frames=some (env::outer)) (hl:s.heap.FunFrames base (env::outer)) (hf:env.frame=some L) (Fn:base.StaysIn s.heap) (Fo:base.get? e=none) (he:s.heap.get? e=some ⟨.ref C,od,.fields vs,#[]⟩) (hz:vs.size=6) (h0:vs[0]?=some (.ref t0)) (k:∀ h',Fl base (env::outer) e C od (AL L) h'->s.heap.UpToSlots h'->Q () { s with heap:=h' }):
  wpAny M A (do let a <- frameOf env;let pl <- entryPlaceOf L Iw;let b <- kq Jx a .none (AL L) .none pl;setField (.ref e) 1 b) Q E s:=by
 have ene:e∉(env::outer).filterMap (·.frame):=fun hm=>by
  obtain⟨_,o,ho,DQ⟩:=hl.mem hm
  rw[he] at ho;cases ho;exact DQ vs rfl
 refine Aa (wpAny_frameOf_fun Ed hl hf fun h1 DS=>?_)
 refine Aa (wpAny_entryPlaceOf fun pl Cj=>?_)
 unfold kq newFields
 refine Aa (AC ?_ (Cj.sizeOk5 _ _ _ _ _))
 have e1:h1.get? e=some ⟨.ref C,od,.fields vs,#[]⟩:=(DS.2.1 e ene).trans he
 have kb1:base.StaysIn h1:=fun b o Ej=>(DS.2.1 b fun hm=>by rw[(hl.mem hm).1] at Ej;cases Ej).trans (Fn b o Ej)
 generalize Kv:({ cls:=.type "traceback",dict:=none,data:=.fields ([Jx,.ref L,.none,AL L,.none]++(if pl.isEmpty then Nr 6 Value.none else pl)).toArray }:Obj)=oT
 have e2:=Ng (h:=h1) oT e1
 have Gq:h1.objs.size≠e:=Ta (Nm e1)
 have GL:oT.isFreed=false:=by rw[<- Kv];rfl
 have eT:=NE h1 (o:=oT) GL
 refine AY e2 rfl (by rw[hz];decide) ?_
 have keep:∀ b o,b≠e->h1.get? b=some o->((h1.push oT).update e (aj (·.setIfInBounds 1 (Value.ref h1.objs.size)))).get? b=some o:=fun b o Fy hb=>by
  rw[Qx _ _ (M7 Fy)]
  exact Ng _ hb
 have nore:∀ b o,s.heap.get? b=some o->(∀ vs,o.data≠.fields vs)->b≠e:=fun b o hb DQ q=>by
  rw[q,he] at hb;cases hb;exact DQ vs rfl
 refine k _ ⟨fun b o Ej=>keep b o (fun q=>by rw[q,Fo] at Ej;cases Ej) (kb1 b o Ej),Fo,hl.of_keeps fun b o hb DQ=>?_,vs.setIfInBounds 1 (.ref h1.objs.size),h1.objs.size,oT,_,t0,?_,?_,?_,?_,kb1.fresh,Gq,?_,by rw[<- Kv],?_⟩ fun b o hb DQ=>?_
 ·obtain⟨sl,hs⟩:=DS.2.2 b o hb
  exact⟨_,keep b _ (nore b o hb DQ) hs,rfl⟩
 ·rw[SH _ e2 rfl];rfl
 ·rw[ki];exact hz
 ·rw[kg (by decide)];exact h0
 ·simp[hz]
 ·rw[Qx _ _ (M7 Gq)];exact eT
 ·rcases Cj with rfl | ⟨_,_,_,_,_,_,_,rfl⟩ <;> simp
 ·obtain⟨sl,hs⟩:=DS.2.2 b o hb
  exact⟨sl,keep b _ (nore b o hb DQ) hs⟩
theorem fS (Ed:A.frames=some (env::outer)) (hl:s.heap.FunFrames base (env::outer)) (hf:env.frame=some L) (Fn:base.StaysIn s.heap) (Fo:base.get? e=none) (he:s.heap.get? e=some ⟨.ref C,od,.fields vs,#[]⟩) (hz:vs.size=6) (h0:vs[0]?=some (.ref t0)) (h1:vs[1]?=some .none) (k:∀ h',Fl base (env::outer) e C od (AL L) h'->s.heap.UpToSlots h'->Q () { s with heap:=h' }):wpAny M A (noteFrame (.ref e) env) Q E s:=by
 unfold noteFrame
 simp only[hf]
 refine Aa (Au he rfl h1 ?_)
 rw[B2 (by decide)]
 exact XV Ed hl hf Fn Fo he hz h0 k
theorem XW {h:An}{T:Ab}{oT:Obj}{ts:Array Ac}{i:Nat}{x:Ac}(hT:h.get? T=some oT)(hd:oT.data=.fields ts) :
  (∀ b,b≠T->(h.update T (aj (·.setIfInBounds i x))).get? b=h.get? b)/\(h.update T (aj (·.setIfInBounds i x))).get? T=some (oT.mapFields (·.setIfInBounds i x)) :=
 ⟨fun b hb=>Qx _ _ (M7 hb),SH _ hT (kj (ai hd _))⟩
theorem XX (Ed:A.frames=some (env::outer))(hf:env.frame=some L)(x:Fl base (env::outer) e C od .none s.heap)
  (k:∀ h',Fl base (env::outer) e C od (AL L) h'->s.heap.UpToSlots h'->Q () { s with heap:=h' }):wpAny M A (noteFrame (.ref e) env) Q E s:=by
 obtain⟨Fn,Fo,hl,vs,T,oT,ts,t0,he,hz,h0,h1,GL,Gq,hT,FB,h3⟩:=x
 unfold noteFrame
 simp only[hf]
 refine Aa (Au he rfl h1 ?_)
 rw[B3 (show (Value.ref T != Value.none)=true from by simp)]
 refine Aa (Au hT FB h3 ?_)
 rw[B2 (show ¬ ((Value.none == AL L)=true) from by simp[AL])]
 refine Aa (AY hT FB (bH.mp h3).1 ?_)
 obtain⟨ot,_⟩:=XW (i:=3) (x:=Value.none) hT FB
 have norT:∀ b o,s.heap.get? b=some o->(∀ vs,o.data≠.fields vs)->b≠T:=fun b o hb DQ q=>by
  rw[q,hT] at hb;cases hb;exact DQ ts FB
 refine XV (s:={ s with heap:=s.heap.update T (aj (·.setIfInBounds 3 Value.none)) }) Ed (hl.of_keeps fun b o hb DQ=>⟨o,(ot b (norT b o hb DQ)).trans hb,rfl⟩) hf
  (fun b o Ej=>(ot b fun q=>by rw[q,GL] at Ej;cases Ej).trans (Fn b o Ej)) Fo ((ot e (M7 Gq)).trans he) hz h0 fun h' x1 x2=>k h' x1 fun b o hb DQ=>?_
 exact x2 b o ((ot b (norT b o hb DQ)).trans hb) DQ
theorem Sc (x:Fl base l e C od fl s.heap) (k:∀ h',Fl base l e C od .none h'->s.heap.UpToSlots h'->Q () { s with heap:=h' }):wpAny M A (setFlight (.ref e) none) Q E s:=by
 obtain⟨Fn,Fo,hl,vs,T,oT,ts,t0,he,hz,h0,h1,GL,Gq,hT,FB,h3⟩:=x
 unfold setFlight
 refine Aa (Au he rfl h1 ?_)
 rw[B3 (show (Value.ref T != Value.none)=true from by simp)]
 have EH:=(bH.mp h3).1
 obtain⟨ot,oT2⟩:=XW (i:=3) (x:=Value.none) hT FB
 have norT:∀ b o,s.heap.get? b=some o->(∀ vs,o.data≠.fields vs)->b≠T:=fun b o hb DQ q=>by
  rw[q,hT] at hb;cases hb;exact DQ ts FB
 refine AY hT FB EH (k _ ⟨fun b o Ej=>(ot b fun q=>by rw[q,GL] at Ej;cases Ej).trans (Fn b o Ej),Fo,hl.of_keeps fun b o hb DQ=>⟨o,(ot b (norT b o hb DQ)).trans hb,rfl⟩,
  vs,T,_,ts.setIfInBounds 3 .none,t0,(ot e (M7 Gq)).trans he,hz,h0,h1,GL,Gq,oT2,ai FB _,by simp[EH]⟩ fun b o hb DQ=>⟨o.slots,(ot b (norT b o hb DQ)).trans hb⟩)
theorem fT (Ed:A.frames=some (env::outer))(hf:env.frame=some L)(x:Fl base (env::outer) e C od .none s.heap)
  (k:∀ h',Fl base outer e C od .none h'->s.heap.UpToSlots h'->Q () { s with heap:=h' }):wpAny M A (leaving env (.ref e)) Q E s:=by
 unfold leaving
 refine Aa (XX Ed hf x fun h1 x1 u1=>?_)
 exact Sc (s:={ s with heap:=h1 }) x1 fun h2 x2 u2=>k h2 x2.tail (u1.trans u2)
theorem fU (Ed:A.frames=some (env::outer)) (hl:s.heap.FunFrames base (env::outer)) (hf:env.frame=some L) (Fn:base.StaysIn s.heap) (Fo:base.get? e=none) (he:s.heap.get? e=some ⟨.ref C,od,.fields vs,#[]⟩) (hz:vs.size=6) (h0:vs[0]?=some (.ref t0)) (h1:vs[1]?=some .none) (k:∀ h',Fl base outer e C od .none h'->s.heap.UpToSlots h'->Q () { s with heap:=h' }):wpAny M A (leaving env (.ref e)) Q E s:=by
 unfold leaving
 refine Aa (fS Ed hl hf Fn Fo he hz h0 h1 fun h2 x2 u2=>?_)
 exact Sc (s:={ s with heap:=h2 }) x2 fun h3 x3 u3=>k h3 x3.tail (u2.trans u3)
end
section
variable {M:Model}{A:Am}{E:Ac->Ad->Prop}{env:Env}
variable {nm qn:Str}{C N W:Ab}{bs:List Ac}{CW:Bool}{sn:List Str}{sub:List Ac}{ab:Bool}{col:Option Bool}{dd:Option Ab}{k0 k1 k2 k3 k5:Option Ac}
theorem fV (hh:A.handled=none) (k:wpAny M A x (fun v s1=>∃ e od vs,v=.ref e/\(∃ nm qn C N bs W CW sn sub ab col dd k0 k1 k2 k3 k5,s1.heap.get? C=some (At nm qn C N bs (.ref W::vBM) CW sn sub ab col dd k0 k1 k2 k3 k5 xNew) /\
   s1.heap.get? e=some ⟨.ref C,od,.fields vs,#[]⟩)/\vs[1]?=some .none/\E (.ref e) s1) E s):wpAny M A (raiseStmt env (some x) none) Q E s:=by
 unfold raiseStmt
 refine Aa (Ao k (fun v s1 z=>?_) fun _ _ x=>x)
 obtain⟨e,od,vs,rfl,⟨nm,qn,C,N,bs,W,CW,sn,sub,ab,col,dd,k0,k1,k2,k3,k5,oC,he⟩,h1,hE⟩:=z
 have c1:(Value.ref C::.ref W::vBM).contains (.type "BaseException")=true:=SU xB.hasBase
 obtain⟨hp,g,d,tk,os⟩:=s1
 repeat (first | with_reducible refine Al he ?_ | with_reducible refine Al oC ?_ | (with_reducible refine Ay oC ?_;rw[c1]) | wp_step)
 rw[h1]
 refine Af ?_
 rw[B2 (show ¬ ((Value.none != Value.none)=true) from by decide)]
 exact Af (wpAny_raiseNew_none hh hE)
theorem fW (hh:A.handled=none) (k:wpAny M A (Aq x env) (fun v s1=>∃ e od vs,v=.ref e/\(∃ nm qn C N bs W CW sn sub ab col dd k0 k1 k2 k3 k5,s1.heap.get? C=some (At nm qn C N bs (.ref W::vBM) CW sn sub ab col dd k0 k1 k2 k3 k5 xNew) /\
   s1.heap.get? e=some ⟨.ref C,od,.fields vs,#[]⟩)/\vs[1]?=some .none/\E (.ref e) s1) E s):wpAny M A (exec (.Raise (some x) none pos) env) Q E s:=by
 rw[arm_exec_Raise]
 refine Aa (AU ?_)
 show wpAny M A (raiseStmt env (some (do let v <- Aq x env;Bk pos;pure v)) none) Q E s
 exact fV hh (Aa (Ao k (fun v s1 z=>Aa (AU (Af z))) fun _ _ y=>y))
theorem fX {h:An}{g:Array GenState}{dr:Drawn}{tk:Nat}{os:OsState}{e:Ab}{oe:Obj}{Q:Bool->Ad->Prop}{nm2 q2:Str}{N2:Ab}{bs2:List Ac}{C8:Bool}{sn2:List Str}{sub2:List Ac}{ab2:Bool}{col2:Option Bool}{dd2:Option Ab}{j0 j1 j2 j3 j5:Option Ac}{nw2:String}
  (oC:h.get? C=some (At nm qn C N bs (.ref W::vBM) CW sn sub ab col dd k0 k1 k2 k3 k5 xNew)) (oW:h.get? W=some (At nm2 q2 W N2 bs2 vBM C8 sn2 sub2 ab2 col2 dd2 j0 j1 j2 j3 j5 nw2))
  (he:h.get? e=some oe) (ec:oe.cls=.ref C) (k:Q true ⟨h,g,dr,tk,os⟩):wpAny M A (excMatches (.ref e) (.ref W)) Q E ⟨h,g,dr,tk,os⟩:=by
 have c1:(Value.ref W::vBM).contains (.type "BaseException")=true:=by rw[Vy,xB.hasBase,Z1]
 have c2:(Value.ref C::.ref W::vBM).contains (.ref W)=true:=by simp
 have c3:=tc_notTuple
 unfold excMatches
 repeat (first | (with_reducible refine Al he ?_;rw[ec]) | with_reducible refine Al oW ?_ | (with_reducible refine Ay oW ?_;rw[c1]) | (with_reducible refine Ay oC ?_;rw[c2]) | wp_step)
 exact k
end
noncomputable abbrev xGa:String:="BaseException.__getattribute__"
section
variable {prog:Aj}{w:Ak}{M:Model}{A:Am}{E:Ac->Ad->Prop}{h:An}{g:Array GenState}{dr:Drawn}{tk:Nat}{os:OsState}
variable {nm qn:Str}{C N W e:Ab}{bs:List Ac}{CW:Bool}{sn:List Str}{sub:List Ac}{ab:Bool}{col:Option Bool}{dd:Option Ab}{k0 k1 k2 k3 k5:Option Ac}{oe:Obj}
theorem fY (oC:h.get? C=some (At nm qn C N bs (.ref W::vBM) CW sn sub ab col dd k0 k1 k2 k3 k5 xNew)) (he:h.get? e=some oe) (ec:oe.cls=.ref C) (k:Q () ⟨h,g,dr,tk,os⟩):wpAny M A (Ax xGa ⟨[.ref e,nv],[]⟩) Q E ⟨h,g,dr,tk,os⟩:=by
 have c0:builtinKind xGa=some .slot:=by decide +kernel
 have c1:splitId xGa=some ("BaseException","__getattribute__"):=by decide +kernel
 have c2:(Value.ref C::.ref W::vBM).contains (.type "BaseException")=true:=SU xB.hasBase
 have c3:=PySem.F.args_bexc_ga (.ref e) nv
 simp only[Ax,c0,c1]
 refine Aa ?_
 unfold isInstance
 repeat (first | (with_reducible refine Al he ?_;rw[ec]) | (with_reducible refine Ay oC ?_;rw[c2]) | wp_step)
 exact k
theorem xg_by (oC:h.get? C=some (At nm qn C N bs (.ref W::vBM) CW sn sub ab col dd k0 k1 k2 k3 k5 xNew)) (he:h.get? e=some oe) (ec:oe.cls=.ref C) (l1:Lk (Ai prog w) h (AX (.ref C) "__getattribute__") (some (.builtin xGa))) (l2:Lk (Ai prog w) h (AX (.ref C) "__getattr__") none) (k:wpAny (Ai prog w) A.in1 (Builtin.«object.__getattribute__» ⟨[.ref e,.str name tn],[]⟩) (fun fin s'=>match fin with | .done (.ret v)=>wpAny (Ai prog w) A (handedOut v) Q E s' | _=>False) (fun _ _=>False) ⟨h,g,dr,tk,os⟩):
  wpAny (Ai prog w) A (getAttrBy (.ref e) (.str name tn) fill expr) Q E ⟨h,g,dr,tk,os⟩:=by
 have c0:=(jS).ga.bind (.ref e)
 have c1:(expr&&onTheHeap (Value.builtin xGa))=false:=by cases expr <;> rfl
 have c2:(Value.builtin xGa == Value.builtin "object.__getattribute__")=false:=by decide +kernel
 have c3:(onTheHeap (Value.ref C)&&Value.builtin xGa == Value.builtin "object.__getattribute__")=false:=by rw[c2];rfl
 repeat (any_goals (first | assumption | (with_reducible refine Al he ?_;rw[ec]) | with_reducible refine Lk.run l1 rfl ?_ | with_reducible refine Lk.run l2 rfl ?_ | wp_step))
 refine AS (jS).ga.plain PySem.F.entry_bexc_ga (fY oC he ec (Ao k (fun fin s' z=>?_) fun _ _ z=>z.elim))
 rcases fin with (_ | _ | _ | _) | _ <;> first | exact z | exact z.elim | (repeat (any_goals (first | assumption | wp_step)))
end
theorem Qq (l:aL M h m r):Lk M h m r:=fun A Q E s e q=>l A Q E s (fun b o z=>by rw[e];exact z) q
section
open PySem.W
variable {prog:Aj}{w:Ak}{A:Am}{E:Ac->Ad->Prop}{s:Ad}{K:Frag}{x C W N:Ab}{ox:Obj}{od:Option Obj}{name:Str}{expr:Bool}
variable {nm qn:Str}{bs:List Ac}{CW:Bool}{sn:List Str}{sub:List Ac}{ab:Bool}{col:Option Bool}{dd:Option Ab}{k0 k1 k2 k3 k5:Option Ac}
theorem fZ (X:K.In s.heap) (I:InstAt s.heap x ox C od) (oC:K.lookup C=some (At nm qn C N bs (.ref W::vBM) CW sn sub ab col dd k0 k1 k2 k3 k5 xNew)) (g1:findIn K (.ref C) "__getattribute__"=some (some (.builtin xGa))) (g2:findIn K (.ref C) "__getattr__"=some none) (hf:findObj K C od name=some (.value v)) (hh:handedIn v=true) (h:Q v { s with toks:=s.toks+1 }):
  wpAny (Ai prog w) A (getAttr (.ref x) name expr) Q E s:=by
 obtain⟨hh',g,d,t,os⟩:=s
 have L0:=Qq (I.type (M:=Ai prog w))
 have L1:=Qq (looks_find (M:=Ai prog w) X I hf)
 unfold getAttr
 refine Aa (wpAny_mkText ?_)
 refine xg_by (X _ _ oC) I.at_ I.cls (Qq (looks_findIn X g1)) (Qq (looks_findIn X g2)) ?_
 refine Aa (Af (Aa (Af (Aa (L0.run rfl (Aa (L1.run rfl (Af ?_))))))))
 show wpAny _ _ (handedOut v) _ _ _
 rw[handedOut_of hh];exact Af h
theorem f6 (X:K.In s.heap) (I:InstAt s.heap x ox C od) (oC:K.lookup C=some (At nm qn C N bs (.ref W::vBM) CW sn sub ab col dd k0 k1 k2 k3 k5 xNew)) (g1:findIn K (.ref C) "__getattribute__"=some (some (.builtin xGa))) (g2:findIn K (.ref C) "__getattr__"=some none) (hf:findObj K C od "__class__"=some (.bind (.builtin "getset_descriptor.__get__") (.builtin "object.__class__"))) (hm:mroIn K C (.type "object")=some true) (h:Q (some (.ref C)) { s with toks:=s.toks+1 }):wpAny (Ai prog w) A (getAttr? (.ref x) "__class__") Q E s:=by
 obtain⟨hh',g,d,t,os⟩:=s
 have L0:=Qq (I.type (M:=Ai prog w))
 have L1:=Qq (looks_find (M:=Ai prog w) X I hf)
 unfold getAttr? getAttrBy?
 refine Aa (wpAny_mkText (Aa (BV ?_)))
 refine xg_by (X _ _ oC) I.at_ I.cls (Qq (looks_findIn X g1)) (Qq (looks_findIn X g2)) ?_
 refine Aa (Af (Aa (Af (Aa (L0.run rfl (Aa (L1.run rfl ?_)))))))
 show wpAny _ _ (Bd [Value.builtin "object.__class__"] (call (.builtin "getset_descriptor.__get__") [.builtin "object.__class__",.ref x,.ref C]) >>= ret) _ _ _
 refine Aa (AM (Ba (class_get (s:=⟨hh',g,d,t+1,os⟩) (ox:=ox) (od:=od) X I hm ?_)))
 refine Af ?_
 show wpAny _ _ (handedOut (.ref C)) _ _ _
 rw[handedOut_of rfl]
 exact Af (Af h)
end
end L2
namespace L2
open PySem PySem.Spec PyProof.Rows
noncomputable def XO (e C:Ab)(od:Option Ab)(fr:Bool):HO:=.ext fun h=>∃(vs:Array Ac) (t0:Ab),h.get? e=some ⟨.ref C,od,.fields vs,#[]⟩/\vs.size=6/\vs[0]?=some (.ref t0)/\(fr=true->vs[1]?=some .none)
theorem Sd (he:h.get? e=some ⟨.ref C,od,.fields vs,#[]⟩) (hz:vs.size=6) (h0:vs[0]?=some (.ref t0)) (h1:fr=true->vs[1]?=some .none):
  ObjOk P w H h e (XO e C od fr):=⟨⟨vs,t0,he,hz,h0,h1⟩,⟨_,he⟩,fun _ _ ⟨vs,t0,a,b⟩ k=>⟨vs,t0,k _ a,b⟩⟩
theorem SV (ok:HOk P w H h) (q:H e=some (XO e C od fr)):
  ∃(vs:Array Ac) (t0:Ab),h.get? e=some ⟨.ref C,od,.fields vs,#[]⟩/\vs.size=6/\vs[0]?=some (.ref t0)/\(fr=true->vs[1]?=some .none):=(ok e _ q).1
theorem Se (h:H a=some o):upd H a o=H:=by
 funext b;unfold upd;split
 ·rename_i e;rw[e,h]
 ·rfl
structure Exc (K:MV)(W C:Ab):Prop where
 ob:∃(nm qn:Str) (N:Ab) (bs:List Ac) (sn:List Str) (sub:List Ac) (ab:Bool) (col:Option Bool) (dd:Option Ab) (k0 k1 k2 k3 k5:Option Ac),
  K.lookup C=some (At nm qn C N bs (.ref W::vBM) true sn sub ab col dd k0 k1 k2 k3 k5 xNew)
 ga:Nv K (.ref C) "__getattribute__"=some (some (.builtin xGa))
 gr:Nv K (.ref C) "__getattr__"=some none
 sa:Nv K (.ref C) "__setattr__"=some (some (.builtin "object.__setattr__"))
 kp:Po K (.ref C)=true
 cl:Nv K (.ref C) "__class__"=some (some (.builtin "object.__class__"))
theorem Exc.cls {K:MV}{W C:Ab}(x:Exc K W C):∃ cd,aM K C=some cd/\cd.mro=.ref C::.ref W::vBM/\cd.hasDict=true:=by
 obtain⟨nm,qn,N,bs,sn,sub,ab,col,dd,k0,k1,k2,k3,k5,h⟩:=x.ob
 exact⟨_,by unfold aM;rw[h],rfl,rfl⟩
theorem Exc.hd {K:MV}{W C:Ab}(x:Exc K W C):Sz K C=true:=by
 obtain⟨cd,h1,_,h2⟩:=x.cls
 unfold Sz;rw[h1];exact h2
section
variable {X:Cx}{B4:List (Ab×Obj)}{σ:St}{H:Hp}{s:Ad}{W C f:Ab}{fd:Aw}{ps:List Str}{sp:Sp}{k:Nat}{CX:CXT}{E:XK}
theorem f7 (M:Exc X.K W C) (hi:Nv X.K (.ref C) "__init__"=some (some (.ref f))) (hf:S4 X.K (.ref f)=true) (F:FnOk X.prog X.w X.K X.mg X.base CX k f fd ps sp) (hr:Room (k+1) X.A) (hb:Binds X.K fd ps []) (hx:PM CX X E) (I:Inv X B4 σ H s) (r:Vals vs us) (hz:vs.length<=Ae) (h:∀ x,H x=none->sp (.ref x::vs) (upd H x (XO x C none true)) (fun v H2=>v=.non/\Q (.ref x) H2) E):wpAny (Ai X.prog X.w) X.A (call (.ref C) us) (EP X B4 σ Q) X.xe s:=by
 have hq:=h (s.heap.objs.size+1) (I.hok.fresh (Pr _))
 have Gp:us.length<=Ae:=by rw[<- r.length];exact hz
 have I2:Inv X B4 σ (upd H (s.heap.objs.size+1) (XO (s.heap.objs.size+1) C none true)) { s with heap:=Qp C us s.heap } :=
  I.laid (a:=s.heap.objs.size+1) (o:=XO (s.heap.objs.size+1) C none true) (h':=Qp C us s.heap) (t':=s.toks) (fun b u q=>XT q) (Pr _) (Sd XU rfl rfl fun _=>rfl)
 have r2:Vals (V.ref (s.heap.objs.size+1)::vs) (Value.ref (s.heap.objs.size+1)::us):=.cons rfl r
 have hl:(Value.ref (s.heap.objs.size+1)::us++[]).length=ps.length:=by
  rw[O_,<- r2.length];exact F.len _ _ _ _ hq
 have Gs:=hb { s with heap:=Qp C us s.heap } (Value.ref (s.heap.objs.size+1)::us) I2.kIn hl
 rw[O_] at Gs
 obtain⟨nm,qn,N,bs,sn,sub,ab,col,dd,k0,k1,k2,k3,k5,oC⟩:=M.ob
 have KI:=I.kIn
 have KI2:=I2.kIn
 obtain⟨hh,g,d,t,os⟩:=s
 refine fP (KI _ _ oC) Gp (Qq (ZF KI2 hi)) (Qq (PySem.W.bind_fn KI2 _ (beq_iff_eq.mp hf))) ?_
 refine Ba (AZ (F.run _ X.stack _ _ ⟨Value.ref (hh.objs.size+1)::us,[]⟩ (Value.ref (hh.objs.size+1)::us) _ _ E (hr.make C us []) (I2.env0.make C us []) Gs r2 hq) fun r s' hq'=>?_)
 cases r with
 | error e=>exact hx B4 σ _ _ e s' I2 hq'
 | ok fl =>
  cases fl with
  | ret u =>
   obtain⟨v,H',I3,rv,ev,q3⟩:=I2.after hq'
   subst ev
   exact⟨rv,⟨V.ref (hh.objs.size+1),H',I3,rfl,q3⟩⟩
  | next=>exact O4 hq'
  | brk=>exact O4 hq'
  | cont=>exact O4 hq'
end
section
variable {X:Cx}{W C f:Ab}{fd:Aw}{ps:List Str}{sp:Sp}{k:Nat}{CX:CXT}{E:XK}{x:Str}{p pos Ck:Pos}{e:Av}{es:List Av}{t:TA}
def Uq (C:Ab)(sp:Sp)(E:XK)(t:TA):TE:=fun σ H Q=>t σ H fun vs H1=>vs.length<=Ae/\∀ x,H1 x=none->sp (.ref x::vs) (upd H1 x (XO x C none true)) (fun v H2=>v=.non/\Q (.ref x) H2) E
theorem f8 (M:Exc X.K W C)(hi:Nv X.K (.ref C) "__init__"=some (some (.ref f)))(hf:S4 X.K (.ref f)=true)(F:FnOk X.prog X.w X.K X.mg X.base CX k f fd ps sp)(hr:Room (k+1) X.A)(hg:Gl X x)(hm:X.mg x=some (.ref C))
  (hb:Binds X.K fd ps []) (hx:PM CX X E) (ha:PA X (e::es) t) (Do:(x == ("__debug__":Str))=false:=by decide) (he:Ag (e::es) X.env=(false,Aq e X.env)::Ag es X.env:=by rfl) (Cj:(AB pos (Ag es X.env)).any (·.1)=false:=by rfl) :
  PE X (.Call (.Name x p) (e::es) [] pos) (Uq C sp E t):=by
 intro B4 s σ H Q I h
 refine AE (RD I hg hm ?_ Do)
 refine ZG (h₀:=X.base) I.ok.mod.kin M.kp (thn (ha pos B4 s σ H _ I h) fun us s1 ⟨vs,H1,I1,r,z,q⟩=>⟨I1.kIn,?_⟩) he Cj
 exact f7 M hi hf F hr hb hx I1 r z q
def XY (K:MV)(W:Ab)(t:TA):TE:=fun σ H Q=>t σ H fun vs H1=>∃(e C:Ab) (od:Option Ab) (fr:Bool) (y:V),vs=[.ref e,y]/\H1 e=some (XO e C od fr)/\Exc K W C/\Q .non H1
structure ExcBase (K:MV)(W:Ab):Prop where
 rd:PySem.W.readsIn K W (.type "type")=true
 ga:Vu K (.ref W) "__getattribute__"=some (some (.builtin "type.__getattribute__"))
 ini:PySem.W.findCls K (.ref W) (.type "type") "__init__"=some (.val (.builtin xIni))
theorem XZ (M:ExcBase X.K W) (hg:Gl X x) (hm:X.mg x=some (.ref W)) (ha:PA X (e::es) t) (Do:(x == ("__debug__":Str))=false:=by decide) (he:Ag (e::es) X.env=(false,Aq e X.env)::Ag es X.env:=by rfl) (Cj:(AB pos (Ag es X.env)).any (·.1)=false:=by rfl) (ht:Aq (.Call (.Attribute (.Name x p) "__init__" Ck) (e::es) [] pos) X.env=(do
   let ov <- Aq (.Name x p) X.env
   Bk Ck.atName
   let (f,first) <- Bd [ov] (Bo ov "__init__" pl)
   BI pos f first (AB pos (Ag (e::es) X.env)) (A8 pos (AR [] X.env))):=by rfl):
  PE X (.Call (.Attribute (.Name x p) "__init__" Ck) (e::es) [] pos) (XY X.K W t):=by
 intro B4 s σ H Q I h
 refine aF (pl:=pl) (RD I hg hm ?_ Do) ht
 refine PySem.W.method_cls I.kIn M.ga (PySem.W.cls_value I.kIn M.rd M.ini rfl ?_)
 refine j8 (thn (ha pos B4 _ σ H _ (I.tok _) h) fun us s1 hI9=>?_) he Cj
 obtain⟨vs,H1,I1,r,ex,C,od,fr,y,ev,hX,hE,q⟩:=hI9
 subst ev
 cases r with
 | cons r1 rs =>
  cases (show _=Value.ref ex from r1)
  obtain⟨vs,t0,he,hz,h0,h1⟩:=SV I1.hok hX
  obtain⟨nm,qn,N,bs,sn,sub,ab,col,dd,k0,k1,k2,k3,k5,oC⟩:=hE.ob
  have B8:=rs.length
  have KI:=I1.kIn
  obtain⟨hh,g,d,t,os⟩:=s1
  refine fN (KI _ _ oC) he h0 (by rw[<- B8];exact szn (by show 1<=1000000;decide)) fun h' hk he'=>⟨.non,_,?_,rfl,q⟩
  have hw:=I1.write (x:=ex) (e:=ex) (h':=h') (o:=XO ex C od fr) (t':=t) (by rw[hX];exact True.intro) (.inl rfl) (fun b u hb q=>hk b u hb q) ⟨_,he'⟩
   (Sd (t0:=hh.objs.size) he' (by rw[ki];exact hz) (by simp[hz]) fun z=>by rw[kg (by decide)];exact h1 z)
  rw[Se hX] at hw
  exact hw
end
abbrev TJ:=St->Hp->Nat->VK->Prop
def PJ (X:Cx)(es:List Av)(t:TJ):Prop:=∀(B4:List (Ab×Obj)) (s:Ad) (σ:St) (H:Hp) (B6:Str) (Q:VK),Inv X B4 σ H s->t σ H B6.length Q ->
 Joins (Ai X.prog X.w) X.A X.xe (evalEach es X.env) B6 (fun out s1=>out.length<=Ae/\EP X B4 σ Q (.str out s1.toks) { s1 with toks:=s1.toks+1 }) s
noncomputable def jNil:TJ:=fun _ H n Q=>n<=1000000/\∀ z,Q (.str z) H
noncomputable def Qb (te:TE)(t:TJ):TJ:=fun σ H n Q=>te σ H fun x H1=>∃ y,x=.str y/\n+y.length<=1000000/\t σ H1 (n+y.length) Q
def tFs (t:TJ):TE:=fun σ H Q=>t σ H 0 Q
section
variable {X:Cx}{e a b:Av}{es:List Av}{te:TE}{t:TJ}{pos:Pos}
theorem X0:PJ X [] jNil:=fun B4 s σ H B6 Q I h=>⟨szn h.1,.str B6,H,I.tok _,⟨_,rfl⟩,h.2 B6⟩
theorem Q6 (he:PE X e te)(hr:PJ X es t)(Lh:evalEach (e::es) X.env=Aq e X.env::evalEach es X.env:=by rfl):PJ X (e::es) (Qb te t):=by
 intro B4 s σ H B6 Q I h
 rw[Lh]
 refine thn (he B4 s σ H _ I h) fun u s1 hI9=>?_
 obtain⟨x,H1,I1,r,y,ex,hz,q⟩:=hI9
 subst ex
 obtain⟨tk,rfl⟩:=(show ∃ tk,u=Value.str y tk from r)
 exact⟨y,tk,rfl,szn (by rw[strLen_append];exact hz),hr B4 s1 σ H1 (B6++y) Q I1 (by rw[strLen_append];exact q)⟩
theorem pe_fs (h:PJ X (a::b::es) t):PE X (.JoinedStr (a::b::es) pos) (tFs t):=by
 intro B4 s σ H Q I q
 exact wpAny_JoinedStr (h B4 s σ H VJ Q I q)
def tFv (te:TE):TE:=fun σ H Q=>te σ H fun x H1=>(∃ i:Int,x=.int i/\i.natAbs.log2 < 1920/\∀ z:Str,z.length<=2000->Q (.str z) H1)∨∃ y:Str,x=.str y/\y.length<=1000000/\Q (.str y) H1
theorem pe_fv (he:PE X e te):PE X (.FormattedValue e (-1) none pos) (tFv te):=by
 intro B4 s σ H Q I q
 refine wpAny_FormattedValue_plain (thn (he B4 s σ H _ I q) fun u s1 hI9=>?_)
 obtain⟨x,H1,I1,r,q1⟩:=hI9
 rcases q1 with ⟨i,rfl,hi,q1⟩ | ⟨y,rfl,hy,q1⟩
 ·obtain⟨tk,rfl⟩:=(show ∃ tk,u=Value.int i tk from r)
  refine wpAny_formatField_int hi ⟨.str (toString i),H1,(I1.tok _),⟨_,rfl⟩,q1 _ ?_⟩
  have:=int_text_length_le (k:=1920) (by decide) hi
  rw[PySem.ofString_length];omega
 ·obtain⟨tk,rfl⟩:=(show ∃ tk,u=Value.str y tk from r)
  exact BH ⟨.str y,H1,I1,⟨_,rfl⟩,q1⟩ ⟨.str y,H1,I1.tok _,⟨_,rfl⟩,q1⟩ (szn hy)
def tFr (te:TE):TE:=fun σ H Q=>te σ H fun x H1=>∃ y:Str,x=.str y/\(PySem.reprText y).length<=1000/\Q (.str (PySem.reprText y)) H1
theorem pe_fr (he:PE X e te):PE X (.FormattedValue e 114 none pos) (tFr te):=by
 intro B4 s σ H Q I q
 refine wpAny_FormattedValue_repr (thn (he B4 s σ H _ I q) fun u s1 hI9=>?_)
 obtain⟨x,H1,I1,r,y,ex,hy,q1⟩:=hI9
 subst ex
 obtain⟨tk,rfl⟩:=(show ∃ tk,u=Value.str y tk from r)
 refine wpAny_pyReprObj_gives (T:="str") rfl slot_str_repr entry_str_repr (args_str_repr _) (gives_str_repr y tk) ?_ rfl (szn (NI hy (by decide)))
 exact BH ⟨.str (BZ y),H1,(I1.tok _),⟨_,rfl⟩,q1⟩ ⟨.str (BZ y),H1,(I1.tok _).tok _,⟨_,rfl⟩,q1⟩ (szn (NI hy (by decide)))
end
theorem Inv.track (I:Inv X B4 σ H s) (n:H d=none) (h0:X.s₀.heap.objs.size<=d) (hl:d≠X.env.locals) (hc:∀ x c,X.env.cells.lookup x=some c->c≠d) (hp:∀ p∈X.pn++B4,p.1≠d) (ok:ObjOk X.prog X.w (upd H d o) s.heap d o):Inv X B4 σ (upd H d o) s:=by
 have ne:∀ b ob,X.s₀.heap.get? b=some ob->b≠d:=fun b ob e=>NB (N6 (Nm e) h0)
 refine⟨I.ok,I.os,I.bare,⟨I.base.keep,I.base.slot,fun b ob e q hx=>?_,I.base.there,fun b xs q=>?_,fun b ob u q=>?_,fun b ps q=>?_⟩,I.loc,I.cell,?_,fun x c e=>?_,fun p hq=>?_,fun b u e=>?_,I.len⟩
 ·rw[MR (ne b ob e)];exact I.base.free b ob e q hx
 ·have q2:=I.base.tups b xs q
  rw[MR (MZ q2 n)];exact q2
 ·have q2:=I.base.frzs b ob u q
  rw[MR (MZ q2 n)];exact q2
 ·obtain⟨more,q2⟩:=I.base.tbls b ps q
  exact⟨more,by rw[MR (MZ q2 n)];exact q2⟩
 ·rw[MR (M7 hl)];exact I.free
 ·rw[MR (hc x c e)];exact I.freeC x c e
 ·obtain⟨e1,e2,e3⟩:=I.pin p hq
  exact⟨e1,by rw[MR (hp p hq)];exact e2,e3⟩
 ·by_cases hb:b=d
  ·subst hb;rw[MT] at e;cases e;exact ok
  ·rw[MR hb] at e
   exact(I.hok b u e).stay (fun _ _ _ q=>q) (fun c q=>by rw[MR (MZ q n)];exact q) fun c xs q=>by rw[MR (MZ q n)];exact q
theorem X1 (h:a≠b):upd (upd H a o) b u=upd (upd H b u) a o:=by
 funext c;unfold upd
 by_cases h1:c=a
 ·subst h1;simp[h]
 ·simp[h1]
section
variable {X:Cx}{o e value:Av}{f:Str}{pos pos':Pos}{ta tv:TE}
def sFldX (K:MV)(ta tv:TE)(f:Str):TS:=fun D σ H=>tv σ H fun y H1=>ta σ H1 fun x H2=>∃(a C W:Ab) (fr:Bool),x=.ref a/\H2 a=some (XO a C none fr)/\Exc K W C/\NoAttr K C f /\
 ∀ d,H2 d=none->d≠a->D.nx σ (upd (upd H2 d (.xd [(f,y)])) a (XO a C (some d) fr))
theorem X2 (ha:PE X o ta)(hv:PE X value tv)(hs:Bm value (some (.Attribute o f pos')) pos.line X.env=pure false):PS X (.Assign [.Attribute o f pos'] value pos) (sFldX X.K ta tv f):=by
 intro B4 s σ H D I h
 refine A_ (thn (hv B4 s σ H _ I h) fun u s1 ⟨y,H1,I1,ry,q⟩=>thn (ha B4 s1 σ H1 _ I1 q) fun ov s2 hI9=>?_) hs
 obtain⟨x,H2,I2,rx,a,C,W,fr,ex,ea,M,n,q2⟩:=hI9
 subst ex
 obtain rfl:ov=Value.ref a:=rx
 obtain⟨vs,t0,he,hz,h0,h1⟩:=SV I2.hok ea
 obtain⟨nm,qn,N,bs,sn,sub,ab,col,dd,k0,k1,k2,k3,k5,oC⟩:=M.ob
 have KI:=I2.kIn
 have Ed:H2 s2.heap.objs.size=none:=I2.hok.fresh (M6 _)
 have Cz:=Nm he
 obtain⟨hh,g,d,t,os⟩:=s2
 refine fR (KI _ _ oC) he rfl rfl rfl rfl (Qq (ZF KI M.sa)) (Qq (ZF KI n)) fun h' tk' e1 e2 e3=>⟨σ,_,?_,q2 hh.objs.size Ed (Ta Cz)⟩
 have Hm:a≠hh.objs.size:=NB Cz
 have hw:=I2.write (x:=a) (e:=a) (h':=h') (o:=XO a C (some hh.objs.size) fr) (t':=tk') (by rw[ea];exact True.intro) (.inl rfl) (fun b u hb q=>e3 b u hb q) ⟨_,e1⟩ (Sd e1 hz h0 h1)
 have n2:(upd H2 a (XO a C (some hh.objs.size) fr)) hh.objs.size=none:=by rw[MR (M7 Hm)];exact Ed
 have ht:=hw.track (d:=hh.objs.size) (o:=.xd [(f,y)]) n2 I2.sz (Ta I2.lt) (fun x c e=>?_) (fun p hp=>?_) ⟨_,e2,fun g=>?_⟩
 ·rw[X1 Hm] at ht;exact ht
 ·obtain⟨v,o,ho,_⟩:=I2.cell x c e
  exact NB (Nm ho)
 ·obtain⟨e1,_⟩:=I2.pin p hp
  exact NB (Nm e1)
 ·by_cases hg:g=f
  ·subst hg
   have:Qw g [(g,y)]=some y:=by simp[Qw]
   rw[this,B3 rfl];exact ry
  ·have:Qw g [(f,y)]=none:=by
    have hb:(g == f)=false:=beq_eq_false_iff_ne.mpr hg
    simp[Qw,hb]
   rw[this,B2 hg];exact True.intro
def tFldX (K:MV)(ta:TE)(f:Str):TE:=fun σ H Q=>ta σ H fun x H1=>∃(a C W d:Ab) (fr:Bool) (fs:List (Str×V)) (v:V),x=.ref a/\H1 a=some (XO a C (some d) fr)/\H1 d=some (.xd fs)/\Exc K W C/\NoAttr K C f/\fs.lookup f=some v/\Q v H1
theorem X3 {K:MV}(he:PE X e ta)(hb:AH e f X.env (Aq e X.env)=Aq e X.env)(hK:X.K=K:=by rfl):PE X (.Attribute e f pos) (tFldX K ta f):=by
 subst hK
 intro B4 s σ H Q I h
 refine V_ hb (thn (he B4 s σ H _ I h) fun u s1 hI9=>?_)
 obtain⟨x,H1,I1,rx,a,C,W,d,fr,fs,v,ex,ea,ed,M,n,l,q⟩:=hI9
 subst ex
 obtain rfl:u=Value.ref a:=rx
 obtain⟨vs,t0,he,hz,h0,h1⟩:=SV I1.hok ea
 obtain⟨mA,nA,rA⟩:=(show ∃ mA,s1.heap.Ns1 d mA/\∀ f,RelO (fs.lookup f) (mA f) from I1.hok d _ ed)
 obtain⟨od,ho,hl⟩:=V5 nA
 obtain⟨u,hu,ru⟩:=RelO.some_of (v:=v) (o:=mA f) (by rw[<- l];exact rA f)
 have J:ZI s1.heap a ⟨.ref C,some d,.fields vs,#[]⟩ C (some od):=⟨he,rfl,rfl,ho⟩
 obtain⟨nm,qn,N,bs,sn,sub,ab,col,dd,k0,k1,k2,k3,k5,oC⟩:=M.ob
 exact fZ I1.kIn J oC M.ga M.gr (jE M.hd n rfl (by rw[hl,hu])) (V8 ru) ⟨v,H1,I1.tok _,ru,q⟩
end
theorem xo_ne {H:Hp}{x b C:Ab}{od:Option Ab}{fr:Bool}(h:H x=some (XO x C od fr))(n:H b=none):b≠x:=fun e=>by rw[e,h] at n;cases n
theorem Ur (U:Un fs' [] H₀ H h₀ h) (Li:∀ b o,h₀.get? b=some o->b∈fs'->b∈fs) (hX:H x=some (XO x C od fr)) (hb:∀ b o o',h₀.get? b=some o'->h.get? b=some o->b∉fs->b≠x->base.get? b=some o) (F:Fl base l x C od fl h') (us:h.UpToSlots h') (hf:∀ b∈fs,∀ o,h.get? b=some o->∀ vs,o.data≠.fields vs):Un fs [] H₀ (upd H x (XO x C od false)) h₀ h':=by
 have noE:∀ b:Ab,b∉([]:List Ab):=fun b z=>by simp at z
 refine⟨fun b o q n hn _=>?_,fun b o q n hn _=>?_,fun b o q n _=>?_,fun b o q _=>?_,fun b xs q=>?_,fun b o u q=>?_,fun b ps q=>?_⟩
 ·have e1:=U.keep b o q n (fun z=>hn (Li b o q z)) (noE b)
  exact F.1 b o (hb b o o q e1 hn (xo_ne hX (U.free b o q n (noE b))))
 ·by_cases hm:b∈fs'
  ·obtain⟨sl,e1⟩:=U.slot b o q n hm (noE b)
   obtain⟨sl2,e2⟩:=us b _ e1 (hf b hn _ e1)
   exact⟨sl2,e2⟩
  ·have e1:=U.keep b o q n hm (noE b)
   obtain⟨sl2,e2⟩:=us b _ e1 (hf b hn _ e1)
   exact⟨sl2,e2⟩
 ·have n1:=U.free b o q n (noE b)
  rw[MR (xo_ne hX n1)];exact n1
 ·obtain⟨o1,e1⟩:=U.there b o q (noE b)
  by_cases hm:b∈fs
  ·obtain⟨sl,e2⟩:=us b _ e1 (hf b hm _ e1)
   exact⟨_,e2⟩
  ·by_cases hx:b=x
   ·obtain⟨vs,t0,e2,_⟩:=F.at
    exact⟨_,by rw[hx];exact e2⟩
   ·exact⟨o1,F.1 b o1 (hb b o1 o q e1 hm hx)⟩
 ·have n1:=U.tups b xs q
  rw[MR (OK n1 hX (by intro z;cases z))];exact n1
 ·have n1:=U.frzs b o u q
  rw[MR (OK n1 hX (by intro z;cases z))];exact n1
 ·obtain⟨more,n1⟩:=U.tbls b ps q
  exact⟨more,by rw[MR (OK n1 hX (by intro z;cases z))];exact n1⟩
theorem Us (x:ObjOk P w H h a o):∃ ob,h.get? a=some ob:=by
 cases o with
 | lst xs=>obtain⟨_,_,_,_,e⟩:=x;exact⟨_,e⟩
 | tup xs=>obtain⟨_,_,_,⟨o,e,_⟩,_⟩:=x;exact⟨_,e⟩
 | dK kvs=>obtain⟨_,_,_,_,o,_,_,e,_⟩:=x;exact⟨_,e⟩
 | dT kvs=>obtain⟨_,_,_,_,o,_,_,e,_⟩:=x;exact⟨_,e⟩
 | set S n=>obtain⟨o,_,_,_,e,_⟩:=x;exact⟨_,e⟩
 | ins C dx fs=>obtain⟨_,_,_,e,_⟩:=x;exact⟨_,e⟩
 | own y=>exact x
 | xd fs=>obtain⟨_,⟨_,_,_,e,_⟩,_⟩:=x;exact⟨_,e⟩
 | rng lo hi=>obtain⟨_,_,_,e⟩:=x;exact⟨_,e⟩
 | frz ob u=>obtain⟨e,_⟩:=x;exact⟨_,e⟩
 | tbl ps=>exact⟨_,x⟩
 | met f y=>exact⟨_,x⟩
 | ext φ=>obtain⟨_,e,_⟩:=x;exact e
theorem Ut (ok:HOk P w H h) (hX:H x=some (XO x C od fr)) (ht:∀ a u o,H a=some u->a≠x->h.get? a=some o->base.get? a=some o) (F:Fl base l x C od fl h'):HOk P w (upd H x (XO x C od false)) h':=fun a u e=>by
 by_cases ha:a=x
 ·subst ha
  rw[MT] at e;cases e
  obtain⟨vs,t0,e2,hz,h0⟩:=F.at
  exact Sd e2 hz h0 fun z=>by cases z
 ·rw[MR ha] at e
  refine(ok a u e).stay (fun b v hb q=>?_) (fun b q=>?_) fun b xs q=>?_
  ·have Jy:b≠x:=by
    rcases hb with rfl | hb
    ·exact ha
    ·exact OK hb hX (by intro z;cases z)
   rcases hb with rfl | hb
   ·exact F.1 _ _ (ht _ _ _ e Jy q)
   ·exact F.1 _ _ (ht _ _ _ hb Jy q)
  ·rw[MR (OK q hX (by intro z;cases z))];exact q
  ·rw[MR (OK q hX (by intro z;cases z))];exact q
noncomputable def CXx (P:Aj)(w:Ak):CXT:=fun outer H s E e s'=>∃(x C:Ab) (od:Option Ab) (H':Hp) (base:An),e=.ref x/\s'.os=s.os/\Bj s'.gens/\Un (frs outer) [] H H' s.heap s'.heap/\HOk P w H' s'.heap /\
 H' x=some (XO x C od false)/\Fl base outer x C od .none s'.heap/\(∀ a u o,H' a=some u->a≠x->s'.heap.get? a=some o->base.get? a=some o) /\
 (∀ b o o',s.heap.get? b=some o'->s'.heap.get? b=some o->b∉frs outer->b≠x->base.get? b=some o)/\E (.ref x) od H'
def Thr (X:Cx)(E:XK):Prop:=∀(B4:List (Ab×Obj)) (σ:St) (H:Hp) (s:Ad) (x C:Ab) (od:Option Ab),Inv X B4 σ H s->H x=some (XO x C od true)->E (.ref x) od (upd H x (XO x C od false))->X.xe (.ref x) s
section
variable {X:Cx}{B4:List (Ab×Obj)}{σ:St}{H:Hp}{s:Ad}
theorem Inv.below (I:Inv X B4 σ H s) (e:X.s₀.heap.get? b=some o):b≠X.env.locals:=NB (N6 (Nm e) I.ok.above)
theorem f9 (I:Inv X B4 σ H s) (hX:H x=some (XO x C od fr)):
  ∃ base:An,base.StaysIn s.heap/\base.get? x=none/\s.heap.FunFrames base X.stack/\∀ b o,s.heap.get? b=some o->b∉frs X.stack->b≠x->base.get? b=some o:=by
 refine⟨PySem.W.hideAll s.heap (x::frs X.stack),fun b o e=>jF _ e,jC _ N1,PySem.W.funFrames_hide I.stack fun env he a hf=>NH _ (S5.mpr ⟨env,he,hf⟩),fun b o e hn hx=>jD _ e fun hm=>?_⟩
 rcases Nf.mp hm with z | z
 ·exact hx z
 ·exact hn z
theorem f_ (I:Inv X B4 σ H s):∀ b∈frs X.stack,∀ o,s.heap.get? b=some o->∀ vs,o.data≠.fields vs:=fun b hb o e vs=>by
 obtain⟨_,o2,e2,h2⟩:=I.stack.mem hb
 rw[e] at e2;cases e2;exact h2 vs
end
section
variable {CX:CXT}{P:Aj}{w:Ak}{K:MV}{mg:Str->Option Ac}{base:An}{N:List Str}{Ca:Str}{scope:Bt}{f:Ab}{cd:Ac}{A:Am}{outer:List Env}{s:Ad}{H:Hp}{E:XK}
theorem Uu:Thr (cxOf (CXx P w) P w K mg base N Ca scope f cd A outer s H E) E:=fun B4 σ H1 s1 x C od I hX hE=>by
 obtain⟨B,b1,b2,b3,b4⟩:=f9 I hX
 obtain⟨vs,t0,e0,hz,h0,h1⟩:=SV I.hok hX
 refine fU (base:=B) (outer:=outer) (L:=s.heap.objs.size) (I.ok.frames) b3 rfl b1 b2 e0 hz h0 (h1 rfl) fun h' x1 u1=>?_
 have ht:∀ a u o,H1 a=some u->a≠x->s1.heap.get? a=some o->B.get? a=some o:=fun a u o q hx e=>b4 a o e (fun z=>by rw[I.stkFree a z] at q;cases q) hx
 refine⟨x,C,od,upd H1 x (XO x C od false),B,rfl,I.os,I.bare,Ur (fs:=frs outer) I.base (fun _ _ _ z=>z) hX (fun b o o' q e hn hx=>b4 b o e (fun z=>?_) hx) x1 u1 (fun b hb=>f_ I b (S5.mpr ?_)),Ut I.hok hX ht x1,MT,x1,fun a u o q hx e=>?_,fun b o o' q e hn hx=>?_,hE⟩
 ·rcases Nf.mp (I.stkSub b z) with z | z
  ·exact I.below q z
  ·exact hn z
 ·obtain⟨env,he,hf⟩:=S5.mp hb
  exact⟨env,NH _ he,hf⟩
 ·rw[MR hx] at q
  obtain⟨ob,e2⟩:=Us (I.hok a u q)
  have e3:=ht a u ob q hx e2
  have e4:=x1.1 a ob e3
  have e5:some o=some ob:=e.symm.trans e4
  cases e5;exact e3
 ·obtain⟨o2,e2⟩:=I.base.there b o' q (by show b∉([]:List Ab);simp)
  have e3:=b4 b o2 e2 (fun z=>by
   rcases Nf.mp (I.stkSub b z) with z | z
   ·exact I.below q z
   ·exact hn z) hx
  have e4:=x1.1 b o2 e3
  have e5:some o=some o2:=e.symm.trans e4
  cases e5;exact e3
theorem aA (Lj:∀ v od H,E' v od H->E v od H):PM (CXx P w) (cxOf (CXx P w) P w K mg base N Ca scope f cd A outer s H E) E':=fun B4 σ H1 s1 e s2 I h=>by
 obtain⟨x,C,od,H2,B,rfl,os,bare,U,ok,hX,F,ht,hb,hE⟩:=h
 refine fT (base:=B) (outer:=outer) (L:=s.heap.objs.size) I.ok.frames rfl F fun h' x1 u1=>?_
 have noE:∀ b:Ab,b∉([]:List Ab):=fun b z=>by simp at z
 have Cn:∀ b o,s.heap.get? b=some o->b∈frs (cxOf (CXx P w) P w K mg base N Ca scope f cd A outer s H E).stack->b∈frs outer:=fun b o q z=>by
  rcases Nf.mp (I.stkSub b z) with z | z
  ·exact absurd z (I.below q)
  ·exact z
 have hU:Un (frs (cxOf (CXx P w) P w K mg base N Ca scope f cd A outer s H E).stack) [] H H2 s.heap s2.heap :=
  (I.base.mono (fun b hb=>by obtain⟨env,he,hf⟩:=S5.mp hb;exact S5.mpr ⟨env,NH _ he,hf⟩) (fun b z=>z)).trans U
 have Ea:=Ur (fs:=frs outer) hU Cn hX (fun b o o' q e hn hx=>?_) x1 u1 (fun b hb o q=>?_)
 rw[Se hX] at Ea
 have FR:=Ut ok hX ht x1
 rw[Se hX] at FR
 refine⟨x,C,od,H2,B,rfl,os.trans I.os,bare,Ea,FR,hX,x1,fun a u o q hx e=>?_,fun b o o' q e hn hx=>?_,Lj _ _ _ hE⟩
 ·obtain⟨ob,e2⟩:=Us (ok a u q)
  have e3:=ht a u ob q hx e2
  have e4:=x1.1 a ob e3
  have e5:some o=some ob:=e.symm.trans e4
  cases e5;exact e3
 ·obtain⟨o2,e2⟩:=I.base.there b o' q (noE b)
  obtain⟨o3,e3⟩:=U.there b o2 e2 (noE b)
  have e4:=hb b o3 o2 e2 e3 (fun z=>hn (Cn b o' q z)) hx
  have e5:=x1.1 b o3 e4
  have e6:some o=some o3:=e.symm.trans e5
  cases e6;exact e4
 ·obtain⟨o2,e2⟩:=I.base.there b o' q (noE b)
  exact hb b o o2 e2 e (fun z=>hn (Cn b o' q z)) hx
 ·have hm:b∈(outer).filterMap (·.frame):=hb
  obtain⟨_,o2,e2,h2⟩:=F.2.2.1.2.2.mem hm
  rw[q] at e2;cases e2;exact h2
end
section
variable {X:Cx}{e:Av}{te:TE}{pos:Pos}{E:XK}
def X4 (K:MV)(E:XK)(te:TE):TS:=fun _ σ H=>te σ H fun v H1=>∃(x C W:Ab) (od:Option Ab),v=.ref x/\H1 x=some (XO x C od true)/\Exc K W C/\E (.ref x) od (upd H1 x (XO x C od false))
theorem Uv (hc:X.calm=true)(ht:Thr X E)(he:PE X e te):PS X (.Raise (some e) none pos) (X4 X.K E te):=by
 intro B4 s σ H D I h
 refine fW (I.ok.hd hc) (thn (he B4 s σ H _ I h) fun u s1 hI9=>?_)
 obtain⟨v,H1,I1,r,x,C,W,od,ev,hX,M,q⟩:=hI9
 subst ev
 obtain rfl:u=Value.ref x:=r
 obtain⟨vs,t0,e0,hz,h0,h1⟩:=SV I1.hok hX
 obtain⟨nm,qn,N,bs,sn,sub,ab,col,dd,k0,k1,k2,k3,k5,oC⟩:=M.ob
 exact⟨x,od,vs,rfl,⟨nm,qn,C,N,bs,W,true,sn,sub,ab,col,dd,k0,k1,k2,k3,k5,I1.kIn _ _ oC,e0⟩,h1 rfl,ht B4 σ H1 s1 x C od I1 hX q⟩
end
section
variable {X:Cx}{B4:List (Ab×Obj)}{σ:St}{H:Hp}{s:Ad}
theorem X5 (I:Inv X B4 σ H s) (hN:X.N.Nodup) (hi:X.N[i]?=some x) (hk:X.env.scope.names.lookup x=some .local) (h:∀ s',Inv X B4 (σ.set i none) H s'->Q () s'):wpAny M A (do bindName X.env x .none;BM X.env x pos) Q E s:=by
 refine Aa (wpAny_bindName (RC (v:=.non) (u:=.none) I hN hi (.inl hk) rfl (fun s1 I1=>?_) (.inr hk)))
 have hiσ:i < σ.length:=by rw[I.len];exact(NJ.mp hi).1
 obtain⟨m,hn,hl⟩:=id I1.loc
 have Gd:(X.env.scope.kind == .class || (X.env.scope.kind == .module&&X.env.locals != X.env.globals))=false:=by rw[I1.ok.kind];rfl
 have cne:=I1.cne
 obtain⟨u0,r0,q0⟩:=hl i x .non hi (by rw[ZN hiσ]) (.inl hk)
 have hv:m x=some u0:=by
  rcases q0 with ⟨_,e⟩ | ⟨k,_⟩
  ·exact e
  ·have k':X.env.scope.names.lookup x=some .cell∨X.env.scope.names.lookup x=some .free:=k
   rcases k' with z | z <;> (rw[hk] at z;cases z)
 unfold BM
 refine A1 (wpAny_unbindName_local hk hn hv Gd fun h' u hn' hs=>h _ ?_)
 obtain⟨oL,_,_,Ki,_⟩:=id hn
 have tracked:HOk X.prog X.w H h':=fun b ob e=>by
  refine(I1.hok b ob e).stay (fun c w' hc q=>(hs.2 c ?_).trans q) (fun _ q=>q) fun _ _ q=>q
  rintro rfl
  rcases hc with rfl | hc
  ·rw[I1.free] at e;cases e
  ·rw[I1.free] at hc;cases hc
 refine⟨I1.ok,I1.os,I1.bare,⟨fun b o e n hb hx=>?_,fun b o e n hb hx=>?_,I1.base.free,fun b o e hx=>?_,I1.base.tups,I1.base.frzs,I1.base.tbls⟩,⟨_,hn',fun j y v' e1 e2 e3=>?_⟩,fun y c e=>?_,I1.free,I1.freeC,fun p hp=>?_,tracked,by simpa using I.len⟩
 ·exact(hs.2 b (I1.below e)).trans (I1.base.keep b o e n hb hx)
 ·obtain⟨sl,e1⟩:=I1.base.slot b o e n hb hx
  exact⟨sl,(hs.2 b (I1.below e)).trans e1⟩
 ·obtain⟨o',e1⟩:=I1.base.there b o e hx
  exact⟨o',(hs.2 b (I1.below e)).trans e1⟩
 ·by_cases hj:j=i
  ·subst hj
   rw[ZN hiσ] at e2
   cases e2
  ·rw[ZQ (M7 hj)] at e2
   obtain⟨u',r',q⟩:=hl j y v' e1 (by rw[ZQ (M7 hj)];exact e2) e3
   refine⟨u',r',?_⟩
   rcases q with ⟨k,e⟩ | ⟨k,c,e,z⟩
   ·refine .inl ⟨k,?_⟩
    have:y≠x:=fun e=>hj (Tf hN e1 (e▸hi))
    simp[this,e]
   ·exact .inr ⟨k,c,e,z.sameBut hs (cne y c e)⟩
 ·obtain⟨w',z⟩:=I1.cell y c e
  exact⟨w',z.sameBut hs (cne y c e)⟩
 ·obtain⟨e,n,ne,nf,d⟩:=I1.pin p hp
  exact⟨(hs.2 p.1 ne).trans e,n,ne,nf,d⟩
noncomputable abbrev Cx.marked (X:Cx)(x:Ab):Cx:={ X with A:=X.A.mark (some (.ref x)),calm:=false,xe:=fun _ _=>False }
theorem Inv.mark (I:Inv X B4 σ H s)(x:Ab):Inv (X.marked x) B4 σ H s :=
 ⟨⟨I.ok.mod,I.ok.kind,I.ok.glob,I.ok.blt,I.ok.above,I.ok.inj,I.ok.has,I.ok.cab,(fun z=>nomatch z),I.ok.frames,I.ok.stk,I.ok.exf,I.ok.bs,I.ok.bsz,I.ok.noex,I.ok.exfs,I.ok.funs,I.ok.frf⟩,I.os,I.bare,I.base,I.loc,I.cell,I.free,I.freeC,I.pin,I.hok,I.len⟩
theorem Inv.unmark (I0:X.Ok) (I:Inv (X.marked x) B4 σ H s):Inv X B4 σ H s:=⟨I0,I.os,I.bare,I.base,I.loc,I.cell,I.free,I.freeC,I.pin,I.hok,I.len⟩
noncomputable abbrev Cx.tried (X:Cx)(pn:List (Ab×Obj))(xe:Ac->Ad->Prop):Cx:={ X with pn:=pn,xe:=xe }
theorem Inv.f' (I:Inv X B4 σ H s)(xe:Ac->Ad->Prop):Inv (X.tried (X.pn++B4) xe) [] σ H s :=
 ⟨⟨I.ok.mod,I.ok.kind,I.ok.glob,I.ok.blt,I.ok.above,I.ok.inj,I.ok.has,I.ok.cab,I.ok.hd,I.ok.frames,I.ok.stk,I.ok.exf,I.ok.bs,I.ok.bsz,I.ok.noex,I.ok.exfs,I.ok.funs,I.ok.frf⟩,I.os,I.bare,I.base,I.loc,I.cell,I.free,I.freeC,fun p hp=>I.pin p (by simpa using hp),I.hok,I.len⟩
theorem Inv.untry (I0:X.Ok) (I:Inv (X.tried (X.pn++B4) xe) pins' σ H s):Inv X B4 σ H s :=
 ⟨I0,I.os,I.bare,I.base,I.loc,I.cell,I.free,I.freeC,fun p hp=>I.pin p (Vw _ hp),I.hok,I.len⟩
end
section
variable {X:Cx}{EX:XK}{W:Ab}{Wn en:Str}{i:Nat}{body suite:List As}{b0:As}{tb ts:TS}{wp EI pos:Pos}
def tTry (EX:XK)(i n:Nat)(tb ts:TS):TS:=fun D σ H=>tb D σ H/\∀(σ':St) (v:V) (x:Ab) (od:Option Ab) (H':Hp),σ'.length=n->EX (.ref x) od H'->v=.ref x->ts { nx:=fun σ2 H2=>D.nx (σ2.set i none) H2,rt:=D.rt } (σ'.set i (some v)) H'
structure ExcW (K:MV)(W:Ab):Prop where
 ob:∃(nm qn:Str) (N:Ab) (bs:List Ac) (hd:Bool) (sn:List Str) (sub:List Ac) (ab:Bool) (col:Option Bool) (dd:Option Ab) (k0 k1 k2 k3 k5:Option Ac) (nw:String),
  K.lookup W=some (At nm qn W N bs vBM hd sn sub ab col dd k0 k1 k2 k3 k5 nw)
theorem ps_try (Cn:X.stack=X.env::X.outer)(hL:X.env.frame=some X.env.locals)(hN:X.N.Nodup)(hi:X.N[i]?=some en)(hk:X.env.scope.names.lookup en=some .local)(hg:Gl X Wn)(hm:X.mg Wn=some (.ref W))(MW:ExcW X.K W)
  (hE:∀ x od H',EX (.ref x) od H'->∃ C,H' x=some (XO x C od false)/\Exc X.K W C)
  (hb:∀ pn xe,PM (CXx X.prog X.w) (X.tried pn xe) EX->PSs (X.tried pn xe) body tb) (hs:∀ x,PSs (X.marked x) (b0::suite) ts) (Do:(Wn == ("__debug__":Str))=false:=by decide) :
  PS X (.Try body [.ExceptHandler (some (.Name Wn wp)) (some en) (b0::suite) EI] [] [] pos) (tTry EX i X.N.length tb ts):=by
 intro B4 s σ H D I ⟨q1,q2⟩
 refine wpAny_Try_except (Ao (hb (X.pn++B4) (fun e s1=>∃ σ' H' s',Inv X B4 σ' H' s'/\CXx X.prog X.w X.stack H' s' EX e s1) (fun pins' σ' H' s' e s1 I' z=>⟨σ',H',s',Inv.untry I.ok I',z⟩) [] s σ H D (I.f' _) q1) (fun f s1 z=>?_) fun e s1 z=>?_)
 ·cases f with
  | next =>
   obtain⟨σ',H',I',q⟩:=z
   exact A2 ⟨σ',H',Inv.untry I.ok I',q⟩
  | brk=>obtain⟨σ',H',I',q⟩:=z;exact⟨σ',H',Inv.untry I.ok I',q⟩
  | cont=>obtain⟨σ',H',I',q⟩:=z;exact⟨σ',H',Inv.untry I.ok I',q⟩
  | ret u=>obtain⟨v,σ',H',I',r,q⟩:=z;exact⟨v,σ',H',Inv.untry I.ok I',r,q⟩
 ·obtain⟨σ',H1,s',I1,x,C,od,H2,B,rfl,os,bare,U,ok,hX,F,ht,Jg,Kw⟩:=z
  have F':=F
  rw[Cn] at F
  obtain⟨C',hX',ME⟩:=hE _ _ _ Kw
  obtain⟨_,_,z1,_⟩:=SV ok hX
  obtain⟨_,_,z2,_⟩:=SV ok hX'
  have zC:C=C':=by
   rw[z1] at z2
   have:=congrArg (Option.map Obj.cls) z2
   exact Value.ref.inj (Option.some.inj this)
  subst zC
  obtain⟨nm,qn,N,bs,sn,sub,ab,col,dd,k0,k1,k2,k3,k5,oC⟩:=ME.ob
  obtain⟨nm2,qn2,N2,bs2,C8,sn2,sub2,ab2,col2,dd2,j0,j1,j2,j3,j5,nw2,oW⟩:=MW.ob
  have fd:∀ b∈frs X.stack,∀ o,s1.heap.get? b=some o->∀ vs,o.data≠.fields vs:=fun b hb o q=>by
   obtain⟨_,o2,e2,h2⟩:=F'.2.2.1.mem hb
   rw[q] at e2;cases e2;exact h2
  have inv:∀ h3 t3 l3 fl,Fl B l3 x C od fl h3->s1.heap.UpToSlots h3->Inv X B4 σ' H2 { s1 with heap:=h3,toks:=t3 }:=fun h3 t3 l3 fl x3 u3=>by
   have hU:=Ur (fs:=frs X.stack) U (fun _ _ _ z=>z) hX (fun b o o' q e hn hx=>Jg b o o' q e hn hx) x3 u3 fd
   have hK:=Ut ok hX ht x3
   rw[Se hX] at hU hK
   exact I1.call' (s':={ s1 with heap:=h3,toks:=t3 }) os hU hK bare (fun b z=>absurd z (by simp))
  refine XX (by rw[<- Cn];exact I.ok.frames) hL F fun h2 x2 u2=>?_
  refine Sc (s:={ s1 with heap:=h2 }) x2 fun h3 x3 u3=>?_
  have I3:=inv h3 s1.toks _ _ x3 (u2.trans u3)
  refine wpAny_handleBy_cons (codeAny_handlers_test ?_) (by intro q;cases q)
  refine RD (X:=X.marked x) (I3.mark x) hg hm ?_ Do
  obtain⟨vs3,t03,e3,_⟩:=x3.at
  have kI:=I3.kIn
  obtain⟨sh,sg,sd,st,so⟩:=s1
  refine fX (kI _ _ oC) (kI _ _ oW) e3 rfl ?_
  refine codeAny_handlers_suite_as ?_
  refine Sc (s:=⟨h3,sg,sd,st,so⟩) x3 fun h5 x5 u5=>?_
  have I5:=inv h5 st _ _ x5 ((u2.trans u3).trans u5)
  refine RC (X:=X.marked x) (v:=.ref x) (I5.mark x) hN hi (.inl hk) rfl (fun s6 I6=>?_) (.inr hk)
  have B8:σ'.length=X.N.length:=I5.len
  refine Ao (hs x B4 s6 _ H2 _ I6 (q2 σ' (.ref x) x od H2 B8 Kw rfl)) (fun f s7 z=>?_) fun _ _ z=>z.elim
  cases f with
  | next =>
   obtain⟨σ7,H7,I7,q7⟩:=z
   exact X5 (Inv.unmark I.ok I7) hN hi hk fun s8 I8=>⟨_,H7,I8,q7⟩
  | brk=>obtain⟨_,_,_,z⟩:=z;exact z.elim
  | cont=>obtain⟨_,_,_,z⟩:=z;exact z.elim
  | ret u =>
   obtain⟨v,σ7,H7,I7,r7,q7⟩:=z
   exact X5 (Inv.unmark I.ok I7) hN hi hk fun s8 I8=>⟨v,_,H7,I8,r7,q7⟩
end
theorem gb:∀ K:MV,Vu K (.builtin "object.__class__") "__get__"=some (some (.builtin "getset_descriptor.__get__")):=fun K=>by kernel_rfl
theorem gc:∀ K:MV,PySem.W.takesIn K (.builtin "object.__class__")=some true:=fun K=>by kernel_rfl
section
variable {K:MV}{x D W:Ab}{ox:Obj}{odo:Option Obj}
theorem Exc.mro (M:Exc K W D)(v:Ac):ZK K D v=some ((Value.ref D::.ref W::vBM).contains v):=by
 obtain⟨cd,h1,h2,_⟩:=M.cls
 unfold ZK
 rw[h1,OJ,h2];rfl
theorem Exc.ty (M:Exc K W D):aK K (.ref D)=some (.type "type"):=by
 obtain⟨nm,qn,N,bs,sn,sub,ab,col,dd,k0,k1,k2,k3,k5,h⟩:=M.ob
 show (K.lookup D).map (·.cls)=_
 rw[h];rfl
theorem kitx_x (M:Exc K W D):PySem.W.KitX K (.ref x) (.ref D) (fun h=>ZI h x ox D odo) where
 ty:=fun _ _ _ I=>I.type
 it:=fun _ _ X _=>by
  obtain⟨nm,qn,N,bs,sn,sub,ab,col,dd,k0,k1,k2,k3,k5,ho⟩:=M.ob
  intro A' Q' E' s' k q
  unfold isType loadHead
  exact Aa (wpAny_loadPart (k _ _ (X _ _ ho)) (Af q))
 ne:=fun h tp dd its n sl X Jz=>by
  obtain⟨nm,qn,N,bs,sn,sub,ab,col,dd,k0,k1,k2,k3,k5,ho⟩:=M.ob
  refine Bool.eq_false_iff.mpr fun q=>?_
  have e:D=tp:=Value.ref.inj (beq_iff_eq.mp q)
  subst e
  have z:=congrArg (Option.map Obj.cls) ((X _ _ ho).symm.trans Jz)
  have z2:(some (Value.type "type"):Option Ac)=some (Value.type "tuple"):=z
  exact absurd z2 (by decide)
 ca:=fun{prog w A E Q s} X I k=>by
  obtain⟨cd,h1,_,_⟩:=M.cls
  have hf:PySem.W.findObj K D odo "__class__"=some (.bind (.builtin "getset_descriptor.__get__") (.builtin "object.__class__")):=by
   unfold PySem.W.findObj
   rw[h1,OJ,M.cl,OJ]
   simp[gb K,gc K]
  obtain⟨nm,qn,N,bs,sn,sub,ab,col,dd,k0,k1,k2,k3,k5,oC⟩:=M.ob
  exact f6 X I oC M.ga M.gr hf (M.mro _) k
theorem X6 (M:Exc K W D):S3 K (.ref D) (.ref D)=some true:=by unfold S3;rw[B3 (by simp)]
theorem X7 (M:Exc K W D) (M2:Exc K W C) (h1:D≠C) (h2:C≠W):S3 K (.ref D) (.ref C)=some false:=by
 have e:¬ ((Value.ref D == Value.ref C)=true):=fun z=>h1 (Value.ref.inj (beq_iff_eq.mp z))
 unfold S3
 rw[B2 e]
 obtain⟨cd,g1,_,_⟩:=M2.cls
 show (if ((aM K C).isSome&&aK K (.ref C) == some (.type "type"))=true then ZK K D (.ref C) else none)=some false
 rw[g1,M2.ty,B3 (by simp),M.mro]
 congr 1
 have a1:(Value.ref D == Value.ref C)=false:=by simpa using h1
 have a2:(Value.ref W == Value.ref C)=false:=beq_eq_false_iff_ne.mpr fun z=>h2 (Value.ref.inj z).symm
 have a3:(Value.ref C == Value.ref D)=false:=beq_eq_false_iff_ne.mpr fun z=>h1 (Value.ref.inj z).symm
 have a4:(Value.ref C == Value.ref W)=false:=beq_eq_false_iff_ne.mpr fun z=>h2 (Value.ref.inj z)
 rw[Vy,Vy,a3,a4];rfl
end
def fIsiX (K:MV):List V->Hp->VK->Prop:=fun xs H Q=>∃(e C W:Ab) (od:Option Ab) (fr:Bool) (c:V) (cv:Ac) (b:Bool),xs=[.ref e,c]/\H e=some (XO e C od fr)/\(∀ d,od=some d->∃ fs,H d=some (.xd fs))/\Exc K W C/\(∀ u,RelV c u->u=cv) /\
 S3 K (.ref C) cv=some b/\Q (.bl b) H
theorem X8 {X:Cx}{K:MV}(hK:X.K=K:=by rfl):CallR X (.builtin "isinstance") (fIsiX K):=by
 subst hK
 intro B4 s σ H xs us Q I rs hI9
 obtain⟨e,C,W,od,fr,c,cv,b,rfl,hX,hd,M,rc,hk,q⟩:=hI9
 cases rs with
 | cons r1 rs =>
  cases rs with
  | cons r2 rs =>
   cases rs
   cases (show _=Value.ref e from r1)
   cases rc _ r2
   obtain⟨vs,t0,he,hz,h0,h1⟩:=SV I.hok hX
   have J:∃ odo,ZI s.heap e ⟨.ref C,od,.fields vs,#[]⟩ C odo:=by
    cases od with
    | none=>exact⟨none,he,rfl,rfl,True.intro⟩
    | some d =>
     obtain⟨fs,hf⟩:=hd d rfl
     obtain⟨ob,ho⟩:=Us (I.hok d _ hf)
     exact⟨some ob,he,rfl,rfl,ho⟩
   obtain⟨odo,J⟩:=J
   exact PySem.W.kia_one (kitx_x M) I.kIn J hk (fun z=>nomatch z) fun tk=>⟨.bl b,H,I.tok _,rfl,q⟩
structure DnX (P:Aj)(w:Ak)(K:MV)(mg:Str->Option Ac)(base:An)(x:Str)(k:Nat)(ps:List Str)(sp:Sp):Prop where
 ex:∃(f:Ab) (fd:Aw),mg x=some (.ref f)/\Po K (.ref f)=true/\Binds K fd ps []/\FnOk P w K mg base (CXx P w) k f fd ps sp
theorem X9 (D:DnX X.prog X.w X.K X.mg X.base x k ps sp) (hr:Room k X.A) (hg:Gl X x) (hx:PM (CXx X.prog X.w) X E) (ha:PA X (e::es) t) (Do:(x == ("__debug__":Str))=false:=by decide) (he:Ag (e::es) X.env=(false,Aq e X.env)::Ag es X.env:=by rfl) (Cj:(AB pos (Ag es X.env)).any (·.1)=false:=by rfl):PE X (.Call (.Name x p) (e::es) [] pos) (RJ sp [] E t):=by
 obtain⟨f,fd,hm,hk,hb,F⟩:=D.ex
 exact Wa F hr hg hm hk hb .nil hx ha Do he Cj
theorem Fun.okX {P:Aj}{w:Ak}{K:MV}{mg:Str->Option Ac}{base:An}{x Ca:Str}{st:As}{f:Ab}{fd:Aw}{N ps:List Str}{k:Nat}{sp:Sp}(F:Fun K x Ca st f fd)(S:FnScope N ps (Ox st))(len:∀ vs H Q E,sp vs H Q E->vs.length=ps.length)
  (Dp:∀(cdv:Ac) (A:Am) (outer:List Env) (s:Ad) (H:Hp) (vs:List V) (Q:VK) (E:XK),Room k (A.deeper (Bq Ca (Ox st) s.heap.objs.size f cdv))->sp vs H Q E ->
   ∃ t,PSs (cxOf (CXx P w) P w K mg base N Ca (Ox st) f cdv A outer s H E) (Rl st) t/\t { nx:=fun _ H'=>Q .non H',rt:=Q } (OM N vs) H):FnOk P w K mg base (CXx P w) (k+1) f fd ps sp:=by
 obtain⟨oc,od,kV,doc,pm,an,cdv,ct,osl,rfl,lk,ED⟩:=F.ex
 exact fn_of lk ED S len fun A outer s H vs Q E hr DJ=>Dp cdv A outer s H vs Q E hr DJ
structure Ini (P:Aj)(w:Ak)(K:MV)(mg:Str->Option Ac)(base:An)(C:Ab)(k:Nat)(ps:List Str)(sp:Sp):Prop where
 ex:∃(f:Ab) (fd:Aw),Nv K (.ref C) "__init__"=some (some (.ref f))/\S4 K (.ref f)=true/\Binds K fd ps []/\FnOk P w K mg base CX0 k f fd ps sp
theorem Uw (M:Exc X.K W C) (D:Ini X.prog X.w X.K X.mg X.base C k ps sp) (hr:Room (k+1) X.A) (hg:Gl X x) (hm:X.mg x=some (.ref C)) (ha:PA X (e::es) t) (Do:(x == ("__debug__":Str))=false:=by decide) (he:Ag (e::es) X.env=(false,Aq e X.env)::Ag es X.env:=by rfl) (Cj:(AB pos (Ag es X.env)).any (·.1)=false:=by rfl):
  PE X (.Call (.Name x p) (e::es) [] pos) (Uq C sp E0 t):=by
 obtain⟨f,fd,hi,hf,hb,F⟩:=D.ex
 exact f8 M hi hf F hr hg hm hb QI ha Do he Cj
def okTx (y:V):Prop:=(∃ i:Int,y=.int i/\i.natAbs.log2 < 1920)∨∃ z:Str,y=.str z/\z.length<=1000
def okTs (y:V):Prop:=∃ z:Str,y=.str z/\(BZ z).length<=1000
def Qc (ok:V->Prop)(C:Ab)(f:Str):Sp:=fun vs H Q _=>∃(e:Ab) (y:V) (fr:Bool),vs=[.ref e,y]/\H e=some (XO e C none fr)/\ok y/\∀ d,H d=none->d≠e->Q .non (upd (upd H d (.xd [(f,y)])) e (XO e C (some d) fr))
section
variable {σ:St}{H:Hp}{Q:VK}{K:MV}{W:Ab}{t:TA}{i:Nat}{y:V}{a b:Str}
theorem X_ (h:t σ H fun vs H1=>∃(e C:Ab) (od:Option Ab) (fr:Bool) (y:V),vs=[.ref e,y]/\H1 e=some (XO e C od fr)/\Exc K W C/\Q .non H1):XY K W t σ H Q:=h
theorem i_fv (hy:okTx y) (e:σ[i]?=some (some y)) (h:∀ z:Str,z.length<=2000->R (.str z) H):tFv (tVar i) σ H R:=by
 refine⟨y,e,?_⟩
 rcases hy with ⟨j,rfl,hj⟩ | ⟨z,rfl,hz⟩
 ·exact .inl ⟨j,rfl,hj,h⟩
 ·exact .inr ⟨z,rfl,NI hz (by decide),h z (NI hz (by decide))⟩
theorem i_fs3 (ha:a.length<=1000)(hb:b.length<=1000)(hy:okTx y)(e:σ[i]?=some (some y))(h:∀ z,Q (.str z) H):tFs (Qb (tC (.str a)) (Qb (tFv (tVar i)) (Qb (tC (.str b)) jNil))) σ H Q:=by
 refine⟨a,rfl,by omega,i_fv hy e fun z hz=>⟨z,rfl,by omega,⟨b,rfl,by omega,by omega,h⟩⟩⟩
theorem i_fs2r (ha:a.length<=1000)(hy:okTs y)(e:σ[i]?=some (some y))(h:∀ z,Q (.str z) H):tFs (Qb (tC (.str a)) (Qb (tFr (tVar i)) jNil)) σ H Q:=by
 obtain⟨z,rfl,hz⟩:=hy
 exact⟨a,rfl,by omega,.str z,e,z,rfl,hz,BZ z,rfl,by omega,by omega,h⟩
end
theorem Ux (h:t σ H fun vs H1=>vs.length<=Ae/\∀ x,H1 x=none->sp (.ref x::vs) (upd H1 x (XO x C none true)) (fun v H2=>v=.non/\Q (.ref x) H2) E):Uq C sp E t σ H Q:=h
theorem Ya {σ:St}{H:Hp}{Q:VK}{K:MV}{ta:TE}{f:Str}(h:ta σ H fun x H1=>∃(a C W d:Ab) (fr:Bool) (fs:List (Str×V)) (v:V),x=.ref a/\H1 a=some (XO a C (some d) fr)/\H1 d=some (.xd fs)/\Exc K W C/\NoAttr K C f/\fs.lookup f=some v/\Q v H1):tFldX K ta f σ H Q:=h
theorem Sf {H:Hp}{Q:VK}{K:MV}{e C W:Ab}{od:Option Ab}{fr:Bool}{c:V}{cv:Ac}{b:Bool}(h1:H e=some (XO e C od fr))(h2:∀ d,od=some d->∃ fs,H d=some (.xd fs))(M:Exc K W C)(h3:∀ u,RelV c u->u=cv)
  (h4:S3 K (.ref C) cv=some b) (q:Q (.bl b) H):fIsiX K [.ref e,c] H Q:=⟨e,C,W,od,fr,c,cv,b,rfl,h1,h2,M,h3,h4,q⟩
theorem Uy {σ:St}{H:Hp}{D:Ends}{K:MV}{E:XK}{te:TE}(h:te σ H fun v H1=>∃(x C W:Ab) (od:Option Ab),v=.ref x/\H1 x=some (XO x C od true)/\Exc K W C/\E (.ref x) od (upd H1 x (XO x C od false))):X4 K E te D σ H:=h
theorem i_try (h1:tb D σ H) (h2:∀(σ':St) (v:V) (x:Ab) (od:Option Ab) (H':Hp),σ'.length=n->EX (.ref x) od H'->v=.ref x->ts { nx:=fun σ2 H2=>D.nx (σ2.set i none) H2,rt:=D.rt } (σ'.set i (some v)) H'):tTry EX i n tb ts D σ H:=⟨h1,h2⟩
theorem Uz {H:Hp}{R:Ab->Hp->Prop}{C:Ab}{f:Str}{ok:V->Prop}{y:V}{E:XK}(hy:ok y)(h:∀ x d,H x=none->H d=none->d≠x->R x (upd (upd H d (.xd [(f,y)])) x (XO x C (some d) true))) :
  ∀ x,H x=none->Qc ok C f [.ref x,y] (upd H x (XO x C none true)) (fun v H2=>v=.non/\R x H2) E:=by
 refine fun x hx=>⟨x,y,true,rfl,MT,hy,fun d hd Gu=>⟨rfl,?_⟩⟩
 rw[MR Gu] at hd
 have:=h x d hx hd Gu
 rw[X1 (M7 Gu),RB]
 exact this
structure DkX (P:Aj)(w:Ak)(K:MV)(mg:Str->Option Ac)(base:An)(C:Ab)(k:Nat)(ps:List Str)(sp:Sp):Prop where
 ex:∃(f:Ab) (fd:Aw),Mk K C f/\Binds K fd ps []/\FnOk P w K mg base (CXx P w) k f fd ps sp
section
variable {X:Cx}{k:Nat}{C:Ab}{ps:List Str}{sp:Sp}{x:Str}{p pos:Pos}{e:Av}{es:List Av}{t:TA}{E:XK}
end
section
variable {X:Cx}{σ:St}{CX:CXT}{k:Nat}{f C:Ab}{fd:Aw}{ps:List Str}{sp:Sp}{dvs:List V}{ds:List Ac}{E:XK}{x m:Str}{p pos Ck:Pos}{e o:Av}{es:List Av}{ta te:TE}{t:TA}
end
section
variable {X:Cx}{EX:St->XK}{W:Ab}{Wn en:Str}{i:Nat}{st:As}{body suite:List As}{b0:As}{t0:St->TS}{tb ts:TS}{wp EI pos:Pos}
end
structure DmX (P:Aj)(w:Ak)(K:MV)(mg:Str->Option Ac)(base:An)(C:Ab)(m:Str)(k:Nat)(ps:List Str)(sp:Sp):Prop where
 ex:∃(f:Ab) (fd:Aw),Meth K C m f/\Binds K fd ps []/\FnOk P w K mg base (CXx P w) k f fd ps sp
section
variable {X:Cx}{k:Nat}{C:Ab}{ps:List Str}{sp:Sp}{x m:Str}{p pos Ck:Pos}{e o:Av}{es:List Av}{ta:TE}{t:TA}{E:XK}
theorem UA (he:PE X o ta) (c:Cls X.K C) (D:DmX X.prog X.w X.K X.mg X.base C m k ps sp) (hr:Room k X.A) (hx:PM (CXx X.prog X.w) X E) (ha:PA X (e::es) t) (Cn:Ag (e::es) X.env=(false,Aq e X.env)::Ag es X.env:=by rfl) (Cj:(AB pos (Ag es X.env)).any (·.1)=false:=by rfl) (ht:Aq (.Call (.Attribute o m Ck) (e::es) [] pos) X.env=(do
   let ov <- Aq o X.env
   Bk Ck.atName
   let (f,first) <- Bd [ov] (Bo ov m pl)
   BI pos f first (AB pos (Ag (e::es) X.env)) (A8 pos (AR [] X.env))):=by rfl):
  PE X (.Call (.Attribute o m Ck) (e::es) [] pos) (RK C m sp [] E ta t):=by
 obtain⟨f,fd,h1,h2,h3⟩:=D.ex
 exact Wb he c h1 h3 hr h2 .nil hx ha Cn Cj ht
theorem UB (D:Dk X.prog X.w X.K X.mg X.base C k ps sp)(hr:Room (k+1) X.A)(hg:Gl X x)(hm:X.mg x=some (.ref C))
  (Do:(x == ("__debug__":Str))=false:=by decide):PE X (.Call (.Name x p) [] [] pos) (QG C sp [] E0 tNil):=by
 obtain⟨f,fd,h1,h2,h3⟩:=D.ex
 exact cC h1 h3 hr hg hm h2 .nil QI Do
end
noncomputable abbrev dKw (d:Ac):List (Str×Ac):=[(M' "default",d)]
theorem gd (a d:Ac):argsOk "max" ⟨[a],dKw d⟩:=by unfold argsOk;kernel_rfl
section
variable {prog:Aj}{w:Ak}{Z:Am}{R:Result->Ad->Prop}{J:Ab}{fp wr:List Ab}{n:Nat}{P:Nat->Ac->Prop}{St:Nat->An->Prop}
theorem ge (W:Walks prog w Z.in1 J fp wr n P St)(bt:Nat->Nat->Bool)(hc:CmpOf prog w Z.in1 .Gt P bt)(B:Ab)(hB:B∉fp)(d:Ac) :
  ∀(k j:Nat) (t:Ad) (u:Ac) (z:Nat),n - (j+1)=k->j+1<=n->St (j+1) t.heap->P (Bl bt j) u ->
  t.heap.get? B=some { cls:=.type "list",dict:=none,data:=.seq #[u,u] z,slots:=#[] } ->
  (∀ v g tk,P (Bl bt (n - 1)) v->(∀ b o,b∉wr->b≠B->t.heap.get? b=some o->g.get? b=some o)->R (.ok (.ret v)) { t with heap:=g,toks:=tk }) ->
  codeAny (Ai prog w) Z (.builtin "max.loop" ⟨[.ref J,.none,.ref B],dKw d⟩) R t:=by
 have Ix:B∉wr:=fun h=>hB (W.sub _ h)
 have nm:(toString "max"++toString ".loop":String)="max.loop":=by decide
 intro k
 induction k with
 | zero =>
  intro j t u z hk hj Cn hP hb hR
  have EJ:j+1=n:=by omega
  refine Bh bo ?_
  rw[bK Tb _]
  show wpAny _ Z.in1 (BQ (.ref B) >>= _) _ _ t
  refine Aa (AD hb rfl ?_)
  show wpAny _ Z.in1 (tryCatch (pyNext (.ref J)) _ >>= _) _ _ t
  refine Aa (A9 (W.done t _ _ (EJ▸Cn) fun g tk kk=>?_))
  have hb':=kk B _ Ix hb
  show wpAny _ Z.in1 (updateSeq B (fun _=>#[]) >>= _) _ _ _
  exact Aa (BF hb' rfl (Aa (A6 (Af (hR u _ tk (by rw[<- EJ];exact hP) fun b o h1 h2 e=>(Qx _ _ (M7 h2)).trans (kk b o h1 e))))))
 | succ k ih =>
  intro j t u z hk hj Cn hP hb hR
  have Cz:j+1 < n:=by omega
  refine Bh bo ?_
  rw[bK Tb _]
  show wpAny _ Z.in1 (BQ (.ref B) >>= _) _ _ t
  refine Aa (AD hb rfl ?_)
  show wpAny _ Z.in1 (tryCatch (pyNext (.ref J)) _ >>= _) _ _ t
  refine Aa (A9 (W.item (j+1) t _ _ Cz Cn fun v g tk hv hst' kk=>?_))
  have hb':=kk B _ Ix hb
  show wpAny _ Z.in1 (tryCatch (Bd [v,v] (richCompare .Gt v u >>= _)) _ >>= _) _ _ _
  refine Aa (A9 (AM (Aa (hc (j+1) (Bl bt j) v u _ _ _ hv hP ?more))))
  refine Aa (AM (Az (Aa (A6 (Af ?_)))))
  cases e:bt (j+1) (Bl bt j) with
  | true =>
   simp only[if_true]
   refine Aa (BF hb' rfl (Aa (A6 ?_)))
   rw[nm]
   refine Af ⟨Bz Tb _,ih (j+1) _ v _ (by omega) Cz (W.frame _ _ _ hst' fun b h1 o h2=>?_) (by simp only[Bl,e,if_true];exact hv) (SH _ hb' rfl) fun v' g' tk' h1 h2=>?_⟩
   ·exact(Qx _ _ (fun h:B=b=>hB (by rw[h];exact h1))).trans h2
   ·exact hR v' g' tk' h1 fun b o h3 h4 h5=>h2 b o h3 h4 ((Qx _ _ (M7 h4)).trans (kk b o h3 h5))
  | false =>
   simp only[VE,if_false]
   refine Aa (A6 ?_)
   rw[nm]
   exact Af ⟨Bz Tb _,ih (j+1) _ u z (by omega) Cz hst' (by simp only[Bl,e,VE,if_false];exact hP) hb' fun v' g' tk' h1 h2=>hR v' g' tk' h1 fun b o h3 h4 h5=>h2 b o h3 h4 (kk b o h3 h5)⟩
theorem gf (W:Walks prog w Z.in1 J fp wr n P St) (bt:Nat->Nat->Bool) (hc:CmpOf prog w Z.in1 .Gt P bt) (B:Ab) (hB:B∉fp) (d:Ac) (Cn:St 0 t.heap) (hb:t.heap.get? B=some { cls:=.type "list",dict:=none,data:=.seq #[] z,slots:=#[] }) (h0:n=0->∀ g tk,(∀ b o,b∉wr->b≠B->t.heap.get? b=some o->g.get? b=some o)->R (.ok (.ret d)) { t with heap:=g,toks:=tk }) (hR:0 < n->∀ v g tk,P (Bl bt (n - 1)) v->(∀ b o,b∉wr->b≠B->t.heap.get? b=some o->g.get? b=some o)->R (.ok (.ret v)) { t with heap:=g,toks:=tk }):
  codeAny (Ai prog w) Z (.builtin "max.loop" ⟨[.ref J,.none,.ref B],dKw d⟩) R t:=by
 have Ix:B∉wr:=fun h=>hB (W.sub _ h)
 have nm:(toString "max"++toString ".loop":String)="max.loop":=by decide
 refine Bh bo ?_
 rw[bK Tb _]
 show wpAny _ Z.in1 (BQ (.ref B) >>= _) _ _ t
 refine Aa (AD hb rfl ?_)
 show wpAny _ Z.in1 (tryCatch (pyNext (.ref J)) _ >>= _) _ _ t
 rcases Nat.eq_zero_or_pos n with hn | hn
 ·refine Aa (A9 (W.done t _ _ (by rw[hn];exact Cn) fun g tk kk=>?_))
  show wpAny _ Z.in1 (rule _ >>= _) _ _ _
  exact Aa (BX (Af (h0 hn g tk fun b o h1 _ e=>kk b o h1 e)))
 ·refine Aa (A9 (W.item 0 t _ _ hn Cn fun v g tk hv hst' kk=>?_))
  have hb':=kk B _ Ix hb
  show wpAny _ Z.in1 (updateSeq B (fun _=>#[v,v]) >>= _) _ _ _
  refine Aa (BF hb' rfl ?_)
  rw[nm]
  refine Af ⟨Bz Tb _,ge W bt hc B hB d _ 0 _ v _ rfl hn (W.frame _ _ _ hst' fun b h1 o h2=>?_) hv (SH _ hb' rfl) fun v' g' tk' h1 h2=>?_⟩
  ·exact(Qx _ _ (fun h:B=b=>hB (by rw[h];exact h1))).trans h2
  ·exact hR hn v' g' tk' h1 fun b o h3 h4 h5=>h2 b o h3 h4 ((Qx _ _ (M7 h4)).trans (kk b o h3 h5))
theorem gg (h:wpAny (Ai prog w) Z.in1 (pyIter x) (fun it t=>∃ J fp wr n P St bt,it=.ref J/\Walks prog w Z.in1 J fp wr n P St/\St 0 t.heap/\(∀ b∈fp,b < t.heap.objs.size)/\CmpOf prog w Z.in1 .Gt P bt /\
   (n=0->∀ g tk,(∀ b o,b∉wr->t.heap.get? b=some o->g.get? b=some o)->Q d { t with heap:=g,toks:=tk }) /\
   (0 < n->∀ v g tk,P (Bl bt (n - 1)) v->(∀ b o,b∉wr->t.heap.get? b=some o->g.get? b=some o)->Q v { t with heap:=g,toks:=tk })) E s):
  wpAny (Ai prog w) Z (call (.builtin "max") [x] (dKw d)) Q E s:=by
 have nm:(toString "max"++toString ".loop":String)="max.loop":=by decide
 refine kmk_tree PySem.F.kind_max PySem.F.plain_max PySem.F.entry_max (gd _ _) ?_
 show wpAny _ Z.in1 (km "max" ["key","default"] 0 ⟨[],dKw d⟩ >>= _) _ _ s
 refine Aa (wpAny_of_eq (show km "max" ["key","default"] 0 ⟨[],dKw d⟩=pure [none,some d] from rfl) (Aa (Af ?_)))
 refine Aa (Ao h (fun it t h₂=>?_) fun _ _ e=>e)
 obtain⟨J,fp,wr,n,P,St,bt,rfl,W,Cn,G8,hc,q0,q1⟩:=h₂
 refine Aa (AC ?_)
 rw[nm]
 have DQ:t.heap.objs.size∉fp:=fun hm=>Qk _ (G8 _ hm)
 refine Af ⟨Bz Tb _,gf W bt hc t.heap.objs.size DQ d (W.frame _ _ _ Cn fun b _ o e=>Ng _ e) (NE _ rfl) (fun hn g tk kk=>?_) fun hn v g tk hv kk=>?_⟩
 ·exact q0 hn g tk fun b o h1 e=>kk b o h1 (NB (Nm e)) (Ng _ e)
 ·exact q1 hn v g tk hv fun b o h1 e=>kk b o h1 (NB (Nm e)) (Ng _ e)
end
def tMaxD (ta tb:TE):TE:=fun σ H Q=>ta σ H fun v H1=>tb σ H1 fun d H2=>∃(p:Ab) (ns:List Int),v=.ref p/\H2 p=some (.lst (ns.map V.int))/\(ns=[]->Q d H2)/\∀ m,m∈ns->(∀ n∈ns,n<=m)->Q (.int m) H2
theorem i_maxD (h:ta σ H fun v H1=>tb σ H1 fun d H2=>∃(p:Ab) (ns:List Int),v=.ref p/\H2 p=some (.lst (ns.map V.int))/\(ns=[]->Q d H2)/\∀ m,m∈ns->(∀ n∈ns,n<=m)->Q (.int m) H2):tMaxD ta tb σ H Q:=h
section
variable {X:Cx}
theorem gh (Hq:X.calm=true) (hg:Gl X "max") (hm:X.mg "max"=none) (ha:PE X a ta) (hb:PE X b tb) (hs:Ag [a] X.env=[(false,Aq a X.env)]:=by rfl):
  PE X (.Call (.Name "max" p) [a] [⟨some "default",b,kpos⟩] pos) (tMaxD ta tb):=by
 intro B4 s σ H Q I h
 refine AE (Ri (u:=.builtin "max") I hg hm (by decide +kernel) ?_)
 refine PyProof.Rows.callWith_kw ?_ (by rw[hs];rfl) (by rw[hs];rfl)
 rw[hs]
 show wpAny _ _ (BB ((false,Aq a X.env)::AB pos (Ag [] X.env))) _ _ s
 refine Td (thn (ha B4 s σ H _ I h) fun u s1 ⟨x,H1,I1,ru,q1⟩=>Vi ?_)
 show wpAny _ _ (evalAll ((do let v <- Aq b X.env;Bk pos;pure v)::[])) _ _ s1
 refine wpAny_evalAll_cons (Aa (thn (hb B4 s1 σ H1 _ I1 q1) fun u2 s2 ⟨y,H2,I2,ry,l,ns,ex,el,q0,q2⟩=>Aa (AU (Af (wpAny_evalAll_nil ?_)))))
 subst ex
 cases ru
 show wpAny _ _ (call (.builtin "max") [.ref l] (dKw u2)) _ _ s2
 obtain⟨its,rv,pl,hz⟩:=I2.list (SqL.of (K:=X.K) el)
 have B8:=rv.length
 rw[M5] at B8
 have Cz:l < s2.heap.objs.size:=by obtain⟨o,_,ho,_⟩:=pl;exact Nm ho
 have DZ:∀(i:Nat) (v:Ac),its.toArray[i]?=some v->∃ t,v=.int (ns.getD i 0) t:=fun i v hv=>by
  have hv':its[i]?=some v:=by simpa using hv
  have DF:i < its.length:=(NJ.mp hv').1
  obtain⟨w',hw,t,rfl⟩:=rv.get (i:=i) (x:=V.int (ns.getD i 0)) (by rw[Nz];simp[Nl,show i < ns.length by omega])
  rw[hv'] at hw
  cases hw
  exact⟨t,rfl⟩
 have f1:=I2.fpOk (H':=H2) (b:=s2.heap.objs.size) (M6 _) (I2.hok.fresh (M6 _))
 have isl:s2.heap.IsList l its.toArray:=by
  obtain⟨o,n,e,hc,hd,hx⟩:=pl
  exact⟨o,e,hc,n,hx⟩
 have I3:Inv X B4 σ H2 { s2 with heap:=s2.heap.push { cls:=.type "list_iterator",data:=.fields #[.ref l,.int 0 0] },toks:=s2.toks }:=I2.kept fun b u q=>Ng _ q
 refine gg (AA isl ?_)
 refine⟨s2.heap.objs.size,_,_,_,_,_,_,rfl,Walks.list (A:=X.A.in1) (show X.A.in1.handled=none from I2.ok.hd Hq) s2.heap.objs.size l (NB Cz) its.toArray,⟨⟨_,NE _ rfl,rfl,rfl⟩,?_⟩,?_,CmpOf.ints_gt (fun i=>ns.getD i 0) DZ,fun hn g tk k=>?_,fun hn v g tk hv k=>?_⟩
 ·obtain⟨o,ho,q⟩:=isl
  exact⟨o,Ng _ ho,q⟩
 ·intro b hb
  have hsz:(s2.heap.push { cls:=.type "list_iterator",data:=.fields #[.ref l,.int 0 0] }).objs.size=s2.heap.objs.size+1:=OY ..
  show b < (s2.heap.push _).objs.size
  rw[hsz]
  rcases Nf.mp hb with z | z
  ·rw[z];exact SJ _
  ·have z':b=l:=by simpa using z
   rw[z'];exact bc Cz
 ·rw[NC] at hn
  have D7:ns=[]:=ZL (by omega)
  exact⟨y,H2,I3.turned (t':=tk) (it:=s2.heap.objs.size) (fun b o hb q=>k b o (by simpa using hb) q) f1.1 f1.2.1 f1.2.2.2.1 f1.2.2.2.2.1 f1.2.2.2.2.2,ry,q0 D7⟩
 ·obtain⟨t,rfl⟩:=DZ _ _ hv
  rw[NC] at hn ⊢
  obtain⟨b1,b2⟩:=argBest_gt (fun i=>ns.getD i 0) (its.length - 1)
  refine⟨.int _,H2,I3.turned (t':=tk) (it:=s2.heap.objs.size) (fun b o hb q=>k b o (by simpa using hb) q) f1.1 f1.2.1 f1.2.2.2.1 f1.2.2.2.2.1 f1.2.2.2.2.2,⟨_,rfl⟩,q2 _ ?_ fun n DI=>?_⟩
  ·rw[Nl,Na (show Bl _ _ < ns.length by omega)]
   exact N5 _
  ·obtain⟨j,hj,rfl⟩:=List.getElem_of_mem DI
   have:=b2 j (by omega)
   rw[Nl (i:=j),Na hj] at this
   exact this
end
end L2
namespace L2
open PySem PySem.Spec PyProof.Rows PySem.SeqAt
end L2
namespace L2
open PySem
open Sem (wp)
set_option maxHeartbeats 4000000 in
section
variable {prog:Aj}{w:Ak}{A:Am}{E:Ac->Ad->Prop}{s:Ad}
end
open PySem.Spec PyProof.Rows
section
variable {X:Cx}
end
end L2
namespace L2
open PySem
theorem st_c :OM (n::N) (v::vs)=some v::OM N vs:=by
 unfold OM
 rw[ND,ND,Nat.add_sub_add_right];rfl
theorem st_n :OM (n::N) []=none::OM N []:=rfl
theorem st_0:OM [] []=[]:=rfl
theorem OU (h:H a=none) (o:HO):∃ H',upd H a o=H'/\Same H H'/\H' a=some o:=⟨_,rfl,fun b u e=>by rw[MR (fun z=>by rw[z,h] at e;cases e)];exact e,MT⟩
end L2
namespace L2
open PySem PySem.Spec PyProof.Rows
section
variable {X:Cx}{x:Str}{p pos pos':Pos}{e a b:Av}{es:List Av}{te ta tb:TE}{t:TA}{id T:String}{r:List V->Hp->VK->Prop}
theorem pa1 (h:PE X e te)(hs:Ag [e] X.env=(false,Aq e X.env)::Ag [] X.env:=by rfl):PA X [e] (Tp te tNil):=MQ h O7 hs
theorem pst (i:Nat)(hN:X.N.Nodup)(he:PE X e te)(hi:X.N[i]?=some x:=by rfl)(hx:Loc X.env.scope x:=by exact .inl rfl)(hs:Bm e (some (.Name x pos')) pos.line X.env=pure false:=by rfl)(hf:X.fn x=true∨X.env.scope.names.lookup x=some .local:=by first | exact .inl rfl | exact .inr rfl | assumption):PS X (.Assign [.Name x pos'] e pos) (tAsg te (PF i)):=SL hN hi hx he hs hf
theorem pnm (i:Nat)(hN:X.N.Nodup)(hi:X.N[i]?=some x:=by rfl)(hx:Loc X.env.scope x:=by exact .inl rfl)(hf:X.fn x=true∨X.env.scope.names.lookup x=some .local:=by first | exact .inl rfl | exact .inr rfl | assumption):PG X (.Name x pos) (PF i):=N_ hN hi hx hf
theorem pix (K:MV)(ha:PE X a ta)(hb:PE X b tb)(hs:Wo b:=by exact fun _ _=>rfl)(hK:X.K=K:=by rfl):PE X (.Subscript a b pos) (tOp (fIx K) ta tb):=pe_ix (ix_any hK) ha hb hs
theorem pcb (hc:CallR X (.builtin id) r)(hm:X.mg x=none)(ha:PA X (e::es) t)(hg:Gl X x:=by rfl)(hv:AK x=some (.builtin id):=by decide +kernel)(hn:x≠"__name__":=by decide)(Do:(x == ("__debug__":Str))=false:=by decide)
  (he:Ag (e::es) X.env=(false,Aq e X.env)::Ag es X.env:=by rfl) (Cj:(AB pos (Ag es X.env)).any (·.1)=false:=by rfl):PE X (.Call (.Name x p) (e::es) [] pos) (tCB r t):=cF hc hg hm hv ha hn Do he Cj
theorem pct (hc:CallR X (.type T) r)(hm:X.mg x=none)(ha:PA X (e::es) t)(hg:Gl X x:=by rfl)(hv:AK x=some (.type T):=by decide +kernel)(hn:x≠"__name__":=by decide)(Do:(x == ("__debug__":Str))=false:=by decide)
  (he:Ag (e::es) X.env=(false,Aq e X.env)::Ag es X.env:=by rfl) (Cj:(AB pos (Ag es X.env)).any (·.1)=false:=by rfl):PE X (.Call (.Name x p) (e::es) [] pos) (tCB r t):=cG hc hg hm hv ha hn Do he Cj
theorem pty (y:String)(hm:X.mg x=none)(hg:Gl X x:=by rfl)(hv:AK x=some (.type y):=by decide +kernel)(hn:x≠"__name__":=by decide)(hd:(x == ("__debug__":Str))=false:=by decide):PE X (.Name x pos) (tC (.ty y)):=bX hg hm hv rfl hn hd
end
section
variable {P:Aj}{w:Ak}{K:MV}{mg:Str->Option Ac}{base:An}{x Ca:Str}{st:As}{f:Ab}{fd:Aw}{ps:List Str}{k:Nat}{sp:Sp}
theorem Fun.okk (F:Fun K x Ca st f fd)(N:List Str)
  (Dp:∀(cdv:Ac) (A:Am) (outer:List Env) (s:Ad) (H:Hp) (vs:List V) (Q:VK) (E:XK),Room k (A.deeper (Bq Ca (Ox st) s.heap.objs.size f cdv))->sp vs H Q E->N.Nodup ->
   ∃ t,PSs (cxOf CX0 P w K mg base N Ca (Ox st) f cdv A outer s H E).nox (Rl st) t/\t { nx:=fun _ H'=>Q .non H',rt:=Q } (OM N vs) H) (len:∀ vs H Q E,sp vs H Q E->vs.length=ps.length:=by walk_at "l0") (S:FnScope N ps (Ox st):=by exact⟨rfl,rfl,rfl,by decide +kernel,rfl,by decide +kernel,by decide +kernel⟩):FnOk P w K mg base CX0 (k+1) f fd ps sp :=
 F.ok S len fun cdv A outer s H vs Q E hr h=>Dp cdv A outer s H vs Q E hr h S.nd
theorem Fun.okx (F:Fun K x Ca st f fd)(N:List Str)
  (Dp:∀(cdv:Ac) (A:Am) (outer:List Env) (s:Ad) (H:Hp) (vs:List V) (Q:VK) (E:XK),Room k (A.deeper (Bq Ca (Ox st) s.heap.objs.size f cdv))->sp vs H Q E->N.Nodup ->
   ∃ t,PSs (cxOf (CXx P w) P w K mg base N Ca (Ox st) f cdv A outer s H E) (Rl st) t/\t { nx:=fun _ H'=>Q .non H',rt:=Q } (OM N vs) H) (len:∀ vs H Q E,sp vs H Q E->vs.length=ps.length:=by walk_at "l0") (S:FnScope N ps (Ox st):=by exact⟨rfl,rfl,rfl,by decide +kernel,rfl,by decide +kernel,by decide +kernel⟩):FnOk P w K mg base (CXx P w) (k+1) f fd ps sp :=
 F.okX S len fun cdv A outer s H vs Q E hr h=>Dp cdv A outer s H vs Q E hr h S.nd
end
theorem M4 (h:x=S l):PE X (.Constant (.str x) j pos) (tC (.str (S l))):=h▸NQ
end L2
namespace L2
open PySem PySem.Spec PyProof.Rows PySem.SeqAt Builtin Builtin.Str
section
variable {X:Cx}
def Yb:V->List V->Hp->VK->Prop:=fun x vs H Q=>∃ z y:Str,x=.str z/\vs=[.str y]/\(y.length == 0)=false/\z.length<=Ae/\(O5 z y).length<=Ae/\∀ q,H q=none->Q (.ref q) (upd H q (.lst ((O5 z y).map V.str)))
theorem Yc (h1:(y.length == 0)=false) (h2:z.length<=Ae) (h3:(O5 z y).length<=Ae) (h:∀ q,H q=none->Q (.ref q) (upd H q (.lst ((O5 z y).map V.str)))):Yb (.str z) [.str y] H Q:=⟨z,y,rfl,rfl,h1,h2,h3,h⟩
theorem Yd:∀(t:Nat) (ps:List Str),Vals (ps.map V.str) (strsFrom t ps)
 | _,[]=>.nil
 | t,p::ps=>.cons ⟨t,rfl⟩ (Yd (t+1) ps)
theorem Ye:MtR X "str.split" Yb:=fun B4 s σ H x vs v us Q I rx rs h=>by
 obtain⟨z,y,rfl,rfl,hy,hz,hn,q⟩:=h
 obtain⟨t,rfl⟩:=rx
 obtain⟨u,rfl,t',rfl⟩:=Op rs
 have new:∀(its:List Ac) (tk:Nat),Vals ((O5 z y).map V.str) its->(∃(y':V) (H':Hp),Inv X B4 σ H' { s with heap:=s.heap.push { cls:=.type "list",data:=.seq its.toArray },toks:=tk }/\RelV y' (.ref s.heap.objs.size)/\Q y' H'):=fun its tk r=>by
  refine⟨.ref s.heap.objs.size,_,I.laid (t':=tk) (fun b o e=>Ng _ e) (M6 _) (show ObjOk X.prog X.w _ _ _ (.lst _) from ⟨by rw[M5];exact hn,its,0,r,NE _ rfl⟩),rfl,q _ (I.hok.fresh (M6 _))⟩
 cases h1:(decide (z.length < y.length) || decide (strKind z < strKind y))
 ·cases hf:(occurrences z y 0 z.length (z.length+1)).isEmpty
  ·have e:O5 z y=partsBetween z (occurrences z y 0 z.length (z.length+1)) y.length:=(B2 (ne_true_of_eq_false h1)).trans (B2 (ne_true_of_eq_false hf))
   rw[e] at new hn
   exact Bb bu (Br _ _ _) br (bq _ _) (meets_str_split_sep z y t t' h1 hy hf hz hn) (new _ _ (Yd _ _))
  ·have e:O5 z y=[z]:=(B2 (ne_true_of_eq_false h1)).trans (B3 hf)
   rw[e] at new
   exact Bb bu (Br _ _ _) br (bq _ _) (meets_str_split_not_found z y t t' h1 hy hf) (new [.str z t] s.toks (.cons ⟨t,rfl⟩ .nil))
 ·have e:O5 z y=[z]:=B3 h1
  rw[e] at new
  exact Bb bu (Br _ _ _) br (bq _ _) (meets_str_split_cannot_occur z y t t' h1) (new [.str z t] s.toks (.cons ⟨t,rfl⟩ .nil))
def fOrd:List V->Hp->VK->Prop:=fun xs H Q=>∃ c:Nat,xs=[.str ⟨#[c]⟩]/\Q (.int (c:Int)) H
theorem i_ord (h:Q (.int (c:Int)) H):fOrd [.str ⟨#[c]⟩] H Q:=⟨c,rfl,h⟩
theorem c_ord:CallR X (.builtin "ord") fOrd:=fun B4 s σ H xs us Q I r h=>by
 obtain⟨c,rfl,q⟩:=h
 obtain⟨u,rfl,t,rfl⟩:=Op r
 exact P.ord_of_char ⟨.int (c:Int),H,I.tok _,⟨_,rfl⟩,q⟩
def fLeS:R2:=fun x y H Q=>∃ a b:Nat,x=.str ⟨#[a]⟩/\y=.str ⟨#[b]⟩/\Q (.bl (decide (a<=b))) H
theorem i_leS (h:Q (.bl (decide (a<=b))) H):fLeS (.str ⟨#[a]⟩) (.str ⟨#[b]⟩) H Q:=⟨a,b,rfl,rfl,h⟩
theorem o_leS:OpR X (Ar .LtE) fLeS:=fun B4 s σ H x y v u Q I rx ry h=>by
 obtain⟨a,b,rfl,rfl,q⟩:=h
 obtain⟨t,rfl⟩:=rx
 obtain⟨t',rfl⟩:=ry
 refine P.le_str (NG I q ?_)
 rw[SI]
 simp
 have h:([b] < [a])↔b < a:=by rw[List.cons_lt_cons_iff];simp
 exact⟨fun z=>List.not_lt.mp fun y=>Nat.not_lt.mpr z (h.mp y),fun z=>Nat.not_lt.mp fun y=>List.not_lt.mpr z (h.mpr y)⟩
end
end L2
namespace L2
open PySem PySem.Spec PyProof.Rows
def DC (P:Aj)(w:Ak)(K:MV)(a:Ab)(kvs:List (Key×V)):Prop:=∃ o vs,K.lookup a=some o/\o.IsDictOf (NU P w) vs/\KV kvs vs/\(a == AG)=false
def tKIn (kvs:List (Key×V))(neg:Bool)(ty:TE):TE:=fun σ H Q=>ty σ H fun y H1=>∃ k,y=kV k/\Q (.bl (xor neg (valV kvs k).isSome)) H1
def tKGet (kvs:List (Key×V))(ty:TE):TE:=fun σ H Q=>ty σ H fun y H1=>∃ k v,y=kV k/\valV kvs k=some v/\Q v H1
theorem i_kin (h:ty σ H fun y H1=>∃ k,y=kV k/\Q (.bl (xor neg (valV kvs k).isSome)) H1):tKIn kvs neg ty σ H Q:=h
theorem i_kget (h:ty σ H fun y H1=>∃ k v,y=kV k/\valV kvs k=some v/\Q v H1):tKGet kvs ty σ H Q:=h
section
variable {X:Cx}{x:Str}{i:Av}{a:Ab}{kvs:List (Key×V)}{pos pos':Pos}{ty:TE}
theorem DC.at (d:DC X.prog X.w X.K a kvs) (I:Inv X B4 σ H s):(a == AG)=false/\∃ vs,KV kvs vs/\s.heap.DictOf (NU X.prog X.w) a vs:=by
 obtain⟨o,vs,h1,h2,h3,h4⟩:=d
 exact⟨h4,vs,h3,Heap.dictOf_iff.mpr ⟨o,I.kIn a o h1,h2⟩⟩
theorem gj {P:Aj}{w:Ak}{K:MV}(d:DC P w K a kvs)(hg:Gl X x)(hm:X.mg x=some (.ref a))(hi:PE X i ty)(eP:X.prog=P:=by rfl)(ew:X.w=w:=by rfl)(eK:X.K=K:=by rfl)(hd:(x == ("__debug__":Str))=false:=by decide):PC X .NotIn i (.Name x pos) (tKIn kvs true ty):=by
 subst eP ew eK
 intro B4 s σ H Q I h
 refine thn (hi B4 s σ H _ I h) fun iv s1 ⟨y,H1,I1,ry,k,ey,q1⟩=>RD I1 hg hm ?_ hd
 subst ey
 obtain⟨hS,vs,rel,dd⟩:=d.at I1
 refine wpAny_notIn_of (OS ry) hS dd.mapOf ?_
 rw[<- (rel.val k).isSome_eq]
 rw[Bool.true_xor] at q1
 exact⟨.bl (!(valV kvs k).isSome),H1,I1.tok _,rfl,q1⟩
theorem gk {P:Aj}{w:Ak}{K:MV}(d:DC P w K a kvs)(hg:Gl X x)(hm:X.mg x=some (.ref a))(hi:PE X i ty)(hs:NoSl i)(eP:X.prog=P:=by rfl)(ew:X.w=w:=by rfl)(eK:X.K=K:=by rfl)(hd:(x == ("__debug__":Str))=false:=by decide):PE X (.Subscript (.Name x pos) i pos') (tKGet kvs ty):=by
 subst eP ew eK
 intro B4 s σ H Q I h
 refine Xw jP.lookup hs (RD I hg hm (thn (hi B4 s σ H _ I h) fun iv s2 hI9=>?_) hd)
 obtain⟨y,H2,I2,ry,k,v,ey,hv,q2⟩:=hI9
 subst ey
 obtain⟨hS,vs,rel,dd⟩:=d.at I2
 obtain⟨w',hw,rw'⟩:=RelO.some_of (v:=v) (o:=BD vs k) (by rw[<- hv];exact rel.val k)
 exact⟨dd.typeIs,wpAny_getItem_of (OS ry) dd.mapOf hw ⟨v,H2,I2.tok _,rw',q2⟩⟩
end
end L2
namespace L2
open PySem
noncomputable def spl (c:Nat):List Nat->List (List Nat)
 | []=>[[]]
 | x::r=>if x=c then []::spl c r else match spl c r with
  | []=>[[x]]
  | p::ps=>(x::p)::ps
theorem Yf {c:Nat}:∀{p:List Nat},c∉p->spl c p=[p]
 | [],_=>rfl
 | x::p,h=>by
  unfold spl
  rw[B2 fun e=>h (by rw[e];exact N1),Yf (p:=p) fun e=>h (NH _ e)]
theorem Yg {c:Nat}(r:List Nat):∀{p:List Nat},c∉p->spl c (p++c::r)=p::spl c r
 | [],_=>by
  show (if c=c then []::spl c r else _)=_
  rw[B3 rfl]
 | x::p,h=>by
  show (if x=c then []::spl c (p++c::r) else match spl c (p++c::r) with | []=>[[x]] | p::ps=>(x::p)::ps)=_
  rw[B2 fun e=>h (by rw[e];exact N1),Yg r (p:=p) fun e=>h (NH _ e)]
noncomputable def Nk (c:Nat):List (List Nat)->List Nat
 | []=>[]
 | [p]=>p
 | p::q::r=>p++c::Nk c (q::r)
theorem aB {c:Nat}:∀{ps:List (List Nat)},ps≠[]->(∀ p∈ps,c∉p)->spl c (Nk c ps)=ps
 | [],h,_=>absurd rfl h
 | [p],_,h=>Yf (h p N1)
 | p::q::r,_,h=>by
  show spl c (p++c::Nk c (q::r))=_
  rw[Yg _ (h p N1),aB (List.cons_ne_nil q r) fun y hy=>h y (NH _ hy)]
theorem Yh (c:Nat):∀ qs:List (List Nat),Vf ⟨#[c]⟩ (qs.map S)=S (Nk c qs)
 | []=>rfl
 | [q]=>rfl
 | p::q::r=>by
  have ih:=Yh c (q::r)
  show Vf ⟨#[c]⟩ (S p::(q::r).map S)=_
  rw[show Vf ⟨#[c]⟩ (S p::(q::r).map S)=S p++⟨#[c]⟩++Vf ⟨#[c]⟩ ((q::r).map S) from rfl,ih]
  show (S p++⟨#[c]⟩++S (Nk c (q::r)):Str)=S (p++c::Nk c (q::r))
  apply Str.ext'
  apply Array.toList_inj.mp
  show ((p.toArray++#[c])++(Nk c (q::r)).toArray).toList=(p++c::Nk c (q::r)).toArray.toList
  simp
theorem Yi (x:Str):S x.cps.toList=x:=by
 unfold S;simp
theorem Sh (l:List Nat)(c:Nat):O5 (S l) (S [c])=(spl c l).map S:=by
 have e1:=StrLaws.join_split (S l) (S [c])
 have e2:=StrLaws.split_free (S l) c
 have hq:O5 (S l) (S [c])=((O5 (S l) (S [c])).map fun p=>p.cps.toList).map S:=by
  rw[NK]
  conv=>lhs;rw[<- List.map_id (O5 (S l) (S [c]))]
  apply Vx
  intro p _
  exact(Yi p).symm
 have CA:((O5 (S l) (S [c])).map fun p=>p.cps.toList)≠[]:=by
  unfold O5
  split
  ·simp
  ·split
   ·simp
   ·unfold Builtin.Str.partsBetween
    simp
 have e2':∀ p∈((O5 (S l) (S [c])).map fun p=>p.cps.toList),c∉p:=fun p hp=>by
  obtain⟨y,hy,rfl⟩:=On.mp hp
  exact e2 y hy
 rw[hq] at e1
 rw[hq]
 generalize ((O5 (S l) (S [c])).map fun p=>p.cps.toList)=qs at e1 CA e2'
 have e3:S (Nk c qs)=S l:=(Yh c qs).symm.trans e1
 have e4:Nk c qs=l:=by
  unfold S at e3
  injection e3 with e3
  simpa using congrArg VQ e3
 rw[<- e4,aB CA e2']
end L2
namespace L2
open PySem PySem.Spec PyProof.Rows
section
variable {X:Cx}
def Yj:List V->Hp->VK->Prop:=fun xs H Q=>∃ a kvs,xs=[.ref a]/\H a=some (.dK kvs)/\∀ q,H q=none->Q (.ref q) (upd H q (.dK kvs))
theorem gl (h1:H a=some (.dK kvs)) (h:∀ q,H q=none->Q (.ref q) (upd H q (.dK kvs))):Yj [.ref a] H Q:=⟨a,kvs,rfl,h1,h⟩
theorem c_dict:CallR X (.type "dict") Yj:=fun B4 s σ H xs us Q I r h=>by
 obtain⟨a,kvs,rfl,e,q⟩:=h
 obtain⟨u,rfl,ru⟩:=Op r
 cases (show u=Value.ref a from ru)
 obtain⟨z,hd,vs,rel,dd⟩:=P7 I.hok (.inl e)
 have hz:vs.length<=Ae:=by rw[<- rel.length];exact z
 refine kt_call_dict hd dd hz fun h' hD hs=>?_
 have hk:∀ b u,s.heap.get? b=some u->h'.get? b=some u:=fun b u e=>by
  have hb:b≠s.heap.objs.size:=fun zz=>by rw[zz] at e;exact absurd (Nm e) (Qk _)
  rw[hs.2 b hb]
  exact Ng _ e
 exact⟨.ref s.heap.objs.size,_,I.laid (o:=.dK kvs) (t':=s.toks) hk (M6 _) ⟨z,beq_eq_false_iff_ne.mpr (M7 (NB I.big)),vs,rel,hD⟩,rfl,q _ (I.hok.fresh (M6 _))⟩
end
section
variable {prog:Aj}{w:Ak}{A:Am}{E:Ac->Ad->Prop}{s:Ad}
end
section
variable {X:Cx}{tg:Av}
end
def Yk (le:Int->Int->Prop):List V->Hp->VK->Prop:=fun xs H Q=>∃(p:Ab) (ns:List Int),xs=[.ref p]/\H p=some (.lst (ns.map V.int))/\ns≠[]/\∀ m,m∈ns->(∀ n∈ns,le n m)->Q (.int m) H
theorem Yl (h:H p=some (.lst (ns.map V.int))) (h0:ns≠[]) (q:∀ m,m∈ns->(∀ n∈ns,le n m)->Q (.int m) H):Yk le [.ref p] H Q:=⟨p,ns,rfl,h,h0,q⟩
section
variable {X:Cx}
theorem Ym (hc:X.calm=true):CallR X (.builtin "max") (Yk (·<=·)):=by
 intro B4 s σ H xs us Q I r h
 obtain⟨p,ns,rfl,e,h0,q⟩:=h
 obtain⟨u,rfl,ru⟩:=Op r
 cases ru
 obtain⟨its,rv,pl,hz⟩:=I.list (SqL.of (K:=X.K) e)
 have B8:=rv.length
 rw[M5] at B8
 have Cz:p < s.heap.objs.size:=by obtain⟨o,_,ho,_⟩:=pl;exact Nm ho
 have DZ:∀(i:Nat) (v:Ac),its.toArray[i]?=some v->∃ t,v=.int (ns.getD i 0) t:=fun i v hv=>by
  have hv':its[i]?=some v:=by simpa using hv
  have DF:i < its.length:=(NJ.mp hv').1
  obtain⟨w',hw,t,rfl⟩:=rv.get (i:=i) (x:=V.int (ns.getD i 0)) (by rw[Nz];simp[Nl,show i < ns.length by omega])
  rw[hv'] at hw
  cases hw
  exact⟨t,rfl⟩
 have EI:0 < ns.length:=Rx.mpr h0
 have isl:s.heap.IsList p its.toArray:=pl.isList
 refine call_max_walk (AA isl ?_)
 refine⟨s.heap.objs.size,_,_,_,_,_,_,rfl,Walks.list (A:=X.A.in1) (show X.A.in1.handled=none from I.ok.hd hc) s.heap.objs.size p (NB Cz) its.toArray,⟨⟨_,NE _ rfl,rfl,rfl⟩,?_⟩,?_,?_,CmpOf.ints_gt (fun i=>ns.getD i 0) DZ,fun v h' tk hv k=>?_⟩
 ·obtain⟨o,ho,q⟩:=isl
  exact⟨o,Ng _ ho,q⟩
 ·intro b hb
  have hs:(s.heap.push { cls:=.type "list_iterator",data:=.fields #[.ref p,.int 0 0] }).objs.size=s.heap.objs.size+1:=OY ..
  show b < (s.heap.push _).objs.size
  rw[hs]
  rcases Nf.mp hb with z | z
  ·rw[z];exact SJ _
  ·have z':b=p:=by simpa using z
   rw[z'];exact bc Cz
 ·rw[NC];omega
 ·obtain⟨t,rfl⟩:=DZ _ _ hv
  rw[NC]
  obtain⟨b1,b2⟩:=argBest_gt (fun i=>ns.getD i 0) (its.length - 1)
  have I1:Inv X B4 σ H { s with heap:=s.heap.push { cls:=.type "list_iterator",data:=.fields #[.ref p,.int 0 0] },toks:=s.toks }:=I.kept fun b u q=>Ng _ q
  have f1:=I.fpOk (H':=H) (b:=s.heap.objs.size) (M6 _) (I.hok.fresh (M6 _))
  refine⟨.int _,H,I1.turned (t':=tk) (it:=s.heap.objs.size) (fun b o hb q=>k b o (by simpa using hb) q) f1.1 f1.2.1 f1.2.2.2.1 f1.2.2.2.2.1 f1.2.2.2.2.2,⟨_,rfl⟩,q _ ?_ fun n hn=>?_⟩
  ·rw[Nl,Na (show Bl _ _ < ns.length by omega)]
   exact N5 _
  ·obtain⟨j,hj,rfl⟩:=List.getElem_of_mem hn
   have:=b2 j (by omega)
   rw[Nl (i:=j),Na hj] at this
   exact this
end
section
variable {M:Model}{A:Am}{E:Ac->Ad->Prop}{env:Env}
variable {nm qn:Str}{C N W:Ab}{bs:List Ac}{CW:Bool}{sn:List Str}{sub:List Ac}{ab:Bool}{col:Option Bool}{dd:Option Ab}{k0 k1 k2 k3 k5:Option Ac}
end
section
variable {X:Cx}{EX:XK}{W C0:Ab}{Wn en:Str}{i:Nat}{body suite:List As}{b0:As}{tb ts:TS}{wp EI pos:Pos}
end
def Yn:V->List V->Hp->VK->Prop:=fun x vs H Q=>∃ z y:Str,x=.str z/\vs=[.str y]/\JoinOk z (signs y)=true/\Q (.str (Rg z (signs y))) H
theorem Yo (h1:JoinOk z (signs y)=true) (h:Q (.str (Rg z (signs y))) H):Yn (.str z) [.str y] H Q:=⟨z,y,rfl,rfl,h1,h⟩
theorem Yp (hc:X.calm=true):MtR X "str.join" Yn:=fun B4 s σ H x xs v us Q I rx rs h=>by
 obtain⟨z,y,rfl,rfl,h1,h2⟩:=h
 obtain⟨t,rfl⟩:=rx
 obtain⟨u,rfl,t',rfl⟩:=Op rs
 exact SC.joinStr (I.ok.hd hc) h1 fun h' k t'' hk=>endS (I.kept (t':=k) hk) h2
theorem UC (w:List Nat):signs (S w)=(w.map fun c=>[c]).map S:=by
 rw[NK];rfl
theorem Yq (c:Nat) (h:w.length<=1000):JoinOk (S [c]) (signs (S w))=true:=by
 have key:∀(l:List Nat) (a:Nat),VD (fun(x1:Nat) (x2:Str)=>x1+x2.length+(S [c]).length) a ((l.map fun c=>[c]).map S)=a+2 * l.length:=fun l=>by
  induction l with
  | nil=>intro a;rfl
  | cons x l ih =>
   intro a
   rw[Nq,Nq,VB,ih,Nn,Nn,ND]
   show a+1+1+2 * l.length=a+2 * (l.length+1)
   omega
 unfold JoinOk
 rw[UC,List.foldl_toArray,key]
 unfold PySem.Builtin.Str.tooLong
 rw[B0]
 ·rfl
 ·exact Nat.not_lt.mpr (szn (by omega))
end L2
set_option maxHeartbeats 4000000
namespace K92
theorem _root_.L2.Room.MX (h:L2.Room k A) (e:l<=k:=by first | decide | omega):L2.Room l A:=h.mono e
open PySem L2
local macro_rules | `(tactic| walk_at "f") => `(tactic| exact ⟨rfl,rfl,rfl,by decide +kernel,rfl,by decide +kernel,by decide +kernel⟩)
local macro_rules | `(tactic| walk_at "sc")=>`(tactic| first | assumption | omega | exact rfl | decide | exact szn (by omega) | (simp only[ND,Ot,M5,Nn] <;> omega) | trivial)
local macro_rules | `(tactic| walk_at "sq")=>`(tactic| first | assumption | exact dU | exact dW | (exact OF (by assumption)) | (exact Tz (by assumption)))
local macro_rules | `(tactic| walk_at "sl")=>`(tactic| first | assumption | exact SqL.of MT | exact SqL.of (by assumption))
local macro_rules | `(tactic| walk_at "st")=>`(tactic| first | assumption | exact SqT.of MT | exact SqT.of (by assumption))
local macro_rules | `(tactic| walk_at "lq")=>`(tactic| first | assumption | exact WW | (exact Pt (by assumption)))
local macro_rules | `(tactic| walk_at "at")=>`(tactic| first | exact atI_0 _ _ | exact atI_1 _ _ _ | exact atI_2 _ _ _ _ | exact atI_3 _ _ _ _ _ | assumption)
local macro_rules | `(tactic| walk_at "mu")=>`(tactic| first | (exact CMul.l (by omega) (by omega)) | (exact CMul.r (by omega) (by omega)) | (exact CMul.l (by decide) (by decide)) | (exact CMul.r (by decide) (by decide)))
local macro_rules | `(tactic| walk_at "sd")=>`(tactic| first | omega | (simp only[No,ND,Ot,M5,ay] <;> omega))
local macro_rules | `(tactic| walk_at "g1")=>`(tactic| first
 | (with_reducible first | refine PY ?_ | refine i_ifs ?_ | refine i_asg ?_ | refine i_op ?_ | refine i_c ?_ | refine i_ret ?_ | refine WP ?_ | refine TW ?_ | refine Nt ?_ | refine i_gsub ?_ | refine i_test ?_ | refine i_bl ?_ | refine i_fI0 ?_ | refine i_addI ?_ | refine QU ?_ | refine TY ?_ | refine i_cb ?_ | refine i_call ?_ | refine i_and ?_ | refine i_or ?_ | refine i_not ?_ | refine i_andV ?_ | refine i_orV ?_ | refine i_notV ?_ | refine i_ifE ?_ | refine dP ?_ | refine i_un ?_ | refine i_neg ?_ | refine i_sl ?_ | refine dQ ?_ | refine i_part ?_ | refine i_exI ?_ | refine i_is ?_ | refine i_isnot ?_ | refine i_inS ?_ | refine i_1I ?_ | refine i_2I ?_ | refine i_intB ?_ | refine i_intI ?_ | refine i_truB ?_ | refine i_truI ?_ | refine i_SS ?_ | refine i_SSI ?_ | refine i_rng1 ?_ | refine i_rng2 ?_ | refine i_comp ?_ | refine i_true ?_ | refine i_data ?_ | refine i_bm ?_ | refine i_bm0 ?_ | refine i_tyS ?_ | refine i_for ?_ | refine i_any ?_ | refine i_anyS ?_ | refine dR ?_ | refine i_enum ?_ | refine i_enS ?_ | refine i_lst ?_ | refine i_tup ?_ | refine i_retN ?_)
 | ((with_reducible first | refine' i_lenC ?k1 ?_ | refine' R7 ?k1 ?_ | refine' i_slC ?k1 ?_);(case k1=>walk_at "sd"))
 | ((with_reducible first | refine' i_fI ?k1 ?_ | refine' WS ?k1 ?_ | refine' T5 ?k1 ?_ | refine' i_slS ?k1 ?_);(case k1=>walk_at "sc"))
 | ((with_reducible refine' i_lenR ?k1 ?_);(case k1=>walk_at "sq"))
 | ((with_reducible first | refine' TX ?k1 ?_ | refine' i_eq ?k1 ?_ | refine' i_ne ?k1 ?_ | refine' Pg ?k1 ?_);(case k1=>exact rfl))
 | ((with_reducible refine' i_mulI ?k1 ?_);(case k1=>walk_at "mu"))
 | ((with_reducible refine' PZ ?k1 ?k2 ?_);(case k1=>walk_at "sq");(case k2=>walk_at "at"))
 | ((with_reducible refine' QV ?k1 ?k2 ?_);(case k1=>first | assumption | exact MT);(case k2=>walk_at "sc"))
 | ((with_reducible first | refine' i_r1 ?k1 ?_ | refine' i_r2 ?k1 ?_);(case k1=>omega))
 | ((with_reducible first | refine' i_tyL ?k1 ?_ | refine' RV ?k1 ?_);(case k1=>walk_at "sl"))
 | ((with_reducible refine' WQ ?k1 ?_);(case k1=>walk_at "st"))
 | ((with_reducible refine' i_ixK ?k1 ?k2 ?_);(case k1=>assumption);(case k2=>walk_at "at"))
 | ((with_reducible refine' RY ?k1 ?_);(case k1=>first | exact rfl | decide) )
 | ((with_reducible refine' Pi ?k1 ?_);(case k1=>first | exact rfl | decide)  )
 | ((with_reducible refine' Ph ?k1 ?_);(case k1=>intro z;cases z))
 | ((with_reducible refine' i_sz ?k1 ?_);(case k1=>exact szc rfl))
 | ((with_reducible refine' i_isi ?k1 ?k2 ?_);(case k1=>first | exact rfl | (exact WU (by assumption)) | (exact WV (by assumption)));(case k2=>exact rfl))
 | ((with_reducible refine' RW ?k1 ?k2 ?_);(case k1=>first | assumption | exact MT);(case k2=>first | exact rfl | (exact T8 (by omega) (by omega))))
 | ((with_reducible refine' i_lenK ?k1 ?_);(case k1=>assumption))
 | ((with_reducible show Ends.nx _ _ _);dsimp only)
 | ((with_reducible show Ends.rt _ _ _);dsimp only))
local macro_rules | `(tactic| ext)=>`(tactic| repeat (walk_at "g1"))
local macro_rules | `(tactic| walk_at "s0")=>`(tactic| ((repeat rw[st_c]);(repeat rw[st_n]);rw[st_0]))
local macro_rules | `(tactic| walk_at "l0")=>`(tactic| (intro _ _ _ _ h;(repeat (first | (cases h.1;rfl) | rcases h with ⟨_,h⟩))))
seal L2.PSs L2.PS L2.PE L2.PT L2.PA L2.PI L2.PG L2.PTs L2.PGs L2.PO L2.PW
noncomputable def top (i:Nat):As:=PySem.Challenge.pw_breakwords_k92_whole_desk.main.body.getD i (.Pass ⟨0,0,0,0⟩)
structure Txt (mg:Str->Option Ac)(tk:Nat->Tok):Prop where
 z_len:mg "len"=none
 z_abs:mg "abs"=none
 z_all:mg "all"=none
 z_any:mg "any"=none
 z_range:mg "range"=none
 z_enumerate:mg "enumerate"=none
 z_isinstance:mg "isinstance"=none
 z_tuple:mg "tuple"=none
 z_list:mg "list"=none
 z_dict:mg "dict"=none
 z_bool:mg "bool"=none
 z_str:mg "str"=none
 z_int:mg "int"=none
 z_min:mg "min"=none
 z_max:mg "max"=none
 z_zip:mg "zip"=none
 z_ord:mg "ord"=none
 z_sorted:mg "sorted"=none
 z_ValueError:mg "ValueError"=none
 m_LETTERS:mg "LETTERS"=some (.str "abcdefghijklmnopqrstuvwxyz" (tk 0))
 m_MOST_LETTERS:mg "MOST_LETTERS"=some (.int 8 (tk 1))
 m_FIGURES:mg "FIGURES"=some (.str "123456789" (tk 2))
 m_MOST_SIGNS:mg "MOST_SIGNS"=some (.int 22 (tk 3))
 m_PERCENT_SIGN:mg "PERCENT_SIGN"=some (.int 37 (tk 4))
structure Cs (K:MV)(mg:Str->Option Ac)(ad:Nat->Ab):Prop where
 m_WordError:mg "WordError"=some (.ref (ad 0))
 b_WordError:ExcBase K (ad 0)
 w_WordError:ExcW K (ad 0)
 m_NoWord:mg "NoWord"=some (.ref (ad 1))
 x_NoWord:Exc K (ad 0) (ad 1)
 n_NoWord:NoAttr K (ad 1) "place"
 m_NoPattern:mg "NoPattern"=some (.ref (ad 2))
 x_NoPattern:Exc K (ad 0) (ad 2)
 n_NoPattern:NoAttr K (ad 2) "place"
 m_NoThing:mg "NoThing"=some (.ref (ad 3))
 x_NoThing:Exc K (ad 0) (ad 3)
 n_NoThing:NoAttr K (ad 3) "place"
 m_TooNarrow:mg "TooNarrow"=some (.ref (ad 4))
 x_TooNarrow:Exc K (ad 0) (ad 4)
 n_TooNarrow:NoAttr K (ad 4) "place"
 m_Twice:mg "Twice"=some (.ref (ad 5))
 x_Twice:Exc K (ad 0) (ad 5)
 n_Twice:NoAttr K (ad 5) "word"
 m_NoTongue:mg "NoTongue"=some (.ref (ad 6))
 x_NoTongue:Exc K (ad 0) (ad 6)
 n_NoTongue:NoAttr K (ad 6) "name"
 m_NoRow:mg "NoRow"=some (.ref (ad 7))
 x_NoRow:Exc K (ad 0) (ad 7)
 i_NoRow:Nv K (.ref (ad 7)) "__init__"=some (some (.builtin xIni))
 nd:([ad 0,ad 1,ad 2,ad 3,ad 4,ad 5,ad 6,ad 7]:List Ab).Nodup
noncomputable abbrev s_TooNarrow_init:As:=Qn (top 8) 0
variable {P:Aj}{w:Ak}{K:MV}{mg:Str->Option Ac}{base:An}{f cO cO2 mkT cD cO3:Ab}{fd:Aw}{ad:Nat->Ab}{tk:Nat->Tok}
theorem gm (Z:Cs K mg ad)(F:Fun K "__init__" "TooNarrow.__init__" s_TooNarrow_init f fd):FnOk P w K mg base CX0 1 f fd ["self","place"] (Qc okTx (ad 4) "place"):=by
 refine F.okk ["self","place"] ?_
 rintro _ _ _ _ H _ _ _ hr ⟨e,y,fr,rfl,hX,hy,q⟩ nd
 refine⟨_,(MS (N9 (XZ Z.b_WordError rfl Z.m_WordError (MQ (pv 0) (pa1 (pe_fs (Q6 NQ (Q6 (pe_fv (pv 1)) (Q6 NQ X0))))))))
  (MU (X2 (pv 0) (pv 1) rfl))),?_⟩
 walk_at "s0"
 refine PY (TW (X_ (QU (TX rfl (QU (i_fs3 (by decide) (by decide) hy rfl fun z=>TY ⟨e,ad 4,none,fr,_,rfl,hX,Z.x_TooNarrow,?_⟩))))))
 exact⟨y,rfl,.ref e,rfl,e,ad 4,ad 0,fr,rfl,hX,Z.x_TooNarrow,Z.n_TooNarrow,fun d hd Gu=>q d hd Gu⟩
noncomputable abbrev s_NoTongue_init:As:=Qn (top 6) 0
theorem gn (Z:Cs K mg ad)(F:Fun K "__init__" "NoTongue.__init__" s_NoTongue_init f fd):FnOk P w K mg base CX0 1 f fd ["self","name"] (Qc okTs (ad 6) "name"):=by
 refine F.okk ["self","name"] ?_
 rintro _ _ _ _ H _ _ _ hr ⟨e,y,fr,rfl,hX,hy,q⟩ nd
 refine⟨_,(MS (N9 (XZ Z.b_WordError rfl Z.m_WordError (MQ (pv 0) (pa1 (pe_fs (Q6 NQ (Q6 (pe_fr (pv 1)) X0)))))))
  (MU (X2 (pv 0) (pv 1) rfl))),?_⟩
 walk_at "s0"
 refine PY (TW (X_ (QU (TX rfl (QU (i_fs2r (by decide) hy rfl fun z=>TY ⟨e,ad 6,none,fr,_,rfl,hX,Z.x_NoTongue,?_⟩))))))
 exact⟨y,rfl,.ref e,rfl,e,ad 6,ad 0,fr,rfl,hX,Z.x_NoTongue,Z.n_NoTongue,fun d hd Gu=>q d hd Gu⟩
noncomputable abbrev s_law_feed:As:=top 77
noncomputable abbrev s_law_next:As:=top 78
noncomputable abbrev s_law_alike:As:=top 79
theorem gp (T:Txt mg tk)(F:Fun K "_law_feed" "_law_feed" s_law_feed f fd):FnOk P w K mg base CX0 1 f fd ["_law_script","_law_k"] (W3 K):=by
 refine F.okk ["_law_script","_law_k","_law_cell","_law_left"] ?_
 rintro _ _ _ _ H _ Q _ hr ⟨a,ns,k,rfl,hl,hk0,Fp,q⟩ nd
 refine⟨_,(MS (pst 2 nd MP)
  (MS (Nc (Nb o_gt (pcb (Nu (K:=K)) T.z_len (pa1 (pv 0))) MP (M9 _))
   (MU (pst 2 nd (pix K (pv 0) (MY QP (pv 1) (pcb (Nu (K:=K)) T.z_len (pa1 (pv 0)))))))
   Ni)
  (MS (pst 3 nd (pcb c_abs T.z_abs (pa1 (pv 2))))
  (MS (Nc (Nb o_lt (pv 3) (MY o_pow MP MP) (M9 _))
   (MU (pst 3 nd MP))
   Ni)
  (MU (M8 (NN (MQ (pv 3) (MQ (MY QP (MY M_ (MY M_ (pv 2) (MY Rm MP (pv 1))) MP) MP) (pa1 MP)))))))))),?_⟩
 walk_at "s0"
 have fin:∀(cell left:Int),0<=left->∀ p,H p=none->Q (.ref p) (upd H p (.lst [.int left,.int ((cell+7919 * k+13) % 2147483399),.int 0])):=fun cell left h0 p hp =>
  q p _ hp ⟨left,_,0,MT,h0,VL _ (by decide),Z' _ (by decide),VM 0,VM 0⟩ ((Off.refl p H).upd _)
 have B8:(ns.map V.int).length=ns.length:=M5 _
 ext
 refine iteD (fun c=>?_) (fun c=>?_)
 ·rw[B8] at c
  ext
  have GM:(k % (ns.length:Int)).toNat < ns.length:=by
   have h1:=Z' k c
   have h2:=VL k (show (ns.length:Int)≠0 by omega)
   omega
  refine i_ixK (v:=.int ns[(k % (ns.length:Int)).toNat]) hl ?_ ?_
  ·rw[B8]
   exact Pj (VL k (by omega)) (by rw[Nz,Na GM];rfl)
  ext
  refine iteD (fun c=>?_) (fun c=>?_)
  ·ext
   exact(fun p hp=>fin _ 0 (VM 0) p hp)
  ·ext
   refine(fun p hp=>fin _ _ ?_ p hp)
   split <;> omega
 ·ext
  exact fun p hp=>fin 0 0 (VM 0) p hp
theorem gq (F:Fun K "_law_next" "_law_next" s_law_next f fd):FnOk P w K mg base CX0 1 f fd ["_law_feed_here","_law_many"] R5:=by
 refine F.okk ["_law_feed_here","_law_many","_law_digit","_law_mixed"] ?_
 rintro _ _ _ _ H _ _ _ hr ⟨p,m,n,rfl,⟨a,b,c,h1,ha,DK,Ex,Gv,JA⟩,hn,Kx,Fq,q⟩ nd
 refine⟨_,(MS (Nc (Nb o_gt (pix K (pv 0) MP) MP (M9 _))
   (MS (pst 2 nd (MY QP (pix K (pv 0) MP) (pv 1)))
  (MS (Rk (MY WB (pix K (pv 0) MP) (pv 1)) (QD (pv 0) MP QT))
  (MU (M8 (pv 2)))))
   Ni)
  (MS (Rk (MY M_ (pix K (pv 0) MP) MP) (QD (pv 0) MP QT))
  (MS (pst 3 nd (MY QP (MY Rm (MY QP (MY M_ (MY M_ (pix K (pv 0) MP) (MY Rm MP (pix K (pv 0) MP))) MP) MP) MP) MP))
  (MS (pst 3 nd (MY QP (MY Rm (MY QP (MY M_ (MY Rm (pv 3) MP) (MY Rm (pix K (pv 0) MP) (pix K (pv 0) MP))) MP) MP) MP))
  (MU (M8 (MY QP (MY WB (pv 3) MP) (pv 1)))))))),?_⟩
 walk_at "s0"
 unfold R4 at hn
 ext
 refine iteD (fun c0=>?_) (fun c0=>?_)
 ·ext
  exact q _ _ (VL _ (by omega)) (Z' _ Kx) ⟨a / m,b,c,MT,Int.ediv_nonneg ha (by omega),DK,Ex,Gv,by omega⟩ ((Off.refl p H).upd _)
 ·ext
  exact q _ _ (VL _ (by omega)) (Z' _ Kx) ⟨a,b,c+1,MT,ha,DK,Ex,by omega,by omega⟩ ((Off.refl p H).upd _)
theorem Yr (T:Txt mg tk)(F:Fun K "_law_alike" "_law_alike" s_law_alike f fd)(bF:Binds K fd ["_law_found","_law_due"] [])(mF:mg "_law_alike"=some (.ref f)) :
  ∀ n,FnOk P w K mg base CX0 n f fd ["_law_found","_law_due"] (W5 n)
 | 0=>by
  have no:∀ vs H Q E,¬ W5 0 vs H Q E:=fun vs H Q E h=>by
   obtain⟨u,v,d,_,_,_,h0,_⟩:=h
   omega
  exact⟨fun vs H Q E h=>absurd h (no vs H Q E),fun A outer s H args us vs Q E _ _ _ _ h=>absurd h (no vs H Q E)⟩
 | n+1=>by
  have Cv:Dn P w K mg base "_law_alike" n ["_law_found","_law_due"] (W5 n):=⟨f,fd,mF,F.kp,bF,Yr T F bF mF n⟩
  refine F.okk ["_law_found","_law_due"] ?_
  rintro _ _ _ _ H _ _ _ hr ⟨u,v,d,rfl,hu,hv,hd,hw,q⟩ nd
  refine⟨_,(MS (Nc (Oe (pcb PR T.z_isinstance (MQ (pv 1) (pa1 (NY (MQ (pty "tuple" T.z_tuple) (pa1 (pty "list" T.z_list))))))) (fun _=>rfl))
   (MS (Nc (PW.pt (Pd (Nb (o_ne hr.units) (pcb PR T.z_isinstance (MQ (pv 1) (pa1 (pty "tuple" T.z_tuple)))) (pcb PR T.z_isinstance (MQ (pv 0) (pa1 (pty "tuple" T.z_tuple)))) (M9 _)) (Tg (Nb (o_ne hr.units) (pcb PR T.z_isinstance (MQ (pv 1) (pa1 (pty "list" T.z_list)))) (pcb PR T.z_isinstance (MQ (pv 0) (pa1 (pty "list" T.z_list)))) (M9 _)))))
   (MU (M8 Pb))
   Ni)
  (MS (Nc (Nb (o_ne hr.units) (pcb (Nu (K:=K)) T.z_len (pa1 (pv 0))) (pcb (Nu (K:=K)) T.z_len (pa1 (pv 1))) (M9 _))
   (MU (M8 Pb))
   Ni)
  (MU (M8 (pcb (TQ rfl) T.z_all (pa1 (PP ["_law_found","_law_due","_law_k"] [some 0,some 1,none] rfl (by kernel_rfl) rfl (QE rfl T.z_range (pa1 (pcb (Nu (K:=K)) T.z_len (pa1 (pv 1))))) (fun _ _ _ _=>(N_ (i:=2) (show (["_law_found","_law_due","_law_k"]:List Str).Nodup by decide +kernel) rfl (Or.inl rfl) (Or.inr rfl))) (fun _ _ _ _=>QK) (fun _ _ _ _=>(M3 Cv hr.MX rfl (MQ (pix K (pv 0) (pv 2)) (pa1 (pix K (pv 1) (pv 2)))))))))))))
   Ni)
  (MS (Nc (PW.pt (Pd (Nb o_is (pv 1) Pz (M9 _)) (Tg (Nb o_is (pv 0) Pz (M9 _)))))
   (MU (M8 (Qm (Oa o_is (pv 1) Pz (M9 _)) (PD (Oa o_is (pv 0) Pz (M9 _))))))
   Ni)
  (MS (Nc (PW.pt (Pd (Oe (pcb PR T.z_isinstance (MQ (pv 1) (pa1 (pty "bool" T.z_bool)))) (fun _=>rfl)) (Tg (Oe (pcb PR T.z_isinstance (MQ (pv 0) (pa1 (pty "bool" T.z_bool)))) (fun _=>rfl)))))
   (MU (M8 (Qm (pcb PR T.z_isinstance (MQ (pv 1) (pa1 (pty "bool" T.z_bool)))) (Qm (pcb PR T.z_isinstance (MQ (pv 0) (pa1 (pty "bool" T.z_bool)))) (PD (Oa (o_eq hr.units) (pv 0) (pv 1) (M9 _)))))))
   Ni)
  (MS (Nc (Oe (pcb PR T.z_isinstance (MQ (pv 1) (pa1 (pty "str" T.z_str)))) (fun _=>rfl))
   (MU (M8 (Qm (pcb PR T.z_isinstance (MQ (pv 0) (pa1 (pty "str" T.z_str)))) (PD (Oa (o_eq hr.units) (pv 0) (pv 1) (M9 _))))))
   Ni)
  (MU (M8 (Qm (pcb PR T.z_isinstance (MQ (pv 0) (pa1 (pty "int" T.z_int)))) (PD (Oa (o_eq hr.units) (pv 0) (pv 1) (M9 _)))))))))),?_⟩
  walk_at "s0"
  ext
  intro p hp
  ext
  have s1:Same H (upd H p (.tup [.ty "tuple",.ty "list"])):=Nh hp _
  have Iy:=Is.same s1 hu
  have Iz:=Is.same s1 hv
  cases d with
  | non =>
   simp only[Is] at hu hv
   subst hu hv
   refine P0 (t:="NoneType") (T:="tuple") (T':="list") rfl MT ⟨rfl,rfl⟩ ?_
   ext
   exact q _ s1
  | bl b =>
   simp only[Is] at hu hv
   subst hu hv
   refine P0 (t:="bool") (T:="tuple") (T':="list") rfl MT ⟨rfl,rfl⟩ ?_
   ext
   rw[B1 rfl]
   exact q _ s1
  | int i =>
   simp only[Is] at hu hv
   subst hu hv
   refine P0 (t:="int") (T:="tuple") (T':="list") rfl MT ⟨rfl,rfl⟩ ?_
   ext
   rw[B1 rfl]
   exact q _ s1
  | str x =>
   simp only[Is] at hu hv
   subst hu hv
   refine P0 (t:="str") (T:="tuple") (T':="list") rfl MT ⟨rfl,rfl⟩ ?_
   ext
   rw[B1 rfl]
   exact q _ s1
  | tup ds =>
   simp only[Is] at Iy Iz
   obtain⟨a,xs,rfl,ha,Dc⟩:=Iy
   obtain⟨b,ys,rfl,hb,Dr⟩:=Iz
   have l1:=Dc.length
   have l2:=Dr.length
   simp only[wid,dep] at hw hd
   refine P0 (t:="tuple") (T:="tuple") (T':="list") (WU hb) MT ⟨rfl,rfl⟩ ?_
   ext
   refine Pi (by rw[l1,l2,B1 rfl];rfl) ?_
   have EZ:(ys.length:Int)<=100000:=by omega
   ext
   intro r Cd
   have s2:Same (upd H p (.tup [.ty "tuple",.ty "list"])) (upd (upd H p (.tup [.ty "tuple",.ty "list"])) r (.lst [])):=Nh Cd _
   refine RR (fun i B6 σ H'=>∃ v,σ=[some (.ref a),some (.ref b),v]/\B6=(Nr i true).map V.bl/\Same (upd H p (.tup [.ty "tuple",.ty "list"])) H'/\H' r=some (.lst B6))
    ⟨none,rfl,rfl,s2,MT⟩ (fun i B6 σ H' hI9=>by rcases hI9 with ⟨_,_,e,_,e2⟩;exact⟨e2,by rw[e];simp⟩) (szn (by omega)) ?_ ?_
   ·intro i B6 σ H' hi hI9
    obtain⟨v,rfl,rfl,s3,e3⟩:=hI9
    have hi':i < ds.length:=by omega
    obtain⟨x,d,hx,Dx,hI⟩:=IsL.get (IsL.same s3 Dc) hi'
    obtain⟨y,d',hy,C8,hJ⟩:=IsL.get (IsL.same s3 Dr) hi'
    rw[Dx] at C8
    cases C8
    have JB:=s3 _ _ ha
    have JC:=s3 _ _ hb
    ext
    refine PZ (Tz JB) (Pj (by omega) (by simpa using hx)) ?_
    ext
    refine PZ (Tz JC) (Pj (by omega) (by simpa using hy)) ?_
    ext
    have Ll:=Wz Dx
    have Lm:=Wy Dx
    refine⟨x,y,d,rfl,hI,hJ,by omega,by omega,fun H4 s4=>⟨s4 _ _ e3,?_⟩⟩
    refine⟨_,rfl,?_,fun c o e=>?_,MT⟩
    ·rw[aS,Np];rfl
    ·have Hv:c≠r:=fun z=>by rw[z,Cd] at e;cases e
     rw[MR Hv]
     exact s4 _ _ (s3 _ _ e)
   ·intro B6 σ H' hI9
    obtain⟨v,rfl,rfl,s3,e3⟩:=hI9
    ext
    refine RX (Pt e3) ?_
    ext
    have e:(Nr (0+(ys.length:Int) - 0).toNat true).all id=true:=by simp
    simp only[List.all_replicate]
    have e5:∀ k:Nat,(if k=0 then true else id true)=true:=fun k=>by split <;> rfl
    rw[e5]
    exact q _ fun c o k=>s3 _ _ (s1 _ _ k)
  | lst ds =>
   simp only[Is] at Iy Iz
   obtain⟨a,xs,rfl,ha,Dc⟩:=Iy
   obtain⟨b,ys,rfl,hb,Dr⟩:=Iz
   have l1:=Dc.length
   have l2:=Dr.length
   simp only[wid,dep] at hw hd
   refine P0 (t:="list") (T:="tuple") (T':="list") (WV hb) MT ⟨rfl,rfl⟩ ?_
   ext
   refine Pi (by rw[l1,l2,B1 rfl];rfl) ?_
   have EZ:(ys.length:Int)<=100000:=by omega
   ext
   intro r Cd
   have s2:Same (upd H p (.tup [.ty "tuple",.ty "list"])) (upd (upd H p (.tup [.ty "tuple",.ty "list"])) r (.lst [])):=Nh Cd _
   refine RR (fun i B6 σ H'=>∃ v,σ=[some (.ref a),some (.ref b),v]/\B6=(Nr i true).map V.bl/\Same (upd H p (.tup [.ty "tuple",.ty "list"])) H'/\H' r=some (.lst B6))
    ⟨none,rfl,rfl,s2,MT⟩ (fun i B6 σ H' hI9=>by rcases hI9 with ⟨_,_,e,_,e2⟩;exact⟨e2,by rw[e];simp⟩) (szn (by omega)) ?_ ?_
   ·intro i B6 σ H' hi hI9
    obtain⟨v,rfl,rfl,s3,e3⟩:=hI9
    have hi':i < ds.length:=by omega
    obtain⟨x,d,hx,Dx,hI⟩:=IsL.get (IsL.same s3 Dc) hi'
    obtain⟨y,d',hy,C8,hJ⟩:=IsL.get (IsL.same s3 Dr) hi'
    rw[Dx] at C8
    cases C8
    have JB:=s3 _ _ ha
    have JC:=s3 _ _ hb
    ext
    refine PZ (OF JB) (Pj (by omega) (by simpa using hx)) ?_
    ext
    refine PZ (OF JC) (Pj (by omega) (by simpa using hy)) ?_
    ext
    have Ll:=Wz Dx
    have Lm:=Wy Dx
    refine⟨x,y,d,rfl,hI,hJ,by omega,by omega,fun H4 s4=>⟨s4 _ _ e3,?_⟩⟩
    refine⟨_,rfl,?_,fun c o e=>?_,MT⟩
    ·rw[aS,Np];rfl
    ·have Hv:c≠r:=fun z=>by rw[z,Cd] at e;cases e
     rw[MR Hv]
     exact s4 _ _ (s3 _ _ e)
   ·intro B6 σ H' hI9
    obtain⟨v,rfl,rfl,s3,e3⟩:=hI9
    ext
    refine RX (Pt e3) ?_
    ext
    have e:(Nr (0+(ys.length:Int) - 0).toNat true).all id=true:=by simp
    simp only[List.all_replicate]
    have e5:∀ k:Nat,(if k=0 then true else id true)=true:=fun k=>by split <;> rfl
    rw[e5]
    exact q _ fun c o k=>s3 _ _ (s1 _ _ k)
noncomputable abbrev s_fitting_places:As:=top 11
noncomputable abbrev s_values_by_fits:As:=top 12
noncomputable abbrev s_values:As:=top 13
def spFit:Sp:=fun vs H Q _=>∃(p f:List Nat),vs=[.str (S p),.str (S f)]/\p.length<=1000/\f.length<=1000/\∀(r:Ab) (H':Hp),H r=none->H' r=some (.lst ((NZ p f).map fun k:Nat=>V.int (k:Int)))->Same H H'->Q (.ref r) H'
def Sj:Sp:=fun vs H Q _=>∃(v:V) (xs:List Pat) (w:List Nat),vs=[v,.str (S w)]/\Is H v (P4 xs)/\(∀ x∈xs,1<=x.1.length/\x.1.length<=1000/\x.2.length<=x.1.length+1)/\xs.length<=9000/\1<=w.length/\w.length<=100 /\
 ∀(r:Ab) (H':Hp),H r=none->H' r=some (.lst ((vals xs w).map V.int))->Same H H'->Q (.ref r) H'
theorem gt {p f:List Nat}{b:Nat}(h:b∈NZ p f):b+p.length<=f.length:=by
 unfold NZ at h
 have:=(S8.mp h).2
 unfold fits at this
 simp only[NS,decide_eq_true_eq] at this
 exact this.1
theorem Ys (w:List Nat):[46]++w++[46]=frame w:=by simp[frame]
theorem Yt (t:List Int)(p:Nat)(v:Int)(h:p < t.length):(t.map V.int).set p (.int (if v > t[p] then v else t[p]))=(put t p v).map V.int:=by
 unfold put mx
 rw[List.map_set]
 have:t.getD p 0=t[p]:=by simp[Nl,h]
 rw[this]
def Yu:Sp:=fun vs H Q _=>∃(v:V) (xs:List Fit) (w:List Nat),vs=[v,.str (S w)]/\Is H v (R_ xs)/\(∀ x∈xs,x.1+x.2.length<=w.length+3)/\w.length<=100 /\
 ∀(r:Ab) (H':Hp),H r=none->H' r=some (.lst ((cutA (layF (Nr (w.length+3) 0) xs) (some 2) (some (-2))).map V.int))->Same H H'->Q (.ref r) H'
theorem gu (T:Txt mg tk)(F:Fun K "fitting_places" "fitting_places" s_fitting_places f fd):FnOk P w K mg base CX0 1 f fd ["signs","framed"] spFit:=by
 refine F.okk ["signs","framed"] ?_
 rintro _ _ _ _ H _ _ _ hr ⟨p,fr,rfl,hp,hf,q⟩ nd
 refine⟨_,(MU (M8 (PP ["framed","signs","place"] [some 1,some 0,none] rfl (by kernel_rfl) rfl (QE rfl T.z_range (pa1 (pcb (Nu (K:=K)) T.z_len (pa1 (pv 1))))) (fun _ _ _ _=>(N_ (i:=2) (show (["framed","signs","place"]:List Str).Nodup by decide +kernel) rfl (Or.inl rfl) (Or.inr rfl))) (fun _ _ _ _=>(Tx (Oe (NF (K:=K) OD bj bm dE (pv 0) (MQ (pv 1) (pa1 (pv 2)))) (fun _=>rfl)))) (fun _ _ _ _=>(pv 2))))),?_⟩
 walk_at "s0"
 ext
 intro r Cd
 refine RR (fun i B6 σ H'=>∃ v,σ=[some (.str (S fr)),some (.str (S p)),v]/\B6=(((NW i).filter (fits p fr)).map fun k:Nat=>V.int (k:Int))/\Same H H'/\H' r=some (.lst B6))
  ⟨none,rfl,rfl,Nh Cd _,MT⟩ (fun i B6 σ H' hI9=>by rcases hI9 with ⟨_,_,e,_,e2⟩;exact⟨e2,by rw[e,M5];exact NI (SE _ _) (by simp)⟩) (szn (by omega)) ?_ ?_
 ·intro i B6 σ H' hi hI9
  obtain⟨v,rfl,rfl,s1,e1⟩:=hI9
  ext
  rw[Int.zero_add,ei]
  refine iteB (fun c=>?_) (fun c=>?_)
  ·ext
   refine⟨e1,_,rfl,?_,fun b o e=>?_,MT⟩
   ·rw[Q_,Qu,Np,Qv,c,B3 rfl];rfl
   ·have hb:b≠r:=fun z=>by rw[z,Cd] at e;cases e
    rw[MR hb];exact s1 b o e
  ·refine⟨_,rfl,?_,s1,?_⟩
   ·rw[Q_,Qu,Np,Qv,c,B2 Nj];simp
   ·exact e1
 ·intro B6 σ H' hI9
  obtain⟨v,rfl,rfl,s1,e1⟩:=hI9
  refine q r H' Cd ?_ s1
  rw[e1]
  show _=some (HO.lst (((NW fr.length).filter (fits p fr)).map _))
  simp
theorem gv (T:Txt mg tk)(F:Fun K "values_by_fits" "values_by_fits" s_values_by_fits f fd):FnOk P w K mg base CX0 1 f fd ["fits","word"] Yu:=by
 refine F.okk ["fits","word","told","begin","numbers","place","number"] ?_
 rintro _ _ _ _ H _ _ _ hr ⟨v,xs,w',rfl,hv,Dc,C9,q⟩ nd
 obtain⟨a,ys,rfl,ha,Dr⟩:=isFits hv
 refine⟨_,(MS (pst 2 nd (MY Rm (NN (pa1 MP)) (MY M_ (pcb (Nu (K:=K)) T.z_len (pa1 (pv 1))) MP)))
  (MS (Ou Oo rfl (Pf (K:=K) (pv 0)) (O6 rfl (Nx (pnm 3 nd) (Nx (pnm 4 nd) OL)))
   (MU (Ou Oo rfl (WO rfl T.z_enumerate (pv 4) (pv 3)) (O6 rfl (Nx (pnm 5 nd) (Nx (pnm 6 nd) OL)))
   (MU (Rk (pcb (c_max rfl) T.z_max (MQ (pix K (pv 2) (pv 5)) (pa1 (pv 6)))) (QD (pv 2) (pv 5) QT))))))
  (MU (M8 (Ob (Od (K:=K)) (pv 2) (NR MP) (NR (Ov RO MP))))))),?_⟩
 walk_at "s0"
 ext
 intro b0 DK
 ext
 refine W' MT (by omega) fun t FC=>?_
 have Gw:(Nr (((w'.length:Nat):Int)+3).toNat (V.int 0))=(Nr (w'.length+3) (0:Int)).map V.int:=by
  rw[List.map_replicate];congr 1
 rw[Gw]
 have s0:Same H (upd (upd H b0 (.lst [.int 0])) t (.lst ((Nr (w'.length+3) (0:Int)).map V.int))):=(Nh DK _).trans (Nh FC _)
 have IA:H t=none:=(Nh DK _).free FC
 have IB:=s0 _ _ ha
 ext
 refine Vj (K:=K) (xs:=ys) (fun i σ H'=>∃(v3 v4 v5 v6:Option V),σ=[some (.ref a),some (.str (S w')),some (.ref t),v3,v4,v5,v6]/\H' t=some (.lst ((layF (Nr (w'.length+3) 0) (xs.take i)).map V.int))/\Same H H')
  ⟨none,none,none,none,rfl,MT,s0⟩ (fun i σ H' _ hI9=>by rcases hI9 with ⟨_,_,_,_,_,_,s1⟩;exact SqL.of (s1 _ _ ha)) ?_ ?_
 ·intro i x σ H1 hx hI9
  obtain⟨v3,v4,v5,v6,rfl,e1,s1⟩:=hI9
  have DF:i < xs.length:=by
   have h1:=(NJ.mp hx).1
   have h2:=Dr.length
   rw[M5] at h2;omega
  obtain⟨x',d,Eb,Ek,Fs⟩:=IsL.get Dr (i:=i) (by rw[M5];exact DF)
  rw[hx] at Eb
  cases Eb
  rw[Nz,Na DF] at Ek
  cases Ek
  obtain⟨pa,nt,rfl,GN,E1⟩:=isFit Fs
  have hg:=Dc _ (N5 DF)
  have El:=s1 _ _ GN
  have Ee:=s1 _ _ E1
  have Hw:=Xo (xs.take i) (Nr (w'.length+3) 0)
  rw[aQ] at Hw
  rw[e_ DF]
  generalize layF (Nr (w'.length+3) 0) (xs.take i)=T1 at e1 Hw ⊢
  generalize xs[i]=xi at hg El Ee E1 ⊢
  obtain⟨b,ns⟩:=xi
  refine RU El rfl (Ny (Nt (Ny (Nt (OO ?_)))))
  have hg:b+ns.length<=w'.length+3:=hg
  have Ee:H1 nt=some (.tup (ns.map V.int)):=Ee
  have E1:H nt=some (.tup (ns.map V.int)):=E1
  ext
  refine⟨b,rfl,by omega,i_enST Ee ?_⟩
  refine PX (b:=b) (xs:=ns.map V.int) (fun k σ H'=>∃(v5 v6:Option V),σ=[some (.ref a),some (.str (S w')),some (.ref t),some (.int (b:Int)),some (.ref nt),v5,v6]/\H' t=some (.lst ((laid T1 b (ns.take k)).map V.int))/\Same H H')
   ⟨_,_,rfl,e1,s1⟩ (fun k σ H' _ hI9=>by rcases hI9 with ⟨_,_,_,_,s4⟩;exact s4 _ _ E1) ?_ ?_
  ·rintro k z σ H4 T4 hz ⟨v5,v6,rfl,e4,s4⟩ Ky
   have Em:k < ns.length:=by
    have:=(NJ.mp hz).1
    simpa using this
   rw[Nz,Na Em] at hz
   cases hz
   have FT:t≠T4:=MZ e4 Ky
   have JD:=ax (ns.take k) T1 b
   have Gx:ns.take (k+1)=ns.take k++[ns[k]]:=by rw[OC,Na Em];rfl
   have Hx:=Xd b ns[k] (ns.take k) T1 b
   rw[<- Gx,NX,Nat.min_eq_left (Pq Em)] at Hx
   rw[Hx]
   generalize laid T1 b (ns.take k)=T2 at e4 JD ⊢
   have e5:(upd H4 T4 (PrX T4 [.int ((b:Int)+(k:Int)),.int ns[k]])) t=some (.lst (T2.map V.int)):=by rw[MR FT];exact e4
   have Hy:b+k < T2.length:=by omega
   refine SN MT rfl (Ny (Nt (Ny (Nt (OO ?_)))))
   ext
   refine PZ (v:=.int T2[b+k]) (OF e5) (Pj (by omega) (by rw[show ((b:Int)+(k:Int)).toNat=b+k by omega,Nz,Na Hy];rfl)) ?_
   ext
   refine RW (j:=b+k) e5 (by rw[M5];rw[T8 (by omega) (by omega)];rfl) ?_
   rw[Yt T2 (b+k) ns[k] Hy]
   ext
   refine⟨_,_,rfl,MT,fun c o e=>?_⟩
   have Iq:c≠t:=fun z=>by rw[z,IA] at e;cases e
   rw[MR Iq]
   exact(Nh Ky _) c o (s4 c o e)
  ·intro σ H4 hI9
   obtain⟨v5,v6,rfl,e4,s4⟩:=hI9
   rw[M5,OB] at e4
   ext
   exact⟨_,_,_,_,rfl,e4,s4⟩
 ·intro σ H1 hI9
  obtain⟨v3,v4,v5,v6,rfl,e1,s1⟩:=hI9
  have h2:=Dr.length
  rw[M5] at h2
  rw[h2,OB] at e1
  ext
  refine i_slL (SqL.of e1) fun r FU=>?_
  rw[W9,Xa]
  ext
  exact q r _ (s1.free FU) MT (s1.trans (Nh FU _))
theorem gw (T:Txt mg tk)(F:Fun K "values" "values" s_values f fd)(Cq:Dn P w K mg base "fitting_places" 1 ["signs","framed"] spFit)(Cr:Dn P w K mg base "values_by_fits" 1 ["fits","word"] Yu):FnOk P w K mg base CX0 2 f fd ["patterns","word"] Sj:=by
 refine F.okk ["patterns","word","framed","fits","pattern"] ?_
 rintro _ _ _ _ H _ _ _ hr ⟨v,xs,w',rfl,hv,Dc,Ey,Dd,C9,q⟩ nd
 obtain⟨a,ys,rfl,ha,Dr⟩:=Xb hv
 refine⟨_,(MS (pst 2 nd (MY M_ (MY M_ (M4 P3) (pv 1)) (M4 P3)))
  (MS (pst 3 nd (NN O7))
  (MS (Ou Oo rfl (Pf (K:=K) (pv 0)) (N_ (i:=4) nd rfl (Or.inr rfl))
   (MU (N9 (NF (K:=K) OI PySem.F.slot_list_extend PySem.F.type_list_extend eW (pv 3) (pa1 (PP ["pattern","begin"] [some 4,none] rfl (by kernel_rfl) rfl (Pf (K:=K) (M3 Cq hr.MX rfl (MQ (pix K (pv 4) MP) (pa1 (pv 2))))) (fun _ _ _ _=>(N_ (i:=1) (show (["pattern","begin"]:List Str).Nodup by decide +kernel) rfl (Or.inl rfl) (Or.inr rfl))) (fun _ _ _ _=>QK) (fun _ _ _ _=>(NY (MQ (pv 1) (pa1 (pix K (pv 0) MP)))))))))))
  (MU (M8 (M3 Cr hr.MX rfl (MQ (pv 3) (pa1 (pv 1))))))))),?_⟩
 walk_at "s0"
 have GK:=ay w'
 ext
 rw[Ys]
 intro r Cd
 have ra:(upd H r (.lst [])) a=some (.lst ys):=(Nh Cd _) _ _ ha
 ext
 refine Vj (K:=K) (xs:=ys) (fun i σ H'=>∃(v4:Option V) (zs:List V),σ=[some (.ref a),some (.str (S w')),some (.str (S (frame w'))),some (.ref r),v4]/\H' r=some (.lst zs)/\IsL H' zs ((Qo (frame w') (xs.take i)).map fitD)/\Same H H')
  ⟨none,[],rfl,MT,(by simp[Qo,L2.IsL]),Nh Cd _⟩ (fun i σ H' _ hI9=>by rcases hI9 with ⟨_,_,_,_,_,s1⟩;exact SqL.of (s1 _ _ ha)) ?_ ?_
 ·intro i x σ H1 hx hI9
  obtain⟨v4,zs,rfl,e1,EG,s1⟩:=hI9
  have DF:i < xs.length:=by
   have h1:=(NJ.mp hx).1
   have h2:=Dr.length
   rw[M5] at h2;omega
  obtain⟨x',d,Eb,Ek,Fs⟩:=IsL.get Dr (i:=i) (by rw[M5];exact DF)
  rw[hx] at Eb
  cases Eb
  rw[Nz,Na DF] at Ek
  cases Ek
  obtain⟨pa,nt,rfl,GN,E1⟩:=Pk Fs
  obtain⟨IC,Gn,Kz⟩:=Dc _ (N5 DF)
  have El:=s1 _ _ GN
  have Ee:=s1 _ _ E1
  have hzl:zs.length<=9000 * 102:=by
   have h1:=EG.length
   rw[M5] at h1
   have h2:=Xs (frame w') (xs.take i)
   have h3:(xs.take i).length<=9000:=by rw[NX];omega
   have h4:(xs.take i).length * (frame w').length<=9000 * 102:=Nat.mul_le_mul h3 (by omega)
   omega
  rw[fb DF]
  generalize xs[i]=xi at GN E1 El Ee IC Gn Kz ⊢
  ext
  refine⟨xi.1,frame w',rfl,Gn,by omega,fun p H2 DV e2 s2=>?_⟩
  have JE:=s2 _ _ El
  have Cj:=Xr xi.1 (frame w')
  ext
  intro c Gv
  have rc:r≠c:=MZ (s2 _ _ e1) Gv
  refine ao (K:=K) (xs:=(NZ xi.1 (frame w')).map fun k:Nat=>V.int (k:Int)) (fun j B6 σ H'=>∃ v,σ=[some (.ref pa),v]/\B6.length=j/\H' c=some (.lst B6)/\IsL H' B6 ((((NZ xi.1 (frame w')).take j).map fun b=>(b,xi.2)).map fitD)/\Same H2 H')
   (fun j B6 σ H' _ hI9=>by rcases hI9 with ⟨_,_,_,_,_,s3⟩;exact SqL.of (s3 _ _ e2)) ⟨none,rfl,rfl,MT,(by simp[L2.IsL]),Nh Gv _⟩ (fun j B6 σ H' hI9=>by rcases hI9 with ⟨_,_,e,e3,_⟩;exact⟨e3,bf e⟩) (szn (by rw[M5];omega)) ?_ ?_
  ·intro j B6 σ H3 hj hI9
   obtain⟨v,rfl,FS,e3,EH,s3⟩:=hI9
   have hj':j < (NZ xi.1 (frame w')).length:=by simpa using hj
   have Ln:=s3 _ _ JE
   have E2:((NZ xi.1 (frame w')).map fun k:Nat=>V.int (k:Int)).getD j .non=V.int ((NZ xi.1 (frame w'))[j]:Int):=by
    rw[Nl,Nz,Na hj'];rfl
   rw[E2]
   ext
   intro t FC
   have tc:c≠t:=MZ e3 FC
   have e4:(upd H3 t (.tup [.int ((NZ xi.1 (frame w'))[j]:Int),.ref nt])) c=some (.lst B6):=by rw[MR tc];exact e3
   have k4:Tk H3 (upd (upd H3 t (.tup [.int ((NZ xi.1 (frame w'))[j]:Int),.ref nt])) c (.lst (B6++[.ref t]))):=(Tk.new FC _).trans (Tk.lst e4 _)
   refine⟨e4,_,rfl,by simp[FS],MT,?_,fun b o e=>?_⟩
   ·have EE:(NZ xi.1 (frame w')).take (j+1)=(NZ xi.1 (frame w')).take j++[(NZ xi.1 (frame w'))[j]]:=by rw[OC,Na hj'];rfl
    rw[EE,Np,Np]
    refine IsL.snoc (IsL.tk k4 (eY _) EH) (eZ (x:=((NZ xi.1 (frame w'))[j],xi.2)) ?_ (k4 _ _ (s3 _ _ (s2 _ _ Ee))))
    rw[MR tc.symm];exact MT
   ·have Lo:b≠c:=fun z=>by rw[z,Gv] at e;cases e
    rw[MR Lo];exact(Nh FC _) _ _ (s3 _ _ e)
  ·intro B6 σ H3 hI9
   obtain⟨v,rfl,FS,e3,EH,s3⟩:=hI9
   rw[M5] at FS EH
   rw[OB] at EH
   have e3r:H3 r=some (.lst zs):=s3 _ _ (s2 _ _ e1)
   ext
   refine i_extL e3r e3 (szn (by omega)) ?_
   ext
   have k5:Tk H3 (upd H3 r (.lst (zs++B6))):=Tk.lst e3r _
   refine⟨_,zs++B6,rfl,MT,?_,fun b o e=>?_⟩
   ·rw[Np]
    exact IsL.append (IsL.tk k5 (eY _) (IsL.same (s2.trans s3) EG)) (IsL.tk k5 (eY _) EH)
   ·have EK:b≠r:=fun z=>by rw[z,Cd] at e;cases e
    rw[MR EK];exact s3 _ _ (s2 _ _ (s1 _ _ e))
 ·intro σ H1 hI9
  obtain⟨v4,zs,rfl,e1,EG,s1⟩:=hI9
  have h2:=Dr.length
  rw[M5] at h2
  rw[h2,OB] at EG
  ext
  refine⟨.ref r,Qo (frame w') xs,w',rfl,?_,fun y hy=>?_,C9,fun r2 H2 De e2 s2=>?_⟩
  ·simp only[Is,R_];exact⟨r,zs,rfl,e1,EG⟩
  ·obtain⟨x,hx,hp,he⟩:=fe hy
   have h3:=gt hp
   have h4:=(Dc x hx).2.2
   rw[he];omega
  ·rw[Xq,show w'.length+3=(frame w').length+1 by omega,eJ xs w' Dd] at e2
   exact q r2 H2 (s1.free De) e2 (s1.trans s2)
theorem Yv (hK:X.K=K) (hc:X.calm=true) (h:PGs X es t) (hn:(A3 es X.env).length=n:=by rfl) (Cn:(A3 es X.env).findIdx? (·.1)=none:=by rfl):PG X (.Tuple es k pos) (gTup K n t):=hK▸O6 hc h hn Cn
noncomputable abbrev s_breaks:As:=top 14
theorem gx (Pv:Nat->List V->St->Hp->Prop) (hok:∀ i B6 σ H,i<=xs.length->Pv i B6 σ H->ok H) (h0:Pv 0 [] σ0 H0) (hp:∀ i B6 σ H,Pv i B6 σ H->H p=some (.lst B6)/\B6.length<=i) (hz:xs.length<=Ae) (hs:∀ i v B6 σ H T,xs[i]?=some v->Pv i B6 σ H->H T=none->g (.ref T) σ (upd H T (PrX T [.int ((b:Int)+(i:Int)),v])) fun σ3 H3=>tc σ3 H3 fun bb H4 =>
   if bb=true then te σ3 H4 fun v H5=>H5 p=some (.lst B6)/\Pv (i+1) (B6++[v]) σ3 (upd H5 p (.lst (B6++[v]))) else Pv (i+1) B6 σ3 H4) (hd:∀ B6 σ H,Pv xs.length B6 σ H->Q (.ref p) H):RL (Ien b xs ok) p g tc te Q σ0 H0:=by
 refine⟨fun i m B6 σ H=>m=xs.length - i/\i<=xs.length/\Pv i B6 σ H,⟨xs.length,by simp,NA _,h0⟩,fun i m B6 σ' H' w=>?_⟩
 obtain⟨rfl,hi,q⟩:=w
 obtain⟨q1,q2⟩:=hp i B6 σ' H' q
 have ho:=hok i B6 σ' H' hi q
 refine⟨q1,?_⟩
 by_cases Cz:i < xs.length
 ·refine .inr ⟨⟨ho,Cz⟩,by omega,Pv (i+1),fun a' σ3 H3 k=>⟨xs.length - (i+1),by omega,rfl,Cz,k⟩,fun x H2 y=>?_⟩
  obtain⟨T,v,hT,hv,rfl,rfl⟩:=y
  exact hs i v B6 σ' H' T hv q hT
 ·have e:i=xs.length:=by omega
  subst e
  exact .inl ⟨⟨ho,rfl⟩,hd B6 σ' H' q⟩
noncomputable def Qd (vs:List Int)(j:Nat):Bool:=decide (vs.getD j 0 % 2=1)
noncomputable def brks (vs:List Int):List Int:=((NW vs.length).filter (Qd vs)).map fun j:Nat=>(j:Int)+1
noncomputable def Qr (vs:List Int)(i:Nat):List V:=((NW i).filter (Qd vs)).map fun j:Nat=>V.int ((j:Int)+1)
theorem gy (vs:List Int):Qr vs vs.length=(brks vs).map V.int:=by unfold Qr brks;rw[NK];rfl
theorem gz (h:Qd vs i=true):Qr vs (i+1)=Qr vs i++[V.int ((i:Int)+1)]:=by
 unfold Qr;rw[Q_,Qu,Np,Qv,h,B3 rfl];rfl
theorem gA (h:Qd vs i=false):Qr vs (i+1)=Qr vs i:=by
 unfold Qr;rw[Q_,Qu,Np,Qv,h,B2 Nj];simp
theorem gB (vs:List Int)(i:Nat):(Qr vs i).length<=i:=by
 unfold Qr;rw[M5];exact NI (SE _ _) (by simp)
def Yw:Sp:=fun vs H Q _=>∃(v:V) (xs:List Pat) (w:List Nat),vs=[v,.str (S w)]/\Is H v (P4 xs)/\(∀ x∈xs,1<=x.1.length/\x.1.length<=1000/\x.2.length<=x.1.length+1)/\xs.length<=9000/\1<=w.length/\w.length<=100 /\
 ∀(t:Ab) (H':Hp),H' t=some (.tup ((brks (vals xs w)).map V.int))->Same H H'->Q (.ref t) H'
theorem gC (T:Txt mg tk)(F:Fun K "breaks" "breaks" s_breaks f fd)(DL:Dn P w K mg base "values" 2 ["patterns","word"] Sj):FnOk P w K mg base CX0 3 f fd ["patterns","word"] Yw:=by
 refine F.okk ["patterns","word"] ?_
 rintro _ _ _ _ H _ _ _ hr ⟨v,xs,w',rfl,hv,Dc,Ey,Dd,C9,q⟩ nd
 have Lp:=Vn xs w'
 refine⟨_,(MU (M8 (pct QR T.z_tuple (pa1 (PP ["gap","value"] [none,none] rfl (by kernel_rfl) rfl (WO rfl T.z_enumerate (M3 DL hr.MX rfl (MQ (pv 0) (pa1 (pv 1)))) MP) (fun _ _ _ _=>(Yv (K:=K) (n:=2) rfl rfl (Nx (N_ (i:=0) (show (["gap","value"]:List Str).Nodup by decide +kernel) rfl (Or.inl rfl) (Or.inr rfl)) (Nx (N_ (i:=1) (show (["gap","value"]:List Str).Nodup by decide +kernel) rfl (Or.inl rfl) (Or.inr rfl)) OL)))) (fun _ _ _ _=>(Tx (Nb (o_eq hr.units) (MY QP (pv 1) MP) MP (M9 _)))) (fun _ _ _ _=>(pv 0))))))),?_⟩
 walk_at "s0"
 ext
 refine⟨v,xs,w',rfl,hv,Dc,Ey,Dd,C9,fun a H1 IB e1 s1=>?_⟩
 ext
 refine⟨1,rfl,by decide,TZ e1 ?_⟩
 intro r Cd
 have ar:a≠r:=MZ e1 Cd
 refine gx (b:=1) (xs:=(vals xs w').map V.int) (fun i B6 σ H'=>∃ v1 v2,σ=[v1,v2]/\B6=Qr (vals xs w') i/\Same H1 H'/\H' r=some (.lst B6))
  (fun i B6 σ H' _ hI9=>by rcases hI9 with ⟨_,_,_,_,s2,_⟩;exact s2 _ _ e1) ⟨none,none,rfl,rfl,Nh Cd _,MT⟩ (fun i B6 σ H' hI9=>by rcases hI9 with ⟨_,_,_,e,_,e2⟩;exact⟨e2,by rw[e];exact gB _ _⟩) (szn (by rw[M5];omega)) ?_ ?_
 ·rintro i z B6 σ H2 T2 hz ⟨v1,v2,rfl,rfl,s2,e2⟩ hT
  have DF:i < (vals xs w').length:=by
   have:=(NJ.mp hz).1
   simpa using this
  rw[Nz,Na DF] at hz
  cases hz
  have Hz:Qd (vals xs w') i=decide ((vals xs w')[i] % 2=1):=by unfold Qd;simp[Nl,DF]
  have rT:r≠T2:=MZ e2 hT
  have s3:=Nh hT (PrX T2 [.int (((1:Nat):Int)+(i:Int)),.int (vals xs w')[i]])
  have e3:(upd H2 T2 (PrX T2 [.int (((1:Nat):Int)+(i:Int)),.int (vals xs w')[i]])) r=some (.lst (Qr (vals xs w') i)):=s3 _ _ e2
  refine SN MT rfl (Ny (Nt (Ny (Nt (OO ?_)))))
  ext
  refine iteD (fun c=>?_) (fun c=>?_)
  ·have c':(vals xs w')[i] % 2=1:=by injection c
   ext
   have hb:=gz (vs:=vals xs w') (i:=i) (by rw[Hz];exact B1 c')
   have he:V.int (((1:Nat):Int)+(i:Int))=V.int ((i:Int)+1):=by congr 1;omega
   refine⟨e3,_,_,rfl,by rw[hb,he],fun b o e=>?_,MT⟩
   have EK:b≠r:=fun z=>by rw[z,Cd] at e;cases e
   rw[MR EK];exact s3 _ _ (s2 b o e)
  ·have c':¬ (vals xs w')[i] % 2=1:=fun z=>c (by rw[z])
   have hb:=gA (vs:=vals xs w') (i:=i) (by rw[Hz];exact B0 c')
   exact⟨_,_,rfl,hb.symm,s2.trans s3,by rw[e3]⟩
 ·intro B6 σ H2 hI9
  obtain⟨v1,v2,rfl,rfl,s2,e2⟩:=hI9
  rw[M5,gy] at e2
  ext
  refine WT (OF e2) fun t H3 ht k3=>?_
  ext
  exact q t H3 ht ((s1.trans s2).trans k3)
structure Ow (K:MV)(mg:Str->Option Ac)(cO:Ab):Prop where
 m_Breaker:mg "Breaker"=some (.ref cO)
 cl:Cls K cO
 n_told_gaps:NoAttr K cO "told_gaps"
 n_patterns:NoAttr K cO "patterns"
 n_head:NoAttr K cO "head"
 n_tail:NoAttr K cO "tail"
noncomputable abbrev s_Breaker_init:As:=Qn (top 23) 0
noncomputable abbrev s_Breaker_gaps:As:=Qn (top 23) 1
noncomputable abbrev s_Breaker_shown:As:=Qn (top 23) 2
noncomputable abbrev s_gaps_by_word:As:=top 22
theorem Q7 (h:tv σ H fun v H1=>td σ H1 fun x H2=>ty σ H2 fun y H3=>∃ a H4,x=.ref a/\DPut H3 a y v H4/\D.nx σ H4):sDPut td ty tv D σ H:=h
theorem i_dget (h:td σ H fun x H1=>ty σ H1 fun y H2=>∃ a v,x=.ref a/\DGet H2 a y (some v)/\Q v H2):Uh td ty σ H Q:=h
theorem Sk (h:∀ p,H p=none->Q (.ref p) (upd H p (.dK []))):XA σ H Q:=h
def spGbw:Sp:=fun vs H Q _=>∃(b:Ab) (ys:List V) (xs:List Pat),vs=[.ref b]/\H b=some (.lst ys)/\L2.IsL H ys (xs.map patD)/\(xs.map (·.1)).Nodup/\xs.length<=1000 /\
 ∀(a:Ab) (kvs:List (Key×V)) (H':Hp),H a=none->H' a=some (.dK kvs)->NT H' kvs xs->Same H H'->Q (.ref a) H'
theorem gD {kvs:List (Key×V)}{k:Key}{v:V}(h:(kvs.any fun kv=>decide (kv.1=k))=false):putK kvs k v=kvs++[(k,v)]:=by
 unfold putK
 rw[h];rfl
theorem gE (T:Txt mg tk)(F:Fun K "gaps_by_word" "gaps_by_word" s_gaps_by_word f fd):FnOk P w K mg base CX0 1 f fd ["told"] spGbw:=by
 refine F.okk ["told","known","word","gaps"] ?_
 rintro _ _ _ s H _ _ _ hr ⟨b,ys,xs,rfl,hb,Dr,Fa,Ey,q⟩ nd
 have En:ys.length=xs.length:=by have:=Dr.length;simpa using this
 refine⟨_,(MS (pst 1 nd Sa)
  (MS (Ou Oo rfl (Pf (K:=K) (pv 0)) (O6 rfl (Nx (pnm 2 nd) (Nx (pnm 3 nd) OL)))
   (MS (Nc (PB (Ui (NO hr) (pv 2) (pv 1)))
   (MU Rj)
   Ni)
  (MU (Q2 (NO hr) (pv 1) (pv 2) (pv 3) rfl))))
  (MU (M8 (pv 1))))),?_⟩
 walk_at "s0"
 ext
 refine Sk fun a ha=>?_
 have s1:=Nh ha (.dK [])
 ext
 refine RV (SqL.of (s1 _ _ hb)) ?_
 refine Vj (K:=K) (xs:=ys) (fun i σ H'=>∃(v2 v3:Option V) (kvs:List (Key×V)),σ=[some (.ref b),some (.ref a),v2,v3]/\H' a=some (.dK kvs)/\NT H' kvs (xs.take i)/\kvs.length=i/\Same H H')
  ⟨none,none,[],rfl,MT,trivial,rfl,s1⟩ (fun i σ H' _ hI9=>by rcases hI9 with ⟨_,_,_,_,_,_,_,s⟩;exact SqL.of (s _ _ hb)) ?_ ?_
 ·intro i y σ H2 hy hI9
  obtain⟨v2,v3,kvs,rfl,e2,hN,Em,s2⟩:=hI9
  have hi:i < xs.length:=by
   have:=(NJ.mp hy).1
   omega
  obtain⟨y',d,hy',Dx,hI⟩:=IsL.get (IsL.same s2 Dr) (show i < (xs.map patD).length by simpa using hi)
  rw[hy] at hy'
  cases hy'
  rw[Nz,Na hi] at Dx
  cases Dx
  obtain⟨a2,t2,rfl,ea2,et2⟩:=Pk hI
  have Ea:((xs.take i).any fun g=>decide (g.1=xs[i].1))=false:=by
   rw[aX]
   intro g hg hd
   have Lq:g.1=xs[i].1:=by simpa using hd
   obtain⟨j,hj⟩:=List.getElem?_of_mem hg
   rw[aV] at hj
   split at hj
   ·rename_i Lr
    have Gy:j < xs.length:=by omega
    rw[Na Gy] at hj
    cases hj
    have:=List.pairwise_iff_getElem.mp Fa j i (by simpa using Gy) (by simpa using hi) Lr
    apply this
    rw[List.getElem_map,List.getElem_map]
    exact Lq
   ·cases hj
  have DZ:valV kvs (Sum.inr (S xs[i].1))=none:=by
   rcases hN.val (z:=xs[i].1) with ⟨q1,q2⟩ | ⟨g,t,q1,JF,JG,q2,q3⟩
   ·exact q2
   ·rw[aX] at Ea
    exact absurd (by simpa using JG) (Ea g JF)
  refine RU ea2 rfl (Ny (Nt (Ny (Nt (OO ?_)))))
  ext
  refine i_tB (Uk ?_)
  ext
  refine⟨a,_,rfl,DGet.k (k:=Sum.inr (S xs[i].1)) e2,?_⟩
  rw[DZ]
  ext
  refine Q7 ?_
  ext
  refine⟨a,_,rfl,DPut.k (k:=Sum.inr (S xs[i].1)) e2 (Qy (show kvs.length<=1000 by omega) (by decide)),?_⟩
  have FV:putK kvs (Sum.inr (S xs[i].1):Key) (V.ref t2)=kvs++[(Sum.inr (S xs[i].1),.ref t2)]:=gD (by rw[hN.anyK];exact Ea)
  refine⟨_,_,_,rfl,MT,?_,?_,fun c o e=>?_⟩
  ·rw[OC,Na hi,FV]
   exact NT.tups (fun b' zs e=>by
    have hb':b'≠a:=fun z=>by rw[z,e2] at e;cases e
    rw[MR hb'];exact e) (NT.append hN ⟨rfl,⟨t2,rfl,et2⟩,trivial⟩)
  ·rw[FV,No];simp[Em]
  ·have hc:c≠a:=fun z=>by rw[z,ha] at e;cases e
   rw[MR hc];exact s2 c o e
 ·intro σ H2 hI9
  obtain⟨v2,v3,kvs,rfl,e2,hN,Em,s2⟩:=hI9
  rw[En,OB] at hN
  ext
  exact q a kvs H2 ha e2 hN s2
noncomputable abbrev s_shown_broken:As:=top 20
noncomputable def brD (w g:List Nat):Dt:=.tup [.str (S w),.tup (g.map fun k:Nat=>Dt.int (k:Int))]
def Yx:Sp:=fun vs H Q _=>∃(v:V) (w g:List Nat),vs=[v]/\Is H v (brD w g)/\1<=w.length/\w.length<=1000/\Rise 0 w.length g/\∀ H',Same H H'->Q (.str (S (txt w g w.length))) H'
theorem Yy (w:List Nat):∀(g:List Nat) (b:Nat),(Oy w b g).length=g.length+1/\∀ p∈Oy w b g,p.length<=w.length
 | [],b=>by simp[Oy]
 | x::g,b=>by
  have ih:=Yy w g x
  refine⟨by simp[Oy,ih.1],fun p hp=>?_⟩
  simp only[Oy,Nf] at hp
  rcases hp with rfl | hp
  ·simp;omega
  ·exact ih.2 p hp
theorem Yz {n:Nat}:∀(ls:List Nat),(∀ x∈ls,x<=n)->ls.sum<=ls.length * n
 | [],_=>by simp
 | x::ls,h=>by
  have ih:=Yz ls fun y hy=>h y (NH _ hy)
  have:=h x N1
  simp only[ZW,ND,bg]
  omega
theorem UD {n:Nat}:∀{b:Nat}{g:List Nat},Rise b n g->b<=n->g.length<=n - b
 | b,[],_,_=>by simp
 | b,x::g,r,h=>by
  have:=UD r.2.2 (Pq r.2.1)
  have h1:=r.1
  have h2:=r.2.1
  simp;omega
theorem YA {H:Hp}:∀{g:List Nat}{xs:List V},L2.IsL H xs (g.map fun k:Nat=>Dt.int (k:Int))->xs=g.map fun k:Nat=>V.int (k:Int)
 | [],[],_=>rfl
 | [],_::_,h=>by simp only[N8,L2.IsL] at h
 | _::_,[],h=>by simp only[Nq,L2.IsL] at h
 | k::g,x::xs,h=>by
  simp only[Nq,L2.IsL,Is] at h
  rw[h.1,YA h.2];rfl
theorem gG (T:Txt mg tk)(F:Fun K "shown_broken" "shown_broken" s_shown_broken f fd):FnOk P w K mg base CX0 1 f fd ["broken"] Yx:=by
 refine F.okk ["broken","word","parts","begin","gap"] ?_
 rintro _ _ _ _ H _ _ _ hr ⟨v,w',g,rfl,hv,Dd,C9,Ez,q⟩ nd
 simp only[Is,brD] at hv
 obtain⟨a,xs,rfl,ha,Dc⟩:=hv
 obtain⟨x0,y,rfl⟩:∃ x y,xs=[x,y]:=by
  match xs,Dc with
  | [],h=>simp only[L2.IsL] at h
  | [_],h=>simp only[L2.IsL] at h;exact h.2.elim
  | [x,y],_=>exact⟨x,y,rfl⟩
  | _::_::_::_,h=>simp only[L2.IsL] at h;exact h.2.2.elim
 simp only[L2.IsL,Is] at Dc
 obtain⟨rfl,⟨t,ys,rfl,ht,Dr⟩,_⟩:=Dc
 have:=YA Dr
 subst this
 refine⟨_,(MS (pst 1 nd (pix K (pv 0) MP))
  (MS (pst 2 nd (NN O7))
  (MS (pst 3 nd MP)
  (MS (Ou Oo rfl (Pf (K:=K) (pix K (pv 0) MP)) (pnm 4 nd)
   (MS (N9 (NF (K:=K) OI OZ O0 O9 (pv 2) (pa1 (Ob (Od (K:=K)) (pv 1) (NR (pv 3)) (NR (pv 4))))))
  (MU (pst 3 nd (pv 4)))))
  (MS (N9 (NF (K:=K) OI OZ O0 O9 (pv 2) (pa1 (Ob (Od (K:=K)) (pv 1) (NR (pv 3)) Pe))))
  (MU (M8 (NF (K:=K) OD Rc Re SM (M4 SQ) (pa1 (pv 2)))))))))),?_⟩
 walk_at "s0"
 ext
 intro p hp
 ext
 have DD:(upd H p (.lst [])) a=some (.tup [.str (S w'),.ref t]):=by rw[MR (MZ ha hp)];exact ha
 have FW:(upd H p (.lst [])) t=some (.tup (g.map fun k:Nat=>V.int (k:Int))):=by rw[MR (MZ ht hp)];exact ht
 refine PZ (Tz DD) (atI_1 _ _ _) ?_
 ext
 refine b_ (xs:=g.map fun k:Nat=>V.int (k:Int)) (fun i σ H2=>∃(b:Nat) (ps:List (List Nat)) (v4:Option V),σ=[some (.ref a),some (.str (S w')),some (.ref p),some (.int (b:Int)),v4]/\b<=w'.length/\Rise b w'.length (g.drop i)/\ps.length=i/\Oy w' 0 g=ps++Oy w' b (g.drop i)/\H2 p=some (.lst ((ps.map S).map V.str))/\Same H H2)
  ⟨0,[],none,rfl,NA _,Ez,rfl,rfl,MT,Nh hp _⟩ (fun i σ H2 _ hI9=>by rcases hI9 with ⟨_,_,_,_,_,_,_,_,_,s2⟩;exact SqT.of (s2 _ _ ht)) ?_ ?_
 ·intro i x σ H2 hx hI9
  obtain⟨b,ps,v4,rfl,hb,De,B8,Ef,h2,s2⟩:=hI9
  have hi:i < g.length:=by
   have:=(NJ.mp hx).1
   simpa using this
  rw[Nz,Na hi] at hx
  cases hx
  rw[Rw hi] at De Ef
  obtain⟨FX,hr4,Ls⟩:=De
  have Lu:=UD Ez (NA _)
  have hsz:(S w').length<=Ae:=szn (by rw[Nn];omega)
  ext
  rw[Ua w' b g[i] (by omega) (by omega)]
  refine QV h2 (szn (by simp;omega)) ?_
  ext
  refine⟨g[i],ps++[(w'.drop b).take (g[i] - b)],_,rfl,by omega,Ls,by simp[B8],?_,?_,fun c o e=>?_⟩
  ·rw[Ef]
   simp only[Oy]
   rw[List.drop_take,Ry];rfl
  ·rw[MT,Np,Np];rfl
  ·have hc:c≠p:=fun z=>by rw[z,hp] at e;cases e
   rw[MR hc];exact s2 c o e
 ·intro σ H2 hI9
  obtain⟨b,ps,v4,rfl,hb,De,B8,Ef,h2,s2⟩:=hI9
  rw[M5] at B8 Ef
  rw[VA] at Ef
  have hsz:(S w').length<=Ae:=szn (by rw[Nn];omega)
  have Lu:=UD Ez (NA _)
  ext
  rw[W8 w' b hb]
  refine QV h2 (szn (by simp;omega)) ?_
  ext
  have Cj:=Yy w' g 0
  simp only[Oy] at Ef
  refine SO (ys:=(Oy w' 0 g).map S) (by rw[Ef,WW,Np,Np];rfl) ?_ ?_
  ·have h1:=Yz (n:=w'.length) (((Oy w' 0 g).map S).map (·.length)) (fun x hx=>by
    rw[NK] at hx
    obtain⟨y,hy,rfl⟩:=On.mp hx
    show (S y).length<=_
    rw[Nn]
    exact Cj.2 y hy)
   rw[M5,M5,Cj.1] at h1
   rw[M5,Cj.1,Nn,show ([45]:List Nat).length=1 from rfl]
   have h3:(g.length+1) * w'.length<=1001 * 1000:=Nat.mul_le_mul (by omega) C9
   omega
  ·rw[R6,dZ w' g Ez]
   ext
   exact q _ (fun c o e=>by
    have hc:c≠p:=fun z=>by rw[z,hp] at e;cases e
    rw[MR hc];exact s2 c o e)
theorem YB (Pv:Nat->List V->St->Hp->Prop) (hl:∀ i B6 σ H,i<=xs.length->Pv i B6 σ H->SqT K H a xs) (h0:Pv 0 [] σ0 H0) (hp:∀ i B6 σ H,Pv i B6 σ H->H p=some (.lst B6)/\B6.length<=i) (hz:xs.length<=Ae) (hs:∀ i B6 σ H,i < xs.length->Pv i B6 σ H->g (xs.getD i .non) σ H fun σ3 H3=>tc σ3 H3 fun b H4 =>
   if b=true then te σ3 H4 fun v H5=>H5 p=some (.lst B6)/\Pv (i+1) (B6++[v]) σ3 (upd H5 p (.lst (B6++[v]))) else Pv (i+1) B6 σ3 H4) (hd:∀ B6 σ H,Pv xs.length B6 σ H->Q (.ref p) H):RL (Itt K a) p g tc te Q σ0 H0 :=
 RQ (J:=Itt K a) (n:=xs.length) (val:=fun i=>xs.getD i .non) Pv
  (fun i B6 σ H hi q=>⟨xs,xs[i],(hl i B6 σ H (Pq hi) q),by simp[hi]⟩) (fun B6 σ H q=>⟨xs,(hl _ B6 σ H (M6 _) q),M6 _⟩)
  (fun i B6 σ H x _ hi q y=>⟨y.1,by have:=y.2 xs (hl i B6 σ H (Pq hi) q);rw[Nl,this];rfl⟩) h0 hp hz hs hd
theorem gH {X:Cx}{e:Av}{f:Str}{ta:TE}{pos:Pos}{K:MV}(hK:X.K=K)(he:PE X e ta)(hb:AH e f X.env (Aq e X.env)=Aq e X.env):PE X (.Attribute e f pos) (tFld K ta f):=hK▸Oh he hb
noncomputable def letG (hd tl:Int)(n:Nat)(g:Int):Bool:=decide (hd<=g)&&decide (g<=(n:Int) - tl)
noncomputable def Qs (pats told:List Pat)(hd tl:Int)(w:List Nat):List Int:=match Ro told w with
 | some g=>g.2
 | none=>(brks (vals pats w)).filter (letG hd tl w.length)
def BrkAt (C:Ab)(H:Hp)(p kd ld:Ab)(pats told:List Pat)(hd tl:Int):Prop:=∃(dx:Ab) (ys:List V) (kvs:List (Key×V)),
 H p=some (.ins C dx [(("told_gaps":Str),.ref kd),(("patterns":Str),.ref ld),(("head":Str),.int hd),(("tail":Str),.int tl)])/\H kd=some (.dK kvs)/\NT H kvs told/\H ld=some (.lst ys)/\L2.IsL H ys (pats.map patD)
theorem BrkAt.same (s:Same H H') (h:BrkAt C H p kd ld pats told hd tl):BrkAt C H' p kd ld pats told hd tl:=by
 obtain⟨dx,ys,kvs,h1,h2,h3,h4,h5⟩:=h
 exact⟨dx,ys,kvs,s _ _ h1,s _ _ h2,h3.same s,s _ _ h4,IsL.same s h5⟩
def Sl (C:Ab):Sp:=fun vs H Q _=>∃(p a b dx:Ab) (ya yb:List V) (pats told:List Pat) (hd tl:Int),vs=[.ref p,.ref a,.ref b,.int hd,.int tl]/\H p=some (.ins C dx [])/\H a=some (.lst ya)/\H b=some (.lst yb)/\L2.IsL H ya (pats.map patD)/\L2.IsL H yb (told.map patD)/\(told.map (·.1)).Nodup/\told.length<=1000/\pats.length<=1000 /\
 ∀(kd ld:Ab) (H':Hp),H kd=none->H ld=none->BrkAt C H' p kd ld pats told hd tl->(∀ b o,b≠p->H b=some o->H' b=some o)->Q .non H'
def UE (C:Ab):Sp:=fun vs H Q _=>∃(p kd ld:Ab) (pats told:List Pat) (hd tl:Int) (w:List Nat),vs=[.ref p,.str (S w)]/\BrkAt C H p kd ld pats told hd tl/\(∀ x∈pats,1<=x.1.length/\x.1.length<=1000/\x.2.length<=x.1.length+1)/\pats.length<=1000/\1<=w.length/\w.length<=100 /\
 ∀(t:Ab) (H':Hp),H' t=some (.tup ((Qs pats told hd tl w).map V.int))->Same H H'->Q (.ref t) H'
def YC (C:Ab):Sp:=fun vs H Q _=>∃(p kd ld:Ab) (pats told:List Pat) (hd tl:Int) (w g:List Nat),vs=[.ref p,.str (S w)]/\BrkAt C H p kd ld pats told hd tl/\(∀ x∈pats,1<=x.1.length/\x.1.length<=1000/\x.2.length<=x.1.length+1)/\pats.length<=1000/\1<=w.length/\w.length<=100 /\
 Qs pats told hd tl w=g.map (fun k:Nat=>(k:Int))/\Rise 0 w.length g/\∀ H',Same H H'->Q (.str (S (txt w g w.length))) H'
theorem gI (T:Txt mg tk)(O:Ow K mg cO)(F:Fun K "__init__" "Breaker.__init__" s_Breaker_init f fd)(CL:Dn P w K mg base "gaps_by_word" 1 ["told"] spGbw):FnOk P w K mg base CX0 2 f fd ["self","patterns","told","head","tail"] (Sl cO):=by
 refine F.okk ["self","patterns","told","head","tail"] ?_
 rintro _ _ _ _ H _ _ _ hr ⟨p,a,b,dx,ya,yb,pats,told,hd,tl,rfl,hp,ha,hb,ID,HC,Fa,FW,KA,q⟩ nd
 have Eg:=ID.length
 rw[M5] at Eg
 refine⟨_,(MS (PL (pv 0) (M3 CL hr.MX rfl (pa1 (pv 2))) rfl)
  (MS (PL (pv 0) (pct c_list T.z_list (pa1 (pv 1))) rfl)
  (MS (PL (pv 0) (pv 3) rfl)
  (MU (PL (pv 0) (pv 4) rfl))))),?_⟩
 walk_at "s0"
 refine PY (P_ ?_)
 ext
 refine⟨b,yb,told,rfl,hb,HC,Fa,FW,fun kd kvs H2 Ft ekd hN s2=>?_⟩
 have DV:=s2 _ _ hp
 ext
 refine Qa DV O.cl O.n_told_gaps (by decide) ?_
 have d2:=Dat.ins DV (.ins cO dx (putF ("told_gaps":Str) (.ref kd) []))
 have d02:=s2.dat.trans d2
 have e2:=MT (H:=H2) (a:=p) (o:=.ins cO dx (putF ("told_gaps":Str) (.ref kd) []))
 have o2:=Q5 (p:=p) (x:=.ins cO dx (putF ("told_gaps":Str) (.ref kd) [])) (fun b o _ e=>s2 b o e)
 have ekd2:=d2.2.2 _ _ ekd
 have HD:=hN.dat d2
 generalize upd H2 p (.ins cO dx (putF ("told_gaps":Str) (.ref kd) []))=H3 at d02 e2 o2 ekd2 HD ⊢
 ext
 refine PY (P_ ?_)
 ext
 refine dS (OF (d02.1 _ _ ha)) fun ld EL=>?_
 have s4:=Nh EL (.lst ya)
 have eld:=MT (H:=H3) (a:=ld) (o:=.lst ya)
 generalize upd H3 ld (.lst ya)=H4 at s4 eld ⊢
 ext
 refine Qa (s4 _ _ e2) O.cl O.n_patterns (show 1 < 1000 by decide) ?_
 have d4:=Dat.ins (s4 _ _ e2) (.ins cO dx (putF ("patterns":Str) (.ref ld) (putF ("told_gaps":Str) (.ref kd) [])))
 have d04:=(d02.trans s4.dat).trans d4
 have e4:=MT (H:=H4) (a:=p) (o:=.ins cO dx (putF ("patterns":Str) (.ref ld) (putF ("told_gaps":Str) (.ref kd) [])))
 have o4:=Q5 (p:=p) (x:=.ins cO dx (putF ("patterns":Str) (.ref ld) (putF ("told_gaps":Str) (.ref kd) []))) (off_new o2 s4)
 have ekd4:=d4.2.2 _ _ (s4 _ _ ekd2)
 have KB:=(HD.same s4).dat d4
 have eld4:=d4.1 _ _ eld
 have JH:H ld=none:=by
  cases e:H ld with
  | none=>rfl
  | some o =>
   exfalso
   by_cases z:ld=p
   ·rw[z,e2] at EL;cases EL
   ·have:=o2 ld o z e;rw[EL] at this;cases this
 generalize upd H4 p (.ins cO dx (putF ("patterns":Str) (.ref ld) (putF ("told_gaps":Str) (.ref kd) [])))=H5 at d04 e4 o4 ekd4 KB eld4 ⊢
 ext
 refine PY (P_ ?_)
 ext
 refine Qa e4 O.cl O.n_head (show 2 < 1000 by decide) ?_
 have d5:=Dat.ins e4 (.ins cO dx (putF ("head":Str) (.int hd) (putF ("patterns":Str) (.ref ld) (putF ("told_gaps":Str) (.ref kd) []))))
 have d05:=d04.trans d5
 have e5:=MT (H:=H5) (a:=p) (o:=.ins cO dx (putF ("head":Str) (.int hd) (putF ("patterns":Str) (.ref ld) (putF ("told_gaps":Str) (.ref kd) []))))
 have o5:=Q5 (p:=p) (x:=.ins cO dx (putF ("head":Str) (.int hd) (putF ("patterns":Str) (.ref ld) (putF ("told_gaps":Str) (.ref kd) [])))) o4
 have ekd5:=d5.2.2 _ _ ekd4
 have KC:=KB.dat d5
 have eld5:=d5.1 _ _ eld4
 generalize upd H5 p (.ins cO dx (putF ("head":Str) (.int hd) (putF ("patterns":Str) (.ref ld) (putF ("told_gaps":Str) (.ref kd) []))))=H6 at d05 e5 o5 ekd5 KC eld5 ⊢
 ext
 refine P_ ?_
 ext
 refine Qa e5 O.cl O.n_tail (show 3 < 1000 by decide) ?_
 have d6:=Dat.ins e5 (.ins cO dx (putF ("tail":Str) (.int tl) (putF ("head":Str) (.int hd) (putF ("patterns":Str) (.ref ld) (putF ("told_gaps":Str) (.ref kd) [])))))
 ext
 exact q kd ld _ Ft JH ⟨dx,ya,kvs,MT,d6.2.2 _ _ ekd5,KC.dat d6,d6.1 _ _ eld5,IsL.dat (d05.trans d6) ID⟩ (Q5 o5)
theorem gJ (T:Txt mg tk)(O:Ow K mg cO)(F:Fun K "gaps" "Breaker.gaps" s_Breaker_gaps f fd)(DM:Dn P w K mg base "breaks" 3 ["patterns","word"] Yw):FnOk P w K mg base CX0 4 f fd ["self","word"] (UE cO):=by
 refine F.okk ["self","word","last"] ?_
 rintro _ _ _ _ H _ _ _ hr ⟨p,kd,ld,pats,told,hd,tl,w',rfl,hB,Ef,Cj,Dd,C9,q⟩ nd
 obtain⟨dx,ys,kvs,e1,e2,hN,e3,Dr⟩:=id hB
 refine⟨_,(MS (Nc (PB (Ui (NO hr) (pv 1) (Oh (pv 0) rfl)))
   (MU (M8 (Oq (NO hr) (Oh (pv 0) rfl) (pv 1) (fun _ _=>rfl))))
   Ni)
  (MS (SL (i:=2) nd rfl (Or.inr rfl) (MY QO (pcb (Nu (K:=K)) T.z_len (pa1 (pv 1))) (Oh (pv 0) rfl)))
  (MU (M8 (pct QR T.z_tuple (pa1 (PP ["self","last","gap"] [some 0,some 2,none] rfl (by kernel_rfl) rfl (Pf (K:=K) (M3 DM hr.MX rfl (MQ (Oh (pv 0) rfl) (pa1 (pv 1))))) (fun _ _ _ _=>(N_ (i:=2) (show (["self","last","gap"]:List Str).Nodup by decide +kernel) rfl (Or.inl rfl) (Or.inr rfl))) (fun _ _ _ _=>(Tx (RI o_le o_le (gH (K:=K) rfl (pv 0) rfl) (pv 2) (pv 1)))) (fun _ _ _ _=>(pv 2))))))))),?_⟩
 walk_at "s0"
 have hsz:(S w').length<=Ae:=szn (by rw[Nn];omega)
 ext
 refine i_tB (Uk ?_)
 ext
 refine Oj ?_
 ext
 refine Ol e1 O.cl O.n_told_gaps rfl ?_
 refine⟨kd,_,rfl,DGet.k (k:=Sum.inr (S w')) e2,?_⟩
 rcases hN.val (z:=w') with ⟨q1,q2⟩ | ⟨g,t,q1,JF,JG,q2,q3⟩
 ·rw[q2]
  ext
  refine Oj ?_
  ext
  refine Ol e1 O.cl O.n_tail rfl ?_
  ext
  refine Oj ?_
  ext
  refine Ol e1 O.cl O.n_patterns rfl ?_
  ext
  have KD:(brks (vals pats w')).length<=100:=by
   unfold brks
   rw[M5]
   refine NI (SE _ _) ?_
   rw[SF,Vn];omega
  refine⟨.ref ld,pats,w',rfl,?_,Ef,(by omega),Dd,C9,fun t H1 et s1=>?_⟩
  ·simp only[Is,P4]
   exact⟨ld,ys,rfl,e3,Dr⟩
  refine WQ (SqT.of et) ?_
  intro r Cd
  refine YB (K:=K) (a:=t) (xs:=(brks (vals pats w')).map V.int) (fun i B6 σ H'=>∃ v,σ=[some (.ref p),some (.int ((w'.length:Int) - tl)),v]/\B6=(((brks (vals pats w')).take i).filter (letG hd tl w'.length)).map V.int/\Same H1 H'/\H' r=some (.lst B6))
   (fun i B6 σ H' _ hI9=>by rcases hI9 with ⟨_,_,_,s2,_⟩;exact SqT.of (s2 _ _ et)) ⟨none,rfl,rfl,Nh Cd _,MT⟩ (fun i B6 σ H' hI9=>by rcases hI9 with ⟨_,_,e,_,e2⟩;exact⟨e2,by rw[e,M5];exact NI (SE _ _) (by rw[NX];omega)⟩) (szn (by rw[M5];omega)) ?_ ?_
  ·intro i B6 σ H2 hi hI9
   obtain⟨v,rfl,rfl,s2,e2'⟩:=hI9
   rw[M5] at hi
   have E2:((brks (vals pats w')).map V.int).getD i .non=V.int (brks (vals pats w'))[i]:=by simp[Nl,hi]
   rw[E2]
   have EE:(brks (vals pats w')).take (i+1)=(brks (vals pats w')).take i++[(brks (vals pats w'))[i]]:=by rw[OC,Na hi];rfl
   have ep:=s2 _ _ (s1 _ _ e1)
   generalize (brks (vals pats w'))[i]=g at EE ⊢
   ext
   refine Oj ?_
   ext
   refine Ol ep O.cl O.n_head rfl ?_
   ext
   have keep:∀ b' o,H1 b'=some o->b'≠r:=fun b' o e z=>by rw[z,Cd] at e;cases e
   have no:letG hd tl w'.length g=false->∃ v_1,[some (V.ref p),some (V.int ((w'.length:Int) - tl)),some (V.int g)]=[some (V.ref p),some (V.int ((w'.length:Int) - tl)),v_1]/\(((brks (vals pats w')).take i).filter (letG hd tl w'.length)).map V.int=(((brks (vals pats w')).take (i+1)).filter (letG hd tl w'.length)).map V.int/\Same H1 H2/\H2 r=some (.lst ((((brks (vals pats w')).take i).filter (letG hd tl w'.length)).map V.int)):=fun hl =>
    ⟨_,rfl,by rw[EE,Qu];simp[hl],s2,e2'⟩
   by_cases c:hd<=g
   ·rw[B3 (B1 c)]
    ext
    by_cases c2:g<=(w'.length:Int) - tl
    ·rw[B3 (B1 c2)]
     ext
     have hl:letG hd tl w'.length g=true:=by unfold letG;rw[B1 c,B1 c2];rfl
     refine⟨e2',_,rfl,by rw[EE,Qu,Np];simp[hl],fun b' o e=>by rw[MR (keep b' o e)];exact s2 b' o e,MT⟩
    ·rw[B2 (by rw[B0 c2];exact Nj)]
     exact no (by unfold letG;rw[B0 c2,ZZ])
   ·rw[B2 (by rw[B0 c];exact Nj)]
    refine⟨false,rfl,?_⟩
    rw[B2 Nj]
    exact no (by unfold letG;rw[B0 c,Ra])
  ·intro B6 σ H2 hI9
   obtain⟨v,rfl,rfl,s2,e2'⟩:=hI9
   rw[M5,OB] at e2'
   ext
   refine WT (OF e2') fun t2 H3 ht k3=>?_
   ext
   refine q t2 H3 ?_ ((s1.trans s2).trans k3)
   unfold Qs
   rw[q1]
   exact ht
 ·rw[q2]
  ext
  refine i_dget ?_
  ext
  refine Oj ?_
  ext
  refine Ol e1 O.cl O.n_told_gaps rfl ?_
  ext
  refine⟨kd,_,rfl,q2▸DGet.k (k:=Sum.inr (S w')) e2,?_⟩
  ext
  refine q t H ?_ (fun _ _ e=>e)
  unfold Qs
  rw[q1]
  exact q3
theorem gK (T:Txt mg tk)(O:Ow K mg cO)(F:Fun K "shown" "Breaker.shown" s_Breaker_shown f fd)(CM:Dn P w K mg base "shown_broken" 1 ["broken"] Yx)(Ch:Dm P w K mg base cO "gaps" 4 ["self","word"] (UE cO)):FnOk P w K mg base CX0 5 f fd ["self","word"] (YC cO):=by
 refine F.okk ["self","word"] ?_
 rintro _ _ _ _ H _ _ _ hr ⟨p,kd,ld,pats,told,hd,tl,w',g,rfl,hB,Ef,Cj,Dd,C9,hg,hR,q⟩ nd
 obtain⟨dx,ys,kvs,e1,_⟩:=id hB
 refine⟨_,(MU (M8 (M3 CM hr.MX rfl (pa1 (NY (MQ (pv 1) (pa1 (SS (pv 0) O.cl Ch hr.MX (pa1 (pv 1)))))))))),?_⟩
 walk_at "s0"
 ext
 refine Rq ?_
 ext
 refine Rr e1 rfl ?_
 ext
 refine⟨p,kd,ld,pats,told,hd,tl,w',rfl,hB,Ef,Cj,Dd,C9,fun t H1 et s1=>?_⟩
 ext
 intro r Cd
 ext
 have s2:=Nh Cd (.tup [.str (S w'),.ref t])
 refine⟨.ref r,w',g,rfl,?_,Dd,by omega,hR,fun H' s3=>?_⟩
 ·simp only[Is,brD,L2.IsL]
  refine⟨r,_,rfl,MT,rfl,⟨t,_,rfl,s2 _ _ et,?_⟩,trivial⟩
  rw[hg,NK]
  have:∀ g:List Nat,L2.IsL (upd H1 r (.tup [.str (S w'),.ref t])) (g.map (V.int∘fun k:Nat=>(k:Int))) (g.map fun k:Nat=>Dt.int (k:Int)):=by
   intro g
   induction g with
   | nil=>simp only[N8,L2.IsL]
   | cons x g ih =>
    simp only[Nq,L2.IsL,Is]
    exact⟨rfl,ih⟩
  exact this g
 ·ext
  exact q H' ((s1.trans s2).trans s3)
theorem YD:∀{b m:Nat}{g:List Nat},Rise b m g->b < m->Rise b (m+1) (g++[m])
 | b,m,[],_,h=>⟨h,SJ _,trivial⟩
 | b,m,x::g,r,h=>⟨r.1,bc r.2.1,YD r.2.2 r.2.1⟩
theorem UF:∀{b m k:Nat}{g:List Nat},Rise b m g->m<=k->Rise b k g
 | b,m,k,[],_,_=>trivial
 | b,m,k,x::g,r,h=>⟨r.1,N6 r.2.1 h,UF r.2.2 h⟩
theorem YE (l:List α) (j:Nat) (h:j<=l.length):cutA l none (some (j:Int))=l.take j:=by
 have:=Ua l 0 j h (NA _)
 rw[a9,bi] at this
 rw[<- this]
 simp[cutA,sx]
structure OkB (pats told:List Pat):Prop where
 ps:∀ x∈pats,1<=x.1.length/\x.1.length<=1000/\x.2.length<=x.1.length+1
 pl:pats.length<=100
 tl:told.length<=100
 nd:(told.map (·.1)).Nodup
 pc:∀ x∈pats,∀ c∈x.1,c < 128
 tc:∀ x∈told,∀ c∈x.1,c < 128
 tg:∀ x∈told,∃ g:List Nat,x.2=g.map (fun k:Nat=>(k:Int))/\Rise 0 x.1.length g
theorem gL {n:Nat}:∀{b b':Nat}{g:List Nat},Rise b' n g->b<=b'->Rise b n g
 | _,_,[],_,_=>trivial
 | _,_,x::g,r,h=>⟨Qy h r.1,r.2⟩
theorem YF (vs:List Int)(p:Int->Bool):(brks vs).filter p=((NW vs.length).filter fun j=>Qd vs j&&p ((j:Int)+1)).map fun j:Nat=>(j:Int)+1:=by
 unfold brks
 rw[List.filter_map,List.filter_filter]
 congr 2
 funext j
 rw[Bool.and_comm];rfl
theorem YG (h:te σ H (ON 0 R)):XF te σ H R:=h
theorem YH (o:OkB pats told) (hd tl:Int) {w:List Nat} (hw:1<=w.length):∃ g:List Nat,Qs pats told hd tl w=g.map (fun k:Nat=>(k:Int))/\Rise 0 w.length g:=by
 unfold Qs
 cases h:Ro told w with
 | some x =>
  have hm:=jH h
  have he:x.1=w:=by have:=List.find?_some h;simpa using this
  obtain⟨g,h1,h2⟩:=o.tg x hm
  exact⟨g,h1,he▸h2⟩
 | none =>
  refine⟨((NW (vals pats w).length).filter fun j=>Qd (vals pats w) j&&letG hd tl w.length ((j:Int)+1)).map (·+1),?_,?_⟩
  ·rw[YF,NK]
   apply Vx
   intro j _
   simp
  ·rw[Vn]
   have key:∀(p:Nat->Bool) (m b:Nat),b<=w.length->Rise b w.length (((NM b m).filter p).map (·+1))∨w.length<=b+m:=by
    intro p m
    induction m with
    | zero=>intro b _;exact .inl trivial
    | succ m ih =>
     intro b hb
     by_cases c:w.length<=b+(m+1)
     ·exact .inr c
     ·left
      rw[S7,Qv]
      have h1:=(ih (b+1) (by omega)).resolve_right (by omega)
      split
      ·exact⟨SJ _,by show b+1 < _;omega,h1⟩
      ·exact gL h1 (Pr _)
   rw[aR]
   exact(key _ (w.length - 1) 0 (NA _)).resolve_right (by omega)
structure Ow2 (K:MV)(mg:Str->Option Ac)(cO:Ab):Prop where
 m_Tongues:mg "Tongues"=some (.ref cO)
 cl:Cls K cO
 n_breakers:NoAttr K cO "breakers"
noncomputable abbrev s_Tongues_init:As:=Qn (top 51) 0
noncomputable abbrev s_Tongues_put:As:=Qn (top 51) 1
noncomputable abbrev s_Tongues_breaker_of:As:=Qn (top 51) 2
noncomputable abbrev s_with_patterns:As:=top 24
theorem Oz (h:td σ H fun x H1=>ty σ H1 fun y H2=>∃ a v,x=.ref a/\DGet H2 a y (some v)/\Q v H2):Uh td ty σ H Q:=h
theorem YI (h:ty σ H fun y H1=>td σ H1 fun x H2=>∃ a o,x=.ref a/\DGet H2 a y o/\Q (.bl (!o.isSome)) H2):Xx ty td σ H Q:=h
theorem UG {H H':Hp}(tks:∀ b zs,H b=some (.tup zs)->H' b=some (.tup zs)):∀{xs:List Pat}{ys:List V},L2.IsL H ys (xs.map patD)->L2.IsL H' ys (xs.map patD)
 | [],[],_=>by simp only[N8,L2.IsL]
 | [],_::_,h=>by simp only[N8,L2.IsL] at h
 | _::_,[],h=>by simp only[Nq,L2.IsL] at h
 | x::xs,y::ys,h=>by
  simp only[Nq,L2.IsL] at h ⊢
  refine⟨?_,UG tks h.2⟩
  obtain⟨a,t,rfl,h1,h2⟩:=Pk h.1
  exact R8 (tks a _ h1) (tks t _ h2)
theorem UH {H H2:Hp}(s:Same H H2):∀{kvs:List (Key×V)}{told:List Pat}{Ts:List Ab},NT H kvs told->Ts.length=kvs.length->(∀(j:Nat) T,Ts[j]?=some T->∃ kv,kvs[j]?=some kv/\H2 T=some (.tup [kV kv.1,kv.2]))->L2.IsL H2 (Ts.map V.ref) (told.map patD)
 | [],[],[],_,_,_=>by simp only[N8,L2.IsL]
 | [],[],_::_,_,h,_=>by simp at h
 | [],_::_,_,h,_,_=>h.elim
 | _::_,[],_,h,_,_=>h.elim
 | kv::kvs,g::told,[],_,h,_=>by simp at h
 | kv::kvs,g::told,T::Ts,h,hl,hj=>by
  obtain⟨h1,⟨t,h2,h3⟩,h4⟩:=h
  obtain⟨kv',e1,e2⟩:=hj 0 T rfl
  have e1:kv=kv':=by simpa using e1
  subst e1
  rw[h1,h2] at e2
  simp only[Nq,L2.IsL]
  exact⟨R8 e2 (s _ _ h3),UH s h4 (by simpa using hl) fun j T' e=>by simpa using hj (j+1) T' (by simpa using e)⟩
def spWP (C:Ab):Sp:=fun vs H Q _=>∃(bp bkd bld a:Ab) (ya:List V) (pats0 pats told:List Pat) (hd tl:Int),vs=[.ref bp,.ref a]/\BrkAt C H bp bkd bld pats0 told hd tl/\H a=some (.lst ya)/\L2.IsL H ya (pats.map patD)/\pats.length<=1000/\told.length<=1000/\(told.map (·.1)).Nodup /\
 ∀(p kd ld:Ab) (H':Hp),H p=none->H kd=none->H ld=none->BrkAt C H' p kd ld pats told hd tl->Same H H'->Q (.ref p) H'
def TgAt (CT:Ab)(H:Hp)(tp td:Ab)(kvs:List (Key×V)):Prop:=∃ dx,H tp=some (.ins CT dx [(("breakers":Str),.ref td)])/\H td=some (.dK kvs)
theorem TgAt.same (s:Same H H') (h:TgAt CT H tp td kvs):TgAt CT H' tp td kvs:=by
 obtain⟨dx,h1,h2⟩:=h
 exact⟨dx,s _ _ h1,s _ _ h2⟩
def spTgI (CT:Ab):Sp:=fun vs H Q _=>∃(p dx:Ab),vs=[.ref p]/\H p=some (.ins CT dx [])/\∀(td:Ab) (H':Hp),H td=none->TgAt CT H' p td []->(∀ b o,b≠p->H b=some o->H' b=some o)->Q .non H'
def spPut (C CT:Ab):Sp:=fun vs H Q _=>∃(tp td bp bkd bld:Ab) (kvs:List (Key×V)) (nm:List Nat) (pats told:List Pat) (hd tl:Int),vs=[.ref tp,.str (S nm),.ref bp]/\TgAt CT H tp td kvs/\BrkAt C H bp bkd bld pats told hd tl/\pats.length<=1000/\told.length<=1000/\(told.map (·.1)).Nodup/\kvs.length<=1000 /\
 ∀(p kd ld:Ab) (H':Hp),H p=none->H kd=none->H ld=none->BrkAt C H' p kd ld pats told hd tl->H' td=some (.dK (putK kvs (Sum.inr (S nm)) (.ref p)))->(∀ b o,b≠td->H b=some o->H' b=some o)->Q .non H'
theorem gM (T:Txt mg tk)(O:Ow K mg cO)(F:Fun K "with_patterns" "with_patterns" s_with_patterns f fd)(B9:Dk P w K mg base cO 2 ["self","patterns","told","head","tail"] (Sl cO)):FnOk P w K mg base CX0 4 f fd ["breaker","patterns"] (spWP cO):=by
 refine F.okk ["breaker","patterns"] ?_
 rintro _ _ _ _ H _ _ _ hr ⟨bp,bkd,bld,a,ya,pats0,pats,told,hd,tl,rfl,hB,ha,ID,Cj,Ds,Fa,q⟩ nd
 obtain⟨dx0,ys0,kvs,e1,e2,hN,e3,Eo⟩:=id hB
 refine⟨_,(MU (M8 (Uj B9 hr.MX rfl O.m_Breaker (MQ (pv 1) (MQ (pct (XN rfl) T.z_list (pa1 (WJ (K:=K) jT bn jU XM (Oh (pv 0) rfl)))) (MQ (Oh (pv 0) rfl) (pa1 (Oh (pv 0) rfl)))))))),?_⟩
 walk_at "s0"
 ext
 refine P9 ?_
 ext
 refine Oj ?_
 ext
 refine Ol e1 O.cl O.n_told_gaps rfl ?_
 refine⟨Or.inr (Or.inr (Or.inl ⟨rfl,Or.inl ⟨_,e2⟩⟩)),XQ e2 fun v hv=>?_⟩
 have s1:=Nh hv (VW v bkd)
 have ev:=MT (H:=H) (a:=v) (o:=VW v bkd)
 generalize upd H v (VW v bkd)=H1 at s1 ev ⊢
 ext
 refine XR ev (s1 _ _ e2) fun l Ts H2 hl el Hj G1 s2=>?_
 have s02:=s1.trans s2
 have HC:L2.IsL H2 (Ts.map V.ref) (told.map patD):=UH s2 (hN.same s1) Hj G1
 ext
 refine Oj ?_
 ext
 refine Ol (s02 _ _ e1) O.cl O.n_head rfl ?_
 ext
 refine Oj ?_
 ext
 refine Ol (s02 _ _ e1) O.cl O.n_tail rfl ?_
 ext
 intro x dx hx Gz CA
 have s3:Same H2 (upd (upd H2 dx (.own x)) x (.ins cO dx [])):=fun b o e=>by
  rw[MR (MZ e hx),MR (MZ e Gz)];exact e
 have e4:=MT (H:=upd H2 dx (.own x)) (a:=x) (o:=.ins cO dx [])
 generalize upd (upd H2 dx (.own x)) x (.ins cO dx [])=H3 at s3 e4 ⊢
 have s03:=s02.trans s3
 refine⟨x,a,l,dx,ya,Ts.map V.ref,pats,told,hd,tl,rfl,e4,s03 _ _ ha,s3 _ _ el,IsL.same s03 ID,IsL.same s3 HC,Fa,Ds,Cj,fun kd ld H5 Ft EL JI off=>⟨rfl,?_⟩⟩
 ext
 exact q x kd ld H5 (s02.free hx) (s03.free Ft) (s03.free EL) JI fun b o e=>off b o (MZ (s02 _ _ e) hx) (s03 _ _ e)
theorem gO (T:Txt mg tk)(O2:Ow2 K mg cO2)(F:Fun K "__init__" "Tongues.__init__" s_Tongues_init f fd):FnOk P w K mg base CX0 1 f fd ["self"] (spTgI cO2):=by
 refine F.okk ["self"] ?_
 rintro _ _ _ _ H _ _ _ hr ⟨p,dx,rfl,hp,q⟩ nd
 refine⟨_,(MU (PL (pv 0) Sa rfl)),?_⟩
 walk_at "s0"
 refine P_ ?_
 refine Sk fun td D8=>?_
 have s1:=Nh D8 (.dK [])
 have etd:=MT (H:=H) (a:=td) (o:=.dK [])
 generalize upd H td (.dK [])=H1 at s1 etd ⊢
 ext
 refine Qa (s1 _ _ hp) O2.cl O2.n_breakers (by decide) ?_
 ext
 have CA:td≠p:=fun z=>by rw[z,hp] at D8;cases D8
 exact q td _ D8 ⟨dx,MT,by rw[MR CA];exact etd⟩ (Q5 fun b o _ e=>s1 b o e)
theorem gP (T:Txt mg tk)(O:Ow K mg cO)(O2:Ow2 K mg cO2)(F:Fun K "put" "Tongues.put" s_Tongues_put f fd)(Ce:Dn P w K mg base "with_patterns" 4 ["breaker","patterns"] (spWP cO)):FnOk P w K mg base CX0 5 f fd ["self","name","breaker"] (spPut cO cO2):=by
 refine F.okk ["self","name","breaker"] ?_
 rintro _ _ _ _ H _ _ _ hr ⟨tp,td,bp,bkd,bld,kvs,nm,pats,told,hd,tl,rfl,hT,hB,Cj,Ds,Fa,Em,q⟩ nd
 obtain⟨dxt,t1,t2⟩:=id hT
 obtain⟨dx0,ys0,kvs0,e1,e2,hN,e3,Eo⟩:=id hB
 refine⟨_,(MU (Q2 (NO hr) (Oh (pv 0) rfl) (pv 1) (M3 Ce hr.MX rfl (MQ (pv 2) (pa1 (Oh (pv 2) rfl)))) rfl)),?_⟩
 walk_at "s0"
 refine Q7 ?_
 ext
 refine Oj ?_
 ext
 refine Ol e1 O.cl O.n_patterns rfl ?_
 ext
 refine⟨bp,bkd,bld,bld,ys0,pats,pats,told,hd,tl,rfl,hB,e3,Eo,Cj,Ds,Fa,fun p kd ld H1 hp Ft EL JJ s1=>?_⟩
 ext
 refine Oj ?_
 ext
 refine Ol (s1 _ _ t1) O2.cl O2.n_breakers rfl ?_
 ext
 refine⟨td,_,rfl,DPut.k (k:=Sum.inr (S nm)) (s1 _ _ t2) (Qy Em (by decide)),?_⟩
 ext
 have kne:kd≠td:=fun z=>by rw[z,t2] at Ft;cases Ft
 have pne:p≠td:=fun z=>by rw[z,t2] at hp;cases hp
 have lne:ld≠td:=fun z=>by rw[z,t2] at EL;cases EL
 have up:∀ b o,H1 b=some o->b≠td->(upd H1 td (.dK (putK kvs (Sum.inr (S nm)) (.ref p)))) b=some o:=fun b o e hb=>by rw[MR hb];exact e
 have tks:∀ b zs,H1 b=some (.tup zs)->(upd H1 td (.dK (putK kvs (Sum.inr (S nm)) (.ref p)))) b=some (.tup zs):=fun b zs e=>up b _ e fun z=>by
  have:=s1 _ _ t2
  rw[z,this] at e;cases e
 obtain⟨dx1,ys1,kvs1,b1,b2,b3,b4,b5⟩:=JJ
 exact q p kd ld _ hp Ft EL ⟨dx1,ys1,kvs1,up _ _ b1 pne,up _ _ b2 kne,NT.tups tks b3,up _ _ b4 lne,UG tks b5⟩ MT fun b o hb e=>up b o (s1 _ _ e) hb
structure Bp where
 pats:List Pat
 told:List Pat
 hd:Int
 tl:Int
def TB (C:Ab)(H:Hp):List (Key×V)->List (List Nat×Bp)->Prop
 | [],[]=>True
 | kv::kvs,m::ms=>kv.1=Sum.inr (S m.1)/\(∃ p kd ld,kv.2=.ref p/\BrkAt C H p kd ld m.2.pats m.2.told m.2.hd m.2.tl)/\OkB m.2.pats m.2.told/\TB C H kvs ms
 | _,_=>False
theorem TB.ind {C:Ab}{H:Hp}{M:List (Key×V)->List (List Nat×Bp)->Prop}(h0:M [] [])
  (h1:∀ kv kvs m ms,kv.1=Sum.inr (S m.1)->(∃ p kd ld,kv.2=.ref p/\BrkAt C H p kd ld m.2.pats m.2.told m.2.hd m.2.tl)->OkB m.2.pats m.2.told->TB C H kvs ms->M kvs ms->M (kv::kvs) (m::ms)) :
  ∀{kvs:List (Key×V)}{ms:List (List Nat×Bp)},TB C H kvs ms->M kvs ms
 | [],[],_=>h0
 | [],_::_,h=>h.elim
 | _::_,[],h=>h.elim
 | kv::kvs,m::ms,h=>h1 kv kvs m ms h.1 h.2.1 h.2.2.1 h.2.2.2 (TB.ind h0 h1 h.2.2.2)
theorem TB.same (s:Same H H') (h:TB C H kvs ms):TB C H' kvs ms :=
 TB.ind (M:=fun kvs ms=>TB C H' kvs ms) trivial (fun _ _ _ _ a ⟨p,kd,ld,c1,c2⟩ e _ ih=>⟨a,⟨p,kd,ld,c1,c2.same s⟩,e,ih⟩) h
theorem TB.keys (h:TB C H kvs ms):kvs.map (·.1)=(ms.map fun m=>S m.1).map Sum.inr :=
 TB.ind (M:=fun kvs ms=>kvs.map (·.1)=(ms.map fun m=>S m.1).map Sum.inr) rfl (fun _ _ _ _ a _ _ _ ih=>by
  simp only[Nq]
  rw[ih,a]) h
theorem TB.len (h:TB C H kvs ms):kvs.length=ms.length:=by
 have:=congrArg ZY h.keys
 simpa only [M5] using this
noncomputable def putM (ms:List (List Nat×Bp))(z:List Nat)(b:Bp):List (List Nat×Bp):=if (ms.any fun m=>decide (m.1=z))=true then ms.map (fun m=>if m.1=z then (m.1,b) else m) else ms++[(z,b)]
theorem gQ (ms:List (List Nat×Bp))(z:List Nat)(b:Bp):(putM ms z b).length<=ms.length+1:=by
 unfold putM
 split
 ·rw[M5];omega
 ·rw[No];simp
theorem TB.any (z:List Nat) (h:TB C H kvs ms):(kvs.any fun kv=>decide (kv.1=(Sum.inr (S z):Key)))=(ms.any fun m=>decide (m.1=z)):=by
 refine TB.ind (M:=fun kvs ms=>(kvs.any fun kv=>decide (kv.1=(Sum.inr (S z):Key)))=(ms.any fun m=>decide (m.1=z))) rfl ?_ h
 intro kv kvs m ms a _ _ _ ih
 rw[Pp,Pp,ih,a]
 have e:decide ((Sum.inr (S m.1):Key)=Sum.inr (S z))=decide (m.1=z):=by
  by_cases e:m.1=z
  ·rw[B1 e,B1 (by rw[e])]
  ·rw[B0 e,B0 fun q=>e (SR q)]
 rw[e]
theorem TB.append (h:TB C H kvs ms) (h':TB C H kvs' ms'):TB C H (kvs++kvs') (ms++ms') :=
 TB.ind (M:=fun kvs ms=>TB C H (kvs++kvs') (ms++ms')) h' (fun _ _ _ _ a c e _ ih=>⟨a,c,e,ih⟩) h
theorem TB.put (h:TB C H kvs ms) (hB:BrkAt C H p kd ld b.pats b.told b.hd b.tl) (hO:OkB b.pats b.told):TB C H (putK kvs (Sum.inr (S z)) (.ref p)) (putM ms z b):=by
 unfold putK putM
 rw[h.any z]
 by_cases c:(ms.any fun m=>decide (m.1=z))=true
 ·rw[B3 c,B3 c]
  refine TB.ind (M:=fun kvs ms=>TB C H (kvs.map fun kv=>if kv.1=(Sum.inr (S z):Key) then (kv.1,.ref p) else kv) (ms.map fun m=>if m.1=z then (m.1,b) else m)) trivial ?_ h
  intro kv kvs m ms a c e _ ih
  simp only[Nq]
  by_cases hz:m.1=z
  ·rw[B3 (by rw[a,hz]),B3 hz]
   exact⟨a,⟨p,kd,ld,rfl,hB⟩,hO,ih⟩
  ·rw[B2 (by rw[a];exact fun q=>hz (SR q)),B2 hz]
   exact⟨a,c,e,ih⟩
 ·rw[B2 c,B2 c]
  exact h.append ⟨rfl,⟨p,kd,ld,rfl,hB⟩,hO,trivial⟩
noncomputable def offH (H:Hp)(D:List Ab):Hp:=fun b=>if b∈D then none else H b
theorem Om (h:b∉D):offH H D b=H b:=by unfold offH;rw[B2 h]
theorem Pl (h:offH H D b=some o):b∉D/\H b=some o:=by
 unfold offH at h
 split at h
 ·cases h
 ·rename_i hb;exact⟨hb,h⟩
theorem Rs (H:Hp)(D:List Ab):Same (offH H D) H:=fun b o e=>(Pl e).2
theorem OA (h:∀ b o,b∉D->H b=some o->b∉D'/\H' b=some o):Same (offH H D) (offH H' D'):=fun b o e=>by
 obtain⟨h1,h2⟩:=Pl e
 obtain⟨h3,h4⟩:=h b o h1 h2
 rw[Om h3];exact h4
theorem BrkAt.offD (hD:∀ b∈D,∀ zs,H b≠some (.tup zs)) (h1:p∉D) (h2:kd∉D) (h3:ld∉D) (h:BrkAt C H p kd ld pats told hd tl):BrkAt C (offH H D) p kd ld pats told hd tl:=by
 obtain⟨dx,ys,kvs,b1,b2,b3,b4,b5⟩:=h
 have tks:∀ b zs,H b=some (.tup zs)->offH H D b=some (.tup zs):=fun b zs e=>by rw[Om fun hb=>hD b hb zs e];exact e
 exact⟨dx,ys,kvs,by rw[Om h1];exact b1,by rw[Om h2];exact b2,NT.tups tks b3,by rw[Om h3];exact b4,UG tks b5⟩
noncomputable abbrev s_is_letter:As:=top 17
noncomputable abbrev s_is_word:As:=top 18
def YJ:Sp:=fun vs H Q _=>∃ c:Nat,vs=[.str (S [c])]/\Q (.bl (NL c)) H
def UI:Sp:=fun vs H Q _=>∃ l:List Nat,vs=[.str (S l)]/\l.length<=1000/\∀ H',Same H H'->Q (.bl (N7 l)) H'
theorem gR (T:Txt mg tk)(F:Fun K "is_letter" "is_letter" s_is_letter f fd):FnOk P w K mg base CX0 1 f fd ["sign"] YJ:=by
 refine F.okk ["sign"] ?_
 rintro _ _ _ _ H _ _ _ hr ⟨c,rfl,q⟩ nd
 refine⟨_,(MU (M8 (Oa o_in (pv 0) (RE (v:=.str "abcdefghijklmnopqrstuvwxyz") rfl T.m_LETTERS ⟨_,rfl⟩) (by with_unfolding_all rfl)))),?_⟩
 walk_at "s0"
 rw[t_let]
 ext
 rw[let_in,Z0]
 exact q
theorem gS (T:Txt mg tk)(F:Fun K "is_word" "is_word" s_is_word f fd)(B_:Dn P w K mg base "is_letter" 1 ["sign"] YJ):FnOk P w K mg base CX0 2 f fd ["text"] UI:=by
 refine F.okk ["text"] ?_
 rintro _ _ _ _ H _ _ _ hr ⟨l,rfl,hl,q⟩ nd
 refine⟨_,(MU (M8 (Qm (Oa o_gt (pcb (Nu (K:=K)) T.z_len (pa1 (pv 0))) MP (M9 _)) (PD (pcb (TQ rfl) T.z_all (pa1 (PP ["sign"] [none] rfl (by kernel_rfl) rfl (Pf (K:=K) (pv 0)) (fun _ _ _ _=>(N_ (i:=0) (show (["sign"]:List Str).Nodup by decide +kernel) rfl (Or.inl rfl) (Or.inr rfl))) (fun _ _ _ _=>QK) (fun _ _ _ _=>(M3 B_ hr.MX rfl (pa1 (pv 0))))))))))),?_⟩
 walk_at "s0"
 have Ep:(S l).length<=Ae:=szn (by rw[Nn];omega)
 ext
 try rw[Nn]
 refine iteD (fun c=>?_) (fun c=>?_)
 ·ext
  intro r Cd
  refine WI (fun i B6 σ H'=>∃ v,σ=[v]/\B6=((l.take i).map NL).map V.bl/\Same H H'/\H' r=some (.lst B6))
   ⟨none,rfl,rfl,Nh Cd _,MT⟩ (fun i B6 σ H' hI9=>by rcases hI9 with ⟨_,_,e,_,e2⟩;exact⟨e2,by rw[e];simp;omega⟩) (szn (by rw[RP,Nn];omega)) ?_ ?_
  ·intro i B6 σ H' hi hI9
   obtain⟨v,rfl,rfl,s1,e1⟩:=hI9
   rw[RP,Nn] at hi
   rw[W7 hi]
   ext
   refine⟨l[i],rfl,e1,_,rfl,?_,fun c o e=>?_,MT⟩
   ·rw[OC,Na hi,Np,Np];rfl
   ·have Hv:c≠r:=fun z=>by rw[z,Cd] at e;cases e
    rw[MR Hv];exact s1 _ _ e
  ·intro B6 σ H' hI9
   obtain⟨v,rfl,rfl,s1,e1⟩:=hI9
   ext
   refine RX (Pt e1) ?_
   ext
   rw[RP,Nn,OB]
   have e:(l.map NL).all id=N7 l:=by
    unfold N7
    rw[B1 (by omega),Rb,List.all_map];rfl
   rw[e]
   exact q H' s1
 ·have e:N7 l=false:=by
   unfold N7
   rw[B0 (by omega),Ra]
  ext
  rw[<- e]
  exact q H (Same.refl H)
noncomputable abbrev s_mark_of:As:=top 54
noncomputable abbrev s_word_of:As:=top 55
noncomputable abbrev s_is_name:As:=top 50
noncomputable abbrev s_is_thing:As:=top 56
noncomputable abbrev s_check_things:As:=top 57
noncomputable abbrev s_pieces:As:=top 58
structure Tc (K:MV)(mg:Str->Option Ac)(mkT:Ab):Prop where
 m:mg "MARKS"=some (.ref mkT)
 s:∀ H,SqT K H mkT [V.str ",",V.str ".",V.str ";",V.str ":",V.str "!",V.str "?"]
noncomputable def Rt (c:Nat):Bool:=[44,46,59,58,33,63].contains c
noncomputable def Q8 (l:List Nat):List Nat:=l.drop (l.length - 1)
noncomputable def Og (l:List Nat):List Nat:=if (Q8 l).any Rt=true then Q8 l else []
noncomputable def OV (l:List Nat):List Nat:=l.take (l.length - (Og l).length)
noncomputable def isAt (l:List Nat):Bool:=l.head? == some 64
noncomputable def isNm (l:List Nat):Bool:=N7 l&&decide (l.length<=8)
noncomputable def Pu (l:List Nat):Bool:=if isAt l=true then isNm l.tail else N7 (OV l)
theorem YK (l:List Nat):(Q8 l).length<=1:=by unfold Q8;rw[Qh];omega
theorem YL (l:List Nat):(Og l).length<=1:=by
 unfold Og
 split
 ·exact YK l
 ·exact NA _
theorem gU (l:List Nat):cutA l (some (-1)) none=Q8 l:=by
 unfold cutA Q8
 have h1:sx l.length 0 (some (-1))=l.length - 1:=by simp only[sx];rw[B3 (by decide)];omega
 have h2:sx l.length l.length none=l.length:=rfl
 rw[h1,h2]
 exact ZO (by rw[Qh];exact M6 _)
theorem gW (hx:x.length<=1):inV (.str (S x)) [V.str ",",V.str ".",V.str ";",V.str ":",V.str "!",V.str "?"]=x.any Rt:=by
 match x,hx with
 | [],_=>decide +kernel
 | [c],_ =>
  have e:[V.str ",",V.str ".",V.str ";",V.str ":",V.str "!",V.str "?"]=[44,46,59,58,33,63].map fun d=>V.str (S [d]):=by decide +kernel
  rw[e]
  unfold inV Rt
  rw[List.any_map]
  simp only[Pp,ZX,Ve,aP]
  have q:∀ d:Nat,(eqV (V.str (S [d])) (V.str (S [c])))=(c == d):=fun d=>by
   by_cases h:c=d
   ·subst h;simp[eqV]
   ·have h2:(S [d] == S [c])=false:=by
     rw[beq_eq_false_iff_ne]
     intro z
     have:=S_inj z
     injection this with this
     exact h this.symm
    rw[show (c == d)=false by rw[beq_eq_false_iff_ne];exact h]
    simp[eqV,h2]
  simp only[Function.comp,q]
def UJ:Sp:=fun vs H Q _=>∃ l:List Nat,vs=[.str (S l)]/\l.length<=1000/\Q (.str (S (Og l))) H
def UK:Sp:=fun vs H Q _=>∃ l:List Nat,vs=[.str (S l)]/\l.length<=1000/\Q (.str (S (OV l))) H
def UL:Sp:=fun vs H Q _=>∃ l:List Nat,vs=[.str (S l)]/\l.length<=1000/\∀ H',Same H H'->Q (.bl (isNm l)) H'
def YM:Sp:=fun vs H Q _=>∃ l:List Nat,vs=[.str (S l)]/\l.length<=1000/\∀ H',Same H H'->Q (.bl (Pu l)) H'
def YN:Sp:=fun vs H Q _=>∃(a:Ab) (ls:List (List Nat)),vs=[.ref a]/\H a=some (.lst (ls.map fun l=>V.str (S l)))/\ls.length<=1000/\(∀ l∈ls,l.length<=1000/\Pu l=true)/\∀ H',Same H H'->Q .non H'
theorem t_at:M' "@"=S [64]:=by decide +kernel
theorem YO (l:List Nat):bC (S l) (S [64])=isAt l:=by
 unfold bC
 rw[R3,Nn,Nn]
 cases l with
 | nil=>rfl
 | cons x r =>
  simp only[a9,ND,Ot,isAt,List.head?_cons]
  by_cases h:x=64
  ·subst h;simp
  ·simp[h]
theorem gX (T:Txt mg tk)(TC:Tc K mg mkT)(F:Fun K "mark_of" "mark_of" s_mark_of f fd):FnOk P w K mg base CX0 1 f fd ["thing"] UJ:=by
 refine F.okk ["thing","last"] ?_
 rintro _ _ _ s H _ _ _ hr ⟨l,rfl,hl,q⟩ nd
 refine⟨_,(MS (pst 1 nd (Ob (Od (K:=K)) (pv 0) (NR (Ov RO MP)) Pe))
  (MU (M8 (VX (Nb (o_inK (K:=K)) (pv 1) (RE (v:=.ref mkT) rfl TC.m rfl) (by with_unfolding_all rfl)) (pv 1) (M4 Of))))),?_⟩
 walk_at "s0"
 ext
 rw[gU]
 ext
 refine⟨mkT,_,rfl,.inr (TC.s H),rfl,rfl,?_⟩
 rw[B2 Nj,gW (YK l)]
 ext
 refine iteB (fun c=>?_) (fun c=>?_)
 ·have e:Og l=Q8 l:=by unfold Og;rw[B3 c]
  rw[e] at q
  ext
  exact q
 ·have e:Og l=[]:=by unfold Og;rw[B2 (by rw[c];exact Nj)]
  rw[e] at q
  ext
  exact q
theorem gY (T:Txt mg tk)(F:Fun K "word_of" "word_of" s_word_of f fd)(CH:Dn P w K mg base "mark_of" 1 ["thing"] UJ):FnOk P w K mg base CX0 2 f fd ["thing"] UK:=by
 refine F.okk ["thing"] ?_
 rintro _ _ _ _ H _ _ _ hr ⟨l,rfl,hl,q⟩ nd
 have hm:=YL l
 refine⟨_,(MU (M8 (Ob (Od (K:=K)) (pv 0) Pe (NR (MY QO (pcb (Nu (K:=K)) T.z_len (pa1 (pv 0))) (pcb (Nu (K:=K)) T.z_len (pa1 (M3 CH hr.MX rfl (pa1 (pv 0)))))))))),?_⟩
 walk_at "s0"
 ext
 refine⟨l,rfl,hl,?_⟩
 ext
 have Ju:(Og l).length<=l.length:=by
  unfold Og
  split
  ·unfold Q8;rw[Qh];omega
  ·exact NA _
 have e:cutA l none (some ((l.length:Int) - ((Og l).length:Int)))=OV l:=by
  rw[show (l.length:Int) - ((Og l).length:Int)=((l.length - (Og l).length:Nat):Int) by omega]
  exact YE l _ (by omega)
 rw[e]
 ext
 exact q
theorem gZ (T:Txt mg tk)(F:Fun K "is_name" "is_name" s_is_name f fd)(CI:Dn P w K mg base "is_word" 2 ["text"] UI):FnOk P w K mg base CX0 3 f fd ["text"] UL:=by
 refine F.okk ["text"] ?_
 rintro _ _ _ _ H _ _ _ hr ⟨l,rfl,hl,q⟩ nd
 refine⟨_,(MU (M8 (Qm (M3 CI hr.MX rfl (pa1 (pv 0))) (PD (Oa o_le (pcb (Nu (K:=K)) T.z_len (pa1 (pv 0))) (RE (v:=.int 8) rfl T.m_MOST_LETTERS ⟨_,rfl⟩) (M9 _)))))),?_⟩
 walk_at "s0"
 ext
 refine⟨l,rfl,hl,fun H1 s1=>?_⟩
 have q1:=q H1 s1
 ext
 cases e:N7 l with
 | false =>
  ext
  have:isNm l=false:=by unfold isNm;rw[e];rfl
  rw[this] at q1
  exact q1
 | true =>
  ext
  have:isNm l=decide ((l.length:Int)<=8):=by
   unfold isNm;rw[e,Rb]
   by_cases c:l.length<=8
   ·rw[B1 c,B1 (by omega)]
   ·rw[B0 c,B0 (by omega)]
  rw[this] at q1
  exact q1
theorem g9 (T:Txt mg tk)(F:Fun K "is_thing" "is_thing" s_is_thing f fd)(CI:Dn P w K mg base "is_word" 2 ["text"] UI)(CJ:Dn P w K mg base "is_name" 3 ["text"] UL)(CK:Dn P w K mg base "word_of" 2 ["thing"] UK):FnOk P w K mg base CX0 4 f fd ["thing"] YM:=by
 refine F.okk ["thing"] ?_
 rintro _ _ _ _ H _ _ _ hr ⟨l,rfl,hl,q⟩ nd
 refine⟨_,(MS (Nc (Oe (NF (K:=K) OD bj bm ky (pv 0) (pa1 (M4 t_at))) (fun _=>rfl))
   (MU (M8 (M3 CJ hr.MX rfl (pa1 (Ob (Od (K:=K)) (pv 0) (NR MP) Pe)))))
   Ni)
  (MU (M8 (M3 CI hr.MX rfl (pa1 (M3 CK hr.MX rfl (pa1 (pv 0)))))))),?_⟩
 walk_at "s0"
 ext
 rw[YO]
 ext
 cases e:isAt l with
 | true =>
  ext
  have hc:cutA l (some 1) none=l.tail:=by
   have:=W8 l 1 (by
    cases l with
    | nil=>simp[isAt] at e
    | cons x r=>simp)
   rw[List.drop_one] at this
   exact this
  rw[hc]
  refine⟨l.tail,rfl,by rw[List.length_tail];omega,fun H1 s1=>?_⟩
  ext
  have q1:=q H1 s1
  unfold Pu at q1
  rw[e,B3 rfl] at q1
  exact q1
 | false =>
  ext
  refine⟨l,rfl,hl,?_⟩
  ext
  refine⟨OV l,rfl,by unfold OV;rw[NX];omega,fun H1 s1=>?_⟩
  ext
  have q1:=q H1 s1
  unfold Pu at q1
  rw[e,B2 Nj] at q1
  exact q1
theorem g_ {n:Nat}(h:n<=1000):okTx (.int (n:Int)):=.inl ⟨(n:Int),rfl,by
 have h2:((n:Int)).natAbs=n:=by omega
 rw[h2]
 by_cases z:n=0
 ·rw[z];decide
 ·have:=(Nat.log2_lt z).mpr (show n < 2 ^ 10 by omega)
  omega⟩
def refuses (C:Ab)(f:Str)(y:V)(H:Hp)(E:XK):Prop:=∀ e d H',H' e=some (XO e C (some d) false)->H' d=some (.xd [(f,y)])->Same H H'->E (.ref e) (some d) H'
theorem hC {α:Type}{ls:List α}{i:Nat}{l:α}(h:ls[i]?=some l):ls.drop i=l::ls.drop (i+1):=by
 obtain⟨h1,h2⟩:=NJ.mp h
 rw[<- h2];exact Rw h1
theorem hV (T:Txt mg tk)(F:Fun K "check_things" "check_things" s_check_things f fd)(Dg:Dn P w K mg base "is_thing" 4 ["thing"] YM):FnOk P w K mg base CX0 5 f fd ["text"] YN:=by
 refine F.okk ["text","place","thing"] ?_
 rintro _ _ _ s H _ _ _ hr ⟨a,ls,rfl,ha,Ep,Fb,q⟩ nd
 refine⟨_,(MU (Ou Oo rfl (XG rfl T.z_enumerate (pv 0)) (O6 rfl (Nx (pnm 1 nd) (Nx (pnm 2 nd) OL)))
   (MU (Nc (RF (Oe (M3 Dg hr.MX rfl (pa1 (pv 2))) (fun _=>rfl)))
   (MU Rj)
   Ni)))),?_⟩
 walk_at "s0"
 ext
 refine YG ?_
 ext
 refine TZ ha ?_
 refine PX (fun i σ H'=>∃(v1 v2:Option V),σ=[some (.ref a),v1,v2]/\Same H H')
  ⟨none,none,rfl,Same.refl _⟩ (fun _ _ H' _ hI9=>by rcases hI9 with ⟨_,_,_,s⟩;exact s _ _ ha) ?_ ?_
 ·rintro i v σ H2 T2 hv ⟨v1,v2,rfl,s2⟩ hT
  rw[Nz] at hv
  obtain⟨l,hl,rfl⟩:∃ l,ls[i]?=some l/\v=V.str (S l):=by
   cases e:ls[i]? with
   | none=>rw[e] at hv;cases hv
   | some l=>rw[e] at hv;cases hv;exact⟨l,rfl,rfl⟩
  obtain⟨h1,h2⟩:=Fb l (Q9 hl)
  refine SN MT rfl (Ny (Nt (Ny (Nt (OO ?_)))))
  have s3:=s2.trans (Nh hT (PrX T2 [.int (((0:Nat):Int)+(i:Int)),.str (S l)]))
  ext
  refine⟨l,rfl,h1,fun H3 s4=>?_⟩
  rw[h2]
  ext
  exact⟨_,_,rfl,s3.trans s4⟩
 ·intro σ H2 hI9
  obtain⟨v1,v2,rfl,s2⟩:=hI9
  ext
  exact q H2 s2
theorem List.reverseRec' {α:Type}{M:List α->Prop}(nil:M [])(snoc:∀ l a,M l->M (l++[a]))(l:List α):M l:=by
 have h:∀ r:List α,M r.reverse:=fun r=>by
  induction r with
  | nil=>exact nil
  | cons x r ih=>rw[List.reverse_cons];exact snoc _ _ ih
 have:=h l.reverse
 rwa [List.reverse_reverse] at this
theorem hZ {ns:List Int} (h:H t=some (.tup (ns.map V.int))):Is H (.ref t) (.tup (ns.map Dt.int)):=by
 simp only[Is]
 refine⟨t,_,rfl,h,?_⟩
 clear h
 induction ns with
 | nil=>simp only[N8,L2.IsL]
 | cons x ns ih=>simp only[Nq,L2.IsL,Is];exact⟨by first | rfl | trivial,ih⟩
noncomputable def SW (k:Nat)(w m:List Nat)(g:List Int):Dt:=.tup [.int (k:Int),.str (S w),.str (S m),.tup (g.map Dt.int)]
noncomputable def NV (ms:List (List Nat×Bp))(z:List Nat):Option Bp:=(ms.find? fun m=>decide (m.1=z)).map (·.2)
structure Pc where
 b:Option (List Nat×Bp)
 ps:List (Nat×List Nat×List Nat×List Nat)
 k:Nat
noncomputable def pD (p:Nat×List Nat×List Nat×List Nat):Dt:=SW p.1 p.2.1 p.2.2.1 (p.2.2.2.map fun j:Nat=>(j:Int))
noncomputable def OW (b:Bp)(w:List Nat):List Nat:=(Qs b.pats b.told b.hd b.tl w).map Int.toNat
theorem UM {w g:List Nat} (h:Qs b.pats b.told b.hd b.tl w=g.map fun k:Nat=>(k:Int)):OW b w=g:=by
 unfold OW
 rw[h,NK]
 conv=>rhs;rw[<- List.map_id g]
 exact Vx fun k _=>by simp
noncomputable def OT (ms:List (List Nat×Bp))(s:Pc)(l:List Nat):Pc :=
 if isAt l=true then ⟨(NV ms l.tail).map fun b=>(l.tail,b),s.ps,s.k+1⟩
 else ⟨s.b,s.ps++(match s.b with | some b=>[(s.k,OV l,Og l,OW b.2 (OV l))] | none=>[]),s.k+1⟩
noncomputable def prun (ms:List (List Nat×Bp))(ls:List (List Nat)):Pc:=ls.foldl (OT ms) ⟨none,[],0⟩
theorem YQ (ms:List (List Nat×Bp))(ls:List (List Nat))(l:List Nat):prun ms (ls++[l])=OT ms (prun ms ls) l:=by unfold prun;rw[ZU];rfl
theorem YR (ms:List (List Nat×Bp))(ls:List (List Nat)):(prun ms ls).k=ls.length:=by
 induction ls using List.reverseRec' with
 | nil=>rfl
 | snoc ls l ih =>
  rw[YQ,No]
  unfold OT
  split <;> (simp only[ih];rfl)
theorem TB.look (z:List Nat) (h:TB C H kvs ms):∀ b,NV ms z=some b->∃ p kd ld:Ab,valV kvs (Sum.inr (S z))=some (.ref p)/\BrkAt C H p kd ld b.pats b.told b.hd b.tl/\OkB b.pats b.told:=by
 refine TB.ind (M:=fun kvs ms=>∀ b,NV ms z=some b->∃ p kd ld:Ab,valV kvs (Sum.inr (S z))=some (.ref p)/\BrkAt C H p kd ld b.pats b.told b.hd b.tl/\OkB b.pats b.told) (fun b e=>by cases e) ?_ h
 rintro kv kvs m ms a ⟨p,kd,ld,c1,c2⟩ e _ ih b' hb
 by_cases hz:m.1=z
 ·have e1:NV (m::ms) z=some m.2:=by unfold NV;rw[OX,B1 hz];rfl
  rw[e1] at hb
  cases hb
  exact⟨p,kd,ld,by rw[Vo (by rw[a,hz]),c1],c2,e⟩
 ·have e1:NV (m::ms) z=NV ms z:=by unfold NV;rw[OX,B0 hz]
  rw[e1] at hb
  rw[Uf fun q=>hz (SR (a.symm.trans q))]
  exact ih b' hb
theorem YS (k:Nat)(w m:List Nat)(g:List Int):P6 (SW k w m g)=true:=by
 have hi:∀ g:List Int,OQ (g.map Dt.int)=true:=fun g=>by
  induction g with
  | nil=>rfl
  | cons x g ih=>simp only[Nq,OQ,P6,ih];rfl
 unfold SW
 simp only[P6,OQ,hi g];rfl
theorem YT:∀ ps:List (Nat×List Nat×List Nat×List Nat),OQ (ps.map pD)=true
 | []=>rfl
 | p::ps=>by simp only[Nq,OQ,pD,YS,YT ps];rfl
noncomputable def due2 (ms:List (List Nat×Bp)):Bool->List (List Nat)->Option (List Nat)
 | _,[]=>none
 | h,l::r=>if isAt l=true then (if (NV ms l.tail).isSome=true then due2 ms true r else some l.tail) else if h=true then due2 ms true r else some []
theorem TB.look0 (z:List Nat) (h:TB C H kvs ms):NV ms z=none->valV kvs (Sum.inr (S z))=none:=by
 refine TB.ind (M:=fun kvs ms=>NV ms z=none->valV kvs (Sum.inr (S z))=none) (fun _=>rfl) ?_ h
 rintro kv kvs m ms a _ e _ ih hb
 by_cases hz:m.1=z
 ·have e1:NV (m::ms) z=some m.2:=by unfold NV;rw[OX,B1 hz];rfl
  rw[e1] at hb;cases hb
 ·have e1:NV (m::ms) z=NV ms z:=by unfold NV;rw[OX,B0 hz]
  rw[e1] at hb
  rw[Uf fun q=>hz (SR (a.symm.trans q))]
  exact ih hb
def PcOk (p:Nat×List Nat×List Nat×List Nat):Prop:=p.1<=1000/\1<=p.2.1.length/\p.2.1.length<=100/\p.2.2.1.length<=1/\Rise 0 p.2.1.length p.2.2.2/\∀ c∈p.2.1++p.2.2.1,c < 128
theorem h8 (h:N7 l=true):1<=l.length:=by
 unfold N7 at h
 simp only[NS,decide_eq_true_eq] at h
 omega
def Th1 (l:List Nat):Prop:=(∀ c∈l,c < 128)/\l.length<=50/\Pu l=true
def UN (CT NT:Ab):Sp:=fun vs H Q E=>∃(tp td:Ab) (kvs:List (Key×V)) (nm:List Nat),vs=[.ref tp,.str (S nm)]/\TgAt CT H tp td kvs/\(∀ c∈nm,c < 128)/\nm.length<=50 /\
 ((∃ v,valV kvs (Sum.inr (S nm))=some v/\Q v H)∨(valV kvs (Sum.inr (S nm))=none/\refuses NT "name" (.str (S nm)) H E))
def YU (C CT NTo:Ab):Sp:=fun vs H Q E=>∃(tp td a:Ab) (kvs:List (Key×V)) (ms:List (List Nat×Bp)) (ls:List (List Nat)),vs=[.ref tp,.ref a]/\TgAt CT H tp td kvs/\TB C H kvs ms/\H a=some (.lst (ls.map fun l=>V.str (S l)))/\ls.length<=100/\(∀ l∈ls,Th1 l) /\
 (∀ nm,due2 ms false ls=some nm->refuses NTo "name" (.str (S nm)) H E) /\
 (due2 ms false ls=none->∀(r:Ab) (xs:List V) (H':Hp),H r=none->H' r=some (.lst xs)->L2.IsL H' xs ((prun ms ls).ps.map pD)->xs.length<=ls.length->(∀ d∈(prun ms ls).ps,PcOk d)->Same H H'->Q (.ref r) H')
theorem ia (h:isAt l=true):cutA l (some 1) none=l.tail:=by
 have:=W8 l 1 (by
  cases l with
  | nil=>simp[isAt] at h
  | cons x r=>simp)
 rw[List.drop_one] at this
 exact this
theorem ib (l:List Nat):(OV l).length<=l.length:=by unfold OV;rw[NX];omega
theorem kA (T:Txt mg tk)(Z:Cs K mg ad)(O2:Ow2 K mg cO2)(F:Fun K "breaker_of" "Tongues.breaker_of" s_Tongues_breaker_of f fd)(Cf:Ini P w K mg base (ad 6) 1 ["self","name"] (Qc okTs (ad 6) "name")):FnOk P w K mg base (CXx P w) 3 f fd ["self","name"] (UN cO2 (ad 6)):=by
 refine F.okx ["self","name"] ?_
 rintro _ _ _ _ H _ _ _ hr ⟨tp,td,kvs,nm,rfl,hT,GO,Fu,q⟩ nd
 obtain⟨dxt,t1,t2⟩:=id hT
 refine⟨_,(MS (Nc (PB (Xy (NO hr) (pv 1) (Oh (pv 0) rfl)))
   (MU (Uv rfl Uu (Uw Z.x_NoTongue Cf hr.MX rfl Z.m_NoTongue (pa1 (pv 1)))))
   Ni)
  (MU (M8 (Oq (NO hr) (Oh (pv 0) rfl) (pv 1) (fun _ _=>rfl))))),?_⟩
 walk_at "s0"
 ext
 refine i_tB (YI ?_)
 ext
 refine Oj ?_
 ext
 refine Ol t1 O2.cl O2.n_breakers rfl ?_
 refine⟨td,_,rfl,DGet.k (k:=Sum.inr (S nm)) t2,?_⟩
 rcases q with ⟨v,hv,q⟩ | ⟨hv,qe⟩
 ·rw[hv]
  ext
  refine Oz ?_
  ext
  refine Oj ?_
  ext
  refine Ol t1 O2.cl O2.n_breakers rfl ?_
  ext
  refine⟨td,_,rfl,hv▸DGet.k (k:=Sum.inr (S nm)) t2,?_⟩
  ext
  exact q
 ·rw[hv]
  ext
  refine Uy (Ux ?_)
  ext
  refine Uz ⟨_,rfl,XS GO Fu⟩ fun x d hx hd CA=>⟨x,ad 6,ad 0,some d,rfl,MT,Z.x_NoTongue,qe x d _ MT ?_ ?_⟩
  ·rw[MR CA,MR CA,MT]
  ·rw[RB]
   exact(Nh hd _).trans (Nh (by rw[MR (M7 CA)];exact hx) _)
theorem ic (T:Txt mg tk)(Z:Cs K mg ad)(O:Ow K mg cO)(O2:Ow2 K mg cO2)(F:Fun K "pieces" "pieces" s_pieces f fd)(CN:Dn P w K mg base "check_things" 5 ["text"] YN)(CH:Dn P w K mg base "mark_of" 1 ["thing"] UJ)(CK:Dn P w K mg base "word_of" 2 ["thing"] UK)(B7:DmX P w K mg base cO2 "breaker_of" 3 ["self","name"] (UN cO2 (ad 6)))(Ch:Dm P w K mg base cO "gaps" 4 ["self","word"] (UE cO))(Cf:Ini P w K mg base (ad 6) 1 ["self","name"] (Qc okTs (ad 6) "name")):FnOk P w K mg base (CXx P w) 6 f fd ["tongues","text"] (YU cO cO2 (ad 6)):=by
 refine F.okx ["tongues","text","told","breaker","place","thing","word"] ?_
 rintro _ _ _ s H _ _ _ hr ⟨tp,td,a,kvs,ms,ls,rfl,hT,hR,ha,Ep,Fv,qn,q⟩ nd
 refine⟨_,(MS (N9 (M3 CN hr.MX rfl (pa1 (pv 1))))
  (MS (pst 2 nd (NN O7))
  (MS (pst 3 nd Pz)
  (MS (Ou bv rfl (XG rfl T.z_enumerate (pv 1)) (O6 rfl (Nx (pnm 4 nd) (Nx (pnm 5 nd) OL)))
   (MU (Nc (Oe (NF (K:=K) OD bj bm ky (pv 5) (pa1 (M4 t_at))) (fun _=>rfl))
   (MU (pst 3 nd (UA (pv 0) O2.cl B7 hr.MX (aA (fun _ _ _ z=>z)) (pa1 (Ob (Od (K:=K)) (pv 5) (NR MP) Pe)))))
   (MU (Nc (Nb o_is (pv 3) Pz (M9 _))
   (MU (Uv rfl Uu (Uw Z.x_NoTongue Cf hr.MX rfl Z.m_NoTongue (pa1 (M4 Of)))))
   (MS (pst 6 nd (M3 CK hr.MX rfl (pa1 (pv 5))))
  (MU (N9 (NF (K:=K) OI OZ O0 O9 (pv 2) (pa1 (NY (MQ (pv 4) (MQ (pv 6) (MQ (M3 CH hr.MX rfl (pa1 (pv 5))) (pa1 (SS (pv 3) O.cl Ch hr.MX (pa1 (pv 6))))))))))))))))))
  (MU (M8 (pv 2))))))),?_⟩
 walk_at "s0"
 ext
 refine⟨a,ls,rfl,ha,by omega,fun l hl=>⟨by have:=(Fv l hl).2.1;omega,(Fv l hl).2.2⟩,fun H1 s1=>?_⟩
 ext
 intro r Cd
 have s2:=s1.trans (Nh Cd (.lst []))
 have er:=MT (H:=H1) (a:=r) (o:=.lst [])
 have KF:H r=none:=s1.free Cd
 generalize upd H1 r (.lst [])=H2 at s2 er ⊢
 ext
 refine YG ?_
 ext
 refine TZ (s2 _ _ ha) ?_
 refine PX (fun i σ H'=>∃(v3:V) (v4 v5 v6:Option V) (xs:List V),σ=[some (.ref tp),some (.ref a),some (.ref r),some v3,v4,v5,v6]/\H' r=some (.lst xs)/\L2.IsL H' xs ((prun ms (ls.take i)).ps.map pD)/\xs.length<=i/\Same H H'/\(∀ d∈(prun ms (ls.take i)).ps,PcOk d)/\due2 ms false ls=due2 ms (prun ms (ls.take i)).b.isSome (ls.drop i) /\
   (match (prun ms (ls.take i)).b with | none=>v3=.non | some nb=>NV ms nb.1=some nb.2/\∃ p,v3=.ref p/\valV kvs (Sum.inr (S nb.1))=some (.ref p)))
  ⟨.non,none,none,none,[],rfl,er,(by simp only[List.take_zero,prun,List.foldl_nil,N8,L2.IsL]),M6 _,s2,(fun d hd=>by simp[prun] at hd),rfl,rfl⟩ (fun _ _ H' _ hI9=>by rcases hI9 with ⟨_,_,_,_,_,_,_,_,_,s,_⟩;exact s _ _ ha) ?_ ?_
 ·rintro i v σ H3 T3 hv ⟨v3,v4,v5,v6,xs,rfl,er3,Dc,Ey,s3,DT,C8,hb⟩ Fc
  rw[Nz] at hv
  obtain⟨l,hl,rfl⟩:∃ l,ls[i]?=some l/\v=V.str (S l):=by
   cases e:ls[i]? with
   | none=>rw[e] at hv;cases hv
   | some l=>rw[e] at hv;cases hv;exact⟨l,rfl,rfl⟩
  have hi:=(NJ.mp hl).1
  have EE:ls.take (i+1)=ls.take i++[l]:=by rw[OC,hl];rfl
  have Lw:(prun ms (ls.take i)).k=i:=by rw[YR,NX];omega
  have KG:=Q9 hl
  obtain⟨Fd,B8,EM⟩:=Fv l KG
  rw[hC hl] at C8
  have sT:=Nh Fc (PrX T3 [.int (((0:Nat):Int)+(i:Int)),.str (S l)])
  refine SN MT rfl (Ny (Nt (Ny (Nt (OO ?_)))))
  have s4:=s3.trans sT
  have er4:=sT _ _ er3
  have GA:=IsL.same sT Dc
  generalize upd H3 T3 (PrX T3 [.int (((0:Nat):Int)+(i:Int)),.str (S l)])=H4 at s4 er4 GA ⊢
  have Lx:V.int (((0:Nat):Int)+(i:Int))=V.int (i:Int):=by congr 1;omega
  rw[Lx]
  ext
  rw[YO]
  cases DW:isAt l with
  | true =>
   ext
   refine Rq ?_
   ext
   obtain⟨dxt,t1,t2⟩:=id (hT.same s4)
   refine Rr t1 rfl ?_
   ext
   rw[ia DW]
   have Ds:∀ c∈l.tail,c < 128:=fun c hc=>Fd c (List.mem_of_mem_tail hc)
   have JK:l.tail.length<=50:=by rw[List.length_tail];omega
   refine⟨tp,td,kvs,l.tail,rfl,hT.same s4,Ds,JK,?_⟩
   cases D0:NV ms l.tail with
   | none =>
    refine .inr ⟨(hR.same s4).look0 _ D0,fun e d H' h1 h2 h3=>qn l.tail ?_ e d H' h1 h2 (s4.trans h3)⟩
    rw[C8]
    simp only[due2]
    rw[B3 DW,D0];rfl
   | some b =>
    obtain⟨p,kd,ld,q1,hB,hO⟩:=(hR.same s4).look l.tail b D0
    refine .inl ⟨.ref p,q1,?_⟩
    ext
    have Cn:prun ms (ls.take (i+1))=⟨some (l.tail,b),(prun ms (ls.take i)).ps,(prun ms (ls.take i)).k+1⟩:=by
     rw[EE,YQ]
     unfold OT
     rw[B3 DW,D0];rfl
    refine⟨.ref p,_,_,_,xs,rfl,er4,?_,by omega,s4,?_,?_,?_⟩
    ·rw[Cn];exact GA
    ·rw[Cn];exact DT
    ·rw[Cn,C8]
     simp only[due2]
     rw[B3 DW,D0];rfl
    ·rw[Cn]
     exact⟨D0,p,rfl,q1⟩
  | false =>
   ext
   cases DK:(prun ms (ls.take i)).b with
   | none =>
    rw[DK] at hb C8
    have hb:v3=.non:=hb
    subst hb
    ext
    refine Uy (Ux ?_)
    ext
    have Ly:due2 ms false ls=some []:=by
     rw[C8]
     simp only[due2]
     rw[B2 (by rw[DW];exact Nj)];rfl
    refine Uz ⟨_,rfl,XS (fun c hc=>nomatch hc) (by decide)⟩ fun x d hx hd CA=>⟨x,ad 6,ad 0,some d,rfl,MT,Z.x_NoTongue,qn [] Ly x d _ MT ?_ ?_⟩
    ·rw[MR CA,MR CA,MT]
    ·rw[RB]
     exact s4.trans ((Nh hd _).trans (Nh (by rw[MR (M7 CA)];exact hx) _))
   | some nb =>
    rw[DK] at hb C8
    obtain⟨Fu,p,rfl,q1'⟩:=hb
    obtain⟨p',kd,ld,q1,hB,hO⟩:=(hR.same s4).look nb.1 nb.2 Fu
    have ep:p'=p:=by rw[q1'] at q1;injection q1 with q1;injection q1 with q1;exact q1.symm
    subst ep
    ext
    refine⟨l,rfl,by omega,?_⟩
    ext
    refine⟨l,rfl,by omega,?_⟩
    ext
    refine Rq ?_
    ext
    obtain⟨dxb,ysb,kvb,b1,_⟩:=id hB
    refine Rr b1 rfl ?_
    ext
    have hz:=hO.pl
    have FY:N7 (OV l)=true:=by
     unfold Pu at EM
     rw[DW,B2 Nj] at EM
     exact EM
    have Dd:=h8 FY
    have C9:=ib l
    have Fq:=YL l
    obtain⟨g,hg,Du⟩:=YH hO nb.2.hd nb.2.tl (w:=OV l) Dd
    have Cn:prun ms (ls.take (i+1))=⟨some nb,(prun ms (ls.take i)).ps++[(i,OV l,Og l,g)],(prun ms (ls.take i)).k+1⟩:=by
     rw[EE,YQ]
     unfold OT
     rw[DW,B2 Nj,DK,Lw,<- UM hg]
    have FD:∀ c∈OV l++Og l,c < 128:=fun c hc=>(NP.mp hc).elim (fun h=>Fd c (ZS h)) fun h=>Fd c (by
     unfold Og Q8 at h
     split at h
     ·exact Vc h
     ·cases h)
    generalize OV l=wd at Dd C9 FY hg Du Cn FD ⊢
    generalize Og l=m at Fq Cn FD ⊢
    refine⟨p',kd,ld,nb.2.pats,nb.2.told,nb.2.hd,nb.2.tl,wd,rfl,hB,hO.ps,by omega,Dd,by omega,fun t H5 et s5=>?_⟩
    rw[hg] at et
    ext
    intro t6 Lz
    obtain⟨H6,LA,s6,et6⟩:=OU Lz (.tup [.int (i:Int),.str (S wd),.str (S m),.ref t])
    rw[LA]
    have s46:=s5.trans s6
    have et':=s6 _ _ et
    have er6:=s46 _ _ er4
    have LB:xs.length < Ae:=szn (by omega)
    ext
    have tks:Tk H6 (upd H6 r (.lst (xs++[.ref t6]))):=fun b zs e=>by
     have hb:b≠r:=fun z=>by rw[z,er6] at e;cases e
     rw[MR hb];exact e
    have hp:Is H6 (.ref t6) (SW i wd m (g.map fun j:Nat=>(j:Int))):=by
     unfold SW
     have:=hZ et'
     simp only[Is,L2.IsL] at this ⊢
     exact⟨t6,_,rfl,et6,rfl,rfl,rfl,this,trivial⟩
    refine⟨.ref p',_,_,_,xs++[.ref t6],rfl,MT,?_,by rw[No];show _+1<=_;omega,fun b o e=>?_,?_,?_,?_⟩
    ·rw[Cn]
     show L2.IsL _ _ (List.map pD (_++_))
     rw[Np]
     refine IsL.append (IsL.tk tks (YT _) (IsL.same s46 GA)) ?_
     simp only[Nq,N8,L2.IsL]
     exact⟨Is.tk tks (YS _ _ _ _) hp,trivial⟩
    ·have EK:b≠r:=fun z=>by rw[z,KF] at e;cases e
     rw[MR EK];exact s46 _ _ (s4 _ _ e)
    ·rw[Cn]
     intro d hd
     rcases NP.mp hd with h | h
     ·exact DT d h
     ·cases N3.mp h
      exact⟨by show i<=1000;omega,Dd,by show wd.length<=100;omega,Fq,Du,FD⟩
    ·rw[Cn,C8]
     simp only[due2,j6]
     rw[B2 (by rw[DW];exact Nj),B3 trivial]
    ·rw[Cn]
     exact⟨Fu,p',rfl,q1⟩
 ·intro σ H3 hI9
  obtain⟨v3,v4,v5,v6,xs,rfl,er3,Dc,Ey,s3,DT,C8,hb⟩:=hI9
  rw[M5] at Dc Ey DT C8
  rw[OB] at Dc DT C8
  rw[VA] at C8
  ext
  exact q (by rw[C8];rfl) r xs H3 KF er3 Dc Ey DT s3
noncomputable abbrev s_farthest_end:As:=top 60
noncomputable abbrev s_pressed:As:=top 61
theorem isTupZ {ns:List Int} (h:Is H v (.tup (ns.map Dt.int))):∃ t,v=.ref t/\H t=some (.tup (ns.map V.int)):=by
 simp only[Is] at h
 obtain⟨t,vs,rfl,e,h⟩:=h
 refine⟨t,rfl,?_⟩
 rw[e]
 congr 2
 clear e
 induction ns generalizing vs with
 | nil =>
  cases vs with
  | nil=>rfl
  | cons x r=>simp[L2.IsL] at h
 | cons n ns ih =>
  cases vs with
  | nil=>simp[L2.IsL] at h
  | cons x r =>
   simp only[Nq,L2.IsL,Is] at h
   rw[h.1,ih r h.2];rfl
noncomputable def inR (b:Nat)(room:Int)(k:Nat):Bool:=decide ((b:Int) < (k:Int))&&decide ((k:Int) < (b:Int)+room)
def spFar:Sp:=fun vs H Q _=>∃(t:Ab) (g:List Nat) (b:Nat) (room:Int),vs=[.ref t,.int (b:Int),.int room]/\H t=some (.tup (g.map fun k:Nat=>V.int (k:Int)))/\g.length<=1000 /\
 ∀(H':Hp) (e:Nat),Same H H'->((e=b/\∀ x∈g,inR b room x=false)∨(e∈g/\inR b room e=true/\∀ y∈g,inR b room y=true->y<=e))->Q (.int (e:Int)) H'
theorem ie {k:Nat} {w m:List Nat} {g:List Int} (h:Is H v (SW k w m g)):∃ t6 t:Ab,v=.ref t6/\H t6=some (.tup [.int (k:Int),.str (S w),.str (S m),.ref t])/\H t=some (.tup (g.map V.int)):=by
 unfold SW at h
 have h:∃ a xs,v=.ref a/\H a=some (.tup xs)/\L2.IsL H xs [.int (k:Int),.str (S w),.str (S m),.tup (g.map Dt.int)]:=by
  rw[L2.Is.eq_def] at h
  exact h
 obtain⟨t6,vs,rfl,e,h⟩:=h
 match vs,h with
 | [a,b,c,d],h =>
  simp only[L2.IsL] at h
  obtain⟨h1,h2,h3,h4,_⟩:=h
  have h1:a=.int (k:Int):=by simpa only [Is] using h1
  have h2:b=.str (S w):=by simpa only [Is] using h2
  have h3:c=.str (S m):=by simpa only [Is] using h3
  subst h1 h2 h3
  obtain⟨t,rfl,et⟩:=isTupZ h4
  exact⟨t6,t,rfl,e,et⟩
 | [],h=>simp[L2.IsL] at h
 | [_],h=>simp[L2.IsL] at h
 | [_,_],h=>simp[L2.IsL] at h
 | [_,_,_],h=>simp[L2.IsL] at h
 | _::_::_::_::_::_,h=>simp[L2.IsL] at h
theorem YV {n:Nat}:∀{b:Nat}{g:List Nat},Rise b n g->b<=n->g.length<=n - b
 | b,[],_,_=>by simp
 | b,x::g,r,h=>by
  have:=YV r.2.2 (Pq r.2.1)
  have h1:=r.1
  have h2:=r.2.1
  simp;omega
theorem SX (l:List α) (lo hi:Option Int):(cutA l lo hi).length<=l.length:=by
 rw[eB]
 have:=R1 l.length l.length (M6 _) hi
 omega
theorem UO {n:Nat}:∀{b:Nat}{g:List Nat},Rise b n g->∀ x∈g,x < n
 | _,[],_,_,h=>nomatch h
 | b,y::g,r,x,h=>by
  rcases Nf.mp h with rfl | h
  ·exact r.2.1
  ·exact UO r.2.2 x h
theorem Sn (h:∃ W:Nat->St->Hp->Prop,(∃ m,W m σ H)/\∀ m σ H,W m σ H ->
 c σ H fun b H1=>if b=true then ∃ N:St->Hp->Prop,(∀ σ' H',N σ' H'->∃ m',m' < m/\W m' σ' H')/\tb { D with nx:=N,ct:=N,bk:=D.nx } σ H1 else D.nx σ H1):VY c tb D σ H:=h
inductive Gr (wd:Nat):List (Nat×List Nat×List Nat×List Nat)->Nat->List Nat->List (List Nat)->Option Nat->Prop
 | done0:Gr wd [] 0 [] [] none
 | done {ah:List Nat}:ah≠[]->Gr wd [] 0 ah [cutA ah none (some (-1))] none
 | fit {p ps b ah ls r}:(ah++cutA p.2.1 (some ((b:Nat):Int)) none++p.2.2.1).length<=wd->Gr wd ps 0 (ah++cutA p.2.1 (some (b:Int)) none++p.2.2.1++[32]) ls r->Gr wd (p::ps) b ah ls r
 | cut {p ps b ah ls r x}:wd < (ah++cutA p.2.1 (some ((b:Nat):Int)) none++p.2.2.1).length->x∈p.2.2.2->inR b ((wd:Int) - ah.length) x=true->(∀ y∈p.2.2.2,inR b ((wd:Int) - ah.length) y=true->y<=x)->Gr wd (p::ps) x [] ls r->Gr wd (p::ps) b ah ((ah++cutA p.2.1 (some (b:Int)) (some (x:Int))++[45])::ls) r
 | back {p ps b ah ls r}:wd < (ah++cutA p.2.1 (some ((b:Nat):Int)) none++p.2.2.1).length->(∀ y∈p.2.2.2,inR b ((wd:Int) - ah.length) y=false)->ah≠[]->Gr wd (p::ps) b [] ls r->Gr wd (p::ps) b ah (cutA ah none (some (-1))::ls) r
 | narrow {p ps b}:wd < (cutA p.2.1 (some ((b:Nat):Int)) none++p.2.2.1).length->(∀ y∈p.2.2.2,inR b ((wd:Int) - ([]:List Nat).length) y=false)->Gr wd (p::ps) b [] [] (some p.1)
theorem Gr.one (h:Gr wd ps b ah ls r):∀{ls' r'},Gr wd ps b ah ls' r'->ls'=ls/\r'=r:=by
 induction h with
 | done0=>intro ls' r' h';cases h' with
  | done0=>exact⟨rfl,rfl⟩
  | done h=>exact absurd rfl h
 | done h=>intro ls' r' h';cases h' with
  | done0=>exact absurd rfl h
  | done _=>exact⟨rfl,rfl⟩
 | fit h _ ih=>intro ls' r' h';cases h' with
  | fit _ g=>exact ih g
  | cut c=>omega
  | back c=>omega
  | narrow c=>rw[S9] at h;omega
 | cut h hx h1 h2 _ ih=>intro ls' r' h';cases h' with
  | fit c=>omega
  | cut _ c1 c2 c3 g =>
   cases Nat.le_antisymm (h2 _ c1 c2) (c3 _ hx h1)
   obtain⟨e1,e2⟩:=ih g
   rw[e1];exact⟨rfl,e2⟩
  | back _ c=>rw[c _ hx] at h1;cases h1
  | narrow _ c=>rw[c _ hx] at h1;cases h1
 | back h hn ha _ ih=>intro ls' r' h';cases h' with
  | fit c=>omega
  | cut _ c1 c2=>rw[hn _ c1] at c2;cases c2
  | back _ _ _ g =>
   obtain⟨e1,e2⟩:=ih g
   rw[e1];exact⟨rfl,e2⟩
  | narrow _ c=>exact absurd rfl ha
 | narrow h hn=>intro ls' r' h';cases h' with
  | fit c=>rw[S9] at c;omega
  | cut _ c1 c2=>rw[hn _ c1] at c2;cases c2
  | back _ _ c=>exact absurd rfl c
  | narrow _ c=>exact⟨rfl,rfl⟩
def YW (C CT NTo TN:Ab):Sp:=fun vs H Q E=>∃(tp td a:Ab) (kvs:List (Key×V)) (ms:List (List Nat×Bp)) (ls:List (List Nat)) (wd:Nat),vs=[.ref tp,.ref a,.int (wd:Int)]/\TgAt CT H tp td kvs/\TB C H kvs ms/\H a=some (.lst (ls.map fun l=>V.str (S l)))/\ls.length<=100/\(∀ l∈ls,Th1 l)/\1<=wd/\wd<=200 /\
 (∀ nm,due2 ms false ls=some nm->refuses NTo "name" (.str (S nm)) H E) /\
 (due2 ms false ls=none->∀(k:Nat) (lns:List (List Nat)),Gr wd (prun ms ls).ps 0 [] lns (some k)->refuses TN "place" (.int (k:Int)) H E) /\
 (due2 ms false ls=none->∀(r:Ab) (lns:List (List Nat)) (H':Hp),Gr wd (prun ms ls).ps 0 [] lns none->H' r=some (.lst (lns.map fun l=>V.str (S l)))->lns.length<=30001->(∀ l∈lns,l.length<=310)->Same H H'->Q (.ref r) H')
theorem UP {x:List Nat} (h:∀ l∈lns,l.length<=310) (hx:x.length<=310):∀ l∈lns++[x],l.length<=310:=fun l hl=>(NP.mp hl).elim (h l) fun e=>by rw[N3.mp e];exact hx
theorem So :upd H r (.lst ((lns.map fun l=>V.str (S l))++[.str (S x)])) r=some (.lst ((lns++[x]).map fun l=>V.str (S l))):=by rw[MT,Np];rfl
theorem SQ:M' "-"=S [45]:=by decide +kernel
theorem Pm:M' " "=S [32]:=by decide +kernel
theorem ig (T:Txt mg tk)(F:Fun K "farthest_end" "farthest_end" s_farthest_end f fd):FnOk P w K mg base CX0 1 f fd ["gaps","begin","room"] spFar:=by
 refine F.okk ["gaps","begin","room"] ?_
 rintro _ _ _ s H _ _ _ hr ⟨t,g,b,room,rfl,ht,EM,q⟩ nd
 refine⟨_,(MU (M8 (gh rfl rfl T.z_max (PP ["begin","room","gap"] [some 1,some 2,none] rfl (by kernel_rfl) rfl (Pf (K:=K) (pv 0)) (fun _ _ _ _=>(N_ (i:=2) (show (["begin","room","gap"]:List Str).Nodup by decide +kernel) rfl (Or.inl rfl) (Or.inr rfl))) (fun _ _ _ _=>(Tx (RI o_lt o_lt (pv 0) (pv 2) (MY M_ (pv 0) (pv 1))))) (fun _ _ _ _=>(pv 2))) (pv 1)))),?_⟩
 walk_at "s0"
 ext
 refine i_maxD ?_
 ext
 intro r Cd
 refine YB (K:=K) (xs:=g.map fun k:Nat=>V.int (k:Int)) (fun i B6 σ H'=>∃(v:Option V),σ=[some (.int (b:Int)),some (.int room),v]/\B6=((g.take i).filter (inR b room)).map (fun k:Nat=>V.int (k:Int))/\H' r=some (.lst B6)/\Same H H')
  (fun i B6 σ H' _ hI9=>by rcases hI9 with ⟨_,_,_,_,s⟩;exact SqT.of (s _ _ ht)) ⟨none,rfl,rfl,MT,Nh Cd _⟩ (fun i B6 σ H' ⟨_,_,e,e2,_⟩=>⟨e2,by
   rw[e,M5]
   exact NI (SE _ _) (by rw[NX];omega)⟩) (szn (by rw[M5];omega)) ?_ ?_
 ·intro i B6 σ H1 hi hI9
  obtain⟨v,rfl,rfl,e1,s1⟩:=hI9
  rw[M5] at hi
  have JL:(g.map fun k:Nat=>V.int (k:Int)).getD i .non=.int (g[i]:Int):=by
   rw[Nl,Nz,Na hi];rfl
  rw[JL]
  have EE:g.take (i+1)=g.take i++[g[i]]:=by rw[OC,Na hi];rfl
  generalize g[i]=x at EE ⊢
  ext
  have keep:∀ b' o,H b'=some o->b'≠r:=fun b' o e z=>by rw[z,Cd] at e;cases e
  have no:inR b room x=false->∃ v_1,[some (V.int (b:Int)),some (V.int room),some (V.int (x:Int))]=[some (V.int (b:Int)),some (V.int room),v_1]/\((g.take i).filter (inR b room)).map (fun k:Nat=>V.int (k:Int))=((g.take (i+1)).filter (inR b room)).map (fun k:Nat=>V.int (k:Int))/\H1 r=some (.lst (((g.take i).filter (inR b room)).map (fun k:Nat=>V.int (k:Int))))/\Same H H1:=fun hl =>
   ⟨_,rfl,by rw[EE,Qu];simp[hl],e1,s1⟩
  by_cases c:(b:Int) < (x:Int)
  ·rw[B3 (B1 c)]
   ext
   by_cases c2:(x:Int) < (b:Int)+room
   ·rw[B3 (B1 c2)]
    ext
    have hl:inR b room x=true:=by unfold inR;rw[B1 c,B1 c2];rfl
    exact⟨e1,_,rfl,by rw[EE,Qu,Np];simp[hl],MT,fun b' o e=>by rw[MR (keep b' o e)];exact s1 b' o e⟩
   ·rw[B2 (by rw[B0 c2];exact Nj)]
    exact no (by unfold inR;rw[B0 c2,ZZ])
  ·rw[B2 (by rw[B0 c];exact Nj)]
   refine⟨false,rfl,?_⟩
   rw[B2 Nj]
   exact no (by unfold inR;rw[B0 c,Ra])
 ·intro B6 σ H1 hI9
  obtain⟨v,rfl,rfl,e1,s1⟩:=hI9
  rw[M5,OB] at e1
  ext
  have hm:((g.filter (inR b room)).map fun k:Nat=>V.int (k:Int))=((g.filter (inR b room)).map fun k:Nat=>(k:Int)).map V.int:=by rw[NK];rfl
  rw[hm] at e1
  refine⟨r,_,rfl,e1,fun h0=>?_,fun m Fq HE=>?_⟩
  ·refine q H1 b s1 (.inl ⟨rfl,fun x hx=>?_⟩)
   have h0:g.filter (inR b room)=[]:=by simpa using h0
   have:=ZP.mp h0 x hx
   simpa using this
  ·obtain⟨e,he,rfl⟩:=On.mp Fq
   obtain⟨h1,h2⟩:=S8.mp he
   refine q H1 e s1 (.inr ⟨h1,h2,fun y hy IE=>?_⟩)
   have:=HE (y:Int) (On.mpr ⟨y,S8.mpr ⟨hy,IE⟩,rfl⟩)
   omega
theorem ii (T:Txt mg tk)(Z:Cs K mg ad)(F:Fun K "pressed" "pressed" s_pressed f fd)(DN:DnX P w K mg base "pieces" 6 ["tongues","text"] (YU cO cO2 (ad 6)))(CO:Dn P w K mg base "farthest_end" 1 ["gaps","begin","room"] spFar)(Ct:Ini P w K mg base (ad 4) 1 ["self","place"] (Qc okTx (ad 4) "place")):FnOk P w K mg base (CXx P w) 7 f fd ["tongues","text","width"] (YW cO cO2 (ad 6) (ad 4)):=by
 refine F.okx ["tongues","text","width","lines","ahead","place","word","mark","gaps","begin","end"] ?_
 rintro _ _ _ _ H _ _ _ hr ⟨tp,td,a,kvs,ms,ls,wd,rfl,hT,hR,ha,Ep,Fv,Dd,C9,qn,qw,q⟩ nd
 refine⟨_,(MS (pst 3 nd (NN O7))
  (MS (pst 4 nd (M4 Of))
  (MS (Ou bv rfl (Pf (K:=K) (X9 DN hr.MX rfl (aA (fun _ _ _ z=>z)) (MQ (pv 0) (pa1 (pv 1))))) (O6 rfl (Nx (pnm 5 nd) (Nx (pnm 6 nd) (Nx (pnm 7 nd) (Nx (pnm 8 nd) OL)))))
   (MS (pst 9 nd MP)
  (MS (RG bv (Nb o_gt (pcb (Nu (K:=K)) T.z_len (pa1 (MY M_ (MY M_ (pv 4) (Ob (Od (K:=K)) (pv 6) (NR (pv 9)) Pe)) (pv 7)))) (pv 2) (M9 _))
   (MS (pst 10 nd (M3 CO hr.MX rfl (MQ (pv 8) (MQ (pv 9) (pa1 (MY QO (pv 2) (pcb (Nu (K:=K)) T.z_len (pa1 (pv 4)))))))))
  (MS (Nc (Nb o_gt (pv 10) (pv 9) (M9 _))
   (MU (N9 (NF (K:=K) OI OZ O0 O9 (pv 3) (pa1 (MY M_ (MY M_ (pv 4) (Ob (Od (K:=K)) (pv 6) (NR (pv 9)) (NR (pv 10)))) (M4 SQ))))))
   (MU (Nc (Nb (o_ne hr.units) (pv 4) (M4 Of) (M9 _))
   (MU (N9 (NF (K:=K) OI OZ O0 O9 (pv 3) (pa1 (Ob (Od (K:=K)) (pv 4) Pe (NR (Ov RO MP)))))))
   (MU (Uv rfl Uu (Uw Z.x_TooNarrow Ct hr.MX rfl Z.m_TooNarrow (pa1 (pv 5))))))))
  (MS (pst 4 nd (M4 Of))
  (MU (pst 9 nd (pv 10)))))))
  (MU (pst 4 nd (MY M_ (MY M_ (MY M_ (pv 4) (Ob (Od (K:=K)) (pv 6) (NR (pv 9)) Pe)) (pv 7)) (M4 Pm)))))))
  (MS (Nc (Nb (o_ne hr.units) (pv 4) (M4 Of) (M9 _))
   (MU (N9 (NF (K:=K) OI OZ O0 O9 (pv 3) (pa1 (Ob (Od (K:=K)) (pv 4) Pe (NR (Ov RO MP)))))))
   Ni)
  (MU (M8 (pv 3))))))),?_⟩
 walk_at "s0"
 ext
 intro r Cd
 obtain⟨H1,HF,s1,er⟩:=OU Cd (.lst [])
 rw[HF]
 ext
 refine⟨tp,td,a,kvs,ms,ls,rfl,hT.same s1,hR.same s1,s1 _ _ ha,Ep,Fv,fun nm hn e d H' h1 h2 h3=>qn nm hn e d H' h1 h2 (s1.trans h3),fun FZ pr xs H2 HG epr Dc Ey DT s2=>?_⟩
 have qw:=qw FZ
 have q:=q FZ
 generalize (prun ms ls).ps=PS at Dc DT qw q
 have hxl':=Dc.length
 rw[M5] at hxl'
 ext
 refine Vj (K:=K) (xs:=xs) (fun i σ H'=>∃(la:List Nat) (v5 v6 v7 v8 v9 v10:Option V) (lns:List (List Nat)),σ=[some (.ref tp),some (.ref a),some (.int (wd:Int)),some (.ref r),some (.str (S la)),v5,v6,v7,v8,v9,v10]/\la.length<=wd+1/\H' r=some (.lst (lns.map fun l=>V.str (S l)))/\(∀ l∈lns,l.length<=310)/\lns.length<=300 * i/\(∀ b o,b≠r->H2 b=some o->H' b=some o)/\(∀ ls1 r1,Gr wd (PS.drop i) 0 la ls1 r1->Gr wd PS 0 [] (lns++ls1) r1))
  ⟨[],none,none,none,none,none,none,[],rfl,by simp,s2 _ _ er,(fun l hl=>nomatch hl),M6 _,fun b o _ e=>e,fun _ _ z=>z⟩ (fun i σ H' _ hI9=>by rcases hI9 with ⟨_,_,_,_,_,_,_,_,_,_,_,_,_,k,_⟩;exact SqL.of (k _ _ (fun z=>by rw[z,er] at HG;cases HG) epr)) ?_ ?_
 ·intro i x σ Ha hx hI9
  obtain⟨la,v5,v6,v7,v8,v9,v10,lns,rfl,GQ,era,D0,JM,ka,way⟩:=hI9
  have DF:=(NJ.mp hx).1
  obtain⟨x',d,Eb,Ek,Fs⟩:=IsL.get Dc (i:=i) (by rw[<- Dc.length];exact DF)
  rw[hx] at Eb
  cases Eb
  have JN:i < PS.length:=by omega
  have F0:=Rw JN
  obtain⟨hk,EN,Er,FE,Du,_⟩:=DT _ (N5 JN)
  rw[Nz,Na JN] at Ek
  cases Ek
  generalize hp:PS[i]=p at F0 hk EN Er FE Du Fs
  obtain⟨k,w',m,g⟩:=p
  have Fs:Is _ _ (SW k w' m (g.map fun j:Nat=>(j:Int))):=Fs
  dsimp only at hk EN Er FE Du
  rw[F0] at way
  obtain⟨t6,t,rfl,e6,et⟩:=ie Fs
  have nr:∀ b o,H2 b=some o->(∀ zs,o≠.lst zs)->b≠r:=fun b o e h z=>by
   rw[z,s2 _ _ er] at e
   cases e
   exact h _ rfl
  have e6r:=nr _ _ e6 (fun zs z=>by cases z)
  have etr:=nr _ _ et (fun zs z=>by cases z)
  have EM:g.length<=100:=by have:=YV Du (NA _);omega
  refine RU (ka _ _ e6r e6) rfl (Ny (Nt (Ny (Nt (Ny (Nt (Ny (Nt (OO ?_)))))))))
  ext
  refine Sn ⟨fun μ σ H'=>∃(la:List Nat) (b:Nat) (ve:Option V) (lns:List (List Nat)),σ=[some (.ref tp),some (.ref a),some (.int (wd:Int)),some (.ref r),some (.str (S la)),some (.int (k:Int)),some (.str (S w')),some (.str (S m)),some (.ref t),some (.int (b:Int)),ve]/\la.length<=wd+1/\b<=w'.length/\H' r=some (.lst (lns.map fun l=>V.str (S l)))/\(∀ l∈lns,l.length<=310)/\lns.length+μ<=300 * (i+1)/\μ=2 * (w'.length - b)+(if la=[] then 0 else 1)/\(∀ b o,b≠r->H2 b=some o->H' b=some o)/\(∀ ls1 r1,Gr wd ((k,w',m,g)::PS.drop (i+1)) b la ls1 r1->Gr wd PS 0 [] (lns++ls1) r1),⟨_,la,0,v10,lns,rfl,GQ,NA _,era,D0,?_,rfl,ka,way⟩,?_⟩
  ·split <;> omega
  clear way
  intro μ σ Hb hI9
  obtain⟨la,b,ve,lns,rfl,GQ,LC,erb,GB,GC,hμ,kb,way⟩:=hI9
  have EW:(cutA w' (some (b:Int)) none).length<=w'.length:=SX _ _ _
  have hsz:(lns.map fun l=>V.str (S l)).length < Ae:=by rw[M5];exact szn (by omega)
  ext
  refine iteB (fun cc=>?_) (fun cc=>?_)
  ·have cc:(wd:Int) < ((la++cutA w' (some (b:Int)) none++m).length:Int):=by simpa using cc
   refine⟨fun σ H'=>∃ m',m' < μ/\∃(la:List Nat) (b:Nat) (ve:Option V) (lns:List (List Nat)),σ=[some (.ref tp),some (.ref a),some (.int (wd:Int)),some (.ref r),some (.str (S la)),some (.int (k:Int)),some (.str (S w')),some (.str (S m)),some (.ref t),some (.int (b:Int)),ve]/\la.length<=wd+1/\b<=w'.length/\H' r=some (.lst (lns.map fun l=>V.str (S l)))/\(∀ l∈lns,l.length<=310)/\lns.length+m'<=300 * (i+1)/\m'=2 * (w'.length - b)+(if la=[] then 0 else 1)/\(∀ b o,b≠r->H2 b=some o->H' b=some o)/\(∀ ls1 r1,Gr wd ((k,w',m,g)::PS.drop (i+1)) b la ls1 r1->Gr wd PS 0 [] (lns++ls1) r1),fun _ _ h=>h,?_⟩
   have cc2:wd < (la++cutA w' (some (b:Int)) none++m).length:=by omega
   ext
   have et2:Hb t=some (.tup (g.map fun k:Nat=>V.int (k:Int))):=by
    rw[kb _ _ etr et,NK];rfl
   refine⟨t,g,b,_,rfl,et2,by omega,fun Hc e sc HH=>?_⟩
   have erc:=sc _ _ erb
   have kc:∀ b o,b≠r->H2 b=some o->Hc b=some o:=fun b o h1 h2=>sc _ _ (kb b o h1 h2)
   rcases HH with ⟨rfl,Eh⟩ | ⟨KH,EJ,IF⟩
   ·ext
    refine Pi (by simp) ?_
    ext
    by_cases Dh:la=[]
    ·subst Dh
     try refine Pi (by simp) ?_
     ext
     refine Uy (Ux ?_)
     ext
     refine Uz (g_ (by omega)) fun x d hx hd CA=>⟨x,ad 4,ad 0,some d,rfl,MT,Z.x_TooNarrow,qw k _ (way _ _ (.narrow (by rw[S9] at cc2;exact cc2) Eh)) x d _ MT ?_ fun b o eb=>?_⟩
     ·rw[MR CA,MR CA,MT]
     ·have EK:b≠r:=fun z=>by rw[z,Cd] at eb;cases eb
      rw[RB]
      exact((Nh hd _).trans (Nh (by rw[MR (M7 CA)];exact hx) _)) _ _ (kc _ _ EK (s2 _ _ (s1 _ _ eb)))
    ·refine RY (by rw[B0 fun z=>Dh (S_inj (by injection z))];rfl) ?_
     ext
     refine⟨_,?_,[],e,_,_,rfl,NA _,LC,So,UP GB (by have:=SX la none (some (-1));omega),?_,rfl,fun b o h1 h2=>?_,fun ls1 r1 z=>by rw[Ry];exact way _ _ (.back cc2 Eh Dh z)⟩
     ·rw[hμ,B3 rfl,B2 Dh];omega
     ·rw[No,OH,B3 rfl];rw[hμ,B2 Dh] at GC;omega
     ·rw[MR h1];exact kc b o h1 h2
   ·have Hl:=UO Du e KH
    have LD:b < e:=by
     unfold inR at EJ
     simp only[NS,decide_eq_true_eq] at EJ
     omega
    have JO:(cutA w' (some (b:Int)) (some (e:Int))).length<=w'.length:=SX _ _ _
    ext
    refine RY (by simp;omega) ?_
    ext
    refine⟨_,?_,[],e,_,_,rfl,NA _,by omega,So,UP GB (by rw[No,No,OH];omega),?_,rfl,fun b o h1 h2=>?_,fun ls1 r1 z=>by rw[Ry];exact way _ _ (.cut cc2 KH EJ IF z)⟩
    ·rw[hμ,B3 rfl];split <;> omega
    ·rw[No,OH,B3 rfl];rw[hμ] at GC;split at GC <;> omega
    ·rw[MR h1];exact kc b o h1 h2
  ·have cc:¬ (wd:Int) < ((la++cutA w' (some (b:Int)) none++m).length:Int):=by simpa using cc
   have cc3:(la++cutA w' (some (b:Int)) none++m).length<=wd:=by omega
   ext
   refine⟨_,_,_,_,_,_,_,lns,rfl,?_,erb,GB,by omega,kb,fun ls1 r1 z=>way _ _ (.fit cc3 z)⟩
   rw[No,OH]
   omega
 ·intro σ Ha hI9
  obtain⟨la,v5,v6,v7,v8,v9,v10,lns,rfl,GQ,era,D0,JM,ka,way⟩:=hI9
  rw[hxl',VA] at way
  have hsz:(lns.map fun l=>V.str (S l)).length < Ae:=by rw[M5];exact szn (by omega)
  have fin:∀ H',(∀ b o,b≠r->H2 b=some o->H' b=some o)->Same H H':=fun H' k b o eb=>by
   have EK:b≠r:=fun z=>by rw[z,Cd] at eb;cases eb
   exact k _ _ EK (s2 _ _ (s1 _ _ eb))
  ext
  by_cases Dh:la=[]
  ·subst Dh
   try refine Pi (by simp) ?_
   ext
   exact q r lns Ha (by have:=way _ _ .done0;rwa [O_] at this) era (by omega) D0 (fin Ha ka)
  ·refine RY (by rw[B0 fun z=>Dh (S_inj (by injection z))];rfl) ?_
   ext
   exact q r _ _ (way _ _ (.done Dh)) So (by rw[No,OH];omega) (UP D0 (by have:=SX la none (some (-1));omega)) (fin _ fun b o h1 h2=>by rw[MR h1];exact ka b o h1 h2)
noncomputable abbrev s_read_broken:As:=top 19
noncomputable abbrev s_check_word:As:=top 70
theorem ij (h:rrun l s=some t) (h1:rrun (l.take i) s=some rs) (hi:i < l.length):∃ rs',RZ rs l[i]=some rs'/\rrun (l.take (i+1)) s=some rs':=by
 have e:l=l.take i++(l[i]::l.drop (i+1)):=by rw[<- Rw hi,jK]
 have h2:=h
 rw[e,aw,h1,OJ] at h2
 simp only[rrun] at h2
 cases e2:RZ rs l[i] with
 | none=>rw[e2] at h2;cases h2
 | some rs' =>
  refine⟨rs',rfl,?_⟩
  rw[OC,Na hi,aw,h1,OJ]
  simp only[Option.toList,rrun,e2,OJ]
theorem ik (H:Hp)(g:List Nat):L2.IsL H (g.map fun k:Nat=>V.int (k:Int)) (g.map fun k:Nat=>Dt.int (k:Int)):=by
 have:=L2.IsL.ints H (g.map fun k:Nat=>(k:Int))
 rw[NK,NK] at this
 exact this
theorem YX:∀{l:List Nat}{s t:RS},rrun l s=some t->t.w.length<=s.w.length+l.length/\t.g.length<=s.g.length+l.length
 | [],s,t,h=>by cases h;exact⟨M6 _,M6 _⟩
 | c::r,s,t,h=>by
  simp only[rrun] at h
  cases e:RZ s c with
  | none=>rw[e] at h;cases h
  | some s1 =>
   rw[e] at h
   have ih:=YX h
   unfold RZ at e
   split at e
   ·cases e;simp at ih ⊢;omega
   ·split at e
    ·cases e;simp at ih ⊢;omega
    ·cases e
def YY:Sp:=fun vs H Q _=>∃ l w g:List Nat,vs=[.str (S l)]/\l.length<=1000/\rrun l ⟨[],[],true⟩=some ⟨w,g,false⟩/\∀ v H',Is H' v (brD w g)->Same H H'->Q v H'
theorem il (T:Txt mg tk)(F:Fun K "read_broken" "read_broken" s_read_broken f fd)(B_:Dn P w K mg base "is_letter" 1 ["sign"] YJ):FnOk P w K mg base CX0 2 f fd ["text"] YY:=by
 refine F.okk ["text","word","gaps","letter_lacks","place","sign"] ?_
 rintro _ _ _ _ H _ _ _ hr ⟨l,w',g,rfl,hl,EO,q⟩ nd
 refine⟨_,(MS (pst 1 nd (M4 Of))
  (MS (pst 2 nd (NN O7))
  (MS (pst 3 nd Pb)
  (MS (Ou Oo rfl (TU rfl T.z_enumerate (pv 0)) (O6 rfl (Nx (pnm 4 nd) (Nx (pnm 5 nd) OL)))
   (MU (Nc (Oe (M3 B_ hr.MX rfl (pa1 (pv 5))) (fun _=>rfl))
   (MS (pst 1 nd (MY M_ (pv 1) (pv 5)))
  (MU (pst 3 nd Pb)))
   (MU (Nc (PW.pt (QC (Nb (o_eq hr.units) (pv 5) (M4 SQ) (M9 _)) (Qz (RF (Oe (pv 3) (fun _=>rfl))))))
   (MS (N9 (NF (K:=K) OI OZ O0 O9 (pv 2) (pa1 (pcb (Nu (K:=K)) T.z_len (pa1 (pv 1))))))
  (MU (pst 3 nd Pb)))
   (MU Rj))))))
  (MS (Nc (Oe (pv 3) (fun _=>rfl))
   (MU Rj)
   Ni)
  (MU (M8 (NY (MQ (pv 1) (pa1 (pct QR T.z_tuple (pa1 (pv 2))))))))))))),?_⟩
 walk_at "s0"
 ext
 intro a ha
 ext
 refine PX (fun i σ H2=>∃(rs:RS) (v1 v2:Option V),rrun (l.take i) ⟨[],[],true⟩=some rs/\σ=[some (.str (S l)),some (.str (S rs.w)),some (.ref a),some (.bl rs.lacks),v1,v2]/\H2 a=some (.lst (rs.g.map fun k:Nat=>V.int (k:Int)))/\Same H H2)
  ⟨⟨[],[],true⟩,none,none,by simp[rrun],rfl,MT,Nh ha _⟩ (fun _ _ _ _ _=>trivial) ?_ ?_
 ·rintro i v σ H2 T2 hv ⟨rs,v1,v2,h1,rfl,h2,s2⟩ hT
  rw[QZ] at hv
  have hi:i < l.length:=by
   have:=(NJ.mp hv).1
   simpa using this
  rw[Nz,Na hi] at hv
  cases hv
  obtain⟨rs',DS,D6⟩:=ij EO h1 hi
  have DX:=YX h1
  have C9:(S rs.w).length<=1000:=by rw[Nn];simp at DX;omega
  have aT:a≠T2:=MZ h2 hT
  have h2':(upd H2 T2 (PrX T2 [.int (((0:Nat):Int)+(i:Int)),.str (S [l[i]])])) a=some (.lst (rs.g.map fun k:Nat=>V.int (k:Int))):=by rw[MR aT];exact h2
  have s2':Same H (upd H2 T2 (PrX T2 [.int (((0:Nat):Int)+(i:Int)),.str (S [l[i]])])):=s2.trans (Nh hT _)
  refine SN MT rfl (Ny (Nt (Ny (Nt (OO ?_)))))
  ext
  refine⟨l[i],rfl,?_⟩
  ext
  unfold RZ at DS
  refine iteB (fun c=>?_) (fun c=>?_)
  ·rw[B3 c] at DS
   cases DS
   ext
   have hsz:(S rs.w).length+(S [l[i]]).length<=Ae:=szn (by rw[Nn] at C9 ⊢;rw[Nn];simp;omega)
   refine T5 hsz ?_
   ext
   rw[R0]
   exact⟨_,_,_,D6,rfl,h2',s2'⟩
  ·rw[B2 (by rw[c];exact Nj)] at DS
   split at DS
   ·rename_i hc
    cases DS
    ext
    refine Pg (by rw[hc.1]) ?_
    ext
    rw[hc.2]
    ext
    refine QV h2' (szn (by simp at DX ⊢;omega)) ?_
    ext
    refine⟨_,_,_,D6,rfl,?_,fun b o e=>?_⟩
    ·rw[MT,Nn,Np];rfl
    ·have hb:b≠a:=fun z=>by rw[z,ha] at e;cases e
     rw[MR hb];exact s2' b o e
   ·cases DS
 ·intro σ H2 hI9
  obtain⟨rs,v1,v2,h1,rfl,h2,s2⟩:=hI9
  rw[RP,Nn,OB,EO] at h1
  cases h1
  ext
  refine WT (OF h2) fun t H3 ht k3=>?_
  ext
  intro r Cd
  ext
  refine q (.ref r) _ ?_ (fun b o e=>(Nh Cd _) b o (k3 b o (s2 b o e)))
  simp only[Is,brD,L2.IsL]
  have tr:t≠r:=MZ ht Cd
  exact⟨r,_,rfl,MT,rfl,⟨t,_,rfl,by rw[MR tr];exact ht,ik _ _⟩,trivial⟩
noncomputable abbrev s_can_stand:As:=top 44
noncomputable abbrev s_read_pattern:As:=top 45
noncomputable abbrev s_shown_number:As:=top 46
noncomputable abbrev s_shown_pattern:As:=top 47
theorem im (l:List Nat):bE (S l) (S [46])=decide (l.getLast?=some 46):=by
 unfold bE
 rw[R3,Nn,Nn]
 cases h:l.getLast? with
 | none =>
  have:l=[]:=by simpa using h
  subst this
  rfl
 | some c =>
  obtain⟨r,rfl⟩:=aN.mp h
  simp;rfl
theorem UQ (h:xs.getLast?=some v):atI xs (-1)=some v:=by
 obtain⟨r,rfl⟩:=aN.mp h
 unfold atI ixN
 rw[B2 (by decide)]
 have e:((-1:Int)+((r++[v]).length:Nat)).toNat=r.length:=by simp;omega
 rw[B3 (by simp;omega),e]
 simp
theorem YZ:M' "123456789"=S [49,50,51,52,53,54,55,56,57]:=by decide +kernel
theorem UR (c:Nat):Te (S [49,50,51,52,53,54,55,56,57]) (S [c])=Rp c:=by
 rw[ek]
 unfold Rp
 rw[decide_eq_decide]
 exact(aY (s:=49) (n:=9)).trans ⟨fun h=>⟨h.1,Nat.le_of_lt_succ h.2⟩,fun h=>⟨h.1,Nat.lt_succ_of_le h.2⟩⟩
theorem S_inj :V.str (S a)=V.str (S b)↔a=b:=⟨fun h=>by injection h with h;injection h with h;simpa using congrArg VQ h,fun h=>by rw[h]⟩
def spCan:Sp:=fun vs H Q _=>∃(c:Nat) (sg:List Nat) (n:Int),vs=[.str (S [c]),.str (S sg),.int n]/\sg.length<=1000/\Q (.bl (canS c sg n)) H
def Y0:Sp:=fun vs H Q _=>∃ n:Int,vs=[.int n]/\n<=9/\Q (.str (S (fig n))) H
def Y1:Sp:=fun vs H Q _=>∃(v:V) (x:Pat),vs=[v]/\Is H v (patD x)/\VP x.1 x.2/\∀ H',Same H H'->Q (.str (S (ptxt x.1 x.2))) H'
noncomputable def itm (s:List Nat)(ns:List Int):Nat->List (List Nat)
 | 0=>[]
 | i+1=>itm s ns i++[fig (ns.getD i 0)++[s.getD i 0]]
theorem US (s:List Nat)(ns:List Int):∀ i,(itm s ns i).length=i
 | 0=>rfl
 | i+1=>by simp only[itm,No,US s ns i];rfl
theorem Y2 (s:List Nat)(ns:List Int):∀ i,(itm s ns i).flatten=pre s ns i
 | 0=>rfl
 | i+1=>by simp only[itm,pre,List.flatten_append,Y2 s ns i];simp
theorem Y3 (s:List Nat)(ns:List Int):∀ i,∀ l∈itm s ns i,l.length<=2
 | 0,l,h=>nomatch h
 | i+1,l,h=>by
  simp only[itm] at h
  rcases NP.mp h with h | h
  ·exact Y3 s ns i l h
  ·have:l=fig (ns.getD i 0)++[s.getD i 0]:=by simpa using h
   rw[this,No]
   have:(fig (ns.getD i 0)).length<=1:=by unfold fig;split <;> simp
   simp only[ND,Ot];omega
theorem io (h1:s≠[]) (h2:s≠[46]):inV (V.str (S s)) [V.str (S []),V.str (S [46])]=false:=by
 have e1:¬ (S []=S s):=fun z=>h1 (S_inj.mp (by rw[z])).symm
 have e2:¬ (S [46]=S s):=fun z=>h2 (S_inj.mp (by rw[z])).symm
 unfold inV
 simp only[Pp,ZX,eqV,Ve]
 simp[e1,e2]
theorem i_zpS (h1:H a=some (.tup ys)) (h:R (Izp (chs z) ys fun H=>H a=some (.tup ys)) H):zpIt R (.str z) (.ref a) H:=⟨ys,h1,h⟩
theorem i_zip (h:ta σ H fun x H1=>tb σ H1 fun y H2=>zpIt R x y H2):iZip ta tb σ H R:=h
def Y4:Sp:=fun vs H Q _=>∃ x:Pat,vs=[.str (S (ptxt x.1 x.2))]/\VP x.1 x.2/\∀ v H',Is H' v (patD x)->Same H H'->Q v H'
theorem ip (T:Txt mg tk)(F:Fun K "shown_number" "shown_number" s_shown_number f fd):FnOk P w K mg base CX0 1 f fd ["number"] Y0:=by
 refine F.okk ["number"] ?_
 rintro _ _ _ _ H _ _ _ hr ⟨n,rfl,hn,q⟩ nd
 refine⟨_,(MU (M8 (VX (Nb o_gt (pv 0) MP (M9 _)) (pct PQ T.z_str (pa1 (pv 0))) (M4 Of)))),?_⟩
 walk_at "s0"
 ext
 refine iteD (fun c=>?_) (fun c=>?_)
 ·obtain⟨d,hd,rfl⟩:∃ d:Nat,d < 10/\n=(d:Int):=⟨n.toNat,by omega,by omega⟩
  have e:fig (d:Int)=[48+d]:=by unfold fig;rw[B3 c,RA]
  rw[e] at q
  ext
  refine⟨?_,?_⟩
  ·have:∀ d:Nat,d < 10->(d:Int).natAbs.log2 < 1920:=by decide
   exact this d hd
  ·rw[XI d hd]
   exact q
 ·have e:fig n=[]:=by unfold fig;rw[B2 (by omega)]
  rw[e] at q
  ext
  exact q
theorem iq (T:Txt mg tk)(F:Fun K "can_stand" "can_stand" s_can_stand f fd)(B_:Dn P w K mg base "is_letter" 1 ["sign"] YJ):FnOk P w K mg base CX0 2 f fd ["sign","signs","number"] spCan:=by
 refine F.okk ["sign","signs","number"] ?_
 rintro _ _ _ _ H _ Q _ hr ⟨c,sg,n,rfl,hs,q⟩ nd
 refine⟨_,(MS (Nc (PW.pt (QC (Nb o_gt (pcb (Nu (K:=K)) T.z_len (pa1 (pv 1))) MP (M9 _)) (Qz (Oe (NF (K:=K) OD PySem.F.slot_str_endswith PySem.F.type_str_endswith dB (pv 1) (pa1 (M4 P3))) (fun _=>rfl)))))
   (MU (M8 Pb))
   Ni)
  (MS (Nc (Nb o_in (pv 0) (RE (v:=.str "123456789") rfl T.m_FIGURES ⟨_,rfl⟩) (by with_unfolding_all rfl))
   (MU (M8 (Oa (o_eq hr.units) (pv 2) MP (M9 _))))
   Ni)
  (MS (Nc (Nb (o_eq hr.units) (pcb (Nu (K:=K)) T.z_len (pa1 (pv 1))) (RE (v:=.int 22) rfl T.m_MOST_SIGNS ⟨_,rfl⟩) (M9 _))
   (MU (M8 Pb))
   Ni)
  (MS (Nc (Nb (o_eq hr.units) (pv 0) (M4 P3) (M9 _))
   (MU (M8 (Qm (Oa (o_ne hr.units) (pv 1) (M4 P3) (M9 _)) (PD (pe_or (Oa (o_ne hr.units) (pv 1) (M4 Of) (M9 _)) (PD (Oa (o_eq hr.units) (pv 2) MP (M9 _))))))))
   Ni)
  (MU (M8 (M3 B_ hr.MX rfl (pa1 (pv 0))))))))),?_⟩
 walk_at "s0"
 rw[YZ]
 unfold canS at q
 have tail:¬ (1 < sg.length/\sg.getLast?=some 46)->Q (.bl (if Rp c=true then decide (n=0) else if sg.length=22 then false else if c=46 then decide (sg≠[46])&&(decide (sg≠[]) || decide (n=0)) else NL c)) H:=fun z=>by rwa [B2 z] at q
 ext
 refine iteD (fun c1=>?_) (fun c1=>?_)
 ·ext
  rw[im]
  refine iteD (fun c2=>?_) (fun c2=>?_)
  ·ext
   rw[B3 ⟨by omega,c2⟩] at q
   exact q
  ·have q2:=tail (fun z=>c2 z.2)
   ext
   rw[UR,Z0]
   refine iteB (fun d1=>?_) (fun d1=>?_)
   ·ext
    rw[B3 d1] at q2
    have e:decide (V.int n=V.int 0)=decide (n=0):=by
     by_cases z:n=0
     ·rw[z];rfl
     ·rw[B0 z];exact B0 fun y=>z (by injection y)
    rw[e]
    exact q2
   ·rw[B2 (by rw[d1];exact Nj)] at q2
    ext
    refine iteD (fun d2=>?_) (fun d2=>?_)
    ·have d2':sg.length=22:=by injection d2 with d2;omega
     rw[B3 d2'] at q2
     ext
     exact q2
    ·have d2':¬ sg.length=22:=fun z=>d2 (by rw[z];rfl)
     rw[B2 d2'] at q2
     ext
     refine iteD (fun d3=>?_) (fun d3=>?_)
     ·have d3':c=46:=by have:=S_inj.mp d3;simpa using this
      rw[B3 d3'] at q2
      ext
      refine iteB (fun d4=>?_) (fun d4=>?_)
      ·have d4':sg≠[46]:=fun z=>by rw[z] at d4;simp at d4
       rw[B1 d4',Rb] at q2
       ext
       refine iteB (fun d5=>?_) (fun d5=>?_)
       ·have d5':sg≠[]:=fun z=>by rw[z] at d5;simp at d5
        rw[B1 d5',S'] at q2
        ext
        try rw[d5]
        exact q2
       ·have d5':sg=[]:=by
         have:decide (V.str (S sg)=V.str (S []))=true:=by simpa using d5
         exact S_inj.mp (of_decide_eq_true this)
        rw[B0 (fun z:sg≠[]=>z d5'),VG] at q2
        ext
        have e:decide (V.int n=V.int 0)=decide (n=0):=by
         by_cases z:n=0
         ·rw[z];rfl
         ·rw[B0 z];exact B0 fun y=>z (by injection y)
        rw[e]
        exact q2
      ·have d4':sg=[46]:=by
        have:decide (V.str (S sg)=V.str (S [46]))=true:=by simpa using d4
        exact S_inj.mp (of_decide_eq_true this)
       rw[B0 (fun z:sg≠[46]=>z d4'),Ra] at q2
       ext
       try rw[d4]
       exact q2
     ·have d3':¬ c=46:=fun z=>d3 (by rw[z])
      rw[B2 d3'] at q2
      ext
      exact⟨c,rfl,q2⟩
 ·have q2:=tail (fun z=>c1 (by omega))
  ext
  rw[UR,Z0]
  refine iteB (fun d1=>?_) (fun d1=>?_)
  ·ext
   rw[B3 d1] at q2
   have e:decide (V.int n=V.int 0)=decide (n=0):=by
    by_cases z:n=0
    ·rw[z];rfl
    ·rw[B0 z];exact B0 fun y=>z (by injection y)
   rw[e]
   exact q2
  ·rw[B2 (by rw[d1];exact Nj)] at q2
   ext
   refine iteD (fun d2=>?_) (fun d2=>?_)
   ·have d2':sg.length=22:=by injection d2 with d2;omega
    rw[B3 d2'] at q2
    ext
    exact q2
   ·have d2':¬ sg.length=22:=fun z=>d2 (by rw[z];rfl)
    rw[B2 d2'] at q2
    ext
    refine iteD (fun d3=>?_) (fun d3=>?_)
    ·have d3':c=46:=by have:=S_inj.mp d3;simpa using this
     rw[B3 d3'] at q2
     ext
     refine iteB (fun d4=>?_) (fun d4=>?_)
     ·have d4':sg≠[46]:=fun z=>by rw[z] at d4;simp at d4
      rw[B1 d4',Rb] at q2
      ext
      refine iteB (fun d5=>?_) (fun d5=>?_)
      ·have d5':sg≠[]:=fun z=>by rw[z] at d5;simp at d5
       rw[B1 d5',S'] at q2
       ext
       try rw[d5]
       exact q2
      ·have d5':sg=[]:=by
        have:decide (V.str (S sg)=V.str (S []))=true:=by simpa using d5
        exact S_inj.mp (of_decide_eq_true this)
       rw[B0 (fun z:sg≠[]=>z d5'),VG] at q2
       ext
       have e:decide (V.int n=V.int 0)=decide (n=0):=by
        by_cases z:n=0
        ·rw[z];rfl
        ·rw[B0 z];exact B0 fun y=>z (by injection y)
       rw[e]
       exact q2
     ·have d4':sg=[46]:=by
       have:decide (V.str (S sg)=V.str (S [46]))=true:=by simpa using d4
       exact S_inj.mp (of_decide_eq_true this)
      rw[B0 (fun z:sg≠[46]=>z d4'),Ra] at q2
      ext
      try rw[d4]
      exact q2
    ·have d3':¬ c=46:=fun z=>d3 (by rw[z])
     rw[B2 d3'] at q2
     ext
     exact⟨c,rfl,q2⟩
theorem ir (T:Txt mg tk)(F:Fun K "shown_pattern" "shown_pattern" s_shown_pattern f fd)(Cp:Dn P w K mg base "shown_number" 1 ["number"] Y0):FnOk P w K mg base CX0 2 f fd ["pattern"] Y1:=by
 refine F.okk ["pattern","signs","numbers","shown"] ?_
 rintro _ _ _ _ H _ _ _ hr ⟨v,x,rfl,hv,hx,q⟩ nd
 obtain⟨a,t,rfl,ha,ht⟩:=Pk hv
 have DO:=hx.len
 have Fu:=hx.nlen
 refine⟨_,(MS (pst 1 nd (pix K (pv 0) MP))
  (MS (pst 2 nd (pix K (pv 0) MP))
  (MS (QL (i:=3) ["sign","number"] [none,none] rfl (by kernel_rfl) rfl nd rfl rfl (pi_zip rfl T.z_zip (pv 1) (pv 2)) (fun _ _ _ _=>(Yv (K:=K) (n:=2) rfl rfl (Nx (N_ (i:=0) (show (["sign","number"]:List Str).Nodup by decide +kernel) rfl (Or.inl rfl) (Or.inr rfl)) (Nx (N_ (i:=1) (show (["sign","number"]:List Str).Nodup by decide +kernel) rfl (Or.inl rfl) (Or.inr rfl)) OL)))) (fun _ _ _ _=>QK) (fun _ _ _ _=>(MY M_ (M3 Cp hr.MX rfl (pa1 (pv 1))) (pv 0))))
  (MU (M8 (MY M_ (NF (K:=K) OD Rc Re SM (M4 Of) (pa1 (pv 3))) (M3 Cp hr.MX rfl (pa1 (pix K (pv 2) (Ov RO MP)))))))))),?_⟩
 walk_at "s0"
 ext
 refine i_zip ?_
 ext
 refine i_zpS ht ?_
 intro r Cd
 refine fJ x.1.length (by rw[RP,Nn,M5];omega) (fun i B6 σ H'=>∃ v1 v2,σ=[v1,v2]/\B6=(itm x.1 x.2 i).map (fun l=>V.str (S l))/\Same H H'/\H' r=some (.lst B6))
  (fun i B6 σ H' _ hI9=>by rcases hI9 with ⟨_,_,_,_,s1,_⟩;exact s1 _ _ ht) ⟨none,none,rfl,rfl,Nh Cd _,MT⟩ (fun i B6 σ H' hI9=>by rcases hI9 with ⟨_,_,_,e,_,e2⟩;exact⟨e2,by rw[e,M5,US];exact M6 _⟩) (szn (by omega)) ?_ ?_
 ·rintro i u v B6 σ H1 T2 hu hv' ⟨v1,v2,rfl,rfl,s1,e1⟩ hT
  rw[QZ] at hu
  have hi:i < x.1.length:=by
   have:=(NJ.mp hu).1
   simpa using this
  rw[Nz,Na hi] at hu
  cases hu
  rw[Nz,Na (show i < x.2.length by omega)] at hv'
  cases hv'
  have h9:=(hx.num i (by omega)).2
  have eg:x.2.getD i 0=x.2[i]:=by rw[Nl,Na (show i < x.2.length by omega)];rfl
  have es:x.1.getD i 0=x.1[i]:=by rw[Nl,Na hi];rfl
  rw[eg] at h9
  have rT:r≠T2:=MZ e1 hT
  have s2:=Nh hT (PrX T2 [.str (S [x.1[i]]),.int x.2[i]])
  have e2:=s2 _ _ e1
  have GK:(fig x.2[i]).length<=1:=by unfold fig;split <;> simp
  refine SN MT rfl (Ny (Nt (Ny (Nt (OO ?_)))))
  ext
  refine⟨_,rfl,h9,?_⟩
  ext
  refine⟨e2,_,_,rfl,?_,fun b o e=>?_,MT⟩
  ·simp only[itm]
   rw[Np,eg,es];rfl
  ·have EK:b≠r:=fun z=>by rw[z,Cd] at e;cases e
   rw[MR EK];exact s2 _ _ (s1 b o e)
 ·intro B6 σ H1 hI9
  obtain⟨v1,v2,rfl,rfl,s1,e1⟩:=hI9
  have FW:=s1 _ _ ht
  have HI:atI (x.2.map V.int) (-1)=some (V.int (x.2.getD x.1.length 0)):=UQ (by
   rw[List.getLast?_map,ZM,show x.2.length - 1=x.1.length by omega,Na (show x.1.length < x.2.length by omega),Nl,Na (show x.1.length < x.2.length by omega)];rfl)
  have h9:=(hx.num x.1.length (by omega)).2
  have Cj:=Vr x.1 x.2
  have Gy:((itm x.1 x.2 x.1.length).map fun l=>V.str (S l))=((itm x.1 x.2 x.1.length).map S).map V.str:=by rw[NK];rfl
  rw[Gy] at e1
  have E6:=Vq x.1 x.2 x.1.length
  have GK:(fig (x.2.getD x.1.length 0)).length<=1:=by unfold fig;split <;> simp
  ext
  refine SO (Pt e1) ?_ ?_
  ·have h1:(((itm x.1 x.2 x.1.length).map S).map (·.length)).sum<=(itm x.1 x.2 x.1.length).length * 2:=by
    have gen:∀ ls:List (List Nat),(∀ l∈ls,l.length<=2)->((ls.map S).map (·.length)).sum<=ls.length * 2:=by
     intro ls
     induction ls with
     | nil=>intro _;exact M6 _
     | cons l ls ih =>
      intro h
      have a1:=ih fun z hz=>h z (NH _ hz)
      have a2:=h l N1
      simp only[Nq,ZW,Nn,ND]
      omega
    exact gen _ (Y3 x.1 x.2 _)
   rw[US] at h1
   have h0:(S []).length=0:=by rw[Nn];rfl
   rw[h0]
   omega
  have hj:Rg (S []) ((itm x.1 x.2 x.1.length).map S)=S (pre x.1 x.2 x.1.length):=by rw[R6,aq,Y2]
  rw[hj]
  ext
  refine⟨_,rfl,h9,?_⟩
  ext
  exact q H1 s1
theorem iu (T:Txt mg tk)(F:Fun K "read_pattern" "read_pattern" s_read_pattern f fd)(C_:Dn P w K mg base "can_stand" 2 ["sign","signs","number"] spCan):FnOk P w K mg base CX0 3 f fd ["text"] Y4:=by
 refine F.okk ["text","signs","numbers","place","sign"] ?_
 rintro _ _ _ _ H _ _ _ hr ⟨x,rfl,hx,q⟩ nd
 have DO:=hx.len
 have Fu:=hx.nlen
 have Cj:=Vr x.1 x.2
 obtain⟨m,EO,hm⟩:=hx.read
 generalize hl:ptxt x.1 x.2=l at EO Cj
 refine⟨_,(MS (pst 1 nd (M4 Of))
  (MS (pst 2 nd (NN (pa1 MP)))
  (MS (Ou Oo rfl (TU rfl T.z_enumerate (pv 0)) (O6 rfl (Nx (pnm 3 nd) (Nx (pnm 4 nd) OL)))
   (MS (Nc (RF (Oe (M3 C_ hr.MX rfl (MQ (pv 4) (MQ (pv 1) (pa1 (pix K (pv 2) (Ov RO MP)))))) (fun _=>rfl)))
   (MU Rj)
   Ni)
  (MU (Nc (Nb o_in (pv 4) (RE (v:=.str "123456789") rfl T.m_FIGURES ⟨_,rfl⟩) (by with_unfolding_all rfl))
   (MU (Rk (pct Sb T.z_int (pa1 (pv 4))) (QD (pv 2) (Ov RO MP) QT)))
   (MS (pst 1 nd (MY M_ (pv 1) (pv 4)))
  (MU (N9 (NF (K:=K) OI OZ O0 O9 (pv 2) (pa1 MP)))))))))
  (MS (Nc (Nb o_in (pv 1) (NY (MQ (M4 Of) (pa1 (M4 P3)))) (by with_unfolding_all rfl))
   (MU Rj)
   Ni)
  (MU (M8 (NY (MQ (pv 1) (pa1 (pct QR T.z_tuple (pa1 (pv 2)))))))))))),?_⟩
 walk_at "s0"
 rw[YZ]
 ext
 intro a ha
 ext
 refine PX (fun i σ H2=>∃(u:PS3) (v1 v2:Option V),L2.prun (l.take i) ⟨[],[],0⟩=some u/\σ=[some (.str (S l)),some (.str (S u.sg)),some (.ref a),v1,v2]/\H2 a=some (.lst ((u.ns++[u.n]).map V.int))/\Same H H2)
  ⟨⟨[],[],0⟩,none,none,by simp[L2.prun],rfl,MT,Nh ha _⟩ (fun _ _ _ _ _=>trivial) ?_ ?_
 ·rintro i v σ H2 T2 hv ⟨u,v1,v2,h1,rfl,h2,s2⟩ hT
  rw[QZ] at hv
  have hi:i < l.length:=by
   have:=(NJ.mp hv).1
   simpa using this
  rw[Nz,Na hi] at hv
  cases hv
  obtain⟨u',DS,D6⟩:=fu EO h1 hi
  have DX:=XE h1
  have HJ:(l.take i).length<=l.length:=by rw[NX];omega
  simp only[Ot,Nat.zero_add] at DX
  have aT:a≠T2:=MZ h2 hT
  have s3:=Nh hT (PrX T2 [.int (((0:Nat):Int)+(i:Int)),.str (S [l[i]])])
  have h3:=s3 _ _ h2
  have s23:=s2.trans s3
  generalize FF:upd H2 T2 (PrX T2 [.int (((0:Nat):Int)+(i:Int)),.str (S [l[i]])])=H3 at s3 h3 s23 ⊢
  refine SN (by rw[<- FF];exact MT) rfl (Ny (Nt (Ny (Nt (OO ?_)))))
  have HI:atI ((u.ns++[u.n]).map V.int) (-1)=some (V.int u.n):=UQ (by rw[Np];simp)
  ext
  refine⟨l[i],u.sg,u.n,rfl,by omega,?_⟩
  unfold L2.OT at DS
  split at DS
  ·rename_i hc
   rw[hc]
   ext
   rw[UR,Z0]
   split at DS
   ·rename_i hf
    cases DS
    rw[hf]
    ext
    have hf':=of_decide_eq_true hf
    obtain⟨d,hd,ed⟩:∃ d:Nat,d < 10/\l[i]=48+d:=⟨l[i] - 48,by omega,by omega⟩
    refine⟨(d:Int),by rw[ed];exact fK d hd,by rw[Nn];show 1<=640;decide,?_⟩
    have GM:ixN ((u.ns++[u.n]).map V.int).length (-1)=some u.ns.length:=by
     unfold ixN
     rw[B2 (by decide),B3 (by simp;omega)]
     congr 1
     simp;omega
    ext
    refine RW h3 GM ?_
    have eset:((u.ns++[u.n]).map V.int).set u.ns.length (V.int (d:Int))=(u.ns++[(d:Int)]).map V.int:=by
     rw[Np,Np,List.set_append_right _ _ (by simp)];simp
    rw[eset]
    ext
    refine⟨⟨u.sg,u.ns,(l[i]:Int) - 48⟩,_,_,D6,rfl,?_,fun b o e=>?_⟩
    ·rw[MT,ed,show (((48+d:Nat):Int) - 48)=(d:Int) by omega]
    ·have hb:b≠a:=fun z=>by rw[z,ha] at e;cases e
     rw[MR hb];exact s23 b o e
   ·rename_i hf
    cases DS
    have hf':Rp l[i]=false:=by simpa using hf
    rw[hf']
    have FS:((u.ns++[u.n]).map V.int).length < Ae:=szn (by simp;omega)
    ext
    refine⟨⟨u.sg++[l[i]],u.ns++[u.n],0⟩,_,_,D6,rfl,?_,fun b o e=>?_⟩
    ·rw[MT,Np (l₂:=[0])];rfl
    ·have hb:b≠a:=fun z=>by rw[z,ha] at e;cases e
     rw[MR hb];exact s23 b o e
  ·cases DS
 ·intro σ H2 hI9
  obtain⟨u,v1,v2,h1,rfl,h2,s2⟩:=hI9
  rw[RP,Nn,OB,EO] at h1
  cases h1
  ext
  intro tp Jz
  have s3:=Nh Jz (.tup [.str (S []),.str (S [46])])
  refine T7 (Tz MT) ⟨rfl,rfl⟩ ?_
  obtain⟨j,hj,lj⟩:=hx.some_
  have no1:x.1≠[]:=fun z=>by rw[z] at hj;simp at hj
  have no2:x.1≠[46]:=fun z=>by
   rw[z] at hj lj
   have:j=0:=by simp at hj;omega
   subst this
   rw[show ([46]:List Nat).getD 0 0=46 from rfl,Q4] at lj;cases lj
  have EJ:inV (V.str (S x.1)) [V.str (S []),V.str (S [46])]=false:=io no1 no2
  dsimp only
  rw[EJ]
  have h3:=s3 _ _ h2
  ext
  refine WT (OF h3) fun t H3 ht k3=>?_
  ext
  intro r Cd
  ext
  have s4:=Nh Cd (.tup [.str (S x.1),.ref t])
  refine q (.ref r) _ (R8 (x:=x) MT ?_) ((s2.trans s3).trans (fun b o e=>s4 b o (k3 b o e)))
  rw[<- hm] at ht
  exact s4 _ _ ht
noncomputable abbrev s_with_told:As:=top 25
noncomputable abbrev s_shown_word:As:=top 71
noncomputable abbrev s_with_pattern_more:As:=top 73
noncomputable abbrev s_parted:As:=top 72
theorem szlt (h:n < 1000000):n < Ae:=N6 h (by decide)
theorem Sq (hr:H r=none) (s:Same H H'):Same H (upd H' r o):=fun b o' e=>by
 rw[MR (MZ e hr)];exact s b o' e
theorem Y5 (told:List Pat)(z:List Nat)(ns:List Int):(putG told z ns).length<=told.length+1:=by
 unfold putG
 split
 ·rw[M5];omega
 ·rw[No];simp
theorem Y6 (h:y∈putG told z ns):y∈told∨y=(z,ns):=by
 unfold putG at h
 split at h
 ·obtain⟨x,hx,rfl⟩:=On.mp h
  by_cases e:x.1=z
  ·rw[B3 e];exact .inr (by rw[e])
  ·rw[B2 e];exact .inl hx
 ·rcases NP.mp h with h | h
  ·exact .inl h
  ·exact .inr (N3.mp h)
theorem UT (h:(told.map (·.1)).Nodup):((putG told z ns).map (·.1)).Nodup:=by
 unfold putG
 split
 ·have e:(told.map fun y=>if y.1=z then (y.1,ns) else y).map (·.1)=told.map (·.1):=by
   rw[NK]
   apply Vx
   intro y _
   show (if y.1=z then (y.1,ns) else y).1=y.1
   split <;> rfl
  rw[e];exact h
 ·rename_i hn
  rw[Np]
  refine List.nodup_append.mpr ⟨h,by simp,fun a ha b hb e=>?_⟩
  obtain⟨y,hy,rfl⟩:=On.mp ha
  have hb:b=z:=by simpa using hb
  exact hn (a6.mpr ⟨y,hy,B1 (e.trans hb)⟩)
theorem UU {H:Hp}:∀{kvs:List (Key×V)}{told:List Pat},NT H kvs told->kvs.length=told.length
 | [],[],_=>rfl
 | [],_::_,h=>h.elim
 | _::_,[],h=>h.elim
 | _::_,_::_,h=>by rw[ND,ND,UU h.2.2]
def spWT (C:Ab):Sp:=fun vs H Q _=>∃(bp bkd bld:Ab) (v:V) (pats told:List Pat) (hd tl:Int) (x:Pat),vs=[.ref bp,v]/\BrkAt C H bp bkd bld pats told hd tl/\Is H v (patD x)/\pats.length<=1000/\told.length<=999/\(told.map (·.1)).Nodup /\
 ∀(p kd ld:Ab) (H':Hp),H p=none->H kd=none->H ld=none->BrkAt C H' p kd ld pats (putG told x.1 x.2) hd tl->Same H H'->Q (.ref p) H'
def Y7:Sp:=fun vs H Q _=>∃ l:List Nat,vs=[.str (S l)]/\l.length<=1000/\l≠[]/\(∀ c∈l,NL c=true)/\∀ H',Same H H'->Q .non H'
def Y8 (C:Ab):Sp:=fun vs H Q _=>∃(p kd ld:Ab) (b:Bp) (l:List Nat),vs=[.ref p,.str (S l)]/\BrkAt C H p kd ld b.pats b.told b.hd b.tl/\OkB b.pats b.told/\l.length<=100/\l≠[]/\(∀ c∈l,NL c=true)/\∀ H',Same H H'->Q (.str (S (txt l (OW b l) l.length))) H'
noncomputable def Pw (c:Nat)(ls:List (List Nat)):List Nat:=if ls=[] then [110,111,110,101] else Nk c ls
def Y9:Sp:=fun vs H Q _=>∃(a:Ab) (ls:List (List Nat)) (c:Nat),vs=[.ref a,.str (S [c])]/\H a=some (.lst (ls.map fun l=>V.str (S l)))/\ls.length<=30001/\(∀ l∈ls,l.length<=310)/\Q (.str (S (Pw c ls))) H
def spWPM (C:Ab):Sp:=fun vs H Q _=>∃(bp bkd bld:Ab) (b:Bp) (x:Pat),vs=[.ref bp,.str (S (ptxt x.1 x.2))]/\BrkAt C H bp bkd bld b.pats b.told b.hd b.tl/\OkB b.pats b.told/\VP x.1 x.2 /\
 ∀(p kd ld:Ab) (H':Hp),H p=none->H kd=none->H ld=none->BrkAt C H' p kd ld (b.pats++[x]) b.told b.hd b.tl->Same H H'->Q (.ref p) H'
theorem Sr:M' "none"=S [110,111,110,101]:=by decide +kernel
theorem iw (c:Nat):∀(w:List Nat) (r:List (List Nat)),Nk c (w::r)=w++(r.map fun x=>c::x).flatten
 | w,[]=>by simp[Nk]
 | w,v::r=>by
  have ih:=iw c v r
  have e:Nk c (w::v::r)=w++c::Nk c (v::r):=rfl
  rw[e,ih]
  simp
theorem Y_ (c:Nat):∀(r:List (List Nat)) (B6:Array Nat),((r.map S).foldl (fun B6 p=>B6++(S [c]).cps++p.cps) B6).toList=B6.toList++(r.map fun x=>c::x).flatten
 | [],B6=>by simp
 | x::r,B6=>by
  rw[Nq,VB,Y_ c r]
  simp[S]
theorem Qe (c:Nat)(ws:List (List Nat)):Rg (S [c]) (ws.map S)=S (Nk c ws):=by
 unfold Rg PySem.Builtin.Str.glued
 cases ws with
 | nil=>rfl
 | cons w r =>
  rw[iw]
  simp only[Nq,List.drop_succ_cons,a9,List.headD_cons]
  have:=Y_ c r (S w).cps
  unfold S at this ⊢
  congr 1
  apply Array.ext'
  exact this
theorem Vs {n:Nat}:∀(ls:List (List Nat)),(∀ x∈ls,x.length<=n)->((ls.map S).map (·.length)).sum<=ls.length * n
 | [],_=>by simp
 | x::ls,h=>by
  have ih:=Vs ls fun y hy=>h y (NH _ hy)
  have:=h x N1
  simp only[Nq,ZW,ND,bg,Nn]
  omega
theorem iy (T:Txt mg tk)(O:Ow K mg cO)(F:Fun K "with_told" "with_told" s_with_told f fd)(B9:Dk P w K mg base cO 2 ["self","patterns","told","head","tail"] (Sl cO)):FnOk P w K mg base CX0 4 f fd ["breaker","broken"] (spWT cO):=by
 refine F.okk ["breaker","broken","known"] ?_
 rintro _ _ _ s H _ _ _ hr ⟨bp,bkd,bld,v,pats,told,hd,tl,x,rfl,hB,hv,Cj,Ds,Fa,q⟩ nd
 obtain⟨dx0,ys0,kvs,e1,e2,hN,e3,Eo⟩:=id hB
 obtain⟨va,vt,rfl,ha,ht⟩:=Pk hv
 have Em:=UU hN
 refine⟨_,(MS (pst 2 nd (pct c_dict T.z_dict (pa1 (Oh (pv 0) rfl))))
  (MS (Q2 (NO hr) (pv 2) (pix K (pv 1) MP) (pix K (pv 1) MP) rfl)
  (MU (M8 (Uj B9 hr.MX rfl O.m_Breaker (MQ (Oh (pv 0) rfl) (MQ (pct (XN rfl) T.z_list (pa1 (WJ (K:=K) jT bn jU XM (pv 2)))) (MQ (Oh (pv 0) rfl) (pa1 (Oh (pv 0) rfl)))))))))),?_⟩
 walk_at "s0"
 ext
 refine Oj ?_
 ext
 refine Ol e1 O.cl O.n_told_gaps rfl ?_
 ext
 refine gl e2 fun nk KJ=>?_
 obtain⟨H1,HF,s1,enk⟩:=OU KJ (.dK kvs)
 rw[HF]
 ext
 refine Q7 ?_
 have DD:=s1 _ _ ha
 have FW:=s1 _ _ ht
 ext
 refine⟨nk,_,rfl,.inl ⟨kvs,Sum.inr (S x.1),enk,rfl,szlt (by omega),rfl⟩,?_⟩
 have LF:=(hN.same s1).put (s:=x.1) (ns:=x.2) FW
 have k2:∀ b o,b≠nk->H1 b=some o->(upd H1 nk (.dK (putK kvs (Sum.inr (S x.1)) (.ref vt)))) b=some o:=fun b o h e=>by rw[MR h];exact e
 have s02:Same H (upd H1 nk (.dK (putK kvs (Sum.inr (S x.1)) (.ref vt)))):=Sq KJ s1
 have HD:=LF.tups (H':=upd H1 nk (.dK (putK kvs (Sum.inr (S x.1)) (.ref vt)))) fun b zs e=>k2 b _ (fun z=>by rw[z,enk] at e;cases e) e
 have enk2:=MT (H:=H1) (a:=nk) (o:=.dK (putK kvs (Sum.inr (S x.1)) (.ref vt)))
 generalize upd H1 nk (.dK (putK kvs (Sum.inr (S x.1)) (.ref vt)))=H2 at s02 HD enk2 ⊢
 ext
 refine P9 ?_
 ext
 refine Oj ?_
 ext
 refine Ol (s02 _ _ e1) O.cl O.n_patterns rfl ?_
 ext
 refine⟨Or.inr (Or.inr (Or.inl ⟨rfl,Or.inl ⟨_,enk2⟩⟩)),XQ enk2 fun v IG=>?_⟩
 obtain⟨H3,FF,s3,ev⟩:=OU IG (VW v nk)
 rw[FF]
 ext
 refine XR ev (s3 _ _ enk2) fun l Ts H4 hl el Hj G1 s4=>?_
 have s04:=s02.trans (s3.trans s4)
 have HC:L2.IsL H4 (Ts.map V.ref) ((putG told x.1 x.2).map patD):=UH s4 (HD.same s3) Hj G1
 ext
 refine Oj ?_
 ext
 refine Ol (s04 _ _ e1) O.cl O.n_head rfl ?_
 ext
 refine Oj ?_
 ext
 refine Ol (s04 _ _ e1) O.cl O.n_tail rfl ?_
 ext
 intro xo dx hx Gz CA
 have s5:Same H4 (upd (upd H4 dx (.own xo)) xo (.ins cO dx [])):=fun b o e=>by
  rw[MR (MZ e hx),MR (MZ e Gz)];exact e
 have e4:=MT (H:=upd H4 dx (.own xo)) (a:=xo) (o:=.ins cO dx [])
 generalize upd (upd H4 dx (.own xo)) xo (.ins cO dx [])=H5 at s5 e4 ⊢
 have s05:=s04.trans s5
 have EM:=Y5 told x.1 x.2
 refine⟨xo,bld,l,dx,ys0,Ts.map V.ref,pats,putG told x.1 x.2,hd,tl,rfl,e4,s05 _ _ e3,s5 _ _ el,IsL.same s05 Eo,IsL.same s5 HC,UT Fa,by omega,Cj,fun kd ld H6 Ft EL GD off=>⟨rfl,?_⟩⟩
 ext
 exact q xo kd ld H6 (s04.free hx) (s05.free Ft) (s05.free EL) GD fun b o e=>off b o (MZ (s04 _ _ e) hx) (s05 _ _ e)
theorem iz (T:Txt mg tk)(F:Fun K "check_word" "check_word" s_check_word f fd)(B_:Dn P w K mg base "is_letter" 1 ["sign"] YJ):FnOk P w K mg base CX0 3 f fd ["text"] Y7:=by
 refine F.okk ["text","place","sign"] ?_
 rintro _ _ _ _ H _ _ _ hr ⟨l,rfl,hl,h0,Es,q⟩ nd
 refine⟨_,(MS (Nc (Nb (o_eq hr.units) (pv 0) (M4 Of) (M9 _))
   (MU Rj)
   Ni)
  (MU (Ou Oo rfl (TU rfl T.z_enumerate (pv 0)) (O6 rfl (Nx (pnm 1 nd) (Nx (pnm 2 nd) OL)))
   (MU (Nc (RF (Oe (M3 B_ hr.MX rfl (pa1 (pv 2))) (fun _=>rfl)))
   (MU Rj)
   Ni))))),?_⟩
 walk_at "s0"
 ext
 refine Ph (fun z=>h0 (S_inj.mp z)) ?_
 ext
 refine PX (fun i σ H2=>∃(v1 v2:Option V),σ=[some (.str (S l)),v1,v2]/\Same H H2)
  ⟨none,none,rfl,fun _ _ e=>e⟩ (fun _ _ _ _ _=>trivial) ?_ ?_
 ·rintro i v σ H2 T2 hv ⟨v1,v2,rfl,s2⟩ hT
  rw[QZ] at hv
  have hi:i < l.length:=by
   have:=(NJ.mp hv).1
   simpa using this
  rw[Nz,Na hi] at hv
  cases hv
  refine SN MT rfl (Ny (Nt (Ny (Nt (OO ?_)))))
  have s3:=s2.trans (Nh hT (PrX T2 [.int (((0:Nat):Int)+(i:Int)),.str (S [l[i]])]))
  ext
  refine⟨l[i],rfl,?_⟩
  rw[Es _ (N5 hi)]
  ext
  exact⟨_,_,rfl,s3⟩
 ·intro σ H2 hI9
  obtain⟨v1,v2,rfl,s2⟩:=hI9
  ext
  exact q H2 s2
theorem iA (T:Txt mg tk)(O:Ow K mg cO)(F:Fun K "shown_word" "shown_word" s_shown_word f fd)(C4:Dn P w K mg base "check_word" 3 ["text"] Y7)(CB:Dm P w K mg base cO "shown" 5 ["self","word"] (YC cO)):FnOk P w K mg base CX0 6 f fd ["breaker","text"] (Y8 cO):=by
 refine F.okk ["breaker","text"] ?_
 rintro _ _ _ _ H _ _ _ hr ⟨p,kd,ld,b,l,rfl,hB,hO,hl,h0,Es,q⟩ nd
 refine⟨_,(MS (N9 (M3 C4 hr.MX rfl (pa1 (pv 1))))
  (MU (M8 (SS (pv 0) O.cl CB hr.MX (pa1 (pv 1)))))),?_⟩
 walk_at "s0"
 ext
 refine⟨l,rfl,by omega,h0,Es,fun H2 s2=>?_⟩
 have Eg:1<=l.length:=Rx.mpr h0
 obtain⟨g,hg,hR⟩:=YH hO b.hd b.tl Eg
 have IH:=hB.same s2
 obtain⟨dx0,ys0,kvs,e1,_⟩:=id IH
 ext
 refine Rq ?_
 ext
 refine Rr e1 rfl ?_
 ext
 refine⟨p,kd,ld,b.pats,b.told,b.hd,b.tl,l,g,rfl,IH,hO.ps,by have:=hO.pl;omega,Eg,hl,hg,hR,fun H3 s3=>?_⟩
 rw[<- UM hg]
 exact q H3 (s2.trans s3)
theorem iB (T:Txt mg tk)(F:Fun K "parted" "parted" s_parted f fd):FnOk P w K mg base CX0 1 f fd ["texts","sign"] Y9:=by
 refine F.okk ["texts","sign"] ?_
 rintro _ _ _ _ H _ _ _ hr ⟨a,ls,c,rfl,ha,Ep,Fb,q⟩ nd
 refine⟨_,(MU (M8 (VX (Nb (o_eq hr.units) (pcb (Nu (K:=K)) T.z_len (pa1 (pv 0))) MP (M9 _)) (M4 Sr) (NF (K:=K) OD Rc Re SM (pv 1) (pa1 (pv 0)))))),?_⟩
 walk_at "s0"
 ext
 rw[M5]
 by_cases h0:ls=[]
 ·refine Pg (by rw[h0];rfl) ?_
  ext
  have e:Pw c ls=[110,111,110,101]:=by unfold Pw;rw[B3 h0]
  rw[e] at q
  exact q
 ·refine Ph (fun z=>h0 ?_) ?_
  ·injection z with z
   exact ZL (by omega)
  ·have e:Pw c ls=Nk c ls:=by unfold Pw;rw[B2 h0]
   rw[e] at q
   have e2:(ls.map fun l=>V.str (S l))=(ls.map S).map V.str:=by rw[NK];rfl
   rw[e2] at ha
   have DO:=Vs ls Fb
   ext
   refine SO (Pt ha) ?_ ?_
   ·rw[M5,Nn]
    simp only[ND,Ot]
    omega
   ·rw[Qe]
    exact q
theorem kB (T:Txt mg tk)(O:Ow K mg cO)(F:Fun K "with_pattern_more" "with_pattern_more" s_with_pattern_more f fd)(CP:Dn P w K mg base "read_pattern" 3 ["text"] Y4)(Ce:Dn P w K mg base "with_patterns" 4 ["breaker","patterns"] (spWP cO)):FnOk P w K mg base CX0 5 f fd ["breaker","text"] (spWPM cO):=by
 refine F.okk ["breaker","text"] ?_
 rintro _ _ _ _ H _ _ _ hr ⟨bp,bkd,bld,b,x,rfl,hB,hO,hx,q⟩ nd
 obtain⟨dx0,ys0,kvs,e1,e2,hN,e3,Eo⟩:=id hB
 refine⟨_,(MU (M8 (M3 Ce hr.MX rfl (MQ (pv 0) (pa1 (MY M_ (Oh (pv 0) rfl) (NN (pa1 (M3 CP hr.MX rfl (pa1 (pv 1))))))))))),?_⟩
 walk_at "s0"
 ext
 refine Oj ?_
 ext
 refine Ol e1 O.cl O.n_patterns rfl ?_
 ext
 have Cj:=hO.pl
 have Ds:=hO.tl
 have En:=Eo.length
 rw[M5] at En
 refine⟨x,rfl,hx,fun v H2 hv s2=>?_⟩
 ext
 intro p1 F1
 obtain⟨H3,FF,s3,ep1⟩:=OU F1 (.lst [v])
 rw[FF]
 have LG:=Is.same s3 hv
 have s03:=s2.trans s3
 ext
 refine i_addL (s03 _ _ e3) ep1 (szn (by rw[OH];omega)) fun p2 DV=>?_
 obtain⟨H4,LH,s4,ep2⟩:=OU DV (.lst (ys0++[v]))
 rw[LH]
 have LI:=Is.same s4 LG
 have s04:=s03.trans s4
 ext
 refine⟨bp,bkd,bld,p2,_,b.pats,b.pats++[x],b.told,b.hd,b.tl,rfl,hB.same s04,ep2,?_,by rw[No,OH];omega,by omega,hO.nd,fun p kd ld H5 h5 h6 h7 JI s5=>?_⟩
 ·rw[Np]
  exact IsL.append (IsL.same s04 Eo) (by simp only[Nq,N8,L2.IsL];exact⟨LI,trivial⟩)
 ·exact q p kd ld H5 (s04.free h5) (s04.free h6) (s04.free h7) JI (s04.trans s5)
noncomputable abbrev s_is_text:As:=top 65
noncomputable abbrev s_is_number:As:=top 66
noncomputable abbrev s_has_its_count:As:=top 67
noncomputable abbrev s_is_row:As:=top 68
noncomputable abbrev s_words_of_row:As:=top 69
noncomputable def tTON:List Nat:=[116,111,110,103,117,101]
noncomputable def tPAT:List Nat:=[112,97,116,116,101,114,110]
noncomputable def tTOL:List Nat:=[116,111,108,100]
noncomputable def tBRK:List Nat:=[98,114,101,97,107]
noncomputable def tPTS:List Nat:=[112,97,116,116,101,114,110,115]
noncomputable def tPAR:List Nat:=[112,97,114,101]
noncomputable def tPRS:List Nat:=[112,114,101,115,115]
theorem Pn:M' "tongue"=S tTON:=by decide +kernel
theorem t_pat:M' "pattern"=S tPAT:=by decide +kernel
theorem t_tol:M' "told"=S tTOL:=by decide +kernel
theorem t_brk:M' "break"=S tBRK:=by decide +kernel
theorem UV:M' "patterns"=S tPTS:=by decide +kernel
theorem t_par:M' "pare"=S tPAR:=by decide +kernel
theorem Ss:M' "press"=S tPRS:=by decide +kernel
theorem t_til:M' "~"=S [126]:=by decide +kernel
noncomputable def kvsC:List (Key×V):=[(Sum.inr (S tTON),.int 4),(Sum.inr (S tPAT),.int 3),(Sum.inr (S tTOL),.int 3),(Sum.inr (S tBRK),.int 3),(Sum.inr (S tPTS),.int 2),(Sum.inr (S tPAR),.int 2),(Sum.inr (S tPRS),.int 3)]
structure Dcc (P:Aj)(w:Ak)(K:MV)(mg:Str->Option Ac)(cD:Ab):Prop where
 m:mg "COUNTS"=some (.ref cD)
 d:DC P w K cD kvsC
noncomputable def cntL (l:List Nat):Option Nat:=if l=tTON then some 4 else if l=tPAT then some 3 else if l=tTOL then some 3 else if l=tBRK then some 3 else if l=tPTS then some 2 else if l=tPAR then some 2 else if l=tPRS then some 3 else none
theorem UW {kvs:List (Key×V)}{z l:List Nat}{v:V}:valV ((Sum.inr (S z),v)::kvs) (Sum.inr (S l))=if l=z then some v else valV kvs (Sum.inr (S l)):=by
 by_cases e:l=z
 ·rw[B3 e,Vo (by rw[e])]
 ·rw[B2 e,Uf fun q=>e (SR q).symm]
theorem Y' (l:List Nat):valV kvsC (Sum.inr (S l))=(cntL l).map fun n:Nat=>V.int (n:Int):=by
 unfold kvsC cntL
 rw[UW,UW,UW,UW,UW,UW,UW]
 repeat' split
 all_goals rfl
noncomputable def isTx (l:List Nat):Bool:=l.all fun c=>decide (32<=c)&&decide (c<=126)&&decide (c≠37)
noncomputable def dig (n:Nat):List Nat:=(M' (toString (n:Int))).cps.toList
theorem Qf (n:Nat):S (dig n)=M' (toString (n:Int)):=Yi _
noncomputable def Px (l:List Nat)(a b:Nat):Bool:=(NW (b+1 - a)).any fun k=>decide (l=dig (a+k))
noncomputable def hasC (ws:List (List Nat)):Bool:=match cntL (ws.getD 0 []) with
 | none=>false
 | some n=>decide (ws.length=n) || (decide (ws.getD 0 []=tPRS)&&decide (n < ws.length))
noncomputable def Qg (ws:List (List Nat)):Bool:=hasC ws&&(if ws.getD 0 []=tPRS then Px (ws.getD 1 []) 2 200 else (if ws.getD 0 []=tTON then Px (ws.getD 2 []) 1 20&&Px (ws.getD 3 []) 1 20 else true)&&isNm (ws.getD 1 []))
def RwOk (ws:List (List Nat)):Prop:=ws≠[]/\ws.length<=41/\(∀ w∈ws,w.length<=50/\∀ c∈w,32 < c/\c<=126/\c≠37)/\Qg ws=true
theorem RwOk.tx:∀{ws:List (List Nat)},(∀ w∈ws,w.length<=50/\∀ c∈w,32 < c/\c<=126/\c≠37)->isTx (Nk 32 ws)=true/\(Nk 32 ws).length<=51 * ws.length
 | [],_=>⟨rfl,M6 _⟩
 | [w],h=>by
  obtain⟨h1,h2⟩:=h w N1
  refine⟨Qi.mpr fun c hc=>?_,by show w.length<=_;simp;omega⟩
  obtain⟨a,b,d⟩:=h2 c hc
  simp only[NS,decide_eq_true_eq];omega
 | w::v::r,h=>by
  obtain⟨h1,h2⟩:=h w N1
  obtain⟨i1,i2⟩:=RwOk.tx fun y hy=>h y (NH w hy)
  have e:Nk 32 (w::v::r)=w++32::Nk 32 (v::r):=rfl
  rw[e]
  refine⟨Qi.mpr fun c hc=>?_,by rw[No,ND,ND];omega⟩
  rcases NP.mp hc with hc | hc
  ·obtain⟨a,b,d⟩:=h2 c hc
   simp only[NS,decide_eq_true_eq];omega
  ·rcases Nf.mp hc with rfl | hc
   ·decide
   ·exact Qi.mp i1 c hc
def Za:Sp:=fun vs H Q _=>∃ l:List Nat,vs=[.str (S l)]/\l.length<=3000/\isTx l=true/\∀ H',Same H H'->Q (.bl true) H'
def Zb:Sp:=fun vs H Q _=>∃(l:List Nat) (a b:Nat),vs=[.str (S l),.int (a:Int),.int (b:Int)]/\a<=b/\b<=1000/\∀ H',Same H H'->Q (.bl (Px l a b)) H'
noncomputable def Nd (ws:List (List Nat)):List V:=ws.map fun l=>V.str (S l)
def spHas:Sp:=fun vs H Q _=>∃(a:Ab) (ws:List (List Nat)),vs=[.ref a]/\H a=some (.lst (Nd ws))/\1<=ws.length/\ws.length<=1000/\Q (.bl (hasC ws)) H
def Zc:Sp:=fun vs H Q _=>∃(a:Ab) (ws:List (List Nat)),vs=[.ref a]/\H a=some (.lst (Nd ws))/\1<=ws.length/\ws.length<=1000/\(∀ l∈ws,l.length<=1000)/\∀ H',Same H H'->Q (.bl (Qg ws)) H'
def Zd:Sp:=fun vs H Q _=>∃ ws:List (List Nat),vs=[.str (S (Nk 32 ws))]/\RwOk ws/\∀(r:Ab) (H':Hp),H r=none->H' r=some (.lst (Nd ws))->Same H H'->Q (.ref r) H'
theorem OG {i:Nat} (h:i < ws.length):atI (Nd ws) (i:Int)=some (.str (S (ws.getD i []))):=Pj (by omega) (by
 rw[show ((i:Int)).toNat=i by omega,Nd,Nz,Na h,Nl,Na h];rfl)
theorem Ze (n:Nat)(h:n<=1000):((n:Int)).natAbs.log2 < 1920:=by
 have h2:((n:Int)).natAbs=n:=by omega
 rw[h2]
 by_cases z:n=0
 ·rw[z];decide
 ·have:=(Nat.log2_lt z).mpr (show n < 2 ^ 10 by omega)
  omega
theorem iC (T:Txt mg tk)(F:Fun K "is_text" "is_text" s_is_text f fd):FnOk P w K mg base CX0 1 f fd ["row"] Za:=by
 refine F.okk ["row"] ?_
 rintro _ _ _ _ H _ _ _ hr ⟨l,rfl,hl,JP,q⟩ nd
 refine⟨_,(MU (M8 (Qm (pcb PR T.z_isinstance (MQ (pv 0) (pa1 (pty "str" T.z_str)))) (PD (pcb (TQ rfl) T.z_all (pa1 (PP ["sign"] [none] rfl (by kernel_rfl) rfl (Pf (K:=K) (pv 0)) (fun _ _ _ _=>(N_ (i:=0) (show (["sign"]:List Str).Nodup by decide +kernel) rfl (Or.inl rfl) (Or.inr rfl))) (fun _ _ _ _=>QK) (fun _ _ _ _=>(Qm (ce o_leS o_leS (M4 Pm) (pv 0) (M4 t_til)) (PD (Oa (o_ne hr.units) (pcb c_ord T.z_ord (pa1 (pv 0))) (RE (v:=.int 37) rfl T.m_PERCENT_SIGN ⟨_,rfl⟩) (M9 _)))))))))))),?_⟩
 walk_at "s0"
 ext
 intro r Cd
 refine WI (fun i B6 σ H'=>∃ v,σ=[v]/\B6=(Nr i true).map V.bl/\H' r=some (.lst B6)/\Same H H')
  ⟨none,rfl,rfl,MT,Nh Cd _⟩ (fun i B6 σ H' hI9=>by rcases hI9 with ⟨_,_,e,e2,_⟩;exact⟨e2,by rw[e];simp⟩) (szn (by rw[RP,Nn];omega)) ?_ ?_
 ·intro i B6 σ H2 hi hI9
  obtain⟨v,rfl,rfl,e2,s2⟩:=hI9
  rw[RP,Nn] at hi
  rw[W7 hi]
  have hc:=Qi.mp JP _ (N5 hi)
  generalize l[i]=c at hc ⊢
  simp only[NS,decide_eq_true_eq] at hc
  obtain⟨⟨JA,GZ⟩,II⟩:=hc
  ext
  refine i_leS ⟨_,rfl,?_⟩
  rw[B1 JA]
  ext
  refine i_leS ⟨_,rfl,?_⟩
  rw[B1 GZ]
  ext
  refine i_ord ?_
  ext
  have LJ:(!decide (V.int (c:Int)=V.int 37))=true:=by simp;omega
  rw[LJ]
  refine⟨e2,_,rfl,?_,MT,Sq Cd s2⟩
  rw[aS,Np];rfl
 ·intro B6 σ H2 hI9
  obtain⟨v,rfl,rfl,e2,s2⟩:=hI9
  rw[RP,Nn] at e2
  ext
  refine RX (Pt e2) ?_
  have Ei:((Nr l.length true).all id)=true:=by rw[Qi];intro x hx;rw[(List.mem_replicate.mp hx).2];rfl
  simp only[Ei]
  exact q H2 s2
theorem iE (T:Txt mg tk)(F:Fun K "is_number" "is_number" s_is_number f fd):FnOk P w K mg base CX0 1 f fd ["text","least","most"] Zb:=by
 refine F.okk ["text","least","most"] ?_
 rintro _ _ _ _ H _ _ _ hr ⟨l,a,b,rfl,hab,hb,q⟩ nd
 refine⟨_,(MU (M8 (Oa o_in (pv 0) (PP ["number"] [none] rfl (by kernel_rfl) rfl (Th rfl T.z_range (MQ (pv 1) (pa1 (MY M_ (pv 2) MP)))) (fun _ _ _ _=>(N_ (i:=0) (show (["number"]:List Str).Nodup by decide +kernel) rfl (Or.inl rfl) (Or.inr rfl))) (fun _ _ _ _=>QK) (fun _ _ _ _=>(pct PQ T.z_str (pa1 (pv 0))))) (by with_unfolding_all rfl)))),?_⟩
 walk_at "s0"
 ext
 intro r Cd
 have hn:((b:Int)+1 - (a:Int)).toNat=b+1 - a:=by omega
 refine RR (fun i B6 σ H'=>∃ v,σ=[v]/\B6=Nd ((NW i).map fun k=>dig (a+k))/\H' r=some (.lst B6)/\Same H H')
  ⟨none,rfl,rfl,MT,Nh Cd _⟩ (fun i B6 σ H' hI9=>by rcases hI9 with ⟨_,_,e,e2,_⟩;exact⟨e2,by rw[e,Nd,M5,M5,SF];exact M6 _⟩) (szn (by omega)) ?_ ?_
 ·intro i B6 σ H2 hi hI9
  obtain⟨v,rfl,rfl,e2,s2⟩:=hI9
  ext
  have LK:(a:Int)+(i:Int)=((a+i:Nat):Int):=by omega
  rw[LK]
  refine⟨Ze _ (by omega),e2,_,rfl,?_,MT,Sq Cd s2⟩
  rw[Nd,Nd,Q_,Np,Np]
  show _++[V.str _]=_++[V.str (S (dig (a+i)))]
  rw[Qf]
 ·intro B6 σ H2 hI9
  obtain⟨v,rfl,rfl,e2,s2⟩:=hI9
  rw[hn] at e2
  have EJ:inV (V.str (S l)) (Nd ((NW (b+1 - a)).map fun k=>dig (a+k)))=Px l a b:=by
   unfold inV Px Nd
   rw[NK,List.any_map]
   congr 1
   funext k
   show eqV (V.str (S (dig (a+k)))) (V.str (S l))=decide (l=dig (a+k))
   rw[SI]
   unfold eqV
   simp only[beq_iff_eq,decide_eq_true_eq]
   exact⟨fun z=>(S_inj.mp (by rw[z])).symm,fun z=>by rw[z]⟩
  refine T7 (OF e2) ⟨rfl,?_⟩ ?_
  ·unfold Nd
   rw[List.all_map,Qi]
   intro x _
   rfl
  ·rw[B2 (by decide),EJ]
   exact q H2 s2
theorem iF (T:Txt mg tk)(DCC:Dcc P w K mg cD)(F:Fun K "has_its_count" "has_its_count" s_has_its_count f fd):FnOk P w K mg base CX0 1 f fd ["words"] spHas:=by
 refine F.okk ["words","count"] ?_
 rintro _ _ _ _ H _ Q _ hr ⟨a,ws,rfl,ha,Dd,C9,q⟩ nd
 have h0:=OG (show 0 < ws.length by omega)
 refine⟨_,(MS (Nc (PB (gj DCC.d rfl DCC.m (pix K (pv 0) MP)))
   (MU (M8 Pb))
   Ni)
  (MS (pst 1 nd (gk DCC.d rfl DCC.m (pix K (pv 0) MP) (fun _ _=>rfl)))
  (MU (M8 (pe_or (Oa (o_eq hr.units) (pcb (Nu (K:=K)) T.z_len (pa1 (pv 0))) (pv 1) (M9 _)) (PD (Qm (Oa (o_eq hr.units) (pix K (pv 0) MP) (M4 Ss) (M9 _)) (PD (Oa o_gt (pcb (Nu (K:=K)) T.z_len (pa1 (pv 0))) (pv 1) (M9 _)))))))))),?_⟩
 walk_at "s0"
 ext
 refine i_tB (i_kin ?_)
 ext
 refine⟨Sum.inr (S (ws.getD 0 [])),rfl,_,rfl,?_⟩
 rw[Y']
 unfold hasC at q
 cases hc:cntL (ws.getD 0 []) with
 | none =>
  rw[hc] at q
  ext
  exact q
 | some n =>
  rw[hc] at q
  ext
  refine i_kget ?_
  ext
  refine⟨Sum.inr (S (ws.getD 0 [])),.int (n:Int),rfl,by rw[Y',hc];rfl,?_⟩
  have DO:(Nd ws).length=ws.length:=M5 ..
  ext
  rw[DO]
  have q:Q (.bl (decide (ws.length=n) || (decide (ws.getD 0 []=tPRS)&&decide (n < ws.length)))) H:=q
  by_cases hn:ws.length=n
  ·refine Pg (by rw[hn]) ?_
   rw[B1 hn,S'] at q
   exact q
  ·refine Ph (fun z=>hn (by injection z with z;omega)) ?_
   rw[B0 hn,VG] at q
   ext
   by_cases hp:ws.getD 0 []=tPRS
   ·refine Pg (by rw[hp]) ?_
    rw[B1 hp,Rb] at q
    ext
    rw[DO]
    have e:decide ((n:Int) < (ws.length:Int))=decide (n < ws.length):=by rw[SI];simp
    rw[e]
    exact q
   ·refine Ph (fun z=>hp (S_inj.mp z)) ?_
    rw[B0 hp,Ra] at q
    exact q
theorem iG (T:Txt mg tk)(F:Fun K "is_row" "is_row" s_is_row f fd)(CC:Dn P w K mg base "has_its_count" 1 ["words"] spHas)(Cw:Dn P w K mg base "is_number" 1 ["text","least","most"] Zb)(CJ:Dn P w K mg base "is_name" 3 ["text"] UL):FnOk P w K mg base CX0 4 f fd ["words"] Zc:=by
 refine F.okk ["words"] ?_
 rintro _ _ _ _ H _ _ _ hr ⟨a,ws,rfl,ha,Dd,C9,DX,q⟩ nd
 have h0:=OG (show 0 < ws.length by omega)
 have EM:∀ i,(ws.getD i []).length<=1000:=fun i=>by
  rw[Nl]
  cases e:ws[i]? with
  | none=>exact NA _
  | some x=>exact DX x (Q9 e)
 refine⟨_,(MS (Nc (RF (Oe (M3 CC hr.MX rfl (pa1 (pv 0))) (fun _=>rfl)))
   (MU (M8 Pb))
   Ni)
  (MS (Nc (Nb (o_eq hr.units) (pix K (pv 0) MP) (M4 Ss) (M9 _))
   (MU (M8 (M3 Cw hr.MX rfl (MQ (pix K (pv 0) MP) (MQ MP (pa1 MP))))))
   Ni)
  (MS (Nc (PW.pt (QC (Nb (o_eq hr.units) (pix K (pv 0) MP) (M4 Pn) (M9 _)) (Qz (RF (PW.pt (QC (Oe (M3 Cw hr.MX rfl (MQ (pix K (pv 0) MP) (MQ MP (pa1 MP)))) (fun _=>rfl)) (Qz (Oe (M3 Cw hr.MX rfl (MQ (pix K (pv 0) MP) (MQ MP (pa1 MP)))) (fun _=>rfl)))))))))
   (MU (M8 Pb))
   Ni)
  (MU (M8 (M3 CJ hr.MX rfl (pa1 (pix K (pv 0) MP)))))))),?_⟩
 walk_at "s0"
 ext
 refine⟨a,ws,rfl,ha,Dd,C9,?_⟩
 unfold Qg at q
 cases hh:hasC ws with
 | false =>
  rw[hh] at q
  ext
  exact q H fun _ _ e=>e
 | true =>
  rw[hh] at q
  have B8:2<=ws.length/\(ws.getD 0 []=tTON->4<=ws.length):=by
   unfold hasC at hh
   cases hc:cntL (ws.getD 0 []) with
   | none=>rw[hc] at hh;cases hh
   | some n =>
    rw[hc] at hh
    have hn:n<=ws.length:=by
     simp only[VF,NS,decide_eq_true_eq] at hh
     omega
    have h2:2<=n:=by
     unfold cntL at hc
     repeat' split at hc
     all_goals first | (cases hc;done) | (injection hc with hc;omega)
    refine⟨by omega,fun e=>?_⟩
    unfold cntL at hc
    rw[B3 e] at hc
    injection hc with hc
    omega
  have h1:=OG (show 1 < ws.length by omega)
  ext
  by_cases hp:ws.getD 0 []=tPRS
  ·refine Pg (by rw[hp]) ?_
   rw[B3 hp] at q
   ext
   refine⟨ws.getD 1 [],2,200,rfl,by decide,by decide,fun H2 s2=>q H2 s2⟩
  ·refine Ph (fun z=>hp (S_inj.mp z)) ?_
   rw[B2 hp] at q
   ext
   by_cases ht:ws.getD 0 []=tTON
   ·have h2:=OG (show 2 < ws.length by have:=B8.2 ht;omega)
    have h3:=OG (show 3 < ws.length by have:=B8.2 ht;omega)
    rw[B3 ht] at q
    refine Pg (by rw[ht]) ?_
    ext
    refine⟨ws.getD 2 [],1,20,rfl,by decide,by decide,fun H2 s2=>?_⟩
    have EQ:=s2 _ _ ha
    cases DI:Px (ws.getD 2 []) 1 20 with
    | false =>
     rw[DI] at q
     ext
     exact q H2 s2
    | true =>
     rw[DI] at q
     ext
     refine⟨ws.getD 3 [],1,20,rfl,by decide,by decide,fun H3 s3=>?_⟩
     have F_:=s3 _ _ EQ
     cases ER:Px (ws.getD 3 []) 1 20 with
     | false =>
      rw[ER] at q
      ext
      exact q H3 (s2.trans s3)
     | true =>
      rw[ER] at q
      ext
      exact⟨ws.getD 1 [],rfl,EM 1,fun H4 s4=>q H4 (s2.trans (s3.trans s4))⟩
   ·refine Ph (fun z=>ht (S_inj.mp z)) ?_
    rw[B2 ht] at q
    ext
    exact⟨ws.getD 1 [],rfl,EM 1,fun H4 s4=>q H4 s4⟩
theorem iH (T:Txt mg tk)(F:Fun K "words_of_row" "words_of_row" s_words_of_row f fd)(Dy:Dn P w K mg base "is_text" 1 ["row"] Za)(DP:Dn P w K mg base "is_row" 4 ["words"] Zc):FnOk P w K mg base CX0 5 f fd ["row"] Zd:=by
 refine F.okk ["row","words"] ?_
 rintro _ _ _ _ H _ _ _ hr ⟨ws,rfl,⟨h0,hl,hw,Di⟩,q⟩ nd
 obtain⟨JP,Gy⟩:=RwOk.tx hw
 refine⟨_,(MS (Nc (RF (Oe (M3 Dy hr.MX rfl (pa1 (pv 0))) (fun _=>rfl)))
   (MU Rj)
   Ni)
  (MS (pst 1 nd (NF (K:=K) OD jW jX Ye (pv 0) (pa1 (M4 Pm))))
  (MS (Nc (RF (Oe (M3 DP hr.MX rfl (pa1 (pv 1))) (fun _=>rfl)))
   (MU Rj)
   Ni)
  (MU (M8 (pv 1)))))),?_⟩
 walk_at "s0"
 ext
 refine⟨_,rfl,by omega,JP,fun H2 s2=>?_⟩
 have DJ:spl 32 (Nk 32 ws)=ws:=aB h0 fun p hp z=>absurd ((hw p hp).2 32 z).1 (by decide)
 have DS:=Rx.mpr h0
 have GE:(ws.map S).map V.str=Nd ws:=by rw[NK];rfl
 ext
 refine Yc rfl (szn (by rw[Nn];omega)) (szn (by rw[Sh,DJ,M5];omega)) fun r Cd=>?_
 rw[Sh,DJ,GE]
 obtain⟨H3,FF,s3,er⟩:=OU Cd (.lst (Nd ws))
 rw[FF]
 ext
 refine⟨r,ws,rfl,er,DS,by omega,fun x hx=>by have:=(hw x hx).1;omega,fun H4 s4=>?_⟩
 rw[Di]
 ext
 exact q r H4 (s2.free Cd) (s4 _ _ er) ((s2.trans s3).trans s4)
structure Ow3 (K:MV)(mg:Str->Option Ac)(cO:Ab):Prop where
 m_Desk:mg "Desk"=some (.ref cO)
 cl:Cls K cO
 n_tongues:NoAttr K cO "tongues"
noncomputable abbrev s_Desk_init:As:=Qn (top 75) 0
noncomputable abbrev s_Desk_say:As:=Qn (top 75) 1
noncomputable abbrev s_Desk_keep:As:=Qn (top 75) 2
noncomputable abbrev s_Desk_pare:As:=Qn (top 75) 3
theorem sc_Desk_pare:FnScope ["self","name","breaker","left"] ["self","name","breaker"] (Ox s_Desk_pare):=by walk_at "f"
def DeskAt (CD CT:Ab)(H:Hp)(d tp td:Ab)(kvs:List (Key×V)):Prop:=(∃ dd,H d=some (.ins CD dd [(("tongues":Str),.ref tp)]))/\TgAt CT H tp td kvs
theorem DeskAt.same (s:Same H H') (h:DeskAt CD CT H d tp td kvs):DeskAt CD CT H' d tp td kvs:=by
 obtain⟨⟨dd,h1⟩,h2⟩:=h
 exact⟨⟨dd,s _ _ h1⟩,h2.same s⟩
def spDkI (CD CT:Ab):Sp:=fun vs H Q _=>∃(p dx:Ab),vs=[.ref p]/\H p=some (.ins CD dx [])/\∀(tp td:Ab) (H':Hp),H td=none->DeskAt CD CT H' p tp td []->(∀ b o,b≠p->H b=some o->H' b=some o)->Q .non H'
noncomputable def tOK:List Nat:=[111,107]
theorem t_ok:M' "ok"=S tOK:=by decide +kernel
def Zf (CD C CT:Ab):Sp:=fun vs H Q _=>∃(d tp td bp bkd bld:Ab) (kvs:List (Key×V)) (nm:List Nat) (pats told:List Pat) (hd tl:Int),vs=[.ref d,.str (S nm),.ref bp]/\DeskAt CD CT H d tp td kvs/\BrkAt C H bp bkd bld pats told hd tl/\pats.length<=1000/\told.length<=1000/\(told.map (·.1)).Nodup/\kvs.length<=1000 /\
 ∀(p kd ld:Ab) (H':Hp),H p=none->H kd=none->H ld=none->BrkAt C H' p kd ld pats told hd tl->H' td=some (.dK (putK kvs (Sum.inr (S nm)) (.ref p)))->(∀ b o,b≠td->H b=some o->H' b=some o)->Q (.str (S tOK)) H'
def Zg:Sp:=fun _ _ _ _=>False
structure OkN (n:Nat)(b:Bp):Prop where
 ok:OkB b.pats b.told
 pn:b.pats.length<=n
 tn:b.told.length<=n
 vp:∀ x∈b.pats,VP x.1 x.2
theorem OkN.mono (h:OkN n b) (hm:n<=m):OkN m b:=⟨h.ok,NI h.pn hm,NI h.tn hm,h.vp⟩
noncomputable def brkF (b:Bp)(l:List Nat):List Nat:=txt l (OW b l) l.length
noncomputable def ptsF (b:Bp):List Nat:=Pw 32 (b.pats.map fun x=>ptxt x.1 x.2)
def keeps (C:Ab)(D:List Ab)(td:Ab)(ms:List (List Nat×Bp))(n:Nat)(nm:List Nat)(b:Bp)(H:Hp)(Q:VK):Prop:=∀(kvs':List (Key×V)) (H':Hp),OkN (n+1) b->TB C (offH H' D) kvs' (putM ms nm b)->H' td=some (.dK kvs')->(∀ b o,b≠td->H b=some o->H' b=some o)->Q (.str (S tOK)) H'
noncomputable def outR (na:Nat->Prop)(to:List Nat->Prop)(kp:List Nat->Bp->Prop)(tl:List Nat->Prop)(ms:List (List Nat×Bp))(ws:List (List Nat)):Prop :=
 (ws.getD 0 []=tPRS->(∀ l∈ws.drop 2,Pu l=true)/\(∀ nm,due2 ms false (ws.drop 2)=some nm->to nm)/\(due2 ms false (ws.drop 2)=none->∀ wd:Nat,wd<=200->ws.getD 1 []=dig wd ->
  (∀ k lns,Gr wd (prun ms (ws.drop 2)).ps 0 [] lns (some k)->na k)/\∀ lns,Gr wd (prun ms (ws.drop 2)).ps 0 [] lns none->tl (Pw 124 lns))) /\
 (ws.getD 0 []=tTON->∀ hd t:Nat,hd<=200->t<=200->ws.getD 2 []=dig hd->ws.getD 3 []=dig t->kp (ws.getD 1 []) ⟨[],[],(hd:Int),(t:Int)⟩) /\
 (ws.getD 0 []≠tPRS->ws.getD 0 []≠tTON->NV ms (ws.getD 1 [])=none->to (ws.getD 1 [])) /\
 ∀ b,NV ms (ws.getD 1 [])=some b->ws.getD 0 []≠tPAR /\
  (ws.getD 0 []=tPAT->∃ x:Pat,VP x.1 x.2/\ws.getD 2 []=ptxt x.1 x.2/\kp (ws.getD 1 []) ⟨b.pats++[x],b.told,b.hd,b.tl⟩) /\
  (ws.getD 0 []=tTOL->∃ w g:List Nat,ws.getD 2 []=txt w g w.length/\N7 w=true/\Rise 0 w.length g/\kp (ws.getD 1 []) ⟨b.pats,putG b.told w (g.map fun k:Nat=>(k:Int)),b.hd,b.tl⟩) /\
  (ws.getD 0 []=tBRK->N7 (ws.getD 2 [])=true/\tl (brkF b (ws.getD 2 []))) /\
  (ws.getD 0 []=tPTS->tl (ptsF b))
noncomputable def sayR (C TN NTo:Ab)(D:List Ab)(td:Ab)(ms:List (List Nat×Bp))(n:Nat)(ws:List (List Nat))(H:Hp)(Q:VK)(E:XK):Prop :=
 outR (fun k=>refuses TN "place" (.int (k:Int)) H E) (fun z=>refuses NTo "name" (.str (S z)) H E) (fun z b=>keeps C D td ms n z b H Q) (fun t=>∀ H',Same H H'->Q (.str (S t)) H') ms ws
structure DkS (CD C CT:Ab)(H:Hp)(d tp td:Ab)(kvs:List (Key×V))(ms:List (List Nat×Bp))(D:List Ab)(n:Nat):Prop where
 dk:DeskAt CD CT H d tp td kvs
 td:td∈D
 nt:∀ b∈D,∃ o,H b=some o/\∀ zs,o≠.tup zs
 tb:TB C (offH H D) kvs ms
 ml:ms.length<=90
 nl:n<=90
 ok:∀ m∈ms,OkN n m.2
def spSay (CD C CT TN NTo:Ab):Sp:=fun vs H Q E=>∃(d tp td:Ab) (kvs:List (Key×V)) (ms:List (List Nat×Bp)) (D:List Ab) (n:Nat) (ws:List (List Nat)),vs=[.ref d,.str (S (Nk 32 ws))]/\RwOk ws/\DkS CD C CT H d tp td kvs ms D n/\sayR C TN NTo D td ms n ws H Q E
theorem iI (T:Txt mg tk)(O2:Ow2 K mg cO2)(O3:Ow3 K mg cO3)(F:Fun K "__init__" "Desk.__init__" s_Desk_init f fd)(CQ:Dk P w K mg base cO2 1 ["self"] (spTgI cO2)):FnOk P w K mg base CX0 3 f fd ["self"] (spDkI cO3 cO2):=by
 refine F.okk ["self"] ?_
 rintro _ _ _ _ H _ _ _ hr ⟨p,dx,rfl,hp,q⟩ nd
 refine⟨_,(MU (PL (pv 0) (UB CQ hr.MX rfl O2.m_Tongues) rfl)),?_⟩
 walk_at "s0"
 ext
 refine P_ ?_
 ext
 refine P9 ?_
 ext
 intro x dx1 hx Gz CA
 have s1:Same H (upd (upd H dx1 (.own x)) x (.ins cO2 dx1 [])):=fun b o e=>by
  rw[MR (MZ e hx),MR (MZ e Gz)];exact e
 have e1:=MT (H:=upd H dx1 (.own x)) (a:=x) (o:=.ins cO2 dx1 [])
 generalize upd (upd H dx1 (.own x)) x (.ins cO2 dx1 [])=H1 at s1 e1 ⊢
 refine⟨x,dx1,rfl,e1,fun td H2 D8 hT off=>⟨rfl,?_⟩⟩
 have px:p≠x:=MZ hp hx
 have DV:=off _ _ px (s1 _ _ hp)
 ext
 refine Qa DV O3.cl O3.n_tongues (by decide) ?_
 ext
 obtain⟨dxt,t1,t2⟩:=hT
 have tpn:td≠p:=fun z=>by rw[z,s1 _ _ hp] at D8;cases D8
 exact q x td _ (s1.free D8) ⟨⟨dx,MT⟩,dxt,by rw[MR (M7 px)];exact t1,by rw[MR tpn];exact t2⟩ fun b o hb e=>by
  rw[MR hb];exact off _ _ (MZ e hx) (s1 _ _ e)
theorem iJ (T:Txt mg tk)(O2:Ow2 K mg cO2)(O3:Ow3 K mg cO3)(F:Fun K "keep" "Desk.keep" s_Desk_keep f fd)(CY:Dm P w K mg base cO2 "put" 5 ["self","name","breaker"] (spPut cO cO2)):FnOk P w K mg base CX0 6 f fd ["self","name","breaker"] (Zf cO3 cO cO2):=by
 refine F.okk ["self","name","breaker"] ?_
 rintro _ _ _ _ H _ _ _ hr ⟨d,tp,td,bp,bkd,bld,kvs,nm,pats,told,hd,tl,rfl,⟨⟨dd,E3⟩,hT⟩,hB,Cj,Ds,Fa,Em,q⟩ nd
 obtain⟨dxt,t1,t2⟩:=id hT
 refine⟨_,(MS (N9 (SS (Oh (pv 0) rfl) O2.cl CY hr.MX (MQ (pv 1) (pa1 (pv 2)))))
  (MU (M8 (M4 t_ok)))),?_⟩
 walk_at "s0"
 ext
 refine Rq ?_
 ext
 refine Oj ?_
 ext
 refine Ol E3 O3.cl O3.n_tongues rfl ?_
 refine Rr t1 rfl ?_
 ext
 refine⟨tp,td,bp,bkd,bld,kvs,nm,pats,told,hd,tl,rfl,hT,hB,Cj,Ds,Fa,Em,fun p kd ld H1 h1 h2 h3 JJ e1 off=>?_⟩
 ext
 exact q p kd ld H1 h1 h2 h3 JJ e1 off
theorem iK (F:Fun K "pare" "Desk.pare" s_Desk_pare f fd):FnOk P w K mg base CX0 1 f fd ["self","name","breaker"] Zg:=by
 refine F.ok sc_Desk_pare (fun vs H Q E h=>h.elim) (fun cdv A outer s H vs Q E hr h=>h.elim)
theorem UX (hk:keeps C D td ms n nm b H Q) (hT:TB C (offH H D) kvs ms) (D8:td∈D) (hD:∀ b∈D,∃ o,H b=some o/\∀ zs,o≠.tup zs) (s:Same H H1) (h1:H1 p=none) (h2:H1 kd=none) (h3:H1 ld=none) (hB:BrkAt C H' p kd ld b.pats b.told b.hd b.tl) (e:H' td=some (.dK (putK kvs (Sum.inr (S nm)) (.ref p)))) (off:∀ b o,b≠td->H1 b=some o->H' b=some o) (hO:OkN (n+1) b):Q (.str (S tOK)) H':=by
 have off2:∀ b o,b≠td->H b=some o->H' b=some o:=fun b o hb eb=>off b o hb (s _ _ eb)
 have nin:∀ a,H1 a=none->a∉D:=fun a ha hm=>by
  obtain⟨o,ho,_⟩:=hD a hm
  rw[s.free ha] at ho;cases ho
 refine hk _ H' hO (TB.put (hT.same (OA fun b o hb eb=>⟨hb,off2 b o (fun z=>hb (z▸D8)) eb⟩)) (hB.offD (fun a ha zs ea=>?_) (nin p h1) (nin kd h2) (nin ld h3)) hO.ok) e off2
 obtain⟨o,ho,hz⟩:=hD a ha
 by_cases z:a=td
 ·rw[z,e] at ea;cases ea
 ·rw[off2 a o z ho] at ea
  injection ea with ea
  exact hz zs ea
theorem iL (w g:List Nat):brD w g=patD (w,g.map fun k:Nat=>(k:Int)):=by
 unfold brD patD
 rw[NK];rfl
theorem UY:∀ k:Fin 201,af (M' (toString ((k.1:Nat):Int)))=some ((k.1:Nat):Int):=by decide +kernel
theorem UZ (h:Px l a b=true) (hb:b<=200):∃ k:Nat,l=dig k/\a<=k/\k<=b/\af (S l)=some (k:Int):=by
 unfold Px at h
 obtain⟨k,hk,e⟩:=a6.mp h
 have e:l=dig (a+k):=of_decide_eq_true e
 have hk:=S_.mp hk
 refine⟨a+k,e,by omega,by omega,?_⟩
 rw[e,Qf]
 exact UY ⟨a+k,by omega⟩
theorem Zh (h:hasC ws=true):∃ n,cntL (ws.getD 0 [])=some n/\(ws.length=n∨(ws.getD 0 []=tPRS/\n < ws.length)):=by
 unfold hasC at h
 cases hc:cntL (ws.getD 0 []) with
 | none=>rw[hc] at h;cases h
 | some n =>
  rw[hc] at h
  refine⟨n,rfl,?_⟩
  simp only[VF,NS,decide_eq_true_eq] at h
  exact h
theorem U0 (ws:List (List Nat)):(Nd ws).length=ws.length:=M5 ..
theorem iM (ws:List (List Nat))(h:2<=ws.length):cutV (Nd ws) (some 2) none=Nd (ws.drop 2):=by
 rw[W9,Nd,Xa]
 have:=W8 ws 2 h
 rw[show cutA ws (some 2) none=ws.drop 2 from this];rfl
theorem refuses.mono {C:Ab}{f:Str}{y:V}{H H':Hp}{E:XK}(h:refuses C f y H E)(s:Same H H'):refuses C f y H' E:=fun e d H2 h1 h2 h3=>h e d H2 h1 h2 (s.trans h3)
theorem Zi (h:cntL l=some n):2<=n/\(l≠tPTS->l≠tPAR->3<=n)/\(l=tTON->n=4):=by
 unfold cntL at h
 by_cases h1:l=tTON
 ·rw[B3 h1] at h;injection h with h
  exact⟨by omega,fun _ _=>by omega,fun _=>h.symm⟩
 rw[B2 h1] at h
 refine⟨?_,fun a b=>?_,fun z=>absurd z h1⟩
 ·repeat' split at h
  all_goals first | (cases h;done) | (injection h with h;omega)
 ·rw[B2 a,B2 b] at h
  repeat' split at h
  all_goals first | (cases h;done) | (injection h with h;omega)
theorem t_bar:M' "|"=S [124]:=by decide +kernel
theorem iN {w g:List Nat}{c:Nat}(h:c∈w):c∈txt w g w.length:=by
 obtain⟨k,hk,rfl⟩:=ZR.mp h
 unfold txt
 refine List.mem_flatMap.mpr ⟨k,S_.mpr hk,?_⟩
 unfold bit
 refine NP.mpr (.inr ?_)
 rw[Nl,Na hk]
 exact N3.mpr rfl
theorem OkN.told {n:Nat} (h:OkN n b) (hn:n<=90) {w g:List Nat} (hc:∀ c∈w,c < 128) (hR:Rise 0 w.length g):OkN (n+1) ⟨b.pats,putG b.told w (g.map fun k:Nat=>(k:Int)),b.hd,b.tl⟩:=by
 have hl:=Y5 b.told w (g.map fun k:Nat=>(k:Int))
 have h1:=h.pn
 have h2:=h.tn
 refine⟨⟨h.ok.ps,h.ok.pl,by show (putG _ _ _).length<=100;omega,UT h.ok.nd,h.ok.pc,fun x hx=>?_,fun x hx=>?_⟩,by show b.pats.length<=n+1;omega,by show (putG _ _ _).length<=n+1;omega,h.vp⟩
 ·rcases Y6 hx with hx | rfl
  ·exact h.ok.tc x hx
  ·exact hc
 ·rcases Y6 hx with hx | rfl
  ·exact h.ok.tg x hx
  ·exact⟨g,rfl,hR⟩
theorem vp_low (h:VP s ns):∀ c∈s,c < 128:=fun c hc=>by
 obtain⟨k,hk,rfl⟩:=ZR.mp hc
 have e:s.getD k 0=s[k]:=by rw[Nl,Na hk];rfl
 rcases h.let_ k hk with ⟨h1,_⟩ | h1
 ·rw[e] at h1;omega
 ·rw[e] at h1
  have:97<=s[k]/\s[k]<=122:=of_decide_eq_true h1
  omega
theorem OkN.pat (h:OkN n b) (hn:n<=90) (hx:VP x.1 x.2):OkN (n+1) ⟨b.pats++[x],b.told,b.hd,b.tl⟩:=by
 have h1:=h.pn
 have h2:=h.tn
 have hl:(b.pats++[x]).length=b.pats.length+1:=by rw[No];rfl
 have hm:∀ y∈b.pats++[x],y∈b.pats∨y=x:=fun y hy=>(NP.mp hy).imp id N3.mp
 refine⟨⟨fun y hy=>?_,by show (b.pats++[x]).length<=100;omega,h.ok.tl,h.ok.nd,fun y hy=>?_,h.ok.tc,h.ok.tg⟩,by show (b.pats++[x]).length<=n+1;omega,by show b.told.length<=n+1;omega,fun y hy=>?_⟩
 ·rcases hm y hy with hy | rfl
  ·exact h.ok.ps y hy
  ·have:=hx.len
   have:=hx.pos
   have:=hx.nlen
   omega
 ·rcases hm y hy with hy | rfl
  ·exact h.ok.pc y hy
  ·exact vp_low hx
 ·rcases hm y hy with hy | rfl
  ·exact h.vp y hy
  ·exact hx
theorem iO (n:Nat)(hd tl:Int):OkN n ⟨[],[],hd,tl⟩ :=
 ⟨⟨(fun x hx=>nomatch hx),NA _,NA _,List.nodup_nil,(fun x hx=>nomatch hx),(fun x hx=>nomatch hx),fun x hx=>nomatch hx⟩,NA _,NA _,fun x hx=>nomatch hx⟩
theorem iP (h:NV ms z=some b):∃ m∈ms,m.2=b:=by
 unfold NV at h
 obtain⟨m,hm,rfl⟩:=j4.mp h
 exact⟨m,jH hm,rfl⟩
theorem iQ (T:Txt mg tk)(O:Ow K mg cO)(O2:Ow2 K mg cO2)(O3:Ow3 K mg cO3)(F:Fun K "say" "Desk.say" s_Desk_say f fd)(CS:Dn P w K mg base "words_of_row" 5 ["row"] Zd)(Dz:DnX P w K mg base "pressed" 7 ["tongues","text","width"] (YW cO cO2 (ad 6) (ad 4)))(Dq:Dn P w K mg base "parted" 1 ["texts","sign"] Y9)(B9:Dk P w K mg base cO 2 ["self","patterns","told","head","tail"] (Sl cO))(B7:DmX P w K mg base cO2 "breaker_of" 3 ["self","name"] (UN cO2 (ad 6)))(Cm:Dn P w K mg base "with_pattern_more" 5 ["breaker","text"] (spWPM cO))(Da:Dn P w K mg base "with_told" 4 ["breaker","broken"] (spWT cO))(CZ:Dn P w K mg base "read_broken" 2 ["text"] YY)(C5:Dn P w K mg base "shown_word" 6 ["breaker","text"] (Y8 cO))(CF:Dn P w K mg base "shown_pattern" 2 ["pattern"] Y1)(Cy:Dm P w K mg base cO3 "keep" 6 ["self","name","breaker"] (Zf cO3 cO cO2))(Db:Dm P w K mg base cO3 "pare" 1 ["self","name","breaker"] Zg) :
  FnOk P w K mg base (CXx P w) 8 f fd ["self","row"] (spSay cO3 cO cO2 (ad 4) (ad 6)):=by
 refine F.okx ["self","row","words","name","breaker"] ?_
 rintro _ _ _ s H _ _ _ hr ⟨d,tp,td,kvs,ms,D,n,ws,rfl,hW,⟨IJ,D8,hD,FG,FE,hn,hok⟩,q1⟩ nd
 refine⟨_,(MS (pst 2 nd (M3 CS hr.MX rfl (pa1 (pv 1))))
  (MS (Nc (Nb (o_eq hr.units) (pix K (pv 2) MP) (M4 Ss) (M9 _))
   (MU (M8 (M3 Dq hr.MX rfl (MQ (X9 Dz hr.MX rfl (aA (fun _ _ _ z=>z)) (MQ (Oh (pv 0) rfl) (MQ (Ob (Od (K:=K)) (pv 2) (NR MP) Pe) (pa1 (pct Sb T.z_int (pa1 (pix K (pv 2) MP))))))) (pa1 (M4 t_bar))))))
   Ni)
  (MS (pst 3 nd (pix K (pv 2) MP))
  (MS (Nc (Nb (o_eq hr.units) (pix K (pv 2) MP) (M4 Pn) (M9 _))
   (MU (M8 (SS (pv 0) O3.cl Cy hr.MX (MQ (pv 3) (pa1 (Uj B9 hr.MX rfl O.m_Breaker (MQ (NN O7) (MQ (NN O7) (MQ (pct Sb T.z_int (pa1 (pix K (pv 2) MP))) (pa1 (pct Sb T.z_int (pa1 (pix K (pv 2) MP)))))))))))))
   Ni)
  (MS (pst 4 nd (UA (Oh (pv 0) rfl) O2.cl B7 hr.MX (aA (fun _ _ _ z=>z)) (pa1 (pv 3))))
  (MS (Nc (Nb (o_eq hr.units) (pix K (pv 2) MP) (M4 t_pat) (M9 _))
   (MU (M8 (SS (pv 0) O3.cl Cy hr.MX (MQ (pv 3) (pa1 (M3 Cm hr.MX rfl (MQ (pv 4) (pa1 (pix K (pv 2) MP)))))))))
   Ni)
  (MS (Nc (Nb (o_eq hr.units) (pix K (pv 2) MP) (M4 t_tol) (M9 _))
   (MU (M8 (SS (pv 0) O3.cl Cy hr.MX (MQ (pv 3) (pa1 (M3 Da hr.MX rfl (MQ (pv 4) (pa1 (M3 CZ hr.MX rfl (pa1 (pix K (pv 2) MP)))))))))))
   Ni)
  (MS (Nc (Nb (o_eq hr.units) (pix K (pv 2) MP) (M4 t_brk) (M9 _))
   (MU (M8 (M3 C5 hr.MX rfl (MQ (pv 4) (pa1 (pix K (pv 2) MP))))))
   Ni)
  (MS (Nc (Nb (o_eq hr.units) (pix K (pv 2) MP) (M4 UV) (M9 _))
   (MU (M8 (M3 Dq hr.MX rfl (MQ (PP ["pattern"] [none] rfl (by kernel_rfl) rfl (Pf (K:=K) (Oh (pv 4) rfl)) (fun _ _ _ _=>(N_ (i:=0) (show (["pattern"]:List Str).Nodup by decide +kernel) rfl (Or.inl rfl) (Or.inr rfl))) (fun _ _ _ _=>QK) (fun _ _ _ _=>(M3 CF hr.MX rfl (pa1 (pv 0))))) (pa1 (M4 Pm))))))
   Ni)
  (MU (M8 (SS (pv 0) O3.cl Db hr.MX (MQ (pv 3) (pa1 (pv 4))))))))))))))),?_⟩
 walk_at "s0"
 ext
 refine⟨ws,rfl,hW,fun r H1 Cd er s1=>?_⟩
 obtain⟨qp,qt,qn,qb⟩:=q1
 obtain⟨CA,DX,DJ,Di⟩:=hW
 have DJ:∀ x∈ws,x.length<=50/\∀ c∈x,c < 128:=fun x hx=>⟨(DJ x hx).1,fun c hc=>by have:=(DJ x hx).2 c hc;omega⟩
 unfold Qg at Di
 rw[NS] at Di
 obtain⟨hh,Di⟩:=Di
 obtain⟨cn,E9,B8⟩:=Zh hh
 have E2:∀ i,(ws.getD i []).length<=50/\∀ c∈ws.getD i [],c < 128:=fun i=>by
  rw[Nl]
  cases e:ws[i]? with
  | none=>exact⟨NA _,fun c hc=>nomatch hc⟩
  | some x=>exact DJ x (Q9 e)
 have JQ:=IJ.same s1
 obtain⟨⟨dd,ed⟩,hT⟩:=id JQ
 have h0:=OG (show 0 < ws.length by
  cases ws with
  | nil=>cases E9
  | cons _ _=>simp)
 ext
 by_cases hP:ws.getD 0 []=tPRS
 ·refine Pg (by rw[hP]) ?_
  rw[B3 hP] at Di
  obtain⟨wd,FY,C9,Ga,LL⟩:=UZ Di (by decide)
  have EZ:3<=ws.length:=by
   rw[hP] at E9
   cases E9
   omega
  have h1:=OG (show 1 < ws.length by omega)
  obtain⟨qp1,qp2,qp3⟩:=qp hP
  ext
  refine Oj ?_
  ext
  refine Ol ed O3.cl O3.n_tongues rfl ?_
  ext
  refine i_slL (SqL.of er) fun a2 EQ=>?_
  rw[iM ws (by omega)]
  obtain⟨H2,GF,s2,ea2⟩:=OU EQ (.lst (Nd (ws.drop 2)))
  rw[GF]
  have er2:=s2 _ _ er
  have s12:=s1.trans s2
  ext
  refine⟨(wd:Int),LL,by rw[Nn];have:=(E2 1).1;omega,?_⟩
  ext
  refine⟨tp,td,a2,kvs,ms,ws.drop 2,wd,rfl,hT.same s2,(FG.same (Rs _ _)).same s12,ea2,by rw[Qh];omega,fun x hx=>⟨(DJ x (Vc hx)).2,(DJ x (Vc hx)).1,qp1 x hx⟩,by omega,by omega,fun nm GO=>(qp2 nm GO).mono s12,fun ht k lns hg=>((qp3 ht wd Ga FY).1 k lns hg).mono s12,fun ht r3 lns H3 hg e3 EZ Fb s3=>?_⟩
  ext
  refine⟨r3,lns,124,rfl,e3,EZ,Fb,?_⟩
  exact(qp3 ht wd Ga FY).2 _ hg H3 (s12.trans s3)
 ·refine Ph (fun z=>hP (S_inj.mp z)) ?_
  rw[B2 hP] at Di
  have B8:ws.length=cn:=B8.resolve_right fun z=>hP z.1
  obtain⟨GZ,II,LM⟩:=Zi E9
  have h1:=OG (show 1 < ws.length by omega)
  ext
  by_cases Fm:ws.getD 0 []=tTON
  ·refine Pg (by rw[Fm]) ?_
   rw[B3 Fm,NS,NS] at Di
   obtain⟨⟨DI,ER⟩,_⟩:=Di
   have LN:=LM Fm
   have h2:=OG (show 2 < ws.length by omega)
   have h3:=OG (show 3 < ws.length by omega)
   obtain⟨hd,Dx,_,C8,LO⟩:=UZ DI (by decide)
   obtain⟨tl,tl1,_,tl2,tli⟩:=UZ ER (by decide)
   ext
   refine Rq ?_
   ext
   refine Rr ed rfl ?_
   ext
   refine P9 ?_
   ext
   intro la GQ
   obtain⟨H2,GF,s2,ela⟩:=OU GQ (.lst [])
   rw[GF]
   ext
   intro lb LP
   obtain⟨H3,FF,s3,elb⟩:=OU LP (.lst [])
   rw[FF]
   have s23:=s2.trans s3
   have er3:=s23 _ _ er
   ext
   refine⟨(hd:Int),LO,by rw[Nn];have:=(E2 2).1;omega,?_⟩
   ext
   refine⟨(tl:Int),tli,by rw[Nn];have:=(E2 3).1;omega,?_⟩
   ext
   intro xo dx hx Gz CA
   have s4:Same H3 (upd (upd H3 dx (.own xo)) xo (.ins cO dx [])):=fun b o e=>by
    rw[MR (MZ e hx),MR (MZ e Gz)];exact e
   have e4:=MT (H:=upd H3 dx (.own xo)) (a:=xo) (o:=.ins cO dx [])
   generalize upd (upd H3 dx (.own xo)) xo (.ins cO dx [])=H4 at s4 e4 ⊢
   refine⟨xo,la,lb,dx,[],[],[],[],(hd:Int),(tl:Int),rfl,e4,s4 _ _ (s3 _ _ ela),s4 _ _ elb,by simp only[N8,L2.IsL],by simp only[N8,L2.IsL],by simp,by simp,by simp,fun kd ld H5 Ft EL hB off=>⟨rfl,?_⟩⟩
   have s35:Same H3 H5:=fun b o e=>off b o (MZ e hx) (s4 _ _ e)
   have s05:=s1.trans (s23.trans s35)
   ext
   have Em:=FG.len
   refine⟨d,tp,td,xo,kd,ld,kvs,ws.getD 1 [],[],[],(hd:Int),(tl:Int),rfl,IJ.same s05,hB,by simp,by simp,by simp,by omega,fun p kd' ld' H6 g1 g2 g3 GD e6 off6=>?_⟩
   exact UX (b:=⟨[],[],(hd:Int),(tl:Int)⟩) (qt Fm hd tl (by omega) (by omega) Dx tl1) FG D8 hD s05 g1 g2 g3 GD e6 off6 (iO _ _ _)
  ·refine Ph (fun z=>Fm (S_inj.mp z)) ?_
   obtain⟨dxt,t1,t2⟩:=id hT
   ext
   refine Rq ?_
   ext
   refine Oj ?_
   ext
   refine Ol ed O3.cl O3.n_tongues rfl ?_
   refine Rr t1 rfl ?_
   ext
   refine⟨tp,td,kvs,ws.getD 1 [],rfl,hT,(E2 1).2,by have:=(E2 1).1;omega,?_⟩
   have HK:=(FG.same (Rs _ _)).same s1
   cases D0:NV ms (ws.getD 1 []) with
   | none=>exact .inr ⟨HK.look0 _ D0,(qn hP Fm D0).mono s1⟩
   | some b =>
    obtain⟨bp,bkd,bld,DZ,hB,hO⟩:=HK.look _ b D0
    obtain⟨qb0,qb1,qb2,qb3,qb4⟩:=qb b D0
    have Em:=FG.len
    have Fw:OkN n b:=by
     obtain⟨m,hm,rfl⟩:=iP D0
     exact hok m hm
    refine .inl ⟨.ref bp,DZ,?_⟩
    obtain⟨dx0,ys0,kvs0,b1,b2,b3,b4,b5⟩:=id hB
    ext
    by_cases GR:ws.getD 0 []=tPAT
    ·refine Pg (by rw[GR]) ?_
     have EZ:3<=ws.length:=by
      have:=II (by rw[GR];decide) (by rw[GR];decide)
      omega
     have h2:=OG (show 2 < ws.length by omega)
     obtain⟨x,hx,ex,qk⟩:=qb1 GR
     ext
     refine Rq ?_
     ext
     refine Rr ed rfl ?_
     ext
     refine⟨bp,bkd,bld,b,x,by rw[ex];rfl,hB,hO,hx,fun p kd ld H2 g1 g2 g3 IH s2=>?_⟩
     have Fe:=Fw.pat hn (x:=x) hx
     have s02:=s1.trans s2
     ext
     have Cj:=Fe.pn
     have Ds:=Fe.tn
     refine⟨d,tp,td,p,kd,ld,kvs,ws.getD 1 [],b.pats++[x],b.told,b.hd,b.tl,rfl,IJ.same s02,IH,by have:(b.pats++[x]).length<=n+1:=Cj;omega,by have:b.told.length<=n+1:=Ds;omega,Fw.ok.nd,by omega,fun p' kd' ld' H6 k1 k2 k3 GD e6 off6=>?_⟩
     exact UX (b:=⟨b.pats++[x],b.told,b.hd,b.tl⟩) qk FG D8 hD s02 k1 k2 k3 GD e6 off6 Fe
    ·refine Ph (fun z=>GR (S_inj.mp z)) ?_
     ext
     by_cases GS:ws.getD 0 []=tTOL
     ·refine Pg (by rw[GS]) ?_
      have EZ:3<=ws.length:=by
       have:=II (by rw[GS];decide) (by rw[GS];decide)
       omega
      have h2:=OG (show 2 < ws.length by omega)
      obtain⟨w',g,ew,hw',hR,qk⟩:=qb2 GS
      ext
      refine Rq ?_
      ext
      refine Rr ed rfl ?_
      ext
      have Ff:0 < w'.length/\∀ c∈w',NL c=true:=by
       unfold N7 at hw'
       simpa using hw'
      refine⟨_,w',g,rfl,by have:=(E2 2).1;omega,by rw[ew];exact d7 Ff.2 hR Ff.1,fun v H2 IG s2=>?_⟩
      have LQ:∀ c∈w',c < 128:=fun c hc=>(E2 2).2 c (by rw[ew];exact iN hc)
      have Fe:=Fw.told hn LQ hR
      rw[iL] at IG
      have s02:=s1.trans s2
      have Cj:=Fe.pn
      have Ds:=Fe.tn
      have HL:=Fw.pn
      have LR:=Fw.tn
      ext
      refine⟨bp,bkd,bld,v,b.pats,b.told,b.hd,b.tl,_,rfl,hB.same s2,IG,by omega,by omega,Fw.ok.nd,fun p kd ld H3 g1 g2 g3 LS s3=>?_⟩
      have s03:=s02.trans s3
      ext
      refine⟨d,tp,td,p,kd,ld,kvs,ws.getD 1 [],b.pats,putG b.told w' (g.map fun k:Nat=>(k:Int)),b.hd,b.tl,rfl,IJ.same s03,LS,by omega,by have:(putG b.told w' (g.map fun k:Nat=>(k:Int))).length<=n+1:=Ds;omega,UT Fw.ok.nd,by omega,fun p' kd' ld' H6 k1 k2 k3 GD e6 off6=>?_⟩
      exact UX (b:=⟨b.pats,putG b.told w' (g.map fun k:Nat=>(k:Int)),b.hd,b.tl⟩) qk FG D8 hD s03 k1 k2 k3 GD e6 off6 Fe
     ·refine Ph (fun z=>GS (S_inj.mp z)) ?_
      ext
      by_cases GT:ws.getD 0 []=tBRK
      ·refine Pg (by rw[GT]) ?_
       have EZ:3<=ws.length:=by
        have:=II (by rw[GT];decide) (by rw[GT];decide)
        omega
       have h2:=OG (show 2 < ws.length by omega)
       obtain⟨hw',qk⟩:=qb3 GT
       ext
       have Ff:0 < (ws.getD 2 []).length/\∀ c∈ws.getD 2 [],NL c=true:=by
        unfold N7 at hw'
        simpa using hw'
       refine⟨bp,bkd,bld,b,ws.getD 2 [],rfl,hB,hO,by have:=(E2 2).1;omega,Rx.mp Ff.1,Ff.2,fun H2 s2=>?_⟩
       exact qk H2 (s1.trans s2)
      ·refine Ph (fun z=>GT (S_inj.mp z)) ?_
       ext
       by_cases JR:ws.getD 0 []=tPTS
       ·refine Pg (by rw[JR]) ?_
        try rw[<- UV]
        ext
        refine Oj ?_
        ext
        refine Ol b1 O.cl O.n_patterns rfl ?_
        refine RV (SqL.of b4) ?_
        intro r2 De
        have En:=b5.length
        rw[M5] at En
        have HL:=Fw.pn
        refine ao (K:=K) (xs:=ys0) (fun i B6 σ H'=>∃ x,σ=[x]/\B6=Nd ((b.pats.take i).map fun x=>ptxt x.1 x.2)/\H' r2=some (.lst B6)/\Same H1 H') (fun i B6 σ H' _ hI9=>by rcases hI9 with ⟨_,_,_,_,s⟩;exact SqL.of (s _ _ b4))
         ⟨none,rfl,rfl,MT,Nh De _⟩ (fun i B6 σ H' hI9=>by rcases hI9 with ⟨_,_,e,e2,_⟩;exact⟨e2,by rw[e,Nd,M5,M5,NX];omega⟩) (szn (by omega)) ?_ ?_
        ·intro i B6 σ H2 hi hI9
         obtain⟨x,rfl,rfl,e2,s2⟩:=hI9
         rw[En] at hi
         obtain⟨y,dy,hy,Dx,hI⟩:=IsL.get (IsL.same s2 b5) (show i < (b.pats.map patD).length by simpa using hi)
         rw[Nz,Na hi] at Dx
         cases Dx
         rw[Nl,hy,bx]
         ext
         refine⟨y,b.pats[i],rfl,hI,Fw.vp _ (N5 hi),fun H3 s3=>?_⟩
         refine⟨s3 _ _ e2,_,rfl,?_,MT,Sq De (s2.trans s3)⟩
         rw[OC,Na hi,Nd,Nd,Np,Np];rfl
        ·intro B6 σ H2 hI9
         obtain⟨x,rfl,rfl,e2,s2⟩:=hI9
         rw[En,OB] at e2
         ext
         refine⟨r2,(b.pats.map fun x:Pat=>ptxt x.1 x.2),32,rfl,e2,by rw[M5];omega,fun x hx=>?_,?_⟩
         ·obtain⟨y,hy,rfl⟩:=On.mp hx
          have:=Vr y.1 y.2
          have:=(Fw.vp y hy).len
          omega
         ·exact qb4 JR H2 (s1.trans s2)
       ·exfalso
        unfold cntL at E9
        rw[B2 Fm,B2 GR,B2 GS,B2 GT,B2 JR,B2 qb0,B2 hP] at E9
        cases E9
noncomputable abbrev s_law_letters:As:=top 80
noncomputable abbrev s_law_word:As:=top 81
theorem iR (T:Txt mg tk)(F:Fun K "_law_letters" "_law_letters" s_law_letters f fd)(B5:Dn P w K mg base "_law_next" 1 ["_law_feed_here","_law_many"] R5):FnOk P w K mg base CX0 2 f fd ["_law_feed_here"] W4:=by
 refine F.okk ["_law_feed_here","_law_every","_law_at"] ?_
 rintro _ _ _ _ H _ _ _ hr ⟨p,n,rfl,hf,hn,q⟩ nd
 refine⟨_,(MS (pst 1 nd (M4 t_let))
  (MS (Nc (Nb (o_eq hr.units) (M3 B5 hr.MX rfl (MQ (pv 0) (pa1 MP))) MP (M9 _))
   (MU (M8 (pv 1)))
   Ni)
  (MS (pst 2 nd (M3 B5 hr.MX rfl (MQ (pv 0) (pa1 MP))))
  (MU (M8 (Ob (Od (K:=K)) (pv 1) (NR (pv 2)) (NR (MY M_ (MY M_ (pv 2) MP) (M3 B5 hr.MX rfl (MQ (pv 0) (pa1 MP))))))))))),?_⟩
 walk_at "s0"
 ext
 refine⟨p,8,n,rfl,hf,by omega,by decide,by decide,fun d H1 E3 Dx Dv o1=>?_⟩
 ext
 refine iteD (fun c=>?_) (fun c=>?_)
 ·ext
  exact q LETL H1 W_ (by decide) (by decide) (Dv.mono (by omega)) o1
 ·ext
  refine⟨p,23,n+1,rfl,Dv,by omega,by decide,by decide,fun at_ H2 IB DD Dw o2=>?_⟩
  ext
  refine⟨p,3,n+1+1,rfl,Dw,by omega,by decide,by decide,fun d3 H3 DK Ex Df o3=>?_⟩
  ext
  rw[W6]
  have hl:LETL.length=26:=rfl
  have hc:=eB LETL (some at_) (some (at_+2+d3))
  rw[hl] at hc
  have e1:sx 26 0 (some at_)=at_.toNat:=by simp only[sx];rw[B2 (by omega)];omega
  have e2:sx 26 26 (some (at_+2+d3))=min (at_+2+d3).toNat 26:=by simp only[sx];rw[B2 (by omega)]
  rw[e1,e2] at hc
  exact q _ H3 (ez W_ _ _) (by omega) (by omega) (Df.mono (by omega)) ((o1.trans o2).trans o3)
theorem iS (T:Txt mg tk)(F:Fun K "_law_word" "_law_word" s_law_word f fd)(B5:Dn P w K mg base "_law_next" 1 ["_law_feed_here","_law_many"] R5):FnOk P w K mg base CX0 2 f fd ["_law_feed_here","_law_letters_here","_law_most"] QY:=by
 refine F.okk ["_law_feed_here","_law_letters_here","_law_most"] ?_
 rintro _ _ _ _ H _ _ _ hr ⟨p,n,l,m,rfl,hf,hn,hl,Eg,GJ,Fq,HE,q⟩ nd
 refine⟨_,(MU (M8 (NF (K:=K) OD Rc Re SM (M4 Of) (pa1 (PP ["_law_letters_here","_law_feed_here","_law_k"] [some 1,some 0,none] rfl (by kernel_rfl) rfl (QE rfl T.z_range (pa1 (MY M_ MP (M3 B5 hr.MX rfl (MQ (pv 0) (pa1 (pv 2))))))) (fun _ _ _ _=>(N_ (i:=2) (show (["_law_letters_here","_law_feed_here","_law_k"]:List Str).Nodup by decide +kernel) rfl (Or.inl rfl) (Or.inr rfl))) (fun _ _ _ _=>QK) (fun _ _ _ _=>(pix K (pv 0) (M3 B5 hr.MX rfl (MQ (pv 1) (pa1 (pcb (Nu (K:=K)) T.z_len (pa1 (pv 0))))))))))))),?_⟩
 walk_at "s0"
 ext
 refine⟨p,m,n,rfl,hf,by omega,by omega,by omega,fun d H1 E3 Dx Dv o1=>?_⟩
 ext
 intro r Cd
 have k1:Kept p H (upd H1 r (.lst [])):=o1.kept.new Cd _
 have pr:p≠r:=by
  obtain⟨o,e⟩:=Dv.some
  exact MZ e Cd
 refine RR (fun i B6 σ H'=>∃(v:Option V) (ws:List Nat),σ=[some (.str (S l)),some (.ref p),v]/\B6=(ws.map fun c=>V.str (S [c]))/\ws.length=i/\Low ws/\FeedAt H' p (n+1+i)/\Kept p H H'/\H' r=some (.lst B6))
  ⟨none,[],rfl,rfl,rfl,(fun c hc=>nomatch hc),Dv.new Cd,k1,MT⟩ (fun i B6 σ H' hI9=>by rcases hI9 with ⟨_,ws,_,e,e1,_,_,_,e2⟩;exact⟨e2,by rw[e,M5];omega⟩) (szn (by omega)) ?_ ?_
 ·intro i B6 σ H' hi hI9
  obtain⟨v,ws,rfl,rfl,Dd,C9,Dw,k2,e2⟩:=hI9
  have Ep:(S l).length<=Ae:=szn (by rw[Nn];omega)
  ext
  refine⟨p,_,n+1+i,rfl,Dw,by omega,by omega,by omega,fun c H3 Gv JA Df o3=>?_⟩
  have EW:c.toNat < l.length:=by omega
  refine T6 (c:=l[c.toNat]) Ep (Pj Gv (by rw[T_];simp[EW])) ?_
  have e3:H3 r=some (.lst (ws.map fun c=>V.str (S [c]))):=(o3 r pr.symm).trans e2
  refine⟨e3,_,ws++[l[c.toNat]],rfl,by rw[Np];rfl,by rw[No,Dd];rfl,eA C9 (fun x hx=>?_),?_,?_,MT⟩
  ·have:x=l[c.toNat]:=by simpa using hx
   rw[this]
   exact hl _ (N5 _)
  ·obtain⟨a1,b1,c1,g1,g2⟩:=Df
   exact⟨a1,b1,c1,by rw[MR pr];exact g1,g2⟩
  ·intro b o hb e
   have EK:b≠r:=fun z=>by
    subst z
    have:=k1
    by_cases hz:H b=none
    ·rw[hz] at e;cases e
    ·have e4:=o1 b hb
     rw[Cd] at e4
     exact hz e4.symm
   rw[MR EK]
   exact(o3 b hb).trans (k2 b o hb e)
 ·intro B6 σ H' hI9
  obtain⟨v,ws,rfl,rfl,Dd,C9,Dw,k2,e2⟩:=hI9
  ext
  have hs:=eD ws
  refine SO (ys:=ws.map fun c=>S [c]) (by rw[<- eE];exact Pt e2) ?_ ?_
  ·rw[hs,M5,Nn]
   simp only[Ot,Nat.mul_zero]
   omega
  ·rw[eC]
   ext
   exact q ws H' C9 (by omega) (by omega) (Dw.mono (by omega)) k2
noncomputable abbrev s_law_numbers:As:=top 82
def Zj:Sp:=fun vs H Q _=>∃(p:Ab) (n:Nat) (s:List Nat) (few:Int),vs=[.ref p,.str (S s),.int few]/\FeedAt H p n/\n+100 < R4/\s.length<=30/\0 < few/\few < 1000 /\
 ∀(t:Ab) (ns:List Int) (H':Hp),H' t=some (.tup (ns.map V.int))->ns.length=s.length+1->(∀(j:Nat) v,ns[j]?=some v->0<=v/\v<=9/\(j=0->s.head?=some 46->v=0)/\(j=s.length->s.getLast?=some 46->v=0))->FeedAt H' p (n+100)->Kept p H H'->Q (.ref t) H'
theorem iT (T:Txt mg tk)(F:Fun K "_law_numbers" "_law_numbers" s_law_numbers f fd)(B5:Dn P w K mg base "_law_next" 1 ["_law_feed_here","_law_many"] R5):FnOk P w K mg base CX0 2 f fd ["_law_feed_here","_law_signs","_law_few"] Zj:=by
 refine F.okk ["_law_feed_here","_law_signs","_law_few","_law_numbers_here","_law_place","_law_number"] ?_
 rintro _ _ _ _ H _ _ _ hr ⟨p,n,sg,few,rfl,hf,hn,hs,Gf,KL,q⟩ nd
 refine⟨_,(MS (pst 3 nd (NN O7))
  (MS (Ou Oo rfl (QE rfl T.z_range (pa1 (MY M_ (pcb (Nu (K:=K)) T.z_len (pa1 (pv 1))) MP))) (pnm 4 nd)
   (MS (pst 5 nd MP)
  (MS (Nc (Nb (o_eq hr.units) (M3 B5 hr.MX rfl (MQ (pv 0) (pa1 (pv 2)))) MP (M9 _))
   (MU (pst 5 nd (MY M_ MP (M3 B5 hr.MX rfl (MQ (pv 0) (pa1 MP))))))
   Ni)
  (MS (Nc (PW.pt (Pd (PW.pt (QC (Nb (o_eq hr.units) (pv 4) MP (M9 _)) (Qz (Nb (o_eq hr.units) (Ob (Od (K:=K)) (pv 1) Pe (NR MP)) (M4 P3) (M9 _))))) (Tg (PW.pt (QC (Nb (o_eq hr.units) (pv 4) (pcb (Nu (K:=K)) T.z_len (pa1 (pv 1))) (M9 _)) (Qz (Nb (o_eq hr.units) (Ob (Od (K:=K)) (pv 1) (NR (Ov RO MP)) Pe) (M4 P3) (M9 _))))))))
   (MU (pst 5 nd MP))
   Ni)
  (MU (N9 (NF (K:=K) OI OZ O0 O9 (pv 3) (pa1 (pv 5)))))))))
  (MU (M8 (pct QR T.z_tuple (pa1 (pv 3))))))),?_⟩
 walk_at "s0"
 ext
 intro a ha
 have pa:p≠a:=by obtain⟨o,e⟩:=hf.some;exact MZ e ha
 ext
 refine Vk (fun i σ H'=>∃(v4 v5:Option V) (ns:List Int),σ=[some (.ref p),some (.str (S sg)),some (.int few),some (.ref a),v4,v5]/\ns.length=i/\(∀(j:Nat) v,ns[j]?=some v->0<=v/\v<=9/\(j=0->sg.head?=some 46->v=0)/\(j=sg.length->sg.getLast?=some 46->v=0))/\FeedAt H' p (n+2 * i)/\Kept p H H'/\H' a=some (.lst (ns.map V.int)))
  ⟨none,none,[],rfl,rfl,(fun j v e=>by simp at e),hf.new ha,(Kept.refl p H).new ha _,MT⟩ ?_ ?_
 ·intro i σ H1 hi hI9
  obtain⟨v4,v5,ns,rfl,hl,D7,Dv,k1,e1⟩:=hI9
  ext
  refine⟨p,few,n+2 * i,rfl,Dv,by omega,Gf,by omega,fun d H2 E3 Dx Dw o2=>?_⟩
  have key:∀(num:Int) (H3:Hp),0<=num->num<=9->FeedAt H3 p (n+2 * i+2)->Kept p H H3->H3 a=some (.lst (ns.map V.int)) ->
    ∀(b:Bool),(b=false->(i=0->sg.head?=some 46->num=0)/\(i=sg.length->sg.getLast?=some 46->num=0)) ->
    ∃(v4 v5:Option V) (ns':List Int),[some (V.ref p),some (.str (S sg)),some (.int few),some (.ref a),some (.int (0+(i:Int))),some (.int (if b then 0 else num))]=[some (.ref p),some (.str (S sg)),some (.int few),some (.ref a),v4,v5]/\ns'.length=i+1/\(∀(j:Nat) v,ns'[j]?=some v->0<=v/\v<=9/\(j=0->sg.head?=some 46->v=0)/\(j=sg.length->sg.getLast?=some 46->v=0)) /\
     FeedAt (upd H3 a (.lst (ns.map V.int++[.int (if b then 0 else num)]))) p (n+2 * (i+1))/\Kept p H (upd H3 a (.lst (ns.map V.int++[.int (if b then 0 else num)])))/\(upd H3 a (.lst (ns.map V.int++[.int (if b then 0 else num)]))) a=some (.lst (ns'.map V.int)):=by
   intro num H3 h0 h9 Df k3 e3 b hb
   refine⟨_,_,ns++[if b then 0 else num],rfl,by simp[hl],fun j v e=>?_,?_,fun c o hc e=>?_,by rw[MT,Np];rfl⟩
   ·by_cases hj:j < ns.length
    ·rw[Vv hj] at e
     exact D7 j v e
    ·have LU:j=ns.length:=by
      have:=(NJ.mp e).1
      simp at this;omega
     subst LU
     rw[Vb (M6 _),Z3] at e
     simp only[List.getElem?_cons_zero,kx] at e
     subst e
     cases b with
     | true=>exact⟨VM 0,(by show (0:Int)<=9;decide),fun _ _=>rfl,fun _ _=>rfl⟩
     | false=>exact⟨h0,h9,fun z=>(hb rfl).1 (by omega),fun z=>(hb rfl).2 (by omega)⟩
   ·obtain⟨a1,b1,c1,g1,g2⟩:=Df
    exact⟨a1,b1,c1,by rw[MR pa];exact g1,by omega⟩
   ·have LV:c≠a:=fun z=>by rw[z,ha] at e;cases e
    rw[MR LV];exact k3 c o hc e
  have e2:H2 a=some (.lst (ns.map V.int)):=(o2 a pa.symm).trans e1
  have KM:(ns.map V.int).length < 1000000:=by rw[M5];omega
  have hz:∀(num:Int) (H3:Hp),0<=num->num<=9->FeedAt H3 p (n+2 * i+2)->Kept p H H3->H3 a=some (.lst (ns.map V.int))->True:=fun _ _ _ _ _ _ _=>trivial
  ext
  refine iteD (fun c=>?_) (fun c=>?_)
  ·ext
   refine⟨p,9,n+2 * i+1,rfl,Dw,by omega,by decide,by decide,fun d2 H3 KN IC Df o3=>?_⟩
   have e3:H3 a=some (.lst (ns.map V.int)):=(o3 a pa.symm).trans e2
   have kk:=key (1+d2) H3 (by omega) (by omega) Df ((k1.off o2).off o3) e3
   ext
   refine iteD (fun c1=>?_) (fun c1=>?_)
   ·ext
    refine iteD (fun c2=>?_) (fun c2=>?_)
    ·ext
     exact kk true (fun z=>nomatch z)
    ·ext
     refine iteD (fun c3=>?_) (fun c3=>?_)
     ·ext
      refine iteD (fun c4=>?_) (fun c4=>?_)
      ·ext
       exact kk true (fun z=>nomatch z)
      ·ext
       refine kk false (fun _=>⟨fun _ z=>absurd (congrArg (fun l=>V.str (S l)) (head_dot.mpr z)) c2,fun _ z=>absurd (congrArg (fun l=>V.str (S l)) (last_dot.mpr z)) c4⟩)
     ·ext
      refine kk false (fun _=>⟨fun _ z=>absurd (congrArg (fun l=>V.str (S l)) (head_dot.mpr z)) c2,fun z _=>absurd (by rw[z];simp) c3⟩)
   ·ext
    refine iteD (fun c3=>?_) (fun c3=>?_)
    ·ext
     refine iteD (fun c4=>?_) (fun c4=>?_)
     ·ext
      exact kk true (fun z=>nomatch z)
     ·ext
      refine kk false (fun _=>⟨fun z _=>absurd (by rw[z];rfl) c1,fun _ z=>absurd (congrArg (fun l=>V.str (S l)) (last_dot.mpr z)) c4⟩)
    ·ext
     refine kk false (fun _=>⟨fun z _=>absurd (by rw[z];rfl) c1,fun z _=>absurd (by rw[z];simp) c3⟩)
  ·have kk:=key 0 H2 (by omega) (by omega) (Dw.mono (by omega)) (k1.off o2) e2 false (fun _=>⟨fun _ _=>rfl,fun _ _=>rfl⟩)
   ext
   refine iteD (fun c1=>?_) (fun c1=>?_)
   ·ext
    refine iteD (fun c2=>?_) (fun c2=>?_)
    ·ext
     exact kk
    ·ext
     refine iteD (fun c3=>?_) (fun c3=>?_)
     ·ext
      refine iteD (fun c4=>?_) (fun c4=>?_)
      ·ext
       exact kk
      ·ext
       exact kk
     ·ext
      exact kk
   ·ext
    refine iteD (fun c3=>?_) (fun c3=>?_)
    ·ext
     refine iteD (fun c4=>?_) (fun c4=>?_)
     ·ext
      exact kk
     ·ext
      exact kk
    ·ext
     exact kk
 ·intro σ H1 hI9
  obtain⟨v4,v5,ns,rfl,hl,D7,Dv,k1,e1⟩:=hI9
  ext
  refine WT (OF e1) fun t H2 ht k2=>?_
  ext
  exact q t ns H2 ht (by omega) D7 ((FeedAt.same Dv k2).mono (by omega)) (k1.same k2)
noncomputable abbrev s_law_pattern:As:=top 83
def Sg (s:List Nat):Prop:=s.length<=22/\1<=s.length/\(∀ j,j < s.length->s.getD j 0=46/\(j=0∨j+1=s.length)∨NL (s.getD j 0)=true)/\∃ j,j < s.length/\NL (s.getD j 0)=true
theorem Sg.vp (h:Sg s) (hn:ns.length=s.length+1) (hz:∀(j:Nat) v,ns[j]?=some v->0<=v/\v<=9/\(j=0->s.head?=some 46->v=0)/\(j=s.length->s.getLast?=some 46->v=0)):VP s ns:=by
 obtain⟨h1,h2,h3,h4⟩:=h
 have g:∀ j,j < ns.length->ns[j]?=some (ns.getD j 0):=fun j hj=>by rw[Nl,Na hj];rfl
 have at_:∀ j,j < s.length->s[j]?=some (s.getD j 0):=fun j hj=>by rw[Nl,Na hj];rfl
 refine⟨h1,h2,hn,h3,h4,fun j hj=>⟨(hz j _ (g j hj)).1,(hz j _ (g j hj)).2.1⟩,fun z=>?_,fun z=>?_⟩
 ·exact(hz 0 _ (g 0 (by omega))).2.2.1 rfl (by rw[List.head?_eq_getElem?,at_ 0 (by omega),z])
 ·exact(hz _ _ (g s.length (by omega))).2.2.2 rfl (by rw[ZM,at_ _ (by omega),z])
theorem Sg.low {w:List Nat}(hw:Low w)(h1:1<=w.length)(h2:w.length<=22):Sg w:=by
 have h:∀ j,j < w.length->NL (w.getD j 0)=true:=fun j hj=>by
  rw[Nl,Na hj]
  exact hw _ (N5 hj)
 exact⟨h2,h1,fun j hj=>.inr (h j hj),0,h1,h 0 h1⟩
theorem Sg.cut {w:List Nat}(hw:Low w)(hl:w.length<=20){a k:Nat}(ha:a<=w.length)(hk:1<=k)(Dd:1<=w.length)(CA:(([46]++w++[46]).drop a).take k≠[46]):Sg ((([46]++w++[46]).drop a).take k):=by
 have Ds:([46]++w++[46]).length=w.length+2:=by simp
 have DO:((([46]++w++[46]).drop a).take k).length=min k (w.length+2 - a):=by rw[NX,Qh,Ds]
 have hg:∀ j,j < min k (w.length+2 - a)->((([46]++w++[46]).drop a).take k).getD j 0=([46]++w++[46]).getD (a+j) 0:=fun j hj=>by
  rw[Nl,jI (by omega),List.getElem?_drop,<- Nl]
 have hm:∀ i,1<=i->i<=w.length->NL (([46]++w++[46]).getD i 0)=true:=fun i h1 h2=>by
  have e:([46]++w++[46]).getD i 0=w[i - 1]:=by
   rw[Nl,Ry,Vb (by simpa using h1),Vv (by show i - 1 < _;omega),Na (by show i - 1 < _;omega)];rfl
  rw[e]
  exact hw _ (N5 _)
 refine⟨by omega,by omega,fun j hj=>?_,?_⟩
 ·rw[DO] at hj
  rw[hg j hj,DO]
  by_cases h0:a+j=0
  ·rw[h0];exact .inl ⟨rfl,.inl (by omega)⟩
  ·by_cases h1:a+j<=w.length
   ·exact .inr (hm _ (by omega) h1)
   ·have h2:a+j=w.length+1:=by omega
    refine .inl ⟨?_,.inr (by omega)⟩
    rw[h2,Nl,Vb (by simp)]
    simp
 ·rw[DO]
  by_cases h0:a=0
  ·have h2:2<=min k (w.length+2 - a):=by
    refine Nat.lt_of_le_of_ne (by omega) fun z=>CA ?_
    have Fp:k=1:=by omega
    rw[Fp,h0];rfl
   refine⟨1,by omega,?_⟩
   rw[hg 1 (by omega)]
   exact hm _ (by omega) (by omega)
  ·refine⟨0,by omega,?_⟩
   rw[hg 0 (by omega)]
   exact hm _ (by omega) (by omega)
def U1:Sp:=fun vs H Q _=>∃(p:Ab) (n:Nat) (l w:List Nat) (m:Nat),vs=[.ref p,.str (S l),.str (S w),.int (m:Int)]/\FeedAt H p n/\n+200 < R4/\Low l/\1<=l.length/\l.length<=26/\Low w/\1<=w.length/\w.length<=20/\1<=m/\m<=22 /\
 ∀(v:V) (x:Pat) (H':Hp),Is H' v (patD x)->VP x.1 x.2->FeedAt H' p (n+200)->Kept p H H'->Q v H'
theorem iU (T:Txt mg tk)(F:Fun K "_law_pattern" "_law_pattern" s_law_pattern f fd)(B5:Dn P w K mg base "_law_next" 1 ["_law_feed_here","_law_many"] R5)(B':Dn P w K mg base "_law_word" 2 ["_law_feed_here","_law_letters_here","_law_most"] QY)(C1:Dn P w K mg base "_law_numbers" 2 ["_law_feed_here","_law_signs","_law_few"] Zj):FnOk P w K mg base CX0 3 f fd ["_law_feed_here","_law_letters_here","_law_word_here","_law_most"] U1:=by
 refine F.okk ["_law_feed_here","_law_letters_here","_law_word_here","_law_most","_law_text_here","_law_at","_law_signs"] ?_
 rintro _ _ _ _ H _ Q _ hr ⟨p,n,l,w',m,rfl,hf,hn,hl,Eg,GJ,hw,Dd,C9,Fq,HE,q⟩ nd
 refine⟨_,(MS (pst 4 nd (MY M_ (MY M_ (M4 P3) (pv 2)) (M4 P3)))
  (MS (pst 5 nd (M3 B5 hr.MX rfl (MQ (pv 0) (pa1 (MY QO (pcb (Nu (K:=K)) T.z_len (pa1 (pv 4))) MP)))))
  (MS (pst 6 nd (Ob (Od (K:=K)) (pv 4) (NR (pv 5)) (NR (MY M_ (MY M_ (pv 5) MP) (M3 B5 hr.MX rfl (MQ (pv 0) (pa1 (pv 3))))))))
  (MS (Nc (Nb (o_eq hr.units) (M3 B5 hr.MX rfl (MQ (pv 0) (pa1 MP))) MP (M9 _))
   (MU (pst 6 nd (M3 B' hr.MX rfl (MQ (pv 0) (MQ (pv 1) (pa1 (pv 3)))))))
   Ni)
  (MS (Nc (Nb (o_eq hr.units) (pv 6) (M4 P3) (M9 _))
   (MU (pst 6 nd (Ob (Od (K:=K)) (pv 4) Pe (NR MP))))
   Ni)
  (MU (M8 (NY (MQ (pv 6) (pa1 (M3 C1 hr.MX rfl (MQ (pv 0) (MQ (pv 6) (pa1 MP)))))))))))))),?_⟩
 walk_at "s0"
 ext
 have Ds:([46]++w'++[46]).length=w'.length+2:=by simp
 have JS:=@Sg.cut w' hw C9
 have HM:Sg (cutA ([46]++w'++[46]) none (some 2)):=by
  have e:cutA ([46]++w'++[46]) none (some 2)=(([46]++w'++[46]).drop 0).take 2:=YE _ 2 (by omega)
  rw[e]
  exact JS (NA _) (by decide) Dd fun z=>by have:=congrArg ZY z;rw[NX,Qh,Ds] at this;simp at this
 generalize [46]++w'++[46]=tx at Ds JS HM ⊢
 refine⟨p,_,n,rfl,hf,by omega,by omega,by omega,fun at_ H1 IB DD Dv o1=>?_⟩
 ext
 refine⟨p,_,n+1,rfl,Dv,by omega,by omega,by omega,fun d H2 E3 Dx Dw o2=>?_⟩
 have e1:cutA tx (some at_) (some (at_+1+d))=(tx.drop at_.toNat).take (min (at_+1+d).toNat tx.length - at_.toNat):=by
  unfold cutA
  have e1:sx tx.length 0 (some at_)=at_.toNat:=by simp only[sx];rw[B2 (by omega)];omega
  have e2:sx tx.length tx.length (some (at_+1+d))=min (at_+1+d).toNat tx.length:=by simp only[sx];rw[B2 (by omega)]
  rw[e1,e2]
 have Fk:cutA tx (some at_) (some (at_+1+d))≠[46]->Sg (cutA tx (some at_) (some (at_+1+d))):=fun z=>by
  rw[e1] at z ⊢
  exact JS (by omega) (by omega) Dd z
 ext
 refine⟨p,_,n+1+1,rfl,Dw,by omega,by omega,by omega,fun d4 H3 LW LX Df o3=>?_⟩
 have k3:=((o1.kept).off o2).off o3
 have fin:∀(sg:List Nat) (H5 H6:Hp) (t:Ab) (ns:List Int),Sg sg->H6 t=some (.tup (ns.map V.int))->ns.length=sg.length+1->(∀(j:Nat) v,ns[j]?=some v->0<=v/\v<=9/\(j=0->sg.head?=some 46->v=0)/\(j=sg.length->sg.getLast?=some 46->v=0))->FeedAt H6 p (n+200)->Kept p H H5->Kept p H5 H6->∀ r,H6 r=none->Q (.ref r) (upd H6 r (.tup [.str (S sg),.ref t])):=fun sg H5 H6 t ns hs ht D7 FH DG k5 k6 r Cd =>
  q (.ref r) (sg,ns) _ (R8 MT (by rw[MR (MZ ht Cd)];exact ht)) (hs.vp D7 FH) (DG.new Cd) ((k5.trans k6).new Cd _)
 ext
 refine iteD (fun c=>?_) (fun c=>?_)
 ·ext
  refine⟨p,n+3,l,m,rfl,Df,by omega,hl,Eg,GJ,Fq,by omega,fun w2 H4 JT JU LY DH k4=>?_⟩
  have D6:=Sg.low JT JU (by omega)
  have k5:=k3.trans k4
  ext
  refine iteD (fun c2=>?_) (fun c2=>?_)
  ·ext
   refine⟨p,n+33,_,2,rfl,DH,by omega,by have:=HM.1;omega,by decide,by decide,fun t ns H5 ht D7 FH DA k6=>?_⟩
   ext
   exact fin _ _ _ _ _ HM ht D7 FH (DA.mono (by omega)) k5 k6
  ·ext
   refine⟨p,n+33,_,2,rfl,DH,by omega,by omega,by decide,by decide,fun t ns H5 ht D7 FH DA k6=>?_⟩
   ext
   exact fin _ _ _ _ _ D6 ht D7 FH (DA.mono (by omega)) k5 k6
 ·ext
  refine iteD (fun c2=>?_) (fun c2=>?_)
  ·ext
   refine⟨p,n+3,_,2,rfl,Df,by omega,by have:=HM.1;omega,by decide,by decide,fun t ns H5 ht D7 FH DA k6=>?_⟩
   ext
   exact fin _ _ _ _ _ HM ht D7 FH (DA.mono (by omega)) k3 k6
  ·have HN:=Fk fun z=>c2 (by rw[z])
   ext
   refine⟨p,n+3,_,2,rfl,Df,by omega,by have:=HN.1;omega,by decide,by decide,fun t ns H5 ht D7 FH DA k6=>?_⟩
   ext
   exact fin _ _ _ _ _ HN ht D7 FH (DA.mono (by omega)) k3 k6
noncomputable abbrev s_law_values:As:=top 85
theorem iV (T:Txt mg tk)(F:Fun K "_law_values" "_law_values" s_law_values f fd):FnOk P w K mg base CX0 1 f fd ["_law_patterns_here","_law_word_here"] Sj:=by
 refine F.okk ["_law_patterns_here","_law_word_here","_law_text_here","_law_found","_law_signs","_law_numbers_here","_law_place","_law_k"] ?_
 rintro _ _ _ _ H _ _ _ hr ⟨v,xs,w',rfl,hv,Dc,Ey,Dd,C9,q⟩ nd
 obtain⟨a,ys,rfl,ha,Dr⟩:=Xb hv
 refine⟨_,(MS (pst 2 nd (MY M_ (MY M_ (M4 P3) (pv 1)) (M4 P3)))
  (MS (pst 3 nd (MY Rm (NN (pa1 MP)) (MY QO (pcb (Nu (K:=K)) T.z_len (pa1 (pv 1))) MP)))
  (MS (Ou Oo rfl (Pf (K:=K) (pv 0)) (O6 rfl (Nx (pnm 4 nd) (Nx (pnm 5 nd) OL)))
   (MS (pst 6 nd (NF (K:=K) OD jY jZ dC (pv 2) (pa1 (pv 4))))
  (MU (RG Oo (Nb o_ge (pv 6) MP (M9 _))
   (MS (Ou Oo rfl (QE rfl T.z_range (pa1 (pcb (Nu (K:=K)) T.z_len (pa1 (pv 5))))) (pnm 7 nd)
   (MU (Nc (RI o_lt o_lt MP (MY QO (MY M_ (pv 6) (pv 7)) MP) (pcb (Nu (K:=K)) T.z_len (pa1 (pv 1))))
   (MU (Rk (pcb (c_max rfl) T.z_max (MQ (pix K (pv 3) (MY QO (MY M_ (pv 6) (pv 7)) MP)) (pa1 (pix K (pv 5) (pv 7))))) (QD (pv 3) (MY QO (MY M_ (pv 6) (pv 7)) MP) QT)))
   Ni)))
  (MU (pst 6 nd (NF (K:=K) OD jY jZ dD (pv 2) (MQ (pv 4) (pa1 (MY M_ (pv 6) MP)))))))))))
  (MU (M8 (pv 3)))))),?_⟩
 walk_at "s0"
 have GK:=ay w'
 ext
 rw[Ys]
 intro b0 DK
 ext
 refine W' MT (by omega) fun t FC=>?_
 have Gw:(Nr (((w'.length:Nat):Int) - 1).toNat (V.int 0))=(Nr (w'.length - 1) (0:Int)).map V.int:=by
  rw[List.map_replicate];congr 1;omega
 rw[Gw]
 have s0:Same H (upd (upd H b0 (.lst [.int 0])) t (.lst ((Nr (w'.length - 1) (0:Int)).map V.int))):=(Nh DK _).trans (Nh FC _)
 have IA:H t=none:=(Nh DK _).free FC
 have IB:=s0 _ _ ha
 ext
 refine Vj (K:=K) (xs:=ys) (fun i σ H'=>∃(v4 v5 v6 v7:Option V),σ=[some (.ref a),some (.str (S w')),some (.str (S (frame w'))),some (.ref t),v4,v5,v6,v7]/\H' t=some (.lst ((lawA w'.length (frame w') (Nr (w'.length - 1) 0) (xs.take i)).map V.int))/\Same H H')
  ⟨none,none,none,none,rfl,MT,s0⟩ (fun i σ H' _ hI9=>by rcases hI9 with ⟨_,_,_,_,_,_,s1⟩;exact SqL.of (s1 _ _ ha)) ?_ ?_
 ·intro i x σ H1 hx hI9
  obtain⟨v4,v5,v6,v7,rfl,e1,s1⟩:=hI9
  have DF:i < xs.length:=by
   have h1:=(NJ.mp hx).1
   have h2:=Dr.length
   rw[M5] at h2;omega
  obtain⟨x',d,Eb,Ek,Fs⟩:=IsL.get Dr (i:=i) (by rw[M5];exact DF)
  rw[hx] at Eb
  cases Eb
  rw[Nz,Na DF] at Ek
  cases Ek
  obtain⟨pa,nt,rfl,GN,E1⟩:=Pk Fs
  obtain⟨IC,Gn,Kz⟩:=Dc _ (N5 DF)
  have HP:xs[i].1≠[]:=Rx.mp IC
  have El:=s1 _ _ GN
  have Ee:=s1 _ _ E1
  obtain⟨Hw,_⟩:=Uc w'.length (frame w') (xs.take i) (Nr (w'.length - 1) 0) (by simp)
  generalize hT:lawA w'.length (frame w') (Nr (w'.length - 1) 0) (xs.take i)=T0 at e1 Hw
  refine RU El rfl (Ny (Nt (Ny (Nt (OO ?_)))))
  ext
  rw[find_S]
  refine Sn ⟨fun m σ H'=>∃(k:Nat) (bs:List Nat) (v7:Option V),m=(frame w').length+1 - k/\k<=(frame w').length/\Rn xs[i].1 (frame w') 0=bs++Rn xs[i].1 (frame w') k /\
   σ=[some (.ref a),some (.str (S w')),some (.str (S (frame w'))),some (.ref t),some (.str (S xs[i].1)),some (.ref nt),some (.int (QX xs[i].1 (frame w') k)),v7]/\H' t=some (.lst ((bs.foldl (fun t b=>Oi w'.length t b xs[i].2) T0).map V.int))/\Same H H',⟨_,0,[],_,rfl,NA _,rfl,rfl,e1,s1⟩,?_⟩
  intro m σ H2 hI9
  obtain⟨k,bs,v7,rfl,hk,IK,rfl,e2,s2⟩:=hI9
  ext
  refine iteD (fun c=>?_) (fun c=>?_)
  ·obtain⟨b,FI,Fn,hbf,EF,Cj⟩:=eV hk c
   rw[FI]
   have LZ:=eR HP EF
   have L3:=s2 _ _ E1
   have L4:=(eN w'.length xs[i].2 bs T0 Hw).1
   have JV:bs++Rn xs[i].1 (frame w') k=(bs++[b])++Rn xs[i].1 (frame w') (b+1):=by rw[Cj,Ry];rfl
   rw[JV] at IK
   have Gb:(bs++[b]).foldl (fun t b=>Oi w'.length t b xs[i].2) T0=Oi w'.length (bs.foldl (fun t b=>Oi w'.length t b xs[i].2) T0) b xs[i].2:=by rw[ZU];rfl
   generalize bs.foldl (fun t b=>Oi w'.length t b xs[i].2) T0=T1 at e2 L4 Gb
   refine⟨fun σ' H'=>∃(v7:Option V),σ'=[some (.ref a),some (.str (S w')),some (.str (S (frame w'))),some (.ref t),some (.str (S xs[i].1)),some (.ref nt),some (.int (QX xs[i].1 (frame w') (b+1))),v7]/\H' t=some (.lst ((Oi w'.length T1 b xs[i].2).map V.int))/\Same H H',?_,?_⟩
   ·intro σ' H' hI9
    obtain⟨v7',rfl,e',s'⟩:=hI9
    refine⟨(frame w').length+1 - (b+1),by omega,b+1,bs++[b],v7',rfl,by omega,IK,rfl,?_,s'⟩
    rw[Gb];exact e'
   ·ext
    rw[M5]
    ext
    refine Vk (fun j σ H'=>∃(v7:Option V),σ=[some (.ref a),some (.str (S w')),some (.str (S (frame w'))),some (.ref t),some (.str (S xs[i].1)),some (.ref nt),some (.int (b:Int)),v7]/\H' t=some (.lst ((Oi w'.length T1 b (xs[i].2.take j)).map V.int))/\Same H H')
     ⟨_,rfl,e2,s2⟩ ?_ ?_
    ·intro j σ H3 hj hI9
     obtain⟨v7,rfl,e3,s3⟩:=hI9
     have hj:j < xs[i].2.length:=by omega
     have JW:=s3 _ _ E1
     have Gx:xs[i].2.take (j+1)=xs[i].2.take j++[xs[i].2[j]]:=by rw[OC,Na hj];rfl
     have Hx:=Xk w'.length xs[i].2[j] (xs[i].2.take j) T1 b
     rw[<- Gx,NX,Nat.min_eq_left (Pq hj)] at Hx
     have JD:=eM w'.length (xs[i].2.take j) T1 b
     rw[Hx]
     generalize Oi w'.length T1 b (xs[i].2.take j)=T2 at e3 JD ⊢
     ext
     have key:∀(hc:2<=b+j/\b+j<=w'.length),(lput w'.length T2 (b+j) xs[i].2[j])=put T2 (b+j - 2) xs[i].2[j]:=fun hc=>by unfold lput;rw[B3 hc]
     have key2:∀(hc:¬ (2<=b+j/\b+j<=w'.length)),(lput w'.length T2 (b+j) xs[i].2[j])=T2:=fun hc=>by unfold lput;rw[B2 hc]
     refine iteD (fun c1=>?_) (fun c1=>?_)
     ·ext
      refine iteD (fun c2=>?_) (fun c2=>?_)
      ·have hc:2<=b+j/\b+j<=w'.length:=by omega
       have Hy:b+j - 2 < T2.length:=by omega
       have GM:((b:Int)+(0+(j:Int)) - 2).toNat=b+j - 2:=by omega
       ext
       refine PZ (v:=.int T2[b+j - 2]) (OF e3) (Pj (by omega) (by rw[GM,Nz,Na Hy];rfl)) ?_
       ext
       refine PZ (v:=.int xs[i].2[j]) (Tz JW) (Pj (by omega) (by rw[show (0+(j:Int)).toNat=j by omega,Nz,Na hj];rfl)) ?_
       ext
       refine RW (j:=b+j - 2) e3 (by rw[M5,T8 (by omega) (by omega),GM]) ?_
       rw[Yt T2 (b+j - 2) xs[i].2[j] Hy,<- key hc]
       ext
       refine⟨_,rfl,MT,fun c o e=>?_⟩
       have Iq:c≠t:=fun z=>by rw[z,IA] at e;cases e
       rw[MR Iq]
       exact s3 c o e
      ·ext
       rw[key2 (by omega)]
       exact⟨_,rfl,e3,s3⟩
     ·ext
      rw[key2 (by omega)]
      exact⟨_,rfl,e3,s3⟩
    ·intro σ H3 hI9
     obtain⟨v7,rfl,e3,s3⟩:=hI9
     have hz:((xs[i].2.length:Nat):Int).toNat=xs[i].2.length:=by omega
     rw[hz,OB] at e3
     ext
     rw[show (b:Int)+1=((b+1:Nat):Int) by omega,eh]
     ext
     exact⟨_,rfl,e3,s3⟩
  ·ext
   have hn:=eU (p:=xs[i].1) (f:=frame w') (k:=k) (by omega)
   rw[hn,O_,eQ HP] at IK
   refine⟨_,_,_,_,rfl,?_,s2⟩
   rw[OC,Na DF]
   show H2 t=some (.lst ((VD (lawP w'.length (frame w')) _ (xs.take i++[xs[i]])).map V.int))
   rw[ZU]
   show H2 t=some (.lst ((lawP w'.length (frame w') (lawA w'.length (frame w') (Nr (w'.length - 1) 0) (xs.take i)) xs[i]).map V.int))
   rw[hT]
   unfold lawP
   rw[IK]
   exact e2
 ·intro σ H1 hI9
  obtain⟨v4,v5,v6,v7,rfl,e1,s1⟩:=hI9
  have h2:=Dr.length
  rw[M5] at h2
  rw[h2,OB,eO] at e1
  ext
  exact q t _ IA e1 s1
noncomputable abbrev s_law_text:As:=top 86
noncomputable abbrev s_law_shown:As:=top 88
theorem iW (l:List Nat)(i:Nat)(h:i < l.length):cutA l (some (i:Int)) (some ((i:Int)+1))=[l.getD i 0]:=by
 rw[show ((i:Int)+1)=((i+1:Nat):Int) by omega,Ua l i (i+1) h (Pr i),Rw h,VH,Nl,Na h];rfl
theorem iX (l:List Nat):cutA l (some (l.length:Int)) (some ((l.length:Int)+1))=[]:=by
 refine ZL ?_
 rw[eB]
 have e1:sx l.length 0 (some (l.length:Int))=l.length:=by simp only[sx];rw[B2 (by omega)];omega
 have e2:sx l.length l.length (some ((l.length:Int)+1))=l.length:=by simp only[sx];rw[B2 (by omega)];omega
 rw[e1,e2,Z3]
theorem Vq (s:List Nat)(ns:List Int):∀ i,(pre s ns i).length<=2 * i
 | 0=>M6 _
 | i+1=>by
  have ih:=Vq s ns i
  have:(fig (ns.getD i 0)).length<=1:=by unfold fig;split <;> simp
  simp only[pre,No,ND,Ot];omega
noncomputable def tI (s:List Nat)(ns:List Int)(i:Nat):List Nat:=if i<=s.length then pre s ns i else ptxt s ns
theorem iY (hi:i<=s.length):tI s ns (i+1)=pre s ns i++fig (ns.getD i 0)++cutA s (some (i:Int)) (some ((i:Int)+1)):=by
 unfold tI
 by_cases h:i < s.length
 ·rw[B3 (Nat.succ_le_of_lt h),iW s i h,Ry];rfl
 ·have e:i=s.length:=by omega
  subst e
  rw[B2 (Nat.not_succ_le_self _),iX,O_];rfl
def U2:Sp:=fun vs H Q _=>∃(v:V) (x:Pat),vs=[v]/\Is H v (patD x)/\VP x.1 x.2/\∀ H',Same H H'->Q (.str (S (ptxt x.1 x.2))) H'
def Zk:Sp:=fun vs H Q _=>∃(w g:List Nat) (a:Ab),vs=[.str (S w),.ref a]/\H a=some (.lst (g.map fun k:Nat=>V.int (k:Int)))/\1<=w.length/\w.length<=100/\g.length<=100/\0∉g/\∀ H',Same H H'->Q (.str (S (txt w g w.length))) H'
theorem iZ (T:Txt mg tk)(F:Fun K "_law_text" "_law_text" s_law_text f fd):FnOk P w K mg base CX0 1 f fd ["_law_pattern_here"] U2:=by
 refine F.okk ["_law_pattern_here","_law_signs","_law_numbers_here","_law_text_here","_law_k"] ?_
 rintro _ _ _ _ H _ _ _ hr ⟨v,x,rfl,hv,hx,q⟩ nd
 obtain⟨a,t,rfl,h1,h2⟩:=Pk hv
 have DO:=hx.len
 have Fu:=hx.nlen
 refine⟨_,(MS (Rk (pv 0) (O6 rfl (Nx (pnm 1 nd) (Nx (pnm 2 nd) OL))))
  (MS (pst 3 nd (M4 Of))
  (MS (Ou Oo rfl (QE rfl T.z_range (pa1 (pcb (Nu (K:=K)) T.z_len (pa1 (pv 2))))) (pnm 4 nd)
   (MS (Nc (Nb o_gt (pix K (pv 2) (pv 4)) MP (M9 _))
   (MU (pst 3 nd (MY M_ (pv 3) (pct PQ T.z_str (pa1 (pix K (pv 2) (pv 4)))))))
   Ni)
  (MU (pst 3 nd (MY M_ (pv 3) (Ob (Od (K:=K)) (pv 1) (NR (pv 4)) (NR (MY M_ (pv 4) MP))))))))
  (MU (M8 (pv 3)))))),?_⟩
 walk_at "s0"
 ext
 refine RU h1 rfl (Ny (Nt (Ny (Nt (OO ?_)))))
 ext
 rw[M5]
 ext
 refine Vk (fun i σ H'=>∃(v4:Option V),σ=[some (.ref a),some (.str (S x.1)),some (.ref t),some (.str (S (tI x.1 x.2 i))),v4]/\Same H H')
  ⟨none,rfl,Same.refl _⟩ ?_ ?_
 ·intro i σ H1 hi hI9
  obtain⟨v4,rfl,s1⟩:=hI9
  have IL:i<=x.1.length:=by omega
  have EJ:i < x.2.length:=by omega
  have Cj:=Vq x.1 x.2 i
  have FW:=s1 _ _ h2
  obtain⟨Jj,L5⟩:=hx.num i EJ
  have DW:atI (x.2.map V.int) (0+(i:Int))=some (.int (x.2.getD i 0)):=Pj (by omega) (by rw[show (0+(i:Int)).toNat=i by omega,Nz,Nl,Na EJ];rfl)
  have DE:=iY (ns:=x.2) IL
  rw[show tI x.1 x.2 i=pre x.1 x.2 i by unfold tI;rw[B3 IL]]
  generalize x.2.getD i 0=m at Jj L5 DW DE
  ext
  refine iteD (fun c=>?_) (fun c=>?_)
  ·obtain⟨d,hd,rfl⟩:∃ d:Nat,d < 10/\m=(d:Int):=⟨m.toNat,by omega,by omega⟩
   have e:fig (d:Int)=[48+d]:=by unfold fig;rw[B3 c,RA]
   ext
   refine⟨?_,?_⟩
   ·have:∀ d:Nat,d < 10->(d:Int).natAbs.log2 < 1920:=by decide
    exact this d hd
   rw[XI d hd,<- e]
   show fAdd (.str (S (pre x.1 x.2 i))) (.str (S (fig (d:Int)))) _ _
   have GK:(fig (d:Int)).length<=1:=by rw[e];exact M6 _
   ext
   have EW:=SX x.1 (some (0+(i:Int))) (some (0+(i:Int)+1))
   ext
   rw[DE,show (0:Int)+(i:Int)=(i:Int) by omega]
   exact⟨_,rfl,s1⟩
  ·have e:fig m=[]:=by unfold fig;rw[B2 (by omega)]
   rw[e,O_] at DE
   ext
   have EW:=SX x.1 (some (0+(i:Int))) (some (0+(i:Int)+1))
   ext
   rw[DE,show (0:Int)+(i:Int)=(i:Int) by omega]
   exact⟨_,rfl,s1⟩
 ·intro σ H1 hI9
  obtain⟨v4,rfl,s1⟩:=hI9
  ext
  rw[Fu,show tI x.1 x.2 ((x.1.length+1:Nat):Int).toNat=ptxt x.1 x.2 by rw[RA];unfold tI;rw[B2 (Nat.not_succ_le_self _)]]
  exact q H1 s1
theorem i3 (g:List Nat):(g.map fun k:Nat=>V.int (k:Int)).all PN=true:=Qi.mpr fun x hx=>by
 obtain⟨k,_,rfl⟩:=On.mp hx
 rfl
theorem i4 (k:Nat)(g:List Nat):inV (.int (k:Int)) (g.map fun j:Nat=>V.int (j:Int))=decide (k∈g):=by
 have e:(g.map fun j:Nat=>V.int (j:Int))=(g.map fun j:Nat=>(j:Int)).map V.int:=by rw[NK];rfl
 rw[e,eF,decide_eq_decide,On]
 exact⟨fun⟨j,hj,z⟩=>by rwa [<- show j=k by omega],fun h=>⟨k,h,rfl⟩⟩
theorem U3 {w:List Nat}(g:List Nat)(h0:0∉g):∀ n,txt w g (n+1)=[w.getD 0 0]++((NW n).map fun j=>(if 1+j∈g then [45] else [])++[w.getD (1+j) 0]).flatten
 | 0=>by rw[WX,B2 h0];rfl
 | n+1=>by rw[WX,U3 g h0 n,Q_,Np,List.flatten_append,Ry,List.map_singleton,Z2 1 n];simp
theorem i5 (b:Bool):Txt.mul (S [45]) (if b=true then 1 else 0)=S (if b=true then [45] else []):=by
 cases b <;> decide +kernel
theorem i6 (T:Txt mg tk)(F:Fun K "_law_shown" "_law_shown" s_law_shown f fd):FnOk P w K mg base CX0 1 f fd ["_law_word_here","_law_gaps_here"] Zk:=by
 refine F.okk ["_law_word_here","_law_gaps_here"] ?_
 rintro _ _ _ _ H _ _ _ hr ⟨w',g,a,rfl,ha,Dd,C9,EM,KN,q⟩ nd
 refine⟨_,(MU (M8 (MY M_ (pix K (pv 0) MP) (NF (K:=K) OD Rc Re SM (M4 Of) (pa1 (PP ["_law_gaps_here","_law_word_here","_law_k"] [some 1,some 0,none] rfl (by kernel_rfl) rfl (Th rfl T.z_range (MQ MP (pa1 (pcb (Nu (K:=K)) T.z_len (pa1 (pv 0)))))) (fun _ _ _ _=>(N_ (i:=2) (show (["_law_gaps_here","_law_word_here","_law_k"]:List Str).Nodup by decide +kernel) rfl (Or.inl rfl) (Or.inr rfl))) (fun _ _ _ _=>QK) (fun _ _ _ _=>(MY M_ (MY Rm (M4 SQ) (pct QQ T.z_int (pa1 (Oa o_in (pv 2) (pv 0) (by with_unfolding_all rfl))))) (pix K (pv 1) (pv 2)))))))))),?_⟩
 walk_at "s0"
 have Ep:(S w').length<=Ae:=szn (by rw[Nn];omega)
 have EC:∀ i,i < w'.length->atI ((S w').cps.toList) (i:Int)=some (w'.getD i 0):=fun i hi=>Pj (by omega) (by rw[T_,RA,Nl,Na hi];rfl)
 ext
 refine T6 (c:=w'.getD 0 0) Ep (EC 0 Dd) ?_
 ext
 intro r Cd
 refine RR (fun i B6 σ H'=>∃(v:Option V),σ=[some (.ref a),some (.str (S w')),v]/\B6=Nd ((NW i).map fun j=>(if 1+j∈g then [45] else [])++[w'.getD (1+j) 0])/\H' r=some (.lst B6)/\Same H H')
  ⟨none,rfl,rfl,MT,Nh Cd _⟩ (fun i B6 σ H' hI9=>by rcases hI9 with ⟨_,_,e,e2,_⟩;exact⟨e2,by rw[e,Nd,M5,M5,SF];omega⟩) (szn (by omega)) ?_ ?_
 ·intro i B6 σ H2 hi hI9
  obtain⟨v,rfl,rfl,e2,s2⟩:=hI9
  have L6:1+i < w'.length:=by omega
  ext
  refine T7 (OF (s2 _ _ ha)) ⟨rfl,i3 g⟩ ?_
  rw[B2 Nj,show (1:Int)+(i:Int)=((1+i:Nat):Int) by omega,i4]
  ext
  refine WR ⟨by rw[Nn];split <;> decide,by split <;> decide,by split <;> decide⟩ ?_
  rw[i5]
  ext
  refine T6 (c:=w'.getD (1+i) 0) Ep (EC _ L6) ?_
  refine R7 (b:=[w'.getD (1+i) 0]) (by split <;> simp) ?_
  refine⟨e2,_,rfl,?_,MT,Sq Cd s2⟩
  rw[Q_,Np,Nd,Nd,Np]
  simp
 ·intro B6 σ H2 hI9
  obtain⟨v,rfl,rfl,e2,s2⟩:=hI9
  have e3:∀ ls:List (List Nat),Nd ls=(ls.map S).map V.str:=fun ls=>by rw[NK];rfl
  rw[e3] at e2
  have DO:=Vs (n:=2) ((NW (((w'.length:Int) - 1).toNat)).map fun j=>(if 1+j∈g then [45] else [])++[w'.getD (1+j) 0]) fun x hx=>by
   obtain⟨j,_,rfl⟩:=On.mp hx
   rw[No,OH]
   split <;> simp
  rw[M5,SF] at DO
  ext
  refine SO (Pt e2) (by rw[show (S ([]:List Nat)).length=0 from rfl,Nat.mul_zero];omega) ?_
  rw[R6,aq]
  have e4:=U3 (w:=w') g KN (((w'.length:Int) - 1).toNat)
  have e5:((w'.length:Int) - 1).toNat+1=w'.length:=by omega
  have e6:=au w' g w'.length
  rw[e5] at e4
  rw[e4,No] at e6
  refine R7 (a:=[w'.getD 0 0]) (by omega) ?_
  rw[<- e4]
  exact q H2 s2
noncomputable abbrev s_law_gaps:As:=top 87
noncomputable def tv (H:Hp):Hp:=fun b=>match H b with
 | some (.lst xs)=>some (.tup xs)
 | _=>none
theorem Zl (h:H g=some (.lst xs)):tv H g=some (.tup xs):=by unfold tv;rw[h]
theorem Zm (h:tv H g=some (.tup xs)):H g=some (.lst xs):=by
 unfold tv at h
 split at h
 ·rename_i e;injection h with h;injection h with h;rw[e,h]
 ·cases h
theorem Su (s:Same H H'):Same (tv H) (tv H'):=fun b o e=>by
 unfold tv at e
 split at e
 ·rename_i xs e1;rw[Zl (s _ _ e1)];exact e
 ·cases e
noncomputable def kT (l t:Ab)(hd tl:Int):List (Key×V):=[(Sum.inr "patterns",.ref l),(Sum.inr "told",.ref t),(Sum.inr "head",.int hd),(Sum.inr "tail",.int tl)]
theorem Zn :valV (kT l t hd tl) (Sum.inr (M' "patterns"))=some (.ref l):=rfl
theorem U4 :valV (kT l t hd tl) (Sum.inr (M' "told"))=some (.ref t):=rfl
theorem i7 :valV (kT l t hd tl) (Sum.inr (M' "head"))=some (.int hd):=rfl
theorem i8 :valV (kT l t hd tl) (Sum.inr (M' "tail"))=some (.int tl):=rfl
structure TnR (H0 H:Hp)(p l t:Ab)(ys:List V)(kts:List (Key×V))(b:Bp):Prop where
 hp:H0 p=some (.dK (kT l t b.hd b.tl))
 hl:H l=some (.lst ys)
 hy:L2.IsL H0 ys (b.pats.map patD)
 ht:H t=some (.dK kts)
 hk:NT (tv H0) kts b.told
theorem TnR.mono (h:TnR H0 H p l t ys kts b) (s:Same H0 H0') (h1:H' l=H l) (h2:H' t=H t):TnR H0' H' p l t ys kts b:=⟨s _ _ h.hp,h1.trans h.hl,IsL.same s h.hy,h2.trans h.ht,NT.same (Su s) h.hk⟩
noncomputable def bfTo (vs:List Int)(hd tl:Int)(n i:Nat):List Int:=((NW i).filter fun j=>Qd vs j&&letG hd tl n ((j:Int)+1)).map fun j:Nat=>(j:Int)+1
theorem i9 (vs:List Int)(hd tl:Int)(n i:Nat):(bfTo vs hd tl n i).length<=i:=by
 unfold bfTo
 rw[M5]
 have:=SE (fun j=>Qd vs j&&letG hd tl n ((j:Int)+1)) (NW i)
 rwa [SF] at this
theorem i_ (vs:List Int)(hd tl:Int)(n i:Nat):bfTo vs hd tl n (i+1)=if (Qd vs i&&letG hd tl n ((i:Int)+1))=true then bfTo vs hd tl n i++[(i:Int)+1] else bfTo vs hd tl n i:=by
 unfold bfTo
 rw[Q_,Qu,Np,Qv,List.filter_nil]
 split
 ·rfl
 ·rw[N8,O_]
theorem ja {w:List Nat} (h:OkB b.pats b.told) (hw:1<=w.length):((OW b w).map fun k:Nat=>V.int (k:Int))=(Qs b.pats b.told b.hd b.tl w).map V.int:=by
 obtain⟨g,hg,_⟩:=YH h b.hd b.tl hw
 rw[UM hg,hg,NK];rfl
def U5:Sp:=fun vs H Q _=>∃(H0:Hp) (p l t:Ab) (ys:List V) (kts:List (Key×V)) (b:Bp) (w:List Nat),vs=[.ref p,.str (S w)]/\Same H0 H/\TnR H0 H p l t ys kts b/\OkB b.pats b.told/\1<=w.length/\w.length<=100 /\
 ∀(r:Ab) (H':Hp),H' r=some (.lst ((OW b w).map fun k:Nat=>V.int (k:Int)))->(H r=none∨∃ o,H0 r=some o)->Same H H'->Q (.ref r) H'
theorem jb (T:Txt mg tk)(F:Fun K "_law_gaps" "_law_gaps" s_law_gaps f fd)(C6:Dn P w K mg base "_law_values" 1 ["_law_patterns_here","_law_word_here"] Sj):FnOk P w K mg base CX0 2 f fd ["_law_tongue","_law_word_here"] U5:=by
 refine F.okk ["_law_tongue","_law_word_here","_law_found","_law_last"] ?_
 rintro _ _ _ _ H _ _ _ hr ⟨H0,p,l,t,ys,kts,b,w',rfl,s0,hR,hO,Dd,C9,q⟩ nd
 obtain⟨hp,hl,hy,ht,hk⟩:=hR
 have hp:=s0 _ _ hp
 have hy:=IsL.same s0 hy
 rw[ja hO Dd] at q
 refine⟨_,(MS (Nc (PB (Ui (NO hr) (pv 1) (Oq (NO hr) (pv 0) NQ (fun _ _=>rfl))))
   (MU (M8 (Oq (NO hr) (Oq (NO hr) (pv 0) NQ (fun _ _=>rfl)) (pv 1) (fun _ _=>rfl))))
   Ni)
  (MS (SL (i:=2) nd rfl (Or.inr rfl) (M3 C6 hr.MX rfl (MQ (Oq (NO hr) (pv 0) NQ (fun _ _=>rfl)) (pa1 (pv 1)))))
  (MS (SL (i:=3) nd rfl (Or.inr rfl) (MY QO (pcb (Nu (K:=K)) T.z_len (pa1 (pv 1))) (Oq (NO hr) (pv 0) NQ (fun _ _=>rfl))))
  (MU (M8 (PP ["_law_found","_law_tongue","_law_last","_law_k"] [some 2,some 0,some 3,none] rfl (by kernel_rfl) rfl (QE rfl T.z_range (pa1 (pcb (Nu (K:=K)) T.z_len (pa1 (pv 2))))) (fun _ _ _ _=>(N_ (i:=3) (show (["_law_found","_law_tongue","_law_last","_law_k"]:List Str).Nodup by decide +kernel) rfl (Or.inl rfl) (Or.inr rfl))) (fun _ _ _ _=>(Tx (PW.pt (QC (Nb (o_eq hr.units) (MY QP (pix K (pv 0) (pv 3)) MP) MP (M9 _)) (Qz (RI o_le o_le (Oq (NO hr) (pv 1) NQ (fun _ _=>rfl)) (MY M_ (pv 3) MP) (pv 2))))))) (fun _ _ _ _=>(MY M_ (pv 3) MP)))))))),?_⟩
 walk_at "s0"
 ext
 refine i_tB (Uk ?_)
 ext
 refine Oz ?_
 ext
 refine⟨p,_,rfl,U4▸DGet.k (k:=Sum.inr "told") hp,?_⟩
 refine⟨t,_,rfl,DGet.k (k:=Sum.inr (S w')) ht,?_⟩
 rcases NT.val (z:=w') hk with ⟨hn,hv⟩ | ⟨g,t2,D0,JF,JG,hv,et⟩
 ·rw[hv]
  ext
  refine Oz ?_
  ext
  refine⟨p,_,rfl,Zn▸DGet.k (k:=Sum.inr "patterns") hp,?_⟩
  ext
  refine⟨.ref l,b.pats,w',rfl,?_,hO.ps,by have:=hO.pl;omega,Dd,C9,fun va H3 hva eva s3=>?_⟩
  ·simp only[Is,P4]
   exact⟨l,ys,rfl,hl,hy⟩
  ext
  refine Oz ?_
  ext
  have FJ:=s3 _ _ hp
  refine⟨p,_,rfl,i8▸DGet.k (k:=Sum.inr "tail") FJ,?_⟩
  ext
  rw[M5]
  have Lp:=Vn b.pats w'
  ext
  intro r Cd
  have Ei:Qs b.pats b.told b.hd b.tl w'=bfTo (vals b.pats w') b.hd b.tl w'.length (vals b.pats w').length:=by
   unfold Qs bfTo;rw[hn,YF]
  refine RR (fun i B6 σ H'=>∃(v:Option V),σ=[some (.ref va),some (.ref p),some (.int ((w'.length:Int) - b.tl)),v]/\B6=(bfTo (vals b.pats w') b.hd b.tl w'.length i).map V.int/\H' r=some (.lst B6)/\Same H3 H')
   ⟨none,rfl,rfl,MT,Nh Cd _⟩ (fun i B6 σ H' hI9=>by rcases hI9 with ⟨_,_,e,e2,_⟩;exact⟨e2,by rw[e,M5];exact i9 _ _ _ _ _⟩) (szn (by omega)) ?_ ?_
  ·intro i B6 σ H4 hi hI9
   obtain⟨v,rfl,rfl,e4,s4⟩:=hI9
   have DF:i < (vals b.pats w').length:=by omega
   have Hz:Qd (vals b.pats w') i=decide ((vals b.pats w')[i] % 2=1):=by unfold Qd;rw[Nl,Na DF];rfl
   have DW:atI ((vals b.pats w').map V.int) (0+(i:Int))=some (.int (vals b.pats w')[i]):=Pj (by omega) (by rw[show (0+(i:Int)).toNat=i by omega,Nz,Na DF];rfl)
   have eva4:=s4 _ _ eva
   have GU:=s4 _ _ FJ
   have DE:=i_ (vals b.pats w') b.hd b.tl w'.length i
   unfold letG at DE
   ext
   refine iteD (fun c=>?_) (fun c=>?_)
   ·have c1:(vals b.pats w')[i] % 2=1:=by injection c
    rw[Hz,B1 c1,Rb] at DE
    ext
    refine Oz ?_
    ext
    refine⟨p,_,rfl,i7▸DGet.k (k:=Sum.inr "head") GU,?_⟩
    ext
    refine iteD (fun c2=>?_) (fun c2=>?_)
    ·ext
     refine iteD (fun c3=>?_) (fun c3=>?_)
     ·rw[B1 (show b.hd<=(i:Int)+1 by omega),B1 (show (i:Int)+1<=(w'.length:Int) - b.tl by omega),Rb,B3 rfl] at DE
      ext
      refine⟨e4,_,rfl,?_,MT,Sq Cd s4⟩
      rw[DE,Np,show (0:Int)+(i:Int)=(i:Int) by omega];rfl
     ·rw[B0 (show ¬ (i:Int)+1<=(w'.length:Int) - b.tl by omega),ZZ,B2 Nj] at DE
      ext
      exact⟨_,rfl,by rw[DE],e4,s4⟩
    ·rw[B0 (show ¬ b.hd<=(i:Int)+1 by omega),Ra,B2 Nj] at DE
     ext
     exact⟨_,rfl,by rw[DE],e4,s4⟩
   ·have c1:¬ (vals b.pats w')[i] % 2=1:=fun z=>c (by rw[z])
    rw[Hz,B0 c1,Ra,B2 Nj] at DE
    ext
    exact⟨_,rfl,by rw[DE],e4,s4⟩
  ·intro B6 σ H4 hI9
   obtain⟨v,rfl,rfl,e4,s4⟩:=hI9
   rw[RA,<- Ei] at e4
   ext
   exact q r H4 e4 (.inl (s3.free Cd)) (s3.trans s4)
 ·rw[hv]
  ext
  refine Oz ?_
  ext
  refine Oz ?_
  ext
  refine⟨p,_,rfl,U4▸DGet.k (k:=Sum.inr "told") hp,?_⟩
  ext
  refine⟨t,_,rfl,hv▸DGet.k (k:=Sum.inr (S w')) ht,?_⟩
  ext
  refine q t2 H ?_ (.inr ⟨_,Zm et⟩) fun _ _ e=>e
  unfold Qs
  rw[D0]
  exact s0 _ _ (Zm et)
noncomputable abbrev s_law_line:As:=top 89
noncomputable abbrev s_law_pressed:As:=top 90
theorem jc (y:List α) (c:α):cutA (y++[c]) none (some (-1))=y:=by
 unfold cutA
 have h1:sx (y++[c]).length (y++[c]).length (some (-1))=y.length:=by simp only[sx];rw[B3 (by decide)];simp;omega
 have h2:sx (y++[c]).length 0 none=0:=rfl
 rw[h1,h2]
 simp
def SmIs (H:Hp)(v:V)(p:Nat×List Nat×List Nat×List Nat):Prop:=∃ a g:Ab,v=.ref a/\H a=some (.tup [.str (S p.2.1),.str (S p.2.2.1),.ref g,.int (p.1:Int)])/\H g=some (.lst (p.2.2.2.map fun j:Nat=>V.int (j:Int)))
def Sm (H:Hp)(xs:List V)(ps:List (Nat×List Nat×List Nat×List Nat)):Prop:=xs.length=ps.length/\∀(i:Nat) p,ps[i]?=some p->∃ v,xs[i]?=some v/\SmIs H v p
theorem Sm.same (s:Same H H') (h:Sm H xs ps):Sm H' xs ps:=⟨h.1,fun i p hp=>let ⟨v,h1,a,g,h2,h3,h4⟩:=h.2 i p hp;⟨v,h1,a,g,h2,s _ _ h3,s _ _ h4⟩⟩
noncomputable def ahd (la:List Nat):List Nat:=if la=[] then [] else la++[32]
theorem jd (la:List Nat):(ahd la).length<=la.length+1:=by unfold ahd;split <;> simp
theorem Zo (h:la≠[]):ahd la≠[]/\cutA (ahd la) none (some (-1))=la:=by
 unfold ahd
 rw[B2 h]
 exact⟨by simp,jc la 32⟩
noncomputable def LnOk (wd:Nat)(ps:List (Nat×List Nat×List Nat×List Nat))(n b:Nat)(ln:List Nat)(n' b':Nat):Prop :=
 (ln=[]/\∃ p,ps[n]?=some p/\Gr wd (ps.drop n) b [] [] (some p.1)) ∨
 (ln≠[]/\ln.length<=310/\(∀ c∈ln,c < 128)/\(n < n'/\n'<=ps.length/\b'=0∨(∃ p,ps[n']?=some p/\b' < p.2.1.length)/\(n < n'∨n=n'/\b < b'))/\∀ ls r,Gr wd (ps.drop n') b' [] ls r->Gr wd (ps.drop n) b [] (ln::ls) r)
def Zp:Sp:=fun vs H Q _=>∃(a:Ab) (xs:List V) (ps:List (Nat×List Nat×List Nat×List Nat)) (n b wd:Nat),vs=[.ref a,.int (n:Int),.int (b:Int),.int (wd:Int)]/\H a=some (.lst xs)/\Sm H xs ps/\(∀ p∈ps,PcOk p)/\ps.length<=100/\(∃ p,ps[n]?=some p/\b < p.2.1.length)/\wd<=200 /\
 ∀(r:Ab) (H':Hp) (ln:List Nat) (n' b':Nat),H' r=some (.tup [.str (S ln),.int (n':Int),.int (b':Int)])->Same H H'->LnOk wd ps n b ln n' b'->Q (.ref r) H'
theorem Zq {b wd x:Nat}{ah:List Nat}:inR b ((wd:Int) - ah.length) x=(decide ((b:Int) < (x:Int))&&decide ((ah.length:Int)+(x:Int) - (b:Int)+1<=(wd:Int))):=by
 unfold inR
 congr 1
 rw[decide_eq_decide]
 omega
theorem je (b:Bool):Txt.mul (S [32]) (if b=true then 1 else 0)=S (if b=true then [32] else []):=by
 cases b <;> decide +kernel
def LnW (wd:Nat)(ps:List (Nat×List Nat×List Nat×List Nat))(a:Ab)(n b:Nat)(H:Hp)(μ:Nat)(σ:St)(H':Hp):Prop:=∃(la:List Nat) (n1 b1:Nat) (v5 v6 v7 v8 v9 v10:Option V),σ=[some (.ref a),some (.int (n1:Int)),some (.int (b1:Int)),some (.int (wd:Int)),some (.str (S la)),v5,v6,v7,v8,v9,v10]/\μ=ps.length - n1/\n1<=ps.length/\Same H H'/\la.length<=wd/\(∀ c∈la,c < 128) /\
  (n1=n/\b1=b/\la=[]∨n < n1/\b1=0/\la≠[])/\(∀ ls r,Gr wd (ps.drop n1) b1 (ahd la) ls r->Gr wd (ps.drop n) b [] ls r)
theorem ahd_eq (la:List Nat):la++(if (!decide (V.str (S la)=V.str (S [])))=true then [32] else [])=ahd la:=by
 unfold ahd
 by_cases h:la=[]
 ·rw[B3 h,h];simp
 ·rw[B2 h,B0 fun z=>h (S_inj.mp z)];rfl
theorem jf (T:Txt mg tk)(F:Fun K "_law_line" "_law_line" s_law_line f fd):FnOk P w K mg base CX0 1 f fd ["_law_some","_law_number","_law_begin","_law_width"] Zp:=by
 refine F.okk ["_law_some","_law_number","_law_begin","_law_width","_law_line_here","_law_word_here","_law_mark","_law_gaps_here","_law_place","_law_ahead","_law_fits"] ?_
 rintro _ _ _ s H _ _ _ hr ⟨a,xs,ps,n,b,wd,rfl,ha,hS,DT,Cj,⟨p0,E4,DK⟩,FY,q⟩ nd
 have Jj:=(NJ.mp E4).1
 have Ey:=hS.1
 refine⟨_,(MS (pst 4 nd (M4 Of))
  (MS (RG Oo (Nb o_lt (pv 1) (pcb (Nu (K:=K)) T.z_len (pa1 (pv 0))) (M9 _))
   (MS (Rk (pix K (pv 0) (pv 1)) (O6 rfl (Nx (pnm 5 nd) (Nx (pnm 6 nd) (Nx (pnm 7 nd) (Nx (pnm 8 nd) OL))))))
  (MS (SL (i:=9) nd rfl (Or.inr rfl) (MY M_ (pv 4) (MY Rm (M4 Pm) (pct QQ T.z_int (pa1 (Oa (o_ne hr.units) (pv 4) (M4 Of) (M9 _)))))))
  (MS (Nc (Nb o_gt (pcb (Nu (K:=K)) T.z_len (pa1 (MY M_ (MY M_ (pv 9) (Ob (Od (K:=K)) (pv 5) (NR (pv 2)) Pe)) (pv 6)))) (pv 3) (M9 _))
   (MS (QL (i:=10) ["_law_begin","_law_ahead","_law_width","_law_gap"] [some 2,some 9,some 3,none] rfl (by kernel_rfl) rfl nd rfl rfl (Pf (K:=K) (pv 7)) (fun _ _ _ _=>(N_ (i:=3) (show (["_law_begin","_law_ahead","_law_width","_law_gap"]:List Str).Nodup by decide +kernel) rfl (Or.inl rfl) (Or.inr rfl))) (fun _ _ _ _=>(Tx (PW.pt (QC (Nb o_gt (pv 3) (pv 0) (M9 _)) (Qz (Nb o_le (MY M_ (MY QO (MY M_ (pcb (Nu (K:=K)) T.z_len (pa1 (pv 1))) (pv 3)) (pv 0)) MP) (pv 2) (M9 _))))))) (fun _ _ _ _=>(pv 3)))
  (MS (Nc (Nb (o_eq hr.units) (pcb (Nu (K:=K)) T.z_len (pa1 (pv 10))) MP (M9 _))
   (MU (M8 (NY (MQ (pv 4) (MQ (pv 1) (pa1 (pv 2)))))))
   Ni)
  (MU (M8 (NY (MQ (MY M_ (MY M_ (pv 9) (Ob (Od (K:=K)) (pv 5) (NR (pv 2)) (NR (pcb (Ym rfl) T.z_max (pa1 (pv 10)))))) (M4 SQ)) (MQ (pv 1) (pa1 (pcb (Ym rfl) T.z_max (pa1 (pv 10)))))))))))
   Ni)
  (MS (pst 4 nd (MY M_ (MY M_ (pv 9) (Ob (Od (K:=K)) (pv 5) (NR (pv 2)) Pe)) (pv 6)))
  (MS (pst 1 nd (MY M_ (pv 1) MP))
  (MU (SL (i:=2) nd rfl (Or.inr rfl) MP))))))))
  (MU (M8 (NY (MQ (pv 4) (MQ (pv 1) (pa1 (pv 2))))))))),?_⟩
 walk_at "s0"
 ext
 refine Sn ⟨LnW wd ps a n b H,⟨_,[],n,b,none,none,none,none,none,none,rfl,rfl,by omega,Same.refl _,NA _,(fun c hc=>nomatch hc),.inl ⟨rfl,rfl,rfl⟩,fun _ _ z=>z⟩,?_⟩
 intro μ σ H1 hI9
 obtain⟨la,n1,b1,v5,v6,v7,v8,v9,v10,rfl,hμ,FK,s1,GQ,HQ,Cn,way⟩:=hI9
 have DD:=s1 _ _ ha
 ext
 rw[Ey]
 refine iteD (fun c=>?_) (fun c=>?_)
 ·have DI:n1 < ps.length:=by omega
  obtain⟨v,JX,a4,g4,rfl,e4,eg4⟩:=(hS.same s1).2 n1 _ (Na DI)
  obtain⟨hk,EN,Er,FE,Du,FD⟩:=DT _ (N5 DI)
  have F0:=Rw DI
  have Ex:b1 < (ps[n1]).2.1.length:=by
   rcases Cn with ⟨h1,h2,_⟩ | ⟨_,h2,_⟩
   ·subst h1 h2
    rw[Na DI] at E4
    cases E4
    exact DK
   ·rw[h2];exact EN
  have IM:ps[n1]?=some ps[n1]:=Na DI
  generalize ps[n1]=p at e4 eg4 hk EN Er FE Du FD F0 Ex IM
  obtain⟨k,w',m,g⟩:=p
  dsimp only at e4 eg4 hk EN Er FE Du FD Ex
  rw[F0] at way
  have EM:g.length<=100:=by have:=YV Du (NA _);omega
  have DW:atI xs (n1:Int)=some (.ref a4):=Pj (by omega) (by rw[RA];exact JX)
  refine⟨fun σ H'=>∃ m',m' < μ/\LnW wd ps a n b H m' σ H',fun _ _ h=>h,?_⟩
  ext
  refine RU e4 rfl (Ny (Nt (Ny (Nt (Ny (Nt (Ny (Nt (OO ?_)))))))))
  ext
  refine WR ⟨by rw[Nn];split <;> decide,by split <;> decide,by split <;> decide⟩ ?_
  rw[je]
  refine R7 (by split <;> (simp only[ND,Ot];omega)) ?_
  rw[ahd_eq]
  have FS:=jd la
  have Jq:∀ c∈ahd la,c < 128:=fun c hc=>by
   unfold ahd at hc
   split at hc
   ·cases hc
   ·exact(NP.mp hc).elim (HQ c) fun h=>by rw[N3.mp h];decide
  have EW:=SX w' (some (b1:Int)) none
  ext
  refine iteD (fun cc=>?_) (fun cc=>?_)
  ·have cc2:wd < (ahd la++cutA w' (some (b1:Int)) none++m).length:=by omega
   ext
   intro r Cd
   refine ao (K:=K) (xs:=g.map fun k:Nat=>V.int (k:Int)) (fun i B6 σ H'=>∃(v:Option V),σ=[some (.int (b1:Int)),some (.str (S (ahd la))),some (.int (wd:Int)),v]/\B6=((g.take i).filter (inR b1 ((wd:Int) - (ahd la).length))).map (fun k:Nat=>V.int (k:Int))/\H' r=some (.lst B6)/\Same H1 H')
    (fun i B6 σ H' _ hI9=>by rcases hI9 with ⟨_,_,_,_,s⟩;exact SqL.of (s _ _ eg4)) ⟨none,rfl,rfl,MT,Nh Cd _⟩ (fun i B6 σ H' ⟨_,_,e,e2,_⟩=>⟨e2,by
     rw[e,M5]
     exact NI (SE _ _) (by rw[NX];omega)⟩) (szn (by rw[M5];omega)) ?_ ?_
   ·intro i B6 σ H2 hi hI9
    obtain⟨v,rfl,rfl,e2,s2⟩:=hI9
    rw[M5] at hi
    have JL:(g.map fun k:Nat=>V.int (k:Int)).getD i .non=.int (g[i]:Int):=by
     rw[Nl,Nz,Na hi];rfl
    rw[JL]
    have DE:((g.take (i+1)).filter (inR b1 ((wd:Int) - (ahd la).length)))=(g.take i).filter (inR b1 ((wd:Int) - (ahd la).length))++if inR b1 ((wd:Int) - (ahd la).length) g[i]=true then [g[i]] else []:=by
     rw[OC,Na hi,Qu]
     show _++List.filter _ [g[i]]=_
     rw[Qv,List.filter_nil]
    rw[Zq] at DE
    generalize g[i]=x at DE ⊢
    ext
    refine iteD (fun c1=>?_) (fun c1=>?_)
    ·rw[B1 c1,Rb] at DE
     ext
     refine iteD (fun c2=>?_) (fun c2=>?_)
     ·rw[B1 c2,B3 rfl] at DE
      ext
      exact⟨e2,_,rfl,by rw[DE,Np];rfl,MT,Sq Cd s2⟩
     ·rw[B0 c2,B2 Nj,O_] at DE
      ext
      exact⟨_,rfl,by rw[DE],e2,s2⟩
    ·rw[B0 c1,Ra,B2 Nj,O_] at DE
     ext
     exact⟨_,rfl,by rw[DE],e2,s2⟩
   ·intro B6 σ H2 hI9
    obtain⟨v,rfl,rfl,e2,s2⟩:=hI9
    rw[M5,OB] at e2
    ext
    have s02:=s1.trans s2
    by_cases hf:g.filter (inR b1 ((wd:Int) - (ahd la).length))=[]
    ·have Eh:∀ y∈g,inR b1 ((wd:Int) - (ahd la).length) y=false:=fun y hy=>by simpa using ZP.mp hf y hy
     refine Pg (by rw[hf];rfl) ?_
     ext
     intro r2 De
     refine q r2 _ la n1 b1 MT (s02.trans (Nh De _)) ?_
     by_cases Dh:la=[]
     ·rcases Cn with ⟨h1,h2,_⟩ | ⟨_,_,h3⟩
      ·subst h1 h2 Dh
       refine .inl ⟨rfl,_,IM,?_⟩
       rw[F0]
       exact .narrow cc2 Eh
      ·exact absurd Dh h3
     ·rcases Cn with ⟨_,_,h3⟩ | ⟨h1,_,_⟩
      ·exact absurd h3 Dh
      ·obtain⟨CA,JY⟩:=Zo Dh
       refine .inr ⟨Dh,by omega,HQ,.inr ⟨⟨_,IM,Ex⟩,.inl h1⟩,fun ls r z=>?_⟩
       rw[F0] at z
       have:=way _ _ (.back cc2 Eh CA z)
       rwa [JY] at this
    ·have e2':H2 r=some (.lst (((g.filter (inR b1 ((wd:Int) - (ahd la).length))).map fun k:Nat=>(k:Int)).map V.int)):=by rw[e2,NK];rfl
     have CA:((g.filter (inR b1 ((wd:Int) - (ahd la).length))).map fun k:Nat=>(k:Int))≠[]:=fun z=>hf (List.map_eq_nil_iff.mp z)
     refine Ph (fun z=>hf ?_) ?_
     ·injection z with z
      rw[M5] at z
      exact ZL (by omega)
     ext
     refine Yl e2' CA fun x' hx' IF=>?_
     obtain⟨x,hx,rfl⟩:=On.mp hx'
     obtain⟨KO,KP⟩:=S8.mp hx
     have JO:=SX w' (some (b1:Int)) (some (x:Int))
     ext
     refine Yl e2' CA fun y' hy' L7=>?_
     have exy:y'=(x:Int):=Int.le_antisymm (IF _ hy') (L7 _ hx')
     subst exy
     ext
     intro r2 De
     have Jy:b1 < x:=by rw[Zq,NS,decide_eq_true_eq] at KP;omega
     refine q r2 _ _ n1 x MT (s02.trans (Nh De _)) (.inr ⟨by simp,by simp only[No,ND,Ot];omega,fun c hc=>?_,.inr ⟨⟨_,IM,UO Du x KO⟩,?_⟩,fun ls r z=>?_⟩)
     ·rcases NP.mp hc with hc | hc
      ·exact(NP.mp hc).elim (Jq c) fun h=>FD c (Vw _ (Vc (ZS h)))
      ·rw[N3.mp hc];decide
     ·rcases Cn with ⟨h1,h2,_⟩ | ⟨h1,_,_⟩
      ·exact .inr ⟨h1.symm,by omega⟩
      ·exact .inl h1
     ·rw[F0] at z
      exact way _ _ (.cut cc2 KO KP (fun y hy L8=>by
       have:=IF (y:Int) (On.mpr ⟨y,S8.mpr ⟨hy,L8⟩,rfl⟩)
       omega) z)
  ·have cc3:(ahd la++cutA w' (some (b1:Int)) none++m).length<=wd:=by omega
   ext
   have CA:ahd la++cutA w' (some (b1:Int)) none++m≠[]:=fun z=>by
    have:=congrArg ZY z
    rw[No,No,W8 w' b1 (by omega),Qh,Ot] at this
    omega
   refine⟨ps.length - (n1+1),by omega,_,n1+1,0,_,_,_,_,_,_,rfl,rfl,DI,s1,cc3,(fun c hc=>?_),.inr ⟨?_,rfl,CA⟩,fun ls r z=>way _ _ (.fit cc3 ?_)⟩
   ·rcases NP.mp hc with hc | hc
    ·exact(NP.mp hc).elim (Jq c) fun h=>FD c (Vw _ (Vc (ZS h)))
    ·exact FD c (Qt _ hc)
   ·rcases Cn with ⟨h1,_,_⟩ | ⟨h1,_,_⟩ <;> omega
   ·rw[show ahd _=_ from B2 CA] at z
    exact z
 ·have DI:n1=ps.length:=by omega
  subst DI
  rcases Cn with ⟨h1,_,_⟩ | ⟨h1,h2,h3⟩
  ·omega
  subst h2
  ext
  intro r2 De
  refine q r2 _ la _ 0 MT (s1.trans (Nh De _)) (.inr ⟨h3,by omega,HQ,.inl ⟨h1,M6 _,rfl⟩,fun ls r z=>?_⟩)
  obtain⟨CA,JY⟩:=Zo h3
  rw[VA] at z way
  cases z with
  | done0 =>
   have:=way _ _ (.done CA)
   rwa [JY] at this
  | done h=>exact absurd rfl h
noncomputable def tNAR:List Nat:=[110,97,114,114,111,119]
theorem t_nar:M' "narrow"=S tNAR:=by decide +kernel
theorem aC {H:Hp}:∀ ls:List (List Nat),L2.IsL H (ls.map fun l=>V.str (S l)) (ls.map fun l=>Dt.str (S l))
 | []=>by simp only[N8,L2.IsL]
 | x::ls=>by simp only[Nq,L2.IsL,Is];exact⟨by first | rfl | trivial,aC ls⟩
theorem t_bar2:M' "|"=S [124]:=by decide +kernel
def Zr:Sp:=fun vs H Q _=>∃(a:Ab) (xs:List V) (ps:List (Nat×List Nat×List Nat×List Nat)) (wd:Nat),vs=[.ref a,.int (wd:Int)]/\H a=some (.lst xs)/\Sm H xs ps/\(∀ p∈ps,PcOk p)/\ps.length<=100/\wd<=200 /\
 (∀(r:Ab) (H':Hp) (k:Nat) (lns:List (List Nat)),Gr wd ps 0 [] lns (some k)->H' r=some (.tup [.str (S tNAR),.int (k:Int)])->Same H H'->Q (.ref r) H')/\∀(H':Hp) (lns:List (List Nat)),Gr wd ps 0 [] lns none->Same H H'->Q (.str (S (Pw 124 lns))) H'
theorem jg (T:Txt mg tk)(F:Fun K "_law_pressed" "_law_pressed" s_law_pressed f fd)(Dj:Dn P w K mg base "_law_line" 1 ["_law_some","_law_number","_law_begin","_law_width"] Zp):FnOk P w K mg base CX0 2 f fd ["_law_some","_law_width"] Zr:=by
 refine F.okk ["_law_some","_law_width","_law_number","_law_begin","_law_lines","_law_place","_law_line_here"] ?_
 rintro _ _ _ _ H _ _ _ hr ⟨a,xs,ps,wd,rfl,ha,hS,DT,Cj,FY,q1,q2⟩ nd
 have Ey:=hS.1
 refine⟨_,(MS (pst 2 nd MP)
  (MS (pst 3 nd MP)
  (MS (pst 4 nd (NN O7))
  (MS (RG Oo (Nb o_lt (pv 2) (pcb (Nu (K:=K)) T.z_len (pa1 (pv 0))) (M9 _))
   (MS (pst 5 nd (pix K (pix K (pv 0) (pv 2)) MP))
  (MS (Rk (M3 Dj hr.MX rfl (MQ (pv 0) (MQ (pv 2) (MQ (pv 3) (pa1 (pv 1)))))) (O6 rfl (Nx (pnm 6 nd) (Nx (pnm 2 nd) (Nx (pnm 3 nd) OL)))))
  (MS (Nc (Nb (o_eq hr.units) (pv 6) (M4 Of) (M9 _))
   (MU (M8 (NY (MQ (M4 t_nar) (pa1 (pv 5))))))
   Ni)
  (MU (N9 (NF (K:=K) OI OZ O0 O9 (pv 4) (pa1 (pv 6)))))))))
  (MU (M8 (VX (Nb (o_ne hr.units) (pv 4) (NN O7) (M9 _)) (NF (K:=K) OD Rc Re SM (M4 t_bar2) (pa1 (pv 4))) (M4 Sr)))))))),?_⟩
 walk_at "s0"
 ext
 intro ll Ep
 ext
 refine Sn ⟨fun μ σ H'=>∃(n b:Nat) (lns:List (List Nat)) (v5 v6:Option V),σ=[some (.ref a),some (.int (wd:Int)),some (.int (n:Int)),some (.int (b:Int)),some (.ref ll),v5,v6]/\Same H H'/\H' ll=some (.lst (lns.map fun l=>V.str (S l)))/\(∀ l∈lns,l.length<=310/\∀ c∈l,c < 128)/\μ+101 * n+b=101 * ps.length/\lns.length+μ<=10100/\(n=ps.length/\b=0∨∃ p,ps[n]?=some p/\b < p.2.1.length) /\
  (∀ ls r,Gr wd (ps.drop n) b [] ls r->Gr wd ps 0 [] (lns++ls) r),⟨101 * ps.length,0,0,[],none,none,rfl,Nh Ep _,MT,(fun l hl=>nomatch hl),by omega+splitNatAbs,by simp;omega+splitNatAbs,?_,fun _ _ z=>z⟩,?_⟩
 ·by_cases h:ps=[]
  ·subst h;exact .inl ⟨rfl,rfl⟩
  ·have h0:=Rx.mpr h
   exact .inr ⟨_,Na h0,(DT _ (N5 h0)).2.1⟩
 intro μ σ H1 hI9
 obtain⟨n,b,lns,v5,v6,rfl,s1,ell,GC,hμ,KG,Cn,way⟩:=hI9
 have DD:=s1 _ _ ha
 ext
 rw[Ey]
 refine iteD (fun c=>?_) (fun c=>?_)
 ·obtain⟨p,hp,hb⟩:∃ p,ps[n]?=some p/\b < p.2.1.length:=Cn.resolve_left fun z=>by omega+splitNatAbs
  obtain⟨v,JX,a4,g4,rfl,e4,eg4⟩:=(hS.same s1).2 n _ hp
  have DW:atI xs (n:Int)=some (.ref a4):=Pj (by omega+splitNatAbs) (by rw[RA];exact JX)
  refine⟨fun σ H'=>∃ m',m' < μ/\∃(n b:Nat) (lns:List (List Nat)) (v5 v6:Option V),σ=[some (.ref a),some (.int (wd:Int)),some (.int (n:Int)),some (.int (b:Int)),some (.ref ll),v5,v6]/\Same H H'/\H' ll=some (.lst (lns.map fun l=>V.str (S l)))/\(∀ l∈lns,l.length<=310/\∀ c∈l,c < 128)/\m'+101 * n+b=101 * ps.length/\lns.length+m'<=10100/\(n=ps.length/\b=0∨∃ p,ps[n]?=some p/\b < p.2.1.length) /\
   (∀ ls r,Gr wd (ps.drop n) b [] ls r->Gr wd ps 0 [] (lns++ls) r),fun _ _ h=>h,?_⟩
  ext
  refine⟨a,xs,ps,n,b,wd,rfl,DD,hS.same s1,DT,Cj,⟨p,hp,hb⟩,FY,fun r H2 ln n' b' e2 s2 hL=>?_⟩
  have s02:=s1.trans s2
  have ell2:=s2 _ _ ell
  refine RU e2 rfl (Ny (Nt (Ny (Nt (Ny (Nt (OO ?_)))))))
  ext
  rcases hL with ⟨rfl,p',hp',hg⟩ | ⟨CA,EZ,HQ,EI,Jl⟩
  ·rw[hp] at hp'
   cases hp'
   try refine Pg rfl ?_
   ext
   intro r2 De
   exact q1 r2 _ p.1 _ (way _ _ hg) MT (s02.trans (Nh De _))
  ·refine Ph (fun z=>CA (S_inj.mp z)) ?_
   ext
   refine QV ell2 (szn (by rw[M5];omega+splitNatAbs)) ?_
   ext
   have Fu:=(NJ.mp hp).1
   have Ex:=(DT p (Q9 hp)).2.2.1
   have HR:n'<=ps.length/\101 * n+b < 101 * n'+b'/\101 * n'+b'<=101 * ps.length/\(n'=ps.length/\b'=0∨∃ p,ps[n']?=some p/\b' < p.2.1.length):=by
    rcases EI with ⟨h1,h2,h3⟩ | ⟨⟨p',h1,h2⟩,h3⟩
    ·refine⟨h2,by omega+splitNatAbs,by omega+splitNatAbs,?_⟩
     by_cases h4:n'=ps.length
     ·exact .inl ⟨h4,h3⟩
     ·have h5:n' < ps.length:=by omega+splitNatAbs
      exact .inr ⟨_,Na h5,by rw[h3];exact(DT _ (N5 h5)).2.1⟩
    ·have h4:=(NJ.mp h1).1
     have h5:=(DT p' (Q9 h1)).2.2.1
     exact⟨by omega+splitNatAbs,by omega+splitNatAbs,by omega+splitNatAbs,.inr ⟨p',h1,h2⟩⟩
   obtain⟨h1,h2,h3,h4⟩:=HR
   refine⟨101 * ps.length - 101 * n' - b',by omega+splitNatAbs,n',b',lns++[ln],_,_,rfl,Sq Ep s02,So,fun l hl=>?_,by omega+splitNatAbs,by rw[No,OH];omega+splitNatAbs,h4,fun ls r z=>?_⟩
   ·exact(NP.mp hl).elim (GC l) fun h=>by rw[N3.mp h];exact⟨EZ,HQ⟩
   ·rw[Ry]
    exact way _ _ (Jl _ _ z)
 ·have hn:n=ps.length/\b=0:=Cn.resolve_right fun⟨p,hp,_⟩=>c (by have:=(NJ.mp hp).1;omega+splitNatAbs)
  obtain⟨rfl,rfl⟩:=hn
  rw[VA] at way
  have JZ:=way _ _ .done0
  rw[O_] at JZ
  have q2:=q2
  ext
  intro p0 E4
  have s3:=s1.trans (Nh E4 (.lst []))
  have ell3:upd H1 p0 (.lst []) ll=some (.lst (lns.map fun l=>V.str (S l))):=by rw[MR (MZ ell E4)];exact ell
  refine i_neE (d:=.lst (lns.map fun l=>Dt.str (S l))) (e:=.lst []) ?_ ?_ (Lay.ok (n:=1) (Lay.lst fun d hd=>?_) (by decide)) (Lay.ok (n:=1) (Lay.lst fun d hd=>nomatch hd) (by decide)) ?_
  ·simp only[Is]
   exact⟨ll,_,rfl,ell3,aC lns⟩
  ·simp only[Is]
   exact⟨p0,[],rfl,MT,by simp only[L2.IsL]⟩
  ·obtain⟨l,hl,rfl⟩:=On.mp hd
   exact Lay.str (GC l hl).2
  ·by_cases h0:lns=[]
   ·subst h0
    refine⟨false,rfl,?_⟩
    rw[B2 Nj]
    exact q2 _ [] JZ s3
   ·have q2:=q2 _ lns JZ s3
    unfold Pw at q2
    rw[B2 h0] at q2
    refine⟨true,?_,?_⟩
    ·cases lns with
     | nil=>exact absurd rfl h0
     | cons x r=>rfl
    rw[B3 rfl]
    have e2:(lns.map fun l=>V.str (S l))=(lns.map S).map V.str:=by rw[NK];rfl
    rw[e2] at ell3
    have DO:=Vs lns fun l hl=>(GC l hl).1
    ext
    refine SO (Pt ell3) (by rw[M5,Nn];simp only[ND,Ot];omega+splitNatAbs) ?_
    rw[Qe]
    exact q2
noncomputable abbrev s_law_tongue_row:As:=top 92
theorem i_disp (h:∀ p,H p=none->Q3 trs σ (upd H p (.dK [])) fun ps H2=>H2 p=some (.dK [])/\∃ kvs:List (Key×V),ps=kvs.map (fun kv=>(kV kv.1,kv.2))/\kvs.length<=15/\Q (.ref p) (upd H2 p (.dK (P8 [] kvs)))):tDisp trs σ H Q:=h
theorem t_tonb:M' "tongue "=S (tTON++[32]):=by decide +kernel
def U6:Sp:=fun vs H Q _=>∃(p st:Ab) (n:Nat) (kws:List (Key×V)) (nm:List Nat),vs=[.ref p,.ref st,.str (S nm)]/\FeedAt H p n/\n+10 < R4/\H st=some (.dK kws)/\kws.length<=10/\nm.length<=10 /\
 ∀(r pp l t:Ab) (hd tl:Nat) (H':Hp),1<=hd->hd<=3->1<=tl->tl<=3->H' r=some (.tup [.str (S (Nk 32 [tTON,nm,dig hd,dig tl])),.str (S tOK)])->H pp=none->H l=none->H t=none->H' pp=some (.dK (kT l t (hd:Int) (tl:Int)))->H' l=some (.lst [])->H' t=some (.dK [])->H' st=some (.dK (putK kws (Sum.inr (S nm)) (.ref pp)))->FeedAt H' p (n+2)->(∀ b o,b≠p->b≠st->H b=some o->H' b=some o)->Q (.ref r) H'
theorem kC (T:Txt mg tk)(F:Fun K "_law_tongue_row" "_law_tongue_row" s_law_tongue_row f fd)(B5:Dn P w K mg base "_law_next" 1 ["_law_feed_here","_law_many"] R5):FnOk P w K mg base CX0 2 f fd ["_law_feed_here","_law_state","_law_name"] U6:=by
 refine F.okk ["_law_feed_here","_law_state","_law_name","_law_head","_law_tail"] ?_
 rintro _ _ _ _ H _ _ _ hr ⟨p,st,n,kws,nm,rfl,hf,hn,Cn,Em,Fu,q⟩ nd
 refine⟨_,(MS (pst 3 nd (MY M_ MP (M3 B5 hr.MX rfl (MQ (pv 0) (pa1 MP)))))
  (MS (pst 4 nd (MY M_ MP (M3 B5 hr.MX rfl (MQ (pv 0) (pa1 MP)))))
  (MS (Q2 (NO hr) (pv 1) (pv 2) (fm (az NQ (NN O7) (az NQ Sa (az NQ (pv 3) (az NQ (pv 4) fk)))) rfl rfl (by simp) (by decide)) rfl)
  (MU (M8 (NY (MQ (MY M_ (MY M_ (MY M_ (MY M_ (MY M_ (M4 t_tonb) (pv 2)) (M4 Pm)) (pct PQ T.z_str (pa1 (pv 3)))) (M4 Pm)) (pct PQ T.z_str (pa1 (pv 4)))) (pa1 (M4 t_ok))))))))),?_⟩
 walk_at "s0"
 ext
 refine⟨p,3,n,rfl,hf,by omega,by decide,by decide,fun d1 H1 E3 Dx Dv o1=>?_⟩
 ext
 refine⟨p,3,n+1,rfl,Dv,by omega,by decide,by decide,fun d2 H2 L_ Hl Dw o2=>?_⟩
 obtain⟨hd,rfl⟩:∃ hd:Nat,d1=(hd:Int):=⟨d1.toNat,by omega⟩
 obtain⟨tl,rfl⟩:∃ tl:Nat,d2=(tl:Int):=⟨d2.toNat,by omega⟩
 ext
 rw[show (1:Int)+(hd:Int)=((1+hd:Nat):Int) by omega,show (1:Int)+(tl:Int)=((1+tl:Nat):Int) by omega]
 have kp2:∀ b o,b≠p->H b=some o->H2 b=some o:=fun b o hb e=>by rw[o2 b hb,o1 b hb];exact e
 have fr2:∀ b,H2 b=none->H b=none:=fun b e=>by
  cases h:H b with
  | none=>rfl
  | some o =>
   have hb:b≠p:=fun z=>by obtain⟨o',e'⟩:=Dw.some;rw[z,e'] at e;cases e
   rw[kp2 b o hb h] at e;cases e
 have Et:H2 st=some (.dK kws):=kp2 _ _ (fun z=>by obtain⟨x,y,z',e',_⟩:=hf;rw[z,e'] at Cn;cases Cn) Cn
 refine Q7 ?_
 refine i_disp fun pp Fx=>?_
 simp only[Q3]
 ext
 intro l hl
 ext
 refine Sk fun t ht=>?_
 ext
 have lpp:l≠pp:=fun z=>by rw[z,MT] at hl;cases hl
 rw[MR lpp] at hl
 have tl0:t≠l:=fun z=>by rw[z,MT] at ht;cases ht
 rw[MR tl0] at ht
 have tpp:t≠pp:=fun z=>by rw[z,MT] at ht;cases ht
 rw[MR tpp] at ht
 have spp:=MZ Et Fx
 have sl:=MZ Et hl
 have stt:=MZ Et ht
 refine⟨by rw[MR (M7 tpp),MR (M7 lpp),MT],[(Sum.inr "patterns",.ref l),(Sum.inr "told",.ref t),(Sum.inr "head",.int ((1+hd:Nat):Int)),(Sum.inr "tail",.int ((1+tl:Nat):Int))],rfl,by show 4<=15;decide,?_⟩
 ext
 refine⟨st,_,rfl,DPut.k (k:=Sum.inr (S nm)) (kvs:=kws) (by rw[MR spp,MR stt,MR sl,MR spp];exact Et) (Qy (show kws.length<=1000 by omega) (by decide)),?_⟩
 have J0:tTON.length=6:=rfl
 ext
 have IN:∀ k:Nat,k < 3->(dig (1+k)).length<=1/\(((1+k:Nat):Int)).natAbs.log2 < 1920:=by decide +kernel
 obtain⟨C8,Ma⟩:=IN hd (by omega)
 obtain⟨tl2,tl3⟩:=IN tl (by omega)
 refine⟨Ma,?_⟩
 rw[<- Qf]
 show fAdd (.str (S _)) (.str (S (dig (1+hd)))) _ _
 ext
 refine⟨tl3,?_⟩
 rw[<- Qf]
 show fAdd (.str (S _)) (.str (S (dig (1+tl)))) _ _
 ext
 intro r Cd
 have e6:∀ b o,b≠st->upd (upd (upd (upd H2 pp (.dK [])) l (.lst [])) t (.dK [])) pp (.dK (kT l t ((1+hd:Nat):Int) ((1+tl:Nat):Int))) b=some o->upd (upd (upd (upd (upd (upd H2 pp (.dK [])) l (.lst [])) t (.dK [])) pp (.dK (kT l t ((1+hd:Nat):Int) ((1+tl:Nat):Int)))) st (.dK (putK kws (Sum.inr (S nm)) (.ref pp)))) r (.tup [.str (S (tTON++[32]++nm++[32]++dig (1+hd)++[32]++dig (1+tl))),.str (S tOK)]) b=some o:=fun b o hb e=>by
  have e':=(MR (H:=upd (upd (upd (upd H2 pp (.dK [])) l (.lst [])) t (.dK [])) pp (.dK (kT l t ((1+hd:Nat):Int) ((1+tl:Nat):Int)))) (o:=.dK (putK kws (Sum.inr (S nm)) (.ref pp))) hb).trans e
  rw[MR (MZ e' Cd)];exact e'
 have kp:∀ b o,b≠st->H2 b=some o->upd (upd (upd (upd H2 pp (.dK [])) l (.lst [])) t (.dK [])) pp (.dK (kT l t ((1+hd:Nat):Int) ((1+tl:Nat):Int))) b=some o:=fun b o _ e=>by
  rw[MR (MZ e Fx),MR (MZ e ht),MR (MZ e hl),MR (MZ e Fx)];exact e
 have Ef:p≠st:=fun z=>by obtain⟨x,y,z',e',_⟩:=Dw;rw[z,Et] at e';cases e'
 refine q r pp l t (1+hd) (1+tl) _ (by omega) (by omega) (by omega) (by omega) ?_ (fr2 _ Fx) (fr2 _ hl) (fr2 _ ht) (e6 _ _ (M7 spp) MT) (e6 _ _ (M7 sl) (by rw[MR lpp,MR (M7 tl0),MT])) (e6 _ _ (M7 stt) (by rw[MR tpp,MT])) ?_ ?_ fun b o h1 h2 e=>e6 _ _ h2 (kp _ _ h2 (kp2 _ _ h1 e))
 ·rw[MT,show Nk 32 [tTON,nm,dig (1+hd),dig (1+tl)]=tTON++[32]++nm++[32]++dig (1+hd)++[32]++dig (1+tl) by simp[Nk]]
 ·rw[MR (MZ (MT (o:=.dK (putK kws (Sum.inr (S nm)) (.ref pp)))) Cd),MT]
 ·obtain⟨x,y,z,e,h⟩:=Dw
  exact⟨x,y,z,e6 _ _ Ef (kp _ _ Ef e),h⟩
noncomputable abbrev s_law_said:As:=top 94
theorem outR.imp (h1:∀ y,na y->na' y) (h2:∀ y,to y->to' y) (h3:∀ z b,kp z b->kp' z b) (h4:∀ z,tl z->tl' z) (h:outR na to kp tl ms ws):outR na' to' kp' tl' ms ws :=
 ⟨fun e=>⟨(h.1 e).1,fun nm hn=>h2 _ ((h.1 e).2.1 nm hn),fun ht wd a b=>⟨fun k l hg=>h1 _ (((h.1 e).2.2 ht wd a b).1 k l hg),fun l hg=>h4 _ (((h.1 e).2.2 ht wd a b).2 l hg)⟩⟩,
  fun e hd t a b c d=>h3 _ _ (h.2.1 e hd t a b c d),fun a b c=>h2 _ (h.2.2.1 a b c),fun b hb=>⟨(h.2.2.2 b hb).1,fun e=>let ⟨x,a,c,d⟩:=(h.2.2.2 b hb).2.1 e;⟨x,a,c,h3 _ _ d⟩,
   fun e=>let ⟨w,g,a,c,d,k⟩:=(h.2.2.2 b hb).2.2.1 e;⟨w,g,a,c,d,h3 _ _ k⟩,fun e=>⟨((h.2.2.2 b hb).2.2.2.1 e).1,h4 _ ((h.2.2.2 b hb).2.2.2.1 e).2⟩,fun e=>h4 _ ((h.2.2.2 b hb).2.2.2.2 e)⟩⟩
def ans (k:List Nat)(y:V)(H:Hp)(Q:VK):Prop:=∀(r:Ab) (H':Hp),H r=none->H' r=some (.tup [.str (S k),y])->Same H H'->Q (.ref r) H'
theorem ans.mono (h:ans k y H Q) (s:Same H H'):ans k y H' Q:=fun r H2 h1 h2 h3=>h r H2 (s.free h1) h2 (s.trans h3)
noncomputable def saidR (C:Ab)(D:List Ab)(td:Ab)(ms:List (List Nat×Bp))(n:Nat)(ws:List (List Nat))(H:Hp)(Q:VK):Prop :=
 outR (fun k=>ans tNAR (.int (k:Int)) H Q) (fun z=>ans tTON (.str (S z)) H Q) (fun z b=>keeps C D td ms n z b H Q) (fun t=>∀ H',Same H H'->Q (.str (S t)) H') ms ws
def SY (CD C CT:Ab):Sp:=fun vs H Q _=>∃(d tp td:Ab) (kvs:List (Key×V)) (ms:List (List Nat×Bp)) (D:List Ab) (n:Nat) (ws:List (List Nat)),vs=[.ref d,.str (S (Nk 32 ws))]/\RwOk ws/\DkS CD C CT H d tp td kvs ms D n/\saidR C D td ms n ws H Q
theorem jh (T:Txt mg tk)(Z:Cs K mg ad)(O3:Ow3 K mg cO3)(F:Fun K "_law_said" "_law_said" s_law_said f fd)(Dl:DmX P w K mg base cO3 "say" 8 ["self","row"] (spSay cO3 cO cO2 (ad 4) (ad 6))):FnOk P w K mg base CX0 9 f fd ["_law_desk","_law_row_here"] (SY cO3 cO cO2):=by
 refine F.okk ["_law_desk","_law_row_here","_law_found","e"] ?_
 rintro _ _ _ _ H _ Q _ hr ⟨d,tp,td,kvs,ms,D,n,ws,rfl,hW,hK,q⟩ nd
 have n64:ad 6≠ad 4:=fun e=>by
  have:=(aZ (i:=6) (j:=4) (by show 6 < 8;decide) Z.nd).mp (show some (ad 6)=some (ad 4) by rw[e])
  cases this
 have n60:ad 6≠ad 0:=fun e=>by
  have:=(aZ (i:=6) (j:=0) (by show 6 < 8;decide) Z.nd).mp (show some (ad 6)=some (ad 0) by rw[e])
  cases this
 have n40:ad 4≠ad 0:=fun e=>by
  have:=(aZ (i:=4) (j:=0) (by show 4 < 8;decide) Z.nd).mp (show some (ad 4)=some (ad 0) by rw[e])
  cases this
 obtain⟨EXC,hX⟩:∃ EXC:XK,EXC=fun v od H'=>∃(e d:Ab) (y:V),v=.ref e/\od=some d/\((H' e=some (XO e (ad 6) (some d) false)/\H' d=some (.xd [("name",y)])/\ans tTON y H' Q)∨(H' e=some (XO e (ad 4) (some d) false)/\H' d=some (.xd [("place",y)])/\ans tNAR y H' Q)):=⟨_,rfl⟩
 have J1:∀ x od H',EXC (.ref x) od H'->∃ C,H' x=some (XO x C od false)/\Exc K (ad 0) C:=fun x od H' h=>by
  rw[hX] at h
  rcases h with ⟨e,d,y,e1,e2,h | h⟩
  ·cases e1;rw[e2];exact⟨_,h.1,Z.x_NoTongue⟩
  ·cases e1;rw[e2];exact⟨_,h.1,Z.x_TooNarrow⟩
 refine⟨_,(MS (pst 2 nd Pz)
  (MS (ps_try (i:=3) (EX:=EXC) rfl rfl nd rfl rfl rfl Z.m_WordError Z.w_WordError J1 (fun pn xe Mb=>(MU (pst 2 nd (UA (pv 0) O3.cl Dl hr.MX Mb (pa1 (pv 1))))))
   (fun xx=>(MS (pst 2 nd (NY (MQ NQ (pa1 MP))))
  (MS (Nc (Oe (pcb (X8 (K:=K)) T.z_isinstance (MQ (pv 3) (pa1 (RE (v:=.ref _) rfl Z.m_NoTongue rfl)))) (fun _=>rfl))
   (MU (pst 2 nd (NY (MQ (M4 Pn) (pa1 (X3 (K:=K) (pv 3) rfl))))))
   Ni)
  (MU (Nc (Oe (pcb (X8 (K:=K)) T.z_isinstance (MQ (pv 3) (pa1 (RE (v:=.ref _) rfl Z.m_TooNarrow rfl)))) (fun _=>rfl))
   (MU (pst 2 nd (NY (MQ (M4 t_nar) (pa1 (X3 (K:=K) (pv 3) rfl))))))
   Ni))))))
  (MU (M8 (pv 2))))),?_⟩
 walk_at "s0"
 ext
 refine i_try ?_ ?_
 ·obtain⟨⟨dd,ed⟩,_⟩:=hK.dk
  ext
  refine Rq ?_
  ext
  refine Rr ed rfl ?_
  ext
  refine⟨d,tp,td,kvs,ms,D,n,ws,rfl,hW,hK,q.imp (fun k hk e d H2 g1 g2 s2=>?_) (fun z hz e d H2 g1 g2 s2=>?_) (fun z b hz kvs' H2 a1 a2 a3 a4=>?_) fun t ht H2 s2=>?_⟩
  ·rw[hX];exact⟨e,d,_,rfl,rfl,.inr ⟨g1,g2,hk.mono s2⟩⟩
  ·rw[hX];exact⟨e,d,_,rfl,rfl,.inl ⟨g1,g2,hz.mono s2⟩⟩
  ·ext
   exact hz kvs' H2 a1 a2 a3 a4
  ·ext
   exact ht H2 s2
 ·intro σ' v' e od H' hσ hE ev
  subst ev
  rw[hX] at hE
  obtain⟨e',d0,y,e1,rfl,hE⟩:=hE
  cases e1
  match σ',hσ with
  | [a0,a1,a2,a3],_ =>
   ext
   intro p1 F1
   obtain⟨H1,HF,s1,-⟩:=OU F1 (.tup [.str (M' "other"),.int 0])
   rw[HF]
   ext
   rcases hE with ⟨h1,h2,ha⟩ | ⟨h1,h2,ha⟩
   ·have h1:=s1 _ _ h1
    have h2:=s1 _ _ h2
    refine Sf h1 (fun d hd=>by cases hd;exact⟨_,h2⟩) Z.x_NoTongue (fun u h=>h) (X6 Z.x_NoTongue) ?_
    ext
    refine Ya ?_
    ext
    refine⟨e,_,ad 0,d0,false,_,y,rfl,h1,h2,Z.x_NoTongue,Z.n_NoTongue,rfl,?_⟩
    ext
    intro p2 DV
    obtain⟨H2,GF,s2,e2⟩:=OU DV (.tup [.str (S tTON),y])
    rw[GF]
    ext
    refine Sf (s2 _ _ h1) (fun d hd=>by cases hd;exact⟨_,s2 _ _ h2⟩) Z.x_NoTongue (fun u h=>h) (X7 Z.x_NoTongue Z.x_TooNarrow n64 n40) ?_
    ext
    exact ha p2 H2 (s1.free DV) e2 (s1.trans s2)
   ·have h1:=s1 _ _ h1
    have h2:=s1 _ _ h2
    refine Sf h1 (fun d hd=>by cases hd;exact⟨_,h2⟩) Z.x_TooNarrow (fun u h=>h) (X7 Z.x_TooNarrow Z.x_NoTongue (M7 n64) n60) ?_
    ext
    refine Sf h1 (fun d hd=>by cases hd;exact⟨_,h2⟩) Z.x_TooNarrow (fun u h=>h) (X6 Z.x_TooNarrow) ?_
    ext
    refine Ya ?_
    ext
    refine⟨e,_,ad 0,d0,false,_,y,rfl,h1,h2,Z.x_TooNarrow,Z.n_TooNarrow,rfl,?_⟩
    ext
    intro p2 DV
    ext
    exact ha p2 _ (s1.free DV) MT (s1.trans (Nh DV _))
noncomputable def tEN:List Nat:=[101,110]
noncomputable def tENO:List Nat:=[101,110,111]
noncomputable def nmF (x:Bool):List Nat:=if x=true then tEN else tENO
noncomputable def msB (B:Bool->Bp):List (List Nat×Bp):=[(tENO,B false),(tEN,B true)]
noncomputable def setB (B:Bool->Bp)(x:Bool)(b:Bp):Bool->Bp:=fun y=>if y=x then b else B y
theorem Ru (B:Bool->Bp)(x:Bool):NV (msB B) (nmF x)=some (B x):=by cases x <;> rfl
theorem put_ms (B:Bool->Bp)(x:Bool)(b:Bp):putM (msB B) (nmF x) b=msB (setB B x b):=by cases x <;> rfl
theorem Sv (x:Bool):isNm (nmF x)=true/\(nmF x).length<=3/\∀ c∈nmF x,32 < c/\c<=126/\c≠37:=by cases x <;> decide
inductive Oc where
 | ok (x:Bool) (b:Bp)
 | tx (t:List Nat)
 | to (z:List Nat)
 | na (k:Nat)
noncomputable def ocD:Oc->Dt
 | .ok _ _=>.str (S tOK)
 | .tx t=>.str (S t)
 | .to z=>.tup [.str (S tTON),.str (S z)]
 | .na k=>.tup [.str (S tNAR),.int (k:Int)]
noncomputable def ocB (B:Bool->Bp):Oc->Bool->Bp
 | .ok x b=>setB B x b
 | _=>B
def Due (B:Bool->Bp)(ws:List (List Nat))(oc:Oc):Prop:=∀(na:Nat->Prop) (to:List Nat->Prop) (kp:List Nat->Bp->Prop) (tl:List Nat->Prop),(∀ k,oc=.na k->na k)->(∀ z,oc=.to z->to z)->(∀ x b,oc=.ok x b->kp (nmF x) b)->(∀ t,oc=.tx t->tl t)->outR na to kp tl (msB B) ws
theorem Zs (ha:a<=200) (hb:b<=200) (h:dig a=dig b):a=b:=by
 have h1:=UY ⟨a,by omega⟩
 have h2:=UY ⟨b,by omega⟩
 rw[<- Qf] at h1 h2
 dsimp only at h1 h2
 rw[h,h2] at h1
 injection h1 with h1
 omega
theorem Zt:∀ k:Fin 31,(dig k.1).length<=2/\∀ c∈dig k.1,32 < c/\c<=126/\c≠37:=by decide +kernel
theorem U7 (h1:a<=k) (h2:k<=b):Px (dig k) a b=true:=a6.mpr ⟨k - a,S_.mpr (by omega),B1 (by rw[Nat.add_sub_cancel' h1])⟩
theorem Zu (ms:List (List Nat×Bp))(r:List (List Nat)):∀(ls:List (List Nat)) (h:Bool),(∀ z,due2 ms h ls=some z->due2 ms h (ls++r)=some z)/\(due2 ms h ls=none->due2 ms h (ls++r)=due2 ms (h || decide (ls≠[])) r)
 | [],h=>⟨(fun z e=>nomatch e),fun _=>by rw[S9,B0 (by simp),Ve]⟩
 | l::ls,h=>by
  have ih:=Zu ms r ls true
  rw[SG,B1 (List.cons_ne_nil l ls),Z1]
  simp only[due2]
  split
  ·split
   ·refine⟨ih.1,fun e=>?_⟩
    have:=ih.2 e
    rwa [S'] at this
   ·exact⟨fun z e=>e,(fun e=>nomatch e)⟩
  ·split
   ·refine⟨ih.1,fun e=>?_⟩
    have:=ih.2 e
    rwa [S'] at this
   ·exact⟨fun z e=>e,(fun e=>nomatch e)⟩
theorem outR.prs (hw:wd<=200) (h1:∀ l∈ls,Pu l=true) (h2:∀ nm,due2 ms false ls=some nm->to nm) (h3:due2 ms false ls=none->(∀ k lns,Gr wd (prun ms ls).ps 0 [] lns (some k)->na k)/\∀ lns,Gr wd (prun ms ls).ps 0 [] lns none->tl (Pw 124 lns)):outR na to kp tl ms (tPRS::dig wd::ls):=by
 refine⟨fun _=>⟨h1,h2,fun e wd' hw' ew=>?_⟩,fun e=>absurd e (show tPRS≠tTON by decide),fun e=>absurd rfl e,fun b _=>⟨show tPRS≠tPAR by decide,fun e=>absurd e (show tPRS≠tPAT by decide),fun e=>absurd e (show tPRS≠tTOL by decide),fun e=>absurd e (show tPRS≠tBRK by decide),fun e=>absurd e (show tPRS≠tPTS by decide)⟩⟩
 cases Zs hw hw' ew
 exact h3 e
theorem ji (h:Rt c=true):NL c=false:=by
 unfold Rt at h
 simp only[aP,Pp,ZX,Ve,VF,beq_iff_eq] at h
 rcases h with rfl | rfl | rfl | rfl | rfl | rfl <;> decide
theorem jj (h:NL c=true):Rt c=false:=by
 cases e:Rt c with
 | false=>rfl
 | true=>rw[ji e] at h;cases h
theorem Zv (w:List Nat)(c:Nat):Q8 (w++[c])=[c]:=by
 unfold Q8
 rw[No,OH,Nat.add_sub_cancel,List.drop_left]
theorem U8 {w:List Nat}(h:Low w)(h1:1<=w.length):N7 w=true:=by
 unfold N7
 rw[B1 (show 0 < w.length from h1),Qi.mpr h];rfl
theorem Sw {w:List Nat}(h:Low w):∀ c∈w,32 < c/\c<=126/\c≠37:=fun c hc=>by
 have:=h c hc
 unfold NL at this
 simp at this
 omega
theorem jk {w m:List Nat}(hw:Low w)(Eg:1<=w.length)(hm:m=[]∨∃ c,Rt c=true/\m=[c]):Og (w++m)=m/\OV (w++m)=w/\isAt (w++m)=false/\Pu (w++m)=true:=by
 have h1:Og (w++m)=m:=by
  rcases hm with rfl | ⟨c,hc,rfl⟩
  ·rw[O_]
   have CA:w≠[]:=fun z=>by rw[z] at Eg;simp at Eg
   have e:w=w.dropLast++[w.getLast CA]:=(List.dropLast_concat_getLast CA).symm
   unfold Og
   rw[e,Zv]
   have:=jj (hw _ (List.getLast_mem CA))
   rw[B2 (by simp[this])]
  ·unfold Og
   rw[Zv,B3 (by simp[hc])]
 have h2:OV (w++m)=w:=by
  unfold OV
  rw[h1,No,Nat.add_sub_cancel,List.take_left]
 have h3:isAt (w++m)=false:=by
  cases w with
  | nil=>simp at Eg
  | cons x r =>
   have hx:=hw x N1
   unfold isAt
   rw[SG,List.head?_cons]
   by_cases e:x=64
   ·subst e;cases hx
   ·simp[e]
 refine⟨h1,h2,h3,?_⟩
 unfold Pu
 rw[h3,B2 Nj,h2]
 exact U8 hw Eg
structure StAt (H:Hp)(D:List Ab)(st:Ab)(P L T:Bool->Ab)(B:Bool->Bp):Prop where
 hs:H st=some (.dK [(Sum.inr (S tENO),.ref (P false)),(Sum.inr (S tEN),.ref (P true))])
 tn:∀ x,∃ ys kts,TnR (offH H D) H (P x) (L x) (T x) ys kts (B x)
 sD:st∈D
 lD:∀ x,L x∈D
 tD:∀ x,T x∈D
 ll:∀ x y,L x=L y->x=y
 tt:∀ x y,T x=T y->x=y
 ts:∀ x,T x≠st
theorem StAt.kept {H H':Hp}{D:List Ab}{p st:Ab}{P L T:Bool->Ab}{B:Bool->Bp}(h:StAt H D st P L T B)(hp:p∈D)(h1:p≠st)(h2:∀ x,p≠L x/\p≠T x)(k:Kept p H H'):StAt H' D st P L T B :=
 ⟨k _ _ (M7 h1) h.hs,fun x=>by
  obtain⟨ys,kts,g⟩:=h.tn x
  refine⟨ys,kts,g.mono (OA fun b o hb e=>⟨hb,k b o (fun z=>hb (z▸hp)) e⟩) ?_ ?_⟩
  ·rw[g.hl];exact k _ _ (M7 (h2 x).1) g.hl
  ·rw[g.ht];exact k _ _ (M7 (h2 x).2) g.ht,h.sD,h.lD,h.tD,h.ll,h.tt,h.ts⟩
theorem StAt.get {H:Hp}{D:List Ab}{st:Ab}{P L T:Bool->Ab}{B:Bool->Bp}(h:StAt H D st P L T B)(x:Bool):valV [((Sum.inr (S tENO):Key),V.ref (P false)),(Sum.inr (S tEN),.ref (P true))] (Sum.inr (S (nmF x)))=some (.ref (P x)):=by cases x <;> rfl
noncomputable abbrev s_law_press_row:As:=top 91
theorem U9 (M:St->Hp->Prop) (h1:∀ R:St->Hp->Prop,(∀ σ H,M σ H->R σ H)->t { D with nx:=R } σ H) (h2:∀ σ H,M σ H->u D σ H):tSeq t u D σ H:=h1 _ h2
theorem i_ifM (M:Bool->Hp->Prop) (h1:∀ R:Bool->Hp->Prop,(∀ b H,M b H->R b H)->c σ H R) (h2:∀ H1,M true H1->t D σ H1) (h3:∀ H1,M false H1->u D σ H1):tIfS c t u D σ H:=h1 _ fun b H1 m=>by
 cases b
 ·exact h3 H1 m
 ·exact h2 H1 m
theorem t_aten:M' "@en"=S ([64]++nmF true):=by decide +kernel
theorem t_prsb:M' "press "=S (tPRS++[32]):=by decide +kernel
theorem jl (h0:ls≠[]) (h1:2<=wd) (h2:wd<=200):Qg (tPRS::dig wd::ls)=true:=by
 have hl:=Rx.mpr h0
 show (hasC (tPRS::dig wd::ls)&&Px (dig wd) 2 200)=true
 rw[U7 h1 h2,Bool.and_true]
 show (decide (ls.length+1+1=3) || decide (3 < ls.length+1+1))=true
 rw[VF,decide_eq_true_eq,decide_eq_true_eq]
 omega
def Lv (H:Hp)(D:List Ab):Prop:=∀ a∈D,∃ o,H a=some o/\∀ zs,o≠.tup zs
structure Pre (H:Hp)(p st wa:Ab)(n:Nat)(l:List Nat)(w3:List (List Nat))(D:List Ab)(P L T:Bool->Ab)(B:Bool->Bp)(nb:Nat):Prop where
 f:FeedAt H p n
 s:StAt H D st P L T B
 pD:p∈D
 pst:p≠st
 pl:∀ x,p≠L x/\p≠T x
 low:Low l
 l1:1<=l.length
 l2:l.length<=26
 hw:H wa=some (.lst (Nd w3))
 wp:wa≠p
 w1:1<=w3.length
 w2:w3.length<=10
 wl:∀ w∈w3,Low w/\1<=w.length/\w.length<=9
 ok:∀ x,OkN nb (B x)
 lv:Lv H D
theorem Pre.kept {H H':Hp}{p st wa:Ab}{n n':Nat}{l:List Nat}{w3:List (List Nat)}{D:List Ab}{P L T:Bool->Ab}{B:Bool->Bp}{nb:Nat}(h:Pre H p st wa n l w3 D P L T B nb)(k:Kept p H H')(f:FeedAt H' p n'):Pre H' p st wa n' l w3 D P L T B nb :=
 ⟨f,h.s.kept h.pD h.pst h.pl k,h.pD,h.pst,h.pl,h.low,h.l1,h.l2,k _ _ h.wp h.hw,h.wp,h.w1,h.w2,h.wl,h.ok,fun a ha=>by
  by_cases z:a=p
  ·obtain⟨a1,a2,a3,e,_⟩:=f
   exact⟨_,by rw[z];exact e,fun zs e=>by cases e⟩
  ·obtain⟨o,h1,h2⟩:=h.lv a ha
   exact⟨o,k a o z h1,h2⟩⟩
def Zw:Sp:=fun vs H Q _=>∃(p st wa:Ab) (n:Nat) (l:List Nat) (w3:List (List Nat)) (D:List Ab) (P L T:Bool->Ab) (B:Bool->Bp) (nb:Nat),vs=[.ref p,.ref st,.str (S l),.ref wa]/\Pre H p st wa n l w3 D P L T B nb/\n+2000 < R4 /\
 ∀(r:Ab) (H':Hp) (ws:List (List Nat)) (oc:Oc) (v:V),H' r=some (.tup [.str (S (Nk 32 ws)),v])->Is H' v (ocD oc)->RwOk ws->Due B ws oc->(∀ x b,oc≠.ok x b)->Kept p H H'->(∃ m,FeedAt H' p m)->Q (.ref r) H'
structure ThS (B:Bool->Bp)(i:Nat)(ls:List (List Nat)):Prop where
 len:ls.length<=2 * i
 ok:∀ l∈ls,l.length<=10/\(∀ c∈l,32 < c/\c<=126/\c≠37)/\Pu l=true
 ne:0 < i->ls≠[]
noncomputable def Std (B:Bool->Bp)(H:Hp)(i:Nat)(ls:List (List Nat))(xs:List V)(nm:List Nat)(v7:V):Prop :=
 (v7=.non/\due2 (msB B) false ls=none/\Sm H xs (prun (msB B) ls).ps/\(∀ p∈(prun (msB B) ls).ps,PcOk p)/\(prun (msB B) ls).ps.length<=i/\(ls=[]/\nm=[]/\(prun (msB B) ls).b=none∨ls≠[]/\∃ x,nm=nmF x/\(prun (msB B) ls).b=some (nmF x,B x))) ∨
 (v7=.str (S [])/\due2 (msB B) false ls=some []/\(nm=[]∨∃ x,nm=nmF x))
theorem Std.same (s:Same H H') (h:Std B H i ls xs nm v7):Std B H' i ls xs nm v7:=h.imp (fun hI9=>by rcases hI9 with ⟨a,b,c,d⟩;exact⟨a,b,c.same s,d⟩) id
theorem Sm.snoc (h:Sm H xs ps) (hv:SmIs H v q):Sm H (xs++[v]) (ps++[q]):=by
 refine⟨by rw[No,No,h.1];rfl,fun i p hp=>?_⟩
 by_cases hi:i < ps.length
 ·rw[Vv hi] at hp
  obtain⟨v',h1,h2⟩:=h.2 i p hp
  exact⟨v',by rw[Vv (by rw[h.1];exact hi)];exact h1,h2⟩
 ·have IL:i=ps.length:=by
   have:=(NJ.mp hp).1
   rw[No,OH] at this
   omega
  subst IL
  rw[Vb (M6 _),Z3] at hp
  cases hp
  exact⟨v,by rw[<- h.1,Vb (M6 _),Z3];rfl,hv⟩
theorem Std.at (h:Std B H i ls xs nm v7) (x:Bool):Std B H i (ls++[[64]++nmF x]) xs (nmF x) v7:=by
 rcases h with ⟨h1,h2,h3,h4,h5,h6⟩ | ⟨h1,h2,h3⟩
 ·have e:prun (msB B) (ls++[[64]++nmF x])=⟨some (nmF x,B x),(prun (msB B) ls).ps,(prun (msB B) ls).k+1⟩:=by
   rw[YQ]
   unfold OT
   rw[B3 (by rfl),show List.tail ([64]++nmF x)=nmF x from rfl,Ru];rfl
  refine .inl ⟨h1,?_,by rw[e];exact h3,by rw[e];exact h4,by rw[e];exact h5,.inr ⟨by simp,x,rfl,by rw[e]⟩⟩
  rw[(Zu _ _ _ _).2 h2]
  simp only[due2]
  rw[B3 (by rfl),show List.tail ([64]++nmF x)=nmF x from rfl,Ru];rfl
 ·exact .inr ⟨h1,(Zu _ _ _ _).1 _ h2,.inr ⟨x,rfl⟩⟩
theorem at_ok (x:Bool):([64]++nmF x).length<=10/\(∀ c∈[64]++nmF x,32 < c/\c<=126/\c≠37)/\Pu ([64]++nmF x)=true:=by cases x <;> decide
theorem jm (T:Txt mg tk)(F:Fun K "_law_press_row" "_law_press_row" s_law_press_row f fd)(B5:Dn P w K mg base "_law_next" 1 ["_law_feed_here","_law_many"] R5)(B':Dn P w K mg base "_law_word" 2 ["_law_feed_here","_law_letters_here","_law_most"] QY)(Cu:Dn P w K mg base "_law_gaps" 2 ["_law_tongue","_law_word_here"] U5)(C2:Dn P w K mg base "_law_pressed" 2 ["_law_some","_law_width"] Zr):FnOk P w K mg base CX0 3 f fd ["_law_feed_here","_law_state","_law_letters_here","_law_words"] Zw:=by
 refine F.okk ["_law_feed_here","_law_state","_law_letters_here","_law_words","_law_things","_law_some","_law_name","_law_lost","_law_k","_law_word_here","_law_mark","_law_width","_law_due"] ?_
 rintro _ _ _ s H _ _ _ hr ⟨p,st,wa,n,l,w3,D,P',L,T',B,nb,rfl,hP,hn,q⟩ nd
 refine⟨_,(MS (pst 4 nd (NN O7))
  (MS (pst 5 nd (NN O7))
  (MS (pst 6 nd (M4 Of))
  (MS (pst 7 nd Pz)
  (MS (Ou Oo rfl (QE rfl T.z_range (pa1 (M3 B5 hr.MX rfl (MQ (pv 0) (pa1 MP))))) (pnm 8 nd)
   (MS (Nc (PW.pt (Pd (PW.pt (QC (Nb (o_eq hr.units) (pv 8) MP (M9 _)) (Qz (Nb o_gt (M3 B5 hr.MX rfl (MQ (pv 0) (pa1 MP))) MP (M9 _))))) (Tg (Nb (o_eq hr.units) (M3 B5 hr.MX rfl (MQ (pv 0) (pa1 MP))) MP (M9 _)))))
   (MS (pst 6 nd (pix K (NN (MQ NQ (pa1 NQ))) (M3 B5 hr.MX rfl (MQ (pv 0) (pa1 MP)))))
  (MU (N9 (NF (K:=K) OI OZ O0 O9 (pv 4) (pa1 (MY M_ (M4 t_at) (pv 6)))))))
   Ni)
  (MS (pst 9 nd (pix K (NN (MQ (pix K (pv 3) (M3 B5 hr.MX rfl (MQ (pv 0) (pa1 (pcb (Nu (K:=K)) T.z_len (pa1 (pv 3))))))) (pa1 (M3 B' hr.MX rfl (MQ (pv 0) (MQ (pv 2) (pa1 MP))))))) (M3 B5 hr.MX rfl (MQ (pv 0) (pa1 MP)))))
  (MS (pst 10 nd (pix K (NN (MQ (M4 Of) (MQ (M4 Of) (MQ NQ (MQ NQ (pa1 NQ)))))) (M3 B5 hr.MX rfl (MQ (pv 0) (pa1 MP)))))
  (MS (N9 (NF (K:=K) OI OZ O0 O9 (pv 4) (pa1 (MY M_ (pv 9) (pv 10)))))
  (MS (Nc (PW.pt (QC (PB (Xy (NO hr) (pv 6) (pv 1))) (Qz (Nb o_is (pv 7) Pz (M9 _)))))
   (MU (pst 7 nd (pv 6)))
   Ni)
  (MU (Nc (Nb o_is (pv 7) Pz (M9 _))
   (MU (N9 (NF (K:=K) OI OZ O0 O9 (pv 5) (pa1 (NY (MQ (pv 9) (MQ (pv 10) (MQ (M3 Cu hr.MX rfl (MQ (Oq (NO hr) (pv 1) (pv 6) (fun _ _=>rfl)) (pa1 (pv 9)))) (pa1 (MY QO (pcb (Nu (K:=K)) T.z_len (pa1 (pv 4))) MP))))))))))
   Ni))))))))
  (MS (pst 11 nd (pix K (NN (MQ (MY M_ MP (M3 B5 hr.MX rfl (MQ (pv 0) (pa1 MP)))) (pa1 (MY M_ MP (M3 B5 hr.MX rfl (MQ (pv 0) (pa1 MP))))))) (M3 B5 hr.MX rfl (MQ (pv 0) (pa1 MP)))))
  (MS (Nc (Nb (o_eq hr.units) (pv 4) (NN O7) (M9 _))
   (MU (N9 (NF (K:=K) OI OZ O0 O9 (pv 4) (pa1 (M4 t_aten)))))
   Ni)
  (MS (pst 12 nd (NY (MQ (M4 Pn) (pa1 (pv 7)))))
  (MS (Nc (Nb o_is (pv 7) Pz (M9 _))
   (MU (pst 12 nd (M3 C2 hr.MX rfl (MQ (pv 5) (pa1 (pv 11))))))
   Ni)
  (MU (M8 (NY (MQ (MY M_ (MY M_ (MY M_ (M4 t_prsb) (pct PQ T.z_str (pa1 (pv 11)))) (M4 Pm)) (NF (K:=K) OD Rc Re SM (M4 Pm) (pa1 (pv 4)))) (pa1 (pv 12))))))))))))))),?_⟩
 walk_at "s0"
 ext
 intro tl Ds
 ext
 intro sl DO
 have tsl:sl≠tl:=fun z=>by rw[z,MT] at DO;cases DO
 rw[MR tsl] at DO
 have k1:Kept p H (upd (upd H tl (.lst [])) sl (.lst [])):=fun b o _ e=>by rw[MR (MZ e DO),MR (MZ e Ds)];exact e
 have et1:upd (upd H tl (.lst [])) sl (.lst []) tl=some (.lst []):=by rw[MR (M7 tsl),MT]
 have es1:upd (upd H tl (.lst [])) sl (.lst []) sl=some (.lst []):=MT
 have pts:p≠tl/\p≠sl:=by obtain⟨o,e⟩:=hP.f.some;exact⟨MZ e Ds,MZ e DO⟩
 have Dv:FeedAt (upd (upd H tl (.lst [])) sl (.lst [])) p n:=hP.f.off (by rw[MR pts.2,MR pts.1])
 generalize upd (upd H tl (.lst [])) sl (.lst [])=H1 at k1 et1 es1 Dv ⊢
 ext
 refine⟨p,11,n,rfl,Dv,by omega,by decide,by decide,fun d H2 E3 Dx Dw o2=>?_⟩
 ext
 refine Vk (fun i σ H'=>∃(ls:List (List Nat)) (xs:List V) (nm:List Nat) (v7:V) (v8 v9 v10:Option V),σ=[some (.ref p),some (.ref st),some (.str (S l)),some (.ref wa),some (.ref tl),some (.ref sl),some (.str (S nm)),some v7,v8,v9,v10,none,none]/\FeedAt H' p (n+1+100 * i)/\Kept p H H'/\H' tl=some (.lst (Nd ls))/\H' sl=some (.lst xs)/\ThS B i ls/\Std B (offH H' [p,tl,sl]) i ls xs nm v7)
  ⟨[],[],[],.non,none,none,none,rfl,Dw,k1.off o2,by rw[o2 tl (M7 pts.1)];exact et1,by rw[o2 sl (M7 pts.2)];exact es1,⟨M6 _,(fun l hl=>nomatch hl),fun h=>absurd h (Qk _)⟩,.inl ⟨rfl,rfl,⟨rfl,fun i p hp=>by cases hp⟩,(fun p hp=>nomatch hp),M6 _,.inl ⟨rfl,rfl,rfl⟩⟩⟩ ?_ ?_
 ·intro i σ H3 hi hI9
  obtain⟨ls,xs,nm,v7,v8,v9,v10,rfl,Df,k3,et3,es3,Fc,Fk⟩:=hI9
  have Mc:i < 11:=by omega
  have stb:∀ Ha Hb:Hp,(∀ b o,b≠p->b≠tl->b≠sl->Ha b=some o->Hb b=some o)->Same (offH Ha [p,tl,sl]) (offH Hb [p,tl,sl]):=fun Ha Hb k=>OA fun b o hb e=>⟨hb,k b o (fun z=>hb (by simp[z])) (fun z=>hb (by simp[z])) (fun z=>hb (by simp[z])) e⟩
  refine Nt ?_
  refine U9 (fun σ H'=>∃(ls:List (List Nat)) (nm:List Nat),σ=[some (.ref p),some (.ref st),some (.str (S l)),some (.ref wa),some (.ref tl),some (.ref sl),some (.str (S nm)),some v7,some (.int (0+(i:Int))),v9,v10,none,none]/\FeedAt H' p (n+1+100 * i+4)/\Kept p H H'/\H' tl=some (.lst (Nd ls))/\H' sl=some (.lst xs)/\ls.length<=2 * i+1/\(∀ l∈ls,l.length<=10/\(∀ c∈l,32 < c/\c<=126/\c≠37)/\Pu l=true)/\Std B (offH H' [p,tl,sl]) i ls xs nm v7) (fun R hR=>?_) ?_
  ·have EZ:=Fc.len
   have keep:∀(H4:Hp) (m:Nat),m<=4->FeedAt H4 p (n+1+100 * i+m)->Off p H3 H4->R [some (.ref p),some (.ref st),some (.str (S l)),some (.ref wa),some (.ref tl),some (.ref sl),some (.str (S nm)),some v7,some (.int (0+(i:Int))),v9,v10,none,none] H4:=fun H4 m hm DH o4 =>
    hR _ _ ⟨ls,nm,rfl,DH.mono (by omega),k3.off o4,by rw[o4 tl (M7 pts.1)];exact et3,by rw[o4 sl (M7 pts.2)];exact es3,by omega,Fc.ok,Fk.same (stb _ _ fun b o h1 _ _ e=>by rw[o4 b h1];exact e)⟩
   refine i_ifM (fun _ H4=>FeedAt H4 p (n+1+100 * i+2)/\Off p H3 H4) (fun R2 GV=>?_) (fun H4 ⟨DH,o4⟩=>?_) fun H4 ⟨DH,o4⟩=>?_
   ·ext
    refine iteD (fun c=>?_) (fun c=>?_)
    ·ext
     refine⟨p,9,_,rfl,Df,by omega,by decide,by decide,fun d1 H4 _ _ DH o4=>?_⟩
     ext
     refine iteD (fun c2=>?_) (fun c2=>?_)
     ·ext
      exact GV _ H4 ⟨DH.mono (by omega),o4⟩
     ·ext
      refine⟨p,4,_,rfl,DH,by omega,by decide,by decide,fun d2 H5 _ _ DA o5=>?_⟩
      ext
      exact GV _ H5 ⟨DA,o4.trans o5⟩
    ·ext
     refine⟨p,4,_,rfl,Df,by omega,by decide,by decide,fun d2 H5 _ _ DA o5=>?_⟩
     ext
     exact GV _ H5 ⟨DA.mono (by omega),o5⟩
   ·ext
    intro a1 DD
    ext
    have pa1:p≠a1:=by obtain⟨o,e⟩:=DH.some;exact MZ e DD
    refine⟨p,2,_,rfl,DH.new DD,by omega,by decide,by decide,fun d H5 E3 Dx DA o5=>?_⟩
    have ea1:H5 a1=some (.lst [.str (M' "en"),.str (M' "eno")]):=by rw[o5 a1 (M7 pa1),MT]
    obtain⟨x,hx⟩:∃ x,atI [V.str (M' "en"),V.str (M' "eno")] d=some (.str (S (nmF x))):=by
     have hd:d=0∨d=1:=by omega
     rcases hd with rfl | rfl
     ·exact⟨true,by decide +kernel⟩
     ·exact⟨false,by decide +kernel⟩
    have k35:∀ b o,b≠p->H3 b=some o->H5 b=some o:=fun b o hb e=>by
     have e4:=(o4 b hb).trans e
     rw[o5 b hb,MR (MZ e4 DD)];exact e4
    have et5:=k35 _ _ (M7 pts.1) et3
    have es5:=k35 _ _ (M7 pts.2) es3
    have DE:=(Sv x).2.1
    have Fb:(Nd ls).length < 1000000:=by rw[U0];omega
    ext
    refine hR _ _ ⟨ls++[[64]++nmF x],nmF x,rfl,(DA.off (MR pts.1)).mono (by omega),fun b o hb e=>?_,by rw[MT,Nd,Nd,Np];rfl,by rw[MR tsl];exact es5,by rw[No,OH];omega,fun l hl=>?_,(Fk.same (stb _ _ fun b o h1 h2 _ e=>by rw[MR h2];exact k35 b o h1 e)).at x⟩
    ·rw[MR (MZ e Ds)];exact k35 b o hb (k3 b o hb e)
    ·exact(NP.mp hl).elim (Fc.ok l) fun h=>by rw[N3.mp h];exact at_ok x
   ·ext
    exact keep H4 2 (by decide) DH o4
  ·clear Df k3 et3 es3 Fc Fk ls nm
   intro σ H4 hI9
   obtain⟨ls,nm,rfl,DH,k4,et4,es4,LN,J2,HN⟩:=hI9
   have Md:=hP.kept k4 DH
   have Me:=Md.hw
   have DX:=hP.w1
   have Er:=hP.w2
   ext
   rw[U0]
   refine⟨p,_,_,rfl,DH,by omega,by omega,by omega,fun d1 H5 a0 a1 DA o5=>?_⟩
   obtain⟨k1,rfl⟩:∃ k1:Nat,d1=(k1:Int):=⟨d1.toNat,by omega⟩
   have Fp:k1 < w3.length:=by omega
   have DW:=OG Fp
   obtain⟨HS,HU,HV⟩:=hP.wl (w3.getD k1 []) (by rw[Nl,Na Fp];exact N5 Fp)
   generalize w3.getD k1 []=wA at DW HS HU HV
   have hw5:H5 wa=some (.lst (Nd w3)):=(o5 wa hP.wp).trans Me
   ext
   refine⟨p,_,l,9,rfl,DA,by omega,hP.low,hP.l1,hP.l2,by decide,by decide,fun w2 H6 FU De FX DG k6=>?_⟩
   ext
   intro a1 DD
   have pa1:p≠a1:=by obtain⟨o,e⟩:=DG.some;exact MZ e DD
   ext
   refine⟨p,2,_,rfl,DG.new DD,by omega,by decide,by decide,fun d2 H7 E3 Dx D3 o7=>?_⟩
   have ea1:H7 a1=some (.lst [.str (S wA),.str (S w2)]):=by rw[o7 a1 (M7 pa1),MT]
   have k47:∀ b o,b≠p->H4 b=some o->H7 b=some o:=fun b o hb e=>by
    have e6:=k6 b o hb ((o5 b hb).trans e)
    rw[o7 b hb,MR (MZ e6 DD)];exact e6
   obtain⟨wW,hx,GW,Fg,Mf⟩:∃ wW,atI [V.str (S wA),V.str (S w2)] d2=some (.str (S wW))/\Low wW/\1<=wW.length/\wW.length<=9:=by
    have hd:d2=0∨d2=1:=by omega
    rcases hd with rfl | rfl
    ·exact⟨wA,rfl,HS,HU,HV⟩
    ·exact⟨w2,rfl,FU,De,FX⟩
   ext
   intro a2 EQ
   have pa2:p≠a2:=by obtain⟨o,e⟩:=D3.some;exact MZ e EQ
   ext
   refine⟨p,5,_,rfl,D3.new EQ,by omega,by decide,by decide,fun d3 H8 L_ Hl EA o8=>?_⟩
   have ea2:H8 a2=some (.lst [.str (S []),.str (S []),.str (M' ","),.str (M' "."),.str (M' "!")]):=by rw[o8 a2 (M7 pa2),MT]
   have k48:∀ b o,b≠p->H4 b=some o->H8 b=some o:=fun b o hb e=>by
    have e7:=k47 b o hb e
    rw[o8 b hb,MR (MZ e7 EQ)];exact e7
   obtain⟨m,hxm,hm⟩:∃ m,atI [V.str (S []),.str (S []),.str (M' ","),.str (M' "."),.str (M' "!")] d3=some (.str (S m))/\(m=[]∨∃ c,Rt c=true/\m=[c]):=by
    have hd:d3=0∨d3=1∨d3=2∨d3=3∨d3=4:=by omega
    rcases hd with rfl | rfl | rfl | rfl | rfl
    ·exact⟨[],rfl,.inl rfl⟩
    ·exact⟨[],rfl,.inl rfl⟩
    ·exact⟨[44],by decide +kernel,.inr ⟨44,by decide,rfl⟩⟩
    ·exact⟨[46],by decide +kernel,.inr ⟨46,by decide,rfl⟩⟩
    ·exact⟨[33],by decide +kernel,.inr ⟨33,by decide,rfl⟩⟩
   have et8:=k48 _ _ (M7 pts.1) et4
   have es8:=k48 _ _ (M7 pts.2) es4
   have FE:m.length<=1:=by rcases hm with rfl | ⟨c,_,rfl⟩ <;> simp
   have Fb:(Nd ls).length < 1000000:=by rw[U0];omega
   obtain⟨F1,DV,FJ,GU⟩:=jk GW Fg hm
   ext
   have Mg:Nd ls++[V.str (S (wW++m))]=Nd (ls++[wW++m]):=by rw[Nd,Nd,Np];rfl
   rw[Mg]
   have k49:∀ b o,b≠p->b≠tl->H4 b=some o->upd H8 tl (.lst (Nd (ls++[wW++m]))) b=some o:=fun b o h1 h2 e=>by rw[MR h2];exact k48 b o h1 e
   have k9:Kept p H (upd H8 tl (.lst (Nd (ls++[wW++m])))):=fun b o hb e=>k49 b o hb (MZ e Ds) (k4 b o hb e)
   have EB:FeedAt (upd H8 tl (.lst (Nd (ls++[wW++m])))) p (n+1+100 * (i+1)):=(EA.off (MR pts.1)).mono (by omega)
   have et9:upd H8 tl (.lst (Nd (ls++[wW++m]))) tl=_:=MT
   have es9:upd H8 tl (.lst (Nd (ls++[wW++m]))) sl=_:=(MR tsl).trans es8
   have KQ:=HN.same (stb _ (upd H8 tl (.lst (Nd (ls++[wW++m])))) fun b o h1 h2 _ e=>k49 b o h1 h2 e)
   generalize upd H8 tl (.lst (Nd (ls++[wW++m])))=H9 at k9 EB et9 es9 KQ ⊢
   clear k49 k48 k47 et8 es8 HN et4 es4 EA D3 DG DA o8 o7 o5 k6 ea1 ea2 DD EQ
   have IP:=hP.kept k9 EB
   have Fv:ThS B (i+1) (ls++[wW++m]):=⟨by rw[No,OH];omega,fun l' hl'=>(NP.mp hl').elim (J2 l') fun h=>by
    rw[N3.mp h]
    refine⟨by rw[No];omega,fun c hc=>(NP.mp hc).elim (Sw GW c) fun hc=>?_,GU⟩
    rcases hm with rfl | ⟨c',hc',rfl⟩
    ·cases hc
    ·rw[N3.mp hc]
     unfold Rt at hc'
     simp only[aP,Pp,ZX,Ve,VF,beq_iff_eq] at hc'
     omega,fun _=>by simp⟩
   refine i_tB (YI ?_)
   ext
   refine⟨st,_,rfl,DGet.k (k:=Sum.inr (S nm)) IP.s.hs,?_⟩
   rcases KQ with ⟨rfl,C8,IQ,DT,Cj,⟨rfl,rfl,hb⟩ | ⟨CA,x,rfl,hb⟩⟩ | ⟨rfl,C8,GO⟩
   ·rw[show valV [((Sum.inr (S tENO):Key),V.ref (P' false)),(Sum.inr (S tEN),.ref (P' true))] (Sum.inr (S []))=none from rfl]
    ext
    refine⟨_,xs,[],.str (S []),_,_,_,rfl,EB,k9,et9,es9,Fv,.inr ⟨rfl,?_,.inl rfl⟩⟩
    simp only[S9,due2]
    rw[B2 (by rw[FJ];exact Nj),B2 Nj]
   ·rw[IP.s.get x]
    ext
    refine Oz ?_
    ext
    refine⟨st,_,rfl,IP.s.get x▸DGet.k (k:=Sum.inr (S (nmF x))) IP.s.hs,?_⟩
    ext
    obtain⟨ys,kts,g⟩:=hP.s.tn x
    have hO:=(hP.ok x).ok
    refine⟨offH H D,P' x,L x,T' x,ys,kts,B x,wW,rfl,fun b o e=>k9 b o (fun z=>(Pl e).1 (z▸hP.pD)) (Pl e).2,g.mono (Same.refl _) (by rw[g.hl];exact k9 _ _ (M7 (hP.pl x).1) g.hl) (by rw[g.ht];exact k9 _ _ (M7 (hP.pl x).2) g.ht),hO,Fg,by omega,fun r HA er Cd sA=>?_⟩
    have KR:r≠p/\r≠tl/\r≠sl:=by
     rcases Cd with h | ⟨o,h⟩
     ·obtain⟨o,e⟩:=EB.some
      exact⟨M7 (MZ e h),M7 (MZ et9 h),M7 (MZ es9 h)⟩
     ·obtain⟨h1,h2⟩:=Pl h
      exact⟨fun z=>h1 (z▸hP.pD),MZ h2 Ds,MZ h2 DO⟩
    have etA:=sA _ _ et9
    have esA:=sA _ _ es9
    have Ey:xs.length < 1000000:=by have:=IQ.1;omega
    ext
    intro t4 KS
    obtain⟨HB,Mh,sB,e4⟩:=OU KS (.tup [.str (S wW),.str (S m),.ref r,.int (((Nd (ls++[wW++m])).length:Int) - 1)])
    rw[Mh]
    have esB:=sB _ _ esA
    have sAB:=sA.trans sB
    ext
    have J3:=sA.free KS
    have t4n:t4≠p/\t4≠tl/\t4≠sl:=by
     obtain⟨o,e⟩:=EB.some
     exact⟨M7 (MZ e J3),M7 (MZ et9 J3),M7 (MZ es9 J3)⟩
    have e:prun (msB B) (ls++[wW++m])=⟨some (nmF x,B x),(prun (msB B) ls).ps++[(ls.length,wW,m,OW (B x) wW)],(prun (msB B) ls).k+1⟩:=by
     rw[YQ]
     unfold OT
     rw[FJ,B2 Nj,hb,DV,F1,YR]
    obtain⟨gN,IR,Du⟩:=YH hO (B x).hd (B x).tl Fg
    have eG:=UM IR
    refine⟨_,xs++[.ref t4],nmF x,.non,_,_,_,rfl,(EB.off (by rw[MR pts.2];obtain⟨o,e⟩:=EB.some;rw[sAB _ _ e,e])),fun b o hb e=>?_,by rw[MR (M7 tsl)];exact sAB _ _ et9,MT,Fv,.inl ⟨rfl,?_,?_,?_,?_,.inr ⟨by simp,x,rfl,by rw[e]⟩⟩⟩
    ·rw[MR (MZ e DO)];exact sAB _ _ (k9 b o hb e)
    ·rw[(Zu _ _ _ _).2 C8,B1 CA,Z1]
     simp only[due2]
     rw[B2 (by rw[FJ];exact Nj),B3 trivial]
    ·rw[e]
     have nin:∀ b,b≠p/\b≠tl/\b≠sl->b∉[p,tl,sl]:=fun b hb h=>by simp at h;rcases h with h | h | h;exact hb.1 h;exact hb.2.1 h;exact hb.2.2 h
     refine Sm.snoc (IQ.same (stb _ _ fun b o h1 h2 h3 e=>by rw[MR h3];exact sAB _ _ e)) ⟨t4,r,rfl,?_,?_⟩
     ·rw[Om (nin t4 t4n),MR t4n.2.2,e4,U0,No,OH]
      show some (HO.tup [V.str (S wW),V.str (S m),V.ref r,V.int (((ls.length+1:Nat):Int) - 1)])=some (HO.tup [V.str (S wW),V.str (S m),V.ref r,V.int (ls.length:Int)])
      rw[show ((ls.length+1:Nat):Int) - 1=(ls.length:Int) by omega]
     ·rw[Om (nin r KR),MR KR.2.2]
      exact sB _ _ er
    ·rw[e]
     intro q' hq'
     rcases NP.mp hq' with h | h
     ·exact DT q' h
     ·cases N3.mp h
      refine⟨by show ls.length<=1000;omega,Fg,by show wW.length<=100;omega,FE,by rw[eG];exact Du,fun c hc=>?_⟩
      obtain⟨l',hl',EW⟩:∃ l'∈ls++[wW++m],c∈l':=⟨wW++m,by simp,hc⟩
      have:=(Fv.ok l' hl').2.1 c EW
      omega
    ·rw[e]
     show ((prun (msB B) ls).ps++[_]).length<=_
     rw[No,OH];omega
   ·have fin:∃(ls':List (List Nat)) (xs':List V) (nm':List Nat) (v7:V) (v8 v9 v10:Option V),[some (V.ref p),some (.ref st),some (.str (S l)),some (.ref wa),some (.ref tl),some (.ref sl),some (.str (S nm)),some (.str (S [])),some (.int (0+(i:Int))),some (.str (S wW)),some (.str (S m)),none,none]=[some (V.ref p),some (.ref st),some (.str (S l)),some (.ref wa),some (.ref tl),some (.ref sl),some (.str (S nm')),some v7,v8,v9,v10,none,none]/\FeedAt H9 p (n+1+100 * (i+1))/\Kept p H H9/\H9 tl=some (.lst (Nd ls'))/\H9 sl=some (.lst xs')/\ThS B (i+1) ls'/\Std B (offH H9 [p,tl,sl]) (i+1) ls' xs' nm' v7 :=
     ⟨_,xs,nm,_,_,_,_,rfl,EB,k9,et9,es9,Fv,.inr ⟨rfl,(Zu _ _ _ _).1 _ C8,GO⟩⟩
    have hv:valV [((Sum.inr (S tENO):Key),V.ref (P' false)),(Sum.inr (S tEN),.ref (P' true))] (Sum.inr (S nm))=none∨∃ v,valV [((Sum.inr (S tENO):Key),V.ref (P' false)),(Sum.inr (S tEN),.ref (P' true))] (Sum.inr (S nm))=some v:=by
     cases valV [((Sum.inr (S tENO):Key),V.ref (P' false)),(Sum.inr (S tEN),.ref (P' true))] (Sum.inr (S nm)) with
     | none=>exact .inl rfl
     | some v=>exact .inr ⟨v,rfl⟩
    rcases hv with hv | ⟨v,hv⟩
    ·rw[hv]
     ext
     exact fin
    ·rw[hv]
     ext
     exact fin
 ·intro σ H3 hI9
  obtain⟨ls,xs,nm,v7,v8,v9,v10,rfl,Df,k3,et3,es3,Fc,Fk⟩:=hI9
  have J4:d.toNat<=10:=by omega
  ext
  refine⟨p,29,_,rfl,Df,by omega,by decide,by decide,fun d1 H4 b0 b1 DH o4=>?_⟩
  ext
  refine⟨p,9,_,rfl,DH,by omega,by decide,by decide,fun d2 H5 b2 b3 DA o5=>?_⟩
  ext
  intro a1 DD
  have pa1:p≠a1:=by obtain⟨o,e⟩:=DA.some;exact MZ e DD
  ext
  refine⟨p,2,_,rfl,DA.new DD,by omega,by decide,by decide,fun d3 H6 b4 b5 DG o6=>?_⟩
  have ea1:H6 a1=some (.lst [.int (2+d1),.int (9+d2)]):=by rw[o6 a1 (M7 pa1),MT]
  obtain⟨wd,hx,C9,Mi⟩:∃ wd:Nat,atI [V.int (2+d1),V.int (9+d2)] d3=some (.int (wd:Int))/\2<=wd/\wd<=30:=by
   have hd:d3=0∨d3=1:=by omega
   rcases hd with rfl | rfl
   ·exact⟨(2+d1).toNat,by rw[Int.toNat_of_nonneg (by omega)];rfl,by omega,by omega⟩
   ·exact⟨(9+d2).toNat,by rw[Int.toNat_of_nonneg (by omega)];rfl,by omega,by omega⟩
  have k36:∀ b o,b≠p->H3 b=some o->H6 b=some o:=fun b o hb e=>by
   have e5:=(o5 b hb).trans ((o4 b hb).trans e)
   rw[o6 b hb,MR (MZ e5 DD)];exact e5
  have stb:∀ Ha Hb:Hp,(∀ b o,b≠p->b≠tl->b≠sl->Ha b=some o->Hb b=some o)->Same (offH Ha [p,tl,sl]) (offH Hb [p,tl,sl]):=fun Ha Hb k=>OA fun b o hb e=>⟨hb,k b o (fun z=>hb (by simp[z])) (fun z=>hb (by simp[z])) (fun z=>hb (by simp[z])) e⟩
  have et6:=k36 _ _ (M7 pts.1) et3
  have es6:=k36 _ _ (M7 pts.2) es3
  have EZ:=Fc.len
  refine PZ (OF ea1) hx (Nt ?_)
  dsimp only
  refine U9 (fun σ H'=>∃(ls:List (List Nat)) (nm':List Nat),σ=[some (.ref p),some (.ref st),some (.str (S l)),some (.ref wa),some (.ref tl),some (.ref sl),some (.str (S nm)),some v7,v8,v9,v10,some (.int (wd:Int)),none]/\Kept p H H'/\H' tl=some (.lst (Nd ls))/\H' sl=some (.lst xs)/\ls≠[]/\ls.length<=21/\(∀ l∈ls,l.length<=10/\(∀ c∈l,32 < c/\c<=126/\c≠37)/\Pu l=true)/\Std B (offH H' [p,tl,sl]) 10 ls xs nm' v7/\∃ m,FeedAt H' p m) (fun R hR=>?_) ?_
  ·ext
   intro b0 DK
   have et7:upd H6 b0 (.lst []) tl=some (.lst (Nd ls)):=by rw[MR (MZ et6 DK)];exact et6
   have es7:upd H6 b0 (.lst []) sl=some (.lst xs):=by rw[MR (MZ es6 DK)];exact es6
   have k7:∀ b o,b≠p->H3 b=some o->upd H6 b0 (.lst []) b=some o:=fun b o hb e=>by
    have e6:=k36 b o hb e
    rw[MR (MZ e6 DK)];exact e6
   have D3:FeedAt (upd H6 b0 (.lst [])) p _:=DG.new DK
   have HW:Std B (offH (upd H6 b0 (.lst [])) [p,tl,sl]) 10 ls xs nm v7:=by
    rcases Fk.same (stb _ (upd H6 b0 (.lst [])) fun b o h1 _ _ e=>k7 b o h1 e) with ⟨c1,c2,c3,c4,c5,c6⟩ | h
    ·exact .inl ⟨c1,c2,c3,c4,NI c5 J4,c6⟩
    ·exact .inr h
   refine i_eqD (d:=.lst (ls.map fun l=>Dt.str (S l))) (e:=.lst []) ?_ ?_ (Lay.ok (n:=1) (Lay.lst fun d hd=>?_) (by decide)) (Lay.ok (n:=1) (Lay.lst fun d hd=>nomatch hd) (by decide)) ?_
   ·simp only[Is]
    exact⟨tl,_,rfl,et7,aC ls⟩
   ·simp only[Is]
    exact⟨b0,[],rfl,MT,by simp only[L2.IsL]⟩
   ·obtain⟨l',hl',rfl⟩:=On.mp hd
    exact Lay.str fun c hc=>by have:=(Fc.ok l' hl').2.1 c hc;omega
   ·generalize upd H6 b0 (.lst [])=H7 at et7 es7 k7 HW D3 ⊢
    by_cases h0:ls=[]
    ·subst h0
     refine⟨true,rfl,?_⟩
     rw[B3 rfl]
     ext
     refine hR _ _ ⟨[[64]++nmF true],nmF true,rfl,fun b o hb e=>?_,MT,by rw[MR tsl];exact es7,by simp,by show 1<=21;decide,fun l hl=>by rw[N3.mp hl];exact at_ok true,(HW.same (stb _ _ fun b o h1 h2 _ e=>by rw[MR h2];exact e)).at true,_,D3.off (MR pts.1)⟩
     rw[MR (MZ e Ds)];exact k7 b o hb (k3 b o hb e)
    ·refine⟨false,?_,?_⟩
     ·cases ls with
      | nil=>exact absurd rfl h0
      | cons x r=>rfl
     rw[B2 Nj]
     ext
     exact hR _ _ ⟨ls,nm,rfl,fun b o hb e=>k7 b o hb (k3 b o hb e),et7,es7,h0,by omega,Fc.ok,HW,_,D3⟩
  ·clear Df k3 et3 es3 Fc Fk EZ et6 es6 k36 ea1 DG o6 DA o5 DH o4 DD ls
   intro σ H7 hI9
   obtain⟨ls,nm',rfl,k7,et7,es7,h0,hl7,ES,HW,mf,D3⟩:=hI9
   ext
   intro t1 FW
   obtain⟨H8,IS,s8,e8⟩:=OU FW (.tup [.str (S tTON),v7])
   rw[IS]
   have Mj:=HW.same (stb _ H8 fun b o _ _ _ e=>s8 _ _ e)
   have et8:=s8 _ _ et7
   have es8:=s8 _ _ es7
   have fsame:∀{Ha Hb:Hp},FeedAt Ha p mf->Same Ha Hb->FeedAt Hb p mf:=fun h s=>by obtain⟨o,e⟩:=h.some;exact h.off (by rw[s _ _ e,e])
   have EA:=fsame D3 s8
   have k8:Kept p H H8:=fun b o hb e=>s8 _ _ (k7 b o hb e)
   refine Nt ?_
   dsimp only
   have dueP:∀ oc:Oc,(∀ z,due2 (msB B) false ls=some z->oc=.to z)->(due2 (msB B) false ls=none->(∀ k lns,Gr wd (prun (msB B) ls).ps 0 [] lns (some k)->oc=.na k)/\∀ lns,Gr wd (prun (msB B) ls).ps 0 [] lns none->oc=.tx (Pw 124 lns))->Due B (tPRS::dig wd::ls) oc:=fun oc h1 h2 na to kp tl' c1 c2 c3 c4 =>
    outR.prs (by omega) (fun l hl=>(ES l hl).2.2) (fun z hz=>c2 z (h1 z hz)) fun hz=>⟨fun k lns hg=>c1 k ((h2 hz).1 k lns hg),fun lns hg=>c4 _ ((h2 hz).2 lns hg)⟩
   refine U9 (fun σ H'=>∃(oc:Oc) (v:V),σ=[some (.ref p),some (.ref st),some (.str (S l)),some (.ref wa),some (.ref tl),some (.ref sl),some (.str (S nm)),some v7,v8,v9,v10,some (.int (wd:Int)),some v]/\Kept p H H'/\H' tl=some (.lst (Nd ls))/\Is H' v (ocD oc)/\Due B (tPRS::dig wd::ls) oc/\(∀ x b,oc≠.ok x b)/\FeedAt H' p mf) (fun R hR=>?_) ?_
   ·ext
    rcases Mj with ⟨rfl,C8,IQ,DT,Cj,_⟩ | ⟨rfl,C8,GO⟩
    ·ext
     refine⟨sl,xs,_,wd,rfl,es8,IQ.same (Rs _ _),DT,by omega,by omega,fun r HA k lns hg er sA=>?_,fun HA lns hg sA=>?_⟩
     ·ext
      refine hR _ _ ⟨.na k,.ref r,rfl,fun b o hb e=>sA _ _ (k8 b o hb e),sA _ _ et8,?_,dueP _ (fun z hz=>by rw[C8] at hz;cases hz) fun _=>⟨fun k' lns' hg'=>?_,fun lns' hg'=>?_⟩,(fun x b z=>nomatch z),fsame EA sA⟩
      ·simp only[ocD,Is,L2.IsL]
       exact⟨r,_,rfl,er,rfl,rfl,trivial⟩
      ·obtain⟨_,h⟩:=hg.one hg'
       injection h with h;rw[h]
      ·obtain⟨_,h⟩:=hg.one hg'
       cases h
     ·ext
      refine hR _ _ ⟨.tx (Pw 124 lns),_,rfl,fun b o hb e=>sA _ _ (k8 b o hb e),sA _ _ et8,(by simp only[ocD,Is]),dueP _ (fun z hz=>by rw[C8] at hz;cases hz) fun _=>⟨fun k' lns' hg'=>?_,fun lns' hg'=>?_⟩,(fun x b z=>nomatch z),fsame EA sA⟩
      ·obtain⟨_,h⟩:=hg.one hg'
       cases h
      ·obtain⟨h,_⟩:=hg.one hg'
       rw[h]
    ·ext
     refine hR _ _ ⟨.to [],.ref t1,rfl,k8,et8,?_,dueP _ (fun z hz=>by rw[C8] at hz;cases hz;rfl) (fun hz=>by rw[C8] at hz;cases hz),(fun x b z=>nomatch z),EA⟩
     simp only[ocD,Is,L2.IsL]
     exact⟨t1,_,rfl,e8,rfl,rfl,trivial⟩
   ·intro σ H9 hI9
    obtain⟨oc,v,rfl,k9,et9,hv,Eu,Eh,EB⟩:=hI9
    obtain⟨IN,KU⟩:=Zt ⟨wd,by omega⟩
    dsimp only at IN KU
    have J0:tPRS.length=5:=rfl
    have e3:Nd ls=(ls.map S).map V.str:=by rw[Nd,NK];rfl
    have et9':=et9
    rw[e3] at et9'
    have DO:=Vs ls fun l hl=>(ES l hl).1
    ext
    refine⟨Ze wd (by omega),?_⟩
    rw[<- Qf]
    show fAdd (.str (S _)) (.str (S (dig wd))) _ _
    ext
    refine SO (Pt et9') (by rw[M5,Nn];simp only[ND,Ot];omega) ?_
    rw[Qe]
    have Gy:(Nk 32 ls).length<=51 * ls.length:=(RwOk.tx fun w hw=>⟨by have:=(ES w hw).1;omega,(ES w hw).2.1⟩).2
    ext
    intro r Cd
    have erow:tPRS++[32]++dig wd++[32]++Nk 32 ls=Nk 32 (tPRS::dig wd::ls):=by
     cases ls with
     | nil=>exact absurd rfl h0
     | cons x r=>simp[Nk]
    rw[erow]
    refine q r _ _ oc v MT (Is.same (Nh Cd _) hv) ⟨by simp,by simp only[ND];omega,fun w hw=>?_,?_⟩ Eu Eh (fun b o hb e=>(Nh Cd _) _ _ (k9 b o hb e)) ⟨mf,EB.new Cd⟩
    ·rcases Nf.mp hw with rfl | hw
     ·decide
     ·rcases Nf.mp hw with rfl | hw
      ·exact⟨by omega,KU⟩
      ·exact⟨by have:=(ES w hw).1;omega,(ES w hw).2.1⟩
    ·exact jl h0 C9 (by omega)
noncomputable abbrev s_law_row:As:=top 93
theorem Zx:M' "break "=S (tBRK++[32]):=by decide +kernel
theorem t_patb:M' "pattern "=S (tPAT++[32]):=by decide +kernel
theorem t_tolb:M' "told "=S (tTOL++[32]):=by decide +kernel
theorem t_ptsb:M' "patterns "=S (tPTS++[32]):=by decide +kernel
theorem outR.of3 (h1:t≠tPRS) (h2:t≠tTON) (h3:t≠tPAR) (h4:NV ms nm=none->to nm) (h5:∀ b,NV ms nm=some b->(t=tPAT->∃ x:Pat,VP x.1 x.2/\r.getD 0 []=ptxt x.1 x.2/\kp nm ⟨b.pats++[x],b.told,b.hd,b.tl⟩)/\(t=tTOL->∃ w g:List Nat,r.getD 0 []=txt w g w.length/\N7 w=true/\Rise 0 w.length g/\kp nm ⟨b.pats,putG b.told w (g.map fun k:Nat=>(k:Int)),b.hd,b.tl⟩)/\(t=tBRK->N7 (r.getD 0 [])=true/\tl (brkF b (r.getD 0 [])))/\(t=tPTS->tl (ptsF b))):outR na to kp tl ms (t::nm::r) :=
 ⟨fun e=>absurd e h1,fun e=>absurd e h2,fun _ _ e=>h4 e,fun b hb=>⟨h3,h5 b hb⟩⟩
theorem rw3 {t nm w:List Nat}(ht:t=tPAT∨t=tTOL∨t=tBRK)(hn:isNm nm=true)(h1:nm.length<=50/\∀ c∈nm,32 < c/\c<=126/\c≠37)(h2:w.length<=50/\∀ c∈w,32 < c/\c<=126/\c≠37):RwOk [t,nm,w]:=by
 refine⟨by simp,by show 3<=41;decide,fun y hy=>?_,?_⟩
 ·rcases Nf.mp hy with rfl | hy
  ·rcases ht with rfl | rfl | rfl <;> decide
  ·rcases Nf.mp hy with rfl | hy
   ·exact h1
   ·rw[N3.mp hy];exact h2
 ·rcases ht with rfl | rfl | rfl <;> exact hn
theorem rw2 (hn:isNm nm=true) (h1:nm.length<=50/\∀ c∈nm,32 < c/\c<=126/\c≠37):RwOk [tPTS,nm]:=by
 refine⟨by simp,by show 2<=41;decide,fun y hy=>?_,hn⟩
 rcases Nf.mp hy with rfl | hy
 ·decide
 ·rw[N3.mp hy];exact h1
theorem rw4 (hn:isNm nm=true) (h1:nm.length<=50/\∀ c∈nm,32 < c/\c<=126/\c≠37) (a1:1<=hd) (a2:hd<=3) (b1:1<=tl) (b2:tl<=3):RwOk [tTON,nm,dig hd,dig tl]:=by
 refine⟨by simp,by show 4<=41;decide,fun y hy=>?_,?_⟩
 ·have HX:∀ k,k<=3->(dig k).length<=50/\∀ c∈dig k,32 < c/\c<=126/\c≠37:=fun k hk=>by
   obtain⟨h,h'⟩:=Zt ⟨k,by omega⟩
   exact⟨NI h (by decide),h'⟩
  rcases Nf.mp hy with rfl | hy
  ·decide
  ·rcases Nf.mp hy with rfl | hy
   ·exact h1
   ·rcases Nf.mp hy with rfl | hy
    ·exact HX hd a2
    ·rw[N3.mp hy];exact HX tl b2
 ·show ((Px (dig hd) 1 20&&Px (dig tl) 1 20)&&isNm nm)=true
  rw[U7 a1 (by omega),U7 b1 (by omega),hn];rfl
theorem jn (a2:hd<=3) (b2:tl<=3):Due B [tTON,nmF x,dig hd,dig tl] (.ok x ⟨[],[],(hd:Int),(tl:Int)⟩):=fun na to kp tl' c1 c2 c3 c4 =>
 ⟨fun e=>absurd e (show tTON≠tPRS by decide),fun _ hd' t' g1 g2 e1 e2=>by
  cases Zs (by omega) g1 e1
  cases Zs (by omega) g2 e2
  exact c3 x _ rfl,fun _ e=>absurd rfl e,fun b _=>⟨show tTON≠tPAR by decide,fun e=>absurd e (show tTON≠tPAT by decide),fun e=>absurd e (show tTON≠tTOL by decide),fun e=>absurd e (show tTON≠tBRK by decide),fun e=>absurd e (show tTON≠tPTS by decide)⟩⟩
theorem Zy (hy:VP y.1 y.2):Due B [tPAT,nmF x,ptxt y.1 y.2] (.ok x ⟨(B x).pats++[y],(B x).told,(B x).hd,(B x).tl⟩):=fun na to kp tl c1 c2 c3 c4 =>
 outR.of3 (by decide) (by decide) (by decide) (fun e=>by rw[Ru] at e;cases e) fun b hb=>by
  rw[Ru] at hb;cases hb
  exact⟨fun _=>⟨y,hy,rfl,c3 x _ rfl⟩,fun e=>absurd e (by decide),fun e=>absurd e (by decide),fun e=>absurd e (by decide)⟩
theorem jo {x:Bool} {w g:List Nat} (hw:N7 w=true) (hg:Rise 0 w.length g):Due B [tTOL,nmF x,txt w g w.length] (.ok x ⟨(B x).pats,putG (B x).told w (g.map fun k:Nat=>(k:Int)),(B x).hd,(B x).tl⟩):=fun na to kp tl c1 c2 c3 c4 =>
 outR.of3 (by decide) (by decide) (by decide) (fun e=>by rw[Ru] at e;cases e) fun b hb=>by
  rw[Ru] at hb;cases hb
  exact⟨fun e=>absurd e (by decide),fun _=>⟨w,g,rfl,hw,hg,c3 x _ rfl⟩,fun e=>absurd e (by decide),fun e=>absurd e (by decide)⟩
theorem jp {x:Bool} {w:List Nat} (hw:N7 w=true):Due B [tBRK,nmF x,w] (.tx (brkF (B x) w)):=fun na to kp tl c1 c2 c3 c4 =>
 outR.of3 (by decide) (by decide) (by decide) (fun e=>by rw[Ru] at e;cases e) fun b hb=>by
  rw[Ru] at hb;cases hb
  exact⟨fun e=>absurd e (by decide),fun e=>absurd e (by decide),fun _=>⟨hw,c4 _ rfl⟩,fun e=>absurd e (by decide)⟩
theorem jq :Due B [tPTS,nmF x] (.tx (ptsF (B x))):=fun na to kp tl c1 c2 c3 c4 =>
 outR.of3 (by decide) (by decide) (by decide) (fun e=>by rw[Ru] at e;cases e) fun b hb=>by
  rw[Ru] at hb;cases hb
  exact⟨fun e=>absurd e (by decide),fun e=>absurd e (by decide),fun e=>absurd e (by decide),fun _=>c4 _ rfl⟩
theorem due_no {z w:List Nat} (h:NV (msB B) z=none):Due B [tBRK,z,w] (.to z):=fun na to kp tl c1 c2 c3 c4 =>
 outR.of3 (by decide) (by decide) (by decide) (fun _=>c2 z rfl) fun b hb=>by rw[h] at hb;cases hb
theorem Zz (h:∀ x b,oc≠.ok x b):ocB B oc=B:=by
 cases oc with
 | ok x b=>exact absurd rfl (h x b)
 | tx=>rfl
 | to=>rfl
 | na=>rfl
noncomputable def setF (P:Bool->Ab)(x:Bool)(a:Ab):Bool->Ab:=fun y=>if y=x then a else P y
theorem StAt.turn {H H':Hp}{D D':List Ab}{st:Ab}{P L T:Bool->Ab}{B:Bool->Bp}(h:StAt H D st P L T B){x:Bool}{p l t:Ab}{b:Bp}{ys:List V}{kts:List (Key×V)}(hs:H' st=some (.dK [(Sum.inr (S tENO),.ref (setF P x p false)),(Sum.inr (S tEN),.ref (setF P x p true))]))(hx:TnR (offH H' D') H' p l t ys kts b)
  (ho:Same (offH H D) (offH H' D')) (hk:∀ y,y≠x->H' (L y)=H (L y)/\H' (T y)=H (T y)) (hD:∀ a∈D,a∈D') (hl:l∈D') (ht:t∈D') (Ep:∀ y,y≠x->l≠L y) (J0:∀ y,y≠x->t≠T y) (Ml:t≠st):StAt H' D' st (setF P x p) (setF L x l) (setF T x t) (setB B x b):=by
 have key:∀(F:Bool->Ab) (a:Ab),(∀ y z,F y=F z->y=z)->(∀ y,y≠x->a≠F y)->∀ y z,setF F x a y=setF F x a z->y=z:=fun F a h1 h2 y z e=>by
  unfold setF at e
  by_cases hy:y=x
  ·by_cases hz:z=x
   ·rw[hy,hz]
   ·rw[B3 hy,B2 hz] at e;exact absurd e (h2 z hz)
  ·by_cases hz:z=x
   ·rw[B2 hy,B3 hz] at e;exact absurd e.symm (h2 y hy)
   ·rw[B2 hy,B2 hz] at e;exact h1 y z e
 refine⟨hs,fun y=>?_,hD _ h.sD,fun y=>?_,fun y=>?_,key L l h.ll Ep,key T t h.tt J0,fun y=>?_⟩
 ·unfold setF setB
  by_cases hy:y=x
  ·rw[B3 hy,B3 hy,B3 hy,B3 hy];exact⟨ys,kts,hx⟩
  ·rw[B2 hy,B2 hy,B2 hy,B2 hy]
   obtain⟨ys,kts,g⟩:=h.tn y
   exact⟨ys,kts,g.mono ho (hk y hy).1 (hk y hy).2⟩
 ·unfold setF;split
  ·exact hl
  ·exact hD _ (h.lD y)
 ·unfold setF;split
  ·exact ht
  ·exact hD _ (h.tD y)
 ·unfold setF;split
  ·exact Ml
  ·exact h.ts y
theorem SZ (P:Bool->Ab)(x:Bool):setF P x (P x)=P:=by
 funext y
 unfold setF
 split
 ·rename_i h;rw[h]
 ·rfl
theorem j3 (t a b:List Nat):t++[32]++a++[32]++b=Nk 32 [t,a,b]:=by simp[Nk]
theorem Lv.tup (h:Lv H D):∀ b zs,H b=some (.tup zs)->offH H D b=some (.tup zs):=fun b zs e=>by
 rw[Om fun hb=>by
  obtain⟨o,h1,h2⟩:=h b hb
  rw[e] at h1;cases h1;exact h2 _ rfl]
 exact e
theorem aE (y:Pat):P6 (patD y)=true:=by
 have hi:∀ g:List Int,OQ (g.map Dt.int)=true:=fun g=>by
  induction g with
  | nil=>rfl
  | cons x g ih=>simp only[Nq,OQ,P6,ih];rfl
 unfold patD
 simp only[P6,OQ,hi];rfl
theorem ZB (h:n<=9):∀ c∈fig n,32 < c/\c<=126/\c≠37:=fun c hc=>by
 unfold fig at hc
 split at hc
 ·rw[N3.mp hc];omega
 ·cases hc
theorem U_ {y:Pat}(h:VP y.1 y.2):∀ c∈ptxt y.1 y.2,32 < c/\c<=126/\c≠37:=by
 have hn:=h.nlen
 have hp:∀ i,i<=y.1.length->∀ c∈pre y.1 y.2 i,32 < c/\c<=126/\c≠37:=fun i=>by
  induction i with
  | zero=>intro _ c hc;cases hc
  | succ i ih =>
   intro hi c hc
   simp only[pre] at hc
   rcases NP.mp hc with hc | hc
   ·exact ih (by omega) c hc
   ·rcases NP.mp hc with hc | hc
    ·exact ZB (h.num i (by omega)).2 c hc
    ·rw[N3.mp hc]
     rcases h.let_ i (by omega) with h1 | h1
     ·rw[h1.1];decide
     ·exact Sw (w:=[y.1.getD i 0]) (fun c hc=>by rw[N3.mp hc];exact h1) _ (N3.mpr rfl)
 intro c hc
 unfold ptxt at hc
 rcases NP.mp hc with hc | hc
 ·exact hp _ (M6 _) c hc
 ·exact ZB (h.num _ (by omega)).2 c hc
theorem Sx {n:Nat}:∀{b:Nat}{g:List Nat},Rise b n g->0∉g
 | _,[],_,h=>nomatch h
 | b,x::g,r,h=>by
  rcases Nf.mp h with e | h
  ·have:=r.1;omega
  ·exact Sx r.2.2 h
theorem ZC {w g:List Nat}(h:∀ c∈w,32 < c/\c<=126/\c≠37):∀ c∈txt w g w.length,32 < c/\c<=126/\c≠37:=by
 have hp:∀ i,i<=w.length->∀ c∈txt w g i,32 < c/\c<=126/\c≠37:=fun i=>by
  induction i with
  | zero=>intro _ c hc;cases hc
  | succ i ih =>
   intro hi c hc
   rw[WX] at hc
   rcases NP.mp hc with hc | hc
   ·exact ih (by omega) c hc
   ·rcases NP.mp hc with hc | hc
    ·split at hc
     ·rw[N3.mp hc];decide
     ·cases hc
    ·rw[N3.mp hc,Nl,Na (show i < w.length by omega)]
     exact h _ (N5 _)
 exact hp _ (M6 _)
def spRow:Sp:=fun vs H Q _=>∃(p st wa:Ab) (n:Nat) (l:List Nat) (w3:List (List Nat)) (D:List Ab) (P L T:Bool->Ab) (B:Bool->Bp) (nb:Nat),vs=[.ref p,.ref st,.str (S l),.ref wa]/\Pre H p st wa n l w3 D P L T B nb/\n+4000 < R4/\nb<=90 /\
 ∀(r:Ab) (H':Hp) (ws:List (List Nat)) (oc:Oc) (v:V) (D':List Ab) (P' L' T':Bool->Ab),H' r=some (.tup [.str (S (Nk 32 ws)),v])->(Is H' v (ocD oc)∨v=.non/\oc=.to (ws.getD 1 []))->RwOk ws->Due B ws oc->StAt H' D' st P' L' T' (ocB B oc)->(∀ a∈D,a∈D')->(∀ a∈D',a∈D∨H a=none)->Lv H' D'->(∀ b o,b≠p->b≠st->(∀ x,b≠L x/\b≠T x)->H b=some o->H' b=some o)->(∀ x,T' x=T x∨H (T' x)=none)->Q (.ref r) H'
theorem jr (T:Txt mg tk)(F:Fun K "_law_row" "_law_row" s_law_row f fd)(B5:Dn P w K mg base "_law_next" 1 ["_law_feed_here","_law_many"] R5)(B':Dn P w K mg base "_law_word" 2 ["_law_feed_here","_law_letters_here","_law_most"] QY)(Ci:Dn P w K mg base "_law_pattern" 3 ["_law_feed_here","_law_letters_here","_law_word_here","_law_most"] U1)(Co:Dn P w K mg base "_law_text" 1 ["_law_pattern_here"] U2)(CU:Dn P w K mg base "_law_shown" 1 ["_law_word_here","_law_gaps_here"] Zk)(Cu:Dn P w K mg base "_law_gaps" 2 ["_law_tongue","_law_word_here"] U5)(Cc:Dn P w K mg base "_law_tongue_row" 2 ["_law_feed_here","_law_state","_law_name"] U6)(CG:Dn P w K mg base "_law_press_row" 3 ["_law_feed_here","_law_state","_law_letters_here","_law_words"] Zw):FnOk P w K mg base CX0 4 f fd ["_law_feed_here","_law_state","_law_letters_here","_law_words"] spRow:=by
 refine F.okk ["_law_feed_here","_law_state","_law_letters_here","_law_words","_law_way","_law_name","_law_word_here","_law_pattern_here","_law_gaps_here","_law_texts"] ?_
 rintro _ _ _ s H _ Q _ hr ⟨p,st,wa,n,l,w3,D,P',L,T',B,nb,rfl,hP,hn,hnb,q⟩ nd
 refine⟨_,(MS (pst 4 nd (M3 B5 hr.MX rfl (MQ (pv 0) (pa1 MP))))
  (MS (pst 5 nd (pix K (NN (MQ NQ (pa1 NQ))) (M3 B5 hr.MX rfl (MQ (pv 0) (pa1 MP)))))
  (MS (pst 6 nd (pix K (NN (MQ (pix K (pv 3) (M3 B5 hr.MX rfl (MQ (pv 0) (pa1 (pcb (Nu (K:=K)) T.z_len (pa1 (pv 3))))))) (pa1 (M3 B' hr.MX rfl (MQ (pv 0) (MQ (pv 2) (pa1 MP))))))) (M3 B5 hr.MX rfl (MQ (pv 0) (pa1 MP)))))
  (MS (Nc (Nb (o_eq hr.units) (pv 4) MP (M9 _))
   (MU (M8 (NY (MQ (MY M_ (MY M_ (MY M_ (M4 Zx) (pix K (NN (MQ NQ (MQ NQ (pa1 NQ)))) (M3 B5 hr.MX rfl (MQ (pv 0) (pa1 MP))))) (M4 Pm)) (pv 6)) (pa1 Pz)))))
   Ni)
  (MS (Nc (PW.pt (QC (Nb (o_eq hr.units) (pv 4) MP (M9 _)) (Qz (Nb (o_eq hr.units) (M3 B5 hr.MX rfl (MQ (pv 0) (pa1 MP))) MP (M9 _)))))
   (MU (M8 (M3 Cc hr.MX rfl (MQ (pv 0) (MQ (pv 1) (pa1 (pv 5)))))))
   Ni)
  (MS (Nc (Nb o_lt (pv 4) MP (M9 _))
   (MS (pst 7 nd (M3 Ci hr.MX rfl (MQ (pv 0) (MQ (pv 2) (MQ (pv 6) (pa1 (pix K (NN (MQ MP (MQ MP (pa1 MP)))) (M3 B5 hr.MX rfl (MQ (pv 0) (pa1 MP))))))))))
  (MS (N9 (NF (K:=K) OI OZ O0 O9 (Oq (NO hr) (Oq (NO hr) (pv 1) (pv 5) (fun _ _=>rfl)) NQ (fun _ _=>rfl)) (pa1 (pv 7))))
  (MU (M8 (NY (MQ (MY M_ (MY M_ (MY M_ (M4 t_patb) (pv 5)) (M4 Pm)) (M3 Co hr.MX rfl (pa1 (pv 7)))) (pa1 (M4 t_ok))))))))
   Ni)
  (MS (Nc (Nb (o_eq hr.units) (pv 4) MP (M9 _))
   (MS (QL (i:=8) ["_law_feed_here","_law_gap"] [some 0,none] rfl (by kernel_rfl) rfl nd rfl rfl (Th rfl T.z_range (MQ MP (pa1 (pcb (Nu (K:=K)) T.z_len (pa1 (pv 6)))))) (fun _ _ _ _=>(N_ (i:=1) (show (["_law_feed_here","_law_gap"]:List Str).Nodup by decide +kernel) rfl (Or.inl rfl) (Or.inr rfl))) (fun _ _ _ _=>(Tx (Nb (o_eq hr.units) (M3 B5 hr.MX rfl (MQ (pv 0) (pa1 MP))) MP (M9 _)))) (fun _ _ _ _=>(pv 1)))
  (MS (Q2 (NO hr) (Oq (NO hr) (Oq (NO hr) (pv 1) (pv 5) (fun _ _=>rfl)) NQ (fun _ _=>rfl)) (pv 6) (pv 8) rfl)
  (MU (M8 (NY (MQ (MY M_ (MY M_ (MY M_ (M4 t_tolb) (pv 5)) (M4 Pm)) (M3 CU hr.MX rfl (MQ (pv 6) (pa1 (pv 8))))) (pa1 (M4 t_ok))))))))
   Ni)
  (MS (Nc (Nb (o_eq hr.units) (pv 4) MP (M9 _))
   (MS (QL (i:=9) ["_law_pattern_here"] [none] rfl (by kernel_rfl) rfl nd rfl rfl (Pf (K:=K) (Oq (NO hr) (Oq (NO hr) (pv 1) (pv 5) (fun _ _=>rfl)) NQ (fun _ _=>rfl))) (fun _ _ _ _=>(N_ (i:=0) (show (["_law_pattern_here"]:List Str).Nodup by decide +kernel) rfl (Or.inl rfl) (Or.inr rfl))) (fun _ _ _ _=>QK) (fun _ _ _ _=>(M3 Co hr.MX rfl (pa1 (pv 0)))))
  (MU (M8 (NY (MQ (MY M_ (M4 t_ptsb) (pv 5)) (pa1 (VX (Nb (o_ne hr.units) (pv 9) (NN O7) (M9 _)) (NF (K:=K) OD Rc Re SM (M4 Pm) (pa1 (pv 9))) (M4 Sr))))))))
   Ni)
  (MS (Nc (Nb (o_eq hr.units) (pv 4) MP (M9 _))
   (MU (M8 (NY (MQ (MY M_ (MY M_ (MY M_ (M4 Zx) (pv 5)) (M4 Pm)) (pv 6)) (pa1 (M3 CU hr.MX rfl (MQ (pv 6) (pa1 (M3 Cu hr.MX rfl (MQ (Oq (NO hr) (pv 1) (pv 5) (fun _ _=>rfl)) (pa1 (pv 6))))))))))))
   Ni)
  (MU (M8 (M3 CG hr.MX rfl (MQ (pv 0) (MQ (pv 1) (MQ (pv 2) (pa1 (pv 3))))))))))))))))),?_⟩
 walk_at "s0"
 have DX:=hP.w1
 have Er:=hP.w2
 have IT:=hP.hw
 have Mm:=hP.f
 ext
 refine⟨p,9,n,rfl,Mm,by omega,by decide,by decide,fun way H1 y0 y1 Dv o1=>?_⟩
 ext
 intro a1 DD
 have pa1:p≠a1:=by obtain⟨o,e⟩:=Dv.some;exact MZ e DD
 ext
 refine⟨p,2,_,rfl,Dv.new DD,by omega,by decide,by decide,fun d1 H2 z0 z1 Dw o2=>?_⟩
 have ea1:H2 a1=some (.lst [.str (M' "en"),.str (M' "eno")]):=by rw[o2 a1 (M7 pa1),MT]
 obtain⟨x,hx⟩:∃ x,atI [V.str (M' "en"),V.str (M' "eno")] d1=some (.str (S (nmF x))):=by
  have hd:d1=0∨d1=1:=by omega
  rcases hd with rfl | rfl
  ·exact⟨true,by decide +kernel⟩
  ·exact⟨false,by decide +kernel⟩
 have k2:∀ b o,b≠p->H b=some o->H2 b=some o:=fun b o hb e=>by
  have e1:=(o1 b hb).trans e
  rw[o2 b hb,MR (MZ e1 DD)];exact e1
 have C9:=k2 _ _ hP.wp IT
 ext
 rw[U0]
 refine⟨p,_,_,rfl,Dw,by omega,by omega,by omega,fun d2 H3 a0 a1' Df o3=>?_⟩
 obtain⟨k1,rfl⟩:∃ k1:Nat,d2=(k1:Int):=⟨d2.toNat,by omega⟩
 have Fp:k1 < w3.length:=by omega
 have DW:=OG Fp
 obtain⟨HS,HU,HV⟩:=hP.wl (w3.getD k1 []) (by rw[Nl,Na Fp];exact N5 Fp)
 generalize w3.getD k1 []=wA at DW HS HU HV
 have HJ:H3 wa=some (.lst (Nd w3)):=(o3 wa hP.wp).trans C9
 ext
 refine⟨p,_,l,9,rfl,Df,by omega,hP.low,hP.l1,hP.l2,by decide,by decide,fun w2 H4 FU De FX DH k4=>?_⟩
 ext
 intro a2 EQ
 have pa2:p≠a2:=by obtain⟨o,e⟩:=DH.some;exact MZ e EQ
 ext
 refine⟨p,2,_,rfl,DH.new EQ,by omega,by decide,by decide,fun d3 H5 E3 Dx DA o5=>?_⟩
 have ea2:H5 a2=some (.lst [.str (S wA),.str (S w2)]):=by rw[o5 a2 (M7 pa2),MT]
 have k5:Kept p H H5:=fun b o hb e=>by
  have e4:=k4 b o hb ((o3 b hb).trans (k2 b o hb e))
  rw[o5 b hb,MR (MZ e4 EQ)];exact e4
 obtain⟨wW,KW,GW,Fg,Mf⟩:∃ wW,atI [V.str (S wA),V.str (S w2)] d3=some (.str (S wW))/\Low wW/\1<=wW.length/\wW.length<=9:=by
  have hd:d3=0∨d3=1:=by omega
  rcases hd with rfl | rfl
  ·exact⟨wA,rfl,HS,HU,HV⟩
  ·exact⟨w2,rfl,FU,De,FX⟩
 have IU:=hP.kept k5 (DA.mono (show _<=n+100 by omega))
 have KY:∀ a∈D,a∈D∨H a=none:=fun a ha=>.inl ha
 have fin:∀(r:Ab) (H':Hp) (ws:List (List Nat)) (oc:Oc) (v:V) (m:Nat),FeedAt H' p m->H' r=some (.tup [.str (S (Nk 32 ws)),v])->(Is H' v (ocD oc)∨v=.non/\oc=.to (ws.getD 1 []))->RwOk ws->Due B ws oc->(∀ x b,oc≠.ok x b)->Kept p H5 H'->Q (.ref r) H':=fun r H' ws oc v m hf' er hv hW hD Eh k'=>by
  have hP':=IU.kept k' hf'
  exact q r H' ws oc v D P' L T' er hv hW hD (by rw[Zz Eh];exact hP'.s) (fun a h=>h) KY hP'.lv (fun b o hb _ _ e=>k' b o hb (k5 b o hb e)) fun x=>.inl rfl
 have Ff:=U8 GW Fg
 have Gi:=Sw GW
 obtain⟨FK,DI,ER⟩:=Sv x
 refine PZ (OF ea2) KW (Nt ?_)
 clear DH Df Dw Dv k4 k2 o5 o3 o2 o1 DD EQ ea1 ea2 DW KW hx HJ C9 IT
 have DA:=IU.f
 have Mn:tBRK.length=5:=rfl
 ext
 refine iteD (fun c0=>?_) (fun c0=>?_)
 ·ext
  intro a3 F_
  have pa3:p≠a3:=by obtain⟨o,e⟩:=DA.some;exact MZ e F_
  ext
  refine⟨p,3,_,rfl,DA.new F_,by omega,by decide,by decide,fun d4 H6 e0 e1 DG o6=>?_⟩
  have ea3:H6 a3=some (.lst [.str (M' "e"),.str (M' "enoo"),.str (M' "on")]):=by rw[o6 a3 (M7 pa3),MT]
  obtain⟨z,hz,EG,HY,EH,Mo⟩:∃ z,atI [V.str (M' "e"),V.str (M' "enoo"),V.str (M' "on")] d4=some (.str (S z))/\NV (msB B) z=none/\isNm z=true/\z.length<=4/\∀ c∈z,32 < c/\c<=126/\c≠37:=by
   have hd:d4=0∨d4=1∨d4=2:=by omega
   rcases hd with rfl | rfl | rfl
   ·exact⟨[101],by decide +kernel,rfl,by decide,by decide,by decide⟩
   ·exact⟨[101,110,111,111],by decide +kernel,rfl,by decide,by decide,by decide⟩
   ·exact⟨[111,110],by decide +kernel,rfl,by decide,by decide,by decide⟩
  ext
  intro r Cd
  rw[j3]
  exact fin r _ _ (.to z) .non _ (DG.new Cd) MT (.inr ⟨rfl,rfl⟩) (rw3 (.inr (.inr rfl)) HY ⟨by omega,Mo⟩ ⟨by omega,Gi⟩) (due_no EG) (fun x b z=>nomatch z) fun b o hb e=>by
   have e6:H6 b=some o:=by rw[o6 b hb,MR (MZ e F_)];exact e
   rw[MR (MZ e6 Cd)];exact e6
 ·refine WP ?_
  dsimp only
  refine U9 (fun σ H'=>σ=[some (.ref p),some (.ref st),some (.str (S l)),some (.ref wa),some (.int way),some (.str (S (nmF x))),some (.str (S wW)),none,none,none]/\FeedAt H' p (n+101)/\Kept p H5 H') (fun R hR=>?_) ?_
  ·ext
   refine iteD (fun c1=>?_) (fun c1=>?_)
   ·ext
    refine⟨p,3,_,rfl,DA,by omega,by decide,by decide,fun d4 H6 e0 e1 DG o6=>?_⟩
    ext
    refine iteD (fun c2=>?_) (fun c2=>?_)
    ·ext
     have D4:=IU.kept o6.kept DG
     refine⟨p,st,_,_,nmF x,rfl,DG,by omega,D4.s.hs,by show 2<=10;decide,by omega,fun r pp l' t' hd tl H7 b1 b2 b3 b4 er Fx hl' ht' ep el et es D3 k7=>?_⟩
     ext
     have nin:∀ a,H6 a=none->a∉D:=fun a ha hm=>by obtain⟨o,e,_⟩:=D4.lv a hm;rw[ha] at e;cases e
     have DU:∀ a,H6 a=none->H a=none:=fun a ha=>by
      cases e:H a with
      | none=>rfl
      | some o =>
       have hb:a≠p:=fun z=>by obtain⟨o',e'⟩:=DG.some;rw[z,e'] at ha;cases ha
       rw[(o6 a hb).trans (k5 a o hb e)] at ha;cases ha
     have lpp:pp≠l':=fun z=>by rw[z,el] at ep;cases ep
     have tpp:pp≠t':=fun z=>by
      rw[z,et] at ep
      injection ep with ep
      injection ep with ep
      cases ep
     have Cb:Same (offH H6 D) (offH H7 (l'::t'::D)):=OA fun b o hb e=>⟨fun h=>by
      rcases Nf.mp h with rfl | h
      ·rw[hl'] at e;cases e
      ·rcases Nf.mp h with rfl | h
       ·rw[ht'] at e;cases e
       ·exact hb h,k7 b o (fun z=>hb (z▸hP.pD)) (fun z=>hb (z▸hP.s.sD)) e⟩
     have Eg:∀ y,H6 (L y)≠none/\H6 (T' y)≠none:=fun y=>by
      obtain⟨ys,kts,g⟩:=D4.s.tn y
      rw[g.hl,g.ht];exact⟨(fun z=>nomatch z),fun z=>nomatch z⟩
     have hpp':pp∉l'::t'::D:=fun h=>by
      rcases Nf.mp h with h | h
      ·exact lpp h
      ·rcases Nf.mp h with h | h
       ·exact tpp h
       ·exact nin pp Fx h
     refine q r H7 [tTON,nmF x,dig hd,dig tl] (.ok x ⟨[],[],(hd:Int),(tl:Int)⟩) _ (l'::t'::D) _ _ _ er (.inl (by simp only[ocD,Is])) (rw4 FK ⟨by omega,ER⟩ b1 b2 b3 b4) (jn b2 b4) (D4.s.turn (x:=x) (p:=pp) (l:=l') (t:=t') (ys:=[]) (kts:=[]) (b:=⟨[],[],(hd:Int),(tl:Int)⟩) ?_ ⟨by rw[Om hpp'];exact ep,el,by simp only[N8,L2.IsL],et,trivial⟩ Cb (fun y hy=>?_) (fun a h=>by simp[h]) (by simp) (by simp) (fun y _ z=>(Eg y).1 (z▸hl')) (fun y _ z=>(Eg y).2 (z▸ht')) (fun z=>by rw[z,D4.s.hs] at ht';cases ht')) (fun a h=>by simp[h]) (fun a h=>?_) (fun a h=>?_) (fun b o hb hs _ e=>k7 b o hb hs ((o6 b hb).trans (k5 b o hb e))) fun y=>?_
     ·rw[es];cases x <;> rfl
     ·obtain⟨ys,kts,g⟩:=D4.s.tn y
      rw[g.hl,g.ht]
      exact⟨k7 _ _ (M7 (hP.pl y).1) (fun z=>by have:=g.hl;rw[z,D4.s.hs] at this;cases this) g.hl,k7 _ _ (M7 (hP.pl y).2) (hP.s.ts y) g.ht⟩
     ·rcases Nf.mp h with rfl | h
      ·exact .inr (DU _ hl')
      ·rcases Nf.mp h with rfl | h
       ·exact .inr (DU _ ht')
       ·exact .inl h
     ·rcases Nf.mp h with rfl | h
      ·exact⟨_,el,fun zs z=>by cases z⟩
      ·rcases Nf.mp h with rfl | h
       ·exact⟨_,et,fun zs z=>by cases z⟩
       ·by_cases z:a=p
        ·obtain⟨u1,u2,u3,e,_⟩:=D3
         exact⟨_,by rw[z];exact e,fun zs z=>by cases z⟩
        ·by_cases z2:a=st
         ·exact⟨_,by rw[z2];exact es,fun zs z=>by cases z⟩
         ·obtain⟨o,h1,h2⟩:=D4.lv a h
          exact⟨o,k7 a o z z2 h1,h2⟩
     ·unfold setF
      split
      ·exact .inr (DU _ ht')
      ·exact .inl rfl
    ·ext
     exact hR _ _ ⟨rfl,DG,o6.kept⟩
   ·ext
    exact hR _ _ ⟨rfl,DA.mono (by omega),fun b o _ e=>e⟩
  ·intro σ H6 hI9
   obtain⟨rfl,DG,k6⟩:=hI9
   have D4:=IU.kept k6 DG
   have fin2:∀(H8 H':Hp) (m:Nat) (ET:Pre H8 p st wa m l w3 D P' L T' B nb) (c r:Ab) (ws:List (List Nat)) (b:Bp) (ys:List V) (kts:List (Key×V)),c∈D->(∀ b,(∀ x,b≠L x/\b≠T' x)->b≠c)->c≠st->(∀ y,y≠x->c≠L y/\c≠T' y)->Kept p H H8->(∀ a o,a≠c->H8 a=some o->H' a=some o)->(∃ o,H' c=some o/\∀ zs,o≠.tup zs)->TnR (offH H' D) H' (P' x) (L x) (T' x) ys kts b->H' r=some (.tup [.str (S (Nk 32 ws)),.str (S tOK)])->RwOk ws->Due B ws (.ok x b)->Q (.ref r) H':=fun H8 H' m ET c r ws b ys kts cD cx cs cy k8 k' hc hx er hW Eu=>by
    have ht:=ET.s.turn (x:=x) (p:=P' x) (l:=L x) (t:=T' x) (H':=H') (D':=D) (b:=b) (by rw[SZ];exact k' _ _ (M7 cs) ET.s.hs) hx (OA fun b o hb e=>⟨hb,k' b o (fun z=>hb (z▸cD)) e⟩) (fun y hy=>by
     obtain⟨ys,kts,g⟩:=ET.s.tn y
     rw[g.hl,g.ht]
     exact⟨k' _ _ (M7 (cy y hy).1) g.hl,k' _ _ (M7 (cy y hy).2) g.ht⟩) (fun a h=>h) (hP.s.lD x) (hP.s.tD x) (fun y hy z=>hy (hP.s.ll _ _ z).symm) (fun y hy z=>hy (hP.s.tt _ _ z).symm) (hP.s.ts x)
    rw[SZ,SZ,SZ] at ht
    refine q r H' ws (.ok x b) _ D P' L T' er (.inl (by simp only[ocD,Is])) hW Eu ht (fun a h=>h) KY (fun a ha=>?_) (fun b o hb _ hc e=>k' b o (cx b hc) (k8 b o hb e)) fun x=>.inl rfl
    by_cases z:a=c
    ·rw[z];exact hc
    ·obtain⟨o,h1,h2⟩:=ET.lv a ha
     exact⟨o,k' a o z h1,h2⟩
   have Mp:tTOL.length=4:=rfl
   have Mq:tPAT.length=7:=rfl
   have h8t:tPTS.length=8:=rfl
   ext
   refine iteD (fun c3=>?_) (fun c3=>?_)
   ·ext
    intro a3 F_
    have pa3:p≠a3:=by obtain⟨o,e⟩:=DG.some;exact MZ e F_
    ext
    refine⟨p,3,_,rfl,DG.new F_,by omega,by decide,by decide,fun d4 H7 e0 e1 D3 o7=>?_⟩
    have ea3:H7 a3=some (.lst [.int 4,.int 3,.int 22]):=by rw[o7 a3 (M7 pa3),MT]
    obtain⟨m,hm,Fq,HE⟩:∃ m:Nat,atI [V.int 4,V.int 3,V.int 22] d4=some (.int (m:Int))/\1<=m/\m<=22:=by
     have hd:d4=0∨d4=1∨d4=2:=by omega
     rcases hd with rfl | rfl | rfl
     ·exact⟨4,rfl,by decide,by decide⟩
     ·exact⟨3,rfl,by decide,by decide⟩
     ·exact⟨22,rfl,by decide,by decide⟩
    have k7:Kept p H6 H7:=fun b o hb e=>by rw[o7 b hb,MR (MZ e F_)];exact e
    ext
    refine⟨p,_,l,wW,m,rfl,D3,by omega,hP.low,hP.l1,hP.l2,GW,Fg,by omega,Fq,HE,fun v y H8 hv hy EA k8=>?_⟩
    have ET:=D4.kept (k7.trans k8) (EA.mono (show _<=n+400 by omega))
    obtain⟨ys,kts,g⟩:=ET.s.tn x
    have En:=g.hy.length
    rw[M5] at En
    have HL:=(hP.ok x).pn
    have Fh:=g.hl
    have Mr:ys.length < 1000000:=by omega
    ext
    refine Oz ?_
    ext
    refine Oz ?_
    ext
    refine⟨st,_,rfl,ET.s.get x▸DGet.k (k:=Sum.inr (S (nmF x))) ET.s.hs,?_⟩
    ext
    refine⟨P' x,_,rfl,Zn▸DGet.k (k:=Sum.inr "patterns") ((Rs _ _) _ _ g.hp),?_⟩
    ext
    have tks:Tk H8 (upd H8 (L x) (.lst (ys++[v]))):=fun b zs e=>by rw[MR fun z=>by rw[z,Fh] at e;cases e];exact e
    have Ms:=Is.tk tks (aE y) hv
    have pl9:=hP.pl x
    refine⟨v,y,rfl,Ms,hy,fun H9 s9=>?_⟩
    have Mt:=Vr y.1 y.2
    have J5:=hy.len
    ext
    intro r Cd
    rw[j3]
    have k':∀ a o,a≠L x->H8 a=some o->upd H9 r (.tup [.str (S (Nk 32 [tPAT,nmF x,ptxt y.1 y.2])),.str (S tOK)]) a=some o:=fun a o ha e=>by
     have e9:=s9 a o (by rw[MR ha];exact e)
     rw[MR (MZ e9 Cd)];exact e9
    have eL:=s9 (L x) _ MT
    have eL':upd H9 r (.tup [.str (S (Nk 32 [tPAT,nmF x,ptxt y.1 y.2])),.str (S tOK)]) (L x)=some (.lst (ys++[v])):=by rw[MR (MZ eL Cd)];exact eL
    have Cb:Same (offH H8 D) (offH (upd H9 r (.tup [.str (S (Nk 32 [tPAT,nmF x,ptxt y.1 y.2])),.str (S tOK)])) D):=OA fun b o hb e=>⟨hb,k' b o (fun z=>hb (z▸hP.s.lD x)) e⟩
    refine fin2 H8 _ _ ET (L x) r _ ⟨(B x).pats++[y],(B x).told,(B x).hd,(B x).tl⟩ (ys++[v]) kts (hP.s.lD x) (fun b h=>(h x).1) (fun z=>by rw[z,ET.s.hs] at Fh;cases Fh) (fun y' hy'=>⟨fun z=>hy' (hP.s.ll _ _ z).symm,fun z=>by obtain⟨ys',kts',g'⟩:=ET.s.tn y';rw[z,g'.ht] at Fh;cases Fh⟩) (k5.trans (k6.trans (k7.trans k8))) k' ⟨_,eL',fun zs z=>by cases z⟩ ⟨Cb _ _ g.hp,eL',?_,k' _ _ (fun z=>by rw[<- z,g.ht] at Fh;cases Fh) g.ht,NT.same (Su Cb) g.hk⟩ MT (rw3 (.inl rfl) FK ⟨by omega,ER⟩ ⟨by omega,U_ hy⟩) (Zy hy)
    show L2.IsL _ _ (List.map patD (_++_))
    rw[Np]
    refine IsL.append (IsL.same Cb g.hy) ?_
    simp only[Nq,N8,L2.IsL]
    exact⟨Is.same Cb (Is.tk (ET.lv.tup) (aE y) hv),trivial⟩
   ·ext
    refine iteD (fun c4=>?_) (fun c4=>?_)
    ·ext
     intro r Cd
     have pr:p≠r:=by obtain⟨o,e⟩:=DG.some;exact MZ e Cd
     refine RR (fun i B6 σ H'=>∃(v:Option V) (g:List Nat),σ=[some (.ref p),v]/\B6=(g.map fun k:Nat=>V.int (k:Int))/\g.length<=i/\Rise 0 (1+i) g/\FeedAt H' p (n+101+i)/\Kept p H6 H'/\H' r=some (.lst B6))
      ⟨none,[],rfl,rfl,M6 _,trivial,DG.new Cd,fun b o _ e=>(Nh Cd _) _ _ e,MT⟩ (fun i B6 σ H' hI9=>by rcases hI9 with ⟨_,g,_,e,e1,_,_,_,e2⟩;exact⟨e2,by rw[e,M5];exact e1⟩) (szn (by omega)) ?_ ?_
     ·intro i B6 σ H7 hi hI9
      obtain⟨v,g,rfl,rfl,EM,Du,D3,k7,e7⟩:=hI9
      ext
      refine⟨p,2,_,rfl,D3,by omega,by decide,by decide,fun d4 H8 e0 e1 EA o8=>?_⟩
      have e8:=(o8 r (M7 pr)).trans e7
      have k8:=k7.off o8
      ext
      refine iteD (fun c5=>?_) (fun c5=>?_)
      ·ext
       refine⟨e8,_,g++[1+i],rfl,by rw[Np];rfl,by rw[No,OH];omega,YD Du (show 0 < 1+i by omega),EA.off (MR pr),fun b o hb e=>?_,MT⟩
       rw[MR (MZ e Cd)];exact k8 b o hb e
      ·ext
       exact⟨_,g,rfl,rfl,by omega,UF Du (by omega),EA,k8,e8⟩
     ·intro B6 σ H7 hI9
      obtain⟨v,g,rfl,rfl,EM,Du,D3,k7,e7⟩:=hI9
      have Du:Rise 0 wW.length g:=UF Du (by omega)
      have HZ:=D4.kept k7 (D3.mono (show _<=n+400 by omega))
      obtain⟨ys,kts,gT⟩:=HZ.s.tn x
      have FT:=gT.ht
      have Em:=UU gT.hk
      have LR:=(hP.ok x).tn
      ext
      refine Q7 ?_
      ext
      refine Oz ?_
      ext
      refine Oz ?_
      ext
      refine⟨st,_,rfl,HZ.s.get x▸DGet.k (k:=Sum.inr (S (nmF x))) HZ.s.hs,?_⟩
      ext
      refine⟨P' x,_,rfl,U4▸DGet.k (k:=Sum.inr "told") ((Rs _ _) _ _ gT.hp),?_⟩
      ext
      refine⟨T' x,_,rfl,DPut.k (k:=Sum.inr (S wW)) FT (Qy (show kts.length<=1000 by omega) (by decide)),?_⟩
      ext
      have rT:r≠T' x:=fun z=>by rw[z,FT] at e7;cases e7
      have g0:0∉g:=fun h=>Sx Du h
      refine⟨wW,g,r,rfl,by rw[MR rT];exact e7,Fg,by omega,by have:=YV Du (NA _);omega,g0,fun H8 s8=>?_⟩
      have Ds:=au wW g wW.length
      ext
      intro r2 De
      rw[j3]
      have k':∀ a o,a≠T' x->H7 a=some o->upd H8 r2 (.tup [.str (S (Nk 32 [tTOL,nmF x,txt wW g wW.length])),.str (S tOK)]) a=some o:=fun a o ha e=>by
       have e9:=s8 a o (by rw[MR ha];exact e)
       rw[MR (MZ e9 De)];exact e9
      have eT:=s8 (T' x) _ MT
      have eT':upd H8 r2 (.tup [.str (S (Nk 32 [tTOL,nmF x,txt wW g wW.length])),.str (S tOK)]) (T' x)=some (.dK (putK kts (Sum.inr (S wW)) (.ref r))):=by rw[MR (MZ eT De)];exact eT
      have Cb:Same (offH H7 D) (offH (upd H8 r2 (.tup [.str (S (Nk 32 [tTOL,nmF x,txt wW g wW.length])),.str (S tOK)])) D):=OA fun b o hb e=>⟨hb,k' b o (fun z=>hb (z▸hP.s.tD x)) e⟩
      have rD:r∉D:=fun h=>by obtain⟨o,e,_⟩:=D4.lv r h;rw[Cd] at e;cases e
      have er8:=k' r _ rT e7
      refine fin2 H7 _ _ HZ (T' x) r2 _ ⟨(B x).pats,putG (B x).told wW (g.map fun k:Nat=>(k:Int)),(B x).hd,(B x).tl⟩ ys (putK kts (Sum.inr (S wW)) (.ref r)) (hP.s.tD x) (fun b h=>(h x).2) (hP.s.ts x) (fun y' hy'=>⟨(fun z=>by obtain⟨ys',kts',g'⟩:=HZ.s.tn y';rw[z,g'.hl] at FT;cases FT),fun z=>hy' (hP.s.tt _ _ z).symm⟩) (k5.trans (k6.trans k7)) k' ⟨_,eT',fun zs z=>by cases z⟩ ⟨Cb _ _ gT.hp,k' _ _ (fun z=>by rw[<- z,gT.hl] at FT;cases FT) gT.hl,IsL.same Cb gT.hy,eT',NT.put (NT.same (Su Cb) gT.hk) (Zl ?_)⟩ MT (rw3 (.inr (.inl rfl)) FK ⟨by omega,ER⟩ ⟨by omega,ZC Gi⟩) (jo Ff Du)
      rw[Om rD,er8,NK];rfl
    ·ext
     refine iteD (fun c5=>?_) (fun c5=>?_)
     ·ext
      refine Oz ?_
      ext
      refine Oz ?_
      ext
      refine⟨st,_,rfl,D4.s.get x▸DGet.k (k:=Sum.inr (S (nmF x))) D4.s.hs,?_⟩
      ext
      obtain⟨ys,kts,gT⟩:=D4.s.tn x
      have Fh:=gT.hl
      refine⟨P' x,_,rfl,Zn▸DGet.k (k:=Sum.inr "patterns") ((Rs _ _) _ _ gT.hp),?_⟩
      ext
      intro r2 De
      have En:=gT.hy.length
      rw[M5] at En
      have HL:=(hP.ok x).pn
      have J6:=(hP.ok x).vp
      have Mu:=IsL.same (Rs _ _) gT.hy
      have fin3:∀ H',Same H6 H'->∀ r,H' r=none->Q (.ref r) (upd H' r (.tup [.str (S (tPTS++[32]++nmF x)),.str (S (ptsF (B x)))])):=fun H' s' r Cd=>by
       obtain⟨o,eo⟩:=DG.some
       have e3:tPTS++[32]++nmF x=Nk 32 [tPTS,nmF x]:=by simp[Nk]
       rw[e3]
       exact fin r _ _ (.tx (ptsF (B x))) _ (n+101) ((DG.off (by rw[s' _ _ eo,eo])).new Cd) MT (.inl (by simp only[ocD,Is])) (rw2 FK ⟨by omega,ER⟩) jq (fun x b z=>nomatch z) fun b o hb e=>(Nh Cd _) _ _ (s' _ _ (k6 b o hb e))
      refine ao (K:=K) (xs:=ys) (fun i B6 σ H'=>∃ v,σ=[v]/\B6=Nd (((B x).pats.take i).map fun y=>ptxt y.1 y.2)/\H' r2=some (.lst B6)/\Same H6 H') (fun i B6 σ H' _ hI9=>by rcases hI9 with ⟨_,_,_,_,s⟩;exact SqL.of (s _ _ Fh))
       ⟨none,rfl,rfl,MT,Nh De _⟩ (fun i B6 σ H' hI9=>by rcases hI9 with ⟨_,_,e,e2,_⟩;exact⟨e2,by rw[e,U0,M5,NX];omega⟩) (szn (by omega)) ?_ ?_
      ·intro i B6 σ H7 hi hI9
       obtain⟨v,rfl,rfl,e7,s7⟩:=hI9
       rw[En] at hi
       obtain⟨y,dy,hy,Dx,hI⟩:=IsL.get (IsL.same s7 Mu) (show i < ((B x).pats.map patD).length by simpa using hi)
       rw[Nz,Na hi] at Dx
       cases Dx
       rw[Nl,hy,bx]
       ext
       refine⟨y,(B x).pats[i],rfl,hI,J6 _ (N5 hi),fun H8 s8=>?_⟩
       refine⟨s8 _ _ e7,_,rfl,?_,MT,Sq De (s7.trans s8)⟩
       rw[OC,Na hi,Nd,Nd,Np,Np];rfl
      ·intro B6 σ H7 hI9
       obtain⟨v,rfl,rfl,e7,s7⟩:=hI9
       rw[En,OB] at e7
       have Fb:∀ l∈(B x).pats.map (fun y:Pat=>ptxt y.1 y.2),l.length<=50/\∀ c∈l,c < 128:=fun l hl=>by
        obtain⟨y,hy,rfl⟩:=On.mp hl
        have h1:=Vr y.1 y.2
        have h2:=(J6 y hy).len
        exact⟨by omega,fun c hc=>by have:=U_ (J6 y hy) c hc;omega⟩
       have eP:ptsF (B x)=Pw 32 ((B x).pats.map fun y=>ptxt y.1 y.2):=rfl
       rw[eP] at fin3
       have B8:((B x).pats.map fun y:Pat=>ptxt y.1 y.2).length<=nb:=by rw[M5];exact HL
       generalize (B x).pats.map (fun y:Pat=>ptxt y.1 y.2)=ls at e7 Fb fin3 B8
       ext
       intro b0 DK
       have e8:upd H7 b0 (.lst []) r2=some (.lst (Nd ls)):=by rw[MR (MZ e7 DK)];exact e7
       have s8:=s7.trans (Nh DK (.lst []))
       refine i_neE (d:=.lst (ls.map fun l=>Dt.str (S l))) (e:=.lst []) ?_ ?_ (Lay.ok (n:=1) (Lay.lst fun d hd=>?_) (by decide)) (Lay.ok (n:=1) (Lay.lst fun d hd=>nomatch hd) (by decide)) ?_
       ·simp only[Is]
        exact⟨r2,_,rfl,e8,aC ls⟩
       ·simp only[Is]
        exact⟨b0,[],rfl,MT,by simp only[L2.IsL]⟩
       ·obtain⟨l',hl',rfl⟩:=On.mp hd
        exact Lay.str (Fb l' hl').2
       ·by_cases h0:ls=[]
        ·subst h0
         refine⟨false,rfl,?_⟩
         rw[B2 Nj]
         ext
         exact fin3 _ s8
        ·refine⟨true,?_,?_⟩
         ·cases ls with
          | nil=>exact absurd rfl h0
          | cons x r=>rfl
         rw[B3 rfl]
         have e3:Nd ls=(ls.map S).map V.str:=by rw[Nd,NK];rfl
         rw[e3] at e8
         have DO:=Vs ls fun l hl=>(Fb l hl).1
         ext
         refine SO (Pt e8) (by rw[M5,Nn];simp only[ND,Ot];omega) ?_
         rw[Qe]
         rw[show Pw 32 ls=Nk 32 ls from B2 h0] at fin3
         ext
         exact fin3 _ s8
     ·ext
      refine iteD (fun c6=>?_) (fun c6=>?_)
      ·ext
       refine Oz ?_
       ext
       refine⟨st,_,rfl,D4.s.get x▸DGet.k (k:=Sum.inr (S (nmF x))) D4.s.hs,?_⟩
       ext
       obtain⟨ys,kts,gT⟩:=D4.s.tn x
       refine⟨offH H6 D,P' x,L x,T' x,ys,kts,B x,wW,rfl,Rs _ _,gT,(hP.ok x).ok,Fg,by omega,fun r H7 er _ s7=>?_⟩
       obtain⟨gN,IR,Du⟩:=YH (hP.ok x).ok (B x).hd (B x).tl Fg
       rw[UM IR] at er
       ext
       refine⟨wW,gN,r,rfl,er,Fg,by omega,by have:=YV Du (NA _);omega,fun h=>Sx Du h,fun H8 s8=>?_⟩
       ext
       intro r2 De
       rw[j3]
       have e9:txt wW gN wW.length=brkF (B x) wW:=by unfold brkF;rw[UM IR]
       have s68:=s7.trans s8
       obtain⟨o,eo⟩:=DG.some
       refine fin r2 _ _ (.tx (brkF (B x) wW)) _ (n+101) ((DG.off (by rw[s68 _ _ eo,eo])).new De) MT (.inl (by rw[e9];simp only[ocD,Is])) (rw3 (.inr (.inr rfl)) FK ⟨by omega,ER⟩ ⟨by omega,Gi⟩) (jp Ff) (fun x b z=>nomatch z) fun b o hb e=>(Nh De _) _ _ (s68 _ _ (k6 b o hb e))
      ·ext
       refine⟨p,st,wa,_,l,w3,D,P',L,T',B,nb,rfl,D4,by omega,fun r H7 ws oc v er hv hW Eu Eh k7 ⟨m,D3⟩=>?_⟩
       ext
       exact fin r H7 ws oc v m D3 er (.inl hv) hW Eu Eh (k6.trans k7)
structure DkL (G H:Hp)(CD C CT d tp td:Ab)(ms:List (List Nat×Bp))(n:Nat):Prop where
 hd:∃ dd,G d=some (.ins CD dd [(("tongues":Str),.ref tp)])
 ht:∃ dx,G tp=some (.ins CT dx [(("breakers":Str),.ref td)])
 kv:∃ kvs,H td=some (.dK kvs)/\TB C G kvs ms
 ml:ms.length<=80
 ok:∀ m∈ms,OkN n m.2
theorem DkL.mono (h:DkL G H CD C CT d tp td ms n) (s:Same G G') (e:H' td=H td) (hn:n<=n'):DkL G' H' CD C CT d tp td ms n' :=
 ⟨h.hd.imp fun _=>s _ _,h.ht.imp fun _=>s _ _,let ⟨kvs,h1,h2⟩:=h.kv;⟨kvs,e.trans h1,h2.same s⟩,h.ml,fun m hm=>(h.ok m hm).mono hn⟩
theorem js (h:m∈putM ms z b):m∈ms∨m.2=b:=by
 unfold putM at h
 split at h
 ·obtain⟨m',hm,rfl⟩:=On.mp h
  split
  ·exact .inr rfl
  ·exact .inl hm
 ·exact(NP.mp h).imp id fun h=>by rw[N3.mp h]
theorem U' (hk:DkL (offH H D) H CD C CT d tp td ms n) (D8:td∈D) (Ev:Lv H D) (hn:n<=85) (hm:ms.length<=70) (hW:RwOk ws) (hR:outR (fun k=>∀ v H',Is H' v (ocD (.na k))->Same H H'->Q v H') (fun z=>∀ v H',Is H' v (ocD (.to z))->Same H H'->Q v H') (fun z b=>∀ H',DkL (offH H' D) H' CD C CT d tp td (putM ms z b) (n+1)->(∀ b o,b≠td->H b=some o->H' b=some o)->Lv H' D->Q (.str (S tOK)) H') (fun t=>∀ H',Same H H'->Q (.str (S t)) H') ms ws):SY CD C CT [.ref d,.str (S (Nk 32 ws))] H Q E:=by
 obtain⟨⟨dd,hd⟩,⟨dx,ht⟩,⟨kvs,Iv,FG⟩,FE,hok⟩:=hk
 have hd':=Pl hd
 have ht':=Pl ht
 refine⟨d,tp,td,kvs,ms,D,n,ws,rfl,hW,⟨⟨⟨dd,hd'.2⟩,dx,ht'.2,Iv⟩,D8,Ev,FG,by omega,by omega,hok⟩,hR.imp (fun k h r H' _ er s=>h _ H' ?_ s) (fun z h r H' _ er s=>h _ H' ?_ s) (fun z b h kvs' H' hO hT etd koff=>h H' ⟨⟨dd,?_⟩,⟨dx,?_⟩,⟨kvs',etd,hT⟩,NI (gQ _ _ _) (by omega),fun m hm=>?_⟩ koff fun a ha=>?_) fun t h=>h⟩
 ·simp only[ocD,Is,L2.IsL]
  exact⟨r,_,rfl,er,rfl,rfl,trivial⟩
 ·simp only[ocD,Is,L2.IsL]
  exact⟨r,_,rfl,er,rfl,rfl,trivial⟩
 ·rw[Om hd'.1];exact koff _ _ (fun z=>hd'.1 (z▸D8)) hd'.2
 ·rw[Om ht'.1];exact koff _ _ (fun z=>ht'.1 (z▸D8)) ht'.2
 ·rcases js hm with h | h
  ·exact(hok m h).mono (Pr _)
  ·rw[h];exact hO
 ·by_cases z:a=td
  ·exact⟨_,by rw[z];exact etd,fun zs e=>by cases e⟩
  ·obtain⟨o,h1,h2⟩:=Ev a ha
   exact⟨o,koff a o z h1,h2⟩
structure Adr where
 CD:Ab
 C:Ab
 CT:Ab
 d1:Ab
 tp1:Ab
 td1:Ab
 d2:Ab
 tp2:Ab
 td2:Ab
 st:Ab
 wa:Ab
noncomputable def tON:List Nat:=[111,110]
structure Gm (A:Adr)(w3:List (List Nat))(H:Hp)(D:List Ab)(n:Nat)(B Bs:Bool->Bp)(b2:Bp)(P L T:Bool->Ab):Prop where
 k1:DkL (offH H D) H A.CD A.C A.CT A.d1 A.tp1 A.td1 (msB B) n
 k2:DkL (offH H D) H A.CD A.C A.CT A.d2 A.tp2 A.td2 [(tON,b2)] n
 s:StAt H D A.st P L T Bs
 hw:offH H D A.wa=some (.lst (Nd w3))
 lv:Lv H D
 t1:A.td1∈D
 t2:A.td2∈D
 c1:A.td1≠A.td2/\A.td1≠A.st/\A.td2≠A.st
 c2:∀ x,A.td1≠L x/\A.td1≠T x/\A.td2≠L x/\A.td2≠T x
theorem Lv.same (h:Lv H D) (s:Same H H'):Lv H' D:=fun a ha=>let ⟨o,h1,h2⟩:=h a ha;⟨o,s _ _ h1,h2⟩
theorem ZD (s:Same H H'):Same (offH H D) (offH H' D):=OA fun b o hb e=>⟨hb,s _ _ e⟩
theorem StAt.same {H H':Hp}{D:List Ab}{st:Ab}{P L T:Bool->Ab}{B:Bool->Bp}(h:StAt H D st P L T B)(s:Same H H'):StAt H' D st P L T B :=
 ⟨s _ _ h.hs,fun x=>let ⟨ys,kts,g⟩:=h.tn x;⟨ys,kts,g.mono (ZD s) (by rw[g.hl];exact s _ _ g.hl) (by rw[g.ht];exact s _ _ g.ht)⟩,h.sD,h.lD,h.tD,h.ll,h.tt,h.ts⟩
theorem DkL.same (h:DkL (offH H D) H CD C CT d tp td ms n) (s:Same H H'):DkL (offH H' D) H' CD C CT d tp td ms n :=
 h.mono (ZD s) (by obtain⟨kvs,e,_⟩:=h.kv;rw[e];exact s _ _ e) (M6 _)
theorem Gm.same {A:Adr}{w3:List (List Nat)}{H H':Hp}{D:List Ab}{n:Nat}{B Bs:Bool->Bp}{b2:Bp}{P L T:Bool->Ab}(h:Gm A w3 H D n B Bs b2 P L T)(s:Same H H'):Gm A w3 H' D n B Bs b2 P L T :=
 ⟨h.k1.same s,h.k2.same s,h.s.same s,ZD s _ _ h.hw,h.lv.same s,h.t1,h.t2,h.c1,h.c2⟩
theorem Gm.said1 {A:Adr}{w3:List (List Nat)}{H:Hp}{D:List Ab}{n:Nat}{B Bs:Bool->Bp}{b2:Bp}{P L T:Bool->Ab}{ws:List (List Nat)}{oc:Oc}{Q:VK}{E:XK}(h:Gm A w3 H D n B Bs b2 P L T)(hn:n<=85)(hW:RwOk ws)(hD:Due B ws oc)
  (hQ:∀ v H',Is H' v (ocD oc)->Gm A w3 H' D (n+1) (ocB B oc) Bs b2 P L T->(∀ b o,b≠A.td1->H b=some o->H' b=some o)->Q v H'):SY A.CD A.C A.CT [.ref A.d1,.str (S (Nk 32 ws))] H Q E:=by
 have up:∀{H'},Same H H'->(∀ x b,oc≠.ok x b)->Gm A w3 H' D (n+1) (ocB B oc) Bs b2 P L T:=fun{H'} s Eh=>by
  have g:=h.same s
  rw[Zz Eh]
  exact⟨g.k1.mono (Same.refl _) rfl (Pr _),g.k2.mono (Same.refl _) rfl (Pr _),g.s,g.hw,g.lv,g.t1,g.t2,g.c1,g.c2⟩
 refine U' h.k1 h.t1 h.lv hn (by show 2<=70;decide) hW (hD _ _ _ _ (fun k e v H' hv s=>?_) (fun z e v H' hv s=>?_) (fun x b e H' hk koff Ev=>?_) fun t e H' s=>?_)
 ·subst e;exact hQ v H' hv (up s fun x b z=>nomatch z) fun b o _ e=>s _ _ e
 ·subst e;exact hQ v H' hv (up s fun x b z=>nomatch z) fun b o _ e=>s _ _ e
 ·subst e
  rw[put_ms] at hk
  refine hQ _ H' (by simp only[ocD,Is]) ⟨hk,h.k2.mono (OA fun b o hb e=>⟨hb,koff b o (fun z=>hb (z▸h.t1)) e⟩) ?_ (Pr _),h.s.kept h.t1 h.c1.2.1 (fun x=>⟨(h.c2 x).1,(h.c2 x).2.1⟩) koff,?_,Ev,h.t1,h.t2,h.c1,h.c2⟩ koff
  ·obtain⟨kvs,e,_⟩:=h.k2.kv
   rw[e];exact koff _ _ (M7 h.c1.1) e
  ·have hw:=Pl h.hw
   rw[Om hw.1];exact koff _ _ (fun z=>hw.1 (z▸h.t1)) hw.2
 ·subst e;exact hQ _ H' (by simp only[ocD,Is]) (up s fun x b z=>nomatch z) fun b o _ e=>s _ _ e
theorem Gm.kept {A:Adr}{w3:List (List Nat)}{H H':Hp}{D:List Ab}{n m:Nat}{B Bs:Bool->Bp}{b2:Bp}{P L T:Bool->Ab}{p:Ab}(h:Gm A w3 H D n B Bs b2 P L T)(hp:p∈D)(h1:p≠A.st)(h2:∀ x,p≠L x/\p≠T x)(h3:p≠A.td1)(h4:p≠A.td2)(hf:FeedAt H' p m)(k:Kept p H H'):Gm A w3 H' D n B Bs b2 P L T:=by
 have Cb:Same (offH H D) (offH H' D):=OA fun b o hb e=>⟨hb,k b o (fun z=>hb (z▸hp)) e⟩
 obtain⟨kv1,ev1,_⟩:=h.k1.kv
 obtain⟨kv2,ev2,_⟩:=h.k2.kv
 refine⟨h.k1.mono Cb (by rw[ev1];exact k _ _ (M7 h3) ev1) (M6 _),h.k2.mono Cb (by rw[ev2];exact k _ _ (M7 h4) ev2) (M6 _),h.s.kept hp h1 h2 k,Cb _ _ h.hw,fun a ha=>?_,h.t1,h.t2,h.c1,h.c2⟩
 by_cases z:a=p
 ·obtain⟨a1,a2,a3,e,_⟩:=hf
  exact⟨_,by rw[z];exact e,fun zs e=>by cases e⟩
 ·obtain⟨o,h1,h2⟩:=h.lv a ha
  exact⟨o,k a o z h1,h2⟩
theorem Gm.turn {A:Adr}{w3:List (List Nat)}{H H':Hp}{D:List Ab}{n:Nat}{B Bs:Bool->Bp}{b2 b:Bp}{P L T:Bool->Ab}{x:Bool}{c:Ab}{ys:List V}{kts:List (Key×V)}(h:Gm A w3 H D n B Bs b2 P L T)(cD:c∈D)(cs:c≠A.st/\c≠A.td1/\c≠A.td2)(cy:∀ y,y≠x->c≠L y/\c≠T y)(k:∀ a o,a≠c->H a=some o->H' a=some o)(hc:∃ o,H' c=some o/\∀ zs,o≠.tup zs)(hx:TnR (offH H' D) H' (P x) (L x) (T x) ys kts b):Gm A w3 H' D n B (setB Bs x b) b2 P L T:=by
 have Cb:Same (offH H D) (offH H' D):=OA fun b o hb e=>⟨hb,k b o (fun z=>hb (z▸cD)) e⟩
 have ht:=h.s.turn (x:=x) (p:=P x) (l:=L x) (t:=T x) (H':=H') (D':=D) (b:=b) (by rw[SZ];exact k _ _ (M7 cs.1) h.s.hs) hx Cb (fun y hy=>by
  obtain⟨ys,kts,g⟩:=h.s.tn y
  rw[g.hl,g.ht]
  exact⟨k _ _ (M7 (cy y hy).1) g.hl,k _ _ (M7 (cy y hy).2) g.ht⟩) (fun a h=>h) (h.s.lD x) (h.s.tD x) (fun y hy z=>hy (h.s.ll _ _ z).symm) (fun y hy z=>hy (h.s.tt _ _ z).symm) (h.s.ts x)
 rw[SZ,SZ,SZ] at ht
 obtain⟨kv1,ev1,_⟩:=h.k1.kv
 obtain⟨kv2,ev2,_⟩:=h.k2.kv
 refine⟨h.k1.mono Cb (by rw[ev1];exact k _ _ (M7 cs.2.1) ev1) (M6 _),h.k2.mono Cb (by rw[ev2];exact k _ _ (M7 cs.2.2) ev2) (M6 _),ht,Cb _ _ h.hw,fun a ha=>?_,h.t1,h.t2,h.c1,h.c2⟩
 by_cases z:a=c
 ·rw[z];exact hc
 ·obtain⟨o,h1,h2⟩:=h.lv a ha
  exact⟨o,k a o z h1,h2⟩
theorem Gm.up {A:Adr}{w3:List (List Nat)}{H:Hp}{D:List Ab}{n n':Nat}{B Bs:Bool->Bp}{b2:Bp}{P L T:Bool->Ab}(g:Gm A w3 H D n B Bs b2 P L T)(hn:n<=n'):Gm A w3 H D n' B Bs b2 P L T :=
 ⟨g.k1.mono (Same.refl _) rfl hn,g.k2.mono (Same.refl _) rfl hn,g.s,g.hw,g.lv,g.t1,g.t2,g.c1,g.c2⟩
theorem Gm.new {A:Adr}{w3:List (List Nat)}{H H':Hp}{D:List Ab}{n m:Nat}{B Bs:Bool->Bp}{b2:Bp}{P L T:Bool->Ab}{p:Ab}(h:Gm A w3 H D n B Bs b2 P L T)(hp:H p=none)(hf:FeedAt H' p m)(s:Same H H'):Gm A w3 H' (p::D) n B Bs b2 P L T/\p≠A.st/\p≠A.td1/\p≠A.td2/\∀ x,p≠L x/\p≠T x:=by
 have Cb:Same (offH H D) (offH H' (p::D)):=OA fun b o hb e=>⟨fun h=>by
  rcases Nf.mp h with rfl | h
  ·rw[hp] at e;cases e
  ·exact hb h,s _ _ e⟩
 have ne:∀ a∈D,p≠a:=fun a ha z=>by obtain⟨o,e,_⟩:=h.lv a ha;rw[<- z,hp] at e;cases e
 have g:=h.same s
 obtain⟨kv1,ev1,_⟩:=h.k1.kv
 obtain⟨kv2,ev2,_⟩:=h.k2.kv
 refine⟨⟨h.k1.mono Cb (by rw[ev1];exact s _ _ ev1) (M6 _),h.k2.mono Cb (by rw[ev2];exact s _ _ ev2) (M6 _),⟨g.s.hs,fun x=>by
  obtain⟨ys,kts,t⟩:=h.s.tn x
  exact⟨ys,kts,t.mono Cb (by rw[t.hl];exact s _ _ t.hl) (by rw[t.ht];exact s _ _ t.ht)⟩,NH _ h.s.sD,fun x=>NH _ (h.s.lD x),fun x=>NH _ (h.s.tD x),h.s.ll,h.s.tt,h.s.ts⟩,Cb _ _ h.hw,fun a ha=>?_,NH _ h.t1,NH _ h.t2,h.c1,h.c2⟩,ne _ h.s.sD,ne _ h.t1,ne _ h.t2,fun x=>⟨ne _ (h.s.lD x),ne _ (h.s.tD x)⟩⟩
 rcases Nf.mp ha with rfl | ha
 ·obtain⟨a1,a2,a3,e,_⟩:=hf
  exact⟨_,e,fun zs e=>by cases e⟩
 ·exact g.lv a ha
theorem Gm.row {A:Adr}{w3:List (List Nat)}{H H':Hp}{D D':List Ab}{n:Nat}{B Bs:Bool->Bp}{b2:Bp}{P L T P' L' T':Bool->Ab}{p:Ab}(h:Gm A w3 H D n B B b2 P L T)(pD:p∈D)(h1:p≠A.td1)(h2:p≠A.td2)(hs:StAt H' D' A.st P' L' T' Bs)(hD:∀ a∈D,a∈D')(hN:∀ a∈D',a∈D∨H a=none)(Ev:Lv H' D')(k:∀ b o,b≠p->b≠A.st->(∀ x,b≠L x/\b≠T x)->H b=some o->H' b=some o)(hT:∀ x,T' x=T x∨H (T' x)=none):Gm A w3 H' D' n B Bs b2 P' L' T':=by
 have Cb:Same (offH H D) (offH H' D'):=OA fun b o hb e=>⟨fun h'=>(hN b h').elim hb fun z=>(by rw[z] at e;cases e),k b o (fun z=>hb (z▸pD)) (fun z=>hb (z▸h.s.sD)) (fun x=>⟨fun z=>hb (z▸h.s.lD x),fun z=>hb (z▸h.s.tD x)⟩) e⟩
 obtain⟨kv1,ev1,_⟩:=h.k1.kv
 obtain⟨kv2,ev2,_⟩:=h.k2.kv
 have e1:=k _ _ (M7 h1) h.c1.2.1 (fun x=>⟨(h.c2 x).1,(h.c2 x).2.1⟩) ev1
 have e2:=k _ _ (M7 h2) h.c1.2.2 (fun x=>⟨(h.c2 x).2.2.1,(h.c2 x).2.2.2⟩) ev2
 refine⟨h.k1.mono Cb (by rw[ev1];exact e1) (M6 _),h.k2.mono Cb (by rw[ev2];exact e2) (M6 _),hs,Cb _ _ h.hw,Ev,hD _ h.t1,hD _ h.t2,h.c1,fun x=>?_⟩
 obtain⟨ys,kts,t⟩:=hs.tn x
 refine⟨(fun z=>by have:=t.hl;rw[<- z,e1] at this;cases this),?_,(fun z=>by have:=t.hl;rw[<- z,e2] at this;cases this),?_⟩
 ·rcases hT x with e | e
  ·rw[e];exact(h.c2 x).2.1
  ·exact fun z=>by rw[<- z,ev1] at e;cases e
 ·rcases hT x with e | e
  ·rw[e];exact(h.c2 x).2.2.2
  ·exact fun z=>by rw[<- z,ev2] at e;cases e
theorem ocD_ok (oc:Oc):dep (ocD oc) < 6/\wid (ocD oc)<=100000/\P6 (ocD oc)=true:=by
 cases oc <;> (refine⟨?_,?_,rfl⟩ <;> simp[ocD,dep,depL,wid,widL])
noncomputable def od (x:Bool):Nat:=if x=true then 1 else 0
noncomputable def b0:Bp:=⟨[],[],1,1⟩
structure In (A:Adr)(w3:List (List Nat))(H:Hp)(D:List Ab)(p:Ab)(i1 i2 m:Nat)(P L T:Bool->Ab)(B:Bool->Bp):Prop where
 k1:DkL (offH H D) H A.CD A.C A.CT A.d1 A.tp1 A.td1 ((msB B).take i1) i1
 k2:DkL (offH H D) H A.CD A.C A.CT A.d2 A.tp2 A.td2 ([(tON,b0)].take i2) i2
 hs:H A.st=some (.dK ([((Sum.inr (S tENO):Key),V.ref (P false)),(Sum.inr (S tEN),.ref (P true))].take m))
 tn:∀ x,od x < m->∃ ys kts,TnR (offH H D) H (P x) (L x) (T x) ys kts (B x)
 lD:∀ x,od x < m->L x∈D/\T x∈D/\T x≠A.st/\p≠L x/\p≠T x/\A.td1≠L x/\A.td1≠T x/\A.td2≠L x/\A.td2≠T x
 ll:∀ x y,od x < m->od y < m->L x=L y∨T x=T y->x=y
 hw:offH H D A.wa=some (.lst (Nd w3))
 lv:Lv H D
 iD:A.td1∈D/\A.td2∈D/\A.st∈D/\p∈D
 c1:A.td1≠A.td2/\A.td1≠A.st/\A.td2≠A.st
 c2:p≠A.st/\p≠A.td1/\p≠A.td2
theorem In.done {A:Adr}{w3:List (List Nat)}{H:Hp}{D:List Ab}{p:Ab}{P L T:Bool->Ab}{B:Bool->Bp}(h:In A w3 H D p 2 2 2 P L T B):Gm A w3 H D 2 B B b0 P L T/\(∀ x,p≠L x/\p≠T x):=by
 have ho:∀ x,od x < 2:=fun x=>by cases x <;> decide
 exact⟨⟨h.k1,h.k2,⟨h.hs,fun x=>h.tn x (ho x),h.iD.2.2.1,fun x=>(h.lD x (ho x)).1,fun x=>(h.lD x (ho x)).2.1,fun x y e=>h.ll x y (ho x) (ho y) (.inl e),fun x y e=>h.ll x y (ho x) (ho y) (.inr e),fun x=>(h.lD x (ho x)).2.2.1⟩,h.hw,h.lv,h.iD.1,h.iD.2.1,h.c1,fun x=>(h.lD x (ho x)).2.2.2.2.2⟩,fun x=>⟨(h.lD x (ho x)).2.2.2.1,(h.lD x (ho x)).2.2.2.2.1⟩⟩
theorem In.off {A:Adr}{w3:List (List Nat)}{H H':Hp}{D:List Ab}{p:Ab}{i1 i2 m:Nat}{P L T:Bool->Ab}{B:Bool->Bp}(h:In A w3 H D p i1 i2 m P L T B){c:Ab}(hc:c∈D)(k:∀ b o,b≠c->H b=some o->H' b=some o):Same (offH H D) (offH H' D):=OA fun b o hb e=>⟨hb,k b o (fun z=>hb (z▸hc)) e⟩
theorem In.ton {A:Adr}{w3:List (List Nat)}{H H':Hp}{D:List Ab}{p:Ab}{i m':Nat}{P L T:Bool->Ab}{B:Bool->Bp}(h:In A w3 H D p i i i P L T B){x:Bool}(hx:od x=i){pp l t:Ab}{hd tl:Nat}(Fx:H pp=none)(hl:H l=none)(ht:H t=none)(ep:H' pp=some (.dK (kT l t (hd:Int) (tl:Int))))(el:H' l=some (.lst []))(et:H' t=some (.dK []))
  (es:H' A.st=some (.dK (putK ([((Sum.inr (S tENO):Key),V.ref (P false)),(Sum.inr (S tEN),.ref (P true))].take i) (Sum.inr (S (nmF x))) (.ref pp)))) (hf:FeedAt H' p m') (k:∀ b o,b≠p->b≠A.st->H b=some o->H' b=some o):In A w3 H' (l::t::D) p i i (i+1) (setF P x pp) (setF L x l) (setF T x t) (setB B x ⟨[],[],(hd:Int),(tl:Int)⟩):=by
 have nin:∀ a,H a=none->a∉D:=fun a ha hm=>by obtain⟨o,e,_⟩:=h.lv a hm;rw[ha] at e;cases e
 have lpp:pp≠l:=fun z=>by rw[z,el] at ep;cases ep
 have tpp:pp≠t:=fun z=>by
  rw[z,et] at ep
  injection ep with ep
  injection ep with ep
  cases ep
 have Cb:Same (offH H D) (offH H' (l::t::D)):=OA fun b o hb e=>⟨fun h'=>by
  rcases Nf.mp h' with rfl | h'
  ·rw[hl] at e;cases e
  ·rcases Nf.mp h' with rfl | h'
   ·rw[ht] at e;cases e
   ·exact hb h',k b o (fun z=>hb (z▸h.iD.2.2.2)) (fun z=>hb (z▸h.iD.2.2.1)) e⟩
 have hpp':pp∉l::t::D:=fun h'=>by
  rcases Nf.mp h' with h' | h'
  ·exact lpp h'
  ·rcases Nf.mp h' with h' | h'
   ·exact tpp h'
   ·exact nin pp Fx h'
 have nx:∀ y,od y < i->y≠x:=fun y hy z=>by rw[z,hx] at hy;exact Qk _ hy
 have cas:∀ y,od y < i+1->y=x∨od y < i:=fun y hy=>by
  rcases Nat.lt_succ_iff_lt_or_eq.mp hy with h1 | h1
  ·exact .inr h1
  ·left;rw[<- hx] at h1;cases y <;> cases x <;> first | rfl | cases h1
 have old:∀ y,od y < i->H (L y)≠none/\H (T y)≠none:=fun y hy=>by
  obtain⟨ys,kts,g⟩:=h.tn y hy
  rw[g.hl,g.ht];exact⟨(fun z=>nomatch z),fun z=>nomatch z⟩
 have e1:∀ td,td∈D->td≠p->td≠A.st->∀ kvs,H td=some (.dK kvs)->H' td=H td:=fun td _ h1 h2 kvs e=>by rw[e];exact k _ _ h1 h2 e
 have mB:(msB (setB B x ⟨[],[],(hd:Int),(tl:Int)⟩)).take i=(msB B).take i:=by rw[<- hx];cases x <;> rfl
 have live:∀ a,a∈D->H a≠none:=fun a ha=>by obtain⟨o,e,_⟩:=h.lv a ha;rw[e];exact fun z=>nomatch z
 obtain⟨kv1,ev1,_⟩:=h.k1.kv
 obtain⟨kv2,ev2,_⟩:=h.k2.kv
 refine⟨mB▸h.k1.mono Cb (e1 _ h.iD.1 (M7 h.c2.2.1) h.c1.2.1 _ ev1) (M6 _),h.k2.mono Cb (e1 _ h.iD.2.1 (M7 h.c2.2.2) h.c1.2.2 _ ev2) (M6 _),?_,fun y hy=>?_,fun y hy=>?_,fun y z hy hz e=>?_,Cb _ _ h.hw,fun a ha=>?_,⟨by simp[h.iD.1],by simp[h.iD.2.1],by simp[h.iD.2.2.1],by simp[h.iD.2.2.2]⟩,h.c1,h.c2⟩
 ·rw[es,<- hx];cases x <;> rfl
 ·unfold setF setB
  rcases cas y hy with rfl | hy
  ·rw[B3 rfl,B3 rfl,B3 rfl,B3 rfl]
   exact⟨[],[],by rw[Om hpp'];exact ep,el,by simp only[N8,L2.IsL],et,trivial⟩
  ·have hn:=nx y hy
   rw[B2 hn,B2 hn,B2 hn,B2 hn]
   obtain⟨ys,kts,g⟩:=h.tn y hy
   have c:=h.lD y hy
   exact⟨ys,kts,g.mono Cb (by rw[g.hl];exact k _ _ (M7 c.2.2.2.1) (fun z=>by have:=g.hl;rw[z,h.hs] at this;cases this) g.hl) (by rw[g.ht];exact k _ _ (M7 c.2.2.2.2.1) c.2.2.1 g.ht)⟩
 ·unfold setF
  rcases cas y hy with rfl | hy
  ·rw[B3 rfl,B3 rfl]
   exact⟨by simp,by simp,(fun z=>live _ h.iD.2.2.1 (z▸ht)),(fun z=>live _ h.iD.2.2.2 (z▸hl)),(fun z=>live _ h.iD.2.2.2 (z▸ht)),(fun z=>live _ h.iD.1 (z▸hl)),(fun z=>live _ h.iD.1 (z▸ht)),(fun z=>live _ h.iD.2.1 (z▸hl)),fun z=>live _ h.iD.2.1 (z▸ht)⟩
  ·have hn:=nx y hy
   rw[B2 hn,B2 hn]
   have c:=h.lD y hy
   exact⟨by simp[c.1],by simp[c.2.1],c.2.2⟩
 ·unfold setF at e
  rcases cas y hy with rfl | hy
  ·rcases cas z hz with rfl | hz
   ·rfl
   ·rw[B3 rfl,B3 rfl,B2 (nx z hz),B2 (nx z hz)] at e
    exact(e.elim (fun e=>(old z hz).1 (e▸hl)) fun e=>(old z hz).2 (e▸ht)).elim
  ·rcases cas z hz with rfl | hz
   ·rw[B3 rfl,B3 rfl,B2 (nx y hy),B2 (nx y hy)] at e
    exact(e.elim (fun e=>(old y hy).1 (e▸hl)) fun e=>(old y hy).2 (e▸ht)).elim
   ·rw[B2 (nx y hy),B2 (nx y hy),B2 (nx z hz),B2 (nx z hz)] at e
    exact h.ll y z hy hz e
 ·rcases Nf.mp ha with rfl | ha
  ·exact⟨_,el,fun zs z=>by cases z⟩
  ·rcases Nf.mp ha with rfl | ha
   ·exact⟨_,et,fun zs z=>by cases z⟩
   ·by_cases z:a=p
    ·obtain⟨u1,u2,u3,e,_⟩:=hf
     exact⟨_,by rw[z];exact e,fun zs z=>by cases z⟩
    ·by_cases z2:a=A.st
     ·exact⟨_,by rw[z2];exact es,fun zs z=>by cases z⟩
     ·obtain⟨o,h1,h2⟩:=h.lv a ha
      exact⟨o,k a o z z2 h1,h2⟩
theorem outR.ton (h1:hd<=200) (h2:t<=200) (h:kp nm ⟨[],[],(hd:Int),(t:Int)⟩):outR na to kp tl ms [tTON,nm,dig hd,dig t] :=
 ⟨fun e=>absurd e (show tTON≠tPRS by decide),fun _ hd' t' g1 g2 e1 e2=>by
  cases Zs h1 g1 e1
  cases Zs h2 g2 e2
  exact h,fun _ e=>absurd rfl e,fun b _=>⟨show tTON≠tPAR by decide,fun e=>absurd e (show tTON≠tPAT by decide),fun e=>absurd e (show tTON≠tTOL by decide),fun e=>absurd e (show tTON≠tBRK by decide),fun e=>absurd e (show tTON≠tPTS by decide)⟩⟩
theorem In.said1 {A:Adr}{w3:List (List Nat)}{H:Hp}{D:List Ab}{p:Ab}{i:Nat}{P L T:Bool->Ab}{B:Bool->Bp}{Q:VK}{E:XK}(h:In A w3 H D p i i (i+1) P L T B){x:Bool}(hx:od x=i){hd tl:Nat}(b1:1<=hd)(b2:hd<=3)(b3:1<=tl)(b4:tl<=3)(hB:B x=⟨[],[],(hd:Int),(tl:Int)⟩)
  (hQ:∀ H',In A w3 H' D p (i+1) i (i+1) P L T B->(∀ b o,b≠A.td1->H b=some o->H' b=some o)->Q (.str (S tOK)) H'):SY A.CD A.C A.CT [.ref A.d1,.str (S (Nk 32 [tTON,nmF x,dig hd,dig tl]))] H Q E:=by
 obtain⟨FK,DI,ER⟩:=Sv x
 have hi:i<=1:=by rw[<- hx];cases x <;> decide
 refine U' h.k1 h.iD.1 h.lv (by omega) (by have:=h.k1.ml;rw[NX];show min i 2<=70;omega) (rw4 FK ⟨by omega,ER⟩ b1 b2 b3 b4) (outR.ton (by omega) (by omega) fun H' hk koff Ev=>?_)
 have e:putM ((msB B).take i) (nmF x) ⟨[],[],(hd:Int),(tl:Int)⟩=(msB B).take (i+1):=by rw[<- hB,<- hx];cases x <;> rfl
 rw[e] at hk
 have Cb:=h.off h.iD.1 koff
 obtain⟨kv2,ev2,_⟩:=h.k2.kv
 exact hQ H' ⟨hk,h.k2.mono Cb (by rw[ev2];exact koff _ _ (M7 h.c1.1) ev2) (M6 _),koff _ _ (M7 h.c1.2.1) h.hs,fun y hy=>by
  obtain⟨ys,kts,g⟩:=h.tn y hy
  have c:=(h.lD y hy).2.2.2.2.2
  exact⟨ys,kts,g.mono Cb (by rw[g.hl];exact koff _ _ (M7 c.1) g.hl) (by rw[g.ht];exact koff _ _ (M7 c.2.1) g.ht)⟩,h.lD,h.ll,Cb _ _ h.hw,Ev,h.iD,h.c1,h.c2⟩ koff
theorem In.said2 {A:Adr}{w3:List (List Nat)}{H:Hp}{D:List Ab}{p:Ab}{i:Nat}{P L T:Bool->Ab}{B:Bool->Bp}{Q:VK}{E:XK}(h:In A w3 H D p (i+1) i (i+1) P L T B)(hi:i<=1)
  (hQ:∀ H',In A w3 H' D p (i+1) (i+1) (i+1) P L T B->(∀ b o,b≠A.td2->H b=some o->H' b=some o)->Q (.str (S tOK)) H'):SY A.CD A.C A.CT [.ref A.d2,.str (S (Nk 32 [tTON,tON,dig 1,dig 1]))] H Q E:=by
 refine U' h.k2 h.iD.2.1 h.lv (by omega) (by rw[NX];show min i 1<=70;omega) (rw4 (by decide) (by decide) (by decide) (by decide) (by decide) (by decide)) (outR.ton (by decide) (by decide) fun H' hk koff Ev=>?_)
 have e:putM ([(tON,b0)].take i) tON ⟨[],[],((1:Nat):Int),((1:Nat):Int)⟩=[(tON,b0)].take (i+1):=by
  match i,hi with
  | 0,_=>rfl
  | 1,_=>rfl
 rw[e] at hk
 have Cb:=h.off h.iD.2.1 koff
 obtain⟨kv1,ev1,_⟩:=h.k1.kv
 exact hQ H' ⟨h.k1.mono Cb (by rw[ev1];exact koff _ _ h.c1.1 ev1) (M6 _),hk,koff _ _ (M7 h.c1.2.2) h.hs,fun y hy=>by
  obtain⟨ys,kts,g⟩:=h.tn y hy
  have c:=(h.lD y hy).2.2.2.2.2
  exact⟨ys,kts,g.mono Cb (by rw[g.hl];exact koff _ _ (M7 c.2.2.1) g.hl) (by rw[g.ht];exact koff _ _ (M7 c.2.2.2) g.ht)⟩,h.lD,h.ll,Cb _ _ h.hw,Ev,h.iD,h.c1,h.c2⟩ koff
theorem In.same {A:Adr}{w3:List (List Nat)}{H H':Hp}{D:List Ab}{p:Ab}{i1 i2 m:Nat}{P L T:Bool->Ab}{B:Bool->Bp}(h:In A w3 H D p i1 i2 m P L T B)(s:Same H H'):In A w3 H' D p i1 i2 m P L T B :=
 ⟨h.k1.same s,h.k2.same s,s _ _ h.hs,fun x hx=>let ⟨ys,kts,g⟩:=h.tn x hx;⟨ys,kts,g.mono (ZD s) (by rw[g.hl];exact s _ _ g.hl) (by rw[g.ht];exact s _ _ g.ht)⟩,h.lD,h.ll,ZD s _ _ h.hw,h.lv.same s,h.iD,h.c1,h.c2⟩
noncomputable abbrev s_law:As:=top 95
theorem ZE:∀(n b:Nat),Rise b (b+n+1) (NM (b+1) n)
 | 0,_=>trivial
 | n+1,b=>by
  rw[S7]
  refine⟨SJ b,by omega,?_⟩
  have:=ZE n (b+1)
  rwa [show b+1+n+1=b+(n+1)+1 by omega] at this
theorem jt:∀{w:List Nat},1<=w.length->Nk 45 (w.map fun c=>[c])=txt w (NM 1 (w.length - 1)) w.length/\Rise 0 w.length (NM 1 (w.length - 1))
 | [],h=>absurd h (by decide)
 | x::r,_=>by
  have hR:=ZE r.length 0
  have e0:(x::r).length - 1=r.length:=rfl
  have e1:(x::r).length=r.length+1:=rfl
  rw[e0,e1]
  rw[Nat.zero_add] at hR
  refine⟨?_,hR⟩
  rw[U3 _ (Sx hR),Nq,iw]
  congr 2
  refine List.ext_getElem? fun j=>?_
  rw[NK,Nz,Nz]
  by_cases hj:j < r.length
  ·rw[Na hj,Na (by rw[SF];exact hj),List.getElem_range]
   simp only[Z8,Function.comp]
   rw[B3 (aY.mpr ⟨by omega,by omega⟩),Z2 1 j]
   simp[Nl,hj]
  ·rw[jM (by omega),jM (by rw[SF];omega)];rfl
theorem ju {w g:List Nat}:brkF ⟨[],putG [] w (g.map fun k:Nat=>(k:Int)),1,1⟩ w=txt w g w.length:=by
 unfold brkF
 rw[UM (g:=g)]
 show (match Ro [(w,g.map fun k:Nat=>(k:Int))] w with | some g=>g.2 | none=>_)=_
 unfold Ro
 rw[OX,B1 rfl]
theorem Gm.tell2 {A:Adr}{w3:List (List Nat)}{H:Hp}{D:List Ab}{n:Nat}{B Bs:Bool->Bp}{b2:Bp}{P L T:Bool->Ab}{w g:List Nat}{Q:VK}{E:XK}(h:Gm A w3 H D n B Bs b2 P L T)(hn:n<=85)(hw:N7 w=true)(hg:Rise 0 w.length g)(hl:w.length<=9)(hc:∀ c∈w,32 < c/\c<=126/\c≠37)
  (hQ:∀ H',Gm A w3 H' D (n+1) B Bs ⟨b2.pats,putG b2.told w (g.map fun k:Nat=>(k:Int)),b2.hd,b2.tl⟩ P L T->(∀ b o,b≠A.td2->H b=some o->H' b=some o)->Q (.str (S tOK)) H'):SY A.CD A.C A.CT [.ref A.d2,.str (S (Nk 32 [tTOL,tON,txt w g w.length]))] H Q E:=by
 have Ds:=au w g w.length
 refine U' h.k2 h.t2 h.lv hn (by show 1<=70;decide) (rw3 (.inr (.inl rfl)) (by decide) (by decide) ⟨by omega,ZC hc⟩) (outR.of3 (by decide) (by decide) (by decide) (fun e=>nomatch e) fun b hb=>?_)
 have hb:b2=b:=Option.some.inj hb
 subst hb
 refine⟨fun e=>absurd e (by decide),fun _=>⟨w,g,rfl,hw,hg,fun H' hk koff Ev=>?_⟩,fun e=>absurd e (by decide),fun e=>absurd e (by decide)⟩
 have Cb:Same (offH H D) (offH H' D):=OA fun b o hb e=>⟨hb,koff b o (fun z=>hb (z▸h.t2)) e⟩
 obtain⟨kv1,ev1,_⟩:=h.k1.kv
 exact hQ H' ⟨h.k1.mono Cb (by rw[ev1];exact koff _ _ h.c1.1 ev1) (Pr _),hk,h.s.kept h.t2 h.c1.2.2 (fun x=>⟨(h.c2 x).2.2.1,(h.c2 x).2.2.2⟩) koff,Cb _ _ h.hw,Ev,h.t1,h.t2,h.c1,h.c2⟩ koff
theorem Gm.ask2 {A:Adr}{w3:List (List Nat)}{H:Hp}{D:List Ab}{n:Nat}{B Bs:Bool->Bp}{b2:Bp}{P L T:Bool->Ab}{w:List Nat}{Q:VK}{E:XK}(h:Gm A w3 H D n B Bs b2 P L T)(hn:n<=85)(hw:N7 w=true)(hl:w.length<=9)(hc:∀ c∈w,32 < c/\c<=126/\c≠37)(hQ:∀ H',Same H H'->Q (.str (S (brkF b2 w))) H'):SY A.CD A.C A.CT [.ref A.d2,.str (S (Nk 32 [tBRK,tON,w]))] H Q E:=by
 refine U' h.k2 h.t2 h.lv hn (by show 1<=70;decide) (rw3 (.inr (.inr rfl)) (by decide) (by decide) ⟨by omega,hc⟩) (outR.of3 (by decide) (by decide) (by decide) (fun e=>nomatch e) fun b hb=>?_)
 have hb:b2=b:=Option.some.inj hb
 subst hb
 exact⟨fun e=>absurd e (by decide),fun e=>absurd e (by decide),fun _=>⟨hw,hQ⟩,fun e=>absurd e (by decide)⟩
theorem dcc_mk (hm:mg "COUNTS"=some (.ref cD)) (hl:K.lookup cD=some ⟨.type "dict",none,.dict #[⟨Ps w.params "tongue",.str "tongue" t0,.int 4 u0⟩,⟨Ps w.params "pattern",.str "pattern" t1,.int 3 u1⟩,⟨Ps w.params "told",.str "told" t2,.int 3 u2⟩,⟨Ps w.params "break",.str "break" t3,.int 3 u3⟩,⟨Ps w.params "patterns",.str "patterns" t4,.int 2 u4⟩,⟨Ps w.params "pare",.str "pare" t5,.int 2 u5⟩,⟨Ps w.params "press",.str "press" t6,.int 3 u6⟩] 7,#[]⟩) (hs:(cD == AG)=false):Dcc P w K mg cD:=by
 rw[Pn,t_pat,t_tol,t_brk,UV,t_par,Ss] at hl
 refine⟨hm,_,[(Sum.inr (S tTON),.int 4 u0),(Sum.inr (S tPAT),.int 3 u1),(Sum.inr (S tTOL),.int 3 u2),(Sum.inr (S tBRK),.int 3 u3),(Sum.inr (S tPTS),.int 2 u4),(Sum.inr (S tPAR),.int 2 u5),(Sum.inr (S tPRS),.int 3 u6)],hl,⟨_,_,⟨rfl,rfl,rfl⟩,rfl,fun e he=>?_,(Pairs.cons (by simp[NU,Pa,Rf]) rfl (Pairs.cons (by simp[NU,Pa,Rf]) rfl (Pairs.cons (by simp[NU,Pa,Rf]) rfl (Pairs.cons (by simp[NU,Pa,Rf]) rfl (Pairs.cons (by simp[NU,Pa,Rf]) rfl (Pairs.cons (by simp[NU,Pa,Rf]) rfl (Pairs.cons (by simp[NU,Pa,Rf]) rfl Pairs.nil))))))),?_⟩,.cons ⟨rfl,_,rfl⟩ (.cons ⟨rfl,_,rfl⟩ (.cons ⟨rfl,_,rfl⟩ (.cons ⟨rfl,_,rfl⟩ (.cons ⟨rfl,_,rfl⟩ (.cons ⟨rfl,_,rfl⟩ (.cons ⟨rfl,_,rfl⟩ (.nil))))))),hs⟩
 ·simp only[List.mem_toArray,Nf,Qj,or_false] at he
  rcases he with rfl | rfl | rfl | rfl | rfl | rfl | rfl
  all_goals exact⟨Sum.inr _,by simp[NU,Pa,Rf],rfl⟩
 ·show ([tTON,tPAT,tTOL,tBRK,tPTS,tPAR,tPRS].map fun l=>(Sum.inr (S l):Key)).Nodup
  exact List.pairwise_map.mpr (List.Pairwise.imp (fun h e=>h (S_inj.mp (congrArg V.str (Sum.inr.inj e)))) (show [tTON,tPAT,tTOL,tBRK,tPTS,tPAR,tPRS].Nodup by decide))
def Sy (K:MV):Sp:=fun vs H Q _=>∃(a:Ab) (ns:List Int),vs=[.ref a]/\SqL K H a (ns.map V.int)/\ns.length<=63/\∀ H',Q (.bl true) H'
theorem jv:M' "tongue on 1 1"=S (Nk 32 [tTON,tON,dig 1,dig 1]):=by decide +kernel
theorem jw:M' "told on "=S (tTOL++[32]++tON++[32]):=by decide +kernel
theorem jx:M' "pattern en "=S (tPAT++[32]++nmF true++[32]):=by decide +kernel
theorem jy:M' "break on "=S (tBRK++[32]++tON++[32]):=by decide +kernel
theorem jz:M' "patterns en"=S (Nk 32 [tPTS,tEN]):=by decide +kernel
theorem jA:M' "patterns on"=S (Nk 32 [tPTS,tON]):=by decide +kernel
theorem t_en:M' "en"=S tEN:=by decide +kernel
theorem t_eno:M' "eno"=S tENO:=by decide +kernel
theorem ok_law (T:Txt mg tk)(O3:Ow3 K mg cO3)(F:Fun K "law" "law" s_law f fd)(CV:Dk P w K mg base cO3 3 ["self"] (spDkI cO3 cO2))(Cg:Dn P w K mg base "_law_said" 9 ["_law_desk","_law_row_here"] (SY cO3 cO cO2))(C7:Dn P w K mg base "_law_feed" 1 ["_law_script","_law_k"] (W3 K))(B5:Dn P w K mg base "_law_next" 1 ["_law_feed_here","_law_many"] R5)(C3:Dn P w K mg base "_law_letters" 2 ["_law_feed_here"] W4)(B':Dn P w K mg base "_law_word" 2 ["_law_feed_here","_law_letters_here","_law_most"] QY)(Ci:Dn P w K mg base "_law_pattern" 3 ["_law_feed_here","_law_letters_here","_law_word_here","_law_most"] U1)(Co:Dn P w K mg base "_law_text" 1 ["_law_pattern_here"] U2)(Cc:Dn P w K mg base "_law_tongue_row" 2 ["_law_feed_here","_law_state","_law_name"] U6)(DB:Dn P w K mg base "_law_row" 4 ["_law_feed_here","_law_state","_law_letters_here","_law_words"] spRow)(Cv:Dn P w K mg base "_law_alike" 6 ["_law_found","_law_due"] (W5 6)):FnOk P w K mg base CX0 10 f fd ["_law_script"] (Sy K):=by
 refine F.okk ["_law_script","_law_feed_here","_law_letters_here","_law_words","_law_desk","_law_other","_law_state","_law_name","_law_row_here","_law_due","_law_k","_law_many"] ?_
 rintro _ _ _ s H _ _ _ hr ⟨a,ns,rfl,hS,B8,q⟩ nd
 refine⟨_,(MS (SL (i:=1) nd rfl (Or.inr rfl) (M3 C7 hr.MX rfl (MQ (pv 0) (pa1 MP))))
  (MS (SL (i:=2) nd rfl (Or.inr rfl) (M3 C3 hr.MX rfl (pa1 (pv 1))))
  (MS (QL (i:=3) ["_law_feed_here","_law_letters_here","_law_k"] [some 1,some 2,none] rfl (by kernel_rfl) rfl nd rfl rfl (QE rfl T.z_range (pa1 MP)) (fun _ _ _ _=>(N_ (i:=2) (show (["_law_feed_here","_law_letters_here","_law_k"]:List Str).Nodup by decide +kernel) rfl (Or.inl rfl) (Or.inr rfl))) (fun _ _ _ _=>QK) (fun _ _ _ _=>(M3 B' hr.MX rfl (MQ (pv 0) (MQ (pv 1) (pa1 MP))))))
  (MS (pst 4 nd (UB CV hr.MX rfl O3.m_Desk))
  (MS (pst 5 nd (UB CV hr.MX rfl O3.m_Desk))
  (MS (pst 6 nd Sa)
  (MS (Ou Oo rfl (Pf (K:=K) (NN (MQ (M4 t_eno) (pa1 (M4 t_en))))) (pnm 7 nd)
   (MS (Rk (M3 Cc hr.MX rfl (MQ (pv 1) (MQ (pv 6) (pa1 (pv 7))))) (O6 rfl (Nx (pnm 8 nd) (Nx (pnm 9 nd) OL))))
  (MU (Nc (PW.pt (Pd (Nb (o_ne hr.units) (M3 Cg hr.MX rfl (MQ (pv 4) (pa1 (pv 8)))) (pv 9) (M9 _)) (Tg (Nb (o_ne hr.units) (M3 Cg hr.MX rfl (MQ (pv 5) (pa1 (M4 jv)))) (M4 t_ok) (M9 _)))))
   (MU (M8 Pb))
   Ni))))
  (MS (Nc (Nb (o_ne hr.units) (M3 Cg hr.MX rfl (MQ (pv 5) (pa1 (MY M_ (M4 jw) (NF (K:=K) OD Rc Re (Yp rfl) (M4 SQ) (pa1 (pix K (pv 3) MP))))))) (M4 t_ok) (M9 _))
   (MU (M8 Pb))
   Ni)
  (MS (Ou Oo rfl (QE rfl T.z_range (pa1 (pix K (NN (MQ MP (pa1 MP))) (pct QQ T.z_int (pa1 (Oa (o_eq hr.units) (M3 B5 hr.MX rfl (MQ (pv 1) (pa1 MP))) MP (M9 _))))))) (pnm 10 nd)
   (MS (N9 (NF (K:=K) OI OZ O0 O9 (Oq (NO hr) (Oq (NO hr) (pv 6) (M4 t_en) (fun _ _=>rfl)) NQ (fun _ _=>rfl)) (pa1 (M3 Ci hr.MX rfl (MQ (pv 1) (MQ (pv 2) (MQ (pix K (pv 3) (MY QP (pv 10) MP)) (pa1 MP))))))))
  (MU (Nc (Nb (o_ne hr.units) (M3 Cg hr.MX rfl (MQ (pv 4) (pa1 (MY M_ (M4 jx) (M3 Co hr.MX rfl (pa1 (pix K (Oq (NO hr) (Oq (NO hr) (pv 6) (M4 t_en) (fun _ _=>rfl)) NQ (fun _ _=>rfl)) (Ov RO MP)))))))) (M4 t_ok) (M9 _))
   (MU (M8 Pb))
   Ni))))
  (MS (pst 11 nd (pcb (c_min rfl) T.z_min (MQ MP (pa1 (pcb (Nu (K:=K)) T.z_len (pa1 (pv 0)))))))
  (MS (Nc (PW.pt (Pd (Nb (o_eq hr.units) (pv 11) MP (M9 _)) (Tg (Nb (o_eq hr.units) (M3 B5 hr.MX rfl (MQ (pv 1) (pa1 MP))) MP (M9 _)))))
   (MU (pst 11 nd (M3 B5 hr.MX rfl (MQ (pv 1) (pa1 MP)))))
   Ni)
  (MS (Ou Oo rfl (QE rfl T.z_range (pa1 (pv 11))) (pnm 10 nd)
   (MS (Rk (M3 DB hr.MX rfl (MQ (M3 C7 hr.MX rfl (MQ (pv 0) (pa1 (MY M_ (pv 10) MP)))) (MQ (pv 6) (MQ (pv 2) (pa1 (pv 3)))))) (O6 rfl (Nx (pnm 8 nd) (Nx (pnm 9 nd) OL))))
  (MS (Nc (Nb o_is (pv 9) Pz (M9 _))
   (MU (pst 9 nd (NY (MQ (M4 Pn) (pa1 (pix K (NF (K:=K) OD jW jX Ye (pv 8) (pa1 (M4 Pm))) MP))))))
   Ni)
  (MS (Nc (RF (Oe (M3 Cv hr.MX rfl (MQ (M3 Cg hr.MX rfl (MQ (pv 4) (pa1 (pv 8)))) (pa1 (pv 9)))) (fun _=>rfl)))
   (MU (M8 Pb))
   Ni)
  (MU (Nc (Nb (o_ne hr.units) (M3 Cg hr.MX rfl (MQ (pv 5) (pa1 (MY M_ (M4 jy) (pix K (pv 3) MP))))) (NF (K:=K) OD Rc Re (Yp rfl) (M4 SQ) (pa1 (pix K (pv 3) MP))) (M9 _))
   (MU (M8 Pb))
   Ni))))))
  (MU (M8 (Qm (Oa (o_eq hr.units) (M3 Cg hr.MX rfl (MQ (pv 5) (pa1 (M4 jz)))) (NY (MQ (M4 Pn) (pa1 (M4 t_en)))) (M9 _)) (PD (Oa (o_eq hr.units) (M3 Cg hr.MX rfl (MQ (pv 5) (pa1 (M4 jA)))) (M4 Sr) (M9 _)))))))))))))))))),?_⟩
 walk_at "s0"
 ext
 refine⟨a,ns,0,rfl,hS,by decide,by decide,fun p H1 E4 Dv o1=>?_⟩
 have s1:Same H H1:=fun b u e=>(o1 b (MZ e E4)).trans e
 ext
 refine⟨p,0,rfl,Dv,by decide,fun l H2 Es GJ GG Dw o2=>?_⟩
 have k2:Kept p H1 H2:=o2.kept
 ext
 intro wa IV
 have pwa:p≠wa:=by obtain⟨o,e⟩:=Dw.some;exact MZ e IV
 refine RR (fun i B6 σ H'=>∃(v:Option V) (ws:List (List Nat)),σ=[some (.ref p),some (.str (S l)),v]/\B6=Nd ws/\ws.length=i/\(∀ w∈ws,Low w/\1<=w.length/\w.length<=9)/\FeedAt H' p (3+30 * i)/\Kept p H1 H'/\H' wa=some (.lst B6))
  ⟨none,[],rfl,rfl,rfl,(fun w hw=>nomatch hw),Dw.new IV,k2.new IV _,MT⟩ (fun i B6 σ H' hI9=>by rcases hI9 with ⟨_,ws,_,e,e1,_,_,_,e2⟩;exact⟨e2,by rw[e,U0];omega⟩) (szn (by decide)) ?_ ?_
 ·intro i B6 σ H3 hi hI9
  obtain⟨v,ws,rfl,rfl,DX,H_,Df,k3,e3⟩:=hI9
  have hi3:i < 3:=by omega
  ext
  refine⟨p,_,l,9,rfl,Df,Qy (show _<=500 by omega) (by decide),Es,by omega,GG,by decide,by decide,fun w2 H4 FU De FX DH k4=>?_⟩
  have e4:=k4 _ _ (M7 pwa) e3
  refine⟨e4,_,ws++[w2],rfl,by rw[Nd,Nd,Np];rfl,by rw[No,DX];rfl,fun w hw=>?_,(DH.off (MR pwa)).mono (by omega),fun b o hb e=>?_,MT⟩
  ·rcases NP.mp hw with hw | hw
   ·exact H_ w hw
   ·rw[N3.mp hw];exact⟨FU,De,FX⟩
  ·by_cases z:b=wa
   ·rw[z] at e
    have h2:H2 wa=some o:=k2 wa o (M7 pwa) e
    rw[IV] at h2;cases h2
   ·rw[MR z];exact k4 b o hb (k3 b o hb e)
 ·intro B6 σ H3 hI9
  obtain⟨v,w3,rfl,rfl,DX,H_,Df,k3,e3⟩:=hI9
  have DX:w3.length=3:=DX
  ext
  refine P9 ?_
  ext
  intro d1 dx1 Eb Ia Mv
  have s4:Same H3 (upd (upd H3 dx1 (.own d1)) d1 (.ins cO3 dx1 [])):=fun b o e=>by
   rw[MR (MZ e Eb),MR (MZ e Ia)];exact e
  have e4:=MT (H:=upd H3 dx1 (.own d1)) (a:=d1) (o:=.ins cO3 dx1 [])
  generalize upd (upd H3 dx1 (.own d1)) d1 (.ins cO3 dx1 [])=H4 at s4 e4 ⊢
  refine⟨d1,dx1,rfl,e4,fun tp1 td1 H5 Ib E_ off1=>⟨rfl,?_⟩⟩
  have s35:Same H3 H5:=fun b o e=>off1 b o (MZ e Eb) (s4 b o e)
  have ftd1:=s4.free Ib
  ext
  refine P9 ?_
  ext
  intro d2 dx2 Ek Ic Mw
  have s6:Same H5 (upd (upd H5 dx2 (.own d2)) d2 (.ins cO3 dx2 [])):=fun b o e=>by
   rw[MR (MZ e Ek),MR (MZ e Ic)];exact e
  have e6:=MT (H:=upd H5 dx2 (.own d2)) (a:=d2) (o:=.ins cO3 dx2 [])
  generalize upd (upd H5 dx2 (.own d2)) d2 (.ins cO3 dx2 [])=H6 at s6 e6 ⊢
  refine⟨d2,dx2,rfl,e6,fun tp2 td2 H7 Ie EY off2=>⟨rfl,?_⟩⟩
  have s57:Same H5 H7:=fun b o e=>off2 b o (MZ e Ek) (s6 b o e)
  have ftd2:=s6.free Ie
  ext
  refine Sk fun st Cn=>?_
  obtain⟨H8,IS,s78,est⟩:=OU Cn (.dK [])
  rw[IS]
  obtain⟨⟨dd1,ed1⟩,dy1,et1,ek1⟩:=E_.same (s57.trans s78)
  obtain⟨⟨dd2,ed2⟩,dy2,et2,ek2⟩:=EY.same s78
  have s38:=(s35.trans s57).trans s78
  have ewa:=s38 _ _ e3
  obtain⟨u1,u2,u3,ep,HG⟩:=Df
  have ep8:=s38 _ _ ep
  have EA:FeedAt H8 p 93:=⟨u1,u2,u3,ep8,HG⟩
  have s08:Same H H8:=fun b o e=>s38 _ _ (k3 b o (MZ e E4) (s1 _ _ e))
  have n12:td1≠td2:=fun z=>by obtain⟨_,_,_,t⟩:=E_;rw[z,ftd2] at t;cases t
  have n1s:td1≠st:=fun z=>by obtain⟨_,_,_,t⟩:=E_.same s57;rw[z,Cn] at t;cases t
  have n2s:td2≠st:=fun z=>by obtain⟨_,_,_,t⟩:=EY;rw[z,Cn] at t;cases t
  have nins:∀ b C x fs,H8 b=some (.ins C x fs)->b∉[p,td1,td2,st]:=fun b C x fs e h=>by
   simp only[Nf,Qj,or_false] at h
   rcases h with rfl | rfl | rfl | rfl
   ·rw[ep8] at e;cases e
   ·rw[ek1] at e;cases e
   ·rw[ek2] at e;cases e
   ·rw[est] at e;cases e
  have Ig:offH H8 [p,td1,td2,st] wa=some (.lst (Nd w3)):=by
   rw[Om fun h=>?_]
   ·exact ewa
   ·simp only[Nf,Qj,or_false] at h
    rcases h with h | h | h | h
    ·exact pwa h.symm
    ·rw[h,ek1] at ewa;cases ewa
    ·rw[h,ek2] at ewa;cases ewa
    ·rw[h,est] at ewa;cases ewa
  have J7:In ⟨cO3,cO,cO2,d1,tp1,td1,d2,tp2,td2,st,wa⟩ w3 H8 [p,td1,td2,st] p 0 0 0 (fun _=>0) (fun _=>0) (fun _=>0) (fun _=>b0) :=
   ⟨⟨⟨_,by rw[Om (nins _ _ _ _ ed1)];exact ed1⟩,⟨_,by rw[Om (nins _ _ _ _ et1)];exact et1⟩,⟨[],ek1,trivial⟩,NA _,fun m hm=>nomatch hm⟩,⟨⟨_,by rw[Om (nins _ _ _ _ ed2)];exact ed2⟩,⟨_,by rw[Om (nins _ _ _ _ et2)];exact et2⟩,⟨[],ek2,trivial⟩,NA _,fun m hm=>nomatch hm⟩,est,(fun x hx=>nomatch hx),(fun x hx=>nomatch hx),(fun x y hx=>nomatch hx),Ig,(fun b hb=>by
    simp only[Nf,Qj,or_false] at hb
    rcases hb with rfl | rfl | rfl | rfl
    ·exact⟨_,ep8,fun zs z=>by cases z⟩
    ·exact⟨_,ek1,fun zs z=>by cases z⟩
    ·exact⟨_,ek2,fun zs z=>by cases z⟩
    ·exact⟨_,est,fun zs z=>by cases z⟩),⟨by simp,by simp,by simp,by simp⟩,⟨n12,n1s,n2s⟩,(fun z=>by rw[z,est] at ep8;cases ep8),(fun z=>by rw[z,ek1] at ep8;cases ep8),fun z=>by rw[z,ek2] at ep8;cases ep8⟩
  have fr:H td1=none/\H td2=none/\H st=none:=by
   have up:∀ b o,H b=some o->H3 b=some o:=fun b o e=>k3 _ _ (MZ e E4) (s1 _ _ e)
   refine⟨?_,?_,?_⟩
   ·cases e:H td1 with
    | none=>rfl
    | some o=>rw[up _ _ e] at ftd1;cases ftd1
   ·cases e:H td2 with
    | none=>rfl
    | some o=>rw[s35 _ _ (up _ _ e)] at ftd2;cases ftd2
   ·cases e:H st with
    | none=>rfl
    | some o=>rw[s57 _ _ (s35 _ _ (up _ _ e))] at Cn;cases Cn
  clear nins s38 HG ep8 ep ewa est ek2 et2 ed2 ek1 et1 ed1 s78 Cn s57 s35 ftd1 ftd2 E_ EY off1 off2 s6 s4 e6 e4 Eb Ek Ia Ic Ib Ie e3 k3 Dw Dv o1 o2 k2 s1 IS Ig
  ext
  intro na J8
  obtain⟨H9,KZ,s9,ena⟩:=OU J8 (.lst (Nd [tENO,tEN]))
  rw[show ([V.str (S tENO),.str (S tEN)]:List V)=Nd [tENO,tEN] from rfl,KZ]
  have GH:=J7.same s9
  have EB:=FeedAt.same EA s9
  have s09:=s08.trans s9
  have naD:na∉[p,td1,td2,st]:=fun h=>by obtain⟨o,e,_⟩:=J7.lv na h;rw[J8] at e;cases e
  clear J7 EA s08 s9 J8 KZ
  ext
  try refine RV (SqL.of ena) ?_
  refine Vj (K:=K) (xs:=Nd [tENO,tEN]) (fun i σ H'=>∃(v7 v8 v9:Option V) (D:List Ab) (P' L T':Bool->Ab) (B:Bool->Bp),σ=[some (.ref a),some (.ref p),some (.str (S l)),some (.ref wa),some (.ref d1),some (.ref d2),some (.ref st),v7,v8,v9,none,none]/\In ⟨cO3,cO,cO2,d1,tp1,td1,d2,tp2,td2,st,wa⟩ w3 H' D p i i i P' L T' B/\FeedAt H' p (93+2 * i)/\offH H' D na=some (.lst (Nd [tENO,tEN]))/\Same H H'/\∀ b∈D,H b=none)
   ⟨none,none,none,_,_,_,_,_,rfl,GH,EB,by rw[Om naD];exact ena,s09,fun b hb=>?_⟩ (fun i σ H' _ hI9=>by rcases hI9 with ⟨_,_,_,_,_,_,_,_,_,_,_,e,_⟩;exact SqL.of (Pl e).2) ?_ ?_
  ·simp only[Nf,Qj,or_false] at hb
   rcases hb with rfl | rfl | rfl | rfl
   ·exact E4
   ·exact fr.1
   ·exact fr.2.1
   ·exact fr.2.2
  ·clear GH EB ena s09 naD
   intro i y σ Ha hy hI9
   obtain⟨v7,v8,v9,D,P',L,T',B,rfl,Fi,FL,ena,sa,frD⟩:=hI9
   have hi:i < 2:=(NJ.mp hy).1
   obtain⟨x,hx,rfl⟩:∃ x,od x=i/\y=.str (S (nmF x)):=by
    match i,hi with
    | 0,_=>exact⟨false,rfl,(Option.some.inj hy).symm⟩
    | 1,_=>exact⟨true,rfl,(Option.some.inj hy).symm⟩
   obtain⟨FK,DI,ER⟩:=Sv x
   ext
   refine⟨p,st,_,_,nmF x,rfl,FL,Qy (show _<=500 by omega) (by decide),Fi.hs,by rw[NX];show min i 2<=10;omega,by omega,fun r pp l' t' hd tl Hb b1 b2 b3 b4 er Fx hl' ht' ep' el' et' es' FI kb=>?_⟩
   have Ih:=Fi.ton hx Fx hl' ht' ep' el' et' es' FI kb
   have frD2:∀ b∈l'::t'::D,H b=none:=fun b hb=>by
    rcases Nf.mp hb with rfl | hb
    ·exact sa.free hl'
    ·rcases Nf.mp hb with rfl | hb
     ·exact sa.free ht'
     ·exact frD b hb
   refine RU er rfl (Ny (Nt (Ny (Nt (OO ?_)))))
   ext
   refine Ih.said1 hx b1 b2 b3 b4 (B3 rfl) fun Hc Mx kc=>?_
   ext
   refine Mx.said2 (by omega) fun Hd Mz kd=>?_
   ext
   have kall:∀ b o,b∉l'::t'::D->Ha b=some o->Hd b=some o:=fun b o hb e=>by
    have hb':b∉D:=fun h=>hb (by simp[h])
    exact kd b o (fun z=>hb (z▸Ih.iD.2.1)) (kc b o (fun z=>hb (z▸Ih.iD.1)) (kb b o (fun z=>hb' (z▸Fi.iD.2.2.2)) (fun z=>hb' (z▸Fi.iD.2.2.1)) e))
   obtain⟨na1,na2⟩:=Pl ena
   have na3:na∉l'::t'::D:=fun h=>by
    rcases Nf.mp h with rfl | h
    ·rw[hl'] at na2;cases na2
    ·rcases Nf.mp h with rfl | h
     ·rw[ht'] at na2;cases na2
     ·exact na1 h
   refine⟨_,_,_,l'::t'::D,_,_,_,_,rfl,Mz,?_,by rw[Om na3];exact kall _ _ na3 na2,fun b o e=>kall b o (fun h=>by rw[frD2 b h] at e;cases e) (sa _ _ e),frD2⟩
   obtain⟨o,e⟩:=FI.some
   exact FI.off (by rw[kd _ _ Ih.c2.2.2 (kc _ _ Ih.c2.2.1 e),e])
  ·clear GH EB ena s09 naD
   intro σ Ha hI9
   obtain⟨v7,v8,v9,D,P',L,T',B,rfl,Fi,FL,-,sa,frD⟩:=hI9
   obtain⟨hG,Cj⟩:=In.done Fi
   have FL:FeedAt Ha p 97:=FL
   have Fj:p≠st:=Fi.c2.1
   have EU:p≠td1:=Fi.c2.2.1
   have EV:p≠td2:=Fi.c2.2.2
   have FM:p∈D:=Fi.iD.2.2.2
   clear Fi n12 n1s n2s fr E4
   have J9:0 < w3.length:=by omega
   have J_:=OG J9
   obtain⟨EG,HY,EH⟩:=H_ (w3.getD 0 []) (by rw[Nl,Na J9];exact N5 J9)
   obtain⟨w0,IT⟩:∃ w0,w3.getD 0 []=w0:=⟨_,rfl⟩
   rw[IT] at J_ EG HY EH
   obtain⟨Gc,Du⟩:=jt HY
   have Ff:=U8 EG HY
   have Gi:=Sw EG
   have Ds:=au w0 (NM 1 (w0.length - 1)) w0.length
   have Ii:=(Pl hG.hw).2
   have Mp:tTOL.length=4:=rfl
   have h2t:tON.length=2:=rfl
   have Mn:tBRK.length=5:=rfl
   have Mq:tPAT.length=7:=rfl
   ext
   refine Yo (Yq 45 (by omega)) ?_
   rw[UC,Qe,Gc]
   ext
   rw[show tTOL++[32]++tON++[32]++txt w0 (NM 1 (w0.length - 1)) w0.length=Nk 32 [tTOL,tON,txt w0 (NM 1 (w0.length - 1)) w0.length] from j3 _ _ _]
   refine Gm.tell2 hG (by decide) Ff Du EH Gi fun Hb J' kb=>?_
   obtain⟨b2,Gs⟩:∃ b2:Bp,b2=⟨b0.pats,putG b0.told w0 ((NM 1 (w0.length - 1)).map fun k:Nat=>(k:Int)),b0.hd,b0.tl⟩:=⟨_,rfl⟩
   rw[<- Gs] at J'
   have Ka:brkF b2 w0=txt w0 (NM 1 (w0.length - 1)) w0.length:=by rw[Gs];exact ju
   have Kb:ptsF b2=[110,111,110,101]:=by rw[Gs];rfl
   clear Gs
   have sb:Same H Hb:=fun b o e=>kb b o (fun z=>by rw[z,frD _ hG.t2] at e;cases e) (sa _ _ e)
   have FI:FeedAt Hb p 97:=by obtain⟨o,e⟩:=FL.some;exact FL.off (by rw[kb _ _ EV e,e])
   clear hG kb sa FL Ii
   ext
   intro b1 Ex
   have pb1:p≠b1:=by obtain⟨o,e⟩:=FI.some;exact MZ e Ex
   ext
   refine⟨p,6,_,rfl,FI.new Ex,by decide,by decide,by decide,fun dd Hc _ _ IW oc=>?_⟩
   have eb1:Hc b1=some (.lst [.int 0,.int 14]):=by rw[oc b1 (M7 pb1),MT]
   have Kc:=(J'.same (Nh Ex (.lst [.int 0,.int 14]))).kept FM Fj Cj EU EV IW oc.kept
   have sc:Same H Hc:=fun b o e=>by
    have Kb:b≠p:=fun z=>by rw[z,frD _ FM] at e;cases e
    have e1:=sb _ _ e
    rw[oc b Kb,MR (MZ e1 Ex)];exact e1
   clear J' sb FI Ex
   ext
   obtain⟨m,hm,MA⟩:∃ m:Nat,atI [V.int 0,V.int 14] (if decide (V.int dd=V.int 0)=true then 1 else 0)=some (.int (m:Int))/\m<=14:=by
    split
    ·exact⟨14,rfl,by decide⟩
    ·exact⟨0,rfl,by decide⟩
   refine PZ (OF eb1) hm ?_
   ext
   refine Vk (fun i σ H'=>∃(v10:Option V) (B:Bool->Bp),σ=[some (.ref a),some (.ref p),some (.str (S l)),some (.ref wa),some (.ref d1),some (.ref d2),some (.ref st),v7,v8,v9,v10,none]/\Gm ⟨cO3,cO,cO2,d1,tp1,td1,d2,tp2,td2,st,wa⟩ w3 H' D (3+i) B B b2 P' L T'/\FeedAt H' p (98+300 * i)/\Same H H')
    ⟨none,B,rfl,Kc,IW,sc⟩ ?_ ?_
   ·clear Kc IW sc eb1
    intro i σ Hd hi hI9
    obtain⟨v10,B,rfl,FN,IX,sd⟩:=hI9
    have MB:i < 14:=by omega
    have Kd:i % 3 < w3.length:=by rw[DX];exact Nat.mod_lt _ (by decide)
    have Ij:=OG Kd
    rw[show ((i % 3:Nat):Int)=(0+(i:Int)) % 3 by omega] at Ij
    obtain⟨K0,IE,MC⟩:=H_ (w3.getD (i % 3) []) (by rw[Nl,Na Kd];exact N5 Kd)
    generalize w3.getD (i % 3) []=wk at Ij K0 IE MC
    obtain⟨ys,kts,gT⟩:=FN.s.tn true
    have Fh:=gT.hl
    have Ii:=(Pl FN.hw).2
    have En:=gT.hy.length
    rw[M5] at En
    have hok:=FN.k1.ok (tEN,B true) (by simp[msB])
    have HL:(B true).pats.length<=3+i:=hok.pn
    ext
    refine Oz ?_
    ext
    refine Oz ?_
    ext
    refine⟨st,_,rfl,FN.s.get true▸DGet.k (k:=Sum.inr (S (nmF true))) FN.s.hs,?_⟩
    ext
    refine⟨P' true,_,rfl,Zn▸DGet.k (k:=Sum.inr "patterns") ((Rs _ _) _ _ gT.hp),?_⟩
    ext
    refine⟨p,_,l,wk,3,rfl,IX,Qy (show _<=5000 by omega) (by decide),Es,by omega,GG,K0,IE,by omega,by decide,by decide,fun v y He hv hy K1 ke=>?_⟩
    have DR:=FN.kept FM Fj Cj EU EV K1 ke
    have elL:He (L true)=some (.lst ys):=ke _ _ (M7 (Cj true).1) Fh
    have Mr:ys.length < 1000000:=by omega
    ext
    have k':∀ a o,a≠L true->He a=some o->upd He (L true) (.lst (ys++[v])) a=some o:=fun a o ha e=>by rw[MR ha];exact e
    have Ke:=DR.s.lD true
    have Cb:Same (offH He D) (offH (upd He (L true) (.lst (ys++[v]))) D):=OA fun b o hb e=>⟨hb,k' b o (fun z=>hb (z▸Ke)) e⟩
    have tks:Tk He (upd He (L true) (.lst (ys++[v]))):=fun b zs e=>by rw[MR fun z=>by rw[z,elL] at e;cases e];exact e
    have hv':=Is.tk tks (aE y) hv
    have eoff:=OA (H:=Hd) (H':=He) (D:=D) (D':=D) fun b o hb e=>⟨hb,ke b o (fun z=>hb (z▸FM)) e⟩
    have ekT:=ke _ _ (M7 (Cj true).2) gT.ht
    have Et:L true≠st:=fun z=>by have:=DR.s.hs;rw[<- z,elL] at this;cases this
    have D5:=DR.turn (x:=true) (c:=L true) (ys:=ys++[v]) (kts:=kts) (b:=⟨(B true).pats++[y],(B true).told,(B true).hd,(B true).tl⟩) Ke ⟨Et,M7 (DR.c2 true).1,M7 (DR.c2 true).2.2.1⟩ (fun z hz=>⟨fun e=>hz (DR.s.ll _ _ e).symm,fun e=>by obtain⟨ys',kts',g'⟩:=DR.s.tn z;rw[e,g'.ht] at elL;cases elL⟩) k' ⟨_,MT,fun zs z=>by cases z⟩ ⟨Cb _ _ (eoff _ _ gT.hp),MT,by
     show L2.IsL _ _ (List.map patD (_++_))
     rw[Np]
     refine IsL.append (IsL.same (eoff.trans Cb) gT.hy) ?_
     simp only[Nq,N8,L2.IsL]
     exact⟨Is.same Cb (Is.tk DR.lv.tup (aE y) hv),trivial⟩,k' _ _ (fun z=>by rw[<- z,ekT] at elL;cases elL) ekT,NT.same (Su (eoff.trans Cb)) gT.hk⟩
    have GX:FeedAt (upd He (L true) (.lst (ys++[v]))) p (98+300 * i+200):=K1.off (MR (Cj true).1)
    have sf:Same H (upd He (L true) (.lst (ys++[v]))):=fun b o e=>by
     have IY:b∉D:=fun h=>by rw[frD b h] at e;cases e
     have KD:b≠L true:=fun z=>IY (z▸Ke)
     rw[MR KD];exact ke b o (fun z=>IY (z▸FM)) (sd _ _ e)
    have elf:upd He (L true) (.lst (ys++[v])) (L true)=some (.lst (ys++[v])):=MT
    generalize upd He (L true) (.lst (ys++[v]))=Hf at D5 GX sf elf hv' ⊢
    have Mt:=Vr y.1 y.2
    have J5:=hy.len
    refine Oz ?_
    ext
    refine Oz ?_
    ext
    refine⟨st,_,rfl,D5.s.get true▸DGet.k (k:=Sum.inr (S (nmF true))) D5.s.hs,?_⟩
    ext
    obtain⟨ys',kts',gF⟩:=D5.s.tn true
    refine⟨P' true,_,rfl,Zn▸DGet.k (k:=Sum.inr "patterns") ((Rs _ _) _ _ gF.hp),?_⟩
    ext
    refine PZ (OF elf) (UQ (v:=v) (by simp)) ?_
    ext
    refine⟨v,y,rfl,hv',hy,fun Hg sg=>?_⟩
    have MD:=D5.same sg
    have sg0:=sf.trans sg
    have K2:=FeedAt.same GX sg
    have h11:(tPAT++[32]++nmF true++[32]).length=11:=rfl
    ext
    rw[show tPAT++[32]++nmF true++[32]++ptxt y.1 y.2=Nk 32 [tPAT,nmF true,ptxt y.1 y.2] from j3 _ _ _]
    refine MD.said1 (by omega) (rw3 (.inl rfl) (by decide) (by decide) ⟨by omega,U_ hy⟩) (Zy (x:=true) hy) fun u Hh hu K3 kh=>?_
    have hu:u=.str (S tOK):=by simpa only [ocD,Is] using hu
    subst hu
    ext
    refine⟨_,_,rfl,K3,?_,fun b o e=>kh b o (fun z=>by rw[z,frD _ K3.t1] at e;cases e) (sg0 _ _ e)⟩
    obtain⟨o,e⟩:=K2.some
    exact(K2.off (by rw[kh _ _ EU e,e])).mono (by omega)
   ·clear Kc IW sc eb1
    intro σ Hd hI9
    obtain⟨v10,B,rfl,FN,IX,sd⟩:=hI9
    have Kf:3+((m:Int).toNat)<=17:=by omega
    have hS':=sd.seq hS
    dsimp only
    refine U9 (fun σ H'=>∃ mm:Nat,mm<=63/\σ=[some (.ref a),some (.ref p),some (.str (S l)),some (.ref wa),some (.ref d1),some (.ref d2),some (.ref st),v7,v8,v9,v10,some (.int (mm:Int))]/\H'=Hd) (fun R hR=>?_) ?_
    ·ext
     rw[M5]
     refine hR _ _ ⟨ns.length,B8,?_,rfl⟩
     have e:(if (ns.length:Int) < 63 then (ns.length:Int) else 63)=(ns.length:Int):=by split <;> omega
     rw[e];rfl
    intro σ H' hI9
    obtain⟨mm,Ik,rfl,rfl⟩:=hI9
    refine U9 (fun σ H'=>∃ mm:Nat,mm<=63/\σ=[some (.ref a),some (.ref p),some (.str (S l)),some (.ref wa),some (.ref d1),some (.ref d2),some (.ref st),v7,v8,v9,v10,some (.int (mm:Int))]/\Gm ⟨cO3,cO,cO2,d1,tp1,td1,d2,tp2,td2,st,wa⟩ w3 H' D 17 B B b2 P' L T'/\Same H H') (fun R hR=>?_) ?_
    ·have hGd':=FN.up (show 3+(m:Int).toNat<=17 from Kf)
     have hfd':FeedAt H' p 5000:=IX.mono (by omega)
     have keep:∀{Hn:Hp}{k:Nat},FeedAt Hn p k->Kept p H' Hn->Gm ⟨cO3,cO,cO2,d1,tp1,td1,d2,tp2,td2,st,wa⟩ w3 Hn D 17 B B b2 P' L T'/\Same H Hn:=fun hf k=>⟨hGd'.kept FM Fj Cj EU EV hf k,fun b o e=>k b o (fun z=>by rw[z,frD _ FM] at e;cases e) (sd _ _ e)⟩
     refine i_ifM (fun _ Hn=>FeedAt Hn p 5001/\Kept p H' Hn) (fun R2 GV=>?_) (fun Hn ⟨Fz,kn⟩=>?_) fun Hn ⟨Fz,kn⟩=>?_
     ·ext
      refine iteD (fun c=>?_) (fun c=>?_)
      ·ext
       exact GV _ H' ⟨hfd'.mono (by decide),fun b o _ e=>e⟩
      ·ext
       refine⟨p,2,_,rfl,hfd',by decide,by decide,by decide,fun d4 Hn _ _ Fz on=>?_⟩
       ext
       exact GV _ Hn ⟨Fz,on.kept⟩
     ·ext
      refine⟨p,16,_,rfl,Fz,by decide,by decide,by decide,fun d4 Ho e0 e1 MF oo=>?_⟩
      obtain⟨k4,rfl⟩:∃ k4:Nat,d4=(k4:Int):=⟨d4.toNat,by omega⟩
      ext
      exact hR _ _ ⟨k4,by omega,rfl,keep MF (kn.trans oo.kept)⟩
     ·ext
      exact hR _ _ ⟨mm,Ik,rfl,keep Fz kn⟩
    clear FN IX sd Kf hS' Ik mm
    intro σ He hI9
    obtain⟨mm,Kf,rfl,DR,se⟩:=hI9
    ext
    refine Vk (fun i σ H'=>∃(v8 v9 v10:Option V) (D:List Ab) (P' L T':Bool->Ab) (B:Bool->Bp),σ=[some (.ref a),some (.ref p),some (.str (S l)),some (.ref wa),some (.ref d1),some (.ref d2),some (.ref st),v7,v8,v9,v10,some (.int (mm:Int))]/\Gm ⟨cO3,cO,cO2,d1,tp1,td1,d2,tp2,td2,st,wa⟩ w3 H' D (17+i) B B b2 P' L T'/\Same H H'/\∀ b∈D,H b=none)
     ⟨v8,v9,v10,D,P',L,T',B,rfl,DR,se,frD⟩ ?_ ?_
    ·clear DR se frD Cj Fj EU EV FM v8 v9 v10 D P' L T' B
     intro i σ He hi hI9
     obtain⟨v8,v9,v10,D,P',L,T',B,rfl,DR,se,frD⟩:=hI9
     have MG:i < 63:=by omega
     have MH:=se.seq hS
     ext
     refine⟨a,ns,0+(i:Int)+1,rfl,MH,by omega,by omega,fun pf Hf IZ GX of'=>?_⟩
     have sf:Same He Hf:=fun b u e=>(of' b (MZ e IZ)).trans e
     obtain⟨D5,F1,DV,FJ,GU⟩:=DR.new IZ GX sf
     have K4:=(Pl D5.hw).2
     have Kg:∀ x,OkN (17+i) (B x):=fun x=>by
      cases x
      ·exact DR.k1.ok (tENO,B false) (by simp[msB])
      ·exact DR.k1.ok (tEN,B true) (by simp[msB])
     ext
     refine⟨pf,st,wa,0,l,w3,pf::D,P',L,T',B,17+i,rfl,⟨GX,D5.s,by simp,F1,GU,Es,by omega,GG,K4,fun z=>by have:=(Pl D5.hw).1;exact this (by simp[z]),by omega,by omega,H_,Kg,D5.lv⟩,by decide,by omega,fun r Hr ws oc v D' P2 L9 T2 er hv hW Eu hs E_ EY Ev Ed K5=>?_⟩
     have MI:=D5.row (by simp) DV FJ hs E_ EY Ev Ed K5
     have frD2:∀ b∈D',H b=none:=fun b hb=>by
      rcases EY b hb with h | h
      ·rcases Nf.mp h with rfl | h
       ·exact se.free IZ
       ·exact frD b h
      ·exact(se.trans sf).free h
     have sr:Same H Hr:=fun b o e=>by
      have IY:b∉D':=fun h=>by rw[frD2 b h] at e;cases e
      have I_:b∉pf::D:=fun h=>IY (E_ b h)
      exact Ed b o (fun z=>I_ (by simp[z])) (fun z=>I_ (z▸D5.s.sD)) (fun x=>⟨fun z=>I_ (z▸D5.s.lD x),fun z=>I_ (z▸D5.s.tD x)⟩) (sf _ _ (se _ _ e))
     clear D5 hs E_ EY Ev Ed K5 K4 GX of' IZ DR frD sf se F1 DV FJ GU
     refine RU er rfl (Ny (Nt (Ny (Nt (OO ?_)))))
     dsimp only
     refine U9 (fun σ H'=>∃ v',σ=[some (.ref a),some (.ref p),some (.str (S l)),some (.ref wa),some (.ref d1),some (.ref d2),some (.ref st),v7,some (.str (S (Nk 32 ws))),some v',some (.int (0+(i:Int))),some (.int (mm:Int))]/\Is H' v' (ocD oc)/\Same Hr H') (fun R hR=>?_) ?_
     ·ext
      rcases hv with hv | ⟨rfl,Im⟩
      ·have CA:v≠.non:=fun z=>by subst z;cases oc <;> simp[ocD,Is] at hv
       refine Ph CA ?_
       ext
       exact hR _ _ ⟨v,rfl,hv,Same.refl _⟩
      ·obtain⟨Dd,C9,HJ,Di⟩:=hW
       have DJ:spl 32 (Nk 32 ws)=ws:=aB Dd fun p hp z=>absurd ((HJ p hp).2 32 z).1 (by decide)
       have Gy:=(RwOk.tx HJ).2
       have MJ:1 < ws.length:=by
        unfold Qg at Di
        rw[NS] at Di
        obtain⟨cn,E9,hl⟩:=Zh Di.1
        have:=(Zi E9).1
        omega
       have MK:=OG MJ
       have GE:(ws.map S).map V.str=Nd ws:=by rw[NK];rfl
       ext
       refine Yc rfl (szn (by rw[Nn];omega)) (szn (by rw[Sh,DJ,M5];omega)) fun r2 De=>?_
       rw[Sh,DJ,GE]
       obtain⟨H2,GF,s2,er2⟩:=OU De (.lst (Nd ws))
       rw[GF]
       ext
       intro r3 FX
       ext
       refine hR _ _ ⟨.ref r3,rfl,?_,s2.trans (Nh FX _)⟩
       rw[Im]
       simp only[ocD,Is,L2.IsL]
       exact⟨r3,_,rfl,MT,rfl,rfl,trivial⟩
     ·intro σ H' hI9
      obtain⟨v',rfl,hv',sr'⟩:=hI9
      have hG':=MI.same sr'
      have s':=sr.trans sr'
      ext
      refine hG'.said1 (by omega) hW Eu fun u Hs hu K6 ks=>?_
      have tks:Tk H' Hs:=fun b zs e=>ks b _ (fun z=>by obtain⟨kv,ev,_⟩:=hG'.k1.kv;rw[z] at e;rw[show H' td1=some (.dK kv) from ev] at e;cases e) e
      obtain⟨ML,MM,MN⟩:=ocD_ok oc
      ext
      refine⟨u,v',ocD oc,rfl,hu,Is.tk tks MN hv',ML,MM,fun Ht st'=>?_⟩
      have Kh:=K6.same st'
      have s'':Same H Ht:=fun b o e=>st' _ _ (ks b o (fun z=>by rw[z,frD2 _ K6.t1] at e;cases e) (s' _ _ e))
      have MO:=(Pl Kh.hw).2
      ext
      rw[show tBRK++[32]++tON++[32]++w0=Nk 32 [tBRK,tON,w0] from j3 _ _ _]
      refine Kh.ask2 (by omega) Ff EH Gi fun Hu su=>?_
      rw[Ka]
      have hwu:=su _ _ MO
      ext
      refine Yo (Yq 45 (by omega)) ?_
      rw[UC,Qe,Gc]
      ext
      refine Pi (by simp) ?_
      ext
      exact⟨_,_,_,D',_,_,_,_,rfl,Kh.same su,s''.trans su,frD2⟩
    ·clear DR se frD Cj Fj EU EV FM v8 v9 v10 D P' L T' B
     intro σ He hI9
     obtain⟨v8,v9,v10,D,P',L,T',B,rfl,DR,se,frD⟩:=hI9
     ext
     refine U' DR.k2 DR.t2 DR.lv (by omega) (by show 1<=70;decide) (rw2 (by decide) (by decide)) (outR.of3 (by decide) (by decide) (by decide) (fun _ u Hf hu sf=>?_) fun b hb=>nomatch hb)
     ext
     intro t2 KA
     have s2:=Nh KA (.tup [.str (S tTON),.str (S tEN)])
     have EY:Is (upd Hf t2 (.tup [.str (S tTON),.str (S tEN)])) (.ref t2) (ocD (.to tEN)):=by
      simp only[ocD,Is,L2.IsL]
      exact⟨t2,_,rfl,MT,rfl,rfl,trivial⟩
     have Fe:okD (ocD (.to tEN)):=Lay.ok (n:=1) (Lay.tup fun d hd=>by
      rcases Nf.mp hd with rfl | hd
      ·exact Lay.str (by decide)
      ·rw[N3.mp hd];exact Lay.str (by decide)) (by decide)
     refine i_eqD (Is.same s2 hu) EY Fe Fe ?_
     rw[dw Fe]
     ext
     have D5:=DR.same (sf.trans s2)
     refine U' D5.k2 D5.t2 D5.lv (by omega) (by show 1<=70;decide) (rw2 (by decide) (by decide)) (outR.of3 (by decide) (by decide) (by decide) (fun e=>nomatch e) fun b hb=>?_)
     have hb:b2=b:=Option.some.inj hb
     subst hb
     refine⟨fun e=>absurd e (by decide),fun e=>absurd e (by decide),fun e=>absurd e (by decide),fun _ Hg sg=>?_⟩
     rw[Kb]
     ext
     exact q Hg
def GfE (K:MV)(x:Str)(st:As):Prop:=∃ f fd,Nw K Ah x=some (some (.ref f))/\Fun K x x st f fd
def MtE (K:MV)(c:Ab)(x q:Str)(st:As):Prop:=∃ f fd,Nv K (.ref c) x=some (some (.ref f))/\S4 K (.ref f)=true/\Fun K x q st f fd
structure EvE (P:Aj)(w:Ak)(K:MV)(mg:Str->Option Ac)(base:An):Prop where
 at_:∃ h:An,K.In h/\h.Ns Ah mg
section
variable {P:Aj}{w:Ak}{K:MV}{mg:Str->Option Ac}{base:An}{x q:Str}{c:Ab}{st:As}{k:Nat}{ps:List Str}{sp:Sp}
theorem EvE.dn (E:EvE P w K mg base)(F:GfE K x st)(o:∀{f fd},Fun K x x st f fd->FnOk P w K mg base CX0 k f fd ps sp)(b:∀{f fd},Fun K x x st f fd->Binds K fd ps []:=by walk_at "b"):Dn P w K mg base x k ps sp:=by
 obtain⟨h,X,G⟩:=E.at_
 obtain⟨f,fd,a,F⟩:=F
 exact⟨f,fd,N4 X G a,F.kp,b F,o F⟩
theorem EvE.dx (E:EvE P w K mg base)(F:GfE K x st)(o:∀{f fd},Fun K x x st f fd->FnOk P w K mg base (CXx P w) k f fd ps sp)(b:∀{f fd},Fun K x x st f fd->Binds K fd ps []:=by walk_at "b"):DnX P w K mg base x k ps sp:=by
 obtain⟨h,X,G⟩:=E.at_
 obtain⟨f,fd,a,F⟩:=F
 exact⟨f,fd,N4 X G a,F.kp,b F,o F⟩
theorem EvE.di (E:EvE P w K mg base)(F:MtE K c "__init__" q st)(o:∀{f fd},Fun K "__init__" q st f fd->FnOk P w K mg base CX0 k f fd ps sp)(b:∀{f fd},Fun K "__init__" q st f fd->Binds K fd ps []:=by walk_at "b"):Ini P w K mg base c k ps sp:=by
 obtain⟨f,fd,a,i,F⟩:=F
 exact⟨f,fd,a,i,b F,o F⟩
theorem EvE.dm (E:EvE P w K mg base)(F:MtE K c x q st)(o:∀{f fd},Fun K x q st f fd->FnOk P w K mg base CX0 k f fd ps sp)(b:∀{f fd},Fun K x q st f fd->Binds K fd ps []:=by walk_at "b"):Dm P w K mg base c x k ps sp:=by
 obtain⟨f,fd,a,i,F⟩:=F
 exact⟨f,fd,⟨a,i,F.kp⟩,b F,o F⟩
theorem EvE.dk (E:EvE P w K mg base)(m:Va K c=true)(p:Po K (.ref c)=true)(F:MtE K c "__init__" q st)(o:∀{f fd},Fun K "__init__" q st f fd->FnOk P w K mg base CX0 k f fd ps sp)(b:∀{f fd},Fun K "__init__" q st f fd->Binds K fd ps []:=by walk_at "b"):Dk P w K mg base c k ps sp:=by
 obtain⟨f,fd,a,i,F⟩:=F
 exact⟨f,fd,⟨m,a,i,p⟩,b F,o F⟩
theorem EvE.dy (E:EvE P w K mg base)(F:MtE K c x q st)(o:∀{f fd},Fun K x q st f fd->FnOk P w K mg base (CXx P w) k f fd ps sp)(b:∀{f fd},Fun K x q st f fd->Binds K fd ps []:=by walk_at "b"):DmX P w K mg base c x k ps sp:=by
 obtain⟨f,fd,a,i,F⟩:=F
 exact⟨f,fd,⟨a,i,F.kp⟩,b F,o F⟩
end
theorem bn1 {α:Type}{P:List α->Prop}(h:∀ a,P [a]):∀ us:List α,us.length=1->P us
 | [a],_=>h a
theorem bn2 {α:Type}{P:List α->Prop}(h:∀ a b,P [a,b]):∀ us:List α,us.length=2->P us
 | [a,b],_=>h a b
theorem bn3 {α:Type}{P:List α->Prop}(h:∀ a b c,P [a,b,c]):∀ us:List α,us.length=3->P us
 | [a,b,c],_=>h a b c
theorem bn4 {α:Type}{P:List α->Prop}(h:∀ a b c d,P [a,b,c,d]):∀ us:List α,us.length=4->P us
 | [a,b,c,d],_=>h a b c d
theorem bn5 {α:Type}{P:List α->Prop}(h:∀ a b c d e,P [a,b,c,d,e]):∀ us:List α,us.length=5->P us
 | [a,b,c,d,e],_=>h a b c d e
local macro_rules | `(tactic| walk_at "b")=>`(tactic| first | (exact fun F=>F.binds fun _ _ _ _ _ _=>bn1 fun _=>rfl) | (exact fun F=>F.binds fun _ _ _ _ _ _=>bn2 fun _ _=>rfl) | (exact fun F=>F.binds fun _ _ _ _ _ _=>bn3 fun _ _ _=>rfl) | (exact fun F=>F.binds fun _ _ _ _ _ _=>bn4 fun _ _ _ _=>rfl) | (exact fun F=>F.binds fun _ _ _ _ _ _=>bn5 fun _ _ _ _ _=>rfl))
theorem exc_mk (o:K.lookup c=some (At nm q c N bs (.ref c0::vBM) true sn sub ab col dd ua ub uc ud ue xNew)) (p:Nv K (.ref c) "__getattribute__"=some (some (.builtin xGa))) (r:Nv K (.ref c) "__getattr__"=some none) (s:Nv K (.ref c) "__setattr__"=some (some (.builtin "object.__setattr__"))) (k:Po K (.ref c)=true) (l:Nv K (.ref c) "__class__"=some (some (.builtin "object.__class__"))):Exc K c0 c:=⟨⟨_,_,_,_,_,_,_,_,_,_,_,_,_,_,o⟩,p,r,s,k,l⟩
theorem all_mk {l:aJ}{w:Ak}{K:MV}{h:An}{mg:Str->Option Ac}{fa f61:Ab}(X:K.In h)(G:h.Ns Ah mg)(FL:mg "law"=some (.ref fa))
  {c0:Ab}{nm0 q0:Str}{N0:Ab}{bs0 sub0:List Ac}{E3 ab0:Bool}{sn0:List Str}{col0:Option Bool}{dd0:Option Ab}{u0a u0b u0c u0d u0e:Option Ac}{nw0:String}
  (aC0:Nw K Ah "WordError"=some (some (.ref c0))) (oC0:K.lookup c0=some (At nm0 q0 c0 N0 bs0 vBM E3 sn0 sub0 ab0 col0 dd0 u0a u0b u0c u0d u0e nw0)) (rC0:PySem.W.readsIn K c0 (.type "type")=true) (gC0:Vu K (.ref c0) "__getattribute__"=some (some (.builtin "type.__getattribute__"))) (iC0:PySem.W.findCls K (.ref c0) (.type "type") "__init__"=some (.val (.builtin xIni)))
  {c1:Ab} (aC1:Nw K Ah "NoWord"=some (some (.ref c1))) (xC1:Exc K c0 c1)
  (nC1:Nv K (.ref c1) "place"=some none)
  {c2:Ab} (aC2:Nw K Ah "NoPattern"=some (some (.ref c2))) (xC2:Exc K c0 c2)
  (nC2:Nv K (.ref c2) "place"=some none)
  {c3:Ab} (aC3:Nw K Ah "NoThing"=some (some (.ref c3))) (xC3:Exc K c0 c3)
  (nC3:Nv K (.ref c3) "place"=some none)
  {c4:Ab} (aC4:Nw K Ah "TooNarrow"=some (some (.ref c4))) (xC4:Exc K c0 c4)
  (nC4:Nv K (.ref c4) "place"=some none)
  {c5:Ab} (aC5:Nw K Ah "Twice"=some (some (.ref c5))) (xC5:Exc K c0 c5)
  (nC5:Nv K (.ref c5) "word"=some none)
  {c6:Ab} (aC6:Nw K Ah "NoTongue"=some (some (.ref c6))) (xC6:Exc K c0 c6)
  (nC6:Nv K (.ref c6) "name"=some none)
  {c7:Ab} (aC7:Nw K Ah "NoRow"=some (some (.ref c7))) (xC7:Exc K c0 c7)
  (iC7:Nv K (.ref c7) "__init__"=some (some (.builtin xIni)))
  (ndC:([c0,c1,c2,c3,c4,c5,c6,c7]:List Ab).Nodup)
  {cO:Ab} (aO:Nw K Ah "Breaker"=some (some (.ref cO))) (pO:S0 K cO VJ=true) (dO:Sz K cO=true) (vO:Vt K cO=true) (sO:Nv K (.ref cO) "__setattr__"=some (some (.builtin "object.__setattr__"))) (mO:Va K cO=true) (kO:Po K (.ref cO)=true)
  (n_told_gaps:Nv K (.ref cO) "told_gaps"=some none)
  (n_patterns:Nv K (.ref cO) "patterns"=some none)
  (n_head:Nv K (.ref cO) "head"=some none)
  (n_tail:Nv K (.ref cO) "tail"=some none)
  {cO2:Ab} (aO2:Nw K Ah "Tongues"=some (some (.ref cO2))) (pO2:S0 K cO2 VJ=true) (dO2:Sz K cO2=true) (vO2:Vt K cO2=true) (sO2:Nv K (.ref cO2) "__setattr__"=some (some (.builtin "object.__setattr__"))) (mO2:Va K cO2=true) (kO2:Po K (.ref cO2)=true)
  (n2_breakers:Nv K (.ref cO2) "breakers"=some none)
  {cO3:Ab} (aO3:Nw K Ah "Desk"=some (some (.ref cO3))) (pO3:S0 K cO3 VJ=true) (dO3:Sz K cO3=true) (vO3:Vt K cO3=true) (sO3:Nv K (.ref cO3) "__setattr__"=some (some (.builtin "object.__setattr__"))) (mO3:Va K cO3=true) (kO3:Po K (.ref cO3)=true)
  (n3_tongues:Nv K (.ref cO3) "tongues"=some none)
  (M0:MtE K c4 "__init__" "TooNarrow.__init__" s_TooNarrow_init)
  (M1:MtE K c6 "__init__" "NoTongue.__init__" s_NoTongue_init)
  (F2:GfE K "_law_feed" s_law_feed)
  (F3:GfE K "_law_next" s_law_next)
  (F4:GfE K "_law_alike" s_law_alike)
  (F5:GfE K "fitting_places" s_fitting_places)
  (F6:GfE K "values_by_fits" s_values_by_fits)
  (F7:GfE K "values" s_values)
  (F8:GfE K "breaks" s_breaks)
  (F9:GfE K "gaps_by_word" s_gaps_by_word)
  (F10:GfE K "shown_broken" s_shown_broken)
  (M11:MtE K cO "__init__" "Breaker.__init__" s_Breaker_init)
  (M12:MtE K cO "gaps" "Breaker.gaps" s_Breaker_gaps)
  (M13:MtE K cO "shown" "Breaker.shown" s_Breaker_shown)
  (F14:GfE K "with_patterns" s_with_patterns)
  (M15:MtE K cO2 "__init__" "Tongues.__init__" s_Tongues_init)
  (M16:MtE K cO2 "put" "Tongues.put" s_Tongues_put)
  (F17:GfE K "is_letter" s_is_letter)
  (F18:GfE K "is_word" s_is_word)
  (F19:GfE K "mark_of" s_mark_of)
  (F20:GfE K "word_of" s_word_of)
  (F21:GfE K "is_name" s_is_name)
  (F22:GfE K "is_thing" s_is_thing)
  (F23:GfE K "check_things" s_check_things)
  (M24:MtE K cO2 "breaker_of" "Tongues.breaker_of" s_Tongues_breaker_of)
  (F25:GfE K "pieces" s_pieces)
  (F26:GfE K "farthest_end" s_farthest_end)
  (F27:GfE K "pressed" s_pressed)
  (F28:GfE K "read_broken" s_read_broken)
  (F29:GfE K "shown_number" s_shown_number)
  (F30:GfE K "can_stand" s_can_stand)
  (F31:GfE K "shown_pattern" s_shown_pattern)
  (F32:GfE K "read_pattern" s_read_pattern)
  (F33:GfE K "with_told" s_with_told)
  (F34:GfE K "check_word" s_check_word)
  (F35:GfE K "shown_word" s_shown_word)
  (F36:GfE K "parted" s_parted)
  (F37:GfE K "with_pattern_more" s_with_pattern_more)
  (F38:GfE K "is_text" s_is_text)
  (F39:GfE K "is_number" s_is_number)
  (F40:GfE K "has_its_count" s_has_its_count)
  (F41:GfE K "is_row" s_is_row)
  (F42:GfE K "words_of_row" s_words_of_row)
  (M43:MtE K cO3 "__init__" "Desk.__init__" s_Desk_init)
  (M44:MtE K cO3 "keep" "Desk.keep" s_Desk_keep)
  (M45:MtE K cO3 "pare" "Desk.pare" s_Desk_pare)
  (M46:MtE K cO3 "say" "Desk.say" s_Desk_say)
  (F47:GfE K "_law_said" s_law_said)
  (F48:GfE K "_law_letters" s_law_letters)
  (F49:GfE K "_law_word" s_law_word)
  (F50:GfE K "_law_numbers" s_law_numbers)
  (F51:GfE K "_law_pattern" s_law_pattern)
  (F52:GfE K "_law_values" s_law_values)
  (F53:GfE K "_law_text" s_law_text)
  (F54:GfE K "_law_shown" s_law_shown)
  (F55:GfE K "_law_gaps" s_law_gaps)
  (F56:GfE K "_law_line" s_law_line)
  (F57:GfE K "_law_pressed" s_law_pressed)
  (F58:GfE K "_law_tongue_row" s_law_tongue_row)
  (F59:GfE K "_law_press_row" s_law_press_row)
  (F60:GfE K "_law_row" s_law_row)
  {od61 an61:Option Ab}{sl61:Array (Option Ac)}{oc61 kV61 dc61 pm61 cd61 ct61:Ac}
  (a61:Nw K Ah "law"=some (some (.ref f61))) (l61:K.lookup f61=some ⟨oc61,od61,.func (SD "law" "law" (Vl s_law) (Rl s_law) (Ox s_law) .none kV61 dc61 pm61 an61 cd61 ct61),sl61⟩) (c_61:ZJ K cd61 "law"=true) (k61:Po K (.ref f61)=true)
  {mkT:Ab}{odT:Option Ab}{slT:Array (Option Ac)}{nT tT0 tT1 tT2 tT3 tT4 tT5:Nat} (aT:Nw K Ah "MARKS"=some (some (.ref mkT))) (lT:K.lookup mkT=some ⟨.type "tuple",odT,.seq #[.str "," tT0,.str "." tT1,.str ";" tT2,.str ":" tT3,.str "!" tT4,.str "?" tT5] nT,slT⟩)
  {cD:Ab}{tD0 uD0 tD1 uD1 tD2 uD2 tD3 uD3 tD4 uD4 tD5 uD5 tD6 uD6:Tok} (aD:Nw K Ah "COUNTS"=some (some (.ref cD))) (lD:K.lookup cD=some ⟨.type "dict",none,.dict #[⟨Ps w.params "tongue",.str "tongue" tD0,.int 4 uD0⟩,⟨Ps w.params "pattern",.str "pattern" tD1,.int 3 uD1⟩,⟨Ps w.params "told",.str "told" tD2,.int 3 uD2⟩,⟨Ps w.params "break",.str "break" tD3,.int 3 uD3⟩,⟨Ps w.params "patterns",.str "patterns" tD4,.int 2 uD4⟩,⟨Ps w.params "pare",.str "pare" tD5,.int 2 uD5⟩,⟨Ps w.params "press",.str "press" tD6,.int 3 uD6⟩] 7,#[]⟩) (sD:(cD == AG)=false)
  {tkLETTERS:Tok} (gLETTERS:Nw K Ah "LETTERS"=some (some (.str "abcdefghijklmnopqrstuvwxyz" tkLETTERS)))
  {tkMOST_LETTERS:Tok} (gMOST_LETTERS:Nw K Ah "MOST_LETTERS"=some (some (.int 8 tkMOST_LETTERS)))
  {tkFIGURES:Tok} (gFIGURES:Nw K Ah "FIGURES"=some (some (.str "123456789" tkFIGURES)))
  {tkMOST_SIGNS:Tok} (gMOST_SIGNS:Nw K Ah "MOST_SIGNS"=some (some (.int 22 tkMOST_SIGNS)))
  {tkPERCENT_SIGN:Tok} (gPERCENT_SIGN:Nw K Ah "PERCENT_SIGN"=some (some (.int 37 tkPERCENT_SIGN)))
  (z_len:Nw K Ah "len"=some none)
  (z_abs:Nw K Ah "abs"=some none)
  (z_all:Nw K Ah "all"=some none)
  (z_any:Nw K Ah "any"=some none)
  (z_range:Nw K Ah "range"=some none)
  (z_enumerate:Nw K Ah "enumerate"=some none)
  (z_isinstance:Nw K Ah "isinstance"=some none)
  (z_tuple:Nw K Ah "tuple"=some none)
  (z_list:Nw K Ah "list"=some none)
  (z_dict:Nw K Ah "dict"=some none)
  (z_bool:Nw K Ah "bool"=some none)
  (z_str:Nw K Ah "str"=some none)
  (z_int:Nw K Ah "int"=some none)
  (z_min:Nw K Ah "min"=some none)
  (z_max:Nw K Ah "max"=some none)
  (z_zip:Nw K Ah "zip"=some none)
  (z_ord:Nw K Ah "ord"=some none)
  (z_sorted:Nw K Ah "sorted"=some none)
  (z_ValueError:Nw K Ah "ValueError"=some none)
  : ∃ fd:Aw,(∀(s:Ad) (v:Ac),BO s fd ⟨[v],[]⟩ [("_law_script",v)])/\∀ base:An,K.In base->base.Ns Ah mg->FnOk l.prog w K mg base CX0 10 fa fd ["_law_script"] (Sy K):=by
 have e:=FL.symm.trans (N4 X G a61)
 cases e
 have T:Txt mg (fun i=>([tkLETTERS,tkMOST_LETTERS,tkFIGURES,tkMOST_SIGNS,tkPERCENT_SIGN]:List Tok).getD i 0):=⟨Os X G z_len,Os X G z_abs,Os X G z_all,Os X G z_any,Os X G z_range,Os X G z_enumerate,Os X G z_isinstance,Os X G z_tuple,Os X G z_list,Os X G z_dict,Os X G z_bool,Os X G z_str,Os X G z_int,Os X G z_min,Os X G z_max,Os X G z_zip,Os X G z_ord,Os X G z_sorted,Os X G z_ValueError,N4 X G gLETTERS,N4 X G gMOST_LETTERS,N4 X G gFIGURES,N4 X G gMOST_SIGNS,N4 X G gPERCENT_SIGN⟩
 have TC:Tc K mg mkT:=⟨N4 X G aT,fun H=>.inr ⟨_,_,_,lT,rfl,rfl,by show 6<=Ae;decide,.cons ⟨_,rfl⟩ (.cons ⟨_,rfl⟩ (.cons ⟨_,rfl⟩ (.cons ⟨_,rfl⟩ (.cons ⟨_,rfl⟩ (.cons ⟨_,rfl⟩ (.nil))))))⟩⟩
 have DCC:Dcc l.prog w K mg cD:=dcc_mk (N4 X G aD) lD sD
 have Z:Cs K mg (fun i=>([c0,c1,c2,c3,c4,c5,c6,c7]:List Ab).getD i 0):=⟨N4 X G aC0,⟨rC0,gC0,iC0⟩,⟨_,_,_,_,_,_,_,_,_,_,_,_,_,_,_,_,oC0⟩,N4 X G aC1,xC1,nC1,N4 X G aC2,xC2,nC2,N4 X G aC3,xC3,nC3,N4 X G aC4,xC4,nC4,N4 X G aC5,xC5,nC5,N4 X G aC6,xC6,nC6,N4 X G aC7,xC7,iC7,ndC⟩
 have O:Ow K mg cO:=⟨N4 X G aO,⟨pO,dO,vO,sO⟩,n_told_gaps,n_patterns,n_head,n_tail⟩
 have O2:Ow2 K mg cO2:=⟨N4 X G aO2,⟨pO2,dO2,vO2,sO2⟩,n2_breakers⟩
 have O3:Ow3 K mg cO3:=⟨N4 X G aO3,⟨pO3,dO3,vO3,sO3⟩,n3_tongues⟩
 have Il:=Tu (st:=s_law) l61 c_61 k61
 refine⟨SD "law" "law" (Vl s_law) (Rl s_law) (Ox s_law) .none kV61 dc61 pm61 an61 cd61 ct61,fun s v=>.of_eq rfl,fun base _ _=>?_⟩
 have E:EvE l.prog w K mg base:=⟨h,X,G⟩
 have Ct:=E.di M0 fun F=>gm Z F
 have Cf:=E.di M1 fun F=>gn Z F
 have C7:=E.dn F2 fun F=>gp T F
 have B5:=E.dn F3 fun F=>gq F
 have Cv:Dn l.prog w K mg base "_law_alike" 6 ["_law_found","_law_due"] (W5 6):=by
  obtain⟨f,fd,a,F⟩:=F4
  have b_law_alike:=F.binds (ps:=["_law_found","_law_due"]) fun _ _ _ _ _ _=>bn2 fun _ _=>rfl
  have m_law_alike:=N4 X G a
  exact⟨_,_,m_law_alike,F.kp,b_law_alike,Yr T F b_law_alike m_law_alike 6⟩
 have Cq:=E.dn F5 fun F=>gu T F
 have Cr:=E.dn F6 fun F=>gv T F
 have DL:=E.dn F7 fun F=>gw T F Cq Cr
 have DM:=E.dn F8 fun F=>gC T F DL
 have CL:=E.dn F9 fun F=>gE T F
 have CM:=E.dn F10 fun F=>gG T F
 have B9:=E.dk mO kO M11 fun F=>gI T O F CL
 have Ch:=E.dm M12 fun F=>gJ T O F DM
 have CB:=E.dm M13 fun F=>gK T O F CM Ch
 have Ce:=E.dn F14 fun F=>gM T O F B9
 have CQ:=E.dk mO2 kO2 M15 fun F=>gO T O2 F
 have CY:=E.dm M16 fun F=>gP T O O2 F Ce
 have B_:=E.dn F17 fun F=>gR T F
 have CI:=E.dn F18 fun F=>gS T F B_
 have CH:=E.dn F19 fun F=>gX T TC F
 have CK:=E.dn F20 fun F=>gY T F CH
 have CJ:=E.dn F21 fun F=>gZ T F CI
 have Dg:=E.dn F22 fun F=>g9 T F CI CJ CK
 have CN:=E.dn F23 fun F=>hV T F Dg
 have B7:=E.dy M24 fun F=>kA T Z O2 F Cf
 have DN:=E.dx F25 fun F=>ic T Z O O2 F CN CH CK B7 Ch Cf
 have CO:=E.dn F26 fun F=>ig T F
 have Dz:=E.dx F27 fun F=>ii T Z F DN CO Ct
 have CZ:=E.dn F28 fun F=>il T F B_
 have Cp:=E.dn F29 fun F=>ip T F
 have C_:=E.dn F30 fun F=>iq T F B_
 have CF:=E.dn F31 fun F=>ir T F Cp
 have CP:=E.dn F32 fun F=>iu T F C_
 have Da:=E.dn F33 fun F=>iy T O F B9
 have C4:=E.dn F34 fun F=>iz T F B_
 have C5:=E.dn F35 fun F=>iA T O F C4 CB
 have Dq:=E.dn F36 fun F=>iB T F
 have Cm:=E.dn F37 fun F=>kB T O F CP Ce
 have Dy:=E.dn F38 fun F=>iC T F
 have Cw:=E.dn F39 fun F=>iE T F
 have CC:=E.dn F40 fun F=>iF T DCC F
 have DP:=E.dn F41 fun F=>iG T F CC Cw CJ
 have CS:=E.dn F42 fun F=>iH T F Dy DP
 have CV:=E.dk mO3 kO3 M43 fun F=>iI T O2 O3 F CQ
 have Cy:=E.dm M44 fun F=>iJ T O2 O3 F CY
 have Db:=E.dm M45 fun F=>iK F
 have Dl:=E.dy M46 fun F=>iQ (ad:=fun i=>([c0,c1,c2,c3,c4,c5,c6,c7]:List Ab).getD i 0) T O O2 O3 F CS Dz Dq B9 B7 Cm Da CZ C5 CF Cy Db
 have Cg:=E.dn F47 fun F=>jh T Z O3 F Dl
 have C3:=E.dn F48 fun F=>iR T F B5
 have B':=E.dn F49 fun F=>iS T F B5
 have C1:=E.dn F50 fun F=>iT T F B5
 have Ci:=E.dn F51 fun F=>iU T F B5 B' C1
 have C6:=E.dn F52 fun F=>iV T F
 have Co:=E.dn F53 fun F=>iZ T F
 have CU:=E.dn F54 fun F=>i6 T F
 have Cu:=E.dn F55 fun F=>jb T F C6
 have Dj:=E.dn F56 fun F=>jf T F
 have C2:=E.dn F57 fun F=>jg T F Dj
 have Cc:=E.dn F58 fun F=>kC T F B5
 have CG:=E.dn F59 fun F=>jm T F B5 B' Cu C2
 have DB:=E.dn F60 fun F=>jr T F B5 B' Ci Co CU Cu Cc CG
 exact ok_law T O3 Il CV Cg C7 B5 C3 B' Ci Co Cc DB Cv
theorem walk {l:aJ}{q:Aj}{loose:List Str}{XP:(Str->Option Ac)->An->Prop}{YP:Ak->An->Prop}{d:DefRec}{K:Params->MV}(hn:l.most=some 63)(G2:d.params.defaults=[])
  (hY:∀(w:Ak) (h:An),YP w h->(K w.params).In h)
  (F:∀(w:Ak) (mg:Str->Option Ac) (fa:Ab) (h:An),(K w.params).In h->h.Ns Ah mg->mg d.name=some (.ref fa) ->
   ∃ fd:Aw,(∀(s:Ad) (u:Ac),BO s fd ⟨[u],[]⟩ [("_law_script",u)])/\∀ base:An,(K w.params).In base->base.Ns Ah mg->FnOk l.prog w (K w.params) mg base CX0 10 fa fd ["_law_script"] (Sy (K w.params))) :
  PySem.W.WalkO q loose XP YP l.row.toRowW d [] (fun f vs=>PySem.call f vs) :=
 L2.Ww (n:=63) (k:=10) (x:="_law_script") (CX:=fun _=>CX0) (sp:=fun w=>Sy (K w.params)) hn (by decide) G2 ⟨rfl,by decide,by decide⟩ hY F (fun _ _ a ns hl _ hS=>⟨a,ns,rfl,hS,hl,fun _=>rfl⟩) fun _ _ _ _ _ z=>z
end K92
set_option hygiene true
local macro_rules | `(tactic| walk_at "w")=>`(tactic| (refine' ⟨_,_,?a,L2.Tu ?l ?c ?k⟩;(case a=>k_is);(case l=>k_is);(case c=>k_is);(case k=>k_is)))
local macro_rules | `(tactic| walk_at "v")=>`(tactic| (refine' ⟨_,_,?a,?b,L2.Tu ?l ?c ?k⟩;(case a=>k_is);(case b=>k_is);(case l=>k_is);(case c=>k_is);(case k=>k_is)))
local macro_rules | `(tactic| walk_at "x")=>`(tactic| (refine' K92.exc_mk ?o ?p ?r ?s ?k ?l;(case o=>k_is);(case p=>k_is);(case r=>k_is);(case s=>k_is);(case k=>k_is);(case l=>k_is)))
open PySem PySem.W PyProof.Rows
set_option maxRecDepth 100000 in
set_option maxHeartbeats 0 in
theorem PySem.Challenge.cw_breakwords_k92_whole_desk_holds : PySem.Challenge.rw_breakwords_k92_whole_desk.Holds := by
 w_on;o_law;k_head;(case hw=>w_witness2)
 k_fill
 refine K92.walk (l:=PySem.Challenge.rw_breakwords_k92_whole_desk) rfl rfl (fun w h Y=>PySem.W.kIn_of Y) ?F
 case F =>
  intro w mg fa h KX G Gh
  refine' K92.all_mk KX G Gh ?aC0 ?oC0 ?rC0 ?gC0 ?iC0 ?aC1 ?xC1 ?nC1 ?aC2 ?xC2 ?nC2 ?aC3 ?xC3 ?nC3 ?aC4 ?xC4 ?nC4 ?aC5 ?xC5 ?nC5 ?aC6 ?xC6 ?nC6 ?aC7 ?xC7 ?iC7 ?ndC ?aO ?pO ?dO ?vO ?sO ?mO ?kO ?n_told_gaps ?n_patterns ?n_head ?n_tail ?aO2 ?pO2 ?dO2 ?vO2 ?sO2 ?mO2 ?kO2 ?n2_breakers ?aO3 ?pO3 ?dO3 ?vO3 ?sO3 ?mO3 ?kO3 ?n3_tongues ?M0 ?M1 ?F2 ?F3 ?F4 ?F5 ?F6 ?F7 ?F8 ?F9 ?F10 ?M11 ?M12 ?M13 ?F14 ?M15 ?M16 ?F17 ?F18 ?F19 ?F20 ?F21 ?F22 ?F23 ?M24 ?F25 ?F26 ?F27 ?F28 ?F29 ?F30 ?F31 ?F32 ?F33 ?F34 ?F35 ?F36 ?F37 ?F38 ?F39 ?F40 ?F41 ?F42 ?M43 ?M44 ?M45 ?M46 ?F47 ?F48 ?F49 ?F50 ?F51 ?F52 ?F53 ?F54 ?F55 ?F56 ?F57 ?F58 ?F59 ?F60 ?a61 ?l61 ?c_61 ?k61 ?aT ?lT ?aD ?lD ?sD ?gLETTERS ?gMOST_LETTERS ?gFIGURES ?gMOST_SIGNS ?gPERCENT_SIGN ?z_len ?z_abs ?z_all ?z_any ?z_range ?z_enumerate ?z_isinstance ?z_tuple ?z_list ?z_dict ?z_bool ?z_str ?z_int ?z_min ?z_max ?z_zip ?z_ord ?z_sorted ?z_ValueError
  case aC0 | oC0 | rC0 | gC0 | iC0 | aC1=>k_is
  case xC1=>walk_at "x"
  case nC1 | aC2=>k_is
  case xC2=>walk_at "x"
  case nC2 | aC3=>k_is
  case xC3=>walk_at "x"
  case nC3 | aC4=>k_is
  case xC4=>walk_at "x"
  case nC4 | aC5=>k_is
  case xC5=>walk_at "x"
  case nC5 | aC6=>k_is
  case xC6=>walk_at "x"
  case nC6 | aC7=>k_is
  case xC7=>walk_at "x"
  case iC7=>k_is
  case ndC=>decide
  case aO | pO | dO | vO | sO | mO | kO | n_told_gaps | n_patterns | n_head | n_tail | aO2 | pO2 | dO2 | vO2 | sO2 | mO2 | kO2 | n2_breakers | aO3 | pO3 | dO3 | vO3 | sO3 | mO3 | kO3 | n3_tongues=>k_is
  case M0 | M1=>walk_at "v"
  case F2 | F3 | F4 | F5 | F6 | F7 | F8 | F9 | F10=>walk_at "w"
  case M11 | M12 | M13=>walk_at "v"
  case F14=>walk_at "w"
  case M15 | M16=>walk_at "v"
  case F17 | F18 | F19 | F20 | F21 | F22 | F23=>walk_at "w"
  case M24=>walk_at "v"
  case F25 | F26 | F27 | F28 | F29 | F30 | F31 | F32 | F33 | F34 | F35 | F36 | F37 | F38 | F39 | F40 | F41 | F42=>walk_at "w"
  case M43 | M44 | M45 | M46=>walk_at "v"
  case F47 | F48 | F49 | F50 | F51 | F52 | F53 | F54 | F55 | F56 | F57 | F58 | F59 | F60=>walk_at "w"
  case a61 | l61 | c_61 | k61 | aT | lT | aD | lD=>k_is
  case sD=>decide
  case gLETTERS | gMOST_LETTERS | gFIGURES | gMOST_SIGNS | gPERCENT_SIGN | z_len | z_abs | z_all | z_any | z_range | z_enumerate | z_isinstance | z_tuple | z_list | z_dict | z_bool | z_str | z_int | z_min | z_max | z_zip | z_ord | z_sorted | z_ValueError=>k_is
#print axioms PySem.Challenge.cw_breakwords_k92_whole_desk_holds
namespace K92
end K92
