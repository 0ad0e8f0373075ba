import PyProof.Rows.All
import Wide.All
import OpenK.AllK
import Wide.FinOn
import Lean
import PyProof.EqAt
import PyProof.EqKinds
import PyProof.TupleCall
import PyProof.CompFree
import PyProof.P3Eq
import PyProof.Draws
import PyProof.EnumMake
import PyProof.WalksMore
import PyProof.StrLawsIn
import KE.KDictOf
import PyProof.ZipIter
import PyProof.WalkInts
import PyProof.SeqI3
import KE.KIntText
import PyProof.AutoListH
import PyProof.Rows.SortShellK
import PyProof.Rows.SortStr
import KE.KDictSum
import PyProof.CollectIter
import PyProof.TupleOfGen
import PyProof.ListRange
import KE.KRevIter
import PyProof.CollectWalk
import PyProof.ListNew
import KE.KItemsList
import KE.KDictList
import PyProof.DictTruth
import PyProof.DictWalks
import PyProof.Rows.StrMeet
import PyProof.StrLawsRepr
import PyProof.ExcClass2
import PyProof.ExcBaseAll.ValueError
import PyProof.InstStore
import PyProof.InstStoreFacts
import PyProof.StationsW
import PyProof.ExcArgsOwn
import PyProof.ExcAttrAll.ValueError
import PyProof.FString
import PyProof.FitsInt
import PyProof.PureStr
import PyProof.Rows.FactsFmt
import OpenK.KRaise
import PyProof.RulesAs
import PyProof.RulesDel
import KE.KMinKey
import PyProof.Rows.CallKwBuiltin
import PyProof.Rows.CountFlat
import PyProof.StrCalls2
import PyProof.StrLawsChain
import PyProof.StrLawsTight
import PyProof.FString5
import PyProof.CallFns
import PyProof.FactsAll.list_3
import PyProof.FactsAll.str_8
import PyProof.DictStraight
import PySem.Challenge.RW_breakwords_k81_rows_refused
open PySem renaming wpAny_bind→Aa,Addr→Ac,Value→Ad,sizeLine→Ae,Shared→Af,wpAny_pure→Ag,starEach→Ah,mainGlobals→Ai,model→Aj,Program→Ak,wpAny_loadPart_at→Al,World→Am,wpAny_mono→An,Around→Ao,Heap→Ap,wpAny_loadPart'→Aq,compareOp→Ar,eval→As,excClassObj→At,wpAny_isSubtype_exc→Au,Stmt→Av,wpAny_field→Aw,Expr→Ax,FuncData→Ay,checkBuiltinCall→Az,backTo→AA,wpAny_truthy_bool→AB,wpAny_Call_Name_kw→AC,wpAny_newObj_type→AD,wpAny_pyIter_list→AE,wpAny_seqItems→AF,wpAny_pyIter_tuple→AG,sysModules→AH,attributeBase→AI,binaryOp→AJ,wpAny_callSpecial?_slot→AK,bootBuiltins→AL,rawInt→AM,wpAny_holding→AN,strIterType→AO,wpAny_setField_rec→AQ,wpAny_passesOwn→AR,keywordEach→AS,codeAny_call_builtin→AT,wpAny_pyIter_enum→AU,wpAny_standAt→AV,NameKind→AW,IsPair→AX,typeLookup→AY,call_meets→AZ,wpAny_execs_nil→A0,wpAny_setField→A1,codeAny_mono→A2,wpAny_call_entry→A3,wpAny_onRaise→A4,assignEach→A5,tupleKind_room_in1→A6,sliceBounds→A7,wpAny_letGo→A8,foldedSetIterable→A9,backToKw→A_,wpAny_tryCatch→Ba,plainObj_wpAny_Assign_Attribute→Bb,wpAny_call→Bc,typeIs_str→Bd,behindInMarks→Be,holding→Bf,wpAny_updateSeq_pair→Bg,letOwnedTupleGo→Bh,wpAny_stack_any→Bj,codeAny_builtin→Bk,standAt→Bm,swapsWith→Bo,getMethod→Bq,codeAny_handlers_suite_as→Bs,Scope→Bt,sizeLine_eq→Bu,Keyword→Bv,getItem→Bw,IsZip→Bx,argBest→By,sub_enumerate→Bz,plainId_quiet→BA,wpAny_pyIter_zip→BB,spliced→BC,valueAt→BE,cLine→BF,wpAny_updateSeq→BG,wpAny_isTrue_Compare1→BH,wpAny_formatField_str→BI,codeAny_handlers_test→BJ,callWith→BK,subscripted→BL,IsEnum→BM,unbindBehindTheSuite→BO,tupleKind→BP,BindsTo→BQ,callerA→BR,seqItems?→BS,fromIndex→BU,wpAny_handleBy_cons→BV,checkTypeCall→BX,wpAny_attempt→BY,PlainAttrs→BZ,wpAny_rule→B0,excMatches→B1,GenState→B2,seqIndex_neg→B3,reprText→B4
open PyProof.Rows renaming AllBare→Bl,envOfC→Br,subscriptTail_builtinR→BD,boot_enumerate→BN,subscriptTail→BW,isBoolOf→B5
theorem B6 {p:Prop}[Decidable p](h:¬p):decide p=false:=decide_eq_false h
theorem B7 {p:Prop}[Decidable p](h:p):decide p=true:=decide_eq_true h
theorem B8 {c:Prop}{_:Decidable c}(h:¬c){α:Sort _}{t e:α}:ite c t e=e:=if_neg h
theorem B9 {c:Prop}{_:Decidable c}(h:c){α:Sort _}{t e:α}:ite c t e=t:=if_pos h
local macro_rules | `(tactic| omega)=>`(tactic| lia)
namespace PySem.W.Fast
def tw14749321503821330385:=0
def tw5193304463499923682:=0
def tw15617160471849270537:=0
def tw7283208328723638889:=0
def tw743157375935541429:=0
def tw13839368411717486279:=0
def tw629272410146423318:=0
def tw5305743436804140124:=0
def tw12693703494446808052:=0
def tw13682985064981463447:=0
def tw15319148390058807734:=0
def tw8373751769674443511:=0
def tw5947686795862993045:=0
def tw9286546759793556238:=0
def tw7864901838905728840:=0
def tw14670182922681608614:=0
def tw5105823789389072809:=0
def tw14623588249947161666:=0
def tw13341338916495126500:=0
def tw7030332895722784185:=0
def tw6889423588872256773:=0
def tw15696344746235601076:=0
def tw14772181422121732968:=0
def tw7935945084728942864:=0
def tw16999395422868154713:=0
def tw795437492009191716:=0
def tw13918382360724739246:=0
def tw10987026012541710113:=0
def tw10248199262625189571:=0
def tw13954020697863067118:=0
def tw2226134949989051590:=0
def tw16124950100830007624:=0
def tw8709934296226626610:=0
def tw3186218684917737927:=0
def tw17435622160686747637:=0
def tw12370011332999589855:=0
def tw9424724352855613623:=0
def tw5789947293366210324:=0
def tw3791950729407453555:=0
def tw9881777743866897145:=0
def tw16642896050589999473:=0
def tw10036393689991082262:=0
def tw16438656707604086915:=0
def tw2630915053214885528:=0
def tw18078024889472149857:=0
def tw4019272905823883451:=0
def tw14409614108566491356:=0
def tw13473267709893810552:=0
def tw6599413295708008783:=0
def tw7719535276015659961:=0
def tw9740909036928817641:=0
def tw8839524734390667662:=0
def tw14024023826449833611:=0
def tw7628036050984286298:=0
def tw4173193946860879627:=0
def tw12099787289018581410:=0
def tw1743869842563013550:=0
def tw17113872849562833237:=0
def tw16601564079623444638:=0
def tw7203544562677577562:=0
def tw6948356795826281066:=0
def tw5247603265470909102:=0
def tw3379082730695796886:=0
def tw4295423643727348468:=0
def tw14773461697173455520:=0
def tw3793024058926607474:=0
def tw4188480810377835794:=0
def tw10717350103575628214:=0
def tw5072312565130955860:=0
def tw127891822911864060:=0
def tw11937245606606708457:=0
def tw13614448830340548013:=0
def tw17387149166810831052:=0
def tw10814863660372748334:=0
def tw16483580772378304243:=0
def tw12923898873849789559:=0
def tw7821517975308372641:=0
def tw8546167316259386736:=0
def tw7838826604162459085:=0
def tw4218539817140907974:=0
def tw11287380496468998605:=0
def tw14825779425037264003:=0
def tw4816734991263624795:=0
def tw15558910826416067187:=0
def tw14138180752056366338:=0
def tw6929629135867353028:=0
def tw18011950408052990094:=0
def tw9009978394284535267:=0
def tw13968320340526917962:=0
def tw14960729695250972811:=0
def tw16494481836143272273:=0
def tw6181096286125947628:=0
def tw8263612635458495415:=0
def tw4301998513100376146:=0
def tw2657967184484469350:=0
def tw8942317077778755766:=0
def tw17292701505762782386:=0
def tw5175108296982214812:=0
def tw3758752724874358069:=0
def tw13885275740072690242:=0
def tw16752898179283707469:=0
def tw16301730783330549559:=0
def tw13653563755661094692:=0
def tw1812011844638745917:=0
def tw834755213340979127:=0
def tw8351439143549121630:=0
def tw4298772700231939590:=0
def tw8401913476541140951:=0
def tw9378294591896750175:=0
def tw16956964482692655544:=0
def tw17033055763260554773:=0
def tw16287842315228162944:=0
def tw1183787631036327628:=0
def tw9199720634463065983:=0
def tw11728414696594273659:=0
def tw12788326403823622860:=0
def tw3456965362131529397:=0
def tw11630992430540084406:=0
def tw566255177824927213:=0
def tw5061554669320885992:=0
def tw16429737760587669492:=0
def tw2824291036192442194:=0
def tw13256411923246391270:=0
def tw9360536733871111644:=0
def tw7577091148373136306:=0
def tw11314620044216036312:=0
def tw9836398822171001248:=0
def tw11491166542778675063:=0
def tw11770498126006958071:=0
def tw5027507926667882415:=0
def tw12459724881127784678:=0
def tw12936067193074317628:=0
def tw8021039411517517434:=0
def tw12278652942260749974:=0
def tw6439514352652039239:=0
def tw17578443692845099884:=0
def tw1279733346472348315:=0
def tw1986107172707466620:=0
def tw2931725504914172775:=0
def tw6256524141276996452:=0
def tw10910850997658622774:=0
def tw5621856553782699904:=0
def tw10884191920613872927:=0
def tw7399091120506741623:=0
def tw565314147940284278:=0
def tw10195261324386387221:=0
def tw7549604927165597847:=0
def tw8405101502743785305:=0
def tw5393305624088032612:=0
def tw16018111095061075939:=0
def tw5410828321987715660:=0
def tw7258652649631833453:=0
def tw8542914622004621323:=0
def tw8173712679110480884:=0
def tw8169385520117981995:=0
def tw5324282448315632742:=0
def tw17846115047203035666:=0
def tw816553807038289233:=0
def tw17673204999538257242:=0
def tw1182210919910729066:=0
def tw12569851524178079307:=0
def tw5648017273708621361:=0
def tw16627498351831656187:=0
def tw13912075058870267029:=0
def tw17898628905005438109:=0
def tw13715184671870072158:=0
def tw3345074298153421271:=0
def tw15487075339125108485:=0
def tw14085072051207012924:=0
def tw12732891619651896007:=0
def tw11097331042815048406:=0
def tw1775575789028901618:=0
def tw10153658006159046182:=0
def tw10421311027107893064:=0
def tw16128757030156874837:=0
def tw10950836572698178463:=0
def tw8880792895593824359:=0
def tw7254188773053050487:=0
def tw5303913531287800700:=0
def tw3267545980212281847:=0
def tw12271789827144091895:=0
def tw14900045346584426767:=0
def tw5828077749560233175:=0
def tw8742107472650382109:=0
def tw15731538863722445907:=0
def tw15629185299238032331:=0
def tw10832452388236923817:=0
def tw6180229054603926419:=0
def tw1264832790721549651:=0
def tw10632911397350701779:=0
def tw3713482897733264557:=0
def tw6951888101398001016:=0
def tw4520172055457194280:=0
def tw568794704694565216:=0
def tw4316542769698429658:=0
def tw15821256724776459340:=0
def tw5788068886694972211:=0
def tw12440273791137280882:=0
def tw2187708831507780661:=0
def tw5499097138626775665:=0
def tw12494716351878642094:=0
def tw12709880985501687163:=0
def tw3573841616836287986:=0
def tw3301721350977319774:=0
def tw2850453611701177220:=0
def tw11190516537299082856:=0
def tw4157970408651997895:=0
def tw5508129785284943349:=0
def tw14571707043258275484:=0
def tw5913899463756326993:=0
def tw10584888531867369939:=0
def tw4901697733924002260:=0
def tw2279399319087691223:=0
def tw4559554276941668575:=0
def tw17748395243912183945:=0
def tw10635540267314539697:=0
def tw12020799045067246635:=0
def tw2175634247794758953:=0
def tw12790662964089950280:=0
def tw13191367367549333125:=0
def tw16445064836119506445:=0
def tw6663024217123941891:=0
def tw12679295228763688495:=0
def tw2758944865015376269:=0
def tw18131662652404065957:=0
def tw9042348750347138407:=0
def tw10453720408332358579:=0
def tw565242509542819024:=0
def tw5347627443936983819:=0
def tw6833460834392263516:=0
def tw14494420082062432867:=0
def tw5659621502339416890:=0
def tw540043826346869496:=0
def tw3700534075817699222:=0
def tw2120641552609413755:=0
def tw12194945392221335246:=0
def tw12077547030080013972:=0
def tw11262649003766105278:=0
def tw6032586034620985440:=0
def tw7914048580409008386:=0
def tw7222485354835509295:=0
def tw5799295827125543371:=0
def tw6642186061393264238:=0
def tw9881365741824782631:=0
def tw17159745631620430689:=0
def tw865801666709787236:=0
def tw8063593786449878170:=0
def tw738769405958611378:=0
def tw6060504847653256748:=0
def tw2712009973317209553:=0
def tw18038477603336484492:=0
def tw12107764160408421081:=0
def tw18174763764752729348:=0
def tw11172111404070224953:=0
def tw1640271511796203171:=0
def tw15709863586408626763:=0
def tw7531880785758212568:=0
def tw1090969407792868865:=0
def tw3752807044091341057:=0
def tw17184867851306673097:=0
def tw6928851626677441610:=0
def tw7198227268411945323:=0
def tw402047241768010944:=0
def tw2888604275779384428:=0
def tw8552463111675441179:=0
def tw3628931237470444212:=0
def tw11685383415703831591:=0
def tw10457714412937272270:=0
def tw7251530263237148272:=0
def tw13658701119032100921:=0
def tw3339747231349589828:=0
def tw4645030483199434285:=0
def tw4849868307154370335:=0
def tw1827358205354672299:=0
def tw13939076076437145033:=0
def tw13884117178147456081:=0
def tw6796732848344206641:=0
def tw9827959890622634192:=0
def tw7024108476326053411:=0
def tw13225630961171545614:=0
def tw6946756070055643215:=0
def tw13679361378129510166:=0
def tw7317946576530203712:=0
def tw15103932436690776733:=0
def tw13583466377483892837:=0
def tw18375752623362611030:=0
def tw2938658540178527345:=0
def tw1505829939306746417:=0
def tw9181856629739310271:=0
def tw15332533123338130044:=0
def tw17392172573975755823:=0
def tw17276206708745504321:=0
def tw11403741714690075799:=0
def tw15479495276403784432:=0
def tw10182224816121833309:=0
def tw5796349271424765262:=0
def tw7668321777628106282:=0
def tw1193544012066266941:=0
def tw15078989309871988086:=0
def tw15954830781698931222:=0
def tw143332743588075211:=0
def tw11369569657072619458:=0
def tw3928954082287784664:=0
def tw5192973272549642739:=0
def tw4632144658656594853:=0
def tw13501140344714972710:=0
def tw4169121741143765409:=0
def tw1568446196754325809:=0
def tw14853614078860123677:=0
def tw4006208826501695831:=0
def tw12908601476088723443:=0
def tw14443242620366186054:=0
def tw6918292924877688895:=0
def tw4551116452760217556:=0
def tw15723909063271938848:=0
def tw10889422386106695132:=0
def tw11896400101391130071:=0
def tw568104265670085135:=0
def tw8143121268837309075:=0
def tw13942741110821134116:=0
def tw17196279408662940532:=0
def tw127619590520626702:=0
def tw357960828098628377:=0
def tw11999595540814687923:=0
def tw8883618422383463790:=0
def tw11054331698131082874:=0
def tw10386544790021361202:=0
def tw2927018448997172947:=0
def tw14512367836019805424:=0
def tw532936743477525376:=0
def tw5268939868053242812:=0
def tw458560873681098960:=0
def tw15222961067785012771:=0
def tw12800841587896857877:=0
def tw10604593806064033160:=0
def tw7062895091928084088:=0
def tw455126174062033308:=0
def tw12402696596625805189:=0
def tw7625286622428906376:=0
def tw3001374064820288810:=0
def tw5115630521938250819:=0
def tw4535795032603646729:=0
def tw12072841769367453407:=0
def tw15880782101502506999:=0
def tw1246265687049560383:=0
def tw9250622078469152648:=0
def tw774800097746522693:=0
def tw3317588031191957652:=0
def tw8082199915675368745:=0
def tw368365866496203476:=0
def tw18303398405396596184:=0
def tw17937733889431355665:=0
def tw14788927628889674766:=0
def tw13913073338297874080:=0
def tw11544310992759709945:=0
def tw10123603173575693616:=0
def tw7098399419345501308:=0
def tw8080379468686744459:=0
def tw531673606454121214:=0
def tw17441217688185002017:=0
def tw14348926974666484749:=0
def tw1095848190426302191:=0
def tw10719002352479995367:=0
def tw17482538214132023536:=0
def tw12604370288033185988:=0
def tw10272784491736159696:=0
def tw17223397988785778201:=0
def tw7299560188645678728:=0
def tw15012208601221350932:=0
def tw4746115314603031201:=0
def tw11612217149662125825:=0
def tw17117211022970579055:=0
def tw15108077268137864348:=0
def tw9086526774203542214:=0
def tw6362083949861730573:=0
def tw5222810739195759607:=0
def tw10142344135602696457:=0
def tw4890930172694253495:=0
def tw6944657147224698685:=0
def tw14672698364468408586:=0
def tw15953961971413805429:=0
def tw8466332557773925412:=0
def tw2284452155260551510:=0
def tw12611065380372656680:=0
def tw16257433693361005490:=0
def tw9640021453216258745:=0
def tw9338337871403156136:=0
def tw18391894225954116033:=0
def tw10538484290316773413:=0
def tw7780425604180415861:=0
def tw12496649478114513169:=0
def tw10880486134368476171:=0
def tw11041107741566576514:=0
def tw10958934825312559892:=0
def tw487324939966893956:=0
def tw11103972687108593153:=0
def tw11624753702890729567:=0
def tw17589369184747177980:=0
def tw15088910326951238435:=0
def tw7732125525688863924:=0
def tw14526087268714223641:=0
def tw10093415441587545780:=0
def tw5305880228585597946:=0
def tw3005931851741232112:=0
def tw15338775155940521197:=0
def tw2595064926634735019:=0
def tw17628581751732752799:=0
def tw14945532631757139010:=0
def tw1800783278450255289:=0
def tw17276974607245414360:=0
def tw14703903090856840982:=0
def tw13922687698586129630:=0
def tw1265611824206942311:=0
def tw16673705939572253895:=0
def tw14202480953919265706:=0
def tw16004507391211429058:=0
def tw4692433960058996629:=0
def tw4480858587979915974:=0
def tw16689412578881090643:=0
def tw16475177975104868458:=0
def tw8040759333505503018:=0
def tw8565850872253676649:=0
def tw11456195733187097056:=0
def tw6371063521308814877:=0
def tw15088003119641764689:=0
def tw7397369366127581859:=0
def tw6046719371119882061:=0
def tw6002572186795293134:=0
def tw2570775124286275985:=0
def tw18068578382166102702:=0
def tw16062236077026103167:=0
def tw15169601494187513555:=0
def tw10826757274405313619:=0
def tw9219107228595208922:=0
def tw18003057281252999608:=0
def tw17687495319912243449:=0
def tw16844076126413117557:=0
def tw16831817621759915202:=0
def tw7976618252540862072:=0
def tw4065808224318126479:=0
def tw8576322971802133713:=0
def tw7864823116034010913:=0
def tw16209610008742181305:=0
def tw1173622474828788625:=0
def tw11616553664773430428:=0
def tw14768027987284969700:=0
def tw14652262170188928438:=0
def tw14412739916600290142:=0
def tw12867323178019287459:=0
def tw11935350692924859810:=0
def tw4855962787166106438:=0
def tw13598657019552702506:=0
def tw11630048447975038986:=0
def tw4224394500523692530:=0
def tw12088325950924195554:=0
def tw2193975725557597336:=0
def tw3762504488387100777:=0
def tw8641501726062956170:=0
def tw15891171814868234988:=0
end PySem.W.Fast
set_option Elab.async false
set_option linter.all false
set_option maxRecDepth 100000
open PySem.W renaming Frag→L3,findIn→Mw,nsIn→Mx,mg_none_of→NB,mg_of→Nf,keepIn→OA,emptyDict→QT,hasDictIn→R4,kitOne→Qr,instObj→R5,plainGet→Sm,looks_findIn→UZ,callWith_K→U0,makesIn→Ux,fnOf→R6,plainOver→U1,specialIn→U2,isFn→Sn,methodCall_KW→ZY,mroIn→U3,plainGet_of→ZZ,lookIn→Zc,InstAt→Zd,codeIn→Ze,methodObj→Z0,Looks→iO,cellsFrom_some→iP,takerIn→Z1,OpenLaw→Z2,hideAll_none→iQ,typeIn→Z3,hideAll_get→iR,findObj_own→iS,of_hideAll→iT,clsIn→Z4,kitx_list→iU
open PySem.Heap renaming get?_push_of_some→Mf,get?_push_size→MG,lt_size→Ml,get?_update_other→PH,size_push→Om,get?_update_self→R7,SameBut→QU,IsTuple→Z5
open List renaming getElem?_eq_getElem→Mm,getD_eq_getElem?_getD→Mq,length_map→L8,length_append→Mn,getElem?_eq_some_iff→MS,map_append→Mr,length_cons→Mv,mem_cons_of_mem→MP,mem_cons→Mo,length_singleton→M6,getElem?_map→MC,size_toArray→MH,length_take→MI,mem_cons_self→MV,map_cons→Mu,replicate→MD,mem_append→Nv,mem_of_getElem?→OB,length_drop→NN,take_length→NO,not_mem_nil→Oc,map_map→Ng,drop_eq_getElem_cons→QV,all_eq_true→On,mem_singleton→OJ,mem_append_right→Qs,find?_cons→Oo,mem_map→Nw,take_succ→Od,lookup_cons→OK,append_assoc→Pq,range→Nj,append_nil→Pr,map_nil→Oe,any_cons→OL,getElem_mem→Qt,range'→Of,mem_range→PL,length_nil→Qu,filter_append→R8,mem_of_mem_drop→So,length_filter_le→Uy,mem_filterMap→Sq,contains_cons→Sr,flatMap_cons→Ss,replicate_succ→Uz,map_congr_left→UA,take_of_length_le→U4,drop_length→Su,lookup→PM,flatten_cons→UB,cons_append→UC,any_eq_true→UD,getElem?_set_self→Zf,range_succ→UE,take_append_drop→Zg,getElem?_set_ne→Zh,mem_iff_getElem→Zi,mem_of_mem_take→Zj,getElem?_append_left→Z6,getLast?_eq_getElem?→Z7,filter_cons→U5,filterMap_cons→Zk,length→R9,flatMap_append→Zl,mem_filter→U6,nodup_cons→U7,forIn_cons→U8,length_eq_zero_iff→Z8,drop_zero→U9,length_replicate→Z9,all_map→UF,singleton_append→Z_,mem_flatMap→Zm,eq_nil_of_length_eq_zero→iV,getElem_map→Zn,mem_append_left→Z',replicate_succ'→ac,getElem?_take→ae,mem_of_find?_eq_some→iW,getLast?_eq_some_iff→iX,any_eq_false→af,length_range→ag,mem_range'_1→ah,getElem?_replicate→iY,sum_cons→Zo,range'_succ→ai,length_tail→aj,range_succ_eq_map→iZ,of_mem_zip→ak,foldl_cons→al,nil_append→am,mem_range'→ao,mem_iff_getElem?→i0,any_map→Zp,range_eq_range'→i3,all_cons→ap
open Bool renaming false_ne_true→Mi,and_eq_true→MQ,eq_iff_iff→No,true_and→OM,false_and→QW,false_or→QX,and_false→Sv,false_xor→Sw,false_eq_true→U_,eq_false_iff→aq,or_false→Zq,true_or→Zr,or_eq_true→au,or_true→Zs
open Nat renaming le_refl→L',lt_of_lt_of_le→Nh,ne_of_lt→MA,le_trans→MR,zero_le→ML,lt_of_le_of_lt→R_,le_of_lt→ON,lt_irrefl→Qv,le_succ→Qw,add_sub_cancel_left→Zt,lt_succ_self→UG,succ_ne_self→U',ne_of_gt→Sx,add_sub_cancel→av,le_of_lt_succ→aw,lt_succ_of_le→ax,le_of_eq→Zu,sub_zero→Zv,succ_mul→ay,lt_trans→az,zero_add→aA
open PySem.Str renaming ofString→Mg,empty→Va,join→UH
open PySem.F renaming plainAttrs_str→NX,plainAttrs_list→Og,slot_list_append→OO,type_list_append→OP,called_enumerate→Ps,plain_max_loop→Sy,slot_str_join→Sz,type_str_join→SA,slot_str_split→Vb,type_str_split→Vc,slot_tuple_iterator_next→Zw,entry_enumerate_new→Zx,slot_str_startswith→aB,type_str_startswith→aC,entry_object_init→Zy,slot_dict_items→aE,entry_max_loop→aF,args_tuple_iterator_next_1→i4,entry_tuple_iterator_next→i5,slot_zip_next→Zz,args_str_split_2→aG,slot_dict_getitem→i6,args_tuple_add_2→i7,entry_str_split→aH,entry_tuple_add→i8,attr_ValueError→i9,slot_list_count→i_,plainAttrs_dict→ja,type_dict_items→jb,slot_str_split→aI,slot_tuple_add→jc
open PySem.Builtin.SmallTypes renaming nextOf→R',fitsIndex→UI,ownedTupleIsFree→ZB,ownedTupleHandOut→jd
open PySem.PassesOwn renaming never→OQ,leaving→SD
open PySem.PyData renaming keyHash→OC,canLay0→aJ
open Ne renaming symm→MB
open PyProof.Rows renaming callWith_type1→UJ,slot_tuple_getitem→aK,callWith_builtin1→je
open PySem.SeqAt renaming EqAt→Oh
open Option renaming bind_some→QY,isSome_map→ZC,map_eq_some_iff→jf,map_some→aL,isSome_some→jg
open False renaming elim→Oi
open PySem.Unicode renaming upperOf→QZ
open PySem.Calls renaming spliced_cons→SE,spliced_nil→UK,Name_function_global→jh,callWith_builtin→ji
open PySem.Value renaming isStrOf→Qx
open PySem.Txt renaming split→Oj,contains→Qy,upper→SF,startswith3→aM,join→SG,startswith→aN,slice→Vd,endswith→aP
open PySem.Builtin.Slice renaming slicePlaces→ZD,sliceAdjust→aQ,sliceApplied→jj
open PySem.Builtin.Tuple renaming tupleExact→ZE
open PySem.Builtin.List renaming listTooLong→ZF
open PySem.Builtin.Str renaming occurrences→ZG
open PySem renaming mem_of_lookup→Ve,intText?→SH,Within→ZH
open Array renaming getElem?_eq_some_iff→aR,getElem?_setIfInBounds_ne→jk,toList→UL,length_toList→aS,size_setIfInBounds→jl
open PySem.Obj renaming data_mapFields→ZI,mapFields→ZJ,isFreed_of_fields→jm,mapSeq→Vf
open PySem.StrLaws renaming occBody→Vg,found_one→jn
open Int renaming emod_nonneg→Vh,emod_lt_of_pos→ZK,toNat_natCast→aU,le_refl→ZL
open PySem.Around renaming under_plainId→aV,under→aW
open PySem.Builtin.Builtins renaming bindParams→jo
open PySem.Code renaming quiet_builtin→aX,isFrame→aY
open PySem.Paired renaming length→ZM
open PySem.Shared renaming heap→Vi
open PySem.W.Looks renaming of_pure→jp
open PySem.Heap.SameBut renaming update→jq
open PySem.EntryCells renaming newEntry→jr
open PySem.SeqAt.EqAt renaming int_str→js,str_int→jt
open PySem.Heap.Ns1 renaming of_empty→ju
namespace L2
open PySem PySem.Spec PyProof.Rows
noncomputable abbrev Key:=Sum Int Str
noncomputable def Op:Key->Ad->Bool
 | .inl k,v=>Value.isInt k v
 | .inr x,v=>Qx x v
noncomputable def keyH (w:Am):Key->Int
 | .inl k=>hashInt k
 | .inr x=>hashStr w x
theorem Qz:∀{k:Key}{v:Ad},Op k v=true->(∃ i t,k=Sum.inl i/\v=Value.int i t)∨(∃ x t,k=Sum.inr x/\v=Value.str x t)
 | .inl i,v,h=>by
  obtain⟨t,e⟩:=Value.isInt_shape (k:=i) (v:=v) h
  exact .inl ⟨i,t,rfl,e⟩
 | .inr x,v,h=>by
  obtain⟨t,e⟩:=Value.isStrOf_shape (x:=x) (v:=v) h
  exact .inr ⟨x,t,rfl,e⟩
theorem aZ (i:Int)(t:Tok):Op (.inl i) (.int i t)=true:=by simp[Op,Value.isInt]
theorem a9 (x:Str)(t:Tok):Op (.inr x) (.str x t)=true:=by simp[Op,Qx]
theorem key_ll (a b:Int):decide ((Sum.inl a:Key)=Sum.inl b)=(a == b):=by
 by_cases e:a=b
 ·subst e;simp
 ·have h:¬ (Sum.inl a:Key)=Sum.inl b:=fun q=>e (Sum.inl.inj q)
  rw[B6 h]
  exact(beq_eq_false_iff_ne.mpr e).symm
theorem key_rr (a b:Str):decide ((Sum.inr a:Key)=Sum.inr b)=decide (a=b):=by
 by_cases e:a=b
 ·subst e;simp
 ·have h:¬ (Sum.inr a:Key)=Sum.inr b:=fun q=>e (Sum.inr.inj q)
  rw[B6 h,B6 e]
theorem key_lr (a:Int)(b:Str):decide ((Sum.inl a:Key)=Sum.inr b)=false:=B6 (fun q=>nomatch q)
theorem key_rl (a:Str)(b:Int):decide ((Sum.inr a:Key)=Sum.inl b)=false:=B6 (fun q=>nomatch q)
noncomputable def M7 (prog:Ak)(w:Am):PySem.KeyKind prog w Key where
 is:=Op
 hash:=keyH w
 inj:=fun v a b ha hb=>by
  rcases Qz ha with ⟨i,t,rfl,rfl⟩ | ⟨x,t,rfl,rfl⟩
  ·rcases Qz hb with ⟨j,u,rfl,e⟩ | ⟨y,u,rfl,e⟩
   ·injection e with e1 _;rw[e1]
   ·exact nomatch e
  ·rcases Qz hb with ⟨j,u,rfl,e⟩ | ⟨y,u,rfl,e⟩
   ·exact nomatch e
   ·injection e with e1 _;rw[e1]
 byValue:=fun k v h=>by
  rcases Qz h with ⟨i,t,rfl,rfl⟩ | ⟨x,t,rfl,rfl⟩ <;> rfl
 pyHash:=fun hv h=>by
  rcases Qz hv with ⟨i,t,rfl,rfl⟩ | ⟨x,t,rfl,rfl⟩
  ·exact wpAny_pyHash_int h
  ·exact wpAny_pyHash_str h
 eqBool:=fun hu hv h=>by
  rcases Qz hu with ⟨i,t,rfl,rfl⟩ | ⟨x,t,rfl,rfl⟩
  ·rcases Qz hv with ⟨j,u,rfl,rfl⟩ | ⟨y,u,rfl,rfl⟩
   ·rw[key_ll] at h;exact wpAny_eqBool_int h
   ·rw[key_lr] at h;exact js i t y u _ _ _ _ h
  ·rcases Qz hv with ⟨j,u,rfl,rfl⟩ | ⟨y,u,rfl,rfl⟩
   ·rw[key_rl] at h;exact jt x t j u _ _ _ _ h
   ·rw[key_rr] at h;exact wpAny_eqBool_str h
 «strs»:=fun k x t v h=>by
  rcases Qz h with ⟨i,u,rfl,e⟩ | ⟨y,u,rfl,e⟩
  ·exact nomatch e
  ·injection e with e1 _
   subst e1
   cases v <;> rfl
theorem a_ (prog:Ak)(w:Am)(i:Int)(t:Tok):(M7 prog w).is (.inl i) (.int i t)=true:=aZ i t
theorem bc (prog:Ak)(w:Am)(x:Str)(t:Tok):(M7 prog w).is (.inr x) (.str x t)=true:=a9 x t
inductive V where
 | non | bl (b:Bool) | int (i:Int) | str (x:Str) | byt (b:Array UInt8) | flt (b:UInt64) | ref (a:Ac) | ty (n:String)
 deriving DecidableEq
def RelV:V->Ad->Prop
 | .non,u=>u=Value.none
 | .bl b,u=>u=Value.bool b
 | .int i,u=>∃ t,u=Value.int i t
 | .str x,u=>∃ t,u=Value.str x t
 | .byt b,u=>∃ t,u=Value.bytes b t
 | .flt b,u=>∃ t,u=Value.float b t
 | .ref a,u=>u=Value.ref a
 | .ty n,u=>u=Value.type n
abbrev Vals:List V->List Ad->Prop:=Paired RelV
theorem Vals.length (r:Vals xs us):xs.length=us.length:=ZM r
theorem Vals.get:∀{xs:List V}{us:List Ad}{i:Nat}{x:V},Vals xs us->xs[i]?=some x->∃ u,us[i]?=some u/\RelV x u
 | _,_,_,_,.nil,e=>by simp at e
 | _,_,0,_,.cons r _,e=>by simp at e;subst e;exact⟨_,rfl,r⟩
 | _,_,i+1,x,.cons _ t,e=>by
  obtain⟨u,h1,h2⟩:=Vals.get (i:=i) (x:=x) t (by simpa using e)
  exact⟨u,by simpa using h1,h2⟩
theorem Vals.set {x:V}{u:Ad}(r:RelV x u):∀{xs:List V}{us:List Ad} (i:Nat),Vals xs us->Vals (xs.set i x) (us.set i u)
 | _,_,_,.nil=>.nil
 | _,_,0,.cons _ t=>.cons r t
 | _,_,i+1,.cons q t=>.cons q (Vals.set r i t)
theorem Vals.append:∀{xs ys:List V}{us ws:List Ad},Vals xs us->Vals ys ws->Vals (xs++ys) (us++ws)
 | _,_,_,_,.nil,s=>s
 | _,_,_,_,.cons r t,s=>.cons r (Vals.append t s)
theorem Vals.take:∀{xs:List V}{us:List Ad} (n:Nat),Vals xs us->Vals (xs.take n) (us.take n)
 | _,_,0,_=>.nil
 | _,_,_+1,.nil=>.nil
 | _,_,n+1,.cons r t=>.cons r (Vals.take n t)
theorem Vals.drop:∀{xs:List V}{us:List Ad} (n:Nat),Vals xs us->Vals (xs.drop n) (us.drop n)
 | _,_,0,r=>r
 | _,_,_+1,.nil=>.nil
 | _,_,n+1,.cons _ t=>Vals.drop n t
def RelO:Option V->Option Ad->Prop
 | some v,some u=>RelV v u
 | none,none=>True
 | _,_=>False
def KV {κ:Type}:List (κ×V)->List (κ×Ad)->Prop:=Paired fun(p:κ×V) (q:κ×Ad)=>p.1=q.1/\RelV p.2 q.2
noncomputable def kV:Key->V
 | .inl i=>.int i
 | .inr x=>.str x
inductive HO where
 | lst (xs:List V)
 | tup (xs:List V)
 | dK (B':List (Key×V)) | dT (B':List (List Key×V))
 | set (S:Int->Bool) (n:Nat)
 | ins (C dx:Ac) (fs:List (Str×V))
 | own (x:Ac)
 | xd (fs:List (Str×V))
 | met (f x:Ac)
 | rng (lo hi:Int)
 | frz (o:Obj) (u:HO)
 | tbl (ps:Array Ad)
 | ext (φ:Ap->Prop)
noncomputable abbrev Hp:=Ac->Option HO
noncomputable def upd (H:Hp)(a:Ac)(o:HO):Hp:=fun b=>if b=a then some o else H b
theorem LX :upd H a o a=some o:=by unfold upd;rw[B9 rfl]
theorem L4 (h:b≠a):upd H a o b=H b:=by unfold upd;rw[B8 h]
theorem OR :upd (upd H a o) a u=upd H a u:=by
 funext b;unfold upd;split <;> rfl
theorem NY {H:Hp}{a b:Ac}{o u:HO}(h:H a=some o)(h':H b=some u)(d:o≠u):a≠b:=by
 intro e;subst e;rw[h] at h';exact d (Option.some.inj h')
theorem Mj {H:Hp}{a b:Ac}{o:HO}(h:H a=some o)(h':H b=none):a≠b:=by
 intro e;subst e;rw[h] at h';cases h'
def DcN (h:Ap)(a:Ac):Prop:=∀ o,h.get? a=some o->o.dict=none
theorem DcN.new (h:Ap) (items:Array Ad):DcN (h.push { cls:=.type "tuple",data:=.seq items n }) h.objs.size:=fun o e=>by
 rw[MG _ rfl] at e;cases e;rfl
section
variable (P:Ak) (w:Am)
def ObjOk (H:Hp)(h:Ap)(a:Ac):HO->Prop
 | .lst xs=>xs.length<=Ae/\∃(its:List Ad) (n:Nat),Vals xs its/\h.get? a=some { cls:=.type "list",data:=.seq its.toArray n }
 | .tup xs=>xs.length<=Ae/\∃ its:List Ad,Vals xs its/\IsTup h a its.toArray/\DcN h a
 | .dK B'=>B'.length<=Ae/\(a == AH)=false/\∃ vs,KV B' vs/\h.DictOf (M7 P w) a vs
 | .dT B'=>B'.length<=Ae/\(a == AH)=false/\∃ xs:List (List Key×Ac×Ad),
   Paired (fun(p:List Key×V) (q:List Key×Ac×Ad)=>p.1=q.1/\H q.2.1=some (.tup (p.1.map kV))/\RelV p.2 q.2.2) B' xs /\
   ∃ o es ep,h.get? a=some o/\o.ExactDict/\o.data=.dict es ep/\es.toList=xs.map (entryOfKey (BP (M7 P w)))/\(xs.map (·.1)).Nodup
 | .set S n=>h.SetOf (intKind P w) a S n
 | .ins C dx fs=>H dx=some (.own a)/\fs.length<=1000/\dx≠a/\h.get? a=some (R5 C dx) /\
   ∃ mA,h.Ns1 dx mA/\(∀ f,RelO (fs.lookup f) (mA f))/\ZH mA (fs.map (·.1))
 | .own _=>∃ o,h.get? a=some o
 | .xd fs=>∃ mA,h.Ns1 a mA/\∀ f,RelO (fs.lookup f) (mA f)
 | .rng lo hi=>∃ t u v,h.get? a=some { cls:=.type "range",data:=.fields #[.int lo t,.int hi u,.int 1 v] }
 | .frz o u=>h.get? a=some o/\ObjOk H h a u
 | .tbl ps=>h.get? a=some { cls:=.none,data:=.fields ps }
 | .met f x=>h.get? a=some (Z0 (.ref f) (.ref x))
 | .ext φ=>φ h/\(∃ o,h.get? a=some o)/\∀ h1 h2:Ap,φ h1->(∀ o,h1.get? a=some o->h2.get? a=some o)->φ h2
def HOk (H:Hp)(h:Ap):Prop:=∀ a o,H a=some o->ObjOk P w H h a o
end
section
variable {P:Ak}{w:Am}{H H':Hp}{h h':Ap}{a:Ac}{o:HO}
theorem ObjOk.lt (x:ObjOk P w H h a o):a < h.objs.size:=by
 cases o with
 | lst xs=>obtain⟨_,_,_,_,e⟩:=x;exact Ml e
 | tup xs=>obtain⟨_,_,_,p⟩:=x;exact p.1.lt
 | dK B'=>obtain⟨_,_,_,_,o,_,_,e,_⟩:=x;exact Ml e
 | dT B'=>obtain⟨_,_,_,_,o,_,_,e,_⟩:=x;exact Ml e
 | set S n=>obtain⟨o,_,_,_,e,_⟩:=x;exact Ml e
 | ins C dx fs=>obtain⟨_,_,_,e,_⟩:=x;exact Ml e
 | own y=>obtain⟨_,e⟩:=x;exact Ml e
 | xd fs=>obtain⟨_,⟨_,_,_,e,_⟩,_⟩:=x;exact Ml e
 | rng lo hi=>obtain⟨_,_,_,e⟩:=x;exact Ml e
 | frz ob u=>obtain⟨e,_⟩:=x;exact Ml e
 | tbl ps=>exact Ml (show h.get? a=some _ from x)
 | met f y=>exact Ml (show h.get? a=some _ from x)
 | ext φ=>obtain⟨_,⟨_,e⟩,_⟩:=x;exact Ml e
theorem Paired.mapP {α β:Type}{F G:α->β->Prop}:∀{l₁:List α}{l₂:List β},Paired F l₁ l₂->(∀ a b,F a b->G a b)->Paired G l₁ l₂
 | _,_,.nil,_=>.nil
 | _,_,.cons r t,f=>.cons (f _ _ r) (Paired.mapP t f)
theorem ObjOk.stay (x:ObjOk P w H h a o)(k:∀ b u,(b=a∨H b=some (.own a))->h.get? b=some u->h'.get? b=some u)
  (ho:∀ b,H b=some (.own a)->H' b=some (.own a)) (ht:∀ b xs,H b=some (.tup xs)->H' b=some (.tup xs)):ObjOk P w H' h' a o:=by
 induction o with
 | lst xs=>obtain⟨z,its,n,r,e⟩:=x;exact⟨z,its,n,r,k _ _ (.inl rfl) e⟩
 | tup xs=>obtain⟨z,its,r,⟨ob,e,c⟩,dn⟩:=x;exact⟨z,its,r,⟨ob,k _ _ (.inl rfl) e,c⟩,fun o' e'=>by rw[k _ _ (.inl rfl) e] at e';cases e';exact dn ob e⟩
 | dK B'=>obtain⟨z,y,vs,r,ob,es,ep,e,c⟩:=x;exact⟨z,y,vs,r,ob,es,ep,k _ _ (.inl rfl) e,c⟩
 | dT B' =>
  obtain⟨z,y,xs,r,ob,es,ep,e,c⟩:=x
  exact⟨z,y,xs,Paired.mapP r fun p q z=>⟨z.1,ht _ _ z.2.1,z.2.2⟩,ob,es,ep,k _ _ (.inl rfl) e,c⟩
 | set S n=>obtain⟨ob,es,ep,t,e,c⟩:=x;exact⟨ob,es,ep,t,k _ _ (.inl rfl) e,c⟩
 | ins C dx fs =>
  obtain⟨d,z,ne,e,mA,⟨od,es,ep,e2,c⟩,r⟩:=x
  exact⟨ho _ d,z,ne,k _ _ (.inl rfl) e,mA,⟨od,es,ep,k _ _ (.inr d) e2,c⟩,r⟩
 | own y=>obtain⟨ob,e⟩:=x;exact⟨ob,k _ _ (.inl rfl) e⟩
 | xd fs=>obtain⟨mA,⟨od,es,ep,e,c⟩,r⟩:=x;exact⟨mA,⟨od,es,ep,k _ _ (.inl rfl) e,c⟩,r⟩
 | rng lo hi=>obtain⟨t,u,v,e⟩:=x;exact⟨t,u,v,k _ _ (.inl rfl) e⟩
 | frz ob u ih=>obtain⟨e,q⟩:=x;exact⟨k _ _ (.inl rfl) e,ih q⟩
 | tbl ps =>
  have e:h.get? a=some { cls:=.none,data:=.fields ps }:=x
  show h'.get? a=some { cls:=.none,data:=.fields ps }
  exact k a _ (.inl rfl) e
 | met f y =>
  have e:h.get? a=some (Z0 (.ref f) (.ref y)):=x
  show h'.get? a=some (Z0 (.ref f) (.ref y))
  exact k a _ (.inl rfl) e
 | ext φ=>obtain⟨p,⟨o,e⟩,st⟩:=x;exact⟨st _ _ p fun o q=>k _ _ (.inl rfl) q,⟨o,k _ _ (.inl rfl) e⟩,st⟩
theorem HOk.lt (x:HOk P w H h)(e:H a=some o):a < h.objs.size:=(x a o e).lt
theorem HOk.fresh (x:HOk P w H h)(e:h.objs.size<=a):H a=none:=by
 cases q:H a with
 | none=>rfl
 | some u=>exact absurd (Nh (x.lt q) e) (Qv _)
theorem HOk.kept (x:HOk P w H h)(k:∀ b u,h.get? b=some u->h'.get? b=some u):HOk P w H h':=fun a o e =>
 (x a o e).stay (fun b u _ q=>k b u q) (fun _ q=>q) fun _ _ q=>q
theorem HOk.laid (x:HOk P w H h)(k:∀ b u,h.get? b=some u->h'.get? b=some u)(hp:h.objs.size<=a)(new:ObjOk P w (upd H a o) h' a o):HOk P w (upd H a o) h':=fun b u e=>by
 have hn:=x.fresh hp
 by_cases hb:b=a
 ·subst hb;rw[LX] at e;cases e;exact new
 ·rw[L4 hb] at e
  exact(x b u e).stay (fun c v _ q=>k c v q) (fun c q=>by rw[L4 (Mj q hn)];exact q) fun c xs q=>by rw[L4 (Mj q hn)];exact q
end
def Rd (H:Hp)(a:Ac)(u:HO):Prop:=H a=some u∨∃ o,H a=some (.frz o u)
theorem Rd.ok (r:Rd H a u) (x:HOk P w H h):ObjOk P w H h a u:=by
 rcases r with r | ⟨o,r⟩
 ·exact x a u r
 ·obtain⟨_,q⟩:=x a _ r
  exact q
def Mut:Option HO->Prop
 | some (.lst _)=>True
 | some (.dK _)=>True
 | some (.dT _)=>True
 | some (.set _ _)=>True
 | some (.ins _ _ _)=>True
 | some (.ext _)=>True
 | _=>False
section
variable {P:Ak}{w:Am}{H:Hp}{h h':Ap}{x e:Ac}{o':HO}
theorem HOk.write (ok:HOk P w H h)(mu:Mut (H x))(he:e=x∨H e=some (.own x))(k:∀ b u,b≠e->h.get? b=some u->h'.get? b=some u)(Gx:∃ u,h'.get? e=some u)
  (new:ObjOk P w (upd H x o') h' x o'):HOk P w (upd H x o') h':=fun b u q=>by
 have nown:∀ c y,H c=some (.own y)->c≠x:=fun c y r z=>by subst z;rw[r] at mu;exact mu
 have ntup:∀ c xs,H c=some (.tup xs)->c≠x:=fun c xs r z=>by subst z;rw[r] at mu;exact mu
 by_cases hb:b=x
 ·subst hb;rw[LX] at q;cases q;exact new
 ·rw[L4 hb] at q
  by_cases Fj:b=e
  ·have q':H b=some (.own x):=by
    rcases he with z | z
    ·exact absurd (Fj.trans z) hb
    ·rw[Fj];exact z
   rw[q] at q';cases q'
   obtain⟨v,hv⟩:=Gx
   exact⟨v,by rw[Fj];exact hv⟩
  ·refine(ok b u q).stay (fun c v hc r=>k c v ?_ r) (fun c r=>by rw[L4 (nown c b r)];exact r) fun c xs r=>by rw[L4 (ntup c xs r)];exact r
   rcases hc with rfl | hc
   ·exact Fj
   ·rintro rfl
    rcases he with z | z
    ·exact nown c b hc z
    ·rw[hc] at z;cases z;exact hb rfl
end
structure Un (fs ex:List Ac)(H H':Hp)(h h':Ap):Prop where
 keep:∀ b o,h.get? b=some o->H b=none->b∉fs->b∉ex->h'.get? b=some o
 slot:∀ b o,h.get? b=some o->H b=none->b∈fs->b∉ex->∃ sl,h'.get? b=some { o with slots:=sl }
 free:∀ b o,h.get? b=some o->H b=none->b∉ex->H' b=none
 there:∀ b o,h.get? b=some o->b∉ex->∃ o',h'.get? b=some o'
 tups:∀ b xs,H b=some (.tup xs)->H' b=some (.tup xs)
 frzs:∀ b o u,H b=some (.frz o u)->H' b=some (.frz o u)
 tbls:∀ b ps,H b=some (.tbl ps)->∃ more,H' b=some (.tbl (ps++more))
section
variable {fs fs' ex ex':List Ac}{H H1 H2:Hp}{h h1 h2 h':Ap}{a x e:Ac}{o:HO}
theorem Un.any (u:Un fs ex H H1 h h1) (q:h.get? b=some ob) (n:H b=none) (hx:b∉ex):∃ sl,h1.get? b=some { ob with slots:=sl }:=by
 by_cases hb:b∈fs
 ·exact u.slot b ob q n hb hx
 ·exact⟨ob.slots,u.keep b ob q n hb hx⟩
theorem Un.trans (a:Un fs ex H H1 h h1)(b:Un fs ex H1 H2 h1 h2):Un fs ex H H2 h h2 where
 keep:=fun c ob q n hc hx=>b.keep c ob (a.keep c ob q n hc hx) (a.free c ob q n hx) hc hx
 slot:=fun c ob q n hc hx=>by
  obtain⟨sl,e1⟩:=a.slot c ob q n hc hx
  obtain⟨sl',e2⟩:=b.slot c _ e1 (a.free c ob q n hx) hc hx
  exact⟨sl',e2⟩
 free:=fun c ob q n hx=>by
  obtain⟨o',e1⟩:=a.there c ob q hx
  exact b.free c o' e1 (a.free c ob q n hx) hx
 there:=fun c ob q hx=>by
  obtain⟨o',e1⟩:=a.there c ob q hx
  exact b.there c o' e1 hx
 tups:=fun c xs q=>b.tups c xs (a.tups c xs q)
 frzs:=fun c ob xs q=>b.frzs c ob xs (a.frzs c ob xs q)
 tbls:=fun c ps q=>by
  obtain⟨m1,e1⟩:=a.tbls c ps q
  obtain⟨m2,e2⟩:=b.tbls c _ e1
  exact⟨m1++m2,by rw[e2,Array.append_assoc]⟩
theorem Un.kept (k:∀ b u,h.get? b=some u->h'.get? b=some u):Un fs ex H H h h' :=
 ⟨fun b ob q _ _ _=>k b ob q,fun b ob q _ _ _=>⟨ob.slots,k b ob q⟩,fun _ _ _ n _=>n,fun b ob q _=>⟨ob,k b ob q⟩,fun _ _ q=>q,fun _ _ _ q=>q,fun _ ps q=>⟨#[],by rw[q];simp⟩⟩
theorem Un.refl:Un fs ex H H h h:=Un.kept fun _ _ q=>q
theorem Un.laid (k:∀ b u,h.get? b=some u->h'.get? b=some u)(hp:h.objs.size<=a)(hn:H a=none):Un fs ex H (upd H a o) h h' where
 keep:=fun b u q _ _ _=>k b u q
 slot:=fun b u q _ _ _=>⟨u.slots,k b u q⟩
 free:=fun b u q n _=>by rw[L4 (MA (Nh (Ml q) hp))];exact n
 there:=fun b u q _=>⟨u,k b u q⟩
 tups:=fun b xs q=>by rw[L4 (Mj q hn)];exact q
 frzs:=fun b u xs q=>by rw[L4 (Mj q hn)];exact q
 tbls:=fun b ps q=>⟨#[],by rw[L4 (Mj q hn),q];simp⟩
theorem Un.write (mu:Mut (H x))(he:e=x∨H e=some (.own x))(k:∀ b u,b≠e->h.get? b=some u->h'.get? b=some u)(Gx:∃ u,h'.get? e=some u):Un fs ex H (upd H x o) h h':=by
 have hx:∀ b,H b=none->b≠x:=fun b n z=>by subst z;rw[n] at mu;exact mu
 have hb:∀ b,H b=none->b≠e:=fun b n z=>by
  subst z
  rcases he with r | r
  ·exact hx b n r
  ·rw[n] at r;cases r
 have hm:∀ b u,H b=some u->¬ Mut (some u)->b≠x:=fun b u q nm z=>by subst z;rw[q] at mu;exact nm mu
 refine⟨fun b u q n _ _=>k b u (hb b n) q,fun b u q n _ _=>⟨u.slots,k b u (hb b n) q⟩,fun b u q n _=>by rw[L4 (hx b n)];exact n,fun b u q _=>?_,
  fun b xs q=>by rw[L4 (hm b _ q fun z=>z)];exact q,fun b u xs q=>by rw[L4 (hm b _ q fun z=>z)];exact q,fun b ps q=>⟨#[],by rw[L4 (hm b _ q fun z=>z),q];simp⟩⟩
 by_cases Fj:b=e
 ·subst Fj;exact Gx
 ·exact⟨u,k b u Fj q⟩
theorem Un.mono (u:Un fs ex H H1 h h1)(hs:∀ b∈fs,b∈fs')(hx:∀ b∈ex,b∈ex'):Un fs' ex' H H1 h h1 :=
 ⟨fun b ob q n hb he=>u.keep b ob q n (fun z=>hb (hs b z)) fun z=>he (hx b z),fun _ _ q n _ he=>u.any q n fun z=>he (hx _ z),fun b ob q n he=>u.free b ob q n fun z=>he (hx b z),fun b ob q he=>u.there b ob q fun z=>he (hx b z),u.tups,u.frzs,u.tbls⟩
end
noncomputable def trk (h:Ap)(H:Hp):List Ac:=(Nj h.objs.size).filter fun a=>(H a).isSome
noncomputable def hidT (h:Ap)(H:Hp):Ap:=PySem.W.hideAll h (trk h H)
theorem bf (h:Ap)(H:Hp):(hidT h H).objs.size=h.objs.size:=PySem.W.hideAll_size _ _
theorem bg (e:h.get? b=some o) (n:H b=none):(hidT h H).get? b=some o :=
 iR _ e fun hm=>by
  have q:(H b).isSome=true:=(U6.mp hm).2
  rw[n] at q;simp at q
theorem bh (e:(hidT h H).get? b=some o):h.get? b=some o/\H b=none:=by
 have e':h.get? b=some o:=iT (trk h H) e
 refine⟨e',?_⟩
 cases q:H b with
 | none=>rfl
 | some x =>
  have hm:b∈trk h H:=U6.mpr ⟨PL.mpr (Ml e'),by simp[q]⟩
  have z:(hidT h H).get? b=none:=iQ (trk h H) hm
  rw[z] at e;cases e
structure Mod (K:L3)(mg:Str->Option Ad)(base:Ap):Prop where
 kin:K.In base
 glob:base.Ns Ai mg
 blt:∃ mb,base.Ns builtinsNs mb/\∀ x:Str,x≠"__name__"->mb x=AL x
 nolimit:base.NoLimit
structure Cx where
 prog:Ak
 w:Am
 K:L3
 mg:Str->Option Ad
 base:Ap
 A:Ao
 N:List Str
 s₀:Af
 H₀:Hp
 env:Env
 outer:List Env
 stack:List Env
 ex:List Ac
 fn:Str->Bool
 calm:Bool
 pn:List (Ac×Obj)
 xe:Ad->Af->Prop
noncomputable def frs (l:List Env):List Ac:=l.filterMap (·.frame)
noncomputable abbrev Cx.fs (X:Cx):List Ac:=frs X.outer
def Vis (sc:Bt)(x:Str):Prop:=sc.names.lookup x=some .local∨sc.names.lookup x=some .cell∨sc.names.lookup x=some .free
def Loc (sc:Bt)(x:Str):Prop:=sc.names.lookup x=some .local∨sc.names.lookup x=some .cell
noncomputable def Look (env:Env)(h:Ap)(m:Str->Option Ad)(x:Str)(u:Ad):Prop :=
 (env.kindOf x=some .local/\m x=some u)∨((env.kindOf x=some .cell∨env.kindOf x=some .free)/\∃ c,env.cells.lookup x=some c/\h.IsCell c (some u))
structure Cx.Ok (X:Cx):Prop where
 mod:Mod X.K X.mg X.base
 kind:X.env.scope.kind=.function
 glob:X.env.globals=Ai
 blt:X.env.builtins=builtinsNs
 above:X.s₀.heap.objs.size<=X.env.locals
 inj:∀ x y c,X.env.cells.lookup x=some c->X.env.cells.lookup y=some c->x=y
 has:∀ x,(X.env.kindOf x=some .cell∨X.env.kindOf x=some .free)->∃ c,X.env.cells.lookup x=some c
 cab:∀ x c,X.fn x=true->X.env.cells.lookup x=some c->X.s₀.heap.objs.size<=c
 hd:X.calm=true->X.A.handled=none
 frames:X.A.frames=some X.stack
 stk:X.stack=X.outer∨(X.stack=X.env::X.outer/\X.env.frame=some X.env.locals)
 exf:∀ b∈X.ex,b≠X.env.locals/\∀ x c,X.env.cells.lookup x=some c->c≠b
 bs:∀ b o,X.base.get? b=some o->X.s₀.heap.get? b=some o/\X.H₀ b=none
 bsz:X.base.objs.size<=X.s₀.heap.objs.size
 noex:∀ b o,X.base.get? b=some o->b∉X.ex
 exfs:∀ b∈X.ex,b∉X.fs
 funs:X.s₀.heap.FunFrames X.base X.outer
 frf:∀ b∈X.fs,X.H₀ b=none
structure Inv (X:Cx)(B_:List (Ac×Obj))(σ:List (Option V))(H:Hp)(s:Af):Prop where
 ok:X.Ok
 os:s.os=X.s₀.os
 bare:Bl s.gens
 base:Un X.fs X.ex X.H₀ H X.s₀.heap s.heap
 loc:∃ m,s.heap.Ns X.env.locals m/\∀(i:Nat) (x:Str) (v:V),X.N[i]?=some x->σ[i]?=some (some v)->Vis X.env.scope x->∃ u,RelV v u/\Look X.env s.heap m x u
 cell:∀ x c,X.env.cells.lookup x=some c->∃ v,s.heap.IsCell c v
 free:H X.env.locals=none
 freeC:∀ x c,X.env.cells.lookup x=some c->H c=none
 pin:∀ p∈X.pn++B_,s.heap.get? p.1=some p.2/\H p.1=none/\p.1≠X.env.locals/\p.1∉X.fs/\∀ v,p.2.data≠.cell v
 hok:HOk X.prog X.w H s.heap
 len:σ.length=X.N.length
section
variable {X:Cx}{B_:List (Ac×Obj)}{σ:List (Option V)}{H H':Hp}{s:Af}{h':Ap}
theorem Cx.Ok.nofr (ok:X.Ok) (e:X.base.get? b=some o):b∉X.fs:=fun hb=>by
 have:=(ok.funs.mem hb).1
 rw[e] at this;cases this
theorem Inv.bs (I:Inv X B_ σ H s):∀ b o,X.base.get? b=some o->s.heap.get? b=some o/\H b=none:=fun b o e =>
 ⟨I.base.keep b o (I.ok.bs b o e).1 (I.ok.bs b o e).2 (I.ok.nofr e) (I.ok.noex b o e),I.base.free b o (I.ok.bs b o e).1 (I.ok.bs b o e).2 (I.ok.noex b o e)⟩
theorem Inv.bk (I:Inv X B_ σ H s):∀ b o,X.base.get? b=some o->s.heap.get? b=some o:=fun b o e=>(I.bs b o e).1
theorem Inv.mod (I:Inv X B_ σ H s):Mod X.K X.mg X.base:=I.ok.mod
theorem Inv.kIn (I:Inv X B_ σ H s):X.K.In s.heap:=I.ok.mod.kin.keeps I.bk
theorem Inv.lt (I:Inv X B_ σ H s):X.env.locals < s.heap.objs.size:=let ⟨_,hn,_⟩:=I.loc;hn.lt
theorem Inv.sz (I:Inv X B_ σ H s):X.s₀.heap.objs.size<=s.heap.objs.size:=MR I.ok.above (ON I.lt)
theorem Inv.nofs (I:Inv X B_ σ H s) (h:s.heap.objs.size<=a):a∉X.fs:=fun hb=>by
 obtain⟨_,o,ho,_⟩:=I.ok.funs.mem hb
 exact absurd (Nh (Ml ho) (MR I.sz h)) (Qv _)
theorem Inv.cne (I:Inv X B_ σ H s):∀ x c,X.env.cells.lookup x=some c->c≠X.env.locals:=fun x c e z=>by
 obtain⟨v,o,ho,hd⟩:=I.cell x c e
 obtain⟨m,⟨o',es,ep,ho',hd',_⟩,_⟩:=I.loc
 rw[z,ho'] at ho;cases ho;rw[hd'] at hd;cases hd
theorem Inv.funs (I:Inv X B_ σ H s):s.heap.FunFrames X.base X.outer:=by
 have all:∀(l:List Env),(∀ b∈frs l,b∈X.fs)->X.s₀.heap.FunFrames X.base l->s.heap.FunFrames X.base l:=by
  intro l
  induction l with
  | nil=>intro _ _;trivial
  | cons env r ih =>
   intro hs hl
   obtain⟨hk,⟨L,o,hf,hn,ho,hd⟩,hr⟩:=hl
   have hL:L∈X.fs:=hs L (by unfold frs;rw[Zk,hf];exact MV)
   obtain⟨sl,e⟩:=I.base.slot L o ho (I.ok.frf L hL) hL fun z=>I.ok.exfs L z hL
   exact⟨hk,⟨L,_,hf,hn,e,hd⟩,ih (fun b hb=>hs b (by unfold frs;rw[Zk,hf];exact MP _ hb)) hr⟩
 exact all X.outer (fun _ hb=>hb) I.ok.funs
theorem Inv.stack (I:Inv X B_ σ H s):s.heap.FunFrames X.base X.stack:=by
 rcases I.ok.stk with e | ⟨e,hf⟩
 ·rw[e];exact I.funs
 ·rw[e]
  obtain⟨m,hn,_⟩:=I.loc
  refine .cons (by rw[I.ok.kind];decide) hf hn ?_ I.funs
  exact Heap.get?_none_of_le (MR I.ok.bsz I.ok.above)
theorem Inv.stkSub (I:Inv X B_ σ H s):∀ b∈frs X.stack,b∈X.env.locals::X.fs:=fun b hb=>by
 rcases I.ok.stk with e | ⟨e,hf⟩
 ·rw[e] at hb;exact MP _ hb
 ·rw[e] at hb
  unfold frs at hb
  rw[Zk,hf] at hb
  exact hb
theorem Inv.stkFree (I:Inv X B_ σ H s):∀ b∈frs X.stack,H b=none:=fun b hb=>by
 rcases Mo.mp (I.stkSub b hb) with e | hb
 ·rw[e];exact I.free
 ·obtain⟨_,o,ho,_⟩:=I.ok.funs.mem hb
  exact I.base.free b o ho (I.ok.frf b hb) fun z=>I.ok.exfs b z hb
theorem Inv.step {g':Array B2}{t':Nat}{d':Drawn}{ch:List Ac}(I:Inv X B_ σ H s)
  (E7:∀ b∈ch,(b∈X.ex∨X.s₀.heap.objs.size<=b)/\b≠X.env.locals/\(∀ x c,X.env.cells.lookup x=some c->c≠b)/\∀ p∈X.pn++B_,p.1≠b)
  (keep:∀ b o,b≠X.env.locals->b∉X.fs->b∉ch->s.heap.get? b=some o->H b=none->h'.get? b=some o)
  (slot:∀ b o,b≠X.env.locals->b∈X.fs->b∉ch->s.heap.get? b=some o->H b=none->∃ sl,h'.get? b=some { o with slots:=sl }) (free:∀ b o,b∉ch->s.heap.get? b=some o->H b=none->H' b=none)
  (there:∀ b o,b∉ch->s.heap.get? b=some o->∃ o',h'.get? b=some o')
  (tups:∀ b xs,H b=some (.tup xs)->H' b=some (.tup xs)) (frzs:∀ b o u,H b=some (.frz o u)->H' b=some (.frz o u)) (tbls:∀ b ps,H b=some (.tbl ps)->∃ more,H' b=some (.tbl (ps++more)))
  (ns:∀ m,s.heap.Ns X.env.locals m->h'.Ns X.env.locals m) (hok:HOk X.prog X.w H' h') (hg:Bl g') :
  Inv X B_ σ H' { s with heap:=h',gens:=g',drawn:=d',toks:=t' }:=by
 have neL:∀ b o,X.s₀.heap.get? b=some o->b≠X.env.locals:=fun b o e=>MA (Nh (Ml e) I.ok.above)
 have neC:∀ b o,X.s₀.heap.get? b=some o->b∉X.ex->b∉ch:=fun b o e hx hb=>by
  rcases (E7 b hb).1 with z | z
  ·exact hx z
  ·exact absurd (Nh (Ml e) z) (Qv _)
 have cellK:∀ x c,X.env.cells.lookup x=some c->∀ v,s.heap.IsCell c v->h'.IsCell c v:=fun x c e v ⟨o,ho,hd⟩=>by
  have nch:c∉ch:=fun z=>(E7 c z).2.2.1 x c e rfl
  by_cases hc:c∈X.fs
  ·obtain⟨sl,q⟩:=slot c o (I.cne x c e) hc nch ho (I.freeC x c e)
   exact⟨_,q,hd⟩
  ·exact⟨o,keep c o (I.cne x c e) hc nch ho (I.freeC x c e),hd⟩
 refine⟨I.ok,I.os,hg,⟨fun b o e n hb hx=>?_,fun b o e n hb hx=>?_,fun b o e n hx=>?_,fun b o e hx=>?_,fun b xs e=>tups b xs (I.base.tups b xs e),fun b o xs e=>frzs b o xs (I.base.frzs b o xs e),fun b ps e=>?_⟩,?_,fun x c e=>?_,?_,fun x c e=>?_,fun p hp=>?_,hok,I.len⟩
 ·exact keep b o (neL b o e) hb (neC b o e hx) (I.base.keep b o e n hb hx) (I.base.free b o e n hx)
 ·obtain⟨sl,e1⟩:=I.base.slot b o e n hb hx
  obtain⟨sl',e2⟩:=slot b _ (neL b o e) hb (neC b o e hx) e1 (I.base.free b o e n hx)
  exact⟨sl',e2⟩
 ·obtain⟨o',e1⟩:=I.base.there b o e hx
  exact free b o' (neC b o e hx) e1 (I.base.free b o e n hx)
 ·obtain⟨o',e1⟩:=I.base.there b o e hx
  exact there b o' (neC b o e hx) e1
 ·obtain⟨m1,e1⟩:=I.base.tbls b ps e
  obtain⟨m2,e2⟩:=tbls b _ e1
  exact⟨m1++m2,by rw[e2,Array.append_assoc]⟩
 ·obtain⟨m,hn,hl⟩:=I.loc
  refine⟨m,ns m hn,fun i x v e1 e2 e3=>?_⟩
  obtain⟨u,r,l⟩:=hl i x v e1 e2 e3
  refine⟨u,r,?_⟩
  rcases l with l | ⟨k,c,e,z⟩
  ·exact .inl l
  ·exact .inr ⟨k,c,e,cellK x c e _ z⟩
 ·obtain⟨v,z⟩:=I.cell x c e
  exact⟨v,cellK x c e v z⟩
 ·obtain⟨m,⟨o,_,_,ho,_⟩,_⟩:=I.loc
  exact free _ o (fun z=>(E7 _ z).2.1 rfl) ho I.free
 ·obtain⟨v,o,ho,hd⟩:=I.cell x c e
  exact free c o (fun z=>(E7 c z).2.2.1 x c e rfl) ho (I.freeC x c e)
 ·obtain⟨e,n,ne,nf,d⟩:=I.pin p hp
  have nch:p.1∉ch:=fun z=>(E7 p.1 z).2.2.2 p hp rfl
  exact⟨keep p.1 p.2 ne nf nch e n,free p.1 p.2 nch e n,ne,nf,d⟩
theorem Inv.un (I:Inv X B_ σ H s) (u:Un X.fs [] H H' s.heap h') (hok:HOk X.prog X.w H' h'):Inv X B_ σ H' { s with heap:=h',toks:=t' }:=by
 obtain⟨m,⟨o,es,ep,ho,r⟩,_⟩:=id I.loc
 obtain⟨sl,hL⟩:=u.any ho I.free (by simp)
 exact I.step (g':=s.gens) (d':=s.drawn) (ch:=[]) (fun _ z=>nomatch z) (fun b o _ hb _ e n=>u.keep b o e n hb (by simp)) (fun b o _ hb _ e n=>u.slot b o e n hb (by simp)) (fun b o _ e n=>u.free b o e n (by simp)) (fun b o _ e=>u.there b o e (by simp)) u.tups u.frzs u.tbls (fun m' hm=>by
  obtain⟨o',es',ep',ho',r'⟩:=hm
  rw[ho] at ho';cases ho'
  exact⟨_,es',ep',hL,r'⟩) hok I.bare
theorem Inv.call (I:Inv X B_ σ H s) (u:Un (frs X.stack) ch H H' s.heap h') (hok:HOk X.prog X.w H' h') (hg:Bl g') (E7:∀ b∈ch,(b∈X.ex∨X.s₀.heap.objs.size<=b)/\b≠X.env.locals/\(∀ x c,X.env.cells.lookup x=some c->c≠b)/\∀ p∈X.pn++B_,p.1≠b):
  Inv X B_ σ H' { s with heap:=h',gens:=g',drawn:=d',toks:=t' }:=by
 obtain⟨m,⟨o,es,ep,ho,r⟩,_⟩:=id I.loc
 obtain⟨sl,hL⟩:=u.any ho I.free fun z=>(E7 _ z).2.1 rfl
 exact I.step (ch:=ch) E7 (fun b o hL hb hc e n=>u.keep b o e n (fun z=>(Mo.mp (I.stkSub b z)).elim hL hb) hc) (fun b o _ _ hc e n=>u.any e n hc) (fun b o hc e n=>u.free b o e n hc) (fun b o hc e=>u.there b o e hc) u.tups u.frzs u.tbls (fun m' hm=>by
  obtain⟨o',es',ep',ho',r'⟩:=hm
  rw[ho] at ho';cases ho'
  exact⟨_,es',ep',hL,r'⟩) hok hg
theorem Inv.turned (I:Inv X B_ σ H s) (k:∀ b o,b≠it->s.heap.get? b=some o->h'.get? b=some o) (hn:H it=none) (hL:it≠X.env.locals) (h1:it∈X.ex∨X.s₀.heap.objs.size<=it) (h2:∀ x c,X.env.cells.lookup x=some c->c≠it) (h3:∀ p∈X.pn++B_,p.1≠it):Inv X B_ σ H { s with heap:=h',toks:=t' }:=by
 have nit:∀ b u,H b=some u->b≠it:=fun b u e z=>by rw[z,hn] at e;cases e
 refine I.step (g':=s.gens) (d':=s.drawn) (ch:=[it]) (fun b hb=>?_) (fun b o _ _ hc e _=>k b o (fun z=>hc (by simp[z])) e) (fun b o _ _ hc e _=>⟨o.slots,k b o (fun z=>hc (by simp[z])) e⟩) (fun _ _ _ _ n=>n)
  (fun b o hc e=>⟨o,k b o (fun z=>hc (by simp[z])) e⟩) (fun _ _ e=>e) (fun _ _ _ e=>e) (fun b ps e=>⟨#[],by rw[e];simp⟩) (fun m hm=>?_) (fun b u e=>?_) I.bare
 ·have e:b=it:=by simpa using hb
  subst e
  exact⟨h1,hL,h2,h3⟩
 ·obtain⟨o,es,ep,ho,r⟩:=hm
  exact⟨o,es,ep,k _ o (MB hL) ho,r⟩
 ·refine(I.hok b u e).stay (fun c v hc q=>k c v ?_ q) (fun _ q=>q) fun _ _ q=>q
  rcases hc with z | z
  ·rw[z];exact nit b u e
  ·exact nit c _ z
theorem Inv.tok (I:Inv X B_ σ H s)(t:Nat):Inv X B_ σ H { s with toks:=t }:=I.un (h':=s.heap) (t':=t) Un.refl I.hok
theorem Inv.kept (I:Inv X B_ σ H s) (k:∀ b u,s.heap.get? b=some u->h'.get? b=some u):Inv X B_ σ H { s with heap:=h',toks:=t' }:=I.un (Un.kept k) (I.hok.kept k)
theorem Inv.laid (I:Inv X B_ σ H s) (k:∀ b u,s.heap.get? b=some u->h'.get? b=some u) (hp:s.heap.objs.size<=a) (new:ObjOk X.prog X.w (upd H a o) h' a o):
  Inv X B_ σ (upd H a o) { s with heap:=h',toks:=t' }:=I.un (Un.laid k hp (I.hok.fresh hp)) (I.hok.laid k hp new)
theorem Inv.write (I:Inv X B_ σ H s) (mu:Mut (H x)) (he:e=x∨H e=some (.own x)) (k:∀ b u,b≠e->s.heap.get? b=some u->h'.get? b=some u) (Gx:∃ u,h'.get? e=some u) (new:ObjOk X.prog X.w (upd H x o) h' x o):Inv X B_ σ (upd H x o) { s with heap:=h',toks:=t' }:=I.un (Un.write mu he k Gx) (I.hok.write mu he k Gx new)
theorem Inv.pins_of (I:Inv X B_ σ H s) (h:∀ p∈pins',s.heap.get? p.1=some p.2/\H p.1=none/\p.1≠X.env.locals/\p.1∉X.fs/\∀ v,p.2.data≠.cell v):Inv X pins' σ H s :=
 ⟨I.ok,I.os,I.bare,I.base,I.loc,I.cell,I.free,I.freeC,fun p hp=>(Nv.mp hp).elim (fun z=>I.pin p (Z' _ z)) (h p),I.hok,I.len⟩
theorem SI {N:List Str}(hN:N.Nodup){i j:Nat}{x:Str}(a:N[i]?=some x)(b:N[j]?=some x):i=j:=by
 obtain⟨h1,e1⟩:=MS.mp a
 obtain⟨h2,e2⟩:=MS.mp b
 exact(List.getElem_inj hN).mp (e1.trans e2.symm)
theorem Vj (I:Inv X B_ σ H s) (hN:X.N.Nodup) (hi:X.N[i]?=some x) (hx:Loc X.env.scope x) (r:RelV v u) (h:∀ s',Inv X B_ (σ.set i (some v)) H s'->(∃ a,QU a s.heap s'.heap/\(a=X.env.locals∨X.env.cells.lookup x=some a))->Q () s') (hf:X.fn x=true∨X.env.scope.names.lookup x=some .local:=by first | exact .inl rfl | exact .inr rfl | assumption):wpAny M A (storeName X.env x u) Q E s:=by
 obtain⟨m,hn,hl⟩:=id I.loc
 have FZ:(X.env.scope.kind == .class || (X.env.scope.kind == .module&&X.env.locals != X.env.globals))=false:=by rw[I.ok.kind];rfl
 have hiσ:i < σ.length:=by rw[I.len];exact(MS.mp hi).1
 have cne:=I.cne
 have tracked:∀{a:Ac}{h':Ap},(∃ o,s.heap.get? a=some o/\H a=none)->QU a s.heap h'->HOk X.prog X.w H h':=fun{a h'} ha hs b ob e=>by
  obtain⟨_,_,FA⟩:=ha
  refine(I.hok b ob e).stay (fun c w' hc q=>(hs.2 c ?_).trans q) (fun _ q=>q) fun _ _ q=>q
  rintro rfl
  rcases hc with rfl | hc
  ·rw[FA] at e;cases e
  ·rw[FA] at hc;cases hc
 rcases hx with hk | hk
 ·refine wpAny_storeName_local hk hn (fun h' hn' hs=>?_) FZ
  obtain⟨oL,_,_,JE,_⟩:=id hn
  refine h _ ⟨I.ok,I.os,I.bare,⟨fun b o e n hb hx=>?_,fun b o e n hb hx=>?_,I.base.free,fun b o e hx=>?_,I.base.tups,I.base.frzs,I.base.tbls⟩,⟨_,hn',fun j y v' e1 e2 e3=>?_⟩,fun y c e=>?_,I.free,I.freeC,fun p hp=>?_,tracked ⟨oL,JE,I.free⟩ hs,by simpa using I.len⟩ ⟨_,hs,.inl rfl⟩
  ·exact(hs.2 b (MA (Nh (Ml e) I.ok.above))).trans (I.base.keep b o e n hb hx)
  ·obtain⟨sl,e1⟩:=I.base.slot b o e n hb hx
   exact⟨sl,(hs.2 b (MA (Nh (Ml e) I.ok.above))).trans e1⟩
  ·obtain⟨o',e1⟩:=I.base.there b o e hx
   exact⟨o',(hs.2 b (MA (Nh (Ml e) I.ok.above))).trans e1⟩
  ·by_cases hj:j=i
   ·subst hj
    rw[hi] at e1;cases e1
    rw[Zf hiσ] at e2
    cases e2
    exact⟨u,r,.inl ⟨hk,by simp⟩⟩
   ·rw[Zh (MB hj)] at e2
    obtain⟨u',r',q⟩:=hl j y v' e1 e2 e3
    refine⟨u',r',?_⟩
    rcases q with ⟨k,e⟩ | ⟨k,c,e,z⟩
    ·refine .inl ⟨k,?_⟩
     have:y≠x:=fun e=>hj (SI hN e1 (e▸hi))
     simp[this,e]
    ·exact .inr ⟨k,c,e,z.sameBut hs (cne y c e)⟩
  ·obtain⟨w',z⟩:=I.cell y c e
   exact⟨w',z.sameBut hs (cne y c e)⟩
  ·obtain⟨e,n,ne,nf,d⟩:=I.pin p hp
   exact⟨(hs.2 p.1 ne).trans e,n,ne,nf,d⟩
 ·have Im:X.fn x=true:=by
   rcases hf with z | z
   ·exact z
   ·rw[z] at hk;cases hk
  obtain⟨c,hc⟩:=I.ok.has x (.inl hk)
  obtain⟨w',z⟩:=I.cell x c hc
  refine wpAny_storeName_cell I.ok.kind hk hc z (fun h' hc' hs=>?_)
  obtain⟨oc,JF,Io⟩:=id z
  refine h { s with heap:=h' } ⟨I.ok,I.os,I.bare,⟨fun b o e n hb hx=>?_,fun b o e n hb hx=>?_,I.base.free,fun b o e hx=>?_,I.base.tups,I.base.frzs,I.base.tbls⟩,⟨m,hn.sameBut hs (MB (cne x c hc)),fun j y v' e1 e2 e3=>?_⟩,fun y c' e=>?_,I.free,I.freeC,fun p hp=>?_,tracked ⟨oc,JF,I.freeC x c hc⟩ hs,by simpa using I.len⟩ ⟨c,hs,.inr hc⟩
  ·exact(hs.2 b (MA (Nh (Ml e) (I.ok.cab x c Im hc)))).trans (I.base.keep b o e n hb hx)
  ·obtain⟨sl,e1⟩:=I.base.slot b o e n hb hx
   exact⟨sl,(hs.2 b (MA (Nh (Ml e) (I.ok.cab x c Im hc)))).trans e1⟩
  ·obtain⟨o',e1⟩:=I.base.there b o e hx
   exact⟨o',(hs.2 b (MA (Nh (Ml e) (I.ok.cab x c Im hc)))).trans e1⟩
  ·by_cases hj:j=i
   ·subst hj
    rw[hi] at e1;cases e1
    rw[Zf hiσ] at e2
    cases e2
    exact⟨u,r,.inr ⟨.inl hk,c,hc,hc'⟩⟩
   ·rw[Zh (MB hj)] at e2
    obtain⟨u',r',q⟩:=hl j y v' e1 e2 e3
    refine⟨u',r',?_⟩
    rcases q with q | ⟨k,c',e,z'⟩
    ·exact .inl q
    ·refine .inr ⟨k,c',e,z'.sameBut hs ?_⟩
     rintro rfl
     exact hj (SI hN e1 (I.ok.inj _ _ _ e hc▸hi))
  ·by_cases JG:c'=c
   ·subst JG;exact⟨_,hc'⟩
   ·obtain⟨w2,z2⟩:=I.cell y c' e
    exact⟨w2,z2.sameBut hs JG⟩
  ·obtain⟨e,n,ne,nf,d⟩:=I.pin p hp
   refine⟨(hs.2 p.1 ?_).trans e,n,ne,nf,d⟩
   intro q
   rw[q,JF] at e
   have q':oc=p.2:=Option.some.inj e
   exact d w' (by rw[<- q'];exact Io)
theorem Vk (I:Inv X B_ σ H s) (hN:X.N.Nodup) (hi:X.N[i]?=some x) (hx:Loc X.env.scope x) (r:RelV v u) (h:∀ s',Inv X B_ (σ.set i (some v)) H s'->Q () s') (hf:X.fn x=true∨X.env.scope.names.lookup x=some .local:=by first | exact .inl rfl | exact .inr rfl | assumption):wpAny M A (storeName X.env x u) Q E s :=
 Vj I hN hi hx r (fun s' I' _=>h s' I') hf
theorem Inv.call' (I:Inv X B_ σ H s) (ho:s'.os=s.os) (u:Un (frs X.stack) ch H H' s.heap s'.heap) (hok:HOk X.prog X.w H' s'.heap) (hg:Bl s'.gens) (E7:∀ b∈ch,(b∈X.ex∨X.s₀.heap.objs.size<=b)/\b≠X.env.locals/\(∀ x c,X.env.cells.lookup x=some c->c≠b)/\∀ p∈X.pn++B_,p.1≠b):Inv X B_ σ H' s':=by
 obtain⟨h',g',d',t',o'⟩:=s'
 have e:o'=s.os:=ho
 subst e
 exact I.call (g':=g') (t':=t') (d':=d') u hok hg E7
end
abbrev XK:=Ad->Option Ac->Hp->Prop
noncomputable abbrev St:=List (Option V)
abbrev VK:=V->Hp->Prop
abbrev TE:=St->Hp->VK->Prop
abbrev TT:=St->Hp->(Bool->Hp->Prop)->Prop
abbrev TA:=St->Hp->(List V->Hp->Prop)->Prop
structure Ends where
 nx:St->Hp->Prop
 rt:VK
 bk:St->Hp->Prop:=fun _ _=>False
 ct:St->Hp->Prop:=fun _ _=>False
abbrev TS:=Ends->St->Hp->Prop
def EP (X:Cx)(B_:List (Ac×Obj))(σ:St)(Q:VK)(u:Ad)(s':Af):Prop:=∃ v H',Inv X B_ σ H' s'/\RelV v u/\Q v H'
def TP (X:Cx)(B_:List (Ac×Obj))(σ:St)(Q:Bool->Hp->Prop)(b:Bool)(s':Af):Prop:=∃ H',Inv X B_ σ H' s'/\Q b H'
def AP (X:Cx)(B_:List (Ac×Obj))(σ:St)(Q:List V->Hp->Prop)(us:List Ad)(s':Af):Prop:=∃ vs H',Inv X B_ σ H' s'/\Vals vs us/\Q vs H'
noncomputable def SP (X:Cx)(B_:List (Ac×Obj))(D:Ends)(f:Flow)(s':Af):Prop :=
 match f with
 | .next=>∃ σ' H',Inv X B_ σ' H' s'/\D.nx σ' H'
 | .brk=>∃ σ' H',Inv X B_ σ' H' s'/\D.bk σ' H'
 | .cont=>∃ σ' H',Inv X B_ σ' H' s'/\D.ct σ' H'
 | .ret u=>∃ v σ' H',Inv X B_ σ' H' s'/\RelV v u/\D.rt v H'
noncomputable def PE (X:Cx)(e:Ax)(t:TE):Prop :=
 ∀(B_:List (Ac×Obj)) (s:Af) (σ:St) (H:Hp) (Q:VK),Inv X B_ σ H s->t σ H Q->wpAny (Aj X.prog X.w) X.A (As e X.env) (EP X B_ σ Q) X.xe s
noncomputable def PT (X:Cx)(e:Ax)(t:TT):Prop :=
 ∀(B_:List (Ac×Obj)) (s:Af) (σ:St) (H:Hp) (Q:Bool->Hp->Prop),Inv X B_ σ H s->t σ H Q->wpAny (Aj X.prog X.w) X.A (isTrue e X.env (As e X.env)) (TP X B_ σ Q) X.xe s
noncomputable def PW (X:Cx)(e:Ax)(t:TT):Prop :=
 ∀(whole:Sem Ad) (B_:List (Ac×Obj)) (s:Af) (σ:St) (H:Hp) (Q:Bool->Hp->Prop),Inv X B_ σ H s->t σ H Q->wpAny (Aj X.prog X.w) X.A (isTrue e X.env whole) (TP X B_ σ Q) X.xe s
theorem PW.pt (h:PW X e t):PT X e t:=h _
noncomputable def PA (X:Cx)(es:List Ax)(t:TA):Prop :=
 ∀(pos:Pos) (B_:List (Ac×Obj)) (s:Af) (σ:St) (H:Hp) (Q:List V->Hp->Prop),Inv X B_ σ H s->t σ H Q->wpAny (Aj X.prog X.w) X.A (BC (AA pos (Ah es X.env))) (AP X B_ σ Q) X.xe s
noncomputable def PS (X:Cx)(st:Av)(t:TS):Prop :=
 ∀(B_:List (Ac×Obj)) (s:Af) (σ:St) (H:Hp) (D:Ends),Inv X B_ σ H s->t D σ H->wpAny (Aj X.prog X.w) X.A (exec st X.env) (SP X B_ D) X.xe s
noncomputable def PSs (X:Cx)(st:List Av)(t:TS):Prop :=
 ∀(B_:List (Ac×Obj)) (s:Af) (σ:St) (H:Hp) (D:Ends),Inv X B_ σ H s->t D σ H->wpAny (Aj X.prog X.w) X.A (execs st X.env) (SP X B_ D) X.xe s
theorem thn (h:wpAny M A t Q E s) (hQ:∀ a s,Q a s->Q' a s):wpAny M A t Q' E s:=An h hQ fun _ _ x=>x
section
variable {X:Cx}
theorem bin {a b:Ax}{ta tb:TE}(ha:PE X a ta)(hb:PE X b tb){B_:List (Ac×Obj)}{s:Af}{σ:St}{H:Hp}{R:V->V->Hp->Prop}(I:Inv X B_ σ H s)(h:ta σ H fun x H1=>tb σ H1 fun y H2=>R x y H2)
  {α:Type}{Q:α->Af->Prop}{f:Ad->Ad->Sem α}
  (hf:∀ v u s2 x y H2,Inv X B_ σ H2 s2->RelV x v->RelV y u->R x y H2->wpAny (Aj X.prog X.w) X.A (f v u) Q X.xe s2) :
  wpAny (Aj X.prog X.w) X.A (As a X.env) (fun v s₁=>wpAny (Aj X.prog X.w) X.A (As b X.env) (fun u s₂=>wpAny (Aj X.prog X.w) X.A (f v u) Q X.xe s₂) X.xe s₁) X.xe s:=by
 refine thn (ha B_ s σ H _ I h) fun v s1 ⟨x,H1,I1,r1,q1⟩=>?_
 refine thn (hb B_ s1 σ H1 _ I1 q1) fun u s2 ⟨y,H2,I2,r2,q2⟩=>?_
 exact hf v u s2 x y H2 I2 r1 r2 q2
def tVar (i:Nat):TE:=fun σ H Q=>∃ v,σ[i]?=some (some v)/\Q v H
def tC (v:V):TE:=fun _ H Q=>Q v H
theorem pe_var (hN:X.N[i]?=some x) (hv:Vis X.env.scope x) (hd:(x == ("__debug__":Str))=false:=by decide) (Ez:(x == ("__classdict__":Str))=false:=by decide):PE X (.Name x pos) (tVar i):=by
 intro B_ s σ H Q I h
 obtain⟨v,e,h⟩:=h
 obtain⟨m,hn,hl⟩:=I.loc
 obtain⟨u,r,l⟩:=hl i x v hN e hv
 have fin:EP X B_ σ Q u s:=⟨v,H,I,r,h⟩
 rcases l with ⟨hk,hm⟩ | ⟨hk,c,hc,FB⟩
 ·exact wpAny_Name (wpAny_loadName_local I.ok.kind hk hn hm fin) hd
 ·rcases hk with hk | hk
  ·exact wpAny_Name (wpAny_loadName_cell I.ok.kind hk hc FB fin) hd
  ·exact wpAny_Name (wpAny_loadName_free I.ok.kind hk hc FB fin Ez) hd
theorem LV :PE X (.Constant (.int i) j pos) (tC (.int i)):=fun _ _ _ H _ I h=>wpAny_Constant_int ⟨.int i,H,I.tok _,⟨_,rfl⟩,h⟩
theorem Nx :PE X (.Constant (.bool b) j pos) (tC (.bl b)):=fun _ _ _ H _ I h=>Constant_bool ⟨.bl b,H,I,rfl,h⟩
theorem Ny :PE X (.Constant .none j pos) (tC .non):=fun _ _ _ H _ I h=>Constant_none ⟨.non,H,I,rfl,h⟩
theorem LU :PE X (.Constant (.str x) j pos) (tC (.str x)):=fun _ _ _ H _ I h=>Calls.Constant_str ⟨.str x,H,I.tok _,⟨_,rfl⟩,h⟩
def Gl (X:Cx)(x:Str):Prop:=X.env.kindOf x=some .globalImplicit
theorem PN (I:Inv X B_ σ H s) (hg:Gl X x) (hm:X.mg x=some u) (h:Q u s) (hd:(x == ("__debug__":Str))=false:=by decide):wpAny (Aj X.prog X.w) X.A (As (.Name x pos) X.env) Q E s :=
 jh I.ok.kind hg (Calls.loadGlobal_global (by rw[I.ok.glob];exact I.mod.glob.keeps I.bk) hm h) hd
theorem QC (I:Inv X B_ σ H s) (hg:Gl X x) (hm:X.mg x=none) (hv:AL x=some u) (h:Q u s) (hn:x≠"__name__":=by decide) (hd:(x == ("__debug__":Str))=false:=by decide):wpAny (Aj X.prog X.w) X.A (As (.Name x pos) X.env) Q E s:=by
 obtain⟨mb,h1,h2⟩:=I.mod.blt
 exact jh I.ok.kind hg (Calls.loadGlobal_builtin (by rw[I.ok.glob];exact I.mod.glob.keeps I.bk) hm (by rw[I.ok.blt];exact h1.keeps I.bk) ((h2 x hn).trans hv) h) hd
theorem OD (hg:Gl X x) (hm:X.mg x=some u) (r:RelV v u) (hd:(x == ("__debug__":Str))=false:=by decide):PE X (.Name x pos) (tC v) :=
 fun _ _ _ H _ I h=>PN I hg hm ⟨v,H,I,r,h⟩ hd
theorem bi (hg:Gl X x) (hm:X.mg x=none) (hv:AL x=some u) (r:RelV v u) (hn:x≠"__name__":=by decide) (hd:(x == ("__debug__":Str))=false:=by decide):PE X (.Name x pos) (tC v) :=
 fun _ _ _ H _ I h=>QC I hg hm hv ⟨v,H,I,r,h⟩ hn hd
variable {a b:Ax}{ta tb:TE}{pos:Pos}
noncomputable def PC (X:Cx)(op:CmpOp)(a b:Ax)(t:TE):Prop :=
 ∀(B_:List (Ac×Obj)) (s:Af) (σ:St) (H:Hp) (Q:VK),Inv X B_ σ H s->t σ H Q ->
  wpAny (Aj X.prog X.w) X.A (As a X.env) (fun v s₁=>wpAny (Aj X.prog X.w) X.A (As b X.env) (fun u s₂=>wpAny (Aj X.prog X.w) X.A (Ar op v u) (EP X B_ σ Q) X.xe s₂) X.xe s₁) X.xe s
def tB (t:TE):TT:=fun σ H Q=>t σ H fun x H1=>∃ c,x=.bl c/\Q c H1
theorem PP (h:PC X op a b t) (h1:Be op b=false:=by first | exact nobehind _ (by decide) (by decide) | rfl):PT X (.Compare a [op] [b] pos) (tB t):=by
 intro B_ s σ H Q I hw
 refine BH (thn (h B_ s σ H _ I hw) fun v s1 h1=>thn h1 fun u s2 h2=>thn h2 fun c s3 ⟨x,H1,I1,r1,q1⟩=>?_) h1
 obtain⟨d,rfl,q⟩:=q1
 cases r1
 exact AB ⟨H1,I1,q⟩
variable {tA tB':TT}{rest:List Ax}
def tAnd (t u:TT):TT:=fun σ H Q=>t σ H fun c H1=>if c=true then u σ H1 Q else Q false H1
def tOr (t u:TT):TT:=fun σ H Q=>t σ H fun c H1=>if c=true then Q true H1 else u σ H1 Q
def tNot (t:TT):TT:=fun σ H Q=>t σ H fun c H1=>Q (!c) H1
theorem PQ (ha:PT X a tA):PW X (.BoolOp .And [a] pos) tA:=by
 intro wh B_ s σ H Q I h
 refine isTrue_and (thn (ha B_ s σ H Q I h) fun c s1 e=>?_)
 cases c with
 | true=>exact isTrue_and_nil e
 | false=>exact e
theorem QD (ha:PT X a tA):PW X (.BoolOp .Or [a] pos) tA:=by
 intro wh B_ s σ H Q I h
 refine isTrue_or (thn (ha B_ s σ H Q I h) fun c s1 e=>?_)
 cases c with
 | false=>exact isTrue_or_nil e
 | true=>exact e
theorem Pt (ha:PT X a tA)(hb:PW X (.BoolOp .And (b::rest) pos) tB'):PW X (.BoolOp .And (a::b::rest) pos) (tAnd tA tB'):=by
 intro wh B_ s σ H Q I h
 refine isTrue_and (thn (ha B_ s σ H _ I h) fun c s1 ⟨H1,I1,q1⟩=>?_)
 cases c with
 | true=>exact hb wh B_ s1 σ H1 Q I1 q1
 | false=>exact⟨H1,I1,q1⟩
theorem Pu (ha:PT X a tA)(hb:PW X (.BoolOp .Or (b::rest) pos) tB'):PW X (.BoolOp .Or (a::b::rest) pos) (tOr tA tB'):=by
 intro wh B_ s σ H Q I h
 refine isTrue_or (thn (ha B_ s σ H _ I h) fun c s1 ⟨H1,I1,q1⟩=>?_)
 cases c with
 | true=>exact⟨H1,I1,q1⟩
 | false=>exact hb wh B_ s1 σ H1 Q I1 q1
theorem Oq (ha:PT X a tA):PT X (.UnaryOp .Not a pos) (tNot tA):=by
 intro B_ s σ H Q I h
 exact isTrue_not (ha B_ s σ H (fun c H1=>Q (!c) H1) I h)
def SJ (ta tb:TE):TE:=fun σ H Q=>ta σ H fun x H1=>∃ c,x=.bl c/\if c=true then tb σ H1 Q else Q (.bl false) H1
def tOrV (ta tb:TE):TE:=fun σ H Q=>ta σ H fun x H1=>∃ c,x=.bl c/\if c=true then Q (.bl true) H1 else tb σ H1 Q
theorem NC (h:PE X a t):PE X (.BoolOp op [a] pos) t:=fun B_ s σ H Q I hw=>BoolOp_one (h B_ s σ H Q I hw)
theorem ND (ha:PE X a ta)(hb:PE X (.BoolOp .And (b::rest) pos) tb):PE X (.BoolOp .And (a::b::rest) pos) (SJ ta tb):=by
 intro B_ s σ H Q I h
 refine BoolOp_and (thn (ha B_ s σ H _ I h) fun v s1 ⟨x,H1,I1,r1,q1⟩=>?_)
 obtain⟨c,rfl,q1⟩:=q1
 cases r1
 refine AB ?_
 cases c with
 | true=>exact hb B_ s1 σ H1 Q I1 q1
 | false=>exact⟨.bl false,H1,I1,rfl,q1⟩
theorem SK (ha:PE X a ta)(hb:PE X (.BoolOp .Or (b::rest) pos) tb):PE X (.BoolOp .Or (a::b::rest) pos) (tOrV ta tb):=by
 intro B_ s σ H Q I h
 refine BoolOp_or (thn (ha B_ s σ H _ I h) fun v s1 ⟨x,H1,I1,r1,q1⟩=>?_)
 obtain⟨c,rfl,q1⟩:=q1
 cases r1
 refine AB ?_
 cases c with
 | false=>exact hb B_ s1 σ H1 Q I1 q1
 | true=>exact⟨.bl true,H1,I1,rfl,q1⟩
def tIf (t:TT)(ta tb:TE):TE:=fun σ H Q=>t σ H fun c H1=>if c=true then ta σ H1 Q else tb σ H1 Q
theorem UM (hc:PT X c tA) (ha:PE X a ta) (hb:PE X b tb):PE X (.IfExp c a b pos) (tIf tA ta tb):=by
 intro B_ s σ H Q I h
 refine wpAny_IfExp (thn (hc B_ s σ H _ I h) fun d s1 ⟨H1,I1,q1⟩=>?_)
 cases d with
 | true=>exact ha B_ s1 σ H1 Q I1 q1
 | false=>exact hb B_ s1 σ H1 Q I1 q1
end
noncomputable def SqL (K:L3)(H:Hp)(a:Ac)(xs:List V):Prop :=
 Rd H a (.lst xs) ∨
  ∃(o:Obj) (its:Array Ad) (n:Nat),K.lookup a=some o/\o.cls=.type "list"/\o.dict=none/\o.data=.seq its n/\its.size<=Ae/\Vals xs its.toList
noncomputable def SqT (K:L3)(H:Hp)(a:Ac)(xs:List V):Prop :=
 Rd H a (.tup xs) ∨
  ∃(o:Obj) (its:Array Ad) (n:Nat),K.lookup a=some o/\o.cls=.type "tuple"/\o.data=.seq its n/\its.size<=Ae/\Vals xs its.toList
noncomputable def absV:Ad->Option V
 | .none=>some .non
 | .bool b=>some (.bl b)
 | .int i _=>some (.int i)
 | .str x _=>some (.str x)
 | .bytes b _=>some (.byt b)
 | .float b _=>some (.flt b)
 | .ref a=>some (.ref a)
 | .type n=>some (.ty n)
 | _=>none
theorem RelV.abs (r:RelV x u):absV u=some x:=by
 cases x with
 | non=>cases r;rfl
 | bl _=>cases r;rfl
 | int _=>obtain⟨t,rfl⟩:=r;rfl
 | str _=>obtain⟨t,rfl⟩:=r;rfl
 | byt _=>obtain⟨t,rfl⟩:=r;rfl
 | flt _=>obtain⟨t,rfl⟩:=r;rfl
 | ref _=>cases r;rfl
 | ty _=>cases r;rfl
theorem RelV.inj (r:RelV x u) (q:RelV y u):x=y:=Option.some.inj (r.abs.symm.trans q.abs)
theorem Vals.inj:∀{xs ys:List V}{us:List Ad},Vals xs us->Vals ys us->xs=ys
 | _,_,_,.nil,.nil=>rfl
 | _,_,_,.cons r t,.cons r' t'=>by rw[r.inj r',Vals.inj t t']
section
variable {X:Cx}{B_:List (Ac×Obj)}{σ:St}{H:Hp}{s:Af}{a:Ac}{xs ys:List V}
theorem SqL.of {K:L3}(h:H a=some (.lst xs)):SqL K H a xs:=.inl (.inl h)
theorem SqT.of {K:L3}(h:H a=some (.tup xs)):SqT K H a xs:=.inl (.inl h)
theorem Inv.list (I:Inv X B_ σ H s)(h:SqL X.K H a xs):∃ its:List Ad,Vals xs its/\PlainL s.heap a its.toArray/\xs.length<=Ae:=by
 rcases h with h | ⟨o,its,n,hk,hc,hd,hs,hz,r⟩
 ·obtain⟨z,its,n,r,e⟩:=h.ok I.hok
  exact⟨its,r,⟨_,n,e,rfl,rfl,rfl⟩,z⟩
 ·refine⟨its.toList,r,⟨o,n,I.kIn a o hk,hc,hd,by simpa using hs⟩,?_⟩
  have e:=r.length
  simp only[aS] at e
  omega
theorem Inv.tuple (I:Inv X B_ σ H s)(h:SqT X.K H a xs):∃ its:List Ad,Vals xs its/\IsTup s.heap a its.toArray/\xs.length<=Ae:=by
 rcases h with h | ⟨o,its,n,hk,hc,hs,hz,r⟩
 ·obtain⟨z,its,r,p⟩:=h.ok I.hok
  exact⟨its,r,p.1,z⟩
 ·refine⟨its.toList,r,⟨o,I.kIn a o hk,hc,n,by simpa using hs⟩,?_⟩
  have e:=r.length
  simp only[aS] at e
  omega
theorem Inv.list_inj (I:Inv X B_ σ H s)(h:SqL X.K H a xs)(h':SqL X.K H a ys):xs=ys:=by
 obtain⟨its,r,⟨o,n,e,_,_,d⟩,_⟩:=I.list h
 obtain⟨its',r',⟨o',n',e',_,_,d'⟩,_⟩:=I.list h'
 rw[e] at e';cases e'
 rw[d] at d'
 injection d' with d1 _
 have:its=its':=by simpa using congrArg UL d1
 subst this
 exact r.inj r'
theorem Inv.tuple_inj (I:Inv X B_ σ H s)(h:SqT X.K H a xs)(h':SqT X.K H a ys):xs=ys:=by
 obtain⟨its,r,⟨o,e,_,n,d⟩,_⟩:=I.tuple h
 obtain⟨its',r',⟨o',e',_,n',d'⟩,_⟩:=I.tuple h'
 rw[e] at e';cases e'
 rw[d] at d'
 injection d' with d1 _
 have:its=its':=by simpa using congrArg UL d1
 subst this
 exact r.inj r'
end
noncomputable abbrev Cx.wish (X:Cx)(E:Ad->Af->Prop):Cx:={ X with xe:=E }
noncomputable abbrev Cx.nox (X:Cx):Cx:=X.wish fun _ _=>False
theorem Cx.Ok.wish {X:Cx}(ok:X.Ok)(E:Ad->Af->Prop):(X.wish E).Ok :=
 ⟨ok.mod,ok.kind,ok.glob,ok.blt,ok.above,ok.inj,ok.has,ok.cab,ok.hd,ok.frames,ok.stk,ok.exf,ok.bs,ok.bsz,ok.noex,ok.exfs,ok.funs,ok.frf⟩
theorem Cx.Ok.unwish {X:Cx}{E:Ad->Af->Prop}(ok:(X.wish E).Ok):X.Ok :=
 ⟨ok.mod,ok.kind,ok.glob,ok.blt,ok.above,ok.inj,ok.has,ok.cab,ok.hd,ok.frames,ok.stk,ok.exf,ok.bs,ok.bsz,ok.noex,ok.exfs,ok.funs,ok.frf⟩
section
variable {X:Cx}{B_:List (Ac×Obj)}{σ:St}{H:Hp}{s:Af}{E:Ad->Af->Prop}
theorem Inv.wish (I:Inv X B_ σ H s)(E:Ad->Af->Prop):Inv (X.wish E) B_ σ H s:=⟨I.ok.wish E,I.os,I.bare,I.base,I.loc,I.cell,I.free,I.freeC,I.pin,I.hok,I.len⟩
theorem Inv.unwish (I:Inv (X.wish E) B_ σ H s):Inv X B_ σ H s:=⟨I.ok.unwish,I.os,I.bare,I.base,I.loc,I.cell,I.free,I.freeC,I.pin,I.hok,I.len⟩
theorem SP.unwish (h:SP (X.wish E) B_ D f s'):SP X B_ D f s':=by
 cases f with
 | next=>obtain⟨σ',H',I,q⟩:=h;exact⟨σ',H',I.unwish,q⟩
 | brk=>obtain⟨σ',H',I,q⟩:=h;exact⟨σ',H',I.unwish,q⟩
 | cont=>obtain⟨σ',H',I,q⟩:=h;exact⟨σ',H',I.unwish,q⟩
 | ret u=>obtain⟨v,σ',H',I,r,q⟩:=h;exact⟨v,σ',H',I.unwish,r,q⟩
theorem PSs.nox {st:List Av}{t:TS}(h:PSs X.nox st t):PSs X st t:=fun B_ s σ H D I hw =>
 An (h B_ s σ H D (I.wish _) hw) (fun _ _ q=>q.unwish) fun _ _ z=>Oi z
end
section
variable {X:Cx}{st:Av}{rest:List Av}{t u:TS}{e:Ax}{te:TE}{pos:Pos}
def tNext:TS:=fun D σ H=>D.nx σ H
def tSeq (t u:TS):TS:=fun D σ H=>t { D with nx:=u D } σ H
theorem Mh:PSs X [] tNext:=fun _ _ σ H _ I h=>A0 ⟨σ,H,I,h⟩
theorem LZ (h1:PS X st t)(h2:PSs X rest u):PSs X (st::rest) (tSeq t u):=by
 intro B_ s σ H D I h
 refine wpAny_execs_cons (thn (h1 B_ s σ H { D with nx:=u D } I h) fun f s1 q=>?_)
 cases f with
 | next =>
  obtain⟨σ',H',I',q⟩:=q
  exact h2 B_ s1 σ' H' D I' q
 | ret v=>exact q
 | brk=>exact q
 | cont=>exact q
theorem LY (h1:PS X st t):PSs X [st] t:=by
 intro B_ s σ H D I h
 refine wpAny_execs_cons (thn (h1 B_ s σ H D I h) fun f s1 q=>?_)
 cases f with
 | next=>exact A0 q
 | ret v=>exact q
 | brk=>exact q
 | cont=>exact q
theorem Inv.quiet (I:Inv X B_ σ H s):interactive X.env=false:=by simp[interactive,I.ok.kind]
def tDrop (te:TE):TS:=fun D σ H=>te σ H fun _ H1=>D.nx σ H1
theorem Na (he:PE X e te)(hs:Bo e none pos.line X.env=pure false:=by rfl):PS X (.Expr e pos) (tDrop te):=by
 intro B_ s σ H D I h
 exact wpAny_Expr_any (thn (he B_ s σ H _ I h) fun v s1 ⟨x,H1,I1,r1,q1⟩=>⟨σ,H1,I1,q1⟩) I.quiet hs
def tRet (te:TE):TS:=fun D σ H=>te σ H D.rt
theorem L6 (he:PE X e te):PS X (.Return (some e) pos) (tRet te):=by
 intro B_ s σ H D I h
 exact wpAny_Return_some (thn (he B_ s σ H _ I h) fun v s1 ⟨x,H1,I1,r1,q1⟩=>⟨x,σ,H1,I1,r1,q1⟩)
def tIfS (c:TT)(t u:TS):TS:=fun D σ H=>c σ H fun b H1=>if b=true then t D σ H1 else u D σ H1
theorem Ma (hc:PT X c tc) (ha:PSs X a t) (hb:PSs X b u):PS X (.If c a b pos) (tIfS tc t u):=by
 intro B_ s σ H D I h
 refine wpAny_If (thn (hc B_ s σ H _ I h) fun d s1 ⟨H1,I1,q1⟩=>?_)
 cases d with
 | true=>exact ha B_ s1 σ H1 D I1 q1
 | false=>exact hb B_ s1 σ H1 D I1 q1
def tNever:TS:=fun _ _ _=>False
theorem bj:PS X st tNever:=fun _ _ _ _ _ _ h=>h.elim
end
abbrev TG:=V->St->Hp->(St->Hp->Prop)->Prop
abbrev TGs:=List V->St->Hp->(St->Hp->Prop)->Prop
noncomputable def PG (X:Cx)(target:Ax)(t:TG):Prop :=
 ∀(B_:List (Ac×Obj)) (s:Af) (σ:St) (H:Hp) (v:V) (u:Ad) (Q:St->Hp->Prop),Inv X B_ σ H s->RelV v u->t v σ H Q ->
  wpAny (Aj X.prog X.w) X.A (assign target X.env u) (fun _ s'=>∃ σ' H',Inv X B_ σ' H' s'/\Q σ' H') X.xe s
noncomputable def PGs (X:Cx)(ts:List Ax)(t:TGs):Prop :=
 ∀(B_:List (Ac×Obj)) (s:Af) (σ:St) (H:Hp) (vs:List V) (us:List Ad) (Q:St->Hp->Prop),Inv X B_ σ H s->Vals vs us->t vs σ H Q ->
  wpAny (Aj X.prog X.w) X.A (assignInOrder ((A5 ts X.env).map (·.2)) us) (fun _ s'=>∃ σ' H',Inv X B_ σ' H' s'/\Q σ' H') X.xe s
abbrev TSet:=V->V->V->Hp->(Hp->Prop)->Prop
noncomputable def PSet (X:Cx)(t:TSet):Prop :=
 ∀(B_:List (Ac×Obj)) (s:Af) (σ:St) (H:Hp) (o i v:V) (ov iv u:Ad) (Q:Hp->Prop),Inv X B_ σ H s->RelV o ov->RelV i iv->RelV v u->t o i v H Q ->
  wpAny (Aj X.prog X.w) X.A (setItem ov iv u) (fun _ s'=>∃ H',Inv X B_ σ H' s'/\Q H') X.xe s
section
variable {X:Cx}{pos:Pos}
def OS (i:Nat):TG:=fun v σ H Q=>Q (σ.set i (some v)) H
theorem NZ (hN:X.N.Nodup) (hi:X.N[i]?=some x) (hx:Loc X.env.scope x) (hf:X.fn x=true∨X.env.scope.names.lookup x=some .local:=by first | exact .inl rfl | exact .inr rfl | assumption):PG X (.Name x pos) (OS i):=by
 intro B_ s σ H v u Q I r h
 exact wpAny_assign_Name (Vk I hN hi hx r (fun s' I'=>⟨_,H,I',h⟩) hf)
def gNil:TGs:=fun vs σ H Q=>vs=[]/\Q σ H
def gCons (t:TG)(u:TGs):TGs:=fun vs σ H Q=>∃ v r,vs=v::r/\t v σ H fun σ' H'=>u r σ' H' Q
theorem OT:PGs X [] gNil:=by
 intro B_ s σ H vs us Q I r h
 obtain⟨e,h⟩:=h
 subst e
 cases r
 exact assignInOrder_nil ⟨σ,H,I,h⟩
theorem M8 (h1:PG X e t) (h2:PGs X es u) (hs:(A5 (e::es) X.env).map (·.2)=assign e X.env::(A5 es X.env).map (·.2):=by rfl):PGs X (e::es) (gCons t u):=by
 intro B_ s σ H vs us Q I r h
 obtain⟨v,vr,e1,h⟩:=h
 subst e1
 cases r with
 | cons r rr =>
  rw[hs]
  refine assignInOrder_cons (thn (h1 B_ s σ H _ _ _ I r h) fun _ s1 ⟨σ1,H1,I1,q1⟩=>?_)
  exact h2 B_ s1 σ1 H1 _ _ Q I1 rr q1
noncomputable def PrX (a:Ac)(xs:List V):HO:=.ext fun h=>xs.length<=Ae/\∃ its:List Ad,Vals xs its/\IsTup h a its.toArray
def gTup (K:L3)(n:Nat)(t:TGs):TG:=fun v σ H Q=>∃ a xs,v=.ref a/\(SqT K H a xs∨H a=some (PrX a xs))/\xs.length=n/\t xs σ H Q
theorem Pw (hc:X.calm=true) (h:PGs X es t) (hn:(A5 es X.env).length=n:=by rfl) (C5:(A5 es X.env).findIdx? (·.1)=none:=by rfl):PG X (.Tuple es k pos) (gTup X.K n t):=by
 intro B_ s σ H v u Q I r hw
 obtain⟨a,xs,e1,hq,hl,hw⟩:=hw
 subst e1
 cases r
 obtain⟨its,rv,ht,hz⟩:∃ its:List Ad,Vals xs its/\IsTup s.heap a its.toArray/\xs.length<=Ae:=hq.elim (fun q=>I.tuple q) fun q=>by
  obtain⟨⟨z,its,r,p⟩,_⟩:=(show ObjOk X.prog X.w H s.heap a (PrX a xs) from I.hok a _ q)
  exact⟨its,r,p,z⟩
 refine assign_Tuple_tuple (I.ok.hd hc) ht (by simp[hn,<- hl,rv.length]) C5 fun h' hx=>?_
 have I1:Inv X B_ σ H { s with heap:=h' }:=I.kept (t':=s.toks) fun b o e=>hx b o (MA (Ml e)) e
 exact h B_ _ σ H xs _ Q I1 (by simpa using rv) hw
def gSub (to ti:TE)(t:TSet):TG:=fun v σ H Q=>to σ H fun o H1=>ti σ H1 fun i H2=>t o i v H2 fun H3=>Q σ H3
theorem OU (ho:PE X o to) (hi:PE X i ti) (hs:PSet X t) (ha:∀ v,assign (.Subscript o i pos) X.env v=(do
   let ov <- Bf [v] (As o X.env)
   let iv <- Bf [v,ov] (As i X.env)
   Bm pos
   Bf [v,ov,iv] (setItem ov iv v)
   release [v,ov,iv] []):=by intro _;rfl):PG X (.Subscript o i pos) (gSub to ti t):=by
 intro B_ s σ H v u Q I r h
 rw[ha]
 refine Aa (AN (thn (ho B_ s σ H _ I h) fun ov s1 ⟨x,H1,I1,r1,q1⟩=>?_))
 refine Aa (AN (thn (hi B_ s1 σ H1 _ I1 q1) fun iv s2 ⟨y,H2,I2,r2,q2⟩=>?_))
 refine Aa (AV (Aa (AN (thn (hs B_ s2 σ H2 x y v ov iv u _ I2 r1 r2 r q2) fun _ s3 ⟨H3,I3,q3⟩=>?_))))
 exact wpAny_release ⟨σ,H3,I3,q3⟩
def tAsg (te:TE)(g:TG):TS:=fun D σ H=>te σ H fun x H1=>g x σ H1 D.nx
theorem OV (he:PE X e te) (hg:PG X tg g) (hs:swapsWithSole [tg] e pos.line X.env=pure false:=by rfl) (hw:swappedStores [tg] e X.env=pure none:=by rfl) (h1:(A5 [tg] X.env).map (·.2)=[assign tg X.env]:=by rfl):PS X (.Assign [tg] e pos) (tAsg te g):=by
 intro B_ s σ H D I h
 refine wpAny_Assign_stores (thn (he B_ s σ H _ I h) fun v s1 ⟨x,H1,I1,r1,q1⟩=>?_) hs hw
 rw[h1]
 exact thn (hg B_ s1 σ H1 x v _ I1 r1 q1) fun _ s2 q=>q
theorem Vl (hN:X.N.Nodup) (hi:X.N[i]?=some x) (hx:Loc X.env.scope x) (he:PE X e te) (hs:Bo e (some (.Name x pos')) pos.line X.env=pure false:=by rfl) (hf:X.fn x=true∨X.env.scope.names.lookup x=some .local:=by first | exact .inl rfl | exact .inr rfl | assumption):
  PS X (.Assign [.Name x pos'] e pos) (tAsg te (OS i)):=by
 intro B_ s σ H D I h
 refine wpAny_Assign_Name (thn (he B_ s σ H _ I h) fun v s1 ⟨y,H1,I1,r1,q1⟩=>?_) hs
 exact Vk I1 hN hi hx r1 (fun s2 I2=>⟨_,H1,I2,q1⟩) hf
def Vm (c:TT)(tb:TS):TS:=fun D σ H=>∃ W:Nat->St->Hp->Prop,(∃ m,W m σ H)/\∀ m σ H,W m σ H ->
 c σ H fun b H1=>if b=true then ∃ N:St->Hp->Prop,(∀ σ' H',N σ' H'->∃ m',m' < m/\W m' σ' H')/\tb { D with nx:=N,ct:=N,bk:=D.nx } σ H1 else D.nx σ H1
theorem bm (hp:PassesOwn (Aj X.prog X.w) X.A X.env X.xe) (hc:PT X c tc) (hb:PSs X body tb):PS X (.While c body [] pos) (Vm tc tb):=by
 intro B_ s σ H D I h
 obtain⟨W,⟨m0,w0⟩,turn⟩:=h
 refine wpAny_While (codeAny_whileLoop (fun n s'=>∃ σ' H',Inv X B_ σ' H' s'/\W n σ' H') ?_ m0 ⟨σ,H,I,w0⟩)
 rintro n s1 ⟨σ1,H1,I1,w1⟩
 refine AR hp (thn (hc B_ s1 σ1 H1 _ I1 (turn n σ1 H1 w1)) fun b s2 ⟨H2,I2,q2⟩=>?_)
 cases b with
 | true =>
  obtain⟨N,hN,q2⟩:=q2
  rw[B9 rfl]
  refine AR hp (thn (hb B_ s2 σ1 H2 _ I2 q2) fun f s3 q3=>?_)
  cases f with
  | next =>
   obtain⟨σ3,H3,I3,n3⟩:=q3
   obtain⟨m',hm,w3⟩:=hN σ3 H3 n3
   exact⟨m',hm,σ3,H3,I3,w3⟩
  | cont =>
   obtain⟨σ3,H3,I3,n3⟩:=q3
   obtain⟨m',hm,w3⟩:=hN σ3 H3 n3
   exact⟨m',hm,σ3,H3,I3,w3⟩
  | brk=>exact q3
  | ret v=>exact q3
 | false =>
  rw[B8 Mi]
  exact A0 ⟨σ1,H2,I2,q2⟩
end
structure It where
 go:Nat->Hp->Prop
 yld:Nat->Hp->V->Hp->Prop
 stop:Nat->Hp->Prop
noncomputable def FpOk (X:Cx)(B_:List (Ac×Obj))(H:Hp)(b:Ac):Prop :=
 H b=none/\b≠X.env.locals/\b∉X.fs/\(b∈X.ex∨X.s₀.heap.objs.size<=b)/\(∀ x c,X.env.cells.lookup x=some c->c≠b)/\∀ p∈X.pn++B_,p.1≠b
theorem Inv.fpOk (I:Inv X B_ σ H s) (hb:s.heap.objs.size<=b) (hn:H' b=none):FpOk X B_ H' b:=by
 refine⟨hn,Sx (Nh I.lt hb),I.nofs hb,.inr (MR I.sz hb),fun x c e z=>?_,fun p hp z=>?_⟩
 ·obtain⟨v,q⟩:=I.cell x c e
  exact absurd (Nh q.lt (by rw[z];exact hb)) (Qv _)
 ·exact absurd (Nh (Ml (I.pin p hp).1) (by rw[z];exact hb)) (Qv _)
structure Turn (P:Ak)(w:Am)(K:L3)(tg:Ax)(J:It)(fp:List Ac)(it:Ac)(tn:Nat->Ap->Prop):Prop where
 mem:it∈fp
 obj:∀ i h,tn i h->∀ b∈fp,∃ o,h.get? b=some o/\∀ v,o.data≠.cell v
 keep:∀ i h h',tn i h->(∀ b∈fp,∀ o,h.get? b=some o->h'.get? b=some o)->tn i h'
 item:∀(X:Cx),X.prog=P->X.w=w->X.K=K->X.calm=true->∀(i:Nat) (B_:List (Ac×Obj)) (s:Af) (σ:St) (H:Hp) (E:Ad->Af->Prop),Inv X B_ σ H s->(∀ b∈fp,FpOk X B_ H b)->tn i s.heap->J.go i H ->
  wpAny (Aj P w) X.A (pyNext (.ref it)) (fun r s1=>∃ u,r=some u /\
   wpAny (Aj P w) X.A (Bh tg (.ref it) u) (fun _ s2=>∃ x H',Inv X B_ σ H' s2/\RelV x u/\J.yld i H x H'/\tn (i+1) s2.heap/\∀ b∈fp,H' b=none) E s1) E s
 done:∀(X:Cx),X.prog=P->X.w=w->X.K=K->X.calm=true->∀(i:Nat) (B_:List (Ac×Obj)) (s:Af) (σ:St) (H:Hp) (E:Ad->Af->Prop),Inv X B_ σ H s->(∀ b∈fp,FpOk X B_ H b)->tn i s.heap->J.stop i H ->
  wpAny (Aj P w) X.A (pyNext (.ref it)) (fun r s1=>r=none/\Inv X B_ σ H s1) E s
 self:∀(A:Ao) (i:Nat) (s:Af) (Q:Ad->Af->Prop) (E:Ad->Af->Prop),tn i s.heap->Q (.ref it) s->wpAny (Aj P w) A (pyIter (.ref it)) Q E s
abbrev TI:=St->Hp->(It->Hp->Prop)->Prop
noncomputable def PIE (X:Cx)(B_:List (Ac×Obj))(σ:St)(tg:Ax)(R:It->Hp->Prop)(itv:Ad)(s2:Af):Prop :=
 ∃(it:Ac) (fp:List Ac) (tn:Nat->Ap->Prop) (J:It) (H':Hp),itv=.ref it/\Inv X B_ σ H' s2/\Turn X.prog X.w X.K tg J fp it tn/\tn 0 s2.heap/\(∀ b∈fp,FpOk X B_ H' b)/\R J H'
noncomputable def PI (X:Cx)(tg iter:Ax)(wi:TI):Prop :=
 ∀(B_:List (Ac×Obj)) (s:Af) (σ:St) (H:Hp) (R:It->Hp->Prop),Inv X B_ σ H s->wi σ H R ->
  wpAny (Aj X.prog X.w) X.A (As iter X.env) (fun v s1=>wpAny (Aj X.prog X.w) X.A (pyIter v) (PIE X B_ σ tg R) X.xe s1) X.xe s
theorem Q0 (ho:s.heap.get? it=some o) (hc:o.cls=.type n) (hd:o.data=.fields vs) (hn:["enumerate","zip","dict_itemiterator","dict_reverseitemiterator","odict_iterator","itertools.zip_longest","itertools.pairwise"].contains n=false) (hQ:Q () s):wpAny M A (Bh tg (.ref it) u) Q E s:=by
 unfold Bh
 cases tg <;> first
  | exact Ag hQ
  | (cases u <;> first
    | exact Ag hQ
    | (refine Aa (wpAny_load ho ?_)
       rw[hc,hd]
       show wpAny M A (if (["enumerate","zip","dict_itemiterator","dict_reverseitemiterator","odict_iterator","itertools.zip_longest","itertools.pairwise"].contains n&&vs[0]? == some (AM _))=true then _ else _) Q E s
       rw[B8 (by intro h;rw[hn,QW] at h;cases h)]
       exact Ag hQ))
noncomputable def Itl (K:L3)(a:Ac):It :=
 ⟨fun i H=>∃ xs x,SqL K H a xs/\xs[i]?=some x,fun i H x H'=>H'=H/\∀ xs,SqL K H a xs->xs[i]?=some x,fun i H=>∃ xs,SqL K H a xs/\xs.length<=i⟩
noncomputable def Itt (K:L3)(a:Ac):It :=
 ⟨fun i H=>∃ xs x,SqT K H a xs/\xs[i]?=some x,fun i H x H'=>H'=H/\∀ xs,SqT K H a xs->xs[i]?=some x,fun i H=>∃ xs,SqT K H a xs/\xs.length<=i⟩
noncomputable def Itr (lo:Int)(n:Nat):It:=⟨fun i _=>i < n,fun i H x H'=>H'=H/\x=.int (lo+i),fun i _=>n<=i⟩
theorem bn {P:Ak}{w:Am}{K:L3}{tg:Ax}(a it:Ac):Turn P w K tg (Itl K a) [it] it (fun i h=>h.IsListIter it a i) where
 mem:=by simp
 obj:=fun i h st b hb=>by
  have e:b=it:=by simpa using hb
  subst e
  obtain⟨o,e,c,d⟩:=st
  exact⟨o,e,fun v z=>by rw[d] at z;cases z⟩
 keep:=fun i h h' st k=>st.at fun o e=>k it (by simp) o e
 item:=by
  intro X hP hw hK hc i B_ s σ H E I hf st hg
  subst hP hw hK
  obtain⟨xs,x,hq,hx⟩:=hg
  obtain⟨its,rv,p,hz⟩:=I.list hq
  obtain⟨u,hu,ru⟩:=rv.get hx
  obtain⟨f0,f1,f2,f3,f4,f5⟩:=hf it (by simp)
  refine wpAny_pyNext_list_item st p.isList (x:=u) (by simpa using hu) fun h' st' sb=>?_
  have I1:Inv X B_ σ H { s with heap:=h' }:=I.turned (t':=s.toks) (fun b o hb e=>(sb.2 b hb).trans e) f0 f1 f3 f4 f5
  obtain⟨o,e,c,d⟩:=id st'
  exact⟨u,rfl,Q0 (s:={ s with heap:=h' }) e c d (by decide) ⟨x,H,I1,ru,⟨rfl,fun ys hy=>by rw[I.list_inj hy hq];exact hx⟩,st',fun b hb=>(hf b hb).1⟩⟩
 done:=by
  intro X hP hw hK hc i B_ s σ H E I hf st hg
  subst hP hw hK
  obtain⟨xs,hq,hx⟩:=hg
  obtain⟨its,rv,p,hz⟩:=I.list hq
  obtain⟨f0,f1,f2,f3,f4,f5⟩:=hf it (by simp)
  have hl:=rv.length
  exact wpAny_pyNext_list_end (I.ok.hd hc) st p.isList (by simp;omega) fun h' eb=>⟨rfl,I.turned (t':=s.toks) (fun b o hb e=>eb b o hb e) f0 f1 f3 f4 f5⟩
 self:=fun _ _ _ _ _ st h=>wpAny_pyIter_listiter st h
theorem bo {P:Ak}{w:Am}{K:L3}{tg:Ax}(a it:Ac):Turn P w K tg (Itt K a) [it] it (fun i h=>h.IsTupleIter it a i) where
 mem:=by simp
 obj:=fun i h st b hb=>by
  have e:b=it:=by simpa using hb
  subst e
  obtain⟨o,e,c,d⟩:=st
  exact⟨o,e,fun v z=>by rw[d] at z;cases z⟩
 keep:=fun i h h' st k=>st.at fun o e=>k it (by simp) o e
 item:=by
  intro X hP hw hK hc i B_ s σ H E I hf st hg
  subst hP hw hK
  obtain⟨xs,x,hq,hx⟩:=hg
  obtain⟨its,rv,p,hz⟩:=I.tuple hq
  obtain⟨u,hu,ru⟩:=rv.get hx
  obtain⟨f0,f1,f2,f3,f4,f5⟩:=hf it (by simp)
  refine wpAny_pyNext_tuple_item st (show s.heap.IsTuple a its.toArray from p) (x:=u) (by simpa using hu) fun h' st' sb=>?_
  have I1:Inv X B_ σ H { s with heap:=h' }:=I.turned (t':=s.toks) (fun b o hb e=>(sb.2 b hb).trans e) f0 f1 f3 f4 f5
  obtain⟨o,e,c,d⟩:=id st'
  exact⟨u,rfl,Q0 (s:={ s with heap:=h' }) e c d (by decide) ⟨x,H,I1,ru,⟨rfl,fun ys hy=>by rw[I.tuple_inj hy hq];exact hx⟩,st',fun b hb=>(hf b hb).1⟩⟩
 done:=by
  intro X hP hw hK hc i B_ s σ H E I hf st hg
  subst hP hw hK
  obtain⟨xs,hq,hx⟩:=hg
  obtain⟨its,rv,p,hz⟩:=I.tuple hq
  obtain⟨f0,f1,f2,f3,f4,f5⟩:=hf it (by simp)
  have hl:=rv.length
  exact wpAny_pyNext_tuple_end (I.ok.hd hc) st (show s.heap.IsTuple a its.toArray from p) (by simp;omega) fun h' eb=>⟨rfl,I.turned (t':=s.toks) (fun b o hb e=>eb b o hb e) f0 f1 f3 f4 f5⟩
 self:=fun _ _ _ _ _ st h=>wpAny_pyIter_tupleiter st h
theorem bq {P:Ak}{w:Am}{K:L3}{tg:Ax}(it:Ac)(lo:Int)(n:Nat):Turn P w K tg (Itr lo n) [it] it (fun i h=>IsRangeIter h it (lo+(i:Nat) * 1) ((n:Int) - (i:Nat)) 1) where
 mem:=by simp
 obj:=fun i h st b hb=>by
  have e:b=it:=by simpa using hb
  subst e
  exact⟨_,st,fun v z=>by
   have z':Data.fields _=Data.cell v:=z
   cases z'⟩
 keep:=fun i h h' st k=>k it (by simp) _ st
 item:=by
  intro X hP hw hK hc i B_ s σ H E I hf st hg
  subst hP hw hK
  obtain⟨f0,f1,f2,f3,f4,f5⟩:=hf it (by simp)
  have W:=Walks.range (prog:=X.prog) (w:=X.w) (I.ok.hd hc) it lo 1 n
  refine W.item i s _ _ hg st fun v h' tk hv st' kk=>?_
  obtain⟨t,rfl⟩:=hv
  have I1:Inv X B_ σ H { s with heap:=h',toks:=tk }:=I.turned (fun b o hb e=>kk b o (by simpa using hb) e) f0 f1 f3 f4 f5
  refine⟨_,rfl,Q0 (s:={ s with heap:=h',toks:=tk }) (n:="range_iterator") st' rfl rfl (by decide) ⟨.int (lo+i),H,I1,⟨t,?_⟩,⟨rfl,rfl⟩,st',fun b hb=>(hf b hb).1⟩⟩
  rw[Int.mul_one]
 done:=by
  intro X hP hw hK hc i B_ s σ H E I hf st hg
  subst hP hw hK
  obtain⟨f0,f1,f2,f3,f4,f5⟩:=hf it (by simp)
  exact wpAny_pyNext_range_end (I.ok.hd hc) st (by have:n<=i:=hg;omega) fun h' eb=>⟨rfl,I.turned (t':=s.toks) (fun b o hb e=>eb b o hb e) f0 f1 f3 f4 f5⟩
 self:=fun _ _ _ _ _ st h=>wpAny_pyIter_rangeiter st h
section
variable {X:Cx}{tg:Ax}
theorem Vn {lo hi:Int} {tk:Nat} (I:Inv X B_ σ H s) (h1:-(2 ^ 62)<=lo) (h2:lo < 2 ^ 62) (h3:-(2 ^ 62)<=hi) (h4:hi < 2 ^ 62) (q:R (Itr lo (hi - lo).toNat) H):wpAny (Aj X.prog X.w) X.A (pyIter (.ref s.heap.objs.size)) (PIE X B_ σ tg R) E { s with heap:=s.heap.push { cls:=.type "range",data:=.fields #[.int lo t,.int hi u,.int 1 v] },toks:=tk }:=by
 refine wpAny_pyIter_range (IsRange.new ..) (small_one h1 h2 h3 h4) ?_
 have I1:Inv X B_ σ H { s with heap:=s.heap.push { cls:=.type "range",data:=.fields #[.int lo t,.int hi u,.int 1 v] },toks:=tk }:=I.kept fun b o e=>Mf _ e
 refine⟨(s.heap.push { cls:=.type "range",data:=.fields #[.int lo t,.int hi u,.int 1 v] }).objs.size,[(s.heap.push { cls:=.type "range",data:=.fields #[.int lo t,.int hi u,.int 1 v] }).objs.size],_,_,H,rfl,
  I1.kept (t':=tk) fun b o e=>Mf _ e,bq _ lo (hi - lo).toNat,?_,fun b hb=>?_,q⟩
 ·have e1:lo+((0:Nat):Int) * 1=lo:=by simp
  have e2:(((hi - lo).toNat:Nat):Int) - ((0:Nat):Int)=Builtin.Range.rangeSize lo hi 1:=by rw[rangeSize_one];split <;> omega
  show IsRangeIter _ _ (lo+((0:Nat):Int) * 1) ((((hi - lo).toNat:Nat):Int) - ((0:Nat):Int)) 1
  rw[e1,e2]
  exact MG _ rfl
 ·have e:b=(s.heap.push { cls:=.type "range",data:=.fields #[.int lo t,.int hi u,.int 1 v] }).objs.size:=by simpa using hb
  subst e
  exact I1.fpOk (L' _) (I1.hok.fresh (L' _))
def iRng1 (ta:TA):TI:=fun σ H R=>ta σ H fun vs H1=>∃ j:Int,vs=[.int j]/\-(2 ^ 62)<=j/\j < 2 ^ 62/\R (Itr 0 j.toNat) H1
def iRng2 (ta:TA):TI:=fun σ H R=>ta σ H fun vs H1=>∃ i j:Int,vs=[.int i,.int j]/\(-(2 ^ 62)<=i/\i < 2 ^ 62/\-(2 ^ 62)<=j/\j < 2 ^ 62)/\R (Itr i (j - i).toNat) H1
theorem Vo (hg:Gl X "range") (hm:X.mg "range"=none) (ha:PA X [a] ta) (hs:Ah [a] X.env=[(false,As a X.env)]:=by rfl):PI X tg (.Call (.Name "range" p) [a] [] pos) (iRng1 ta):=by
 intro B_ s σ H R I h
 refine Call_ (QC I hg hm boot_range (UJ (thn (ha pos B_ s σ H _ I h) fun us s1 ⟨vs,H1,I1,r1,q1⟩=>?_) hs rfl))
 obtain⟨j,e,q1,q2,q⟩:=q1
 subst e
 cases r1 with
 | cons r rr =>
  cases rr
  obtain⟨t,rfl⟩:=r
  exact call_range_1 (Vn I1 (by omega) (by omega) q1 q2 (by simpa using q))
theorem Vp (hg:Gl X "range") (hm:X.mg "range"=none) (ha:PA X [a,b] ta) (hs:Ah [a,b] X.env=[(false,As a X.env),(false,As b X.env)]:=by rfl) (D0:Ah [b] X.env=[(false,As b X.env)]:=by rfl):
  PI X tg (.Call (.Name "range" p) [a,b] [] pos) (iRng2 ta):=by
 intro B_ s σ H R I h
 refine Call_ (QC I hg hm boot_range (UJ (thn (ha pos B_ s σ H _ I h) fun us s1 ⟨vs,H1,I1,r1,q1⟩=>?_) (by rw[hs,D0]) (by rw[D0];rfl)))
 obtain⟨i,j,e,⟨q1,q2,q3,q4⟩,q⟩:=q1
 subst e
 cases r1 with
 | cons r rr =>
  cases rr with
  | cons r' rr =>
   cases rr
   obtain⟨t,rfl⟩:=r
   obtain⟨t',rfl⟩:=r'
   exact call_range_2 (Vn I1 q1 q2 q3 q4 q)
def tFor (wi:TI)(g:TG)(tb:TS):TS:=fun D σ H=>wi σ H fun J H1=>∃ W:Nat->Nat->St->Hp->Prop,(∃ m,W 0 m σ H1)/\∀ i m σ H,W i m σ H ->
 (J.stop i H/\D.nx σ H)∨(J.go i H/\∃ N:St->Hp->Prop,(∀ σ' H',N σ' H'->∃ m',m' < m/\W (i+1) m' σ' H')/\∀ x H',J.yld i H x H'->g x σ H' fun σ2 H2=>tb { D with nx:=N,ct:=N,bk:=D.nx } σ2 H2)
noncomputable def PR (fp:List Ac)(h:Ap):List (Ac×Obj):=fp.filterMap fun b=>(h.get? b).map fun o=>(b,o)
theorem ZN (hb:b∈fp) (e:h.get? b=some o):(b,o)∈PR fp h:=Sq.mpr ⟨b,hb,by rw[e];rfl⟩
theorem br (hp:p∈PR fp h):p.1∈fp/\h.get? p.1=some p.2:=by
 obtain⟨b,hb,e⟩:=Sq.mp hp
 cases q:h.get? b with
 | none=>rw[q] at e;cases e
 | some o =>
  rw[q] at e
  have e':(b,o)=p:=Option.some.inj e
  subst e'
  exact⟨hb,q⟩
theorem Inv.pinned (I:Inv X B_ σ H s) (hf:∀ b∈fp,FpOk X B_ H b) (ho:∀ b∈fp,∃ o,s.heap.get? b=some o/\∀ v,o.data≠.cell v):Inv X (B_++PR fp s.heap) σ H s :=
 I.pins_of fun p hp=>(Nv.mp hp).elim (fun z=>I.pin p (Qs _ z)) fun z=>by
  obtain⟨hb,e⟩:=br z
  obtain⟨f0,f1,f2,_⟩:=hf p.1 hb
  obtain⟨o,e',d⟩:=ho p.1 hb
  rw[e] at e';cases e'
  exact⟨e,f0,f1,f2,d⟩
theorem Inv.unpinned (I:Inv X (B_++pl) σ H s):Inv X B_ σ H s:=I.pins_of fun p hp=>I.pin p (Qs _ (Z' _ hp))
theorem NE (hp:PassesOwn (Aj X.prog X.w) X.A X.env X.xe) (hc:X.calm=true) (hi:PI X tg iter wi) (hg:PG X tg g) (hb:PSs X body tb) (hs:∀ x,A9 iter X.env x=pure x:=by intro _;rfl):PS X (.For tg iter body [] pos) (tFor wi g tb):=by
 intro B_ s σ H D I h
 refine wpAny_For (thn (hi B_ s σ H _ I h) fun v s1 h1=>thn h1 fun itv s2 h2=>?_) hs
 obtain⟨it,fp,tn,J,H2,e,I2,T,st2,f2,W,⟨m0,w0⟩,turn⟩:=h2
 subst e
 -- what stays true of the iterator's objects through the loop
 have stat:∀{H':Hp},(∀ b∈fp,H' b=none)->∀ b∈fp,FpOk X B_ H' b:=fun hn b hb=>⟨hn b hb,(f2 b hb).2⟩
 refine codeAny_forLoop_any (fun n s'=>∃ i σ' H',Inv X B_ σ' H' s'/\tn i s'.heap/\(∀ b∈fp,H' b=none)/\W i n σ' H') ?_ m0 ⟨0,σ,H2,I2,st2,fun b hb=>(f2 b hb).1,w0⟩
 rintro n s3 ⟨i,σ3,H3,I3,st3,fr3,w3⟩
 rcases turn i n σ3 H3 w3 with ⟨stop,qn⟩ | ⟨go,N,hN,step⟩
 ·refine AR hp (thn (T.done X rfl rfl rfl hc i B_ s3 σ3 H3 X.xe I3 (stat fr3) st3 stop) fun r s4 ⟨hr,I4⟩=>?_)
  subst hr
  exact A0 ⟨σ3,H3,I4,qn⟩
 ·refine AR hp (thn (T.item X rfl rfl rfl hc i B_ s3 σ3 H3 X.xe I3 (stat fr3) st3 go) fun r s4 ⟨u,hr,h4⟩=>?_)
  subst hr
  refine AR hp (thn h4 fun _ s5 ⟨x,H5,I5,r5,y5,st5,fr5⟩=>?_)
  have I5':=I5.pinned (stat fr5) (T.obj _ _ st5)
  refine AR hp (thn (hg _ s5 σ3 H5 x u _ I5' r5 (step x H5 y5)) fun _ s6 ⟨σ6,H6,I6,q6⟩=>?_)
  refine AR hp (thn (hb _ s6 σ6 H6 _ I6 q6) fun f s7 q7=>?_)
  have again:∀{σ7:St}{H7:Hp},Inv X (B_++PR fp s5.heap) σ7 H7 s7->N σ7 H7->∃ m,m < n/\∃ i σ' H',Inv X B_ σ' H' s7/\tn i s7.heap/\(∀ b∈fp,H' b=none)/\W i m σ' H':=fun{σ7 H7} I7 n7=>by
   obtain⟨m',hm,w7⟩:=hN σ7 H7 n7
   refine⟨m',hm,i+1,σ7,H7,I7.unpinned,T.keep _ _ _ st5 fun b hb o e=>(I7.pin (b,o) (Qs _ (Qs _ (ZN hb e)))).1,fun b hb=>?_,w7⟩
   obtain⟨o,e,d⟩:=T.obj _ _ st5 b hb
   exact(I7.pin (b,o) (Qs _ (Qs _ (ZN hb e)))).2.1
  cases f with
  | next=>obtain⟨σ7,H7,I7,n7⟩:=q7;exact again I7 n7
  | cont=>obtain⟨σ7,H7,I7,n7⟩:=q7;exact again I7 n7
  | brk=>obtain⟨σ7,H7,I7,q7⟩:=q7;exact⟨σ7,H7,I7.unpinned,q7⟩
  | ret v=>obtain⟨x7,σ7,H7,I7,r7,q7⟩:=q7;exact⟨x7,σ7,H7,I7.unpinned,r7,q7⟩
end
theorem Q1 {K:L3}{a:Ac}{xs:List V}{g:TG}{tb:TS}{D:Ends}{σ:St}{H:Hp}(Pv:Nat->St->Hp->Prop)(h0:Pv 0 σ H)(hl:∀ i σ H,i<=xs.length->Pv i σ H->SqL K H a xs)
  (hs:∀ i x σ H,xs[i]?=some x->Pv i σ H->g x σ H fun σ2 H2=>tb { D with nx:=Pv (i+1),ct:=Pv (i+1),bk:=D.nx } σ2 H2) (hd:∀ σ H,Pv xs.length σ H->D.nx σ H) :
  ∃ W:Nat->Nat->St->Hp->Prop,(∃ m,W 0 m σ H)/\∀ i m σ H,W i m σ H ->
   ((Itl K a).stop i H/\D.nx σ H)∨((Itl K a).go i H/\∃ N:St->Hp->Prop,(∀ σ' H',N σ' H'->∃ m',m' < m/\W (i+1) m' σ' H')/\∀ x H',(Itl K a).yld i H x H'->g x σ H' fun σ2 H2=>tb { D with nx:=N,ct:=N,bk:=D.nx } σ2 H2):=by
 refine⟨fun i m σ H=>m=xs.length - i/\i<=xs.length/\Pv i σ H,⟨xs.length,by simp,ML _,h0⟩,?_⟩
 rintro i m σ H ⟨rfl,hi,p⟩
 have q:=hl i σ H hi p
 by_cases C7:i < xs.length
 ·refine .inr ⟨⟨xs,xs[i],q,by simp[C7]⟩,Pv (i+1),fun σ' H' p'=>⟨xs.length - (i+1),by omega,rfl,C7,p'⟩,fun x H' y=>?_⟩
  obtain⟨e,y⟩:=y
  subst e
  exact hs i x σ _ (y xs q) p
 ·have e:i=xs.length:=by omega
  subst e
  exact .inl ⟨⟨xs,q,L' _⟩,hd σ H p⟩
theorem bu {K:L3}{a:Ac}{xs:List V}{g:TG}{tb:TS}{D:Ends}{σ:St}{H:Hp}(Pv:Nat->St->Hp->Prop)(h0:Pv 0 σ H)(hl:∀ i σ H,i<=xs.length->Pv i σ H->SqT K H a xs)
  (hs:∀ i x σ H,xs[i]?=some x->Pv i σ H->g x σ H fun σ2 H2=>tb { D with nx:=Pv (i+1),ct:=Pv (i+1),bk:=D.nx } σ2 H2) (hd:∀ σ H,Pv xs.length σ H->D.nx σ H) :
  ∃ W:Nat->Nat->St->Hp->Prop,(∃ m,W 0 m σ H)/\∀ i m σ H,W i m σ H ->
   ((Itt K a).stop i H/\D.nx σ H)∨((Itt K a).go i H/\∃ N:St->Hp->Prop,(∀ σ' H',N σ' H'->∃ m',m' < m/\W (i+1) m' σ' H')/\∀ x H',(Itt K a).yld i H x H'->g x σ H' fun σ2 H2=>tb { D with nx:=N,ct:=N,bk:=D.nx } σ2 H2):=by
 refine⟨fun i m σ H=>m=xs.length - i/\i<=xs.length/\Pv i σ H,⟨xs.length,by simp,ML _,h0⟩,?_⟩
 rintro i m σ H ⟨rfl,hi,p⟩
 have q:=hl i σ H hi p
 by_cases C7:i < xs.length
 ·refine .inr ⟨⟨xs,xs[i],q,by simp[C7]⟩,Pv (i+1),fun σ' H' p'=>⟨xs.length - (i+1),by omega,rfl,C7,p'⟩,fun x H' y=>?_⟩
  obtain⟨e,y⟩:=y
  subst e
  exact hs i x σ _ (y xs q) p
 ·have e:i=xs.length:=by omega
  subst e
  exact .inl ⟨⟨xs,q,L' _⟩,hd σ H p⟩
theorem bv {lo:Int}{n:Nat}{g:TG}{tb:TS}{D:Ends}{σ:St}{H:Hp}(Pv:Nat->St->Hp->Prop)(h0:Pv 0 σ H)
  (hs:∀ i σ H,i < n->Pv i σ H->g (.int (lo+i)) σ H fun σ2 H2=>tb { D with nx:=Pv (i+1),ct:=Pv (i+1),bk:=D.nx } σ2 H2) (hd:∀ σ H,Pv n σ H->D.nx σ H) :
  ∃ W:Nat->Nat->St->Hp->Prop,(∃ m,W 0 m σ H)/\∀ i m σ H,W i m σ H ->
   ((Itr lo n).stop i H/\D.nx σ H)∨((Itr lo n).go i H/\∃ N:St->Hp->Prop,(∀ σ' H',N σ' H'->∃ m',m' < m/\W (i+1) m' σ' H')/\∀ x H',(Itr lo n).yld i H x H'->g x σ H' fun σ2 H2=>tb { D with nx:=N,ct:=N,bk:=D.nx } σ2 H2):=by
 refine⟨fun i m σ H=>m=n - i/\i<=n/\Pv i σ H,⟨n,by simp,ML _,h0⟩,?_⟩
 rintro i m σ H ⟨rfl,hi,p⟩
 by_cases C7:i < n
 ·refine .inr ⟨C7,Pv (i+1),fun σ' H' p'=>⟨n - (i+1),by omega,rfl,C7,p'⟩,fun x H' y=>?_⟩
  obtain⟨e,y⟩:=y
  subst e y
  exact hs i σ _ C7 p
 ·have e:i=n:=by omega
  subst e
  exact .inl ⟨L' _,hd σ H p⟩
abbrev R2:=V->V->Hp->VK->Prop
noncomputable def OpR (X:Cx)(f:Ad->Ad->Sem Ad)(r:R2):Prop :=
 ∀(B_:List (Ac×Obj)) (s:Af) (σ:St) (H:Hp) (x y:V) (v u:Ad) (Q:VK),Inv X B_ σ H s->RelV x v->RelV y u->r x y H Q ->
  wpAny (Aj X.prog X.w) X.A (f v u) (EP X B_ σ Q) X.xe s
noncomputable def UnR (X:Cx)(f:Ad->Sem Ad)(r:V->Hp->VK->Prop):Prop :=
 ∀(B_:List (Ac×Obj)) (s:Af) (σ:St) (H:Hp) (x:V) (v:Ad) (Q:VK),Inv X B_ σ H s->RelV x v->r x H Q ->
  wpAny (Aj X.prog X.w) X.A (f v) (EP X B_ σ Q) X.xe s
noncomputable def CallR (X:Cx)(f:Ad)(r:List V->Hp->VK->Prop):Prop :=
 ∀(B_:List (Ac×Obj)) (s:Af) (σ:St) (H:Hp) (xs:List V) (us:List Ad) (Q:VK),Inv X B_ σ H s->Vals xs us->r xs H Q ->
  wpAny (Aj X.prog X.w) X.A (call f us) (EP X B_ σ Q) X.xe s
noncomputable def TruR (X:Cx)(r:V->Hp->(Bool->Hp->Prop)->Prop):Prop :=
 ∀(B_:List (Ac×Obj)) (s:Af) (σ:St) (H:Hp) (x:V) (v:Ad) (Q:Bool->Hp->Prop),Inv X B_ σ H s->RelV x v->r x H Q ->
  wpAny (Aj X.prog X.w) X.A (truthy v) (TP X B_ σ Q) X.xe s
def tOp (r:R2)(ta tb:TE):TE:=fun σ H Q=>ta σ H fun x H1=>tb σ H1 fun y H2=>r x y H2 Q
def tUn (r:V->Hp->VK->Prop)(ta:TE):TE:=fun σ H Q=>ta σ H fun x H1=>r x H1 Q
def rI (C:Int->Int->Prop)(g:Int->Int->V):R2:=fun x y H Q=>∃ i j,x=.int i/\y=.int j/\C i j/\Q (g i j) H
def rI0 (g:Int->Int->V):R2:=fun x y H Q=>∃ i j,x=.int i/\y=.int j/\Q (g i j) H
def rU (g:Int->V):V->Hp->VK->Prop:=fun x H Q=>∃ i,x=.int i/\Q (g i) H
section
variable {X:Cx}{a b c:Ax}{ta tb tc:TE}{pos:Pos}
theorem binT (ha:PE X a ta)(hb:PE X b tb){B_:List (Ac×Obj)}{s:Af}{σ:St}{H:Hp}{R:V->V->Hp->Prop}(I:Inv X B_ σ H s)
  (h:ta σ H fun x H1=>tb σ H1 fun y H2=>R x y H2) {Q:Ad->Af->Prop}{f:Ad->Ad->Sem Ad}
  (hf:∀ v u s2 x y H2,Inv X B_ σ H2 s2->RelV x v->RelV y u->R x y H2->wpAny (Aj X.prog X.w) X.A (f v u) Q X.xe s2) :
  wpAny (Aj X.prog X.w) X.A (As a X.env) (fun v s₁=>wpAny (Aj X.prog X.w) X.A (As b X.env) (fun u s₂=>wpAny (Aj X.prog X.w) X.A (f v u) Q X.xe s₂) X.xe s₁) X.xe s:=by
 refine thn (ha B_ s σ H _ I h) fun v s1 ⟨x,H1,I1,r1,q1⟩=>?_
 refine thn (hb B_ s1 σ H1 _ I1 q1) fun u s2 ⟨y,H2,I2,r2,q2⟩=>?_
 exact hf v u s2 x y H2 I2 r1 r2 q2
theorem L7 (ho:OpR X (AJ op) r) (ha:PE X a ta) (hb:PE X b tb):PE X (.BinOp a op b pos) (tOp r ta tb):=by
 intro B_ s σ H Q I h
 exact wpAny_BinOp (binT ha hb I h fun v u s2 x y H2 I2 rx ry q=>ho B_ s2 σ H2 x y v u Q I2 rx ry q)
theorem QE (ho:UnR X (unaryOp op) r) (ha:PE X a ta):PE X (.UnaryOp op a pos) (tUn r ta):=by
 intro B_ s σ H Q I h
 exact UnaryOp_ (thn (ha B_ s σ H _ I h) fun v s1 ⟨x,H1,I1,r1,q1⟩=>ho B_ s1 σ H1 x v Q I1 r1 q1)
theorem opI {f:Ad->Ad->Sem Ad}{C:Int->Int->Prop}{g:Int->Int->Int}
  (rule:∀(i j:Int) (t u:Tok) (s:Af) (Q:Ad->Af->Prop) (E:Ad->Af->Prop),C i j->Q (.int (g i j) s.toks) { s with toks:=s.toks+1 }->wpAny (Aj X.prog X.w) X.A (f (.int i t) (.int j u)) Q E s) :
  OpR X f (rI C fun i j=>.int (g i j)):=by
 intro B_ s σ H x y v u Q I rx ry h
 obtain⟨i,j,rfl,rfl,hc,q⟩:=h
 obtain⟨t,rfl⟩:=rx
 obtain⟨t',rfl⟩:=ry
 exact rule i j t t' s _ _ hc ⟨.int (g i j),H,I.tok _,⟨_,rfl⟩,q⟩
theorem opI0 {f:Ad->Ad->Sem Ad}{g:Int->Int->Int}
  (rule:∀(i j:Int) (t u:Tok) (s:Af) (Q:Ad->Af->Prop) (E:Ad->Af->Prop),Q (.int (g i j) s.toks) { s with toks:=s.toks+1 }->wpAny (Aj X.prog X.w) X.A (f (.int i t) (.int j u)) Q E s) :
  OpR X f (rI0 fun i j=>.int (g i j)):=by
 intro B_ s σ H x y v u Q I rx ry h
 obtain⟨i,j,rfl,rfl,q⟩:=h
 obtain⟨t,rfl⟩:=rx
 obtain⟨t',rfl⟩:=ry
 exact rule i j t t' s _ _ ⟨.int (g i j),H,I.tok _,⟨_,rfl⟩,q⟩
theorem opB0 {f:Ad->Ad->Sem Ad}{g:Int->Int->Bool}
  (rule:∀(i j:Int) (t u:Tok) (s:Af) (Q:Ad->Af->Prop) (E:Ad->Af->Prop),Q (.bool (g i j)) s->wpAny (Aj X.prog X.w) X.A (f (.int i t) (.int j u)) Q E s) :
  OpR X f (rI0 fun i j=>.bl (g i j)):=by
 intro B_ s σ H x y v u Q I rx ry h
 obtain⟨i,j,rfl,rfl,q⟩:=h
 obtain⟨t,rfl⟩:=rx
 obtain⟨t',rfl⟩:=ry
 exact rule i j t t' s _ _ ⟨.bl (g i j),H,I,rfl,q⟩
def CDiv (i j:Int):Prop:=0 < j/\j < 1073741824
def CPow (i j:Int):Prop:=0<=j/\j<=1000000/\i.natAbs < 2 ^ 64
def CMul (i j:Int):Prop:=(-(2 ^ 64) < i/\i < 2 ^ 64)∨(-(2 ^ 64) < j/\j < 2 ^ 64)
theorem CMul.ok (h:CMul i j):IntMulOk i j:=by
 rcases h with ⟨h1,h2⟩ | ⟨h1,h2⟩
 ·exact .of_left (intBits_le_64 h1 h2)
 ·exact .of_right (intBits_le_64 h1 h2)
theorem op_add:OpR X (AJ .Add) (rI0 fun i j=>.int (i+j)):=opI0 fun _ _ _ _ _ _ _ q=>add_int q
theorem op_sub:OpR X (AJ .Sub) (rI0 fun i j=>.int (i - j)):=opI0 fun _ _ _ _ _ _ _ q=>sub_int q
theorem op_mul:OpR X (AJ .Mult) (rI CMul fun i j=>.int (i * j)):=opI fun _ _ _ _ _ _ _ hc q=>mul_int q hc.ok
theorem op_fdiv:OpR X (AJ .FloorDiv) (rI CDiv fun i j=>.int (i / j)):=opI fun i j _ _ _ _ _ hc q=>by
 have h1:(0:Int) < j:=hc.1
 have h2:j < 1073741824:=hc.2
 exact floordiv_int (by omega) (by rw[Int.fdiv_eq_ediv_of_nonneg i (by omega)];exact q) (.inl (PyProof.noPylong_small (by omega)))
theorem op_mod:OpR X (AJ .Mod) (rI (fun _ j=>0 < j) fun i j=>.int (i % j)):=opI fun i j _ _ _ _ _ hc q=>by
 have h1:(0:Int) < j:=hc
 exact mod_int' (by omega) (by rw[Int.fmod_eq_emod_of_nonneg i (by omega)];exact q)
theorem op_pow:OpR X (AJ .Pow) (rI CPow fun i j=>.int (i ^ j.toNat)):=opI fun _ _ _ _ _ _ _ hc q=>pow_int_small hc.1 hc.2.1 hc.2.2 q
theorem unI {f:Ad->Sem Ad}{g:Int->Int}
  (rule:∀(i:Int) (t:Tok) (s:Af) (Q:Ad->Af->Prop) (E:Ad->Af->Prop),Q (.int (g i) s.toks) { s with toks:=s.toks+1 }->wpAny (Aj X.prog X.w) X.A (f (.int i t)) Q E s) :
  UnR X f (rU fun i=>.int (g i)):=by
 intro B_ s σ H x v Q I rx h
 obtain⟨i,rfl,q⟩:=h
 obtain⟨t,rfl⟩:=rx
 exact rule i t s _ _ ⟨.int (g i),H,I.tok _,⟨_,rfl⟩,q⟩
theorem un_neg:UnR X (unaryOp .USub) (rU fun i=>.int (-i)):=unI fun _ _ _ _ _ q=>neg_int q
end
noncomputable def scal:V->V->Bool
 | .non,.non=>true | .non,.int _=>true | .int _,.non=>true | .non,.bl _=>true | .bl _,.non=>true | .non,.str _=>true | .str _,.non=>true
 | .int _,.int _=>true | .bl _,.bl _=>true | .str _,.str _=>true | .byt _,.byt _=>true
 | .int _,.str _=>true | .str _,.int _=>true | .bl _,.str _=>true | .str _,.bl _=>true
 | _,_=>false
def rEq:R2:=fun x y H Q=>scal x y=true/\Q (.bl (decide (x=y))) H
def rNe:R2:=fun x y H Q=>scal x y=true/\Q (.bl (!decide (x=y))) H
theorem Vq :decide (V.int i=V.int j)=(i == j):=by
 rw[No]
 simp
theorem Vr :decide (V.bl i=V.bl j)=(i == j):=by
 rw[No]
 simp
theorem Vs :decide (V.str i=V.str j)=(i == j):=by
 rw[No]
 simp
theorem Vt :decide (V.byt i=V.byt j)=(i.toList == j.toList):=by
 rw[No]
 cases i
 cases j
 simp
section
variable {X:Cx}{a b c:Ax}{ta tb tc:TE}{pos:Pos}
theorem MJ (I:Inv X B_ σ H s) (q:Q (.bl k) H) (e:k=k'):EP X B_ σ Q (.bool k') s:=by
 subst e
 exact⟨.bl k,H,I,rfl,q⟩
theorem op_eq:OpR X (Ar .Eq) rEq:=by
 intro B_ s σ H x y v u Q I rx ry h
 obtain⟨hs,q⟩:=h
 cases x with
 | non =>
  cases rx
  cases y with
  | non=>cases ry;exact PySem.EqNone.eq_none_none (MJ I q (by simp))
  | bl j=>cases ry;exact PySem.EqNone.eq_none_bool (MJ I q (by simp))
  | int j=>obtain⟨t',rfl⟩:=ry;exact PySem.EqNone.eq_none_int (MJ I q (by simp))
  | str j=>obtain⟨t',rfl⟩:=ry;exact PySem.EqNone.eq_none_str (MJ I q (by simp))
  | _=>exact absurd (show false=true from hs) Mi
 | bl i =>
  cases rx
  cases y with
  | non=>cases ry;exact PySem.EqNone.eq_bool_none (MJ I q (by simp))
  | bl j=>cases ry;exact eq_bool (MJ I q Vr)
  | str j=>obtain⟨t',rfl⟩:=ry;exact PySem.EqMixed.eq_bool_str (MJ I q (by simp))
  | _=>exact absurd (show false=true from hs) Mi
 | int i =>
  obtain⟨t,rfl⟩:=rx
  cases y with
  | non=>cases ry;exact PySem.EqNone.eq_int_none (MJ I q (by simp))
  | int j=>obtain⟨t',rfl⟩:=ry;exact eq_int (MJ I q Vq)
  | str j=>obtain⟨t',rfl⟩:=ry;exact PySem.EqMixed.eq_int_str (MJ I q (by simp))
  | _=>exact absurd (show false=true from hs) Mi
 | str i =>
  obtain⟨t,rfl⟩:=rx
  cases y with
  | non=>cases ry;exact PySem.EqNone.eq_str_none (MJ I q (by simp))
  | bl j=>cases ry;exact PySem.EqMixed.eq_str_bool (MJ I q (by simp))
  | int j=>obtain⟨t',rfl⟩:=ry;exact PySem.EqMixed.eq_str_int (MJ I q (by simp))
  | str j=>obtain⟨t',rfl⟩:=ry;exact eq_str (MJ I q Vs)
  | _=>exact absurd (show false=true from hs) Mi
 | byt i =>
  obtain⟨t,rfl⟩:=rx
  cases y with
  | byt j=>obtain⟨t',rfl⟩:=ry;exact PySem.W.eq_bytes (MJ I q Vt)
  | _=>exact absurd (show false=true from hs) Mi
 | _=>cases y <;> exact absurd (show false=true from hs) Mi
theorem op_ne:OpR X (Ar .NotEq) rNe:=by
 intro B_ s σ H x y v u Q I rx ry h
 obtain⟨hs,q⟩:=h
 cases x with
 | non =>
  cases rx
  cases y with
  | non=>cases ry;exact PySem.EqNone.ne_none_none (MJ I q (by simp))
  | bl j=>cases ry;exact PySem.EqNone.ne_none_bool (MJ I q (by simp))
  | int j=>obtain⟨t',rfl⟩:=ry;exact PySem.EqNone.ne_none_int (MJ I q (by simp))
  | str j=>obtain⟨t',rfl⟩:=ry;exact PySem.EqNone.ne_none_str (MJ I q (by simp))
  | _=>exact absurd (show false=true from hs) Mi
 | bl i =>
  cases rx
  cases y with
  | non=>cases ry;exact PySem.EqNone.ne_bool_none (MJ I q (by simp))
  | bl j=>cases ry;exact ne_bool (MJ I q (congrArg not Vr))
  | str j=>obtain⟨t',rfl⟩:=ry;exact PySem.EqMixed.ne_bool_str (MJ I q (by simp))
  | _=>exact absurd (show false=true from hs) Mi
 | int i =>
  obtain⟨t,rfl⟩:=rx
  cases y with
  | non=>cases ry;exact PySem.EqNone.ne_int_none (MJ I q (by simp))
  | int j=>obtain⟨t',rfl⟩:=ry;exact ne_int (MJ I q (congrArg not Vq))
  | str j=>obtain⟨t',rfl⟩:=ry;exact PySem.EqMixed.ne_int_str (MJ I q (by simp))
  | _=>exact absurd (show false=true from hs) Mi
 | str i =>
  obtain⟨t,rfl⟩:=rx
  cases y with
  | non=>cases ry;exact PySem.EqNone.ne_str_none (MJ I q (by simp))
  | bl j=>cases ry;exact PySem.EqMixed.ne_str_bool (MJ I q (by simp))
  | int j=>obtain⟨t',rfl⟩:=ry;exact PySem.EqMixed.ne_str_int (MJ I q (by simp))
  | str j=>obtain⟨t',rfl⟩:=ry;exact ne_str (MJ I q (congrArg not Vs))
  | _=>exact absurd (show false=true from hs) Mi
 | byt i =>
  obtain⟨t,rfl⟩:=rx
  cases y with
  | byt j=>obtain⟨t',rfl⟩:=ry;exact PySem.W.ne_bytes (MJ I q (congrArg not Vt))
  | _=>exact absurd (show false=true from hs) Mi
 | _=>cases y <;> exact absurd (show false=true from hs) Mi
theorem op_lt:OpR X (Ar .Lt) (rI0 fun i j=>.bl (decide (i < j))):=opB0 fun _ _ _ _ _ _ _ q=>lt_int q
theorem op_le:OpR X (Ar .LtE) (rI0 fun i j=>.bl (decide (i<=j))):=opB0 fun _ _ _ _ _ _ _ q=>le_int q
theorem op_gt:OpR X (Ar .Gt) (rI0 fun i j=>.bl (decide (j < i))):=opB0 fun _ _ _ _ _ _ _ q=>gt_int q
theorem bw:OpR X (Ar .In) (fun x y H Q=>∃ i j,x=.str i/\y=.str j/\Q (.bl (!(ZG j i 0 j.length 1).isEmpty)) H):=by
 intro B_ s σ H x y v u Q I rx ry h
 obtain⟨i,j,rfl,rfl,q⟩:=h
 obtain⟨t,rfl⟩:=rx
 obtain⟨t',rfl⟩:=ry
 exact in_str (MJ I q rfl)
theorem op_isN:OpR X (Ar .Is) (fun x y H Q=>y=.non/\Q (.bl (decide (x=.non))) H):=by
 intro B_ s σ H x y v u Q I rx ry h
 obtain⟨rfl,q⟩:=h
 cases ry
 refine is_none_gen (MJ I q ?_)
 cases x <;> first
  | (cases rx;rfl)
  | (obtain⟨t,rfl⟩:=rx;rfl)
theorem bx:OpR X (Ar .NotIn) (fun x y H Q=>∃ i j,x=.str i/\y=.str j/\Q (.bl (!(!(ZG j i 0 j.length 1).isEmpty))) H):=by
 intro B_ s σ H x y v u Q I rx ry h
 obtain⟨i,j,rfl,rfl,q⟩:=h
 obtain⟨t,rfl⟩:=rx
 obtain⟨t',rfl⟩:=ry
 exact notIn_str (MJ I q rfl)
theorem L9 (b:Ax) (h:op≠.In:=by decide) (h2:op≠.NotIn:=by decide):Be op b=false:=by
 have e1:(op == CmpOp.In)=false:=by cases op <;> first | rfl | exact absurd rfl h
 have e2:(op == CmpOp.NotIn)=false:=by cases op <;> first | rfl | exact absurd rfl h2
 cases b <;> simp[Be,e1,e2]
theorem MT (ho:OpR X (Ar op) r) (ha:PE X a ta) (hb:PE X b tb) (hm:Be op b=false):PE X (.Compare a [op] [b] pos) (tOp r ta tb):=by
 intro B_ s σ H Q I h
 exact wpAny_Compare1 (binT ha hb I h fun v u s2 x y H2 I2 rx ry q=>ho B_ s2 σ H2 x y v u Q I2 rx ry q) hm
def SL (t:TE):TT:=fun σ H Q=>t σ H fun x H'=>∃ k,x=.bl k/\Q k H'
theorem Mb (ho:OpR X (Ar op) r) (ha:PE X a ta) (hb:PE X b tb) (hm:Be op b=false):PT X (.Compare a [op] [b] pos) (SL (tOp r ta tb)):=by
 intro B_ s σ H Q I h
 refine BH (thn (ha B_ s σ H _ I h) fun v s1 ⟨x,H1,I1,r1,q1⟩=>thn (hb B_ s1 σ H1 _ I1 q1) fun u s2 ⟨y,H2,I2,r2,q2⟩ =>
  thn (ho B_ s2 σ H2 x y v u _ I2 r1 r2 q2) fun c s3 ⟨z,H3,I3,r3,k,e,q3⟩=>?_) hm
 subst e
 cases r3
 exact AB ⟨H3,I3,q3⟩
def SM (r r':R2)(ta tb tc:TE):TE:=fun σ H Q=>ta σ H fun x H1=>tb σ H1 fun y H2=>r x y H2 fun z H3=>∃ k,z=.bl k /\
 (if k=true then tc σ H3 fun w' H4=>r' y w' H4 Q else Q (.bl false) H3)
theorem bz (ho:OpR X (Ar op) r) (ho':OpR X (Ar op') r') (ha:PE X a ta) (hb:PE X b tb) (hc:PE X c tc) (hm:lastMarks [op,op'] [b,c]=false:=by with_unfolding_all rfl):PE X (.Compare a [op,op'] [b,c] pos) (SM r r' ta tb tc):=by
 intro B_ s σ H Q I h
 refine Compare_chain (thn (ha B_ s σ H _ I h) fun v s1 ⟨x,H1,I1,r1,q1⟩=>chain_link (thn (hb B_ s1 σ H1 _ I1 q1) fun u s2 ⟨y,H2,I2,r2,q2⟩ =>
  thn (ho B_ s2 σ H2 x y v u _ I2 r1 r2 q2) fun d s3 ⟨z,H3,I3,r3,k,e,q3⟩=>?_)) hm
 subst e
 cases r3
 refine AB ?_
 cases k with
 | false=>exact ite_ff ⟨.bl false,H3,I3,rfl,q3⟩
 | true=>exact ite_tt (chain_last (thn (hc B_ s3 σ H3 _ I3 q3) fun w' s4 ⟨z',H4,I4,r4,q4⟩=>ho' B_ s4 σ H4 y z' u w' Q I4 r2 r4 q4))
theorem Vu (ho:OpR X (Ar op) r) (ho':OpR X (Ar op') r') (ha:PE X a ta) (hb:PE X b tb) (hc:PE X c tc) (hm:lastMarks [op,op'] [b,c]=false:=by with_unfolding_all rfl):PT X (.Compare a [op,op'] [b,c] pos) (SL (SM r r' ta tb tc)):=by
 intro B_ s σ H Q I h
 refine isTrue_chain (thn (ha B_ s σ H _ I h) fun v s1 ⟨x,H1,I1,r1,q1⟩=>test_link (thn (hb B_ s1 σ H1 _ I1 q1) fun u s2 ⟨y,H2,I2,r2,q2⟩ =>
  thn (ho B_ s2 σ H2 x y v u _ I2 r1 r2 q2) fun d s3 ⟨z,H3,I3,r3,k,e,q3⟩=>?_)) hm
 subst e
 cases r3
 refine AB ?_
 cases k with
 | false =>
  obtain⟨k',e',q'⟩:=q3
  cases e'
  exact ite_ff ⟨H3,I3,q'⟩
 | true =>
  refine ite_tt (test_last (thn (hc B_ s3 σ H3 _ I3 q3) fun w' s4 ⟨z',H4,I4,r4,q4⟩=>thn (ho' B_ s4 σ H4 y z' u w' _ I4 r2 r4 q4) fun d' s5 ⟨z2,H5,I5,r5,k2,e2,q5⟩=>?_))
  subst e2
  cases r5
  exact AB ⟨H5,I5,q5⟩
noncomputable def TruV (K:L3)(x:V)(H:Hp)(k:Bool):Prop :=
 match x with
 | .non=>k=false
 | .bl b=>k=b
 | .int i=>k=(i != 0)
 | .str y=>y.length<=Ae/\k=((y.length:Int) != 0)
 | .byt y=>y.size<=Ae/\k=((y.size:Int) != 0)
 | .ref p=>(∃ xs,SqL K H p xs/\k=!xs.isEmpty)∨(∃ xs,SqT K H p xs/\k=!xs.isEmpty)∨∃ B',H p=some (.dK B')/\k=!B'.isEmpty
 | _=>False
theorem bA (r:KV B' vs):(!vs.isEmpty)=!B'.isEmpty:=by
 cases r <;> rfl
theorem Vv (r:Vals xs its):(!its.toArray.isEmpty)=!xs.isEmpty:=by
 cases r <;> simp
theorem SN:(Ae:Nat) < 2 ^ 63:=by rw[Bu];decide
theorem tru_ok:TruR X (fun x H Q=>∃ k,TruV X.K x H k/\Q k H):=by
 intro B_ s σ H x v Q I rx h
 obtain⟨k,e,q⟩:=h
 have hl:=SN
 have hs:Ae=16777216:=Bu
 cases x with
 | non =>
  cases rx
  have e':k=false:=e
  subst e'
  exact truthy_none ⟨H,I,q⟩
 | bl b =>
  cases rx
  have e':k=b:=e
  subst e'
  exact AB ⟨H,I,q⟩
 | int i =>
  obtain⟨t,rfl⟩:=rx
  have e':k=(i != 0):=e
  subst e'
  exact PySem.P.truthy_int ⟨H,I,q⟩
 | str y =>
  obtain⟨t,rfl⟩:=rx
  obtain⟨hy,e'⟩:y.length<=Ae/\k=((y.length:Int) != 0):=e
  subst e'
  exact PySem.P.truthy_str (by omega) ⟨H,I.tok _,q⟩
 | byt y =>
  obtain⟨t,rfl⟩:=rx
  obtain⟨hy,e'⟩:y.size<=Ae/\k=((y.size:Int) != 0):=e
  subst e'
  exact PySem.W.truthy_bytes (by omega) ⟨H,I.tok _,q⟩
 | ref p =>
  cases rx
  have e':(∃ xs,SqL X.K H p xs/\k=!xs.isEmpty)∨(∃ xs,SqT X.K H p xs/\k=!xs.isEmpty)∨∃ B',H p=some (.dK B')/\k=!B'.isEmpty:=e
  rcases e' with ⟨xs,hx,e'⟩ | ⟨xs,hx,e'⟩ | ⟨B',hx,e'⟩
  ·subst e'
   obtain⟨its,r,pl,hz⟩:=I.list hx
   have Cd:=r.length
   exact wpAny_truthy_list pl.isList (by simp only[MH];omega) ⟨H,I.tok _,by rw[Vv r];exact q⟩
  ·subst e'
   obtain⟨its,r,pl,hz⟩:=I.tuple hx
   have Cd:=r.length
   exact truthy_tuple pl (by simp only[MH];omega) ⟨H,I.tok _,by rw[Vv r];exact q⟩
  ·subst e'
   obtain⟨hz,hS,vs,r,m⟩:B'.length<=Ae/\(p == AH)=false/\∃ vs,KV B' vs/\s.heap.DictOf (M7 X.prog X.w) p vs:=I.hok p _ hx
   have Cd:B'.length=vs.length:=ZM r
   exact wpAny_truthy_dict hS m (by omega) ⟨H,I.tok _,by rw[bA r];exact q⟩
 | _=>exact(show False from e).elim
theorem bB:OpR X (AJ .Add) (fun x y H Q=>∃ i j,x=.str i/\y=.str j/\i.length+j.length<=Ae/\Q (.str (i++j)) H):=by
 intro B_ s σ H x y v u Q I rx ry h
 obtain⟨i,j,rfl,rfl,hz,q⟩:=h
 obtain⟨t,rfl⟩:=rx
 obtain⟨t',rfl⟩:=ry
 exact add_str (fun t' tk=>⟨.str (i++j),H,I.tok _,⟨_,rfl⟩,q⟩) hz
theorem N1 (r:Vals [x] us):∃ u,us=[u]/\RelV x u:=by
 cases r with
 | cons r1 r2=>cases r2;exact⟨_,rfl,r1⟩
theorem PU (r:Vals [x,y] us):∃ u w',us=[u,w']/\RelV x u/\RelV y w':=by
 cases r with
 | cons r1 r2 =>
  cases r2 with
  | cons r3 r4=>cases r4;exact⟨_,_,rfl,r1,r3⟩
theorem call_abs:CallR X (.builtin "abs") (fun xs H Q=>∃ i,xs=[.int i]/\Q (.int (if i < 0 then -i else i)) H):=by
 intro B_ s σ H xs us Q I r h
 obtain⟨i,rfl,q⟩:=h
 obtain⟨u,rfl,t,rfl⟩:=N1 r
 exact call_abs_int fun u tk=>⟨.int (if i < 0 then -i else i),H,I.tok _,⟨_,rfl⟩,q⟩
theorem bC (hc:X.calm=true):CallR X (.builtin "max") (fun xs H Q=>∃ i j,xs=[.int i,.int j]/\Q (.int (if j > i then j else i)) H):=by
 intro B_ s σ H xs us Q I r h
 obtain⟨i,j,rfl,q⟩:=h
 obtain⟨u,w',rfl,⟨t,rfl⟩,⟨t',rfl⟩⟩:=PU r
 refine max_two_ints (I.ok.hd hc) fun h' tk k=>⟨_,H,I.kept k,?_,q⟩
 by_cases hj:j > i
 ·rw[B9 hj,B9 hj];exact⟨_,rfl⟩
 ·rw[B8 hj,B8 hj];exact⟨_,rfl⟩
theorem bE (hc:X.calm=true):CallR X (.builtin "min") (fun xs H Q=>∃ i j,xs=[.int i,.int j]/\Q (.int (if j < i then j else i)) H):=by
 intro B_ s σ H xs us Q I r h
 obtain⟨i,j,rfl,q⟩:=h
 obtain⟨u,w',rfl,⟨t,rfl⟩,⟨t',rfl⟩⟩:=PU r
 refine min_two_ints (I.ok.hd hc) fun h' tk k=>⟨_,H,I.kept k,?_,q⟩
 by_cases hj:j < i
 ·rw[B9 hj,B9 hj];exact⟨_,rfl⟩
 ·rw[B8 hj,B8 hj];exact⟨_,rfl⟩
theorem call_int1:CallR X (.type "int") (fun xs H Q=>(∃ i,xs=[.int i]/\Q (.int i) H)∨∃ k,xs=[.bl k]/\Q (.int (if k then 1 else 0)) H):=by
 intro B_ s σ H xs us Q I r h
 rcases h with ⟨i,rfl,q⟩ | ⟨k,rfl,q⟩
 ·obtain⟨u,rfl,t,rfl⟩:=N1 r
  exact call_int_int ⟨.int i,H,I,⟨_,rfl⟩,q⟩
 ·obtain⟨u,rfl,r1⟩:=N1 r
  cases r1
  exact call_int_bool ⟨.int (if k then 1 else 0),H,I.tok _,⟨_,rfl⟩,q⟩
theorem call_str_int:CallR X (.type "str") (fun xs H Q=>∃ i,xs=[.int i]/\i.natAbs.log2 < 1920/\Q (.str (toString i)) H):=by
 intro B_ s σ H xs us Q I r h
 obtain⟨i,rfl,hz,q⟩:=h
 obtain⟨u,rfl,t,rfl⟩:=N1 r
 exact PySem.P.str_of_int hz ⟨.str _,H,I.tok _,⟨_,rfl⟩,q⟩
end
structure ObjM (h:Ap)(x dx C:Ac)(mA:Str->Option Ad):Prop where
 obj:h.get? x=some (R5 C dx)
 ns:h.Ns1 dx mA
 ne:dx≠x
theorem Vw {h:Ap}{dx:Ac}{mA:Str->Option Ad}(n:h.Ns1 dx mA):∃ od,h.get? dx=some od/\∀ name,Zc name od=some (mA name):=by
 obtain⟨o,es,ep,ho,hd,hk,_,hm⟩:=n
 refine⟨o,ho,fun name=>?_⟩
 have e:=hm name
 unfold nsFind findBy at e
 rw[<- Array.find?_toList] at e
 unfold Zc
 rw[hd]
 dsimp only
 split
 ·rename_i y q
  rw[q] at e
  exact congrArg some e
 ·rename_i q
  rw[q] at e
  have a:es.toList.any (·.refKey)=false:=by
   rw[af]
   intro y hy
   obtain⟨z,t,Ip⟩:=hk y (Array.mem_toList_iff.mp hy)
   simp[DictEntry.refKey,Ip]
  have a':¬ es.toList.any (·.refKey)=true:=by rw[a];exact Mi
  rw[B8 a']
  exact congrArg some e
theorem ObjM.look (I:ObjM h x dx C mA):∃ od,Zd h x (R5 C dx) C (some od)/\∀ name,Zc name od=some (mA name) :=
 let ⟨od,ho,hl⟩:=Vw I.ns
 ⟨od,⟨I.obj,rfl,rfl,ho⟩,hl⟩
section
variable {prog:Ak}{w:Am}{A:Ao}{E:Ad->Af->Prop}{s:Af}{K:L3}{x dx C f:Ac}{mA:Str->Option Ad}{name:Str}{v:Ad}
theorem bG (X:K.In s.heap) (I:ObjM s.heap x dx C mA) (hg:Sm K C name=true) (hh:R4 K C=true) (ha:Mw K (.ref C) name=some none) (hv:mA name=some v) (hv':PySem.W.handedIn v=true) (h:Q v { s with toks:=s.toks+1 }):
  wpAny (Aj prog w) A (getAttr (.ref x) name expr) Q E s:=by
 obtain⟨od,J,hl⟩:=I.look
 exact PySem.W.get_value X J (ZZ hg).1 (iS hh ha rfl (by rw[hl,hv])) hv' h
theorem bH (X:K.In s.heap) (I:ObjM s.heap x dx C mA) (hg:Sm K C name=true) (hf:Mw K (.ref C) name=some (some (.ref f))) (ht:Sn K (.ref f)=true) (hv:mA name=none) (h:Q (.ref f,[.ref x]) s):
  wpAny (Aj prog w) A (Bq (.ref x) name pl) Q E s:=by
 obtain⟨od,J,hl⟩:=I.look
 exact PySem.W.method_fn X J (ZZ hg).1 (ZZ hg).2 hf (beq_iff_eq.mp ht) (by show (Zc name od).map (·.isSome)=some false;rw[hl,hv];rfl) h
theorem bI (X:K.In s.heap) (I:ObjM s.heap x dx C mA) (hs:Mw K (.ref C) "__setattr__"=some (some (.builtin "object.__setattr__"))) (hp:U1 K C=true) (ht:Z1 K C name=some none) (hh:R4 K C=true) (hw:ZH mA ns) (hsz:ns.length<=Ae) (h:∀ h',ObjM h' x dx C (fun y=>if y=name then some v else mA y)->QU dx s.heap h'->Q () { s with heap:=h',toks:=s.toks+2 }):
  wpAny (Aj prog w) A (setAttr (.ref x) name v) Q E s:=by
 obtain⟨od,J,hl⟩:=I.look
 refine PySem.W.set_plain X J hs (PySem.W.osa_open (s:={ s with toks:=s.toks+1 }) (r:=none) X J hp ht fun b=>?_)
 obtain⟨cd,hc,hd'⟩:=PySem.W.any_some hh
 have hx:s.heap.get? x=some ⟨.ref C,some dx,.plain,#[]⟩:=I.obj
 refine Aa (Ag (Aa (Aa (wpAny_loadPart hx (Aa (iO.here (s:={ s with toks:=s.toks+1 }) (PySem.W.looks_clsIn X hc) ?_))))))
 rw[hd']
 refine Ag (a:=some dx) (Aa (Ag (Aa ?_)))
 refine wpAny_nsSet1 (s:={ s with toks:=s.toks+1 }) I.ns fun h' Er D0=>?_
 obtain⟨oD,esD,epD,Iq,Ir,Iu⟩:=Er.count (ZH.cons name v hw)
 refine Aa (wpAny_lookBehind Iq (by rw[Ir];exact pastItsLine_dict (MR Iu (by rw[Mv];omega))) ?_)
 exact Ag (h _ ⟨(D0.2 _ (MB I.ne)).trans I.obj,Er,I.ne⟩ D0)
theorem bJ (X:K.In s.heap) (hm:Ux K C=true) (hi:Mw K (.ref C) "__init__"=some (some (.ref f))) (hf:Z3 K (.ref f)=some (.type "function")) (h:codeAny (Aj prog w) (A.under (.builtin "type.__call__" ⟨.ref C::vs,kw⟩)) (.call (.ref f) ⟨.ref (s.heap.objs.size+1)::vs,kw⟩) (PySem.W.InitBack (s.heap.objs.size+1) R)
   { s with heap:=(s.heap.push QT).push (R5 C s.heap.objs.size) }):
  codeAny (Aj prog w) A (.call (.ref C) ⟨vs,kw⟩) R s:=by
 obtain⟨hh,g,d,t,os⟩:=s
 exact PySem.W.make_core (PySem.W.makes_of X hm) (UZ X hi) (fun self=>PySem.W.bind_fn X self hf) (.inl rfl) h
end
noncomputable def putF (f:Str)(v:V):List (Str×V)->List (Str×V)
 | []=>[(f,v)]
 | (g,x)::r=>if g=f then (g,v)::r else (g,x)::putF f v r
theorem Vx (f g:Str)(v:V):∀ fs:List (Str×V),(putF f v fs).lookup g=if g=f then some v else fs.lookup g
 | []=>by
  show PM g [(f,v)]=_
  by_cases h:g=f
  ·have hb:(g == f)=true:=beq_iff_eq.mpr h
   simp only[PM,hb,B9 h]
  ·have hb:(g == f)=false:=beq_eq_false_iff_ne.mpr h
   simp only[PM,hb,B8 h]
 | (k,x)::r=>by
  have ih:=Vx f g v r
  rw[show putF f v ((k,x)::r)=(if k=f then (k,v)::r else (k,x)::putF f v r) from rfl]
  by_cases hk:k=f
  ·rw[B9 hk]
   by_cases h:g=k
   ·have hb:(g == k)=true:=beq_iff_eq.mpr h
    simp only[PM,hb,B9 (h.trans hk)]
   ·have hb:(g == k)=false:=beq_eq_false_iff_ne.mpr h
    simp only[PM,hb,B8 (fun e:g=f=>h (e.trans hk.symm))]
  ·rw[B8 hk]
   by_cases h:g=k
   ·have hb:(g == k)=true:=beq_iff_eq.mpr h
    simp only[PM,hb,B8 (fun e:g=f=>hk (h.symm.trans e))]
   ·have hb:(g == k)=false:=beq_eq_false_iff_ne.mpr h
    simp only[PM,hb]
    exact ih
theorem SO (f:Str)(v:V):∀ fs:List (Str×V),f∈(putF f v fs).map (·.1)/\∀ g,g∈fs.map (·.1)->g∈(putF f v fs).map (·.1)
 | []=>⟨by simp[putF],fun g h=>by simp at h⟩
 | (k,x)::r=>by
  obtain⟨i1,i2⟩:=SO f v r
  rw[show putF f v ((k,x)::r)=(if k=f then (k,v)::r else (k,x)::putF f v r) from rfl]
  by_cases hk:k=f
  ·rw[B9 hk]
   subst hk
   exact⟨by simp,fun g h=>by simpa using h⟩
  ·rw[B8 hk]
   refine⟨?_,fun g h=>?_⟩
   ·rw[Mu]
    exact MP _ i1
   ·rw[Mu] at h ⊢
    rcases Mo.mp h with e | e
    ·exact Mo.mpr (.inl e)
    ·exact MP _ (i2 g e)
theorem Vy (f:Str)(v:V):∀ fs:List (Str×V),(putF f v fs).length<=fs.length+1
 | []=>by simp[putF]
 | (k,x)::r=>by
  have ih:=Vy f v r
  rw[show putF f v ((k,x)::r)=(if k=f then (k,v)::r else (k,x)::putF f v r) from rfl]
  by_cases hk:k=f
  ·rw[B9 hk,Mv,Mv];omega
  ·rw[B8 hk,Mv,Mv];omega
theorem RelO.some_of (r:RelO (some v) o):∃ u,o=some u/\RelV v u:=by
 cases o with
 | none=>exact(show False from r).elim
 | some u=>exact⟨u,rfl,r⟩
theorem RelO.none_of (r:RelO none o):o=none:=by
 cases o with
 | none=>rfl
 | some u=>exact(show False from r).elim
theorem Vz (r:RelV v u):PySem.W.handedIn u=true:=by
 cases v with
 | non=>cases (show u=Value.none from r);rfl
 | bl b=>cases (show u=Value.bool b from r);rfl
 | int i=>obtain⟨t,e⟩:=(show ∃ t,u=Value.int i t from r);cases e;rfl
 | str x=>obtain⟨t,e⟩:=(show ∃ t,u=Value.str x t from r);cases e;rfl
 | byt b=>obtain⟨t,e⟩:=(show ∃ t,u=Value.bytes b t from r);cases e;rfl
 | flt b=>obtain⟨t,e⟩:=(show ∃ t,u=Value.float b t from r);cases e;rfl
 | ref a=>cases (show u=Value.ref a from r);rfl
 | ty n=>cases (show u=Value.type n from r);rfl
section
variable {P:Ak}{w:Am}{H H':Hp}{h h':Ap}{a C dx:Ac}{fs fs':List (Str×V)}
theorem SQ (hok:HOk P w H h)(e:H a=some (.ins C dx fs)):∃ mA,ObjM h a dx C mA/\(∀ f,RelO (fs.lookup f) (mA f))/\ZH mA (fs.map (·.1))/\fs.length<=1000/\H dx=some (.own a):=by
 obtain⟨d,z,ne,ob,mA,n,r,q⟩:=(show ObjOk P w H h a (.ins C dx fs) from hok a _ e)
 exact⟨mA,⟨ob,n,ne⟩,r,q,z,d⟩
end
structure Cls (K:L3)(C:Ac):Prop where
 pg:Sm K C Va=true
 hd:R4 K C=true
 po:U1 K C=true
 sa:Mw K (.ref C) "__setattr__"=some (some (.builtin "object.__setattr__"))
theorem Cls.get {K:L3}{C:Ac}(c:Cls K C)(f:Str):Sm K C f=true:=c.pg
def NoAttr (K:L3)(C:Ac)(f:Str):Prop:=Mw K (.ref C) f=some none
theorem NoAttr.taker {K:L3}{C:Ac}{f:Str}(n:NoAttr K C f):Z1 K C f=some none:=by
 unfold Z1
 rw[show Mw K (.ref C) f=some none from n]
 rfl
structure Con (K:L3)(C:Ac)(f:Str)(v:V)(u:Ad):Prop where
 at_:Mw K (.ref C) f=some (some u)
 rel:RelV v u
 get:U2 K u "__get__"=some none
 cp:PySem.W.copiedNames.contains f=false
structure Meth (K:L3)(C:Ac)(m:Str)(f:Ac):Prop where
 at_:Mw K (.ref C) m=some (some (.ref f))
 fn:Sn K (.ref f)=true
 kp:OA K (.ref f)=true
section
variable {X:Cx}{B_:List (Ac×Obj)}{σ:St}{H:Hp}{s:Af}{a C dx:Ac}{fs:List (Str×V)}{f:Str}{v:V}{A:Ao}{E:Ad->Af->Prop}
theorem bK (I:Inv X B_ σ H s) (e:H a=some (.ins C dx fs)) (c:Cls X.K C) (n:NoAttr X.K C f) (l:fs.lookup f=some v) (h:∀ u s',Inv X B_ σ H s'->RelV v u->Q u s'):wpAny (Aj X.prog X.w) A (getAttr (.ref a) f b) Q E s:=by
 obtain⟨mA,O,r,_,_,_⟩:=SQ I.hok e
 obtain⟨u,hu,ru⟩:=RelO.some_of (v:=v) (o:=mA f) (by rw[<- l];exact r f)
 exact bG I.kIn O (c.get f) c.hd n hu (Vz ru) (h u _ (I.tok _) ru)
theorem VA (I:Inv X B_ σ H s) (e:H a=some (.ins C dx fs)) (c:Cls X.K C) (k:Meth X.K C m g) (l:fs.lookup m=none) (h:Q (.ref g,[.ref a]) s):wpAny (Aj X.prog X.w) A (Bq (.ref a) m pl) Q E s:=by
 obtain⟨mA,O,r,_,_,_⟩:=SQ I.hok e
 have hn:mA m=none:=RelO.none_of (by rw[<- l];exact r m)
 exact bH I.kIn O (c.get m) k.at_ k.fn hn h
theorem bL (I:Inv X B_ σ H s) (e:H a=some (.ins C dx fs)) (c:Cls X.K C) (n:NoAttr X.K C f) (hl:fs.length < 1000) (ry:RelV y u) (h:∀ s',Inv X B_ σ (upd H a (.ins C dx (putF f y fs))) s'->Q () s'):wpAny (Aj X.prog X.w) A (setAttr (.ref a) f u) Q E s:=by
 obtain⟨mA,O,r,wi,_,ho⟩:=SQ I.hok e
 have hz:(fs.map (·.1)).length<=Ae:=by rw[L8,Bu];omega
 refine bI I.kIn O c.sa c.po n.taker c.hd wi hz fun h' O' sb=>h _ ?_
 have hd:∃ o,h'.get? dx=some o:=let ⟨o,_,_,e',_⟩:=O'.ns;⟨o,e'⟩
 refine I.write (x:=a) (e:=dx) (by rw[e];exact True.intro) (.inr ho) (fun b q hb z=>(sb.2 b hb).trans z) hd ?_
 refine⟨by rw[L4 O.ne];exact ho,?_,O.ne,O'.obj,_,O'.ns,fun g=>?_,fun g hg=>?_⟩
 ·have:=Vy f y fs;omega
 ·show RelO ((putF f y fs).lookup g) (if g=f then some u else mA g)
  rw[Vx]
  by_cases q:g=f
  ·rw[B9 q,B9 q];exact ry
  ·rw[B8 q,B8 q];exact r g
 ·by_cases q:g=f
  ·rw[q];exact(SO f y fs).1
  ·refine(SO f y fs).2 g (wi g fun z=>hg ?_)
   show (if g=f then some u else mA g)=none
   rw[B8 q];exact z
theorem Inv.made (I:Inv X B_ σ H s):Inv X B_ σ (upd (upd H s.heap.objs.size (.own (s.heap.objs.size+1))) (s.heap.objs.size+1) (.ins C s.heap.objs.size []))
  { s with heap:=(s.heap.push QT).push (R5 C s.heap.objs.size) }:=by
 have e1:(s.heap.push QT).get? s.heap.objs.size=some QT:=MG s.heap rfl
 have e2:((s.heap.push QT).push (R5 C s.heap.objs.size)).get? (s.heap.objs.size+1)=some (R5 C s.heap.objs.size):=by
  have:=MG (s.heap.push QT) (o:=R5 C s.heap.objs.size) rfl
  rwa [Om] at this
 have e3:(s.heap.push QT).Ns s.heap.objs.size (fun _=>none):=⟨QT,#[],_,e1,rfl,(fun e he=>absurd he (by simp)),fun _=>rfl⟩
 have I1:=I.laid (a:=s.heap.objs.size) (o:=.own (s.heap.objs.size+1)) (h':=s.heap.push QT) (t':=s.toks) (fun b u q=>Mf _ q) (L' _) ⟨_,e1⟩
 refine I1.laid (a:=s.heap.objs.size+1) (o:=.ins C s.heap.objs.size []) (t':=s.toks) (fun b u q=>Mf _ q) (Zu (Om _ _)) ?_
 have ne:s.heap.objs.size≠s.heap.objs.size+1:=MA (UG _)
 refine⟨by rw[L4 ne,LX],ML _,ne,e2,fun _=>none,(ju e3).at fun o q=>Mf _ q,fun _=>True.intro,fun y hy=>absurd rfl hy⟩
theorem VB (hb:AI e f env (As e env)=As e env) (h:wpAny (Aj prog w) A (As e env) (fun o s₁=>wpAny (Aj prog w) A (getAttr o f true) Q E s₁) E s):wpAny (Aj prog w) A (As (.Attribute e f pos) env) Q E s :=
 Attribute_any_ h (by rw[arm_eval_Attribute,hb])
end
def tFld (K:L3)(ta:TE)(f:Str):TE:=fun σ H Q=>ta σ H fun x H1=>∃ a C dx fs v,x=.ref a/\H1 a=some (.ins C dx fs)/\Cls K C/\NoAttr K C f/\fs.lookup f=some v/\Q v H1
def sFld (K:L3)(ta tv:TE)(f:Str):TS:=fun D σ H=>tv σ H fun y H1=>ta σ H1 fun x H2=>∃ a C dx fs,x=.ref a/\H2 a=some (.ins C dx fs)/\Cls K C/\NoAttr K C f/\fs.length < 1000 /\
 D.nx σ (upd H2 a (.ins C dx (putF f y fs)))
section
variable {X:Cx}{o e value:Ax}{f:Str}{pos pos' tpos:Pos}{ta tv:TE}
theorem Np (he:PE X e ta)(hb:AI e f X.env (As e X.env)=As e X.env):PE X (.Attribute e f pos) (tFld X.K ta f):=by
 intro B_ s σ H Q I h
 refine VB hb (thn (he B_ s σ H _ I h) fun u s1 ⟨x,H1,I1,rx,a,C,dx,fs,v,ex,ea,c,n,l,q⟩=>?_)
 subst ex
 obtain rfl:u=Value.ref a:=rx
 exact bK I1 ea c n l fun u' s2 I2 ru=>⟨v,H1,I2,ru,q⟩
theorem OW (ha:PE X o ta)(hv:PE X value tv)(hs:Bo value (some (.Attribute o f pos')) pos.line X.env=pure false):PS X (.Assign [.Attribute o f pos'] value pos) (sFld X.K ta tv f):=by
 intro B_ s σ H D I h
 refine Bb (thn (hv B_ s σ H _ I h) fun u s1 ⟨y,H1,I1,ry,q⟩=>thn (ha B_ s1 σ H1 _ I1 q) fun ov s2 ⟨x,H2,I2,rx,a,C,dx,fs,ex,ea,c,n,l,q2⟩=>?_) hs
 subst ex
 obtain rfl:ov=Value.ref a:=rx
 exact bL I2 ea c n l ry fun s3 I3=>⟨σ,_,I3,q2⟩
theorem methcall_of (he:PE X e te) (I:Inv X B_ σ H s) (h:te σ H fun x H1=>∃ a C dx fs g,x=.ref a/\H1 a=some (.ins C dx fs)/\Cls X.K C/\Meth X.K C m g/\fs.lookup m=none /\
   ∀ s1,Inv X B_ σ H1 s1->wpAny (Aj X.prog X.w) X.A (BK pos (.ref g) [.ref a] (AA pos (Ah args X.env)) (A_ pos (AS [] X.env))) Q X.xe s1) (ht:As (.Call (.Attribute e m Ct) args [] pos) X.env=(do
   let ov <- As e X.env
   Bm Ct.atName
   let (f,first) <- Bf [ov] (Bq ov m pl)
   BK pos f first (AA pos (Ah args X.env)) (A_ pos (AS [] X.env)))):
  wpAny (Aj X.prog X.w) X.A (As (.Call (.Attribute e m Ct) args [] pos) X.env) Q X.xe s:=by
 refine ZY (pl:=pl) (thn (he B_ s σ H _ I h) fun u s1 ⟨x,H1,I1,rx,a,C,dx,fs,g,ex,ea,c,k,l,q⟩=>?_) ht
 subst ex
 obtain rfl:u=Value.ref a:=rx
 exact VA I1 ea c k l (q s1 I1)
end
section
variable {X:Cx}{B_:List (Ac×Obj)}{σ:St}{H:Hp}{s:Af}{A:Ao}{E:Ad->Af->Prop}{Q:Ad->Af->Prop}{c:Ad}{b:Bool}
inductive TyOf (K:L3) (H:Hp):V->Ad->Prop where
 | non:TyOf K H .non (.type "NoneType")
 | bl (x:Bool):TyOf K H (.bl x) (.type "bool")
 | int (i:Int):TyOf K H (.int i) (.type "int")
 | str (x:Str):TyOf K H (.str x) (.type "str")
 | flt (x:UInt64):TyOf K H (.flt x) (.type "float")
 | lst {a:Ac}{xs:List V} (e:H a=some (.lst xs)):TyOf K H (.ref a) (.type "list")
 | frz {a:Ac}{o:Obj}{xs:List V} (e:H a=some (.frz o (.lst xs))):TyOf K H (.ref a) (.type "list")
 | tup {a:Ac}{xs:List V} (e:H a=some (.tup xs)):TyOf K H (.ref a) (.type "tuple")
 | dK {a:Ac}{B':List (Key×V)} (e:H a=some (.dK B')):TyOf K H (.ref a) (.type "dict")
 | dT {a:Ac}{B':List (List Key×V)} (e:H a=some (.dT B')):TyOf K H (.ref a) (.type "dict")
 | ins {a C dx:Ac}{fs:List (Str×V)} (e:H a=some (.ins C dx fs)) (cl:Cls K C) (ha:Mw K (.ref C) "__class__"=some (some (.builtin "object.__class__")))
   (hn:U2 K (.builtin "object.__class__") "__get__"=some (some (.builtin "getset_descriptor.__get__"))) (D3:PySem.W.takesIn K (.builtin "object.__class__")=some true)
   (hm:U3 K C (.type "object")=some true):TyOf K H (.ref a) (.ref C)
end
structure Room (k:Nat)(A:Ao):Prop where
 hd:A.handled=none
 dp:A.depth+3 * k+5 < recursionLimit
 un:A.units+16 * k+200 < BF
theorem Room.mono (r:Room k A) (h:j<=k):Room j A:=⟨r.hd,by have:=r.dp;omega,by have:=r.un;omega⟩
theorem Room.deeper (r:Room (k+1) A) (env:Env):Room k (A.deeper env) :=
 ⟨r.hd,by have:=r.dp;show A.depth+1+3 * k+5 < _;omega,by have:=r.un;show A.units+3+16 * k+200 < _;omega⟩
theorem bM {A:Ao}{C:Ac}{us:List Ad}{kw:List (Str×Ad)}:(A.under (.builtin "type.__call__" ⟨.ref C::us,kw⟩)).depth=A.depth+1:=by
 first | rfl | simp[aW,Code.weight,Code.isCreation,Code.isGuard,Code.isCaller,Code.frames,aY,guardIds]
theorem bN {A:Ao}{C:Ac}{us:List Ad}{kw:List (Str×Ad)}:(A.under (.builtin "type.__call__" ⟨.ref C::us,kw⟩)).units=A.units+1:=by
 first | rfl | simp[aW,Code.cUnits,Code.frames,aY]
theorem Room.make (r:Room (k+1) A) (C:Ac) (us:List Ad) (kw:List (Str×Ad)):Room k (A.under (.builtin "type.__call__" ⟨.ref C::us,kw⟩)) :=
 ⟨r.hd,by have:=r.dp;rw[bM];omega,by have:=r.un;rw[bN];omega⟩
theorem Room.depth (r:Room k A):A.depth < recursionLimit:=by have:=r.dp;omega
theorem Room.units (r:Room k A):A.units+64 < BF:=by have:=r.un;omega
def tNil:TA:=fun _ H Q=>Q [] H
def SR (ta:TE)(tr:TA):TA:=fun σ H Q=>ta σ H fun x H1=>tr σ H1 fun xs H2=>Q (x::xs) H2
section
variable {X:Cx}{e:Ax}{es:List Ax}{te:TE}{t:TA}{pos:Pos}
theorem pa_nil:PA X [] tNil:=fun _ _ _ _ H Q I h=>UK ⟨[],H,I,.nil,h⟩
theorem LS (ha:PE X e te)(hr:PA X es t)(hs:Ah (e::es) X.env=(false,As e X.env)::Ah es X.env:=by rfl):PA X (e::es) (SR te t):=by
 intro pos B_ s σ H Q I h
 rw[hs]
 show wpAny _ _ (BC ((false,As e X.env)::AA pos (Ah es X.env))) _ _ s
 refine SE (thn (ha B_ s σ H _ I h) fun u s1 ⟨x,H1,I1,r1,q1⟩=>?_)
 exact thn (hr pos B_ s1 σ H1 _ I1 q1) fun us s2 ⟨xs,H2,I2,r2,q2⟩=>⟨x::xs,H2,I2,.cons r1 r2,q2⟩
def tTup (t:TA):TE:=fun σ H Q=>t σ H fun xs H1=>xs.length<=Ae/\∀ p,H1 p=none->Q (.ref p) (upd H1 p (.tup xs))
def tLst (t:TA):TE:=fun σ H Q=>t σ H fun xs H1=>xs.length<=Ae/\∀ p,H1 p=none->Q (.ref p) (upd H1 p (.lst xs))
theorem Sa (h:PA X es t):PE X (.Tuple es x1 pos) (tTup t):=by
 intro B_ s σ H Q I hq
 refine wpAny_Tuple_spliced (thn (h pos B_ s σ H _ I hq) fun us s1 ⟨xs,H1,I1,r,z,q⟩=>⟨by rw[<- r.length];exact z,?_⟩)
 have hf:H1 s1.heap.objs.size=none:=I1.hok.fresh (L' _)
 refine⟨.ref s1.heap.objs.size,upd H1 s1.heap.objs.size (.tup xs),I1.laid (t':=s1.toks) (fun b u e=>Mf _ e) (L' _) ?_,rfl,q _ hf⟩
 exact⟨z,us,r,⟨_,MG _ rfl,rfl,_,rfl⟩,DcN.new _ _⟩
theorem Mp (h:PA X es t):PE X (.List es pos) (tLst t):=by
 intro B_ s σ H Q I hq
 refine wpAny_List_spliced (thn (h pos B_ s σ H _ I hq) fun us s1 ⟨xs,H1,I1,r,z,q⟩=>⟨by rw[<- r.length];exact z,?_⟩)
 have hf:H1 s1.heap.objs.size=none:=I1.hok.fresh (L' _)
 refine⟨.ref s1.heap.objs.size,upd H1 s1.heap.objs.size (.lst xs),I1.laid (t':=s1.toks) (fun b u e=>Mf _ e) (L' _) ?_,rfl,q _ hf⟩
 exact⟨z,us,0,r,MG _ rfl⟩
end
abbrev Sp:=List V->Hp->VK->XK->Prop
abbrev CXT:=List Env->Hp->Af->XK->Ad->Af->Prop
structure Env0 (P:Ak)(w:Am)(K:L3)(mg:Str->Option Ad)(base:Ap)(A:Ao)(outer:List Env)(s:Af)(H:Hp):Prop where
 frames:A.frames=some outer
 mod:Mod K mg base
 bs:∀ b o,base.get? b=some o->s.heap.get? b=some o/\H b=none
 bsz:base.objs.size<=s.heap.objs.size
 funs:s.heap.FunFrames base outer
 frf:∀ b∈frs outer,H b=none
 hok:HOk P w H s.heap
 bare:Bl s.gens
noncomputable def CE (outer:List Env)(P:Ak)(w:Am)(H:Hp)(s:Af)(Q:VK)(u:Ad)(s':Af):Prop :=
 ∃ v H',s'.os=s.os/\Bl s'.gens/\Un (frs outer) [] H H' s.heap s'.heap/\HOk P w H' s'.heap/\RelV v u/\Q v H'
noncomputable def CR (CX:CXT)(outer:List Env)(P:Ak)(w:Am)(H:Hp)(s:Af)(Q:VK)(E:XK)(r:Result)(s':Af):Prop :=
 match r with
 | .ok (.ret u)=>CE outer P w H s Q u s'
 | .ok _=>False
 | .error e=>CX outer H s E e s'
structure FnOk (P:Ak)(w:Am)(K:L3)(mg:Str->Option Ad)(base:Ap)(CX:CXT)(k:Nat)(f:Ac)(fd:Ay)(ps:List Str)(sp:Sp):Prop where
 len:∀ vs H Q E,sp vs H Q E->vs.length=ps.length
 run:∀(A:Ao) (outer:List Env) (s:Af) (H:Hp) (args:Args) (us:List Ad) (vs:List V) (Q:VK) (E:XK),Room k A->Env0 P w K mg base A outer s H->BQ s fd args (ps.zip us)->Vals vs us->sp vs H Q E ->
  codeAny (Aj P w) A (.call (.ref f) args) (CR CX outer P w H s Q E) s
theorem Env0.make {P:Ak}{w:Am}{K:L3}{mg:Str->Option Ad}{base:Ap}{A:Ao}{outer:List Env}{s:Af}{H:Hp}(e:Env0 P w K mg base A outer s H)(C:Ac)(us:List Ad)(kw:List (Str×Ad)) :
  Env0 P w K mg base (A.under (.builtin "type.__call__" ⟨.ref C::us,kw⟩)) outer s H:=⟨by first | exact e.frames | (simpa [aW,Code.envs,aY,pushEnvs] using e.frames),e.mod,e.bs,e.bsz,e.funs,e.frf,e.hok,e.bare⟩
section
variable {X:Cx}{B_:List (Ac×Obj)}{σ:St}{H:Hp}{s s':Af}
theorem Inv.env0 (I:Inv X B_ σ H s):Env0 X.prog X.w X.K X.mg X.base X.A X.stack s H :=
 ⟨I.ok.frames,I.ok.mod,I.bs,MR I.ok.bsz I.sz,I.stack,I.stkFree,I.hok,I.bare⟩
theorem Inv.after (I:Inv X B_ σ H s) (h:CE X.stack X.prog X.w H s Q u s'):EP X B_ σ Q u s':=by
 obtain⟨v,H',os,bare,un,hok,r,q⟩:=h
 obtain⟨hh,g,d,t,os'⟩:=s'
 obtain rfl:os'=s.os:=os
 exact⟨v,H',I.call (h':=hh) (g':=g) (d':=d) (t':=t) (ch:=[]) un hok bare (fun b z=>absurd z (by simp)),r,q⟩
end
def Q2 (sp:Sp)(dvs:List V)(E:XK)(t:TA):TE:=fun σ H Q=>t σ H fun vs H1=>sp (vs++dvs) H1 Q E
def Q3 (C:Ac)(m:Str)(sp:Sp)(dvs:List V)(E:XK)(ta:TE)(t:TA):TE:=fun σ H Q=>ta σ H fun x H1=>∃ a dx fs,x=.ref a/\H1 a=some (.ins C dx fs)/\fs.lookup m=none /\
 t σ H1 fun vs H2=>sp (x::(vs++dvs)) H2 Q E
def PV (C:Ac)(sp:Sp)(dvs:List V)(E:XK)(t:TA):TE:=fun σ H Q=>t σ H fun vs H1=>∀ x dx,H1 x=none->H1 dx=none->dx≠x ->
 sp (.ref x::(vs++dvs)) (upd (upd H1 dx (.own x)) x (.ins C dx [])) (fun v H2=>v=.non/\Q (.ref x) H2) E
noncomputable def Binds (K:L3)(fd:Ay)(ps:List Str)(ds:List Ad):Prop :=
 ∀(s:Af) (us:List Ad),K.In s.heap->(us++ds).length=ps.length->BQ s fd ⟨us,[]⟩ (ps.zip (us++ds))
theorem Binds.all {K:L3}{fd:Ay}{ps:List Str}(h:∀ us:List Ad,us.length=ps.length->bindArgs fd ⟨us,[]⟩=pure (ps.zip us)):Binds K fd ps []:=fun s us _ hl=>by
 rw[Pr] at hl ⊢
 exact .of_eq (h us hl)
def Os (CX:CXT)(X:Cx)(E:XK):Prop:=∀(B_:List (Ac×Obj)) (σ:St) (H:Hp) (s:Af) (e:Ad) (s':Af),Inv X B_ σ H s->CX X.stack H s E e s'->X.xe e s'
section
variable {X:Cx}{CX:CXT}{k:Nat}{f C:Ac}{fd:Ay}{ps:List Str}{sp:Sp}{dvs:List V}{ds:List Ad}{E:XK}{x m:Str}{p pos Ct:Pos}{e o:Ax}{es:List Ax}{ta:TE}{t:TA}
theorem VC (F:FnOk X.prog X.w X.K X.mg X.base CX k f fd ps sp) (hr:Room k X.A) (hb:Binds X.K fd ps ds) (hd:Vals dvs ds) (hx:Os CX X E) (I:Inv X B_ σ H s) (r:Vals vs us) (h:sp (vs++dvs) H Q E):wpAny (Aj X.prog X.w) X.A (call (.ref f) us) (EP X B_ σ Q) X.xe s:=by
 have r2:Vals (vs++dvs) (us++ds):=r.append hd
 have hl:(us++ds).length=ps.length:=by rw[<- r2.length];exact F.len _ _ _ _ h
 refine Bc (A2 (F.run X.A X.stack s H ⟨us,[]⟩ (us++ds) (vs++dvs) Q E hr I.env0 (hb s us I.kIn hl) r2 h) fun r s' hq=>?_)
 cases r with
 | error e=>exact hx B_ σ H s e s' I hq
 | ok fl =>
  cases fl with
  | ret u=>exact I.after hq
  | next=>exact Oi hq
  | brk=>exact Oi hq
  | cont=>exact Oi hq
theorem VD (F:FnOk X.prog X.w X.K X.mg X.base CX k f fd ps sp)(hr:Room k X.A)(hg:Gl X x)(hm:X.mg x=some (.ref f))(hk:OA X.K (.ref f)=true)(hb:Binds X.K fd ps ds)(hd:Vals dvs ds)(hx:Os CX X E)
  (ha:PA X (e::es) t) (Dl:(x == ("__debug__":Str))=false:=by decide) (he:Ah (e::es) X.env=(false,As e X.env)::Ah es X.env:=by rfl) (Cz:(AA pos (Ah es X.env)).any (·.1)=false:=by rfl) :
  PE X (.Call (.Name x p) (e::es) [] pos) (Q2 sp dvs E t):=by
 intro B_ s σ H Q I h
 refine AC (PN I hg hm ?_ Dl)
 refine U0 (h₀:=X.base) I.ok.mod.kin hk (thn (ha pos B_ s σ H _ I h) fun us s1 ⟨vs,H1,I1,r,q⟩=>⟨I1.kIn,?_⟩) he Cz
 exact VC F hr hb hd hx I1 r q
theorem VE (he:PE X o ta) (c:Cls X.K C) (hm:Meth X.K C m f) (F:FnOk X.prog X.w X.K X.mg X.base CX k f fd ps sp) (hr:Room k X.A) (hb:Binds X.K fd ps ds) (hd:Vals dvs ds) (hx:Os CX X E) (ha:PA X (e::es) t) (C5:Ah (e::es) X.env=(false,As e X.env)::Ah es X.env:=by rfl) (Cz:(AA pos (Ah es X.env)).any (·.1)=false:=by rfl) (ht:As (.Call (.Attribute o m Ct) (e::es) [] pos) X.env=(do
   let ov <- As o X.env
   Bm Ct.atName
   let (f,first) <- Bf [ov] (Bq ov m pl)
   BK pos f first (AA pos (Ah (e::es) X.env)) (A_ pos (AS [] X.env))):=by rfl):
  PE X (.Call (.Attribute o m Ct) (e::es) [] pos) (Q3 C m sp dvs E ta t):=by
 intro B_ s σ H Q I h
 refine ZY (pl:=pl) (thn (he B_ s σ H _ I h) fun u s1 ⟨x,H1,I1,rx,a,dx,fs,ex,ea,l,q⟩=>?_) ht
 subst ex
 obtain rfl:u=Value.ref a:=rx
 refine VA I1 ea c hm l ?_
 refine U0 (first:=[.ref a]) (h₀:=X.base) I.ok.mod.kin hm.kp (thn (ha pos B_ s1 σ H1 _ I1 q) fun us s2 ⟨vs,H2,I2,r,q2⟩=>⟨I2.kIn,?_⟩) C5 Cz
 exact VC (us:=.ref a::us) (vs:=.ref a::vs) F hr hb hd hx I2 (.cons rfl r) q2
structure Mk (K:L3)(C f:Ac):Prop where
 makes:Ux K C=true
 init:Mw K (.ref C) "__init__"=some (some (.ref f))
 fn:Sn K (.ref f)=true
 kp:OA K (.ref C)=true
theorem VF (M:Mk X.K C f) (F:FnOk X.prog X.w X.K X.mg X.base CX k f fd ps sp) (hr:Room (k+1) X.A) (hb:Binds X.K fd ps ds) (hd:Vals dvs ds) (hx:Os CX X E) (I:Inv X B_ σ H s) (r:Vals vs us) (h:∀ x dx,H x=none->H dx=none->dx≠x->sp (.ref x::(vs++dvs)) (upd (upd H dx (.own x)) x (.ins C dx [])) (fun v H2=>v=.non/\Q (.ref x) H2) E):
  wpAny (Aj X.prog X.w) X.A (call (.ref C) us) (EP X B_ σ Q) X.xe s:=by
 have hq:=h (s.heap.objs.size+1) s.heap.objs.size (I.hok.fresh (Qw _)) (I.hok.fresh (L' _)) (MA (UG _))
 have I2:=Inv.made (C:=C) I
 have r2:Vals (V.ref (s.heap.objs.size+1)::(vs++dvs)) (Value.ref (s.heap.objs.size+1)::(us++ds)):=.cons rfl (r.append hd)
 have hl:(Value.ref (s.heap.objs.size+1)::us++ds).length=ps.length:=by
  have e:=r2.length
  rw[F.len _ _ _ _ hq] at e
  exact e.symm
 refine Bc (bJ (f:=f) I.kIn M.makes M.init (beq_iff_eq.mp M.fn) (A2 (F.run _ X.stack _ _ ⟨Value.ref (s.heap.objs.size+1)::us,[]⟩ (Value.ref (s.heap.objs.size+1)::(us++ds)) _ _ E (hr.make C us [])
  (I2.env0.make C us []) (hb _ (Value.ref (s.heap.objs.size+1)::us) I2.kIn hl) r2 hq) fun r s' hq'=>?_))
 cases r with
 | error e=>exact hx B_ σ _ _ e s' I2 hq'
 | ok fl =>
  cases fl with
  | ret u =>
   obtain⟨v,H',I3,rv,ev,q3⟩:=I2.after hq'
   subst ev
   exact⟨rv,⟨V.ref (s.heap.objs.size+1),H',I3,rfl,q3⟩⟩
  | next=>exact Oi hq'
  | brk=>exact Oi hq'
  | cont=>exact Oi hq'
theorem bO (M:Mk X.K C f)(F:FnOk X.prog X.w X.K X.mg X.base CX k f fd ps sp)(hr:Room (k+1) X.A)(hg:Gl X x)(hm:X.mg x=some (.ref C))(hb:Binds X.K fd ps ds)(hd:Vals dvs ds)(hx:Os CX X E)
  (ha:PA X (e::es) t) (Dl:(x == ("__debug__":Str))=false:=by decide) (he:Ah (e::es) X.env=(false,As e X.env)::Ah es X.env:=by rfl) (Cz:(AA pos (Ah es X.env)).any (·.1)=false:=by rfl) :
  PE X (.Call (.Name x p) (e::es) [] pos) (PV C sp dvs E t):=by
 intro B_ s σ H Q I h
 refine AC (PN I hg hm ?_ Dl)
 refine U0 (h₀:=X.base) I.ok.mod.kin M.kp (thn (ha pos B_ s σ H _ I h) fun us s1 ⟨vs,H1,I1,r,q⟩=>⟨I1.kIn,?_⟩) he Cz
 exact VF M F hr hb hd hx I1 r q
theorem bP (M:Mk X.K C f)(F:FnOk X.prog X.w X.K X.mg X.base CX k f fd ps sp)(hr:Room (k+1) X.A)(hg:Gl X x)(hm:X.mg x=some (.ref C))(hb:Binds X.K fd ps ds)(hd:Vals dvs ds)(hx:Os CX X E)
  (Dl:(x == ("__debug__":Str))=false:=by decide):PE X (.Call (.Name x p) [] [] pos) (PV C sp dvs E tNil):=by
 intro B_ s σ H Q I h
 refine AC (PN I hg hm ?_ Dl)
 exact PySem.W.callWith_K0 I.kIn M.kp (VF (us:=[]) M F hr hb hd hx I .nil h)
end
section
variable {X:Cx}{CX:CXT}{k:Nat}{f C:Ac}{fd:Ay}{ps ks:List Str}{sp:Sp}{E:XK}{x m:Str}{p pos Ct kpos:Pos}{e o:Ax}{es:List Ax}{kws:List Bv}{te ta:TE}{t tk:TA}{nm:Option Str}
structure KBinds (K:L3)(fd:Ay)(ps ks:List Str)(g:List Ad->List Ad->List Ad)(gV:List V->List V->List V):Prop where
 to:∀(s:Af) (us ws:List Ad),K.In s.heap->(g us ws).length=ps.length->BQ s fd ⟨us,ks.zip ws⟩ (ps.zip (g us ws))
 rel:∀{vs:List V}{us:List Ad}{zs:List V}{ws:List Ad},Vals vs us->Vals zs ws->Vals (gV vs zs) (g us ws)
variable {g:List Ad->List Ad->List Ad}{gV:List V->List V->List V}
end
structure FnScope (N P:List Str)(sc:Bt):Prop where
 kind:sc.kind=.function
 co:sc.isCoroutine=false
 gen:sc.isGenerator=false
 nd:N.Nodup
 pre:N.take P.length=P
 par:∀ x∈P,sc.names.lookup x=some .local∨sc.names.lookup x=some .cell
 nofree:∀ y∈sc.names,y.2≠.free
theorem VG {kindOf:Str->Option AW}{x:Str}:∀{binds:List (Str×Ad)}{m:Str->Option Ad},(∀ v,(x,v)∉binds)->bindL kindOf binds m x=m x
 | [],_,_=>rfl
 | (n,v)::r,m,h=>by
  unfold bindL
  rw[VG fun w hw=>h w (MP _ hw)]
  split
  ·have:x≠n:=by rintro rfl;exact h v MV
   simp[this]
  ·rfl
theorem VH {kindOf:Str->Option AW}{x:Str}:∀{binds:List (Str×Ad)}{m:Str->Option Ad},(∀ v,(x,v)∉binds)->bindC kindOf binds m x=m x
 | [],_,_=>rfl
 | (n,v)::r,m,h=>by
  unfold bindC
  rw[VH fun w hw=>h w (MP _ hw)]
  split
  ·rfl
  ·have:x≠n:=by rintro rfl;exact h v MV
   simp[this]
theorem VI {kindOf:Str->Option AW}{x:Str}{v:Ad}:∀{P:List Str}{vs:List Ad}{i:Nat}{m:Str->Option Ad},P.Nodup->P[i]?=some x->vs[i]?=some v->kindOf x=some .local ->
  bindL kindOf (P.zip vs) m x=some v
 | [],_,_,_,_,h,_,_=>by simp at h
 | _::_,[],_,_,_,_,h,_=>by simp at h
 | p::P,w::vs,0,m,nd,h1,h2,hk=>by
  simp at h1 h2;subst h1;subst h2
  show bindL kindOf ((p,w)::P.zip vs) m p=_
  unfold bindL
  rw[VG fun v hv=>(U7.mp nd).1 (ak hv).1,B9 hk]
  simp
 | p::P,w::vs,i+1,m,nd,h1,h2,hk=>by
  show bindL kindOf ((p,w)::P.zip vs) m x=_
  unfold bindL
  exact VI (i:=i) (U7.mp nd).2 (by simpa using h1) (by simpa using h2) hk
theorem VJ {kindOf:Str->Option AW}{x:Str}{v:Ad}:∀{P:List Str}{vs:List Ad}{i:Nat}{m:Str->Option Ad},P.Nodup->P[i]?=some x->vs[i]?=some v->kindOf x≠some .local ->
  bindC kindOf (P.zip vs) m x=some v
 | [],_,_,_,_,h,_,_=>by simp at h
 | _::_,[],_,_,_,_,h,_=>by simp at h
 | p::P,w::vs,0,m,nd,h1,h2,hk=>by
  simp at h1 h2;subst h1;subst h2
  show bindC kindOf ((p,w)::P.zip vs) m p=_
  unfold bindC
  rw[VH fun v hv=>(U7.mp nd).1 (ak hv).1,B8 hk]
  simp
 | p::P,w::vs,i+1,m,nd,h1,h2,hk=>by
  show bindC kindOf ((p,w)::P.zip vs) m x=_
  unfold bindC
  exact VJ (i:=i) (U7.mp nd).2 (by simpa using h1) (by simpa using h2) hk
noncomputable def start (N:List Str)(vs:List V):St:=vs.map some++MD (N.length - vs.length) none
noncomputable def cxOf (CX:CXT)(P:Ak)(w:Am)(K:L3)(mg:Str->Option Ad)(base:Ap)(N:List Str)(Ci:Str)(scope:Bt)(f:Ac)(cd:Ad)(A:Ao)(outer:List Env)(s:Af)(H:Hp)(E:XK):Cx where
 prog:=P
 w:=w
 K:=K
 mg:=mg
 base:=base
 A:=A.deeper (Br Ci scope s.heap.objs.size f cd)
 N:=N
 s₀:=s
 H₀:=H
 env:=Br Ci scope s.heap.objs.size f cd
 outer:=outer
 stack:=Br Ci scope s.heap.objs.size f cd::outer
 ex:=[]
 calm:=true
 fn:=fun _=>true
 pn:=[]
 xe:=fun e s'=>wpAny (Aj P w) (A.deeper (Br Ci scope s.heap.objs.size f cd)) (leaving (Br Ci scope s.heap.objs.size f cd) e) (fun _ s''=>CX outer H s E e s'') (fun e' s''=>CX outer H s E e' s'') s'
theorem VL {sc:Bt}{n:Nat}{x:Str}(h:sc.names.lookup x=some .cell):∃ c,(cellsFrom n sc.names []).lookup x=some c:=by
 have q:=iP sc.names n [] (.inl h)
 exact Option.isSome_iff_exists.mp q
theorem bQ {CX:CXT}{P:Ak}{w:Am}{K:L3}{mg:Str->Option Ad}{base:Ap}{N ps:List Str}{Ci:Str}{scope:Bt}{f:Ac}{cd:Ad}{A:Ao}{outer:List Env}{s s1:Af}{H:Hp}{E:XK}{us:List Ad}{vs:List V}
  (S:FnScope N ps scope) (hd:A.handled=none) (e0:Env0 P w K mg base A outer s H) (hl:vs.length=ps.length) (r:Vals vs us)
  (x:InCallC s s.heap.objs.size (bindL (Br Ci scope s.heap.objs.size f cd).kindOf (ps.zip us) fun _=>none) (cellsFrom (s.heap.objs.size+1) scope.names []) (bindC (Br Ci scope s.heap.objs.size f cd).kindOf (ps.zip us) fun _=>none) s1) :
  Inv (cxOf CX P w K mg base N Ci scope f cd A outer s H E) [] (start N vs) H s1:=by
 have Cz:ps.length<=N.length:=by have:=congrArg R9 S.pre;rw[MI] at this;omega
 obtain⟨h1,tk,rfl,hk⟩:=x.done
 have noA:∀ b:Ac,b∉(cxOf CX P w K mg base N Ci scope f cd A outer s H E).ex:=fun b z=>absurd (show b∈([]:List Ac) from z) (by simp)
 refine⟨⟨e0.mod,S.kind,rfl,rfl,L' _,fun y z c h1 h2=>?_,fun y hy=>?_,fun y c _ h=>?_,fun _=>hd,Around.frames_deeper e0.frames,.inr ⟨rfl,rfl⟩,fun b z=>absurd z (noA b),e0.bs,e0.bsz,fun b _ _=>noA b,fun b z=>absurd z (noA b),e0.funs,e0.frf⟩,
  rfl,e0.bare,Un.kept hk,⟨_,x.toInCall.ns,fun i y v h1 h2 h3=>?_⟩,fun y c h=>⟨_,x.cell y c h⟩,e0.hok.fresh (L' _),fun y c h=>?_,fun p hp=>absurd (show p∈([]:List (Ac×Obj)) from hp) (by simp),e0.hok.kept hk,?_⟩
 ·exact name_of_addr x.apart (Ve h1) (Ve h2)
 ·have hy:scope.names.lookup y=some .cell∨scope.names.lookup y=some .free:=hy
  rcases hy with hy | hy
  ·exact VL hy
  ·exact absurd rfl (S.nofree _ (Ve hy))
 ·exact ON (x.above y c (Ve h))
 ·have hi:i < vs.length:=by
   unfold start at h2
   by_cases hi:i < vs.length
   ·exact hi
   ·rw[List.getElem?_append_right (by simpa using hi)] at h2
    rw[iY] at h2
    split at h2 <;> cases h2
  have ha:vs[i]?=some v:=by
   unfold start at h2
   rw[Z6 (by simpa using hi),MC] at h2
   cases e:vs[i]? with
   | none=>rw[e] at h2;cases h2
   | some a=>rw[e] at h2;cases h2;rfl
  obtain⟨u,hu,rv⟩:=r.get ha
  have hp:ps[i]?=some y:=by
   rw[<- S.pre,List.getElem?_take_of_lt (by omega)];exact h1
  have ndP:ps.Nodup:=by rw[<- S.pre];exact S.nd.sublist (List.take_sublist _ _)
  refine⟨u,rv,?_⟩
  rcases S.par y (OB hp) with k | k
  ·exact .inl ⟨k,VI ndP hp hu k⟩
  ·obtain⟨c,e⟩:=VL (n:=s.heap.objs.size+1) k
   refine .inr ⟨.inl k,c,e,?_⟩
   have q:=x.cell y c e
   rw[VJ ndP hp hu (by show scope.names.lookup y≠_;rw[k];decide)] at q
   exact q
 ·exact e0.hok.fresh (ON (x.above y c (Ve h)))
 ·unfold start
  show _=N.length
  rw[Mn,L8,Z9]
  omega
theorem fn_of {CX:CXT}{P:Ak}{w:Am}{K:L3}{mg:Str->Option Ad}{base:Ap}{k:Nat}{f:Ac}{name Ci:Str}{params:Arguments}{body:List Av}{scope:Bt}{dV kV doc pm cdv ct oc:Ad}{an od:Option Ac}
  {osl:Array (Option Ad)}{N ps:List Str}{sp:Sp} (lk:K.lookup f=some ⟨oc,od,.func (R6 name Ci params body scope dV kV doc pm an cdv ct),osl⟩) (Ez:Ze K cdv Ci=true) (S:FnScope N ps scope)
  (len:∀ vs H Q E,sp vs H Q E->vs.length=ps.length)
  (Dq:∀(A:Ao) (outer:List Env) (s:Af) (H:Hp) (vs:List V) (Q:VK) (E:XK),Room k (A.deeper (Br Ci scope s.heap.objs.size f cdv))->sp vs H Q E ->
   ∃ t,PSs (cxOf CX P w K mg base N Ci scope f cdv A outer s H E) body t/\t { nx:=fun _ H'=>Q .non H',rt:=Q } (start N vs) H) :
  FnOk P w K mg base CX (k+1) f (R6 name Ci params body scope dV kV doc pm an cdv ct) ps sp:=by
 refine⟨len,fun A outer s H args us vs Q E hr e0 hb r DY=>?_⟩
 have hl:=len _ _ _ _ DY
 have KX:K.In s.heap:=e0.mod.kin.keeps fun b o e=>(e0.bs b o e).1
 have lim:s.heap.NoLimit:=e0.mod.nolimit.keeps fun b o e=>(e0.bs b o e).1
 have GM:∀ y∈ps.zip us,scope.names.lookup y.1=some .local∨(scope.names.lookup y.1=some .cell/\((cellsFrom (s.heap.objs.size+1) scope.names []).lookup y.1).isSome=true):=fun⟨n,v⟩ hy=>by
  rcases S.par n (ak hy).1 with q | q
  ·exact .inl q
  ·exact .inr ⟨q,iP _ _ _ (.inl q)⟩
 refine codeAny_call_function hr.depth (KX _ _ lk) rfl S.co S.gen rfl (PySem.W.codeRec_of KX Ez) (hb _ _ _ _ ?_)
 refine wpAny_newFunctionEnv_cells S.kind GM fun env he s1 x=>?_
 subst he
 refine⟨lim.keeps x.toInCall.keep,codeAny_func ?_⟩
 obtain⟨t,ht,hq⟩:=Dq A outer s H vs Q E (hr.deeper _) DY
 have I:Inv (cxOf CX P w K mg base N Ci scope f cdv A outer s H E) [] (start N vs) H s1:=bQ S hr.hd e0 hl r x
 refine An (ht [] s1 (start N vs) H _ I hq) (fun fl s' hs=>?_) fun e s' hs=>hs
 have fin:∀{σ':St}{H':Hp}{v:V}{u:Ad},Inv (cxOf CX P w K mg base N Ci scope f cdv A outer s H E) [] σ' H' s'->RelV v u->Q v H'->CE outer P w H s Q u s' :=
  fun{σ' H' v u} J rv q=>⟨v,H',J.os,J.bare,J.base,J.hok,rv,q⟩
 cases fl with
 | ret u =>
  obtain⟨v,σ',H',J,rv,q⟩:=hs
  exact fin J rv q
 | next =>
  obtain⟨σ',H',J,q⟩:=hs
  exact fin (v:=V.non) (u:=Value.none) J rfl q
 | brk =>
  obtain⟨_,_,_,q⟩:=hs
  exact Oi q
 | cont =>
  obtain⟨_,_,_,q⟩:=hs
  exact Oi q
section
variable {X:Cx}{x:Str}{p pos:Pos}{e:Ax}{es:List Ax}{t:TA}{id T:String}{r:List V->Hp->VK->Prop}
def tCB (r:List V->Hp->VK->Prop)(t:TA):TE:=fun σ H Q=>t σ H fun vs H1=>r vs H1 Q
theorem bR (hc:CallR X (.builtin id) r)(hg:Gl X x)(hm:X.mg x=none)(hv:AL x=some (.builtin id))(ha:PA X (e::es) t)(hn:x≠"__name__":=by decide)(Dl:(x == ("__debug__":Str))=false:=by decide)
  (he:Ah (e::es) X.env=(false,As e X.env)::Ah es X.env:=by rfl) (Cz:(AA pos (Ah es X.env)).any (·.1)=false:=by rfl):PE X (.Call (.Name x p) (e::es) [] pos) (tCB r t):=by
 intro B_ s σ H Q I h
 refine AC (QC I hg hm hv ?_ hn Dl)
 exact je (thn (ha pos B_ s σ H _ I h) fun us s1 ⟨vs,H1,I1,r1,q1⟩=>hc B_ s1 σ H1 vs us Q I1 r1 q1) he Cz
theorem bS (hc:CallR X (.type T) r)(hg:Gl X x)(hm:X.mg x=none)(hv:AL x=some (.type T))(ha:PA X (e::es) t)(hn:x≠"__name__":=by decide)(Dl:(x == ("__debug__":Str))=false:=by decide)
  (he:Ah (e::es) X.env=(false,As e X.env)::Ah es X.env:=by rfl) (Cz:(AA pos (Ah es X.env)).any (·.1)=false:=by rfl):PE X (.Call (.Name x p) (e::es) [] pos) (tCB r t):=by
 intro B_ s σ H Q I h
 refine AC (QC I hg hm hv ?_ hn Dl)
 exact UJ (thn (ha pos B_ s σ H _ I h) fun us s1 ⟨vs,H1,I1,r1,q1⟩=>hc B_ s1 σ H1 vs us Q I1 r1 q1) he Cz
end
end L2
namespace HT
open PySem PyProof.Rows
section
open PySem.SeqAt
open PySem.AutoSeq1 (wpAny_loadPart')
open PySem.MeetsSeq PySem.MeetsSeq2 PySem.MeetsSeq3
end
section
variable {prog:Ak}{w:Am}{A:Ao}{E:Ad->Af->Prop}{s:Af}
theorem cat_tup (ht:IsTup s.heap t vs.toArray) (hb:IsTup s.heap b ws.toArray) (hv:vs≠[]) (h1:ws=[]->Q (.ref t) s) (h2:ws≠[]->Q (.ref s.heap.objs.size) { s with heap:=s.heap.push { cls:=.type "tuple",data:=.seq (vs++ws).toArray } }) (hsz:vs.length+ws.length<=Ae):wpAny (Aj prog w) A (AJ .Add (.ref t) (.ref b)) Q E s:=by
 obtain⟨⟨cls,dd,data,sl⟩,ho,hc,n,hd⟩:=id ht
 obtain⟨⟨cls2,dd2,data2,sl2⟩,HG,Gy,n2,CI⟩:=id hb
 simp only at hc hd Gy CI
 subst hc hd Gy CI
 have e:vs.toArray++ws.toArray=(vs++ws).toArray:=by simp
 by_cases hw:ws=[]
 ·exact concat_meets ⟨_,ho,rfl⟩ ⟨_,HG,rfl⟩ noFill_tuple_add seq_tuple_add jc i8 (i7 _ _)
   (tuple_addW1 t b vs.toArray ws.toArray n n2 dd dd2 sl sl2 (by simpa using hv) (by simp[hw])) ⟨ho,HG,h1 hw⟩
 ·refine concat_meets ⟨_,ho,rfl⟩ ⟨_,HG,rfl⟩ noFill_tuple_add seq_tuple_add jc i8 (i7 _ _)
   (tuple_addW2 t b vs.toArray ws.toArray n n2 dd dd2 sl sl2 (by simpa using hv) (by simpa using hw) (by rw[MH,MH];exact hsz)) ⟨ho,HG,?_⟩
  rw[e]
  exact h2 hw
noncomputable def sIx (n d:Nat):Option Int->Nat
 | none=>d
 | some v=>if v < 0 then (v+(n:Int)).toNat else min v.toNat n
theorem sIx_le (n d:Nat)(hd:d<=n)(o:Option Int):sIx n d o<=n:=by
 cases o with
 | none=>exact hd
 | some v =>
  show (if v < 0 then (v+(n:Int)).toNat else min v.toNat n)<=n
  by_cases hv:v < 0
  ·rw[B9 hv];omega
  ·rw[B8 hv];exact Nat.min_le_right _ _
theorem VM (v:Int)(n d:Nat):(if v < 0 then max (v+(n:Int)) 0 else min v (n:Int))=((sIx n d (some v):Nat):Int):=by
 show (if v < 0 then max (v+(n:Int)) 0 else min v (n:Int))=(((if v < 0 then (v+(n:Int)).toNat else min v.toNat n):Nat):Int)
 by_cases hv:v < 0
 ·simp only[B9 hv];omega
 ·simp only[B8 hv];omega
theorem bU (lo hi:Option Int)(n:Nat):aQ lo hi 1 (n:Int)=(((sIx n 0 lo:Nat):Int),((sIx n n hi:Nat):Int)):=by
 have h1:¬ ((1:Int) < 0):=by omega
 unfold aQ
 simp only[h1,if_false]
 refine Prod.ext ?_ ?_
 ·cases lo with
  | none=>rfl
  | some v=>exact VM v n 0
 ·cases hi with
  | none=>rfl
  | some v=>exact VM v n n
theorem bW (i j:Nat):ZD (i:Int) (j:Int) 1=j - i:=by
 unfold ZD
 have h1:(1:Int) > 0:=by omega
 simp only[h1,if_true,Int.ediv_one]
 split <;> omega
theorem VN (p:IsPart v o) (h:Q o s):wpAny (Aj prog w) A (Builtin.Slice.slicePartIndex v) Q E s:=by
 cases p with
 | none=>exact slicePart_none h
 | int i t=>exact slicePart_int h
theorem bX {sl:Ac}{vl vu:Ad}{lo hi:Option Int}{n:Nat}{Q:Int×Int×Nat->Af->Prop}(hs:s.heap.IsSliceOf sl vl vu .none)(pl:IsPart vl lo)(pu:IsPart vu hi)
  (h:Q (((sIx n 0 lo:Nat):Int),1,sIx n n hi - sIx n 0 lo) s):wpAny (Aj prog w) A (jj (.ref sl) (pure (n:Int))) Q E s:=by
 obtain⟨os,GN,JH,HH⟩:=id hs
 unfold jj Builtin.Slice.sliceFields
 refine Aa (Aa (Aw GN HH (x:=vl) rfl (Aa (Aw GN HH (x:=vu) rfl (Aa (Aw GN HH (x:=.none) rfl (Ag ?_)))))))
 refine Aa (slicePart_none ?_)
 show wpAny _ _ (if ((1:Int) == 0)=true then _ else _) _ _ s
 rw[B8 (by decide)]
 refine Aa (VN pl (Aa (VN pu (Aa (Ag ?_)))))
 show wpAny _ _ (match aQ lo hi 1 (n:Int) with | (lo,hi)=>pure (lo,(1:Int),ZD lo hi 1)) _ _ s
 rw[bU lo hi n]
 show wpAny _ _ (pure (((sIx n 0 lo:Nat):Int),(1:Int),ZD ((sIx n 0 lo:Nat):Int) ((sIx n n hi:Nat):Int) 1)) _ _ s
 rw[bW]
 exact Ag h
theorem bY (xs:Array Ad)(i k:Nat):((Nj k).filterMap fun(m:Nat)=>xs[((i:Int)+(m:Int) * 1).toNat]?).toArray=((xs.toList.drop i).take k).toArray:=by
 have e:(fun(m:Nat)=>xs[((i:Int)+(m:Int) * 1).toNat]?)=fun m=>xs[i+m]?:=by
  funext m
  have:((i:Int)+(m:Int) * 1).toNat=i+m:=by omega
  rw[this]
 rw[e]
 have:=pick_run xs i k
 rw[List.filterMap_map] at this
 have e2:((fun x=>xs[x]?)∘fun x=>i+x)=fun m=>xs[i+m]?:=rfl
 rw[e2] at this
 rw[this]
theorem getItem_tuple_cut {t sl:Ac}{items:Array Ad}{vl vu:Ad}{lo hi:Option Int}{Q:Ad->Af->Prop}(ht:IsTup s.heap t items)(hs:s.heap.IsSliceOf sl vl vu .none)(pl:IsPart vl lo)(pu:IsPart vu hi)
  (hw:¬ (sIx items.size 0 lo=0/\sIx items.size items.size hi=items.size))
  (h:Q (.ref s.heap.objs.size) { s with heap:=s.heap.push { cls:=.type "tuple",data:=.seq ((items.toList.drop (sIx items.size 0 lo)).take (sIx items.size items.size hi - sIx items.size 0 lo)).toArray } })
  (hsz:items.size<=Ae):wpAny (Aj prog w) A (Bw (.ref t) (.ref sl)) Q E s:=by
 have Es:sizeOk (.seq ((items.toList.drop (sIx items.size 0 lo)).take (sIx items.size items.size hi - sIx items.size 0 lo)).toArray):=by
  show ((items.toList.drop (sIx items.size 0 lo)).take (sIx items.size items.size hi - sIx items.size 0 lo)).toArray.size<=Ae
  rw[MH,MI,NN,aS]
  omega
 have hj:sIx items.size items.size hi<=items.size:=sIx_le _ _ (L' _) hi
 obtain⟨os,GN,JH,HH⟩:=id hs
 have GO:s.TypeIs (.ref sl) "slice":=⟨os,GN,JH⟩
 unfold Bw
 try with_reducible refine AN ?_
 first | refine Aa (Ag ?_) | skip
 refine Aa (wpAny_sequenceKey ht.typeIs (by decide) ?_)
 refine Aa (AK (name:=Mg "__getitem__") ht.typeIs aK
  (A3 aK ht.typeIs entry_tuple_getitem ?_ (args_tuple_getitem _ _)))
 show wpAny _ _ (Builtin.Tuple.tupleItemsOf (.ref t) >>= _) _ _ s
 refine Aa (tupleItemsOf_ ht ?_)
 refine Aa (wpAny_typeOf GO ?_)
 rw[B9 (by decide)]
 refine Aa (bX hs pl pu ?_)
 have DH:¬ ((((sIx items.size 0 lo:Nat):Int) == 0&&(1:Int) == 1&&(sIx items.size items.size hi - sIx items.size 0 lo) == items.size)=true):=by
  intro q
  rw[MQ,MQ] at q
  have q1:((sIx items.size 0 lo:Nat):Int)=0:=eq_of_beq q.1.1
  have q2:sIx items.size items.size hi - sIx items.size 0 lo=items.size:=eq_of_beq q.2
  exact hw ⟨by omega,by omega⟩
 show wpAny _ _ (if (((sIx items.size 0 lo:Nat):Int) == 0&&(1:Int) == 1&&(sIx items.size items.size hi - sIx items.size 0 lo) == items.size)=true then _ else _) _ _ s
 rw[B8 DH,bY]
 first
  | exact Aa (m:=ZE _) (AD (Ag ⟨_,rfl,Ag h⟩) Es)
  | exact Aa (m:=ZE _) (AD (Aa (Ag (Ag ⟨_,rfl,Ag h⟩))) Es)
  | exact Aa (Aa (m:=ZE _) (AD (Ag (Ag ⟨_,rfl,Ag h⟩)) Es))
  | exact Aa (Aa (m:=ZE _) (AD (Ag ⟨_,rfl,Ag h⟩) Es))
end
end HT
namespace L2
open PySem PySem.Spec PyProof.Rows
abbrev TO:=St->Hp->(Option Int->Hp->Prop)->Prop
noncomputable def PO (X:Cx)(e:Option Ax)(t:TO):Prop :=
 ∀(B_:List (Ac×Obj)) (s:Af) (σ:St) (H:Hp) (Q:Option Int->Hp->Prop),Inv X B_ σ H s->t σ H Q ->
  wpAny (Aj X.prog X.w) X.A (evalPart e X.env) (fun u s'=>∃ o H',Inv X B_ σ H' s'/\IsPart u o/\Q o H') X.xe s
def VO:TO:=fun _ H Q=>Q none H
def tPart (t:TE):TO:=fun σ H Q=>t σ H fun x H1=>∃ i,x=.int i/\Q (some i) H1
section
variable {X:Cx}{e:Ax}{te:TE}{lo hi:Option Ax}{tl th:TO}{pos p2:Pos}
theorem MX:PO X none VO:=by
 intro B_ s σ H Q I h
 rw[evalPart_none]
 exact Ag ⟨none,H,I,.none,h⟩
theorem MF (h:PE X e te):PO X (some e) (tPart te):=by
 intro B_ s σ H Q I hw
 rw[evalPart_some]
 refine thn (h B_ s σ H _ I hw) fun u s1 ⟨x,H1,I1,r1,q1⟩=>?_
 obtain⟨i,rfl,q⟩:=q1
 obtain⟨t,rfl⟩:=r1
 exact⟨some i,H1,I1,.int i t,q⟩
noncomputable def SlR (X:Cx)(r:V->Option Int->Option Int->Hp->VK->Prop):Prop :=
 ∀(B_:List (Ac×Obj)) (s:Af) (σ:St) (H:Hp) (x:V) (v vl vu:Ad) (lo hi:Option Int) (sl:Ac) (Q:VK),Inv X B_ σ H s->RelV x v->s.heap.IsSliceOf sl vl vu .none->IsPart vl lo->IsPart vu hi->r x lo hi H Q ->
  ∃ T id,AY (.type T) "__getitem__"=pure (some (.builtin id))/\s.TypeIs v T/\wpAny (Aj X.prog X.w) X.A (Bw v (.ref sl)) (EP X B_ σ Q) X.xe s
def tSl (r:V->Option Int->Option Int->Hp->VK->Prop)(te:TE)(tl th:TO):TE:=fun σ H Q=>te σ H fun x H1=>tl σ H1 fun l H2=>th σ H2 fun u H3=>r x l u H3 Q
theorem MM (hr:SlR X r) (he:PE X e te) (hl:PO X lo tl) (hu:PO X hi th):PE X (.Subscript e (.Slice lo hi none p2) pos) (tSl r te tl th):=by
 intro B_ s σ H Q I h
 refine Subscript_ (thn (he B_ s σ H _ I h) fun v s1 ⟨x,H1,I1,r1,q1⟩=>?_)
 refine wpAny_Slice (thn (hl B_ s1 σ H1 _ I1 q1) fun vl s2 ⟨l,H2,I2,pl,q2⟩=>thn (hu B_ s2 σ H2 _ I2 q2) fun vu s3 ⟨u,H3,I3,pu,q3⟩=>?_)
 rw[evalPart_none]
 refine Ag ?_
 have I4:Inv X B_ σ H3 { s3 with heap:=s3.heap.push { cls:=.type "slice",data:=.fields #[vl,vu,.none] } }:=I3.kept (t':=s3.toks) fun b ob q=>Mf _ q
 obtain⟨T,id,hT,ht,hg⟩:=hr B_ { s3 with heap:=s3.heap.push { cls:=.type "slice",data:=.fields #[vl,vu,.none] } } σ H3 x v vl vu l u s3.heap.objs.size Q I4 r1 (Heap.IsSliceOf.new ..) pl pu q3
 show wpAny (Aj X.prog X.w) X.A (BW e (.Slice lo hi none p2) v (.ref s3.heap.objs.size)) (EP X B_ σ Q) X.xe { s3 with heap:=s3.heap.push { cls:=.type "slice",data:=.fields #[vl,vu,.none] } }
 exact tail_any (ops:=[.ref s3.heap.objs.size,v]) ht hT hg (by with_unfolding_all rfl)
noncomputable def cutV (xs:List V)(lo hi:Option Int):List V:=(xs.drop (HT.sIx xs.length 0 lo)).take (HT.sIx xs.length xs.length hi - HT.sIx xs.length 0 lo)
theorem VQ (xs:List V)(lo hi:Option Int):(cutV xs lo hi).length<=xs.length:=by
 unfold cutV
 rw[MI,NN]
 omega
def rSlT (K:L3):V->Option Int->Option Int->Hp->VK->Prop:=fun x lo hi H Q=>∃ a xs,x=.ref a/\SqT K H a xs /\
 ¬ (HT.sIx xs.length 0 lo=0/\HT.sIx xs.length xs.length hi=xs.length)/\∀ p,H p=none->Q (.ref p) (upd H p (.tup (cutV xs lo hi)))
theorem sl_tup:SlR X (rSlT X.K):=by
 intro B_ s σ H x v vl vu lo hi sl Q I rx hs pl pu h
 obtain⟨a,xs,rfl,hx,hw,q⟩:=h
 cases rx
 obtain⟨its,r,ht,hz⟩:=I.tuple hx
 have Cd:its.toArray.size=xs.length:=by rw[MH];exact r.length.symm
 refine⟨"tuple",_,aK.lookup,ht.typeIs,?_⟩
 refine HT.getItem_tuple_cut ht hs pl pu (by rw[Cd];exact hw) ?_ (by rw[Cd];exact hz)
 rw[Cd]
 refine⟨.ref s.heap.objs.size,_,I.laid (t':=s.toks) (o:=.tup (cutV xs lo hi)) (fun b ob q=>Mf _ q) (L' _) ?_,rfl,q _ (I.hok.fresh (L' _))⟩
 exact⟨MR (VQ xs lo hi) hz,_,(r.drop (HT.sIx xs.length 0 lo)).take (HT.sIx xs.length xs.length hi - HT.sIx xs.length 0 lo),IsTup.new _ _,DcN.new _ _⟩
def rCatT (K:L3):R2:=fun x y H Q=>∃ a b xs ys,x=.ref a/\y=.ref b/\SqT K H a xs/\SqT K H b ys/\xs≠[]/\xs.length+ys.length<=Ae /\
 (ys=[]->Q (.ref a) H)/\(ys≠[]->∀ p,H p=none->Q (.ref p) (upd H p (.tup (xs++ys))))
theorem Vals.nil_iff (r:Vals xs us):us=[]↔xs=[]:=by
 cases r with
 | nil=>simp
 | cons _ _=>simp
theorem op_catT:OpR X (AJ .Add) (rCatT X.K):=by
 intro B_ s σ H x y v u Q I rx ry h
 obtain⟨a,b,xs,ys,rfl,rfl,ha,hb,hx,hz,q1,q2⟩:=h
 cases rx
 cases ry
 obtain⟨its,r1,p1,_⟩:=I.tuple ha
 obtain⟨its2,r2,p2,_⟩:=I.tuple hb
 refine HT.cat_tup p1 p2 (fun z=>hx (r1.nil_iff.mp z)) (fun z=>⟨.ref a,H,I,rfl,q1 (r2.nil_iff.mp z)⟩) (fun z=>?_) (by rw[<- r1.length,<- r2.length];exact hz)
 refine⟨.ref s.heap.objs.size,_,I.laid (t':=s.toks) (o:=.tup (xs++ys)) (fun b ob q=>Mf _ q) (L' _) ?_,rfl,q2 (fun w=>z (r2.nil_iff.mpr w)) _ (I.hok.fresh (L' _))⟩
 exact⟨by rw[Mn];exact hz,_,r1.append r2,IsTup.new _ _,DcN.new _ _⟩
end
noncomputable def ixN (n:Nat)(i:Int):Option Nat:=if 0<=i then (if i < n then some i.toNat else none) else if -(n:Int)<=i then some (i+n).toNat else none
noncomputable def atI {α:Type}(xs:List α)(i:Int):Option α:=(ixN xs.length i).bind fun j=>xs[j]?
theorem VR (h:ixN n i=some j):seqIndex? i n=some j/\j < n/\-(n:Int)<=i/\i < n:=by
 unfold ixN at h
 by_cases h0:0<=i
 ·rw[B9 h0] at h
  by_cases h1:i < n
  ·rw[B9 h1] at h
   have e:i.toNat=j:=Option.some.inj h
   exact⟨by rw[seqIndex_of h0 h1,e],by omega,by omega,h1⟩
  ·rw[B8 h1] at h;cases h
 ·rw[B8 h0] at h
  by_cases h1:-(n:Int)<=i
  ·rw[B9 h1] at h
   have e:(i+n).toNat=j:=Option.some.inj h
   exact⟨by rw[B3 (by omega) h1,e],by omega,h1,by omega⟩
  ·rw[B8 h1] at h;cases h
theorem SS (h:atI xs i=some v):∃ j,seqIndex? i xs.length=some j/\xs[j]?=some v/\j < xs.length/\-(xs.length:Int)<=i/\i < xs.length:=by
 unfold atI at h
 cases e:ixN xs.length i with
 | none=>rw[e] at h;cases h
 | some j =>
  rw[e] at h
  obtain⟨h1,h2,h3,h4⟩:=VR e
  exact⟨j,h1,h,h2,h3,h4⟩
theorem PX {α:Type}{xs:List α}{j:Nat}{v:α}(h:xs[j]?=some v):atI xs (j:Int)=some v:=by
 have hj:j < xs.length:=(MS.mp h).1
 have e:ixN xs.length (j:Int)=some j:=by
  unfold ixN
  rw[B9 (by omega),B9 (by omega)];simp
 unfold atI;rw[e];exact h
def VS (b:Ax):Prop:=∀ o i,BL b false o i=operate [o,i] (Bw o i)
noncomputable def IxR (X:Cx)(r:R2):Prop :=
 ∀(value slice:Ax) (B_:List (Ac×Obj)) (s:Af) (σ:St) (H:Hp) (x y:V) (v u:Ad) (Q:VK),Inv X B_ σ H s->RelV x v->RelV y u->r x y H Q ->
  BL slice false v u=operate [v,u] (Bw v u)->wpAny (Aj X.prog X.w) X.A (BW value slice v u) (EP X B_ σ Q) X.xe s
noncomputable def MtR (X:Cx)(id:String)(r:V->List V->Hp->VK->Prop):Prop :=
 ∀(B_:List (Ac×Obj)) (s:Af) (σ:St) (H:Hp) (x:V) (xs:List V) (v:Ad) (us:List Ad) (Q:VK),Inv X B_ σ H s->RelV x v->Vals xs us->r x xs H Q ->
  wpAny (Aj X.prog X.w) X.A (call (.builtin id) (v::us)) (EP X B_ σ Q) X.xe s
section
variable {X:Cx}{a b:Ax}{ta tb:TE}{pos:Pos}
theorem pe_ix (hr:IxR X r) (ha:PE X a ta) (hb:PE X b tb) (hs:VS b):PE X (.Subscript a b pos) (tOp r ta tb):=by
 intro B_ s σ H Q I h
 exact Subscript_ (binT ha hb I h fun v u s2 x y H2 I2 rx ry q=>hr a b B_ s2 σ H2 x y v u Q I2 rx ry q (hs _ _))
def rIxL (K:L3):R2:=fun x y H Q=>∃ p xs i v,x=.ref p/\y=.int i/\SqL K H p xs/\atI xs i=some v/\Q v H
def rIxT (K:L3):R2:=fun x y H Q=>∃ p xs i v,x=.ref p/\y=.int i/\SqT K H p xs/\atI xs i=some v/\Q v H
def rIxS:R2:=fun x y H Q=>∃ z i c,x=.str z/\y=.int i/\z.length<=Ae/\atI z.cps.toList i=some c/\Q (.str ⟨#[c]⟩) H
theorem ix_list:IxR X (rIxL X.K):=by
 intro value slice B_ s σ H x y v u Q I rx ry h hs
 obtain⟨p,xs,i,z,rfl,rfl,hq,he,q⟩:=h
 cases rx
 obtain⟨t,rfl⟩:=ry
 obtain⟨its,r,pl,hz⟩:=I.list hq
 obtain⟨j,h1,h2,h3,h4,h5⟩:=SS he
 obtain⟨w,ew,rw'⟩:=r.get h2
 have hl:=r.length
 have hn:=SN
 have fin:EP X B_ σ Q w s:=⟨z,H,I,rw',q⟩
 by_cases h0:0<=i
 ·have hj:i.toNat=j:=by
   rw[seqIndex_of h0 h5] at h1
   exact Option.some.inj h1
  exact item_listR pl.isList h0 (by omega) (by rw[hj];simpa using ew) fin hs
 ·have hj:(i+(its.toArray.size:Int)).toNat=j:=by
   rw[B3 (by omega) h4] at h1
   rw[MH,<- hl]
   exact Option.some.inj h1
  exact BD (x:=w) pl.isList.typeIs slot_list_getitem.lookup
   (wpAny_getItem_list_neg (Q:=fun r s'=>r=w/\EP X B_ σ Q r s') pl.isList (by omega) (by rw[MH] <;> omega) (by omega) (by rw[hj];simpa using ew) ⟨rfl,fin⟩) hs
theorem ix_tup:IxR X (rIxT X.K):=by
 intro value slice B_ s σ H x y v u Q I rx ry h hs
 obtain⟨p,xs,i,z,rfl,rfl,hq,he,q⟩:=h
 cases rx
 obtain⟨t,rfl⟩:=ry
 obtain⟨its,r,pl,hz⟩:=I.tuple hq
 obtain⟨j,h1,h2,h3,h4,h5⟩:=SS he
 obtain⟨w,ew,rw'⟩:=r.get h2
 have hl:=r.length
 have hn:=SN
 have fin:EP X B_ σ Q w s:=⟨z,H,I,rw',q⟩
 exact BD (x:=w) pl.typeIs slot_tuple_getitem.lookup
  (getItem_tuple (j:=j) (Q:=fun r s'=>r=w/\EP X B_ σ Q r s') pl (by omega) (by omega) (by rw[MH,<- hl];exact h1) (by simpa using ew) ⟨rfl,fin⟩) hs
theorem ix_str:IxR X rIxS:=by
 intro value slice B_ s σ H x y v u Q I rx ry h hs
 obtain⟨z,i,c,rfl,rfl,hz,he,q⟩:=h
 obtain⟨t,rfl⟩:=rx
 obtain⟨t',rfl⟩:=ry
 obtain⟨j,h1,h2,h3,h4,h5⟩:=SS he
 have hl:z.cps.toList.length=z.length:=by simp[Str.length]
 rw[hl] at h1 h4 h5
 have hn:=SN
 exact tail_any (Bd s z t) slot_str_getitem.lookup (getItem_str (c:=c) (by
  have e1:decide (i < -(2 ^ 63:Int))=false:=B6 (by omega)
  have e2:decide (i≥2 ^ 63)=false:=B6 (by omega)
  rw[e1,e2,Zq]) (by rw[h1];simpa using h2) ⟨.str ⟨#[c]⟩,H,I.tok _,⟨_,rfl⟩,q⟩) hs
theorem bZ (its:List Ad)(n j:Nat)(u:Ad):Vf (·.setIfInBounds j u) { cls:=.type "list",data:=.seq its.toArray n }={ cls:=.type "list",data:=.seq (its.set j u).toArray n }:=by
 simp[Vf]
theorem Inv.lst (I:Inv X B_ σ H s) (h:H p=some (.lst xs)):
  ∃(its:List Ad) (n:Nat),Vals xs its/\s.heap.get? p=some { cls:=.type "list",data:=.seq its.toArray n }/\xs.length<=Ae:=by
 obtain⟨z,its,n,r,e⟩:=I.hok p _ h
 exact⟨its,n,r,e,z⟩
theorem Inv.lstUpd {B_:List (Ac×Obj)}{σ:St}{H:Hp}{s:Af}{p:Ac}{xs ys:List V}{its its':List Ad}{n n':Nat}{f:Obj->Obj}(I:Inv X B_ σ H s)(h:H p=some (.lst xs))
  (ho:s.heap.get? p=some { cls:=.type "list",data:=.seq its.toArray n }) (hf:f { cls:=.type "list",data:=.seq its.toArray n }={ cls:=.type "list",data:=.seq its'.toArray n' }) (r:Vals ys its') (hz:ys.length<=Ae) (t:Nat) :
  Inv X B_ σ (upd H p (.lst ys)) { s with heap:=s.heap.update p f,toks:=t }:=by
 have e:(s.heap.update p f).get? p=some { cls:=.type "list",data:=.seq its'.toArray n' }:=by
  rw[R7 f ho (by rw[hf] <;> rfl),hf]
 refine I.write (x:=p) (e:=p) (by rw[h];trivial) (.inl rfl) (fun b u hb q=>(PH _ _ (MB hb)).trans q) ⟨_,e⟩ ?_
 exact⟨hz,its',n',r,e⟩
def rSetL:V->V->V->Hp->(Hp->Prop)->Prop:=fun o i v H Q=>∃ p xs k j,o=.ref p/\i=.int k/\H p=some (.lst xs)/\ixN xs.length k=some j/\Q (upd H p (.lst (xs.set j v)))
theorem b6:PSet X rSetL:=by
 intro B_ s σ H o i v ov iv u Q I ro ri rv h
 obtain⟨p,xs,k,j,rfl,rfl,hp,hj,q⟩:=h
 cases ro
 obtain⟨t,rfl⟩:=ri
 obtain⟨its,n,r,ho,hz⟩:=I.lst hp
 obtain⟨h1,h2,h3,h4⟩:=VR hj
 have hl:=r.length
 have hn:=SN
 have I':Inv X B_ σ (upd H p (.lst (xs.set j v))) { s with heap:=s.heap.update p (Vf (·.setIfInBounds j u)) } :=
  I.lstUpd hp ho (bZ its n j u) (r.set rv j) (by rw[List.length_set];exact hz) s.toks
 by_cases h0:0<=k
 ·have hk:k.toNat=j:=by
   rw[seqIndex_of h0 h4] at h1
   exact Option.some.inj h1
  exact PySem.W.ki_setAt ho h0 (by omega) (by rw[MH,<- hl];exact h4) (by rw[hk];exact⟨_,I',q⟩)
 ·have hk:(k+(its.toArray.size:Int)).toNat=j:=by
   rw[B3 (by omega) h3] at h1
   rw[MH,<- hl]
   exact Option.some.inj h1
  exact PySem.W.ki_setBack ho (by omega) (by rw[MH,<- hl];exact h3) (by omega) (by rw[hk];exact⟨_,I',q⟩)
theorem b9 (lo hi:Option Int)(n:Nat):(A7 lo hi none n).1=((HT.sIx n 0 lo:Nat):Int)/\(A7 lo hi none n).2.1=((HT.sIx n n hi:Nat):Int)/\(A7 lo hi none n).2.2=1:=by
 refine⟨?_,?_,rfl⟩
 ·cases lo with
  | none=>simp[A7,HT.sIx]
  | some i =>
   simp only[A7,HT.sIx,Option.getD_none,show (1:Int) > 0 by decide,if_true]
   by_cases h:i < 0
   ·simp only[h,if_true] <;> omega
   ·simp only[h,if_false] <;> omega
 ·cases hi with
  | none=>simp[A7,HT.sIx]
  | some i =>
   simp only[A7,HT.sIx,Option.getD_none,show (1:Int) > 0 by decide,if_true]
   by_cases h:i < 0
   ·simp only[h,if_true] <;> omega
   ·simp only[h,if_false] <;> omega
theorem b_ (its:List Ad)(lo hi:Option Int):slicePick its.toArray lo hi none=((its.drop (HT.sIx its.length 0 lo)).take (HT.sIx its.length its.length hi - HT.sIx its.length 0 lo)).toArray:=by
 obtain⟨h1,h2,h3⟩:=b9 lo hi its.toArray.size
 unfold slicePick
 rw[h1,h2,h3]
 simp only[sliceRange_one,pick_run,MH] <;> rfl
def rSlL (K:L3):V->Option Int->Option Int->Hp->VK->Prop:=fun x lo hi H Q=>∃ a xs,x=.ref a/\SqL K H a xs/\∀ p,H p=none->Q (.ref p) (upd H p (.lst (cutV xs lo hi)))
theorem cb:SlR X (rSlL X.K):=by
 intro B_ s σ H x v vl vu lo hi sl Q I rx hs pl pu h
 obtain⟨a,xs,rfl,hx,q⟩:=h
 cases rx
 obtain⟨its,r,ht,hz⟩:=I.list hx
 have Cd:=r.length
 refine⟨"list",_,slot_list_getitem.lookup,ht.isList.typeIs,?_⟩
 refine wpAny_getItem_list_slice ht.isList hs pl pu .none (by simp) ?_ (by rw[MH] <;> omega)
 rw[b_,<- Cd]
 refine⟨.ref s.heap.objs.size,_,I.laid (t':=s.toks) (o:=.lst (cutV xs lo hi)) (fun b ob q=>Mf _ q) (L' _) ?_,rfl,q _ (I.hok.fresh (L' _))⟩
 exact⟨MR (VQ xs lo hi) hz,_,0,(r.drop (HT.sIx xs.length 0 lo)).take (HT.sIx xs.length xs.length hi - HT.sIx xs.length 0 lo),MG _ rfl⟩
noncomputable def OE:V->Bool
 | .non=>true
 | .bl _=>true
 | .int _=>true
 | .str _=>true
 | _=>false
noncomputable def eqV:V->V->Bool
 | .non,.non=>true
 | .bl a,.bl b=>a == b
 | .bl a,.int b=>(if a then 1 else 0) == b
 | .int a,.bl b=>a == (if b then 1 else 0)
 | .int a,.int b=>a == b
 | .str a,.str b=>a == b
 | _,_=>false
theorem eqAt_V (ry:RelV y u) (rx:RelV x v) (fy:OE y=true) (fx:OE x=true):Oh A s u v (eqV y x):=by
 cases y with
 | non =>
  cases ry
  cases x with
  | non=>cases rx;exact Oh.same _
  | bl b=>cases rx;exact Oh.none_bool b
  | int b=>obtain⟨t,rfl⟩:=rx;exact Oh.none_int b t
  | str b=>obtain⟨t,rfl⟩:=rx;exact Oh.none_str b t
  | _=>exact absurd (show false=true from fx) Mi
 | bl a =>
  cases ry
  cases x with
  | non=>cases rx;exact Oh.bool_none a
  | bl b=>cases rx;exact Oh.bool_bool a b
  | int b=>obtain⟨t,rfl⟩:=rx;exact Oh.bool_int a b t
  | str b=>obtain⟨t,rfl⟩:=rx;exact Oh.bool_str a b t
  | _=>exact absurd (show false=true from fx) Mi
 | int a =>
  obtain⟨t',rfl⟩:=ry
  cases x with
  | non=>cases rx;exact Oh.int_none a t'
  | bl b=>cases rx;exact Oh.int_bool a t' b
  | int b=>obtain⟨t,rfl⟩:=rx;exact Oh.int_int a t' b t
  | str b=>obtain⟨t,rfl⟩:=rx;exact js a t' b t
  | _=>exact absurd (show false=true from fx) Mi
 | str a =>
  obtain⟨t',rfl⟩:=ry
  cases x with
  | non=>cases rx;exact Oh.str_none a t'
  | bl b=>cases rx;exact Oh.str_bool a t' b
  | int b=>obtain⟨t,rfl⟩:=rx;exact jt a t' b t
  | str b=>obtain⟨t,rfl⟩:=rx;exact Oh.str_str a t' b t
  | _=>exact absurd (show false=true from fx) Mi
 | _=>exact absurd (show false=true from fy) Mi
noncomputable def eqU (x:V)(u:Ad):Bool:=match u with
 | .none=>eqV .non x
 | .bool b=>eqV (.bl b) x
 | .int i _=>eqV (.int i) x
 | .str z _=>eqV (.str z) x
 | _=>false
theorem VT (r:RelV y u) (f:OE y=true):eqU x u=eqV y x:=by
 cases y with
 | non=>cases r;rfl
 | bl b=>cases r;rfl
 | int i=>obtain⟨t,rfl⟩:=r;rfl
 | str z=>obtain⟨t,rfl⟩:=r;rfl
 | _=>exact absurd (show false=true from f) Mi
theorem PY {x:V}:∀{xs:List V}{us:List Ad},Vals xs us->xs.all OE=true->us.any (eqU x)=xs.any fun y=>eqV y x
 | _,_,.nil,_=>rfl
 | y::xs,u::us,.cons r t,f=>by
  rw[ap,MQ] at f
  rw[OL,OL,VT r f.1,PY t f.2]
theorem VU {A:Ao}{s:Af}{x:V}{v:Ad}(rx:RelV x v)(fx:OE x=true):∀{xs:List V}{us:List Ad},Vals xs us->xs.all OE=true->∀ u∈us,Oh A s u v (eqU x u)
 | _,_,.nil,_=>fun u hu=>by cases hu
 | y::xs,u::us,.cons r t,f=>fun u' hu=>by
  rw[ap,MQ] at f
  rcases Mo.mp hu with rfl | hu
  ·rw[VT r f.1];exact eqAt_V r rx f.1 fx
  ·exact VU rx fx t f.2 u' hu
noncomputable def inV (x:V)(xs:List V):Bool:=xs.any fun y=>eqV y x
def rIn (K:L3)(neg:Bool):R2:=fun x y H Q=>∃ p xs,y=.ref p/\(SqL K H p xs∨SqT K H p xs)/\OE x=true/\xs.all OE=true/\Q (.bl (if neg then !inV x xs else inV x xs)) H
theorem VX:OpR X (Ar .In) (rIn X.K false):=by
 intro B_ s σ H x y v u Q I rx ry h
 obtain⟨p,xs,rfl,hq,fx,fs,q⟩:=h
 cases ry
 rcases hq with hq | hq
 ·obtain⟨its,r,pl,hz⟩:=I.list hq
  refine SeqAt.in_listAt (eqU x) pl.isList (fun w hw=>VU rx fx r fs w (by simpa using hw)) ⟨.bl _,H,I,rfl,?_⟩
  rw[show its.toArray.any (eqU x)=its.any (eqU x) by simp,PY r fs]
  exact q
 ·obtain⟨its,r,pl,hz⟩:=I.tuple hq
  refine SeqAt.in_tupleAt (eqU x) pl (fun w hw=>VU rx fx r fs w (by simpa using hw)) ⟨.bl _,H,I,rfl,?_⟩
  rw[show its.toArray.any (eqU x)=its.any (eqU x) by simp,PY r fs]
  exact q
theorem ce:OpR X (Ar .NotIn) (rIn X.K true):=by
 intro B_ s σ H x y v u Q I rx ry h
 obtain⟨p,xs,rfl,hq,fx,fs,q⟩:=h
 cases ry
 rcases hq with hq | hq
 ·obtain⟨its,r,pl,hz⟩:=I.list hq
  refine SeqAt.notIn_listAt (eqU x) pl.isList (fun w hw=>VU rx fx r fs w (by simpa using hw)) ⟨.bl _,H,I,rfl,?_⟩
  rw[show its.toArray.any (eqU x)=its.any (eqU x) by simp,PY r fs]
  exact q
 ·obtain⟨its,r,pl,hz⟩:=I.tuple hq
  refine SeqAt.notIn_tupleAt (eqU x) pl (fun w hw=>VU rx fx r fs w (by simpa using hw)) ⟨.bl _,H,I,rfl,?_⟩
  rw[show its.toArray.any (eqU x)=its.any (eqU x) by simp,PY r fs]
  exact q
theorem cf:CallR X (.builtin "len") (fun xs H Q=>∃ p ys,xs=[.ref p]/\(SqL X.K H p ys∨SqT X.K H p ys)/\Q (.int ys.length) H):=by
 intro B_ s σ H xs us Q I r h
 obtain⟨p,ys,rfl,hq,q⟩:=h
 obtain⟨u,rfl,rx⟩:=N1 r
 cases rx
 have hn:=SN
 rcases hq with hq | hq
 ·obtain⟨its,r',pl,hz⟩:=I.list hq
  have Cd:=r'.length
  exact Calls.call_len_list pl.isList (by simp only[MH] <;> omega) ⟨.int ys.length,H,I.tok _,⟨s.toks+1,by rw[MH,Cd]⟩,q⟩
 ·obtain⟨its,r',pl,hz⟩:=I.tuple hq
  have Cd:=r'.length
  exact len_tuple pl (by simp only[MH] <;> omega) ⟨.int ys.length,H,I.tok _,⟨s.toks+1,by rw[MH,Cd]⟩,q⟩
theorem cg:CallR X (.builtin "len") (fun xs H Q=>∃ z,xs=[.str z]/\z.length<=Ae/\Q (.int z.length) H):=by
 intro B_ s σ H xs us Q I r h
 obtain⟨z,rfl,hz,q⟩:=h
 obtain⟨u,rfl,t,rfl⟩:=N1 r
 have hn:=SN
 exact len_str (by omega) ⟨.int z.length,H,I.tok _,⟨_,rfl⟩,q⟩
theorem call_list_of:CallR X (.type "list") (fun xs H Q=>∃ p ys,xs=[.ref p]/\(SqL X.K H p ys∨SqT X.K H p ys)/\∀ l,H l=none->Q (.ref l) (upd H l (.lst ys))):=by
 intro B_ s σ H xs us Q I r h
 obtain⟨p,ys,rfl,hq,q⟩:=h
 obtain⟨u,rfl,rx⟩:=N1 r
 cases rx
 have fin:∀(its:List Ad),Vals ys its->ys.length<=Ae->∀(h':Ap) (c':Nat),(∀ b o',s.heap.get? b=some o'->h'.get? b=some o') ->
   h'.get? s.heap.objs.size=some { cls:=.type "list",dict:=none,data:=.seq its.toArray c',slots:=#[] }->EP X B_ σ Q (.ref s.heap.objs.size) { s with heap:=h' }:=fun its r' hz h' c' kp e =>
  ⟨.ref s.heap.objs.size,_,I.laid (t':=s.toks) kp (L' _) (show ObjOk X.prog X.w _ h' _ (.lst ys) from ⟨hz,its,c',r',e⟩),rfl,q _ (I.hok.fresh (L' _))⟩
 rcases hq with hq | hq
 ·obtain⟨its,r',pl,hz⟩:=I.list hq
  have Cd:=r'.length
  obtain⟨o,ho,hc,n,hd⟩:=pl.isList
  exact call_list_seq p (.inl rfl) ho hc hd (fun h' c' kp e=>fin its r' hz h' c' kp e) (by simp only[MH] <;> omega)
 ·obtain⟨its,r',pl,hz⟩:=I.tuple hq
  have Cd:=r'.length
  obtain⟨o,ho,hc,n,hd⟩:=pl
  exact call_list_seq p (.inr rfl) ho hc hd (fun h' c' kp e=>fin its r' hz h' c' kp e) (by simp only[MH] <;> omega)
theorem call_tuple_of:CallR X (.type "tuple") (fun xs H Q=>∃ p ys,xs=[.ref p]/\((SqL X.K H p ys/\∀ l,H l=none->Q (.ref l) (upd H l (.tup ys)))∨(SqT X.K H p ys/\Q (.ref p) H))):=by
 intro B_ s σ H xs us Q I r h
 obtain⟨p,ys,rfl,h⟩:=h
 obtain⟨u,rfl,rx⟩:=N1 r
 cases rx
 rcases h with ⟨hq,q⟩ | ⟨hq,q⟩
 ·obtain⟨its,r',pl,hz⟩:=I.list hq
  have Cd:=r'.length
  refine call_tuple_list pl.isList (fun h' kp=>?_) (by simp only[MH] <;> omega)
  have I1:Inv X B_ σ H { s with heap:=h' }:=I.kept (t':=s.toks) kp
  have I2:Inv X B_ σ (upd H h'.objs.size (.tup ys)) { s with heap:=h'.push { cls:=.type "tuple",data:=.seq its.toArray } } :=
   I1.laid (t':=s.toks) (fun b o e=>Mf _ e) (L' _) (show ObjOk X.prog X.w _ _ _ (.tup ys) from ⟨hz,its,r',IsTup.new _ _,DcN.new _ _⟩)
  exact⟨.ref h'.objs.size,_,I2,rfl,q _ (I1.hok.fresh (L' _))⟩
 ·obtain⟨its,r',pl,hz⟩:=I.tuple hq
  exact call_tuple_same pl ⟨.ref p,H,I,rfl,q⟩
def tyV (K:L3)(T:String)(x:V)(H:Hp):Prop:=match x with
 | .str _=>T="str"
 | .int _=>T="int"
 | .ref p=>(T="list"/\∃ xs,SqL K H p xs)∨(T="tuple"/\∃ o,K.lookup p=some o/\o.cls=.type "tuple"/\o.dict=none) ∨
   (T="dict"/\((∃ B',H p=some (.dK B'))∨∃ B',H p=some (.dT B')))∨(T="set"/\∃ S n,H p=some (.set S n))
 | _=>False
theorem VY (I:Inv X B_ σ H s) (r:RelV x v) (ty:tyV X.K T x H):
  s.TypeIs v T/\∀ a,v=.ref a->∃ ob,s.heap.get? a=some ob/\ob.dict=none:=by
 cases x with
 | str z =>
  obtain⟨t,rfl⟩:=r
  cases (show T="str" from ty)
  exact⟨Bd s z t,fun _ e=>nomatch e⟩
 | int i =>
  obtain⟨t,rfl⟩:=r
  cases (show T="int" from ty)
  exact⟨typeIs_int s i t,fun _ e=>nomatch e⟩
 | ref p =>
  cases r
  rcases ty with ⟨rfl,xs,hq⟩ | ⟨rfl,o,hk,hc,hd⟩ | ⟨rfl,hk⟩ | ⟨rfl,S,n,hk⟩
  ·obtain⟨its,_,pl,_⟩:=I.list hq
   refine⟨pl.isList.typeIs,fun a e=>?_⟩
   cases e
   obtain⟨o,n,e,c,hd,_⟩:=pl
   exact⟨o,e,hd⟩
  ·refine⟨⟨o,I.kIn p o hk,hc⟩,fun a e=>?_⟩
   cases e
   exact⟨o,I.kIn _ o hk,hd⟩
  ·have z:∃ o,s.heap.get? p=some o/\o.ExactDict:=by
    rcases hk with ⟨B',hk⟩ | ⟨B',hk⟩
    ·obtain⟨_,_,_,_,o,_,_,e,ex,_⟩:=I.hok p _ hk
     exact⟨o,e,ex⟩
    ·obtain⟨_,_,_,_,o,_,_,e,ex,_⟩:=I.hok p _ hk
     exact⟨o,e,ex⟩
   obtain⟨o,e,ex⟩:=z
   refine⟨⟨o,e,ex.1⟩,fun a e2=>?_⟩
   cases e2
   exact⟨o,e,ex.2.1⟩
  ·obtain⟨o,_,_,_,e,ex,_⟩:=I.hok p _ hk
   refine⟨⟨o,e,ex.1⟩,fun a e2=>?_⟩
   cases e2
   exact⟨o,e,ex.2.1⟩
 | _=>exact Oi ty
def tBM0 (K:L3)(T:String)(r:V->List V->Hp->VK->Prop)(to:TE):TE:=fun σ H Q=>to σ H fun x H1=>tyV K T x H1/\r x [] H1 Q
def tBM (K:L3)(T:String)(r:V->List V->Hp->VK->Prop)(to:TE)(t:TA):TE:=fun σ H Q=>to σ H fun x H1=>tyV K T x H1/\t σ H1 fun xs H2=>r x xs H2 Q
variable {o e:Ax}{es:List Ax}{to:TE}{t:TA}{name:Str}{Ct cpos:Pos}{T id:String}{r:V->List V->Hp->VK->Prop}
theorem pe_bm0 (pa:BZ T)(slot:Slot T name id)(F0:typeOf (.builtin id)=pure (.type "method_descriptor"))(hm:MtR X id r)(ho:PE X o to)
  (D4:AI o name X.env (As o X.env)=As o X.env:=by rfl) (D5:(Ct.endLine == cpos.line)=true:=by rfl):PE X (.Call (.Attribute o name Ct) [] [] cpos) (tBM0 X.K T r to):=by
 intro B_ s σ H Q I h
 refine wpAny_Call_method0_late D4 D5 (thn (ho B_ s σ H _ I h) fun v s1 ⟨x,H1,I1,r1,ty,q1⟩=>?_)
 obtain⟨h1,h2⟩:=VY I1 r1 ty
 exact⟨T,id,pa,slot,F0,h1,h2,ji rfl (PySem.evalArgs_none (hm B_ s1 σ H1 x [] v [] Q I1 r1 .nil q1))⟩
theorem pe_bm (pa:BZ T)(slot:Slot T name id)(F0:typeOf (.builtin id)=pure (.type "method_descriptor"))(hm:MtR X id r)(ho:PE X o to)(ha:PA X (e::es) t)
  (D4:AI o name X.env (As o X.env)=As o X.env:=by rfl)
  (Iv:((AA cpos (Ah (e::es) X.env)).all (fun x=>!x.1)&&(A_ cpos (AS [] X.env)).all (fun x=>x.1.isSome)
   && decide ((e::es).length+([]:List Bv).length+(if ([]:List Bv).isEmpty then 0 else 1) < 30))=true:=by rfl)
  (D5:(Ct.endLine == cpos.line)=true:=by rfl) (hs:Ah (e::es) X.env=(false,As e X.env)::Ah es X.env:=by rfl) (F1:(AA cpos (Ah es X.env)).any (·.1)=false:=by rfl) :
  PE X (.Call (.Attribute o name Ct) (e::es) [] cpos) (tBM X.K T r to t):=by
 intro B_ s σ H Q I h
 refine wpAny_Call_method_late D4 Iv D5 rfl (thn (ho B_ s σ H _ I h) fun v s1 ⟨x,H1,I1,r1,ty,q1⟩=>?_)
 obtain⟨h1,h2⟩:=VY I1 r1 ty
 refine⟨T,id,pa,slot,F0,h1,h2,?_⟩
 have hA:=ha cpos B_ s1 σ H1 _ I1 q1
 rw[hs] at hA ⊢
 refine ji (by show (false || (AA cpos (Ah es X.env)).any (·.1))=false;rw[F1] <;> rfl) (Calls.evalArgs_plain ?_)
 exact thn hA fun us s2 ⟨vs,H2,I2,r2,q2⟩=>hm B_ s2 σ H2 x vs v us Q I2 r1 r2 q2
/- xs.append(e),list.index on a module's tuple .. are MtR facts of 06m -/
end
noncomputable def MtM (X:Cx)(id:String)(r:V->List V->Hp->VK->Prop):Prop :=
 ∀(B_:List (Ac×Obj)) (s:Af) (σ:St) (H:Hp) (x:V) (xs:List V) (v:Ad) (us:List Ad) (Q:VK),Inv X B_ σ H s->RelV x v->Vals xs us->r x xs H Q ->
  wpAny (Aj X.prog X.w) X.A (call (.builtin id) (v::us)) (EP X B_ σ Q) X.xe s
theorem Vals.one:∀{x:V}{us:List Ad},Vals [x] us->∃ u,us=[u]/\RelV x u
 | _,_,.cons r .nil=>⟨_,rfl,r⟩
theorem Vals.rep {xs:List V}{us:List Ad}(h:Vals xs us):∀ k:Nat,Vals (MD k xs).flatten (MD k us).flatten
 | 0=>.nil
 | k+1=>by
  rw[Uz,Uz,UB,UB]
  exact Vals.append h (Vals.rep h k)
theorem VZ (its:List Ad):∀(k:Nat) (Ca:List Ad),
  List.foldl (fun x1 x2=>x1++x2) Ca.toArray (MD k its.toArray)=(Ca++(MD k its).flatten).toArray
 | 0,Ca=>by simp
 | k+1,Ca=>by
  have e:Ca.toArray++its.toArray=(Ca++its).toArray:=by simp
  have e2:(Ca++its)++(MD k its).flatten=Ca++(MD (k+1) its).flatten:=by
   rw[Uz,UB,Pq]
  rw[<- e2,<- VZ its k (Ca++its),<- e,Uz,al]
section
variable {X:Cx}{B_:List (Ac×Obj)}{σ:St}{H:Hp}{s:Af}{l b:Ac}{xs ys zs:List V}
theorem Inv.lset {its its':List Ad}{n:Nat}{f:Array Ad->Array Ad}{t':Nat}(I:Inv X B_ σ H s)(hH:H l=some (.lst xs))
  (e:s.heap.get? l=some { cls:=.type "list",data:=.seq its.toArray n }) (hf:f its.toArray=its'.toArray) (hv:Vals ys its') (hz:ys.length<=Ae) :
  Inv X B_ σ (upd H l (.lst ys)) { s with heap:=s.heap.update l (Vf f),toks:=t' }:=by
 have q:=PySem.IsL.update e f
 rw[hf] at q
 refine I.write (x:=l) (e:=l) (by rw[hH];exact trivial) (.inl rfl) (fun b' u hb hu=>(PH s.heap (Vf f) (MB hb)).trans hu) ⟨_,q⟩ ?_
 exact⟨hz,its',_,hv,q⟩
theorem Inv.lnew (I:Inv X B_ σ H s) (hv:Vals ys its) (hz:ys.length<=Ae):
  Inv X B_ σ (upd H s.heap.objs.size (.lst ys)) { s with heap:=s.heap.push { cls:=.type "list",data:=.seq its.toArray },toks:=t' } :=
 I.laid (fun _ _ q=>Mf _ q) (L' _) ⟨hz,its,0,hv,MG _ rfl⟩
theorem Inv.fresh (I:Inv X B_ σ H s):H s.heap.objs.size=none:=I.hok.fresh (L' _)
theorem Inv.lstM (I:Inv X B_ σ H s)(hH:H l=some (.lst xs)):xs.length<=Ae/\∃(its:List Ad) (n:Nat),Vals xs its/\xs.length=its.length/\s.heap.get? l=some { cls:=.type "list",data:=.seq its.toArray n }:=by
 obtain⟨z,its,n,r,e⟩:=I.hok l _ hH
 exact⟨z,its,n,r,r.length,e⟩
theorem V0 (h:n<=Ae):ZF n=false:=by
 unfold ZF
 exact B6 (by omega)
end
section
variable {X:Cx}
def ci:V->List V->Hp->VK->Prop:=fun x vs H Q=>∃ l xs y,x=.ref l/\vs=[y]/\H l=some (.lst xs)/\xs.length < Ae/\Q .non (upd H l (.lst (xs++[y])))
theorem V1:MtM X "list.append" ci:=by
 intro B_ s σ H x vs v us Q I rx rv h
 obtain⟨l,xs,y,rfl,rfl,hH,hz,q⟩:=h
 cases rx
 obtain⟨u,rfl,ru⟩:=rv.one
 obtain⟨z,its,n,r,hl,e⟩:=I.lstM hH
 refine AZ F.slot_list_append ⟨_,e,rfl⟩ F.entry_list_append (F.args_list_append_2 _ _) (PySem.list_append l its.toArray n u (by rw[MH];omega)) ⟨e,?_⟩
 refine⟨.non,_,I.lset (its':=its++[u]) hH e (by simp) (r.append (.cons ru .nil)) ?_,rfl,q⟩
 rw[Mn,M6]
 omega
def cj:V->List V->Hp->VK->Prop:=fun x vs H Q=>∃ l b xs zs,x=.ref l/\vs=[.ref b]/\H l=some (.lst xs)/\H b=some (.lst zs)/\xs.length+zs.length<=Ae/\Q .non (upd H l (.lst (xs++zs)))
theorem ck:MtM X "list.extend" cj:=by
 intro B_ s σ H x vs v us Q I rx rv h
 obtain⟨l,b,xs,zs,rfl,rfl,hH,hB,hz,q⟩:=h
 cases rx
 obtain⟨u,rfl,ru⟩:=rv.one
 cases ru
 obtain⟨z,its,n,r,hl,e⟩:=I.lstM hH
 obtain⟨z2,its2,n2,r2,JI,e2⟩:=I.lstM hB
 have hsz:its.toArray.size+its2.toArray.size<=Ae:=by rw[MH,MH];omega
 have EN:¬ (!its.toArray.isEmpty&&ZF (its.toArray.size+its2.toArray.size))=true:=by
  rw[V0 hsz,Sv]
  exact Mi
 refine AZ F.slot_list_extend ⟨_,e,rfl⟩ F.entry_list_extend (F.args_list_extend_2 _ _)
  (AutoSeq1.list_extend_list_list_0 l its.toArray n b its2.toArray n2 EN (by rw[MH];omega) (by omega)) ⟨e,e2,?_⟩
 refine⟨.non,_,I.lset (its':=its++its2) hH e (by simp) (r.append r2) ?_,rfl,q⟩
 rw[Mn]
 omega
def rCat:R2:=fun x y H Q=>∃ l b xs zs,x=.ref l/\y=.ref b/\H l=some (.lst xs)/\H b=some (.lst zs)/\xs.length+zs.length<=Ae/\∀ p,H p=none->Q (.ref p) (upd H p (.lst (xs++zs)))
theorem op_cat:OpR X (AJ .Add) rCat:=by
 intro B_ s σ H x y v u Q I rx ry h
 obtain⟨l,b,xs,zs,rfl,rfl,hH,hB,hz,q⟩:=h
 cases rx
 cases ry
 obtain⟨z,its,n,r,hl,e⟩:=I.lstM hH
 obtain⟨z2,its2,n2,r2,JI,e2⟩:=I.lstM hB
 refine PySem.P.add_list e e2 ?_ (by rw[MH,MH];omega)
 have ea:its.toArray++its2.toArray=(its++its2).toArray:=by simp
 rw[ea]
 exact⟨.ref _,_,I.lnew (t':=s.toks) (r.append r2) (by rw[Mn];omega),rfl,q _ I.fresh⟩
def rRep:R2:=fun x y H Q=>∃ l k xs,x=.ref l/\y=.int k/\H l=some (.lst xs)/\-(2 ^ 63)<=k/\k < 2 ^ 63/\xs.length * k.toNat<=Ae /\
 ∀ p,H p=none->Q (.ref p) (upd H p (.lst (MD k.toNat xs).flatten))
theorem cm (xs:List α) (k:Nat):(MD k xs).flatten.length=k * xs.length:=by
 induction k with
 | zero=>simp
 | succ k ih=>rw[Uz,UB,Mn,ih,ay,Nat.add_comm]
theorem op_rep:OpR X (AJ .Mult) rRep:=by
 intro B_ s σ H x y v u Q I rx ry h
 obtain⟨l,k,xs,rfl,rfl,hH,h1,h2,hz,q⟩:=h
 cases rx
 obtain⟨t,rfl⟩:=ry
 obtain⟨z,its,n,r,hl,e⟩:=I.lstM hH
 have Cd:its.toArray.size * k.toNat<=Ae:=by rw[MH,<- hl];exact hz
 have Iw:¬ its.toArray.size * k.toNat > (2 ^ 63 - 1) / 8:=by
  have:(Ae:Nat)<=(2 ^ 63 - 1) / 8:=by decide
  omega
 have Fk:¬ (!Builtin.List.listFitsIndex k)=true:=by
  rw[fitsIndex_both h1 h2]
  exact Mi
 have EN:¬ ZF (its.toArray.size * k.toNat)=true:=by
  rw[V0 Cd]
  exact Mi
 have D6:List.foldl (fun x1 x2=>x1++x2) #[] (MD (if its.toArray.isEmpty=true then 0 else k.toNat) its.toArray)=(MD k.toNat its).flatten.toArray:=by
  have f0:∀ m:Nat,List.foldl (fun x1 x2=>x1++x2) #[] (MD m its.toArray)=(MD m its).flatten.toArray:=fun m=>by
   have:=VZ its m []
   rw[am] at this
   exact this
  rw[f0]
  cases its with
  | nil=>simp
  | cons a r'=>rw[B8 (by simp)]
 refine wpAny_binaryOp_repeat_ref (T:="list") (U:="int") (by decide) ⟨_,e,rfl⟩ (fun s'=>typeIs_int s' k t) noFill_list_mul F.fills_int_mul F.slot_int_rmul repeat_list F.slot_int_index.lookup
  (AZ F.slot_int_rmul (typeIs_int s k t) F.entry_int_rmul (F.args_int_rmul_2 _ _) (int___rmul___int_list k t l its.toArray n)
   ⟨e,rfl,⟨_,e,rfl⟩,AZ F.slot_list_mul ⟨_,e,rfl⟩ F.entry_list_mul (F.args_list_mul_2 _ _) (AutoListH.list___mul___list_int_3 l its.toArray n k t Fk Iw EN) ⟨e,?_⟩⟩)
 rw[D6]
 exact⟨.ref _,_,I.lnew (t':=s.toks) (r.rep k.toNat) (by rw[cm,Nat.mul_comm];exact hz),rfl,q _ I.fresh⟩
end
section
variable {prog:Ak}{w:Am}{A:Ao}{E:Ad->Af->Prop}{s:Af}
set_option maxRecDepth 100000 in
end
section
variable {X:Cx}
end
end L2
namespace Att
open PySem PySem.W PySem.Calls PyProof.Rows
theorem cq :∀(ns:List Int) (vs:List Ad),WellAll P h vs (ns.map WData.int)->IntsAre vs ns:=by
 intro ns
 induction ns with
 | nil =>
  intro vs w
  rw[Oe] at w
  cases w
  exact .nil
 | cons n ns ih =>
  intro vs w
  rw[Mu] at w
  cases w with
  | cons a b =>
   cases a
   exact .cons _ _ (ih _ b)
theorem cr {l:OpenLaw}{n:Nat}(hn:l.most=some n){P:Params}{h:Ap}{args:List WData}{vals:List Ad}
  (EO:l.row.toRowW.claim.pre args=true) (Eb:WellAll P h vals args) :
  ∃ a vs ns,vals=[Value.ref a]/\args=[WData.list (ns.map WData.int)]/\h.get? a=some { cls:=.type "list",data:=.seq vs.toArray }/\IntsAre vs ns/\ns.length<=n:=by
 have Ks:WShape.hasAll [] args [.list .int]=true:=(pre_splitW EO).1
 have hc:l.pre.holds [] { args:=args }=true:=(pre_splitW EO).2
 obtain⟨d,r,rfl,h1,h2⟩:=hasAllW_cons Ks
 obtain rfl:=hasAllW_nil h2
 obtain⟨xs,rfl,h3⟩:=hasW_list h1
 obtain⟨ns,rfl⟩:=items_int h3
 have Cd:ns.length<=n:=by
  unfold OpenLaw.pre at hc
  have h4:(WTm.not (.lt (.lit (.int (n:Int))) (.len (.arg 0)))).holds [] { args:=[.list (ns.map .int)] }=true:=by
   have h4:=(holds_andW hc).1
   rw[hn] at h4
   exact h4
  have h5:=condW_of h4 (w_not (w_lt w_lit (w_len_list (w_arg rfl))))
  rw[L8] at h5
  refine Nat.le_of_not_lt fun q=>?_
  have q':(n:Int) < ((ns.length:Nat):Int):=by omega
  first
   | (rw[B7 q'] at h5;exact absurd h5 (by decide))
   | (simp at h5;omega)
 cases Eb with
 | cons w1 w2 =>
  cases w2
  cases w1 with
  | list ho EQ=>exact⟨_,_,ns,rfl,rfl,ho,cq ns _ EQ,Cd⟩
theorem cu (l:OpenLaw)(args:List WData):l.row.toRowW.claim.post args (.bool true) args=true :=
 postW_of (r:=l.row.toRowW) (X:=(true == true))
  (show WShape.has [] (.bool true) .bool=true by first | rfl | decide | simp[WShape.has,WShape.arms,WShape.armsAll])
  (show (WTm.eq .res (.lit (.bool true))).value [] { args:=args,res:=some (.bool true),after:=args }=some (.bool (true == true)) from w_eq_bool (w_res rfl) w_lit) rfl
theorem attach_call {l:OpenLaw}{n:Nat}{q:Ak}{loose:List Str}{XP:(Str->Option Ad)->Ap->Prop}{YP:Am->Ap->Prop}{d:DefRec}
  (hn:l.most=some n) (GQ:d.params.defaults=[])
  (call:∀(w:Am) (s₀ s₁:Af) (mg mb:Str->Option Ad) (fa:Ac) (o:Obj) (pm cd doc:Ad) (a:Ac) (vs:List Ad) (ns:List Int),
   Ground q loose [] XP w s₀ mg mb s₁.heap->YP w s₁.heap ->
   s₁.heap.get? fa=some o->o.data=.func (docDef d.name d.params d.body d.scope pm cd doc)->s₁.heap.CodeRec cd d.name->mg d.name=some (.ref fa) ->
   s₁.heap.get? a=some { cls:=.type "list",data:=.seq vs.toArray }->IntsAre vs ns->ns.length<=n->s₁.gens=#[] ->
   codeAny (Aj l.prog w) BR (.call (.ref fa) ⟨[.ref a],[]⟩) (fun r s'=>r=.ok (.ret (.bool true))/\OldK s₁.heap s'.heap/\s'.os=s₁.os/\Bl s'.gens) s₁) :
  WalkO q loose XP YP l.row.toRowW d [] (fun f vs=>PySem.call f vs):=by
 intro w s₀ s₁ mg mb G Y fa o pm cd doc dV kV ho hd Ez hD F2 hg args vals as EO Kt hrd Eb hlo
 obtain rfl:dV=.none:=Dflts.none hD GQ
 obtain rfl:kV=.none:=Dflts.noKw hD
 obtain⟨a,vs,ns,rfl,rfl,DT,ER,Cd⟩:=cr hn EO Eb
 refine enter_call (A2 (call w s₀ s₁ mg mb fa o pm cd doc a vs ns G Y ho (fd_plain hd) Ez F2 DT ER Cd hg) fun r s' hq=>?_)
 obtain⟨rfl,h2,h3,h4⟩:=hq
 exact⟨.inl ⟨.bool true,.bool true,[],rfl,fun _=>rfl,.bool true,cu l _,fun _=>⟨List.Pairwise.nil,fun _ hm=>(nomatch hm)⟩⟩,h2,h3,h4⟩
section
variable {prog:Ak}{w:Am}{A:Ao}{E:Ad->Af->Prop}{s:Af}{K:Frag}
end
end Att
namespace L2
open PySem PySem.Spec PyProof.Rows
theorem V2:∀{vs:List Ad}{ns:List Int},IntsAre vs ns->Vals (ns.map V.int) vs
 | _,_,.nil=>.nil
 | _,_,.cons n t h=>.cons ⟨t,rfl⟩ (V2 h)
def Only (H:Hp):Prop:=∀ b,H b=none∨∃ o xs,H b=some (.frz o (.lst xs))
theorem cw {P:Ak}{w:Am}{K:L3}{mg mb:Str->Option Ad}{CX:CXT}{k:Nat}{fa a:Ac}{fd:Ay}{x:Str}{sp:Sp}{s₁:Af}{vs:List Ad}{ns:List Int}
  (KX:K.In s₁.heap) (Gz:s₁.heap.Ns Ai mg) (hb:s₁.heap.Ns builtinsNs mb) (GR:∀ x:Str,x≠"__name__"->mb x=AL x) (Ix:s₁.heap.NoLimit) (hg:s₁.gens=#[])
  (ha:s₁.heap.get? a=some { cls:=.type "list",data:=.seq vs.toArray }) (hi:IntsAre vs ns) (hl:ns.length<=Ae) (hr:Room k BR)
  (F:∀ base:Ap,K.In base->base.Ns Ai mg->FnOk P w K mg base CX k fa fd [x] sp) (GS:∀(s:Af) (u:Ad),BQ s fd ⟨[u],[]⟩ [(x,u)])
  (DY:∀ H:Hp,Only H->SqL K H a (ns.map V.int)->sp [.ref a] H (fun v _=>v=.bl true) fun _ _ _=>False)
  (Iy:∀ H e s',CX [] H s₁ (fun _ _ _=>False) e s'->False) :
  codeAny (Aj P w) BR (.call (.ref fa) ⟨[.ref a],[]⟩) (fun r s'=>r=.ok (.ret (.bool true))/\OldK s₁.heap s'.heap/\s'.os=s₁.os/\Bl s'.gens) s₁:=by
 have rv:=V2 hi
 have lenV:=hi.length
 -- from an abstract heap in which nothing but the script may be tracked
 have core:∀ H:Hp,Only H->SqL K H a (ns.map V.int)->HOk P w H s₁.heap->(∀ b,H b≠none->b=a)->(H a≠none->K.lookup a=none) ->
   codeAny (Aj P w) BR (.call (.ref fa) ⟨[.ref a],[]⟩) (fun r s'=>r=.ok (.ret (.bool true))/\OldK s₁.heap s'.heap/\s'.os=s₁.os/\Bl s'.gens) s₁:=by
  intro H hO hS hok hA hK
  have base_of:∀{b:Ac}{o:Obj},s₁.heap.get? b=some o->H b=none->(hidT s₁.heap H).get? b=some o:=fun e n=>bg e n
  have noA:∀{b:Ac}{o:Obj}{es:Array DictEntry}{ep:Nat},s₁.heap.get? b=some o->o.data=.dict es ep->H b=none:=fun{b o es ep} e d=>by
   cases q:H b with
   | none=>rfl
   | some u =>
    have e':b=a:=hA b (by rw[q];simp)
    subst e'
    rw[ha] at e;cases e
    have d':Data.seq vs.toArray _=Data.dict es ep:=d
    cases d'
  have nsK:∀{b:Ac}{m:Str->Option Ad},s₁.heap.Ns b m->(hidT s₁.heap H).Ns b m:=fun{b m} ⟨o,es,ep,e,d,r⟩=>⟨o,es,ep,base_of e (noA e d),d,r⟩
  have JJ:K.In (hidT s₁.heap H):=fun b o e=>base_of (KX b o e) (by
   cases q:H b with
   | none=>rfl
   | some u =>
    have e':b=a:=hA b (by rw[q];simp)
    subst e'
    rw[hK (by rw[q];simp)] at e;cases e)
  have hM:Mod K mg (hidT s₁.heap H):=⟨JJ,nsK Gz,⟨mb,nsK hb,GR⟩,let ⟨mc,h1,h2⟩:=Ix;⟨mc,nsK h1,h2⟩⟩
  have e0:Env0 P w K mg (hidT s₁.heap H) BR [] s₁ H:=⟨rfl,hM,fun b o e=>bh e,Zu (bf _ _),trivial,fun b hb=>absurd (show b∈([]:List Ac) from hb) (by simp),hok,.of_eq hg⟩
  refine A2 ((F _ JJ (nsK Gz)).run BR [] s₁ H ⟨[.ref a],[]⟩ [.ref a] [.ref a] _ _ hr e0 (GS s₁ (.ref a)) (.cons rfl .nil) (DY H hO hS)) fun r s' h=>?_
  cases r with
  | error e=>exact(Iy H e s' h).elim
  | ok fl =>
   cases fl with
   | next=>exact Oi h
   | brk=>exact Oi h
   | cont=>exact Oi h
   | ret u =>
    obtain⟨v,H',os,bare,un,hok',r',q⟩:=h
    have q':v=.bl true:=q
    subst q'
    obtain rfl:u=Value.bool true:=r'
    refine⟨rfl,OldK.of_keep fun b o e=>?_,os,bare⟩
    cases q:H b with
    | none=>exact un.keep b o e q (by intro z;exact absurd (show b∈([]:List Ac) from z) (by simp)) (by simp)
    | some u =>
     rcases hO b with z | ⟨ob,xs,z⟩
     ·rw[q] at z;cases z
     ·have z2:=un.frzs b ob _ z
      obtain⟨e1,_⟩:=hok b _ z
      obtain⟨e2,_⟩:=hok' b _ z2
      rw[e] at e1;cases e1
      exact e2
 cases hk:K.lookup a with
 | some o =>
  -- the script is one of the module's own objects
  have e:=KX a o hk
  rw[ha] at e
  cases e
  refine core (fun _=>none) (fun _=>.inl rfl) (.inr ⟨_,vs.toArray,_,hk,rfl,rfl,rfl,by rw[MH,lenV];exact hl,by simpa using rv⟩) (fun b u z=>by have z':(none:Option HO)=some u:=z;cases z') (fun b z=>absurd rfl z) fun z=>absurd rfl z
 | none =>
  refine core (fun b=>if b=a then some (.frz { cls:=.type "list",data:=.seq vs.toArray } (.lst (ns.map V.int))) else none) (fun b=>?_) (.inl (.inr ⟨{ cls:=.type "list",data:=.seq vs.toArray },B9 rfl⟩)) (fun b u z=>?_) (fun b z=>?_) fun _=>hk
  ·by_cases hb:b=a
   ·exact .inr ⟨_,_,B9 hb⟩
   ·exact .inl (B8 hb)
  ·by_cases hb:b=a
   ·have z':=(B9 hb).symm.trans z
    cases z'
    subst hb
    exact⟨ha,by rw[L8];exact hl,vs,_,rv,ha⟩
   ·have z':=(B8 hb).symm.trans z
    cases z'
  ·by_cases hb:b=a
   ·exact hb
   ·exact absurd (B8 hb) z
theorem V3 {l:Z2}{n k:Nat}{q:Ak}{loose:List Str}{XP:(Str->Option Ad)->Ap->Prop}{YP:Am->Ap->Prop}{d:DefRec}{K:Params->L3}{CX:Am->CXT}{sp:Am->Sp}{x:Str}
  (hn:l.most=some n) (Er:n<=Ae) (GQ:d.params.defaults=[]) (hr:Room k BR)
  (hY:∀(w:Am) (h:Ap),YP w h->(K w.params).In h)
  (F:∀(w:Am) (mg:Str->Option Ad) (fa:Ac) (h:Ap),(K w.params).In h->h.Ns Ai mg->mg d.name=some (.ref fa) ->
   ∃ fd:Ay,(∀(s:Af) (u:Ad),BQ s fd ⟨[u],[]⟩ [(x,u)]) /\
    ∀ base:Ap,(K w.params).In base->base.Ns Ai mg->FnOk l.prog w (K w.params) mg base (CX w) k fa fd [x] (sp w))
  (DY:∀(w:Am) (H:Hp) (a:Ac) (ns:List Int),ns.length<=n->Only H->SqL (K w.params) H a (ns.map V.int)->sp w [.ref a] H (fun v _=>v=.bl true) fun _ _ _=>False)
  (Iy:∀(w:Am) (H:Hp) (s:Af) (e:Ad) (s':Af),CX w [] H s (fun _ _ _=>False) e s'->False) :
  PySem.W.WalkO q loose XP YP l.row.toRowW d [] (fun f vs=>PySem.call f vs):=by
 refine Att.attach_call hn GQ fun w s₀ s₁ mg mb fa o pm cd doc a vs ns G Y ho hd Ez F2 DT ER Cd hg=>?_
 have KX:=hY w _ Y
 obtain⟨fd,hb,hF⟩:=F w mg fa _ KX G.T.g F2
 exact cw KX G.T.g G.T.b G.T.builtins G.T.nolimit hg DT ER (MR Cd Er) hr hF hb (fun H hO hS=>DY w H a ns Cd hO hS) fun H e s'=>Iy w H s₁ e s'
end L2
/- THE LAST THEOREM (shape;LID,My.* are yours):
  My.Adr: a structure of the addresses that your layer names (classes,functions);My.Txt K t: a structure (Prop) of the equations over K;
  My.txt_mk:{K}{implicit addresses ..} (e1:nsIn K Ai "law"=some (some (.ref f))) (e2:K.lookup f=some ⟨oc,od,.func (fnOf "law" "law" params body scope dV kV doc pm an cdv ct),sl⟩) (e3:codeIn K cdv "law"=true) ..:∃ t,My.Txt K t
set_option maxRecDepth 100000 in
set_option maxHeartbeats 0 in
theorem PySem.Challenge.cw_LID_holds : PySem.Challenge.rw_LID.Holds := by
 w_on;o_law;k_head;(case hw=>w_witness2)
 k_fill
 refine L2.V3 (l:=PySem.Challenge.rw_LID) (n:=63) (k:=40) (x:="script") (CX:=fun w=>..) (sp:=fun _=>My.sp_law) rfl (by decide) rfl ⟨rfl,by decide,by decide⟩ (fun w h Y=>PySem.W.kIn_of Y) ?F ?S ?C
 case F =>
  intro w mg fa h KX G F2
  have T:∃ t,My.Txt (L2.KOf KX) t:=by
   dsimp only [L2.KOf]                          -- K must stand as «<heap const> w.params» for k_is
   refine' My.txt_mk ?e1 ?e2 ?e3 ..
   (case e1=>PySem.W.k_is)                    -- in the order: a name -> its address -> its object -> its parts
   (case e2=>PySem.W.k_is)
   ..
  obtain⟨t,T⟩:=T
  have e0:=F2.symm.trans (Nf KX G T.law)
  cases e0                                       -- fa is the law's own address
  exact⟨_,fun s u=>.of_eq rfl,fun base kb nb=>My.law_fn T kb nb⟩     -- if «.of_eq rfl» comes too early: refine' ⟨_,?b,fun base kb nb=>My.law_fn T kb nb⟩;exact fun s u=>.of_eq rfl
 case S=>exact fun w H a ns hl hO hS=>..
 case C=>exact ..
(the tactic k_is has no namespace: write k_is) -/
namespace L2
open PySem PySem.Spec PyProof.Rows
noncomputable def Ot (s:Av)(j:Nat):Av:=match s with
 | .ClassDef _ _ _ body _ _ _ _ _ _ _=>body.getD j (.Pass ⟨0,0,0,0⟩)
 | _=>.Pass ⟨0,0,0,0⟩
noncomputable def UN (s:Av):Arguments:=match s with
 | .FunctionDef _ a _ _ _ _ _ _ _ _=>a
 | _=>{ posonlyargs:=[],args:=[],vararg:=none,kwonlyargs:=[],kw_defaults:=[],kwarg:=none,defaults:=[] }
noncomputable def QF (s:Av):List Av:=match s with
 | .FunctionDef _ _ b _ _ _ _ _ _ _=>b
 | _=>[]
noncomputable def NF (s:Av):Bt:=match s with
 | .FunctionDef _ _ _ _ _ _ sc _ _ _=>sc
 | _=>{ kind:=.function,names:=[],isGenerator:=false,isCoroutine:=false }
noncomputable abbrev CX0:CXT:=fun _ _ _ _ _ _=>False
noncomputable abbrev E0:XK:=fun _ _ _=>False
theorem PZ :Os CX0 X E0:=fun _ _ _ _ _ _ _ h=>h.elim
structure Fun (K:L3)(x Ci:Str)(st:Av)(f:Ac)(fd:Ay):Prop where
 ex:∃(oc:Ad) (od:Option Ac) (kV doc pm:Ad) (an:Option Ac) (cdv ct:Ad) (osl:Array (Option Ad)),
  fd=R6 x Ci (UN st) (QF st) (NF st) .none kV doc pm an cdv ct/\K.lookup f=some ⟨oc,od,.func fd,osl⟩/\Ze K cdv Ci=true
 kp:OA K (.ref f)=true
section
variable {P:Ak}{w:Am}{K:L3}{mg:Str->Option Ad}{base:Ap}
theorem Fun.ok {x Ci:Str}{st:Av}{f:Ac}{fd:Ay}{N ps:List Str}{k:Nat}{sp:Sp}(F:Fun K x Ci st f fd)(S:FnScope N ps (NF st))(len:∀ vs H Q E,sp vs H Q E->vs.length=ps.length)
  (Dq:∀(cdv:Ad) (A:Ao) (outer:List Env) (s:Af) (H:Hp) (vs:List V) (Q:VK) (E:XK),Room k (A.deeper (Br Ci (NF st) s.heap.objs.size f cdv))->sp vs H Q E ->
   ∃ t,PSs (cxOf CX0 P w K mg base N Ci (NF st) f cdv A outer s H E).nox (QF st) t/\t { nx:=fun _ H'=>Q .non H',rt:=Q } (start N vs) H):FnOk P w K mg base CX0 (k+1) f fd ps sp:=by
 obtain⟨oc,od,kV,doc,pm,an,cdv,ct,osl,rfl,lk,Ez⟩:=F.ex
 refine fn_of lk Ez S len fun A outer s H vs Q E hr DY=>?_
 obtain⟨t,h,q⟩:=Dq cdv A outer s H vs Q E hr DY
 exact⟨t,h.nox,q⟩
theorem Fun.binds {x Ci:Str}{st:Av}{f:Ac}{fd:Ay}{ps:List Str}(F:Fun K x Ci st f fd)
  (h:∀(kV doc pm:Ad) (an:Option Ac) (cdv ct:Ad) (us:List Ad),us.length=ps.length->bindArgs (R6 x Ci (UN st) (QF st) (NF st) .none kV doc pm an cdv ct) ⟨us,[]⟩=pure (ps.zip us)):Binds K fd ps []:=by
 obtain⟨oc,od,kV,doc,pm,an,cdv,ct,osl,rfl,lk,Ez⟩:=F.ex
 exact .all (h kV doc pm an cdv ct)
theorem SU {x Ci:Str}{st:Av}{f:Ac}{oc:Ad}{od an:Option Ac}{osl:Array (Option Ad)}{kV doc pm cdv ct:Ad}(l:K.lookup f=some ⟨oc,od,.func (R6 x Ci (UN st) (QF st) (NF st) .none kV doc pm an cdv ct),osl⟩)
  (c:Ze K cdv Ci=true) (k:OA K (.ref f)=true):Fun K x Ci st f (R6 x Ci (UN st) (QF st) (NF st) .none kV doc pm an cdv ct):=⟨⟨oc,od,kV,doc,pm,an,cdv,ct,osl,rfl,l,c⟩,k⟩
end
theorem QG (hr:Room k A):A.units+1 < BF:=R_ (Nat.add_le_add_left (by decide:1<=64) _) hr.units
section
variable {X:Cx}
theorem pv (i:Nat) (hN:X.N[i]?=some x:=by rfl) (hv:Vis X.env.scope x:=by first | exact Or.inl rfl | exact Or.inr (Or.inl rfl) | exact Or.inr (Or.inr rfl)) (hd:(x == ("__debug__":Str))=false:=by decide) (Ez:(x == ("__classdict__":Str))=false:=by decide):PE X (.Name x pos) (tVar i):=pe_var hN hv hd Ez
end
theorem iteF {A B:Prop}(h:B):if false=true then A else B:=by
 rw[B8 Mi]
 exact h
theorem iteT {A B:Prop}(h:A):if true=true then A else B:=by
 rw[B9 rfl]
 exact h
def Same (H H':Hp):Prop:=∀ b o,H b=some o->H' b=some o
theorem Same.refl (H:Hp):Same H H:=fun _ _ h=>h
theorem Same.trans (a:Same H H1) (b:Same H1 H2):Same H H2:=fun c o h=>b c o (a c o h)
theorem Same.free (e:Same H H') (h:H' l=Option.none):H l=Option.none:=by
 cases q:H l with
 | none=>rfl
 | some o =>
  rw[e l o q] at h
  cases h
theorem Same.seq {K:L3}{H H':Hp}{a:Ac}{xs:List V}(e:Same H H')(h:SqL K H a xs):SqL K H' a xs:=by
 rcases h with (h | ⟨o,h⟩) | h
 ·exact .inl (.inl (e _ _ h))
 ·exact .inl (.inr ⟨o,e _ _ h⟩)
 ·exact .inr h
end L2
namespace L2
open PySem
noncomputable def clTo (cells:List (Str×Ac)):List (Str×AW)->List (Str×Ac)->List (Str×Ac)
 | [],Ca=>Ca
 | (n,k)::r,Ca=>if k == .free then clTo cells r ((n,(cells.lookup n).getD 0)::Ca) else clTo cells r Ca
theorem cx (h:∀ y∈scope.names,y.2=.free->∃ c,env.cells.lookup y.1=some c):
  closureFor scope env=pure (clTo env.cells scope.names []):=by
 simp only[closureFor]
 generalize ([]:List (Str×Ac))=Ca
 revert h
 generalize scope.names=l
 intro h
 have key:∀(l:List (Str×AW)) (Ca:List (Str×Ac)),(∀ y∈l,y.2=.free->∃ c,env.cells.lookup y.1=some c) ->
   (forIn l Ca (fun x r=>if (x.snd == NameKind.free)=true then do
      let a <- cellOf env x.fst
      pure (ForInStep.yield ((x.fst,a)::r)) else pure (ForInStep.yield r)):Sem _)=pure (clTo env.cells l Ca):=by
  intro l
  induction l with
  | nil=>intro Ca _;rfl
  | cons y l ih =>
   intro Ca h
   obtain⟨n,k⟩:=y
   rw[U8]
   have hr:=fun y hy=>h y (MP _ hy)
   by_cases hk:(k == NameKind.free)=true
   ·obtain⟨c,hc⟩:=h (n,k) MV (by simpa using hk)
    have hc':env.cells.lookup n=some c:=hc
    have e1:cellOf env n=pure c:=by unfold cellOf;rw[hc']
    simp only[hk,if_true,e1,clTo,hc',Option.getD_some,pure_bind]
    exact ih _ hr
   ·simp only[Bool.not_eq_true] at hk
    simp only[hk,U_,if_false,clTo,pure_bind]
    exact ih _ hr
 rw[key l Ca h]
 rfl
theorem ZO {cells:List (Str×Ac)}{x:Str}:∀(l:List (Str×AW)) (Ca:List (Str×Ac)),((x,NameKind.free)∈l∨Ca.lookup x=some ((cells.lookup x).getD 0)) ->
  (clTo cells l Ca).lookup x=some ((cells.lookup x).getD 0)
 | [],Ca,h=>by
  rcases h with h | h
  ·cases h
  ·exact h
 | (n,k)::r,Ca,h=>by
  unfold clTo
  by_cases hk:(k == NameKind.free)=true
  ·rw[B9 hk]
   refine ZO r _ ?_
   by_cases e:x=n
   ·subst e;right;simp
   ·rcases h with h | h
    ·left
     rcases Mo.mp h with h | h
     ·injection h with h1 _;exact absurd h1 e
     ·exact h
    ·right
     rw[OK,beq_eq_false_iff_ne.mpr e];exact h
  ·rw[B8 hk]
   refine ZO r _ ?_
   rcases h with h | h
   ·left
    rcases Mo.mp h with h | h
    ·injection h with _ h2;rw[<- h2] at hk;exact absurd rfl hk
    ·exact h
   ·exact .inr h
theorem SV {cells:List (Str×Ac)}{x:Str}{c:Ac}:∀(l:List (Str×AW)) (Ca:List (Str×Ac)),(clTo cells l Ca).lookup x=some c ->
  Ca.lookup x=some c∨((x,NameKind.free)∈l/\c=(cells.lookup x).getD 0)
 | [],Ca,h=>.inl h
 | (n,k)::r,Ca,h=>by
  unfold clTo at h
  by_cases hk:(k == NameKind.free)=true
  ·rw[B9 hk] at h
   rcases SV r _ h with q | ⟨q1,q2⟩
   ·by_cases e:x=n
    ·subst e
     rw[OK,beq_self_eq_true] at q
     have hk':k=.free:=by simpa using hk
     subst hk'
     exact .inr ⟨MV,(Option.some.inj q).symm⟩
    ·rw[OK,beq_eq_false_iff_ne.mpr e] at q
     exact .inl q
   ·exact .inr ⟨MP _ q1,q2⟩
  ·rw[B8 hk] at h
   rcases SV r _ h with q | ⟨q1,q2⟩
   ·exact .inl q
   ·exact .inr ⟨MP _ q1,q2⟩
section
variable {prog:Ak}{w:Am}{A:Ao}
 {R:Result->Af->Prop}{s:Af}
theorem cy (hM:M=Aj prog w) (I:Nat->Af->Prop) (turn:∀ n s,I n s->wpAny M A (pyNext it) (fun r z₁=>match r with
   | none=>R (.ok .next) z₁
   | some v=>wpAny M A (Bh target it v) (fun _ z₀=>wpAny M A (assign target env v) (fun _ z₂ =>
     wpAny M A (forIn ifs true fun c r=>if r=true then do let ok <- isTrue c env (As c env);pure (ForInStep.yield ok) else pure (ForInStep.yield r)) (fun ok z₃ =>
      if ok=true then wpAny M A (As elt env) (fun x z₄ =>
       wpAny M A (call (.builtin "list.append") [Ca,x]) (fun _ z₅=>∃ m,m < n/\I m z₅) (notedBy M A env fun e s'=>R (.error e) s') z₄) (notedBy M A env fun e s'=>R (.error e) s') z₃
      else ∃ m,m < n/\I m z₃) (notedBy M A env fun e s'=>R (.error e) s') z₂) (notedBy M A env fun e s'=>R (.error e) s') z₀) (notedBy M A env fun e s'=>R (.error e) s') z₁) (notedBy M A env fun e s'=>R (.error e) s') s) (n:Nat) (h:I n s):
  codeAny M A (.compLoop (.ListComp elt [⟨target,iter,ifs,0⟩] scope pos) 0 it Ca env) R s:=by
 subst hM
 refine codeAny_loop rfl I (fun k z hz=>?_) n h
 show wpAny _ A (Sem.onRaise (compTurn (.ListComp elt [⟨target,iter,ifs,0⟩] scope pos) 0 it Ca env) _) _ _ z
 rw[compTurn_list]
 refine wpAny_noted (Aa (AV (Aa (An (turn k z hz) (fun r z1 g1=>?_) fun _ _ e=>e))))
 match r,g1 with
 | none,g1=>exact Ag g1
 | some v,g1 =>
  refine Aa (An g1 (fun _ z2 g2=>Aa (An g2 (fun _ z3 g3=>Aa (An g3 (fun b z4 g4=>?_) fun _ _ e=>e)) fun _ _ e=>e)) fun _ _ e=>e)
  match b,g4 with
  | false,g4=>exact Ag ⟨rfl,g4⟩
  | true,g4 =>
   refine Aa (Aa (An g4 (fun y z5 g5=>Aa (An g5 (fun _ z6 g6=>?_) fun _ _ e=>e)) fun _ _ e=>e))
   exact Ag (Ag ⟨rfl,g6⟩)
end
end L2
namespace L2
open PySem PySem.Spec PyProof.Rows
noncomputable def SW (σ:St):Option Nat->Option V
 | none=>none
 | some j=>match σ[j]? with
  | some (some v)=>some v
  | _=>none
noncomputable def pick (ix:List (Option Nat))(σ:St):St:=ix.map (SW σ)
theorem cz {i:Nat} (h:(pick ix σ)[i]?=some (some v)):∃ j,ix[i]?=some (some j)/\σ[j]?=some (some v):=by
 unfold pick at h
 rw[MC] at h
 cases e:ix[i]? with
 | none=>rw[e] at h;cases h
 | some o =>
  rw[e] at h
  have h':SW σ o=some v:=Option.some.inj h
  cases o with
  | none=>cases h'
  | some j =>
   refine⟨j,rfl,?_⟩
   unfold SW at h'
   dsimp only at h'
   split at h'
   ·rename_i q;rw[q,h']
   ·cases h'
noncomputable def NQ (X:Cx)(B_:List (Ac×Obj))(scope:Bt)(N':List Str)(fp:List Ac)(s3:Af)(H3:Hp):Cx where
 prog:=X.prog
 w:=X.w
 K:=X.K
 mg:=X.mg
 base:=X.base
 A:=X.A
 N:=N'
 s₀:=s3
 H₀:=H3
 env:=compEnvC scope (clTo X.env.cells scope.names []) s3.heap.objs.size X.env
 outer:=X.stack
 stack:=X.stack
 ex:=fp
 fn:=fun _=>false
 calm:=X.calm
 pn:=X.pn++B_
 xe:=fun _ _=>False
noncomputable def Ol (names:List (Str×AW))(N:List Str):List (Option Nat)->List Str->Bool
 | [],[]=>true
 | none::r,_::q=>Ol names N r q
 | some j::r,x::q=>N[j]? == some x&&names.lookup x == some .free&&Ol names N r q
 | _,_=>false
noncomputable def P0 (sc:Bt)(N:List Str)(scope:Bt)(N':List Str)(ix:List (Option Nat)):Bool :=
 scope.names.all (fun y=>y.2 != .cell)&&scope.names.all (fun y=>y.2 != .local || scope.names.lookup y.1 == some .local)
  && scope.names.all (fun y=>y.2 != .free || (sc.names.lookup y.1 == some .cell || sc.names.lookup y.1 == some .free))&&Ol scope.names N ix N'
theorem cE {names:List (Str×AW)}{N:List Str}:∀{ix:List (Option Nat)}{N':List Str},Ol names N ix N'=true->ix.length=N'.length
 | [],[],_=>rfl
 | none::r,_::q,h=>by simp only[Ol] at h;simp[cE h]
 | some j::r,x::q,h=>by simp only[Ol,MQ] at h;simp[cE h.2]
 | [],_::_,h=>by simp[Ol] at h
 | none::_,[],h=>by simp[Ol] at h
 | some _::_,[],h=>by simp[Ol] at h
theorem cF {names:List (Str×AW)}{N:List Str}:∀{ix:List (Option Nat)}{N':List Str}{i j:Nat}{x:Str},Ol names N ix N'=true->ix[i]?=some (some j)->N'[i]?=some x ->
  N[j]?=some x/\names.lookup x=some .free
 | [],[],_,_,_,_,e,_=>by simp at e
 | none::r,_::q,0,_,_,_,e,_=>by simp at e
 | none::r,_::q,i+1,_,_,h,e,e'=>by
  simp only[Ol] at h
  exact cF h (by simpa using e) (by simpa using e')
 | some j::r,x::q,0,_,_,h,e,e'=>by
  simp only[Ol,MQ] at h
  simp at e e'
  subst e;subst e'
  exact⟨by simpa using h.1.1,by simpa using h.1.2⟩
 | some j::r,x::q,i+1,_,_,h,e,e'=>by
  simp only[Ol,MQ] at h
  exact cF h.2 (by simpa using e) (by simpa using e')
 | [],_::_,_,_,_,h,_,_=>by simp[Ol] at h
 | none::_,[],_,_,_,h,_,_=>by simp[Ol] at h
 | some _::_,[],_,_,_,h,_,_=>by simp[Ol] at h
theorem mem_of_lookup {α β:Type} [BEq α] [LawfulBEq α]{x:α}{k:β}:∀{l:List (α×β)},l.lookup x=some k->(x,k)∈l
 | [],h=>by cases h
 | (n,k')::r,h=>by
  rw[OK] at h
  by_cases e:x == n
  ·rw[e] at h
   have e':x=n:=by simpa using e
   cases h
   rw[e'];exact MV
  ·have e':(x == n)=false:=by simpa using e
   rw[e'] at h
   exact MP _ (mem_of_lookup h)
theorem cG {env:Env}{x:Str}{k:AW}:∀{names:List (Str×AW)},(∀ y∈names,y.2≠.cell) ->
  (names.map fun(n,k)=>if (k == NameKind.free&&env.scope.kind == .function&&env.kindOf n == some .cell) then (n,NameKind.cell) else (n,k)).lookup x=some k->(k=.cell∨k=.free)->(x,NameKind.free)∈names
 | [],_,h,_=>by cases h
 | (n,k')::r,hc,h,hk=>by
  rw[Mu] at h
  have hc':=fun y hy=>hc y (MP _ hy)
  have hk':k'≠.cell:=hc (n,k') MV
  by_cases e:x=n
  ·subst e
   dsimp only at h
   split at h
   ·rename_i q
    rw[OK,beq_self_eq_true] at h
    have:k'=.free:=by simp only[MQ] at q;simpa using q.1.1
    subst this;exact MV
   ·rw[OK,beq_self_eq_true] at h
    have Ku:k'=k:=Option.some.inj h
    subst Ku
    rcases hk with z | z
    ·exact absurd z hk'
    ·subst z;exact MV
  ·have e':(x == n)=false:=beq_eq_false_iff_ne.mpr e
   refine MP _ (cG (env:=env) hc' ?_ hk)
   dsimp only at h
   split at h
   ·rw[OK,e'] at h;exact h
   ·rw[OK,e'] at h;exact h
theorem cH {env:Env}{x:Str}:∀{names:List (Str×AW)},names.lookup x=some .free ->
  (names.map fun(n,k)=>if (k == NameKind.free&&env.scope.kind == .function&&env.kindOf n == some .cell) then (n,NameKind.cell) else (n,k)).lookup x=some .cell ∨
  (names.map fun(n,k)=>if (k == NameKind.free&&env.scope.kind == .function&&env.kindOf n == some .cell) then (n,NameKind.cell) else (n,k)).lookup x=some .free
 | [],h=>by cases h
 | (n,k')::r,h=>by
  rw[Mu]
  rw[OK] at h
  by_cases e:x=n
  ·subst e
   rw[beq_self_eq_true] at h
   have hk:k'=.free:=Option.some.inj h
   subst hk
   dsimp only
   split
   ·left;rw[OK,beq_self_eq_true]
   ·right;rw[OK,beq_self_eq_true]
  ·have e':(x == n)=false:=beq_eq_false_iff_ne.mpr e
   rw[e'] at h
   dsimp only
   split
   ·rw[OK,e'];exact cH h
   ·rw[OK,e'];exact cH h
structure CompFacts (X:Cx)(scope:Bt)(N':List Str)(ix:List (Option Nat)):Prop where
 nocell:∀ y∈scope.names,y.2≠.cell
 names:∀ y∈scope.names,y.2=.local->scope.names.lookup y.1=some .local
 free:∀ x,(x,NameKind.free)∈scope.names->X.env.kindOf x=some .cell∨X.env.kindOf x=some .free
 len:ix.length=N'.length
 link:∀{i j:Nat}{x:Str},ix[i]?=some (some j)->N'[i]?=some x->X.N[j]?=some x/\scope.names.lookup x=some .free
theorem cI (h:P0 X.env.scope X.N scope N' ix=true):CompFacts X scope N' ix:=by
 simp only[P0,MQ,On] at h
 obtain⟨⟨⟨h1,h2⟩,h3⟩,h4⟩:=h
 refine⟨fun y hy=>by simpa using h1 y hy,fun y hy e=>?_,fun x hx=>?_,cE h4,fun e e'=>cF h4 e e'⟩
 ·have q:=h2 y hy
  rw[e] at q
  simpa using q
 ·have q:=h3 _ hx
  have q':X.env.scope.names.lookup x=some .cell∨X.env.scope.names.lookup x=some .free:=by simpa using q
  exact q'
section
variable {X:Cx}{B_:List (Ac×Obj)}{σ:St}{H H':Hp}{s s':Af}{scope:Bt}{N':List Str}{ix:List (Option Nat)}{fp:List Ac}
theorem FpOk.stk (I:Inv X B_ σ H s) (f:FpOk X B_ H b):b∉frs X.stack:=fun z=>by
 rcases Mo.mp (I.stkSub b z) with q | q
 ·exact f.2.1 q
 ·exact f.2.2.1 q
theorem UO (I:Inv X B_ σ H s) (F:CompFacts X scope N' ix) (h:(clTo X.env.cells scope.names []).lookup x=some c):X.env.cells.lookup x=some c/\(x,NameKind.free)∈scope.names:=by
 rcases SV _ _ h with q | ⟨q1,q2⟩
 ·cases q
 ·obtain⟨c',e⟩:=I.ok.has x (F.free x q1)
  rw[e] at q2
  exact⟨by rw[e,q2];rfl,q1⟩
theorem cJ (I:Inv X B_ σ H s)(F:CompFacts X scope N' ix)(hk:scope.kind=.function)(hf:∀ b∈fp,FpOk X B_ H b)(ho:∀ b∈fp,∃ o,s.heap.get? b=some o):(NQ X B_ scope N' fp s H).Ok where
 mod:=I.ok.mod
 kind:=hk
 glob:=I.ok.glob
 blt:=I.ok.blt
 above:=L' _
 inj:=fun x y c e1 e2=>I.ok.inj x y c (UO I F e1).1 (UO I F e2).1
 has:=fun x hx=>by
  have q:(x,NameKind.free)∈scope.names:=by
   rcases hx with z | z
   ·exact cG F.nocell z (.inl rfl)
   ·exact cG F.nocell z (.inr rfl)
  exact⟨_,ZO _ _ (.inl q)⟩
 cab:=fun x c e=>by cases e
 hd:=I.ok.hd
 frames:=I.ok.frames
 stk:=.inl rfl
 exf:=fun b hb=>by
  obtain⟨o,e⟩:=ho b hb
  exact⟨MA (Ml e),fun x c q=>(hf b hb).2.2.2.2.1 x c (UO I F q).1⟩
 bs:=fun b o e=>I.bs b o e
 bsz:=MR I.ok.bsz I.sz
 noex:=fun b o e hb=>by
  rcases (hf b hb).2.2.2.1 with z | z
  ·exact I.ok.noex b o e z
  ·exact absurd (Nh (Ml (I.ok.bs b o e).1) z) (Qv _)
 exfs:=fun b hb=>FpOk.stk I (hf b hb)
 funs:=I.stack
 frf:=I.stkFree
theorem cK (I:Inv X B_ σ H s) (F:CompFacts X scope N' ix) (hk:scope.kind=.function) (hf:∀ b∈fp,FpOk X B_ H b) (ho:∀ b∈fp,∃ o,s.heap.get? b=some o) (hn:h'.Ns s.heap.objs.size m) (hs:QU s.heap.objs.size (s.heap.push ob) h'):
  Inv (NQ X B_ scope N' fp s H) [] (pick ix σ) H { s with heap:=h',toks:=t }:=by
 have k:∀ b u,s.heap.get? b=some u->h'.get? b=some u:=fun b u e =>
  (hs.2 b (MA (Ml e))).trans (Mf _ e)
 refine⟨cJ I F hk hf ho,rfl,I.bare,Un.kept k,⟨m,hn,fun i x v e1 e2 e3=>?_⟩,fun x c e=>?_,I.fresh,fun x c e=>?_,fun p hp=>?_,I.hok.kept k,?_⟩
 ·obtain⟨j,ej,ev⟩:=cz e2
  obtain⟨l1,l2⟩:=F.link ej e1
  have fr:(x,NameKind.free)∈scope.names:=mem_of_lookup l2
  obtain⟨m0,hn0,hl⟩:=I.loc
  have vis:Vis X.env.scope x:=.inr (F.free x fr)
  obtain⟨u,r,l⟩:=hl j x v l1 ev vis
  refine⟨u,r,.inr ⟨cH l2,?_⟩⟩
  rcases l with ⟨l,_⟩ | ⟨_,c,e,z⟩
  ·rcases F.free x fr with q | q
   ·rw[q] at l;cases l
   ·rw[q] at l;cases l
  ·refine⟨c,?_,z.keeps k⟩
   show (clTo X.env.cells scope.names []).lookup x=some c
   rw[ZO _ _ (.inl fr),e];rfl
 ·obtain⟨v,z⟩:=I.cell x c (UO I F e).1
  exact⟨v,z.keeps k⟩
 ·exact I.freeC x c (UO I F e).1
 ·have hp':p∈X.pn++B_:=by
   have z:p∈(X.pn++B_)++[]:=hp
   rwa [Pr] at z
  obtain⟨e,n,ne,nf,d⟩:=I.pin p hp'
  refine⟨k _ _ e,n,MA (Ml e),fun z=>?_,d⟩
  rcases Mo.mp (I.stkSub p.1 z) with q | q
  ·exact ne q
  ·exact nf q
 ·show (pick ix σ).length=N'.length
  unfold pick;rw[L8];exact F.len
theorem HOk.sameBut (ok:HOk P w H h) (hn:H a=none) (hs:QU a h h'):HOk P w H h':=fun b ob e=>by
 refine(ok b ob e).stay (fun c w' hc q=>(hs.2 c ?_).trans q) (fun _ q=>q) fun _ _ q=>q
 rintro rfl
 rcases hc with rfl | hc
 ·rw[hn] at e;cases e
 ·rw[hn] at hc;cases hc
theorem cL (I:Inv X B_ σ H s) (hf:∀ b∈fp,FpOk X B_ H b) (I':Inv (NQ X B_ scope N' fp s H) ps σ' H' s') (hs:QU s.heap.objs.size s'.heap h'):
  Inv X B_ σ H' { s' with heap:=h' }:=by
 have bk:∀{b o o'},s.heap.get? b=some o->s'.heap.get? b=some o'->h'.get? b=some o':=fun{b o o'} e e'=>(hs.2 b (MA (Ml e))).trans e'
 refine I.call' (s':={ s' with heap:=h' }) (ch:=fp) I'.os ⟨fun b o e n hb hx=>?_,fun b o e n hb hx=>?_,I'.base.free,fun b o e hx=>?_,I'.base.tups,I'.base.frzs,I'.base.tbls⟩ (I'.hok.sameBut I'.free hs) I'.bare fun b hb=>⟨(hf b hb).2.2.2.1,(hf b hb).2.1,(hf b hb).2.2.2.2.1,(hf b hb).2.2.2.2.2⟩
 ·exact bk e (I'.base.keep b o e n hb hx)
 ·obtain⟨sl,q⟩:=I'.base.slot b o e n hb hx
  exact⟨sl,bk e q⟩
 ·obtain⟨o',q⟩:=I'.base.there b o e hx
  exact⟨o',bk e q⟩
end
noncomputable def PTs (X:Cx)(ifs:List Ax)(t:TT):Prop :=
 ∀(B_:List (Ac×Obj)) (s:Af) (σ:St) (H:Hp) (Q:Bool->Hp->Prop),Inv X B_ σ H s->t σ H Q ->
  wpAny (Aj X.prog X.w) X.A (forIn ifs true fun c r=>if r=true then do let ok <- isTrue c X.env (As c X.env);pure (ForInStep.yield ok) else pure (ForInStep.yield r)) (TP X B_ σ Q) X.xe s
def tTrue:TT:=fun _ H Q=>Q true H
theorem Q4 :PTs X [] tTrue:=fun _ _ _ H _ I h=>wpAny_tests_nil ⟨H,I,h⟩
theorem Q5 (h:PT X c t):PTs X [c] t:=fun B_ s σ H Q I q=>wpAny_tests_one (h B_ s σ H Q I q)
noncomputable def Q6 (J:It)(p:Ac)(g:TG)(tc:TT)(te:TE)(Q:VK)(σ0:St)(H0:Hp):Prop :=
 ∃ W:Nat->Nat->List V->St->Hp->Prop,(∃ m,W 0 m [] σ0 H0)/\∀ i m Ca σ' H',W i m Ca σ' H'->H' p=some (.lst Ca) /\
  ((J.stop i H'/\Q (.ref p) H')∨(J.go i H'/\Ca.length < Ae/\∃ N:List V->St->Hp->Prop,(∀ a' σ3 H3,N a' σ3 H3->∃ m',m' < m/\W (i+1) m' a' σ3 H3) /\
   ∀ x H2,J.yld i H' x H2->g x σ' H2 fun σ3 H3=>tc σ3 H3 fun b H4 =>
    if b=true then te σ3 H4 fun v H5=>H5 p=some (.lst Ca)/\N (Ca++[v]) σ3 (upd H5 p (.lst (Ca++[v]))) else N Ca σ3 H4))
def Q7 (ix:List (Option Nat))(wi:TI)(g:TG)(tc:TT)(te:TE):TE:=fun σ H Q=>wi σ H fun J H1=>∀ p,H1 p=none->Q6 J p g tc te Q (pick ix σ) (upd H1 p (.lst []))
section
variable {X:Cx}{elt tg iter:Ax}{ifs:List Ax}{scope:Bt}{pos:Pos}{N':List Str}{ix:List (Option Nat)}{wi:TI}{g:TG}{tc:TT}{te:TE}
theorem V4 (hc:X.calm=true) (ok:P0 X.env.scope X.N scope N' ix=true) (hk:scope.kind=.function) (hi:PI X tg iter wi) (hg:∀ B_ fp s3 H3,PG (NQ X B_ scope N' fp s3 H3) tg g) (ht:∀ B_ fp s3 H3,PTs (NQ X B_ scope N' fp s3 H3) ifs tc) (he:∀ B_ fp s3 H3,PE (NQ X B_ scope N' fp s3 H3) elt te) (hs:∀ x,A9 iter X.env x=pure x) (I:Inv X B_ σ H s) (h:Q7 ix wi g tc te σ H Q) (fin:∀(p C:Ac) (H':Hp) (s':Af),(∃ m,s'.heap.Ns C m)->FpOk X B_ H' C->(∀ h',QU C s'.heap h'->Inv X B_ σ H' { s' with heap:=h' })->Q (.ref p) H'->compPost (Aj X.prog X.w) X.A X.xe use R (.ref p) C (.ok .next) s'):
  wpAny (Aj X.prog X.w) X.A (comprehension (.ListComp elt [⟨tg,iter,ifs,0⟩] scope pos) scope X.env (firstIterPos [⟨tg,iter,ifs,0⟩] pos) (newList []) (firstAsync [⟨tg,iter,ifs,0⟩]) (firstIter [⟨tg,iter,ifs,0⟩] X.env) use) R X.xe s:=by
 have F:=cI ok
 refine wpAny_comprehension_free (cl:=clTo X.env.cells scope.names []) rfl hs (cx fun y hy e=>?_) hk F.names ?_
 ·obtain⟨n,k⟩:=y
  have e':k=.free:=e
  subst e'
  exact I.ok.has n (F.free n hy)
 refine thn (hi B_ s σ H _ I h) fun v s1 h1=>thn h1 fun itv s2 h2=>?_
 obtain⟨it,fp,tn,J,H2,e,I2,T,st2,f2,rd⟩:=h2
 subst e
 refine AD ?_
 have hp:=I2.fresh
 obtain⟨W,⟨m0,w0⟩,turn⟩:=rd _ hp
 have I3:=I2.lnew (ys:=[]) (its:=[]) (t':=s2.toks) Paired.nil (ML _)
 have EJ:∀ b∈fp,FpOk X B_ (upd H2 s2.heap.objs.size (.lst [])) b:=fun b hb=>by
  obtain⟨o,e,_⟩:=T.obj _ _ st2 b hb
  exact⟨by rw[L4 (MA (Ml e))];exact(f2 b hb).1,(f2 b hb).2⟩
 have JK:∀ b∈fp,∃ o,(s2.heap.push { cls:=.type "list",data:=.seq ([]:List Ad).toArray }).get? b=some o:=fun b hb=>by
  obtain⟨o,e,_⟩:=T.obj _ _ st2 b hb
  exact⟨o,Mf _ e⟩
 have hpC:s2.heap.objs.size≠(s2.heap.push { cls:=.type "list",data:=.seq ([]:List Ad).toArray }).objs.size:=by
  rw[Om];exact MA (UG _)
 refine wpAny_newFunctionEnv F.nocell (by intro y hy;simp at hy) (fun h4 GT JL=>?_) hk
 have I4:=cK (t:=s2.toks+([]:List (Str×Ad)).length) I3 F hk EJ JK GT JL
 have k4:∀ b o,s2.heap.get? b=some o->h4.get? b=some o:=fun b o e =>
  (JL.2 b (MA (Nh (Ml e) (by rw[Om];exact Qw _)))).trans (Mf _ (Mf _ e))
 have st4:tn 0 h4:=T.keep _ _ _ st2 fun b _ o e=>k4 b o e
 have fx:∀{H':Hp}{ps:List (Ac×Obj)},(∀ b∈fp,H' b=none)->(∀ b∈fp,∀ p∈ps,p.1≠b)->∀ b∈fp,FpOk (NQ X B_ scope N' fp { s2 with heap:=s2.heap.push { cls:=.type "list",data:=.seq ([]:List Ad).toArray },toks:=s2.toks } (upd H2 s2.heap.objs.size (.lst []))) ps H' b:=fun{H' ps} hn EA b hb=>by
  obtain⟨o,e⟩:=JK b hb
  refine⟨hn b hb,MA (Ml e),FpOk.stk I3 (EJ b hb),.inl hb,fun x c q=>(EJ b hb).2.2.2.2.1 x c (UO I3 F q).1,fun p hp=>?_⟩
  rcases Nv.mp hp with z | z
  ·exact(EJ b hb).2.2.2.2.2 p z
  ·exact EA b hb p z
 have loop:codeAny (Aj X.prog X.w) X.A (.compLoop (.ListComp elt [⟨tg,iter,ifs,0⟩] scope pos) 0 (.ref it) (.ref s2.heap.objs.size) (compEnvC scope (clTo X.env.cells scope.names []) (s2.heap.push { cls:=.type "list",data:=.seq ([]:List Ad).toArray }).objs.size X.env))
   (compPost (Aj X.prog X.w) X.A X.xe use R (.ref s2.heap.objs.size) (s2.heap.push { cls:=.type "list",data:=.seq ([]:List Ad).toArray }).objs.size) { s2 with heap:=h4,toks:=s2.toks+([]:List (Str×Ad)).length }:=by
  refine cy rfl (fun n s'=>∃ i Ca σ' H',Inv (NQ X B_ scope N' fp { s2 with heap:=s2.heap.push { cls:=.type "list",data:=.seq ([]:List Ad).toArray },toks:=s2.toks } (upd H2 s2.heap.objs.size (.lst []))) [] σ' H' s'/\tn i s'.heap/\(∀ b∈fp,H' b=none)/\W i n Ca σ' H')
   ?_ m0 ⟨0,[],_,_,I4,st4,fun b hb=>(EJ b hb).1,w0⟩
  rintro n s5 ⟨i,Ca,σ5,H5,I5,st5,fr5,w5⟩
  obtain⟨GU,alt⟩:=turn i n Ca σ5 H5 w5
  rcases alt with ⟨stop,q⟩ | ⟨go,hz,N,hN,step⟩
  ·refine An (T.done (NQ X B_ scope N' fp { s2 with heap:=s2.heap.push { cls:=.type "list",data:=.seq ([]:List Ad).toArray },toks:=s2.toks } (upd H2 s2.heap.objs.size (.lst []))) rfl rfl rfl hc i [] s5 σ5 H5 (fun _ _=>False) I5 (fx (ps:=[]) fr5 (fun _ _ _ z=>nomatch z)) st5 stop) (fun r s6 ⟨hr,I6⟩=>?_) fun _ _ f=>f.elim
   subst hr
   refine fin _ _ H5 s6 ?_ (I3.fpOk (L' _) I6.free) (fun h' hs'=>cL I3 EJ I6 hs') q
   obtain⟨m,hm,_⟩:=I6.loc
   exact⟨m,hm⟩
  ·refine An (T.item (NQ X B_ scope N' fp { s2 with heap:=s2.heap.push { cls:=.type "list",data:=.seq ([]:List Ad).toArray },toks:=s2.toks } (upd H2 s2.heap.objs.size (.lst []))) rfl rfl rfl hc i [] s5 σ5 H5 (fun _ _=>False) I5 (fx (ps:=[]) fr5 (fun _ _ _ z=>nomatch z)) st5 go) (fun r s6 ⟨u,hr,h6⟩=>?_) fun _ _ f=>f.elim
   subst hr
   refine An h6 (fun _ s7 ⟨x,H7,I7,r7,y7,st7,fr7⟩=>?_) fun _ _ f=>f.elim
   have I7':=I7.pinned (fx (ps:=[]) fr7 (fun _ _ _ z=>nomatch z)) (T.obj _ _ st7)
   refine An (hg _ _ _ _ _ s7 σ5 H7 x u _ I7' r7 (step x H7 y7)) (fun _ s8 ⟨σ8,H8,I8,q8⟩=>?_) fun _ _ f=>f.elim
   refine An (ht _ _ _ _ _ s8 σ8 H8 _ I8 q8) (fun b s9 ⟨H9,I9,q9⟩=>?_) fun _ _ f=>f.elim
   have keep:∀{σ':St}{H':Hp}{s':Af},Inv (NQ X B_ scope N' fp { s2 with heap:=s2.heap.push { cls:=.type "list",data:=.seq ([]:List Ad).toArray },toks:=s2.toks } (upd H2 s2.heap.objs.size (.lst []))) ([]++PR fp s7.heap) σ' H' s' ->
     tn (i+1) s'.heap/\∀ b∈fp,H' b=none:=fun{σ' H' s'} I'=>by
    refine⟨T.keep _ _ _ st7 fun b hb o e=>(I'.pin (b,o) (Qs _ (Qs _ (ZN hb e)))).1,fun b hb=>?_⟩
    obtain⟨o,e,d⟩:=T.obj _ _ st7 b hb
    exact(I'.pin (b,o) (Qs _ (Qs _ (ZN hb e)))).2.1
   cases b with
   | false =>
    rw[B8 Mi] at q9 ⊢
    obtain⟨m',hm,w9⟩:=hN _ _ _ q9
    exact⟨m',hm,i+1,Ca,σ8,H9,I9.unpinned,(keep I9).1,(keep I9).2,w9⟩
   | true =>
    rw[B9 rfl] at q9 ⊢
    refine An (he _ _ _ _ _ s9 σ8 H9 _ I9 q9) (fun y s10 ⟨v10,H10,I10,r10,Iz,w10⟩=>?_) fun _ _ f=>f.elim
    refine An (V1 (X:=(NQ X B_ scope N' fp { s2 with heap:=s2.heap.push { cls:=.type "list",data:=.seq ([]:List Ad).toArray },toks:=s2.toks } (upd H2 s2.heap.objs.size (.lst [])))) _ s10 σ8 H10 (.ref s2.heap.objs.size) [v10] (.ref s2.heap.objs.size) [y] (fun _ H'=>N (Ca++[v10]) σ8 H') I10 rfl (.cons r10 .nil) ⟨_,Ca,v10,rfl,rfl,Iz,hz,w10⟩) (fun _ s11 ⟨_,H11,I11,_,n11⟩=>?_) fun _ _ f=>f.elim
    obtain⟨m',hm,w11⟩:=hN _ _ _ n11
    exact⟨m',hm,i+1,Ca++[v10],σ8,H11,I11.unpinned,(keep I11).1,(keep I11).2,w11⟩
 exact codeAny_compStart_list loop (T.self X.A 0 _ _ _ st4 loop)
theorem Px (N':List Str)(ix:List (Option Nat))(hc:X.calm=true)(ok:P0 X.env.scope X.N scope N' ix=true)(hk:scope.kind=.function)(hi:PI X tg iter wi)
  (hg:∀ B_ fp s3 H3,PG (NQ X B_ scope N' fp s3 H3) tg g) (ht:∀ B_ fp s3 H3,PTs (NQ X B_ scope N' fp s3 H3) ifs tc) (he:∀ B_ fp s3 H3,PE (NQ X B_ scope N' fp s3 H3) elt te)
  (hs:∀ x,A9 iter X.env x=pure x:=by intro _;rfl):PE X (.ListComp elt [⟨tg,iter,ifs,0⟩] scope pos) (Q7 ix wi g tc te):=by
 intro B_ s σ H Q I h
 rw[eval_ListComp]
 refine V4 hc ok hk hi hg ht he hs I h fun p C H' s' hm fC inv q=>?_
 obtain⟨m,hm⟩:=hm
 exact⟨m,hm,fun h' hs'=>⟨.ref p,H',inv h' hs',rfl,q⟩⟩
theorem ps_setC (N':List Str) (ix:List (Option Nat)) (hc:X.calm=true) (ok:P0 X.env.scope X.N scope N' ix=true) (hk:scope.kind=.function) (hN:X.N.Nodup) (E8:X.N[i]?=some x) (hx:X.env.scope.names.lookup x=some .local) (hi:PI X tg iter wi) (hg:∀ B_ fp s3 H3,PG (NQ X B_ scope N' fp s3 H3) tg g) (ht:∀ B_ fp s3 H3,PTs (NQ X B_ scope N' fp s3 H3) ifs tc) (he:∀ B_ fp s3 H3,PE (NQ X B_ scope N' fp s3 H3) elt te) (hw:Bo (.ListComp elt [⟨tg,iter,ifs,0⟩] scope pos) (some (.Name x pos')) spos.line X.env=pure true:=by rfl) (hs:∀ x,A9 iter X.env x=pure x:=by intro _;rfl):PS X (.Assign [.Name x pos'] (.ListComp elt [⟨tg,iter,ifs,0⟩] scope pos) spos) (tAsg (Q7 ix wi g tc te) (OS i)):=by
 intro B_ s σ H D I h
 rw[exec_Assign_Name_used _ _ _ _ hw]
 refine Aa (AV (Aa ?_))
 show wpAny _ X.A (do let _ <- comprehension (.ListComp elt [⟨tg,iter,ifs,0⟩] scope pos) scope X.env (firstIterPos [⟨tg,iter,ifs,0⟩] pos) (newList []) (firstAsync [⟨tg,iter,ifs,0⟩]) (firstIter [⟨tg,iter,ifs,0⟩] X.env) (some (assign (.Name x pos') X.env))) _ _ s
 refine Aa (thn (V4 (R:=fun _ s'=>∃ σ' H',Inv X B_ σ' H' s'/\D.nx σ' H') hc ok hk hi hg ht he hs I h fun p C H' s' hm fC inv q=>?_) fun _ s' ⟨σ',H',I',q⟩=>Ag (Ag ⟨σ',H',I',q⟩))
 have inv0:Inv X B_ σ H' s':=by
  have:=inv s'.heap ⟨rfl,fun _ _=>rfl⟩
  exact this
 obtain⟨m,hm⟩:=hm
 refine wpAny_assign_Name ?_
 refine Vj (v:=.ref p) inv0 hN E8 (.inl hx) rfl (fun s'' I'' ⟨a,sb,ha⟩=>?_) (.inr hx)
 have ne:C≠a:=by
  rcases ha with z | z
  ·rw[z];exact fC.2.1
  ·exact fun q=>fC.2.2.2.2.1 x a z q.symm
 refine⟨m,hm.sameBut sb ne,fun h' hs'=>⟨_,H',?_,q⟩⟩
 exact I''.turned (t':=s''.toks) (it:=C) (fun b o hb e=>(hs'.2 b hb).trans e) fC.1 fC.2.1 fC.2.2.2.1 fC.2.2.2.2.1 fC.2.2.2.2.2
end
inductive Dt where
 | non | bl (b:Bool) | int (i:Int) | str (x:Str) | tup (ds:List Dt) | lst (ds:List Dt)
mutual
def Is (H:Hp):V->Dt->Prop
 | v,.non=>v=.non
 | v,.bl b=>v=.bl b
 | v,.int i=>v=.int i
 | v,.str x=>v=.str x
 | v,.tup ds=>∃ a xs,v=.ref a/\H a=some (.tup xs)/\IsL H xs ds
 | v,.lst ds=>∃ a xs,v=.ref a/\H a=some (.lst xs)/\IsL H xs ds
def IsL (H:Hp):List V->List Dt->Prop
 | [],[]=>True
 | x::xs,d::ds=>Is H x d/\IsL H xs ds
 | _,_=>False
end
mutual
noncomputable def dep:Dt->Nat
 | .tup ds=>depL ds+1
 | .lst ds=>depL ds+1
 | _=>0
noncomputable def depL:List Dt->Nat
 | []=>0
 | d::ds=>max (dep d) (depL ds)
end
mutual
noncomputable def wid:Dt->Nat
 | .tup ds=>max ds.length (widL ds)
 | .lst ds=>max ds.length (widL ds)
 | _=>0
noncomputable def widL:List Dt->Nat
 | []=>0
 | d::ds=>max (wid d) (widL ds)
end
theorem V5 {i:Nat} (h:ds[i]?=some d):wid d<=widL ds:=by
 induction ds generalizing i with
 | nil=>simp at h
 | cons e ds ih =>
  simp only[widL]
  cases i with
  | zero=>simp at h;subst h;omega
  | succ i=>have:=ih (by simpa using h);omega
mutual
theorem Is.same {H H':Hp}(h:∀ b o,H b=some o->H' b=some o):∀{d:Dt}{v:V},Is H v d->Is H' v d
 | .non,_,k=>by simp only[Is] at k ⊢;exact k
 | .bl _,_,k=>by simp only[Is] at k ⊢;exact k
 | .int _,_,k=>by simp only[Is] at k ⊢;exact k
 | .str _,_,k=>by simp only[Is] at k ⊢;exact k
 | .tup ds,_,k=>by
  simp only[Is] at k ⊢
  obtain⟨a,xs,e,h1,h2⟩:=k
  exact⟨a,xs,e,h _ _ h1,IsL.same h h2⟩
 | .lst ds,_,k=>by
  simp only[Is] at k ⊢
  obtain⟨a,xs,e,h1,h2⟩:=k
  exact⟨a,xs,e,h _ _ h1,IsL.same h h2⟩
theorem IsL.same {H H':Hp}(h:∀ b o,H b=some o->H' b=some o):∀{ds:List Dt}{xs:List V},IsL H xs ds->IsL H' xs ds
 | [],[],_=>by simp only[IsL]
 | d::ds,x::xs,k=>by
  simp only[IsL] at k ⊢
  exact⟨Is.same h k.1,IsL.same h k.2⟩
 | [],_::_,k=>by simp only[IsL] at k
 | _::_,[],k=>by simp only[IsL] at k
end
theorem IsL.length {H:Hp}:∀{ds:List Dt}{xs:List V},IsL H xs ds->xs.length=ds.length
 | [],[],_=>rfl
 | d::ds,x::xs,k=>by
  simp only[IsL] at k
  simp only[Mv,IsL.length k.2]
 | [],_::_,k=>by simp only[IsL] at k
 | _::_,[],k=>by simp only[IsL] at k
theorem IsL.get {H:Hp}:∀{ds:List Dt}{xs:List V}{i:Nat},IsL H xs ds->i < ds.length->∃ x d,xs[i]?=some x/\ds[i]?=some d/\Is H x d
 | [],_,_,_,h=>by simp at h
 | d::ds,x::xs,0,k,_=>by
  simp only[IsL] at k
  exact⟨x,d,rfl,rfl,k.1⟩
 | d::ds,x::xs,i+1,k,h=>by
  simp only[IsL] at k
  obtain⟨y,e,h1,h2,h3⟩:=IsL.get (i:=i) k.2 (by simpa using h)
  exact⟨y,e,by simpa using h1,by simpa using h2,h3⟩
 | _::_,[],_,k,_=>by simp only[IsL] at k
theorem V6 {i:Nat} (h:ds[i]?=some d):dep d<=depL ds:=by
 induction ds generalizing i with
 | nil=>simp at h
 | cons e ds ih =>
  simp only[depL]
  cases i with
  | zero=>simp at h;subst h;omega
  | succ i=>have:=ih (by simpa using h);omega
theorem IsL.ints (H:Hp):∀ ns:List Int,IsL H (ns.map V.int) (ns.map Dt.int)
 | []=>by simp only[Oe,IsL]
 | n::ns=>by simp only[Mu,IsL,Is,true_and];exact IsL.ints H ns
mutual
noncomputable def toP:Dt->PyData
 | .non=>.none
 | .bl b=>.bool b
 | .int i=>.int i
 | .str x=>.str x
 | .tup ds=>.tuple (toPs ds)
 | .lst ds=>.list (toPs ds)
noncomputable def toPs:List Dt->List PyData
 | []=>[]
 | d::ds=>toP d::toPs ds
end
mutual
theorem Is.reads {P:Ak}{w:Am}{H:Hp}{h:Ap}(ok:HOk P w H h):∀{d:Dt}{v:V}{u:Ad},Is H v d->RelV v u->∃ as,Reads h u (toP d) as
 | .non,_,_,k,r=>by simp only[Is] at k;subst k;cases r;exact⟨_,Reads.none⟩
 | .bl b,_,_,k,r=>by simp only[Is] at k;subst k;cases r;exact⟨_,Reads.bool b⟩
 | .int i,_,_,k,r=>by simp only[Is] at k;subst k;obtain⟨t,rfl⟩:=r;exact⟨_,Reads.int i t⟩
 | .str x,_,_,k,r=>by simp only[Is] at k;subst k;obtain⟨t,rfl⟩:=r;exact⟨_,Reads.str x t⟩
 | .tup ds,_,_,k,r=>by
  simp only[Is] at k
  obtain⟨a,xs,rfl,h1,h2⟩:=k
  cases r
  obtain⟨_,its,rv,⟨o,ho,hc,n,hd⟩,_⟩:=(show ObjOk P w H h a (.tup xs) from ok a _ h1)
  obtain⟨as,q⟩:=IsL.reads ok h2 rv
  exact⟨_,Reads.tuple ho hc hd (by simpa using q)⟩
 | .lst ds,_,_,k,r=>by
  simp only[Is] at k
  obtain⟨a,xs,rfl,h1,h2⟩:=k
  cases r
  obtain⟨_,its,n,rv,e⟩:=(show ObjOk P w H h a (.lst xs) from ok a _ h1)
  obtain⟨as,q⟩:=IsL.reads ok h2 rv
  exact⟨_,Reads.list e rfl rfl (by simpa using q)⟩
theorem IsL.reads {P:Ak}{w:Am}{H:Hp}{h:Ap}(ok:HOk P w H h):∀{ds:List Dt}{xs:List V}{us:List Ad},IsL H xs ds->Vals xs us->∃ as,ReadsAll h us (toPs ds) as
 | [],[],_,_,.nil=>⟨_,ReadsAll.nil⟩
 | d::ds,x::xs,_,k,.cons r t=>by
  simp only[IsL] at k
  obtain⟨as,q⟩:=Is.reads ok k.1 r
  obtain⟨bs,q2⟩:=IsL.reads ok k.2 t
  exact⟨_,ReadsAll.cons q q2⟩
 | [],_::_,_,k,_=>by simp only[IsL] at k
 | _::_,[],_,k,_=>by simp only[IsL] at k
end
def okD (d:Dt):Prop:=SeqAt.shaped (toP d)=true
noncomputable def eqD (d e:Dt):Bool:=PyData.eqv (toP d) (toP e)
theorem V7 (h:okD d):eqD d d=true:=SeqAt.eqv_refl _ (SeqAt.canLay_of_shaped h)
section
variable {X:Cx}
theorem PE.imp (h:PE X e t) (hi:∀ σ H Q,t' σ H Q->t σ H Q):PE X e t':=fun B_ s σ H Q I q=>h B_ s σ H Q I (hi σ H Q q)
theorem OpR.imp (h:OpR X f r) (hi:∀ x y H Q,r' x y H Q->r x y H Q):OpR X f r':=fun B_ s σ H x y v u Q I rx ry q=>h B_ s σ H x y v u Q I rx ry (hi x y H Q q)
theorem CallR.imp (h:CallR X f r) (hi:∀ xs H Q,r' xs H Q->r xs H Q):CallR X f r':=fun B_ s σ H xs us Q I rs q=>h B_ s σ H xs us Q I rs (hi xs H Q q)
end
section
variable {X:Cx}{B_:List (Ac×Obj)}{σ:St}{H:Hp}{s:Af}{Q:VK}
theorem endS (I:Inv X B_ σ H s) (q:Q (.str z) H):EP X B_ σ Q (.str z t) s:=⟨.str z,H,I,⟨t,rfl⟩,q⟩
theorem endB (I:Inv X B_ σ H s) (q:Q (.bl b) H):EP X B_ σ Q (.bool b) s:=⟨.bl b,H,I,rfl,q⟩
end
noncomputable def lstR (H:Hp)(a:Ac):Option (List V):=match H a with
 | some (.lst xs)=>some xs
 | some (.frz _ (.lst xs))=>some xs
 | _=>none
noncomputable def tupR (H:Hp)(a:Ac):Option (List V):=match H a with
 | some (.tup xs)=>some xs
 | _=>none
noncomputable def seqR (H:Hp)(a:Ac):Option (List V):=match lstR H a with
 | some xs=>some xs
 | none=>tupR H a
theorem QH (h:H a=some (.lst xs)):lstR H a=some xs:=by unfold lstR;rw[h]
theorem V8 (h:H a=some (.tup xs)):tupR H a=some xs:=by unfold tupR;rw[h]
theorem M9 (h:H a=some (.lst xs)):seqR H a=some xs:=by unfold seqR;rw[QH h]
theorem UP (h:H a=some (.tup xs)):seqR H a=some xs:=by
 have e:lstR H a=none:=by unfold lstR;rw[h]
 unfold seqR;rw[e];exact V8 h
theorem Q8 {K:L3}{H:Hp}{a:Ac}{xs:List V}(h:lstR H a=some xs):SqL K H a xs:=by
 unfold lstR at h
 split at h
 ·rename_i e;cases h;exact .inl (.inl e)
 ·rename_i e;cases h;exact .inl (.inr ⟨_,e⟩)
 ·cases h
theorem SX {K:L3}{H:Hp}{a:Ac}{xs:List V}(h:tupR H a=some xs):SqT K H a xs:=by
 unfold tupR at h
 split at h
 ·rename_i e;cases h;exact .inl (.inl e)
 ·cases h
theorem UQ {K:L3}{H:Hp}{a:Ac}{xs:List V}(h:seqR H a=some xs):SqL K H a xs∨SqT K H a xs:=by
 unfold seqR at h
 split at h
 ·rename_i e;cases h;exact .inl (Q8 e)
 ·exact .inr (SX h)
def GetT (H:Hp)(xs:List V)(Q:VK):Prop:=∀ p H',H' p=some (.tup xs)->(∀ b o,H b=some o->H' b=some o)->Q (.ref p) H'
theorem GetT.new (h:GetT H xs Q) (hp:H p=none):Q (.ref p) (upd H p (.tup xs)) :=
 h p _ LX fun b o e=>by rw[L4 (Mj e hp)];exact e
theorem GetT.old (h:GetT H xs Q) (hp:H p=some (.tup xs)):Q (.ref p) H:=h p _ hp fun b o e=>e
def GetL (H:Hp)(xs:List V)(Q:VK):Prop:=∀ p,H p=none->Q (.ref p) (upd H p (.lst xs))
def fAdd:R2:=fun x y H Q=>match x,y with
 | .int i,.int j=>Q (.int (i+j)) H
 | .str i,.str j=>i.length+j.length<=Ae/\Q (.str (i++j)) H
 | .ref a,.ref b=>match H a,H b with
  | some (.lst xs),some (.lst ys)=>xs.length+ys.length<=Ae/\GetL H (xs++ys) Q
  | some (.tup xs),some (.tup ys)=>xs≠[]/\xs.length+ys.length<=Ae/\GetT H (xs++ys) Q
  | _,_=>False
 | _,_=>False
def fMul:R2:=fun x y H Q=>match x,y with
 | .int i,.int j=>CMul i j/\Q (.int (i * j)) H
 | .str z,.int n=>z.length * n.toNat<=1000000/\-(2 ^ 62) < n/\n < 2 ^ 62/\Q (.str (Txt.mul z n)) H
 | .ref a,.int k=>match H a with
  | some (.lst xs)=>-(2 ^ 63)<=k/\k < 2 ^ 63/\xs.length * k.toNat<=Ae/\GetL H (MD k.toNat xs).flatten Q
  | _=>False
 | _,_=>False
def fI (C:Int->Int->Prop)(g:Int->Int->V):R2:=fun x y H Q=>match x,y with
 | .int i,.int j=>C i j/\Q (g i j) H
 | _,_=>False
def fI0 (g:Int->Int->V):R2:=fun x y H Q=>match x,y with
 | .int i,.int j=>Q (g i j) H
 | _,_=>False
theorem Q9 :∀ x y H Q,fI0 g x y H Q->rI0 g x y H Q:=fun x y H Q h=>by
 unfold fI0 at h
 split at h
 ·exact⟨_,_,rfl,rfl,h⟩
 ·exact h.elim
theorem SY :∀ x y H Q,fI C g x y H Q->rI C g x y H Q:=fun x y H Q h=>by
 unfold fI at h
 split at h
 ·exact⟨_,_,rfl,rfl,h.1,h.2⟩
 ·exact h.elim
section
variable {X:Cx}
theorem Md:OpR X (AJ .Add) fAdd:=by
 intro B_ s σ H x y v u Q I rx ry h
 unfold fAdd at h
 split at h
 ·exact op_add B_ s σ H _ _ v u Q I rx ry ⟨_,_,rfl,rfl,h⟩
 ·exact bB B_ s σ H _ _ v u Q I rx ry ⟨_,_,rfl,rfl,h.1,h.2⟩
 ·split at h
  ·rename_i h1 h2
   exact op_cat B_ s σ H _ _ v u Q I rx ry ⟨_,_,_,_,rfl,rfl,h1,h2,h.1,h.2⟩
  ·rename_i xs ys h1 h2
   refine op_catT B_ s σ H _ _ v u Q I rx ry ⟨_,_,_,_,rfl,rfl,SqT.of h1,SqT.of h2,h.1,h.2.1,fun e=>?_,fun _ p hp=>h.2.2.new hp⟩
   subst e
   have:=h.2.2
   rw[Pr] at this
   exact this.old h1
  ·exact h.elim
 ·exact h.elim
theorem Q_:OpR X (AJ .Sub) (fI0 fun i j=>.int (i - j)):=op_sub.imp Q9
theorem V9:OpR X (AJ .FloorDiv) (fI CDiv fun i j=>.int (i / j)):=op_fdiv.imp SY
theorem NG:OpR X (AJ .Mod) (fI (fun _ j=>0 < j) fun i j=>.int (i % j)):=op_mod.imp SY
theorem o_pow:OpR X (AJ .Pow) (fI CPow fun i j=>.int (i ^ j.toNat)):=op_pow.imp SY
theorem cM (h:z.length * n.toNat<=1000000) (h1:-(2 ^ 62) < n) (h2:n < 2 ^ 62):MulOk z n:=by
 have e1:((2:Int) ^ 62)=4611686018427387904:=by decide
 have e2:((2:Int) ^ 63)=9223372036854775808:=by decide
 rw[e1] at h1 h2
 refine⟨?_,fun hn _=>?_,fun hn _=>?_⟩
 ·rw[e2];simp only[Bool.or_eq_false_iff,decide_eq_false_iff_not];omega
 ·have hp:0 < n:=by omega
  have hz:(z.length:Int)<=1000000:=by
   have:z.length * 1<=z.length * n.toNat:=Nat.mul_le_mul_left _ (by omega)
   omega
  have e3:((2:Int) ^ 63 - 1)=9223372036854775807:=by decide
  rw[e3]
  intro Kv
  have h3:(9223372036854775807:Int) / n < z.length:=Kv
  have h4:(9223372036854775807:Int) < z.length * n:=by
   have:=Int.lt_mul_of_ediv_lt hp h3
   exact this
  have h5:(z.length:Int) * n<=1000000:=by
   have e:((z.length * n.toNat:Nat):Int)=(z.length:Int) * n:=by
    rw[Int.natCast_mul];congr 1;omega
   omega
  omega
 ·unfold Builtin.Str.tooLong Ae
  have e4:(2:Nat) ^ 24=16777216:=by decide
  exact B6 (by omega)
theorem Ou:OpR X (AJ .Mult) fMul:=by
 intro B_ s σ H x y v u Q I rx ry h
 unfold fMul at h
 split at h
 ·exact op_mul B_ s σ H _ _ v u Q I rx ry ⟨_,_,rfl,rfl,h.1,h.2⟩
 ·obtain⟨h1,h2,h3,q⟩:=h
  obtain⟨t,rfl⟩:=rx
  obtain⟨t',rfl⟩:=ry
  exact SB.mul (cM h1 h2 h3) fun t' k=>endS (I.tok _) q
 ·split at h
  ·rename_i h1
   exact op_rep B_ s σ H _ _ v u Q I rx ry ⟨_,_,_,rfl,rfl,h1,h.1,h.2.1,h.2.2.1,h.2.2.2⟩
  ·exact h.elim
 ·exact h.elim
theorem o_lt:OpR X (Ar .Lt) (fI0 fun i j=>.bl (decide (i < j))):=op_lt.imp Q9
theorem o_le:OpR X (Ar .LtE) (fI0 fun i j=>.bl (decide (i<=j))):=op_le.imp Q9
theorem o_gt:OpR X (Ar .Gt) (fI0 fun i j=>.bl (decide (j < i))):=op_gt.imp Q9
def fEq:R2:=fun x y H Q=>(scal x y=true/\Q (.bl (decide (x=y))) H)∨∃ d e,Is H x d/\Is H y e/\okD d/\okD e/\Q (.bl (eqD d e)) H
def fNe:R2:=fun x y H Q=>(scal x y=true/\Q (.bl (!decide (x=y))) H)∨∃ d e,Is H x d/\Is H y e/\okD d/\okD e/\Q (.bl (!eqD d e)) H
def fIs:R2:=fun x y H Q=>y=.non/\Q (.bl (decide (x=.non))) H
theorem o_eq (hu:X.A.units+64 < BF):OpR X (Ar .Eq) fEq:=by
 intro B_ s σ H x y v u Q I rx ry h
 rcases h with h | ⟨d,e,h1,h2,h3,h4,q⟩
 ·exact op_eq B_ s σ H x y v u Q I rx ry h
 ·obtain⟨as,r1⟩:=Is.reads I.hok h1 rx
  obtain⟨bs,r2⟩:=Is.reads I.hok h2 ry
  exact eq_dataH r1 r2 h3 h4 hu (endB I q)
theorem o_ne (hu:X.A.units+64 < BF):OpR X (Ar .NotEq) fNe:=by
 intro B_ s σ H x y v u Q I rx ry h
 rcases h with h | ⟨d,e,h1,h2,h3,h4,q⟩
 ·exact op_ne B_ s σ H x y v u Q I rx ry h
 ·obtain⟨as,r1⟩:=Is.reads I.hok h1 rx
  obtain⟨bs,r2⟩:=Is.reads I.hok h2 ry
  exact ne_dataH r1 r2 h3 h4 hu (endB I q)
theorem o_is:OpR X (Ar .Is) fIs:=op_isN
def fIn (neg:Bool):R2:=fun x y H Q=>match x,y with
 | .str i,.str j=>Q (.bl (xor neg (Qy j i))) H
 | x,.ref p=>match seqR H p with
  | some xs=>OE x=true/\xs.all OE=true/\Q (.bl (if neg then !inV x xs else inV x xs)) H
  | none=>False
 | _,_=>False
theorem o_in:OpR X (Ar .In) (fIn false):=by
 intro B_ s σ H x y v u Q I rx ry h
 unfold fIn at h
 split at h
 ·refine bw B_ s σ H _ _ v u Q I rx ry ⟨_,_,rfl,rfl,?_⟩
  simpa [Qy] using h
 ·split at h
  ·rename_i e
   exact VX B_ s σ H _ _ v u Q I rx ry ⟨_,_,rfl,UQ e,h.1,h.2.1,h.2.2⟩
  ·exact h.elim
 ·exact h.elim
theorem Ra:OpR X (Ar .NotIn) (fIn true):=by
 intro B_ s σ H x y v u Q I rx ry h
 unfold fIn at h
 split at h
 ·refine bx B_ s σ H _ _ v u Q I rx ry ⟨_,_,rfl,rfl,?_⟩
  simpa [Qy] using h
 ·split at h
  ·rename_i e
   exact ce B_ s σ H _ _ v u Q I rx ry ⟨_,_,rfl,UQ e,h.1,h.2.1,h.2.2⟩
  ·exact h.elim
 ·exact h.elim
def fNeg:V->Hp->VK->Prop:=fun x H Q=>match x with
 | .int i=>Q (.int (-i)) H
 | _=>False
theorem QI:UnR X (unaryOp .USub) fNeg:=fun B_ s σ H x v Q I rx h=>by
 unfold fNeg at h
 split at h
 ·exact un_neg B_ s σ H _ v Q I rx ⟨_,rfl,h⟩
 ·exact h.elim
def fIx (K:L3):R2:=fun x y H Q=>match x,y with
 | .ref p,.int i=>∃ xs v,(SqL K H p xs∨SqT K H p xs)/\atI xs i=some v/\Q v H
 | .str z,.int i=>z.length<=Ae/\(match atI z.cps.toList i with | some c=>Q (.str ⟨#[c]⟩) H | none=>False)
 | _,_=>False
theorem ix_any {K:L3}(hK:X.K=K:=by rfl):IxR X (fIx K):=by
 subst hK
 intro value slice B_ s σ H x y v u Q I rx ry h hs
 unfold fIx at h
 split at h
 ·obtain⟨xs,w',e,e',h⟩:=h
  rcases e with q | q
  ·exact ix_list value slice B_ s σ H _ _ v u Q I rx ry ⟨_,_,_,_,rfl,rfl,q,e',h⟩ hs
  ·exact ix_tup value slice B_ s σ H _ _ v u Q I rx ry ⟨_,_,_,_,rfl,rfl,q,e',h⟩ hs
 ·obtain⟨hz,h⟩:=h
  split at h
  ·rename_i c e
   exact ix_str value slice B_ s σ H _ _ v u Q I rx ry ⟨_,_,_,rfl,rfl,hz,e,h⟩ hs
  ·exact h.elim
 ·exact h.elim
def fSl (K:L3):V->Option Int->Option Int->Hp->VK->Prop:=fun x lo hi H Q=>match x with
 | .str z=>z.length<=Ae/\Q (.str (Vd z lo hi)) H
 | .ref a=>(∃ xs,SqL K H a xs/\GetL H (cutV xs lo hi) Q) ∨
  (∃ xs,SqT K H a xs/\¬ (HT.sIx xs.length 0 lo=0/\HT.sIx xs.length xs.length hi=xs.length)/\GetT H (cutV xs lo hi) Q)
 | _=>False
theorem sl_str:SlR X (fun x lo hi H Q=>∃ z,x=.str z/\z.length<=Ae/\Q (.str (Vd z lo hi)) H):=by
 intro B_ s σ H x v vl vu lo hi sl Q I rx hs pl pu h
 obtain⟨z,rfl,hz,q⟩:=h
 obtain⟨t,rfl⟩:=rx
 refine⟨"str",_,PySem.F.slot_str_getitem.lookup,Bd _ _ _,?_⟩
 have fin:∀(l u:Option (Int×Tok)),l.map (·.1)=lo->u.map (·.1)=hi->s.heap.IsSlice sl l u none->wpAny (Aj X.prog X.w) X.A (Bw (.str z t) (.ref sl)) (EP X B_ σ Q) X.xe s:=fun l u el eu hs'=>by
  subst el eu
  refine wpAny_getItem_str_slice hs' rfl ?_
  have q':∀ t' k,EP X B_ σ Q (.str (Vd z (l.map (·.1)) (u.map (·.1))) t') { s with toks:=k }:=fun t' k=>endS (I.tok _) q
  exact post_val_or_str ⟨MR (Txt.slice_le z _ _) hz,fun t' k=>q' t' k⟩
 cases pl with
 | none =>
  cases pu with
  | none=>exact fin none none rfl rfl hs
  | int j u=>exact fin none (some (j,u)) rfl rfl hs
 | int i t' =>
  cases pu with
  | none=>exact fin (some (i,t')) none rfl rfl hs
  | int j u=>exact fin (some (i,t')) (some (j,u)) rfl rfl hs
theorem MN {K:L3}(hK:X.K=K:=by rfl):SlR X (fSl K):=by
 subst hK
 intro B_ s σ H x v vl vu lo hi sl Q I rx hs pl pu h
 unfold fSl at h
 split at h
 ·exact sl_str B_ s σ H _ v vl vu lo hi sl Q I rx hs pl pu ⟨_,rfl,h.1,h.2⟩
 ·rcases h with ⟨xs,e,h⟩ | ⟨xs,e,h⟩
  ·exact cb B_ s σ H _ v vl vu lo hi sl Q I rx hs pl pu ⟨_,_,rfl,e,h⟩
  ·exact sl_tup B_ s σ H _ v vl vu lo hi sl Q I rx hs pl pu ⟨_,_,rfl,e,h.1,fun p hp=>h.2.new hp⟩
 ·exact h.elim
def fLen (K:L3):List V->Hp->VK->Prop:=fun xs H Q=>match xs with
 | [.str z]=>z.length<=Ae/\Q (.int z.length) H
 | [.ref p]=>∃ ys,(SqL K H p ys∨SqT K H p ys)/\Q (.int ys.length) H
 | _=>False
theorem MU {K:L3}(hK:X.K=K:=by rfl):CallR X (.builtin "len") (fLen K):=by
 subst hK
 intro B_ s σ H xs us Q I r h
 unfold fLen at h
 split at h
 ·exact cg B_ s σ H _ us Q I r ⟨_,rfl,h.1,h.2⟩
 ·obtain⟨ys,e,h⟩:=h
  exact cf B_ s σ H _ us Q I r ⟨_,_,rfl,e,h⟩
 ·exact h.elim
def f1I (g:Int->V):List V->Hp->VK->Prop:=fun xs H Q=>match xs with
 | [.int i]=>Q (g i) H
 | _=>False
def f2I (g:Int->Int->V):List V->Hp->VK->Prop:=fun xs H Q=>match xs with
 | [.int i,.int j]=>Q (g i j) H
 | _=>False
theorem c_abs:CallR X (.builtin "abs") (f1I fun i=>.int (if i < 0 then -i else i)):=call_abs.imp fun xs H Q h=>by
 unfold f1I at h
 split at h
 ·exact⟨_,rfl,h⟩
 ·exact h.elim
theorem c_max (hc:X.calm=true):CallR X (.builtin "max") (f2I fun i j=>.int (if j > i then j else i)):=(bC hc).imp fun xs H Q h=>by
 unfold f2I at h
 split at h
 ·exact⟨_,_,rfl,h⟩
 ·exact h.elim
theorem c_min (hc:X.calm=true):CallR X (.builtin "min") (f2I fun i j=>.int (if j < i then j else i)):=(bE hc).imp fun xs H Q h=>by
 unfold f2I at h
 split at h
 ·exact⟨_,_,rfl,h⟩
 ·exact h.elim
def fInt:List V->Hp->VK->Prop:=fun xs H Q=>match xs with
 | [.int i]=>Q (.int i) H
 | [.bl b]=>Q (.int (if b then 1 else 0)) H
 | _=>False
theorem c_int:CallR X (.type "int") fInt:=call_int1.imp fun xs H Q h=>by
 unfold fInt at h
 split at h
 ·exact .inl ⟨_,rfl,h⟩
 ·exact .inr ⟨_,rfl,h⟩
 ·exact h.elim
def fStr:List V->Hp->VK->Prop:=fun xs H Q=>match xs with
 | [.int i]=>i.natAbs.log2 < 1920/\Q (.str (toString i)) H
 | _=>False
theorem c_str:CallR X (.type "str") fStr:=call_str_int.imp fun xs H Q h=>by
 unfold fStr at h
 split at h
 ·exact⟨_,rfl,h.1,h.2⟩
 ·exact h.elim
def SZ:List V->Hp->VK->Prop:=fun xs H Q=>match xs with
 | [.ref p]=>(match seqR H p with | some ys=>GetL H ys Q | none=>False)
 | _=>False
theorem c_list:CallR X (.type "list") SZ:=call_list_of.imp fun xs H Q h=>by
 unfold SZ at h
 split at h
 ·split at h
  ·rename_i e;exact⟨_,_,rfl,UQ e,h⟩
  ·exact h.elim
 ·exact h.elim
def S0:List V->Hp->VK->Prop:=fun xs H Q=>match xs with
 | [.ref p]=>(match seqR H p with | some ys=>GetT H ys Q | none=>False)
 | _=>False
theorem cN (h:tupR H p=some ys):H p=some (.tup ys):=by
 unfold tupR at h
 split at h
 ·rename_i e;cases h;exact e
 ·cases h
theorem Rb:CallR X (.type "tuple") S0:=call_tuple_of.imp fun xs H Q h=>by
 unfold S0 at h
 split at h
 ·split at h
  ·rename_i ys e
   refine⟨_,ys,rfl,?_⟩
   unfold seqR at e
   split at e
   ·rename_i e';cases e
    exact .inl ⟨Q8 e',fun l hl=>h.new hl⟩
   ·exact .inr ⟨SX e,h.old (cN e)⟩
  ·exact h.elim
 ·exact h.elim
def fTru (x:V)(H:Hp)(Q:Bool->Hp->Prop):Prop:=match x with
 | .non=>Q false H
 | .bl b=>Q b H
 | .int i=>Q (i != 0) H
 | .str z=>z.length<=Ae/\Q ((z.length:Int) != 0) H
 | .ref p=>(match seqR H p with | some xs=>Q (!xs.isEmpty) H | none=>False)
 | _=>False
theorem MY (ha:PE X a ta) (he:∀ whole,isTrue a X.env whole=(do let v <- whole;Bm a.pos;Bf [v] (truthy v))):
  PT X a (fun σ H Q=>ta σ H fun x H'=>fTru x H' Q):=by
 intro B_ s σ H Q I h
 show wpAny _ _ (isTrue a X.env (As a X.env)) _ _ _
 rw[he]
 refine Aa (thn (ha B_ s σ H _ I h) fun v s1 ⟨x,H1,I1,r1,q1⟩=>Aa (AV (AN ?_)))
 refine tru_ok B_ s1 σ H1 x v Q I1 r1 ?_
 have q1:fTru x H1 Q:=q1
 unfold fTru at q1
 split at q1
 ·exact⟨_,rfl,q1⟩
 ·exact⟨_,rfl,q1⟩
 ·exact⟨_,rfl,q1⟩
 ·exact⟨_,⟨q1.1,rfl⟩,q1.2⟩
 ·split at q1
  ·rename_i xs e
   refine⟨_,?_,q1⟩
   rcases UQ (K:=X.K) e with z | z
   ·exact .inl ⟨_,z,rfl⟩
   ·exact .inr (.inl ⟨_,z,rfl⟩)
  ·exact q1.elim
 ·exact q1.elim
def S3:V->List V->Hp->VK->Prop:=fun x vs H Q=>match x,vs with
 | .ref l,[y]=>(match H l with | some (.lst xs)=>xs.length < Ae/\Q .non (upd H l (.lst (xs++[y]))) | _=>False)
 | _,_=>False
theorem OX:MtR X "list.append" S3:=fun B_ s σ H x xs v us Q I rx rs h=>by
 unfold S3 at h
 split at h
 ·split at h
  ·rename_i e
   exact V1 B_ s σ H _ _ v us Q I rx rs ⟨_,_,_,rfl,rfl,e,h.1,h.2⟩
  ·exact h.elim
 ·exact h.elim
theorem V_:∀{ys:List Str}{us:List Ad},Vals (ys.map V.str) us->StrsAre us ys
 | [],_,.nil=>.nil
 | y::ys,_,.cons r t=>by
  obtain⟨k,rfl⟩:=r
  exact .cons y k (V_ t)
noncomputable def strs?:List V->Option (List Str)
 | []=>some []
 | .str z::r=>(strs? r).map (z::·)
 | _=>none
theorem strs?_map:∀ ys:List Str,strs? (ys.map V.str)=some ys
 | []=>rfl
 | y::ys=>by simp only[Mu,strs?,strs?_map ys,aL]
theorem strs?_of:∀{xs:List V}{ys:List Str},strs? xs=some ys->xs=ys.map V.str
 | [],_,h=>by cases h;rfl
 | .str z::r,ys,h=>by
  simp only[strs?] at h
  cases e:strs? r with
  | none=>rw[e] at h;cases h
  | some q=>rw[e] at h;cases h;rw[strs?_of e];rfl
 | .non::_,_,h=>by cases h
 | .bl _::_,_,h=>by cases h
 | .int _::_,_,h=>by cases h
 | .byt _::_,_,h=>by cases h
 | .flt _::_,_,h=>by cases h
 | .ref _::_,_,h=>by cases h
 | .ty _::_,_,h=>by cases h
def Rc:V->List V->Hp->VK->Prop:=fun x vs H Q=>match x,vs with
 | .str z,[.ref p]=>(match lstR H p with
  | some xs=>(match strs? xs with
   | some ys=>(ys.map (·.length)).sum+ys.length * z.length<=16777216/\Q (.str (SG z ys)) H
   | none=>False)
  | none=>False)
 | _,_=>False
theorem S4:MtR X "str.join" Rc:=fun B_ s σ H x xs v us Q I rx rs h=>by
 unfold Rc at h
 split at h
 ·rename_i z p
  split at h
  ·rename_i ws e
   split at h
   ·rename_i ys e2
    obtain⟨t,rfl⟩:=rx
    obtain⟨u,rfl,ru⟩:=N1 rs
    cases ru
    obtain⟨its,r',pl,hz⟩:=I.list (Q8 e)
    rw[strs?_of e2] at r'
    exact join_list pl.isList (V_ (by simpa using r')) h.1 fun t' k=>endS (I.tok _) h.2
   ·exact h.elim
  ·exact h.elim
 ·exact h.elim
def fSS (g:Str->Str->V):V->List V->Hp->VK->Prop:=fun x vs H Q=>match x,vs with
 | .str z,[.str y]=>Q (g z y) H
 | _,_=>False
def fSSI (g:Str->Str->Int->V):V->List V->Hp->VK->Prop:=fun x vs H Q=>match x,vs with
 | .str z,[.str y,.int i]=>Q (g z y i) H
 | _,_=>False
theorem jv:MtR X "str.startswith" (fSS fun z y=>.bl (aN z y)):=fun B_ s σ H x xs v us Q I rx rs h=>by
 unfold fSS at h
 split at h
 ·obtain⟨t,rfl⟩:=rx
  obtain⟨u,rfl,t',rfl⟩:=N1 rs
  exact SC.startswith (endB I h)
 ·exact h.elim
theorem cP:MtR X "str.endswith" (fSS fun z y=>.bl (aP z y)):=fun B_ s σ H x xs v us Q I rx rs h=>by
 unfold fSS at h
 split at h
 ·obtain⟨t,rfl⟩:=rx
  obtain⟨u,rfl,t',rfl⟩:=N1 rs
  exact SC.endswith (endB I h)
 ·exact h.elim
theorem cQ:MtR X "str.startswith" (fSSI fun z y i=>.bl (aM z y i)):=fun B_ s σ H x xs v us Q I rx rs h=>by
 unfold fSSI at h
 split at h
 ·obtain⟨t,rfl⟩:=rx
  obtain⟨u,w',rfl,⟨t',rfl⟩,⟨t'',rfl⟩⟩:=PU rs
  exact SC.startswith3 (endB I h)
 ·exact h.elim
end
noncomputable def tyN (H:Hp):V->Option String
 | .non=>some "NoneType"
 | .bl _=>some "bool"
 | .int _=>some "int"
 | .str _=>some "str"
 | .ref a=>match H a with
  | some (.lst _)=>some "list"
  | some (.frz _ (.lst _))=>some "list"
  | some (.tup _)=>some "tuple"
  | _=>none
 | _=>none
noncomputable def subB (t T:String):Bool:=t == T || (t == "bool"&&T == "int")
noncomputable def tys?:List V->Option (List String)
 | []=>some []
 | .ty T::r=>(tys? r).map (T::·)
 | _=>none
noncomputable def P3 (T:String):Bool:=["bool","int","str","list","tuple"].contains T
theorem V' {K:L3}{t T:String}(ht:t="NoneType"∨t="bool"∨t="int"∨t="str"∨t="list"∨t="tuple")(hT:T="bool"∨T="int"∨T="str"∨T="list"∨T="tuple") :
  Qr K (.type t) (.type T)=some (subB t T):=by
 rcases ht with rfl | rfl | rfl | rfl | rfl | rfl <;> rcases hT with rfl | rfl | rfl | rfl | rfl <;> kernel_rfl
def fIsi:List V->Hp->VK->Prop:=fun xs H Q=>match xs with
 | [x,.ty T]=>(match tyN H x with
  | some t=>P3 T=true/\Q (.bl (subB t T)) H
  | none=>False)
 | [x,.ref p]=>(match tyN H x,tupR H p with
  | some t,some ts=>(match tys? ts with
   | some Ts=>Ts.all P3=true/\Q (.bl (Ts.any (subB t))) H
   | none=>False)
  | _,_=>False)
 | _=>False
section
variable {X:Cx}
theorem Wa {K:L3}{B_:List (Ac×Obj)}{σ:St}{H:Hp}{s:Af}{x:V}{u:Ad}{t:String}(I:Inv X B_ σ H s)(rx:RelV x u)(e:tyN H x=some t) :
  (t="NoneType"∨t="bool"∨t="int"∨t="str"∨t="list"∨t="tuple")/\u≠.builtin "__main__.__loader__#opaque"/\∃ Hp',PySem.W.KitX K u (.type t) Hp'/\Hp' s.heap:=by
 cases x with
 | non=>cases (show u=Value.none from rx);cases e;exact⟨by simp,(fun z=>nomatch z),_,PySem.W.kitx_none,True.intro⟩
 | bl b=>cases (show u=Value.bool b from rx);cases e;exact⟨by simp,(fun z=>nomatch z),_,PySem.W.kitx_bool,True.intro⟩
 | int i=>obtain⟨k,q⟩:=(show ∃ t,u=Value.int i t from rx);cases q;cases e;exact⟨by simp,(fun z=>nomatch z),_,PySem.W.kitx_int,True.intro⟩
 | str z=>obtain⟨k,q⟩:=(show ∃ t,u=Value.str z t from rx);cases q;cases e;exact⟨by simp,(fun z=>nomatch z),_,PySem.W.kitx_str,True.intro⟩
 | ref a =>
  cases (show u=Value.ref a from rx)
  unfold tyN at e
  dsimp only at e
  split at e
  ·rename_i xs ea
   cases e
   obtain⟨_,_,n,_,h1⟩:=(show ObjOk X.prog X.w H s.heap a (.lst xs) from I.hok a _ ea)
   exact⟨by simp,(fun z=>nomatch z),_,iU,⟨_,h1,rfl⟩⟩
  ·rename_i ob xs ea
   cases e
   obtain⟨_,_,_,n,_,h1⟩:=(show ObjOk X.prog X.w H s.heap a (.frz ob (.lst xs)) from I.hok a _ ea)
   exact⟨by simp,(fun z=>nomatch z),_,iU,⟨_,h1,rfl⟩⟩
  ·rename_i xs ea
   cases e
   obtain⟨_,_,_,p⟩:=(show ObjOk X.prog X.w H s.heap a (.tup xs) from I.hok a _ ea)
   obtain⟨⟨o,h1,h2,_⟩,_⟩:=p
   exact⟨by simp,(fun z=>nomatch z),_,PySem.W.kitx_tuple,⟨o,h1,h2⟩⟩
  ·cases e
 | byt _=>cases e
 | flt _=>cases e
 | ty _=>cases e
theorem Wb (h:P3 T=true):T="bool"∨T="int"∨T="str"∨T="list"∨T="tuple":=by
 simpa [P3] using h
theorem Wc {K:L3}{t:String}(ht:t="NoneType"∨t="bool"∨t="int"∨t="str"∨t="list"∨t="tuple"):∀{ts:List V}{Ts:List String}{its:List Ad},tys? ts=some Ts->Vals ts its->Ts.all P3=true ->
  PySem.W.kitAny K (.type t) its=some (Ts.any (subB t))
 | [],_,_,e,.nil,_=>by cases e;rfl
 | .ty T::r,Ts,_,e,.cons rv rt,hk=>by
  simp only[tys?] at e
  cases er:tys? r with
  | none=>rw[er] at e;cases e
  | some q =>
   rw[er] at e
   cases e
   simp only[ap,MQ] at hk
   cases rv
   have h1:=V' (K:=K) ht (Wb hk.1)
   have h2:=Wc (K:=K) ht er rt hk.2
   unfold PySem.W.kitAny
   rw[h1]
   cases hb:subB t T with
   | true=>simp[hb]
   | false=>simp only[OL,hb,QX];exact h2
 | .non::_,_,_,e,_,_=>by cases e
 | .bl _::_,_,_,e,_,_=>by cases e
 | .int _::_,_,_,e,_,_=>by cases e
 | .str _::_,_,_,e,_,_=>by cases e
 | .byt _::_,_,_,e,_,_=>by cases e
 | .flt _::_,_,_,e,_,_=>by cases e
 | .ref _::_,_,_,e,_,_=>by cases e
theorem Ov:CallR X (.builtin "isinstance") fIsi:=by
 intro B_ s σ H xs us Q I r h
 unfold fIsi at h
 split at h
 ·rename_i x T
  split at h
  ·rename_i t et
   obtain⟨u,c,rfl,rx,rc⟩:=PU r
   cases rc
   obtain⟨ht,hu,H',hk,hH⟩:=Wa (K:=X.K) I rx et
   exact PySem.W.kia_one hk I.kIn hH (V' ht (Wb h.1)) hu fun tk=>endB (I.tok _) h.2
  ·exact h.elim
 ·rename_i x p
  split at h
  ·rename_i t ts et ep
   split at h
   ·rename_i Ts eT
    obtain⟨u,c,rfl,rx,rc⟩:=PU r
    cases rc
    obtain⟨ht,hu,H',hk,hH⟩:=Wa (K:=X.K) I rx et
    obtain⟨its,rv,pl,hz⟩:=I.tuple (SX ep)
    obtain⟨⟨cls,dd,data,sl⟩,ho,hc,n,hd⟩:=id pl
    simp only at hc hd
    subst hc hd
    exact PySem.W.kia_tup hk I.kIn hH ho (Wc ht eT rv h.1) hu fun tk=>endB (I.tok _) h.2
   ·exact h.elim
  ·exact h.elim
 ·exact h.elim
noncomputable def bls?:List V->Option (List Bool)
 | []=>some []
 | .bl b::r=>(bls? r).map (b::·)
 | _=>none
theorem bls?_map:∀ bs:List Bool,bls? (bs.map V.bl)=some bs
 | []=>rfl
 | b::bs=>by simp only[Mu,bls?,bls?_map bs,aL]
theorem bls?_of:∀{xs:List V}{bs:List Bool},bls? xs=some bs->xs=bs.map V.bl
 | [],_,h=>by cases h;rfl
 | .bl z::r,ys,h=>by
  simp only[bls?] at h
  cases e:bls? r with
  | none=>rw[e] at h;cases h
  | some q=>rw[e] at h;cases h;rw[bls?_of e];rfl
 | .non::_,_,h=>by cases h
 | .str _::_,_,h=>by cases h
 | .int _::_,_,h=>by cases h
 | .byt _::_,_,h=>by cases h
 | .flt _::_,_,h=>by cases h
 | .ref _::_,_,h=>by cases h
 | .ty _::_,_,h=>by cases h
def fAll (f:List Bool->Bool):List V->Hp->VK->Prop:=fun xs H Q=>match xs with
 | [.ref p]=>(match lstR H p with
  | some ys=>(match bls? ys with | some bs=>Q (.bl (f bs)) H | none=>False)
  | none=>False)
 | _=>False
theorem cR (bs:List Bool):(Nj bs.length).all (fun i=>bs.getD i true)=bs.all id:=by
 rw[No,On,On]
 constructor
 ·intro h b hb
  obtain⟨i,hi,rfl⟩:=Zi.mp hb
  have:=h i (PL.mpr hi)
  simpa [Mq,hi] using this
 ·intro h i hi
  have hi':=PL.mp hi
  have:=h bs[i] (Qt hi')
  simpa [Mq,hi'] using this
theorem S5 (hc:X.calm=true):CallR X (.builtin "all") (fAll fun bs=>bs.all id):=by
 intro B_ s σ H xs us Q I r h
 unfold fAll at h
 split at h
 ·rename_i p
  split at h
  ·rename_i ys e
   split at h
   ·rename_i bs eb
    obtain⟨u,rfl,ru⟩:=N1 r
    cases ru
    obtain⟨its,rv,pl,hz⟩:=I.list (Q8 e)
    rw[bls?_of eb] at rv
    have Cd:=rv.length
    rw[L8] at Cd
    have C7:p < s.heap.objs.size:=by obtain⟨o,ho,_⟩:=pl.isList;exact Ml ho
    refine call_all_walk (AE pl.isList ?_)
    refine⟨s.heap.objs.size,_,_,_,_,_,(fun i=>bs.getD i true),rfl,Walks.list (A:=X.A.in1) (show X.A.in1.handled=none from I.ok.hd hc) s.heap.objs.size p (MA C7) its.toArray,⟨⟨_,MG _ rfl,rfl,rfl⟩,?_⟩,fun i v s' Q' E' hv hq=>?_,fun h' tk k=>?_⟩
    ·obtain⟨o,ho,q⟩:=pl.isList
     exact⟨o,Mf _ ho,q⟩
    ·have hv':its[i]?=some v:=by simpa using hv
     have Ec:i < its.length:=(MS.mp hv').1
     obtain⟨w',hw,rw'⟩:=rv.get (i:=i) (x:=V.bl (bs.getD i true)) (by rw[MC];simp[Mq,show i < bs.length by omega])
     rw[hv'] at hw
     cases hw
     cases rw'
     exact AB hq
    ·have e2:(Nj its.toArray.size).all (fun i=>bs.getD i true)=bs.all id:=by rw[MH,<- Cd];exact cR bs
     rw[e2]
     have I1:Inv X B_ σ H { s with heap:=s.heap.push { cls:=.type "list_iterator",data:=.fields #[.ref p,.int 0 0] },toks:=s.toks }:=I.kept fun b u q=>Mf _ q
     have f1:=I.fpOk (H':=H) (b:=s.heap.objs.size) (L' _) (I.hok.fresh (L' _))
     exact endB (I1.turned (t':=tk) (it:=s.heap.objs.size) (fun b o hb q=>k b o (by simpa using hb) q) f1.1 f1.2.1 f1.2.2.2.1 f1.2.2.2.2.1 f1.2.2.2.2.2) h
   ·exact h.elim
  ·exact h.elim
 ·exact h.elim
end
noncomputable def Its (xs:List V):It:=⟨fun i _=>i < xs.length,fun i H x H'=>H'=H/\xs[i]?=some x,fun i _=>i=xs.length⟩
noncomputable def chs (z:Str):List V:=z.cps.toList.map fun c=>V.str ⟨#[c]⟩
theorem N3 (z:Str):(chs z).length=z.length:=by unfold chs;rw[L8];rfl
theorem Wd {P:Ak}{w:Am}{K:L3}{tg:Ax}{it:Ac}{n:Nat}{Pv:Nat->Ad->Prop}{St:Nat->Ap->Prop}{xs:List V}
  (hW:∀ A:Ao,A.handled=none->Walks P w A it [it] [it] n Pv St) (hn:xs.length=n) (hx:∀ i u,Pv i u->∃ x,xs[i]?=some x/\RelV x u)
  (DT:∀ i h,St i h->∃ o ty vs,h.get? it=some o/\o.cls=.type ty/\o.data=.fields vs/\["enumerate","zip","dict_itemiterator","dict_reverseitemiterator","odict_iterator","itertools.zip_longest","itertools.pairwise"].contains ty=false)
  (GV:∀(A:Ao) (i:Nat) (s:Af) (Q:Ad->Af->Prop) (E:Ad->Af->Prop),St i s.heap->Q (.ref it) s->wpAny (Aj P w) A (pyIter (.ref it)) Q E s) :
  Turn P w K tg (Its xs) [it] it St where
 mem:=by simp
 obj:=fun i h st b hb=>by
  have e:b=it:=by simpa using hb
  subst e
  obtain⟨o,ty,vs,ho,_,hd,_⟩:=DT i h st
  exact⟨o,ho,fun v z=>by rw[hd] at z;cases z⟩
 keep:=fun i h h' st k=>(hW {} rfl).frame i h h' st k
 item:=by
  intro X hP hw hK hc i B_ s σ H E I hf st hg
  subst hP hw hK
  obtain⟨f0,f1,f2,f3,f4,f5⟩:=hf it (by simp)
  have C7:i < n:=by rw[<- hn];exact hg
  refine(hW X.A (I.ok.hd hc)).item i s _ E C7 st fun v h' tk pv st' k=>?_
  obtain⟨x,ex,rx⟩:=hx i v pv
  have I1:Inv X B_ σ H { s with heap:=h',toks:=tk }:=I.turned (fun b o hb e=>k b o (by simpa using hb) e) f0 f1 f3 f4 f5
  obtain⟨o,ty,vs,ho,GW,hd,Kw⟩:=DT _ _ st'
  exact⟨v,rfl,Q0 (s:={ s with heap:=h',toks:=tk }) ho GW hd Kw ⟨x,H,I1,rx,⟨rfl,ex⟩,st',fun b hb=>(hf b hb).1⟩⟩
 done:=by
  intro X hP hw hK hc i B_ s σ H E I hf st hg
  subst hP hw hK
  obtain⟨f0,f1,f2,f3,f4,f5⟩:=hf it (by simp)
  have e:i=n:=by rw[<- hn];exact hg
  subst e
  exact(hW X.A (I.ok.hd hc)).done s _ E st fun h' tk k=>⟨rfl,I.turned (fun b o hb e=>k b o (by simpa using hb) e) f0 f1 f3 f4 f5⟩
 self:=GV
section
variable {X:Cx}{tg:Ax}
def OY (K:L3)(R:It->Hp->Prop):V->Hp->Prop:=fun x H1=>match x with
 | .str z=>R (Its (chs z)) H1
 | .ref a=>(∃ xs,SqL K H1 a xs/\R (Itl K a) H1)∨(∃ xs,SqT K H1 a xs/\R (Itt K a) H1)
 | _=>False
def iAny (K:L3)(te:TE):TI:=fun σ H R=>te σ H (OY K R)
theorem S6 (h:SignAt z i u):∃ x,(chs z)[i]?=some x/\RelV x u:=by
 obtain⟨c,k,hc,rfl⟩:=h
 refine⟨.str ⟨#[c]⟩,?_,⟨k,rfl⟩⟩
 unfold chs
 rw[MC,Array.getElem?_toList,hc]
 rfl
theorem NS {K:L3}{l:Ax}{tl:TE}(hl:PE X l tl)(hK:X.K=K:=by rfl):PI X tg l (iAny K tl):=by
 subst hK
 intro B_ s σ H R I h
 refine thn (hl B_ s σ H _ I h) fun v s1 ⟨x,H1,I1,r1,q1⟩=>?_
 have fresh1:∀ b∈[s1.heap.objs.size],FpOk X B_ H1 b:=fun b hb=>by
  have e:b=s1.heap.objs.size:=by simpa using hb
  subst e
  exact I1.fpOk (L' _) (I1.hok.fresh (L' _))
 have kept1:∀ ob:Obj,Inv X B_ σ H1 { s1 with heap:=s1.heap.push ob }:=fun ob=>I1.kept (t':=s1.toks) fun b o e=>Mf _ e
 unfold OY at q1
 split at q1
 ·rename_i z
  obtain⟨t,rfl⟩:=r1
  have Cd:(chs z).length=z.cps.size:=by unfold chs;simp
  cases ha:z.cps.all (· < 128)
  ·refine wpAny_pyIter_wide ha ⟨s1.heap.objs.size,[s1.heap.objs.size],_,_,H1,rfl,kept1 _,Wd (fun A hA=>Walks.strWide hA s1.heap.objs.size z t) Cd (fun i u hu=>S6 hu) ?_ (fun A i s Q E st q=>wpAny_pyIter_striter_wide st q),⟨_,MG _ rfl,rfl,rfl⟩,fresh1,q1⟩
   intro i h st
   obtain⟨o,ho,hc,hd⟩:=st
   exact⟨o,_,_,ho,hc,hd,by decide⟩
  ·refine wpAny_pyIter_ascii ha ⟨s1.heap.objs.size,[s1.heap.objs.size],_,_,H1,rfl,kept1 _,Wd (fun A hA=>Walks.strAscii hA s1.heap.objs.size z t) Cd (fun i u hu=>S6 hu) ?_ (fun A i s Q E st q=>wpAny_pyIter_striter_ascii st q),⟨_,MG _ rfl,rfl,rfl⟩,fresh1,q1⟩
   intro i h st
   obtain⟨o,ho,hc,hd⟩:=st
   exact⟨o,_,_,ho,hc,hd,by decide⟩
 ·rename_i a
  cases r1
  rcases q1 with ⟨xs,e,q1⟩ | ⟨xs,e,q1⟩
  ·obtain⟨its,rv,p,hz⟩:=I1.list e
   exact AE p.isList ⟨s1.heap.objs.size,[s1.heap.objs.size],_,_,H1,rfl,kept1 _,bn a _,⟨_,MG _ rfl,rfl,rfl⟩,fresh1,q1⟩
  ·obtain⟨its,rv,p,hz⟩:=I1.tuple e
   exact AG (show s1.heap.IsTuple a its.toArray from p) ⟨s1.heap.objs.size,[s1.heap.objs.size],_,_,H1,rfl,kept1 _,bo a _,⟨_,MG _ rfl,rfl,rfl⟩,fresh1,q1⟩
 ·exact q1.elim
end
theorem Re {J:It}{n:Nat}{val:Nat->V}{p:Ac}{g:TG}{tc:TT}{te:TE}{Q:VK}{σ0:St}{H0:Hp}(Pv:Nat->List V->St->Hp->Prop)
  (Kx:∀ i Ca σ H,i < n->Pv i Ca σ H->J.go i H) (C5:∀ Ca σ H,Pv n Ca σ H->J.stop n H) (hy:∀ i Ca σ H x H',i < n->Pv i Ca σ H->J.yld i H x H'->H'=H/\x=val i)
  (h0:Pv 0 [] σ0 H0) (hp:∀ i Ca σ H,Pv i Ca σ H->H p=some (.lst Ca)/\Ca.length<=i) (hz:n<=Ae)
  (hs:∀ i Ca σ H,i < n->Pv i Ca σ H->g (val i) σ H fun σ3 H3=>tc σ3 H3 fun b H4 =>
   if b=true then te σ3 H4 fun v H5=>H5 p=some (.lst Ca)/\Pv (i+1) (Ca++[v]) σ3 (upd H5 p (.lst (Ca++[v]))) else Pv (i+1) Ca σ3 H4)
  (hd:∀ Ca σ H,Pv n Ca σ H->Q (.ref p) H) :
  Q6 J p g tc te Q σ0 H0:=by
 refine⟨fun i m Ca σ H=>m=n - i/\i<=n/\Pv i Ca σ H,⟨n,by simp,ML _,h0⟩,fun i m Ca σ' H' w=>?_⟩
 obtain⟨rfl,hi,q⟩:=w
 obtain⟨q1,q2⟩:=hp i Ca σ' H' q
 refine⟨q1,?_⟩
 by_cases C7:i < n
 ·refine .inr ⟨Kx i Ca σ' H' C7 q,by omega,Pv (i+1),fun a' σ3 H3 k=>⟨n - (i+1),by omega,rfl,C7,k⟩,fun x H2 y=>?_⟩
  obtain⟨rfl,rfl⟩:=hy i Ca σ' H' x H2 C7 q y
  exact hs i Ca σ' _ C7 q
 ·have e:i=n:=by omega
  subst e
  exact .inl ⟨C5 Ca σ' H' q,hd Ca σ' H' q⟩
theorem ZP {lo:Int} {n:Nat} (Pv:Nat->List V->St->Hp->Prop) (h0:Pv 0 [] σ0 H0) (hp:∀ i Ca σ H,Pv i Ca σ H->H p=some (.lst Ca)/\Ca.length<=i) (hz:n<=Ae) (hs:∀ i Ca σ H,i < n->Pv i Ca σ H->g (.int (lo+i)) σ H fun σ3 H3=>tc σ3 H3 fun b H4 =>
   if b=true then te σ3 H4 fun v H5=>H5 p=some (.lst Ca)/\Pv (i+1) (Ca++[v]) σ3 (upd H5 p (.lst (Ca++[v]))) else Pv (i+1) Ca σ3 H4) (hd:∀ Ca σ H,Pv n Ca σ H->Q (.ref p) H):Q6 (Itr lo n) p g tc te Q σ0 H0 :=
 Re (J:=Itr lo n) (val:=fun i=>.int (lo+i)) Pv (fun _ _ _ _ h _=>h) (fun _ _ _ _=>L' n) (fun _ _ _ _ _ _ _ _ y=>y) h0 hp hz hs hd
theorem Rf (Pv:Nat->List V->St->Hp->Prop) (h0:Pv 0 [] σ0 H0) (hp:∀ i Ca σ H,Pv i Ca σ H->H p=some (.lst Ca)/\Ca.length<=i) (hz:xs.length<=Ae) (hs:∀ i Ca σ H,i < xs.length->Pv i Ca σ H->g (xs.getD i .non) σ H fun σ3 H3=>tc σ3 H3 fun b H4 =>
   if b=true then te σ3 H4 fun v H5=>H5 p=some (.lst Ca)/\Pv (i+1) (Ca++[v]) σ3 (upd H5 p (.lst (Ca++[v]))) else Pv (i+1) Ca σ3 H4) (hd:∀ Ca σ H,Pv xs.length Ca σ H->Q (.ref p) H):Q6 (Its xs) p g tc te Q σ0 H0 :=
 Re (J:=Its xs) (n:=xs.length) (val:=fun i=>xs.getD i .non) Pv (fun _ _ _ _ h _=>h) (fun _ _ _ _=>rfl)
  (fun i _ _ _ x _ hi _ y=>⟨y.1,by have:=y.2;rw[Mq,this];rfl⟩) h0 hp hz hs hd
theorem We {K:L3}{a:Ac}{xs:List V}{p:Ac}{g:TG}{tc:TT}{te:TE}{Q:VK}{σ0:St}{H0:Hp}(Pv:Nat->List V->St->Hp->Prop)
  (hl:∀ i Ca σ H,i<=xs.length->Pv i Ca σ H->SqL K H a xs)
  (h0:Pv 0 [] σ0 H0) (hp:∀ i Ca σ H,Pv i Ca σ H->H p=some (.lst Ca)/\Ca.length<=i) (hz:xs.length<=Ae)
  (hs:∀ i Ca σ H,i < xs.length->Pv i Ca σ H->g (xs.getD i .non) σ H fun σ3 H3=>tc σ3 H3 fun b H4 =>
   if b=true then te σ3 H4 fun v H5=>H5 p=some (.lst Ca)/\Pv (i+1) (Ca++[v]) σ3 (upd H5 p (.lst (Ca++[v]))) else Pv (i+1) Ca σ3 H4)
  (hd:∀ Ca σ H,Pv xs.length Ca σ H->Q (.ref p) H):Q6 (Itl K a) p g tc te Q σ0 H0 :=
 Re (J:=Itl K a) (n:=xs.length) (val:=fun i=>xs.getD i .non) Pv
  (fun i Ca σ H hi q=>⟨xs,xs[i],(hl i Ca σ H (ON hi) q),by simp[hi]⟩) (fun Ca σ H q=>⟨xs,(hl _ Ca σ H (L' _) q),L' _⟩)
  (fun i Ca σ H x _ hi q y=>⟨y.1,by have:=y.2 xs (hl i Ca σ H (ON hi) q);rw[Mq,this];rfl⟩) h0 hp hz hs hd
section
variable {X:Cx}{o e:Ax}{es:List Ax}{to:TE}{t:TA}{name:Str}{Ct cpos:Pos}{T id:String}{r:V->List V->Hp->VK->Prop}
theorem MO {K:L3}(pa:BZ T)(slot:Slot T name id)(F0:typeOf (.builtin id)=pure (.type "method_descriptor"))(hm:MtR X id r)(ho:PE X o to)(ha:PA X (e::es) t)(hK:X.K=K:=by rfl)
  (hb:AI o name X.env (As o X.env)=As o X.env:=by rfl)
  (hf:((AA cpos (Ah (e::es) X.env)).all (fun x=>!x.1)&&(A_ cpos (AS [] X.env)).all (fun x=>x.1.isSome)&&decide ((e::es).length+([]:List Bv).length+(if ([]:List Bv).isEmpty then 0 else 1) < 30))=true:=by rfl)
  (hl:(Ct.endLine == cpos.line)=true:=by rfl) (he:Ah (e::es) X.env=(false,As e X.env)::Ah es X.env:=by rfl) (Cz:(AA cpos (Ah es X.env)).any (·.1)=false:=by rfl):PE X (.Call (.Attribute o name Ct) (e::es) [] cpos) (tBM K T r to t):=by
 subst hK
 exact pe_bm pa slot F0 hm ho ha hb hf hl he Cz
theorem S7 {K:L3}(pa:BZ T)(slot:Slot T name id)(F0:typeOf (.builtin id)=pure (.type "method_descriptor"))(hm:MtR X id r)(ho:PE X o to)(hK:X.K=K:=by rfl)
  (D4:AI o name X.env (As o X.env)=As o X.env:=by rfl) (D5:(Ct.endLine == cpos.line)=true:=by rfl):PE X (.Call (.Attribute o name Ct) [] [] cpos) (tBM0 K T r to):=by
 subst hK
 exact pe_bm0 pa slot F0 hm ho D4 D5
end
def fSet:V->V->V->Hp->(Hp->Prop)->Prop:=fun o i v H Q=>match o,i with
 | .ref p,.int k=>(match H p with
  | some (.lst xs)=>(match ixN xs.length k with | some j=>Q (upd H p (.lst (xs.set j v))) | none=>False)
  | _=>False)
 | _,_=>False
theorem OZ :PSet X fSet:=fun B_ s σ H o i v ov iv u Q I ro ri rv h=>by
 unfold fSet at h
 split at h
 ·split at h
  ·rename_i xs e
   split at h
   ·rename_i j ej
    exact b6 B_ s σ H _ _ v ov iv u Q I ro ri rv ⟨_,_,_,_,rfl,rfl,e,ej,h⟩
   ·exact h.elim
  ·exact h.elim
 ·exact h.elim
structure Dn (P:Ak)(w:Am)(K:L3)(mg:Str->Option Ad)(base:Ap)(x:Str)(k:Nat)(ps:List Str)(sp:Sp):Prop where
 ex:∃(f:Ac) (fd:Ay),mg x=some (.ref f)/\OA K (.ref f)=true/\Binds K fd ps []/\FnOk P w K mg base CX0 k f fd ps sp
theorem Mc (D:Dn X.prog X.w X.K X.mg X.base x k ps sp) (hr:Room k X.A) (hg:Gl X x) (ha:PA X (e::es) t) (Dl:(x == ("__debug__":Str))=false:=by decide) (he:Ah (e::es) X.env=(false,As e X.env)::Ah es X.env:=by rfl) (Cz:(AA pos (Ah es X.env)).any (·.1)=false:=by rfl):
  PE X (.Call (.Name x p) (e::es) [] pos) (Q2 sp [] E0 t):=by
 obtain⟨f,fd,h1,h2,h3,h4⟩:=D.ex
 exact VD h4 hr hg h1 h2 h3 .nil PZ ha Dl he Cz
end L2
namespace L2
open PySem
open Sem (wp)
open AutoSeq1 (wpAny_loadPart')
section
variable {prog:Ak}{w:Am}{A:Ao}{E:Ad->Af->Prop}{s:Af}
theorem cS (D7:s.heap.IsTupleIter it t i) (ht:s.heap.IsTuple t items) (hx:items[i]?=some x) (hQ:∀ h',h'.IsTupleIter it t (i+1)->QU it s.heap h'->Q x { s with heap:=h' }):wpAny (Aj prog w) A (R' (.ref it)) Q E s:=by
 obtain⟨ob,FC,GW,Fm⟩:=id D7
 obtain⟨ot,IA,_,nt,EB⟩:=ht
 unfold R'
 refine Aa (AK (name:=Mg "__next__") D7.typeIs Zw (A3 Zw D7.typeIs i5 ?_ (i4 _)))
 show wpAny _ _ (field (.ref it) 0 >>= _) _ _ s
 refine Aa (Aw FC Fm (x:=.ref t) rfl ?_)
 have nn:¬ ((Value.ref t == Value.none)=true):=Mi
 show wpAny _ _ (if (Value.ref t == Value.none)=true then _ else _) _ _ s
 rw[B8 nn]
 show wpAny _ _ (field (.ref it) 1 >>= _) _ _ s
 refine Aa (Aw FC Fm (x:=.int i 0) rfl ?_)
 show wpAny _ _ (BS (.ref t) >>= _) _ _ s
 refine Aa (AF IA EB ?_)
 simp only[aU,hx]
 refine Aa (A1 FC Fm (by simp) (Ag ⟨x,rfl,Ag (hQ _ ?_ (jq ..))⟩))
 exact⟨_,R7 _ FC (jm (ZI Fm _)),(Obj.cls_mapFields ..).trans GW,by rw[ZI Fm];simp[AM]⟩
theorem cT (hh:A.handled=none) (D7:s.heap.IsTupleIter it t i) (ht:s.heap.IsTuple t items) (hx:items[i]?=none) (hE:∀ h' e,Heap.ExtBut it s.heap h'->(∃ o,h'.get? e=some o/\o.cls=.type "StopIteration")->E (.ref e) { s with heap:=h' }):wpAny (Aj prog w) A (R' (.ref it)) Q E s:=by
 obtain⟨ob,FC,GW,Fm⟩:=id D7
 obtain⟨ot,IA,_,nt,EB⟩:=ht
 unfold R'
 refine Aa (AK (name:=Mg "__next__") D7.typeIs Zw (A3 Zw D7.typeIs i5 ?_ (i4 _)))
 show wpAny _ _ (field (.ref it) 0 >>= _) _ _ s
 refine Aa (Aw FC Fm (x:=.ref t) rfl ?_)
 have nn:¬ ((Value.ref t == Value.none)=true):=Mi
 show wpAny _ _ (if (Value.ref t == Value.none)=true then _ else _) _ _ s
 rw[B8 nn]
 show wpAny _ _ (field (.ref it) 1 >>= _) _ _ s
 refine Aa (Aw FC Fm (x:=.int i 0) rfl ?_)
 show wpAny _ _ (BS (.ref t) >>= _) _ _ s
 refine Aa (AF IA EB ?_)
 simp only[aU,hx]
 refine Aa (B0 (Aa (A1 FC Fm (by simp) ?_)))
 show wpAny _ _ (newExc (.type "StopIteration") [] >>= _) _ _ _
 refine Aa ?_
 simp only[newExc,newTuple]
 refine Aa (AD ?_ (by size_fits))
 refine Aa (m:=firstArgMember _ _) (wpAny_of_eq (a:=Value.none) (by first | rfl | (simp only[firstArgMember];rfl)) (AD ?_ (by size_fits)))
 simp only[raiseNew]
 refine Aa (wpAny_handled ?_)
 first | rw[show A.in1.handled=none from hh] | rw[hh]
 exact Aa (Ag (wpAny_throw (hE _ _ (((jq ..).extBut.push _).push _) ⟨_,MG _ rfl,rfl⟩)))
end
theorem cU {prog:Ak}{w:Am}{A:Ao}(hh:A.handled=none)(it t:Ac)(Cy:t≠it)(items:Array Ad) :
  Draws prog w A it [it,t] items.size (fun i v=>items[i]?=some v) (fun i h=>h.IsTupleIter it t i/\h.IsTuple t items) where
 live:=fun _ _ st=>let ⟨o,ho,_⟩:=st.1;⟨o,ho⟩
 frame:=fun _ _ _ st hk=>⟨st.1.at fun o e=>hk it (by simp) o e,let ⟨o,ho,r⟩:=st.2;⟨o,hk t (by simp) o ho,r⟩⟩
 item:=fun i s Q E hi st hQ=>by
  refine cS st.1 st.2 (x:=items[i]) (by simp[hi]) fun h' hit' hs'=>?_
  exact hQ _ h' s.toks (by simp[hi]) ⟨hit',st.2.extBut hs'.extBut Cy⟩ hs'
 done:=fun s Q E st hE=>cT hh st.1 st.2 (by simp) hE
set_option maxHeartbeats 4000000 in
theorem cV (l:Ac)(items:Array Ad)(n:Nat)(dct:Option Ac)(sl:Array (Option Ad))(b:Int)(u:Tok)(hb:UI b=true) :
  Meets (Builtin.«enumerate.__new__» ⟨[.type "enumerate",.ref l],[(Mg "start",.int b u)]⟩) (fun _ R s=>s.heap.get? l=some { cls:=.type "tuple",dict:=dct,data:=.seq items n,slots:=sl } /\
   R (.ok (.ret (.ref (s.heap.push { cls:=.type "tuple_iterator",data:=.fields #[.ref l,.int 0 0] }).objs.size)))
    { s with heap:=(s.heap.push { cls:=.type "tuple_iterator",data:=.fields #[.ref l,.int 0 0] }).push { cls:=.type "enumerate",data:=.fields #[.none,.bool false,.ref s.heap.objs.size,AM b,.none,.none] } }) :=
 .of_wp fun prog w A R s h=>by
  obtain⟨hp,g,d,tk,os⟩:=s;obtain⟨hl,h⟩:=h
  have Eg:=Bz
  have hL:Z5 (Vi ⟨hp,g,d,tk,os⟩) l items:=⟨_,hl,rfl,n,rfl⟩
  have hb':(!Builtin.SmallTypes.fitsIndex b)=false:=by rw[hb];rfl
  wp_walk using Aq hl
  refine Bj fun st=>Ag ?_
  split
  ·rename_i c _ _ _ _ _
   cases (c == Value.type "enumerate")
   ·wp_walk using Aq hl,AG hL
    exact⟨_,rfl,h⟩
   ·wp_walk using Aq hl,AG hL
    exact⟨_,rfl,h⟩
  ·wp_walk using Aq hl,AG hL
   exact⟨_,rfl,h⟩
set_option maxHeartbeats 4000000 in
theorem cW (l:Ac)(items:Array Ad)(n:Nat)(dct:Option Ac)(sl:Array (Option Ad))(b:Int)(u:Tok)(hb:UI b=true) :
  Meets (Builtin.«enumerate.__new__» ⟨[.type "enumerate",.ref l],[(Mg "start",.int b u)]⟩) (fun _ R s=>s.heap.get? l=some { cls:=.type "list",dict:=dct,data:=.seq items n,slots:=sl } /\
   R (.ok (.ret (.ref (s.heap.push { cls:=.type "list_iterator",data:=.fields #[.ref l,.int 0 0] }).objs.size)))
    { s with heap:=(s.heap.push { cls:=.type "list_iterator",data:=.fields #[.ref l,.int 0 0] }).push { cls:=.type "enumerate",data:=.fields #[.none,.bool false,.ref s.heap.objs.size,AM b,.none,.none] } }) :=
 .of_wp fun prog w A R s h=>by
  obtain⟨hp,g,d,tk,os⟩:=s;obtain⟨hl,h⟩:=h
  have Eg:=Bz
  have hL:Heap.IsList (Vi ⟨hp,g,d,tk,os⟩) l items:=⟨_,hl,rfl,n,rfl⟩
  have hb':(!Builtin.SmallTypes.fitsIndex b)=false:=by rw[hb];rfl
  wp_walk using Aq hl
  refine Bj fun st=>Ag ?_
  split
  ·rename_i c _ _ _ _ _
   cases (c == Value.type "enumerate")
   ·wp_walk using Aq hl,AE hL
    exact⟨_,rfl,h⟩
   ·wp_walk using Aq hl,AE hL
    exact⟨_,rfl,h⟩
  ·wp_walk using Aq hl,AE hL
   exact⟨_,rfl,h⟩
section
variable {prog:Ak}{w:Am}{A:Ao}{E:Ad->Af->Prop}{s:Af}
theorem Rg (hl:AY (.type T) "__init__"=pure (some (.builtin "object.__init__"))) (hm:Bind.madeBy (.type T)=pure (some newId)) (Cy:(some newId != some "object.__new__")=true):
  Meets (Builtin.«object.__init__» ⟨self::rest,kw⟩) (fun _ R s=>s.TypeIs self T/\R (.ok (.ret .none)) s):=by
 refine Meets.of_wp fun prog w A R s hs=>?_
 obtain⟨hT,hq⟩:=hs
 cases rest with
 | nil =>
  cases kw with
  | nil=>exact Ag ⟨_,rfl,hq⟩
  | cons k kw =>
   repeat (any_goals (first | assumption | wp_step))
   exact⟨_,rfl,hq⟩
 | cons a rest =>
  repeat (any_goals (first | assumption | wp_step))
  exact⟨_,rfl,hq⟩
set_option maxHeartbeats 4000000 in
theorem ZQ (ft:TypeCalled T newId initId) (JM:BX T ⟨args,kw⟩=pure ()) (DU:Az newId ⟨.type T::args,kw⟩=pure ()) (entryN:entryFor table newId=some Bn) (entryI:entryFor table initId=some Bi) (g:Meets (Bn ⟨.type T::args,kw⟩) S) (h:S A.in1 (wants Q₁ E) s) (GX:∀ obj s₁,Q₁ obj s₁->s₁.TypeIs obj T/\argsOk initId ⟨obj::args,kw⟩/\∃ Si,Meets (Bi ⟨obj::args,kw⟩) Si/\Si A.in1 (wants (fun r s₂=>r=.none/\Q obj s₂) E) s₁):
  wpAny (Aj prog w) A (call (.type T) args kw) Q E s:=by
 obtain⟨c,tl,Ky⟩:=ft.mro
 have JN:=ft.made
 have Eg:=ft.sub
 refine Bc (codeAny_of_tree ?_)
 show wpAny _ _ (callAny (.type T) _) _ _ _
 refine Ag ⟨aX _ (by decide +kernel),Bk F.entry_type_call ?_⟩
 rw[Around.under_plain (weight_type_call_type T args kw) (units_type_call_type T args kw)]
 have h1:=ft.notType
 have h2:=ft.canCreate
 repeat (any_goals (first | assumption | wp_step))
 refine A2 (AT ft.plain entryN (wpAny_of_eq DU (g prog w A.in1 _ s h))) fun r s₁ hr=>?_
 cases r with
 | error e=>exact hr
 | ok fl =>
  cases fl with
  | ret obj =>
   obtain⟨hT,hok,Si,gi,Kz⟩:=GX _ _ hr
   have hli:=ft.init.lookup
   have hbi:=ft.init.bind obj
   repeat (any_goals (first | assumption | wp_step))
   refine A2 (AT ft.init.plain entryI (ft.init.check _ _ _ _ _ _ _ _ hT hok (gi prog w A.in1 _ s₁ Kz))) fun r₂ s₂ hr₂=>?_
   cases r₂ with
   | error e=>exact hr₂
   | ok fl₂ =>
    cases fl₂ with
    | ret r =>
     obtain⟨rfl,hq⟩:=hr₂
     repeat (any_goals (first | assumption | wp_step))
    | _=>exact hr₂.elim
  | _=>exact hr.elim
theorem chk1 (a b:Ad):BX "enumerate" ⟨[a],[(Mg "start",b)]⟩=pure ():=by kernel_rfl
theorem chk2 (a b:Ad):Az "enumerate.__new__" ⟨[.type "enumerate",a],[(Mg "start",b)]⟩=pure ():=by kernel_rfl
theorem argsK (obj a b:Ad):argsOk "object.__init__" ⟨[obj,a],[(Mg "start",b)]⟩:=by
 unfold argsOk
 rw[signature?_of (id:="object.__init__") (n:=['_','_','t','i','n','i','_','_']) (o:=['t','c','e','j','b','o']) (by kernel_rfl) F.owner_object]
 kernel_rfl
theorem cX (hL:s.heap.IsTuple l items) (hb:UI b=true) (h:∀ h',BM h' (s.heap.objs.size+1) s.heap.objs.size b .none->h'.IsTupleIter s.heap.objs.size l 0->(∀ b o,s.heap.get? b=some o->h'.get? b=some o)->Q (.ref (s.heap.objs.size+1)) { s with heap:=h' }):
  wpAny (Aj prog w) A (call (.type "enumerate") [.ref l] [(Mg "start",.int b u)]) Q E s:=by
 obtain⟨⟨c,dct,dt,sl⟩,hl,hc,n,hd⟩:=hL
 simp only at hc hd
 subst hc hd
 refine ZQ (Q₁:=fun obj s₁=>s₁.TypeIs obj "enumerate"/\Q obj s₁) Ps (chk1 _ _) (chk2 _ _) Zx Zy (cV l items n dct sl b u hb) ⟨hl,?_⟩
  fun obj s₁ hq=>⟨hq.1,argsK obj _ _,_,Rg Ps.init.lookup Ps.made (by decide),hq.1,rfl,hq.2⟩
 have hz:(s.heap.push { cls:=.type "tuple_iterator",data:=.fields #[.ref l,.int 0 0] }).objs.size=s.heap.objs.size+1:=Om ..
 show _/\_
 rw[hz]
 have he:BM ((s.heap.push { cls:=.type "tuple_iterator",data:=.fields #[.ref l,.int 0 0] }).push { cls:=.type "enumerate",data:=.fields #[.none,.bool false,.ref s.heap.objs.size,AM b,.none,.none] }) (s.heap.objs.size+1) s.heap.objs.size b .none:=by
  have:=MG (s.heap.push { cls:=.type "tuple_iterator",data:=.fields #[.ref l,.int 0 0] }) (o:={ cls:=.type "enumerate",data:=.fields #[.none,.bool false,.ref s.heap.objs.size,AM b,.none,.none] }) rfl
  rw[hz] at this;exact this
 exact⟨⟨_,he,rfl⟩,h _ he ⟨_,Mf _ (MG _ rfl),rfl,rfl⟩ fun b o x=>Mf _ (Mf _ x)⟩
theorem cY (hL:s.heap.IsList l items) (hb:UI b=true) (h:∀ h',BM h' (s.heap.objs.size+1) s.heap.objs.size b .none->h'.IsListIter s.heap.objs.size l 0->(∀ b o,s.heap.get? b=some o->h'.get? b=some o)->Q (.ref (s.heap.objs.size+1)) { s with heap:=h' }):
  wpAny (Aj prog w) A (call (.type "enumerate") [.ref l] [(Mg "start",.int b u)]) Q E s:=by
 obtain⟨⟨c,dct,dt,sl⟩,hl,hc,n,hd⟩:=hL
 simp only at hc hd
 subst hc hd
 refine ZQ (Q₁:=fun obj s₁=>s₁.TypeIs obj "enumerate"/\Q obj s₁) Ps (chk1 _ _) (chk2 _ _) Zx Zy (cW l items n dct sl b u hb) ⟨hl,?_⟩
  fun obj s₁ hq=>⟨hq.1,argsK obj _ _,_,Rg Ps.init.lookup Ps.made (by decide),hq.1,rfl,hq.2⟩
 have hz:(s.heap.push { cls:=.type "list_iterator",data:=.fields #[.ref l,.int 0 0] }).objs.size=s.heap.objs.size+1:=Om ..
 show _/\_
 rw[hz]
 have he:BM ((s.heap.push { cls:=.type "list_iterator",data:=.fields #[.ref l,.int 0 0] }).push { cls:=.type "enumerate",data:=.fields #[.none,.bool false,.ref s.heap.objs.size,AM b,.none,.none] }) (s.heap.objs.size+1) s.heap.objs.size b .none:=by
  have:=MG (s.heap.push { cls:=.type "list_iterator",data:=.fields #[.ref l,.int 0 0] }) (o:={ cls:=.type "enumerate",data:=.fields #[.none,.bool false,.ref s.heap.objs.size,AM b,.none,.none] }) rfl
  rw[hz] at this;exact this
 exact⟨⟨_,he,rfl⟩,h _ he ⟨_,Mf _ (MG _ rfl),rfl,rfl⟩ fun b o x=>Mf _ (Mf _ x)⟩
end
end L2
namespace L2
open PySem PySem.Spec PyProof.Rows
section
variable {X:Cx}{B_:List (Ac×Obj)}{σ:St}{H:Hp}{s:Af}{h':Ap}
theorem Inv.turnedL {t':Nat}{ch:List Ac}(I:Inv X B_ σ H s)(k:∀ b u,b∉ch->s.heap.get? b=some u->h'.get? b=some u)(hf:∀ b∈ch,FpOk X B_ H b):Inv X B_ σ H { s with heap:=h',toks:=t' }:=by
 have nch:∀ b u,H b=some u->b∉ch:=fun b u e z=>by rw[(hf b z).1] at e;cases e
 refine I.step (g':=s.gens) (d':=s.drawn) (ch:=ch) (fun b hb=>⟨(hf b hb).2.2.2.1,(hf b hb).2.1,(hf b hb).2.2.2.2.1,(hf b hb).2.2.2.2.2⟩)
  (fun b u _ _ hc e _=>k b u hc e) (fun b u _ _ hc e _=>⟨u.slots,k b u hc e⟩) (fun _ _ _ _ n=>n)
  (fun b u hc e=>⟨u,k b u hc e⟩) (fun _ _ e=>e) (fun _ _ _ e=>e) (fun b ps e=>⟨#[],by rw[e];simp⟩) (fun m hm=>?_) (fun b u e=>?_) I.bare
 ·obtain⟨ob,es,ep,ho,r⟩:=hm
  exact⟨ob,es,ep,k _ ob (fun z=>(hf _ z).2.1 rfl) ho,r⟩
 ·refine(I.hok b u e).stay (fun c v hc q=>k c v ?_ q) (fun _ q=>q) fun _ _ q=>q
  rcases hc with z | z
  ·rw[z];exact nch b u e
  ·exact nch c _ z
theorem Inv.turnedNew {t':Nat}{ch:List Ac}{T:Ac}{o:HO}(I:Inv X B_ σ H s)(hT:s.heap.objs.size<=T)
  (k:∀ b u,b∉ch->s.heap.get? b=some u->h'.get? b=some u) (hf:∀ b∈ch,FpOk X B_ H b) (new:ObjOk X.prog X.w (upd H T o) h' T o) :
  Inv X B_ σ (upd H T o) { s with heap:=h',toks:=t' }:=by
 have hn:H T=none:=I.hok.fresh hT
 have nch:∀ b u,H b=some u->b∉ch:=fun b u e z=>by rw[(hf b z).1] at e;cases e
 refine I.step (g':=s.gens) (d':=s.drawn) (ch:=ch) (fun b hb=>⟨(hf b hb).2.2.2.1,(hf b hb).2.1,(hf b hb).2.2.2.2.1,(hf b hb).2.2.2.2.2⟩)
  (fun b u _ _ hc e _=>k b u hc e) (fun b u _ _ hc e _=>⟨u.slots,k b u hc e⟩) (fun b u _ e n=>by rw[L4 (MA (Nh (Ml e) hT))];exact n)
  (fun b u hc e=>⟨u,k b u hc e⟩) (fun b xs e=>by rw[L4 (Mj e hn)];exact e) (fun b u v e=>by rw[L4 (Mj e hn)];exact e) (fun b ps e=>⟨#[],by rw[L4 (Mj e hn),e];simp⟩)
  (fun m hm=>?_) (fun b u e=>?_) I.bare
 ·obtain⟨ob,es,ep,ho,r⟩:=hm
  exact⟨ob,es,ep,k _ ob (fun z=>(hf _ z).2.1 rfl) ho,r⟩
 ·by_cases hb:b=T
  ·subst hb;rw[LX] at e;cases e;exact new
  ·rw[L4 hb] at e
   refine(I.hok b u e).stay (fun c v hc q=>k c v ?_ q) (fun c q=>by rw[L4 (Mj q hn)];exact q) fun c xs q=>by rw[L4 (Mj q hn)];exact q
   rcases hc with z | z
   ·rw[z];exact nch b u e
   ·exact nch c _ z
end
theorem Draws.shift {P:Ak}{w:Am}{A:Ao}{it:Ac}{fp:List Ac}{n:Nat}{Pv:Nat->Ad->Prop}{St:Nat->Ap->Prop}(D:Draws P w A it fp n Pv St)(b:Nat) :
  Draws P w A it fp (b+n) (fun j x=>b<=j/\Pv (j - b) x) (fun j h=>b<=j/\St (j - b) h) where
 live:=fun j h st=>D.live _ _ st.2
 frame:=fun j h h' st k=>⟨st.1,D.frame _ _ _ st.2 k⟩
 item:=fun j s Q E hj st hQ=>D.item (j - b) s Q E (by have:=st.1;omega) st.2 fun x h' tk hP hS sb=>hQ x h' tk ⟨st.1,hP⟩ ⟨by have:=st.1;omega,by rw[show j+1 - b=j - b+1 by have:=st.1;omega];exact hS⟩ sb
 done:=fun s Q E st hE=>D.done s Q E (by have:=st.2;rwa [Zt] at this) hE
theorem PrX.ok (x:xs.length<=Ae/\∃ its:List Ad,Vals xs its/\IsTup h a its.toArray):ObjOk P w H h a (PrX a xs):=by
 refine⟨x,?_,fun h1 h2 q k=>?_⟩
 ·obtain⟨_,_,_,o,ho,_⟩:=x
  exact⟨o,ho⟩
 ·obtain⟨z,its,r,o,ho,c⟩:=q
  exact⟨z,its,r,o,k o ho,c⟩
noncomputable def Ien (b:Nat)(xs:List V)(ok:Hp->Prop):It :=
 ⟨fun i H=>ok H/\i < xs.length,fun i H x H'=>∃ T v,H T=none/\xs[i]?=some v/\x=.ref T/\H'=upd H T (PrX T [.int ((b:Int)+(i:Int)),v]),fun i H=>ok H/\i=xs.length⟩
noncomputable def O0 (P:Ak)(w:Am)(A:Ao)(it:Ac)(xs:List V)(St0:Nat->Ap->Prop)(H:Hp)(i:Nat)(h:Ap):Prop :=
 ∃(fp:List Ac) (Pv:Nat->Ad->Prop) (St:Nat->Ap->Prop),Draws P w A it fp xs.length Pv St/\it∈fp/\(∀ b∈fp,b=it∨H b≠none)/\St i h/\(∀ j x,Pv j x->∃ v,xs[j]?=some v/\RelV v x)/\∀ j h',St j h'->St0 j h'
theorem Wf {P:Ak}{w:Am}{K:L3}{elts:List Ax}{k:Nat}{pos:Pos}{e it:Ac}{xs:List V}{b:Nat}{ok:Hp->Prop}{St0:Nat->Ap->Prop}(HI:e≠it)
  (hD:∀(X:Cx),X.prog=P->X.w=w->X.K=K->X.calm=true->∀(i:Nat) (B_:List (Ac×Obj)) (s:Af) (σ:St) (H:Hp),Inv X B_ σ H s->ok H->H it=none->St0 i s.heap->O0 P w X.A.in1 it xs St0 H i s.heap)
  (DT:∀ i h,St0 i h->∃ o,h.get? it=some o/\∀ v,o.data≠.cell v) (GY:∀ i h h',St0 i h->(∀ o,h.get? it=some o->h'.get? it=some o)->St0 i h') :
  Turn P w K (.Tuple elts k pos) (Ien b xs ok) [e,it] e (fun i h=>(∃ old,BM h e it ((b+i:Nat):Int) old)/\St0 i h) where
 mem:=by simp
 obj:=fun i h st c hc=>by
  rcases Mo.mp hc with z | z
  ·obtain⟨⟨old,he⟩,_⟩:=st
   rw[z]
   exact⟨_,he,fun v q=>by
    have q':Data.fields _=Data.cell v:=q
    cases q'⟩
  ·have z':c=it:=by simpa using z
   rw[z']
   exact DT i h st.2
 keep:=fun i h h' st kk=>by
  obtain⟨⟨old,he⟩,hs⟩:=st
  exact⟨⟨old,kk e (by simp) _ he⟩,GY i h h' hs fun o q=>kk it (by simp) o q⟩
 item:=by
  intro X hP hw hK hc i B_ s σ H E I hf st hg
  subst hP hw hK
  obtain⟨⟨old,he⟩,hs⟩:=st
  obtain⟨hok,C7⟩:=hg
  obtain⟨fp,Pv,St,D,IB,GZ,C5,G0,FD⟩:=hD X rfl rfl rfl hc i B_ s σ H I hok (hf it (by simp)).1 hs
  have IC:e∉fp:=fun z=>by
   rcases GZ e z with q | q
   ·exact HI q
   ·exact q (hf e (by simp)).1
  have W:=WalksT.enumerateD (Draws.shift D b) e HI IC IB
  refine W.item (b+i) s _ E (by omega) ⟨⟨old,he⟩,by omega,by rw[Zt];exact C5⟩ fun T vals h1 tk ID hT F3 hm hk=>⟨.ref T,rfl,?_⟩
  obtain⟨t,x,⟨_,JO⟩,rfl⟩:=ID
  rw[Zt] at JO
  obtain⟨v,hv,rv⟩:=G0 _ _ JO
  have apart:=W.apart _ _ _ hm
  refine W.go elts k pos (b+i) T _ _ E hm fun h2 st2 E9=>?_
  have kk:∀ c u,c∉[e,it]->s.heap.get? c=some u->h2.get? c=some u:=fun c u hc q=>E9 c u hc (hk c u hc q)
  have tup2:IsTup h2 T #[.int ((b+i:Nat):Int) t,x]:=by
   obtain⟨o,ho,r⟩:=F3
   exact⟨o,E9 T o apart ho,r⟩
  refine⟨.ref T,upd H T (PrX T [.int ((b:Int)+(i:Int)),v]),I.turnedNew (t':=tk) hT kk hf ?_,rfl,⟨T,v,I.hok.fresh hT,hv,rfl,rfl⟩,?_,?_⟩
  ·refine PrX.ok ⟨by show 2<=Ae;decide,[.int ((b+i:Nat):Int) t,x],.cons ⟨t,?_⟩ (.cons rv .nil),tup2⟩
   rw[Int.natCast_add]
  ·obtain⟨⟨old2,HJ⟩,_,D0⟩:=st2
   refine⟨⟨old2,HJ⟩,FD _ _ ?_⟩
   rwa [show b+i+1 - b=i+1 by omega] at D0
  ·intro c hc
   have C7:c < s.heap.objs.size:=by
    rcases Mo.mp hc with z | z
    ·rw[z];exact Ml he
    ·have z':c=it:=by simpa using z
     rw[z']
     obtain⟨o,ho,_⟩:=DT i _ hs
     exact Ml ho
   rw[L4 (MA (Nh C7 hT))]
   exact(hf c hc).1
 done:=by
  intro X hP hw hK hc i B_ s σ H E I hf st hg
  subst hP hw hK
  obtain⟨⟨old,he⟩,hs⟩:=st
  obtain⟨hok,rfl⟩:=hg
  obtain⟨fp,Pv,St,D,IB,GZ,C5,G0,FD⟩:=hD X rfl rfl rfl hc _ B_ s σ H I hok (hf it (by simp)).1 hs
  have IC:e∉fp:=fun z=>by
   rcases GZ e z with q | q
   ·exact HI q
   ·exact q (hf e (by simp)).1
  have W:=WalksT.enumerateD (Draws.shift D b) e HI IC IB
  exact W.done s _ E ⟨⟨old,he⟩,by omega,by rw[Zt];exact C5⟩ fun h1 tk hk=>⟨rfl,I.turnedL hk hf⟩
 self:=fun A i s Q E st q=>by
  obtain⟨⟨old,he⟩,_⟩:=st
  exact AU he q
section
variable {X:Cx}
theorem Wg (hh:A.handled=none) (st:h.IsStrIter it (AO z) z t i):
  O0 P w A it (chs z) (fun i h=>h.IsStrIter it (AO z) z t i) H i h:=by
 have Cd:(chs z).length=z.cps.size:=by unfold chs;simp
 have rel:∀(j:Nat) (x:Ad),(∃ c u,z.cps[j]?=some c/\x=Value.str ⟨#[c]⟩ u)->∃ v,(chs z)[j]?=some v/\RelV v x:=fun j x hx=>by
  obtain⟨c,u,hc,rfl⟩:=hx
  exact S6 ⟨c,u,hc,rfl⟩
 cases ha:z.cps.all (· < 128)
 ·have e:AO z="str_iterator":=by simp[AO,ha]
  rw[e] at st ⊢
  refine⟨[it],_,_,?_,by simp,fun b hb=>.inl (by simpa using hb),st,rel,fun _ _ q=>q⟩
  rw[Cd]
  exact Draws.strWide hh it z t
 ·have e:AO z="str_ascii_iterator":=by simp[AO,ha]
  rw[e] at st ⊢
  refine⟨[it],_,_,?_,by simp,fun b hb=>.inl (by simpa using hb),st,rel,fun _ _ q=>q⟩
  rw[Cd]
  exact Draws.strAscii hh it z t
def enIt (R:It->Hp->Prop):V->Hp->Prop:=fun x H1=>match x with
 | .str z=>R (Ien 0 (chs z) fun _=>True) H1
 | _=>False
def iEnum (te:TE):TI:=fun σ H R=>te σ H (enIt R)
theorem Rh (hg:Gl X "enumerate") (hm:X.mg "enumerate"=none) (ha:PE X a ta) (hs:Ah [a] X.env=[(false,As a X.env)]:=by rfl):
  PI X (.Tuple elts k tpos) (.Call (.Name "enumerate" p) [a] [] pos) (iEnum ta):=by
 intro B_ s σ H R I h
 refine Call_ (QC I hg hm BN (UJ ?_ hs rfl))
 rw[hs]
 show wpAny _ _ (BC ((false,As a X.env)::AA pos (Ah [] X.env))) _ _ s
 refine SE (thn (ha B_ s σ H _ I h) fun u s1 ⟨x,H1,I1,ru,q1⟩=>UK ?_)
 unfold enIt at q1
 split at q1
 ·rename_i z
  obtain⟨t,rfl⟩:=ru
  refine call_enumerate_str fun h1 he D7 hsz hk=>?_
  refine AU he ?_
  have I2:Inv X B_ σ H1 { s1 with heap:=h1 }:=I1.kept (t':=s1.toks) hk
  refine⟨s1.heap.objs.size+1,[s1.heap.objs.size+1,s1.heap.objs.size],_,_,H1,rfl,I2,Wf (b:=0) (ok:=fun _=>True) (xs:=chs z) (St0:=fun i h=>h.IsStrIter s1.heap.objs.size (AO z) z t i) (U' _) ?_ ?_ ?_,⟨⟨.none,he⟩,D7⟩,?_,q1⟩
  ·intro X' h1 h2 h3 hc i B_ s σ H I _ _ st
   exact h1▸h2▸Wg (A:=X'.A.in1) (show X'.A.in1.handled=none from I.ok.hd hc) st
  ·intro i h st
   obtain⟨o,ho,hc,hd⟩:=st
   exact⟨o,ho,fun v q=>by rw[hd] at q;cases q⟩
  ·intro i h h' st kk
   obtain⟨o,ho,r⟩:=st
   exact⟨o,kk o ho,r⟩
  ·intro b hb
   have:s1.heap.objs.size<=b:=by
    rcases Mo.mp hb with z | z
    ·rw[z];exact Qw _
    ·have z':b=s1.heap.objs.size:=by simpa using z
     rw[z'];exact L' _
   exact I1.fpOk this (I1.hok.fresh this)
 ·exact q1.elim
end
def N4 (n:Nat)(R:It->Hp->Prop):V->Hp->Prop:=fun x H1=>match x with
 | .ref a=>(∃ xs,H1 a=some (.lst xs)/\R (Ien n xs fun H=>H a=some (.lst xs)) H1)∨(∃ xs,H1 a=some (.tup xs)/\R (Ien n xs fun H=>H a=some (.tup xs)) H1)
 | _=>False
def Wh (te ts:TE):TI:=fun σ H R=>te σ H fun x H1=>ts σ H1 fun y H2=>∃ n:Nat,y=.int (n:Int)/\n < 1000000/\N4 n R x H2
theorem Wi (hc:X.calm=true) (I:Inv X B_ σ H s) (h:SqL X.K H a xs) (hn:H it=none) (ha:H a≠none) (st:s.heap.IsListIter it a i):
  O0 X.prog X.w X.A.in1 it xs (fun i h=>h.IsListIter it a i) H i s.heap:=by
 obtain⟨its,rv,pl,hz⟩:=I.list h
 have hl:its.toArray.size=xs.length:=by rw[MH];exact rv.length.symm
 have Cy:a≠it:=fun z=>ha (z▸hn)
 refine⟨[it,a],_,_,hl▸Draws.list (A:=X.A.in1) (show X.A.in1.handled=none from I.ok.hd hc) it a Cy its.toArray,by simp,fun b hb=>?_,⟨st,pl.isList⟩,fun j x hx=>?_,fun _ _ q=>q.1⟩
 ·rcases Mo.mp hb with z | z
  ·exact .inl z
  ·have z':b=a:=by simpa using z
   rw[z'];exact .inr ha
 ·have hx':its[j]?=some x:=by simpa using hx
  have hj:j < xs.length:=by rw[rv.length];exact(MS.mp hx').1
  obtain⟨u,hu,ru⟩:=rv.get (i:=j) (x:=xs[j]) (by simp[hj])
  rw[hx'] at hu
  cases hu
  exact⟨xs[j],by simp[hj],ru⟩
theorem S8 (hc:X.calm=true) (I:Inv X B_ σ H s) (h:SqT X.K H a xs) (hn:H it=none) (ha:H a≠none) (st:s.heap.IsTupleIter it a i):
  O0 X.prog X.w X.A.in1 it xs (fun i h=>h.IsTupleIter it a i) H i s.heap:=by
 obtain⟨its,rv,pl,hz⟩:=I.tuple h
 have hl:its.toArray.size=xs.length:=by rw[MH];exact rv.length.symm
 have Cy:a≠it:=fun z=>ha (z▸hn)
 refine⟨[it,a],_,_,hl▸cU (A:=X.A.in1) (show X.A.in1.handled=none from I.ok.hd hc) it a Cy its.toArray,by simp,fun b hb=>?_,⟨st,pl⟩,fun j x hx=>?_,fun _ _ q=>q.1⟩
 ·rcases Mo.mp hb with z | z
  ·exact .inl z
  ·have z':b=a:=by simpa using z
   rw[z'];exact .inr ha
 ·have hx':its[j]?=some x:=by simpa using hx
  have hj:j < xs.length:=by rw[rv.length];exact(MS.mp hx').1
  obtain⟨u,hu,ru⟩:=rv.get (i:=j) (x:=xs[j]) (by simp[hj])
  rw[hx'] at hu
  cases hu
  exact⟨xs[j],by simp[hj],ru⟩
section
variable {X:Cx}
theorem Wj (hg:Gl X "enumerate") (hm:X.mg "enumerate"=none) (ha:PE X a ta) (hb:PE X b tb) (hs:Ah [a] X.env=[(false,As a X.env)]:=by rfl):
  PI X (.Tuple elts k tpos) (.Call (.Name "enumerate" p) [a] [⟨some "start",b,kpos⟩] pos) (Wh ta tb):=by
 intro B_ s σ H R I h
 refine AC (QC I hg hm BN ?_)
 refine PySem.W.callWith_of (P:=fun _=>True) (by rw[hs];rfl) (fun _ _=>⟨.machine,.inr (.inl rfl),jp rfl⟩) (PyProof.Rows.evalArgs_kw2 (by rfl) ?_ hs)
 rw[hs]
 show wpAny _ _ (BC ((false,As a X.env)::AA pos (Ah [] X.env))) _ _ s
 refine SE (thn (ha B_ s σ H _ I h) fun u s1 ⟨x,H1,I1,ru,q1⟩=>UK ?_)
 show wpAny _ _ (evalAll ((do let v <- As b X.env;Bm pos;pure v)::[])) _ _ s1
 refine wpAny_evalAll_cons (Aa (thn (hb B_ s1 σ H1 _ I1 q1) fun u2 s2 ⟨y,H2,I2,ry,n,ey,hn,q2⟩=>Aa (AV (Ag (wpAny_evalAll_nil ⟨trivial,?_⟩)))))
 subst ey
 obtain⟨t,rfl⟩:=ry
 show wpAny _ _ (call (.type "enumerate") [u] [(Mg "start",.int (n:Int) t)]) _ _ s2
 have Fk:UI (n:Int)=true:=by
  unfold UI
  have e:((2:Int) ^ 63)=9223372036854775808:=by decide
  simp only[e,MQ,decide_eq_true_eq]
  omega
 unfold N4 at q2
 split at q2
 ·rename_i l _
  cases ru
  have fp:∀ b∈[s2.heap.objs.size+1,s2.heap.objs.size],FpOk X B_ H2 b:=fun b hb=>by
   have:s2.heap.objs.size<=b:=by
    rcases Mo.mp hb with z | z
    ·rw[z];exact Qw _
    ·have z':b=s2.heap.objs.size:=by simpa using z
     rw[z'];exact L' _
   exact I2.fpOk this (I2.hok.fresh this)
  rcases q2 with ⟨xs,hl,q2⟩ | ⟨xs,hl,q2⟩
  ·obtain⟨its,rv,pl,hz⟩:=I2.list (SqL.of hl)
   refine cY pl.isList Fk fun h1 he D7 hk=>?_
   refine AU he ?_
   refine⟨s2.heap.objs.size+1,[s2.heap.objs.size+1,s2.heap.objs.size],_,_,H2,rfl,I2.kept (t':=s2.toks) hk,Wf (b:=n) (ok:=fun H=>H l=some (.lst xs)) (xs:=xs) (St0:=fun i h=>h.IsListIter s2.heap.objs.size l i) (U' _) ?_ ?_ ?_,⟨⟨.none,he⟩,D7⟩,fp,q2⟩
   ·intro X' h1 h2 h3 hc i B_ s σ H I ok hn st
    exact h1▸h2▸Wi hc I (SqL.of ok) hn (by rw[ok];exact fun z=>nomatch z) st
   ·intro i h st
    obtain⟨o,ho,hc,hd⟩:=st
    exact⟨o,ho,fun v q=>by rw[hd] at q;cases q⟩
   ·intro i h h' st kk
    exact st.at kk
  ·obtain⟨its,rv,pl,hz⟩:=I2.tuple (SqT.of hl)
   refine cX pl Fk fun h1 he D7 hk=>?_
   refine AU he ?_
   refine⟨s2.heap.objs.size+1,[s2.heap.objs.size+1,s2.heap.objs.size],_,_,H2,rfl,I2.kept (t':=s2.toks) hk,Wf (b:=n) (ok:=fun H=>H l=some (.tup xs)) (xs:=xs) (St0:=fun i h=>h.IsTupleIter s2.heap.objs.size l i) (U' _) ?_ ?_ ?_,⟨⟨.none,he⟩,D7⟩,fp,q2⟩
   ·intro X' h1 h2 h3 hc i B_ s σ H I ok hn st
    exact h1▸h2▸S8 hc I (SqT.of ok) hn (by rw[ok];exact fun z=>nomatch z) st
   ·intro i h st
    obtain⟨o,ho,hc,hd⟩:=st
    exact⟨o,ho,fun v q=>by rw[hd] at q;cases q⟩
   ·intro i h h' st kk
    exact st.at kk
 ·exact q2.elim
end
theorem Sb {b:Nat}{xs:List V}{ok:Hp->Prop}{g:TG}{tb:TS}{D:Ends}{σ:St}{H:Hp}(Pv:Nat->St->Hp->Prop)(h0:Pv 0 σ H)(hok:∀ i σ H,i<=xs.length->Pv i σ H->ok H)
  (hs:∀ i v σ H T,xs[i]?=some v->Pv i σ H->H T=none->g (.ref T) σ (upd H T (PrX T [.int ((b:Int)+(i:Int)),v])) fun σ2 H2=>tb { D with nx:=Pv (i+1),ct:=Pv (i+1),bk:=D.nx } σ2 H2) (hd:∀ σ H,Pv xs.length σ H->D.nx σ H) :
  ∃ W:Nat->Nat->St->Hp->Prop,(∃ m,W 0 m σ H)/\∀ i m σ H,W i m σ H ->
   ((Ien b xs ok).stop i H/\D.nx σ H)∨((Ien b xs ok).go i H/\∃ N:St->Hp->Prop,(∀ σ' H',N σ' H'->∃ m',m' < m/\W (i+1) m' σ' H')/\∀ x H',(Ien b xs ok).yld i H x H'->g x σ H' fun σ2 H2=>tb { D with nx:=N,ct:=N,bk:=D.nx } σ2 H2):=by
 refine⟨fun i m σ H=>m=xs.length - i/\i<=xs.length/\Pv i σ H,⟨xs.length,by simp,ML _,h0⟩,fun i m σ' H' w=>?_⟩
 obtain⟨rfl,hi,p⟩:=w
 have ho:=hok i σ' H' hi p
 by_cases C7:i < xs.length
 ·refine .inr ⟨⟨ho,C7⟩,Pv (i+1),fun σ2 H2 p'=>⟨xs.length - (i+1),by omega,rfl,C7,p'⟩,fun x H2 y=>?_⟩
  obtain⟨T,v,hT,hv,rfl,rfl⟩:=y
  exact hs i v σ' H' T hv p hT
 ·have e:i=xs.length:=by omega
  exact .inl ⟨⟨ho,e⟩,hd σ' H' (e▸p)⟩
section
variable {σ:St}{H:Hp}{D:Ends}{Q:VK}{QB:Bool->Hp->Prop}{QA:List V->Hp->Prop}
theorem NH (h:t { D with nx:=u D } σ H):tSeq t u D σ H:=h
theorem i_ifs (h:c σ H fun b H1=>if b=true then t D σ H1 else u D σ H1):tIfS c t u D σ H:=h
theorem i_next (h:D.nx σ H):tNext D σ H:=h
theorem i_ret (h:te σ H D.rt):tRet te D σ H:=h
theorem O1 (h:te σ H fun _ H1=>D.nx σ H1):tDrop te D σ H:=h
theorem i_asg (h:te σ H fun x H1=>g x σ H1 D.nx):tAsg te g D σ H:=h
theorem MZ {i:Nat}{v:V}{K:St->Hp->Prop}(h:K (σ.set i (some v)) H):OS i v σ H K:=h
theorem i_gsub {to ti:TE}{t:TSet}{v:V}{K:St->Hp->Prop}(h:to σ H fun o H1=>ti σ H1 fun i H2=>t o i v H2 fun H3=>K σ H3):gSub to ti t v σ H K:=h
theorem S9 {K':L3}{n:Nat}{t:TGs}{a:Ac}{xs:List V}{K:St->Hp->Prop}(h1:H a=some (.tup xs))(h2:xs.length=n)(h:t xs σ H K):gTup K' n t (.ref a) σ H K:=⟨a,xs,rfl,.inl (SqT.of h1),h2,h⟩
theorem QJ {K':L3}{n:Nat}{t:TGs}{a:Ac}{xs:List V}{K:St->Hp->Prop}(h1:H a=some (PrX a xs))(h2:xs.length=n)(h:t xs σ H K):gTup K' n t (.ref a) σ H K:=⟨a,xs,rfl,.inr h1,h2,h⟩
theorem O4 {K:St->Hp->Prop}(h:K σ H):gNil [] σ H K:=⟨rfl,h⟩
theorem M_ {t:TG}{u:TGs}{v:V}{r:List V}{K:St->Hp->Prop}(h:t v σ H fun σ' H'=>u r σ' H' K):gCons t u (v::r) σ H K:=⟨v,r,rfl,h⟩
theorem i_for (h:wi σ H fun J H1=>∃ W:Nat->Nat->St->Hp->Prop,(∃ m,W 0 m σ H1)/\∀ i m σ H,W i m σ H ->
 (J.stop i H/\D.nx σ H)∨(J.go i H/\∃ N:St->Hp->Prop,(∀ σ' H',N σ' H'->∃ m',m' < m/\W (i+1) m' σ' H')/\∀ x H',J.yld i H x H'->g x σ H' fun σ2 H2=>tb { D with nx:=N,ct:=N,bk:=D.nx } σ2 H2)):tFor wi g tb D σ H:=h
theorem O5 (e:σ[i]?=some (some v)) (h:Q v H):tVar i σ H Q:=⟨v,e,h⟩
theorem i_c (h:Q v H):tC v σ H Q:=h
theorem i_op (h:ta σ H fun x H1=>tb σ H1 fun y H2=>r x y H2 Q):tOp r ta tb σ H Q:=h
theorem i_un (h:ta σ H fun x H1=>r x H1 Q):tUn r ta σ H Q:=h
theorem i_test (h:t σ H fun x H'=>∃ k,x=.bl k/\QB k H'):SL t σ H QB:=h
theorem i_bl {b:Bool}{P:Bool->Prop}(h:P b):∃ k,V.bl b=.bl k/\P k:=⟨b,rfl,h⟩
theorem i_and (h:t σ H fun c H1=>if c=true then u σ H1 QB else QB false H1):tAnd t u σ H QB:=h
theorem i_or (h:t σ H fun c H1=>if c=true then QB true H1 else u σ H1 QB):tOr t u σ H QB:=h
theorem i_not (h:t σ H fun c H1=>QB (!c) H1):tNot t σ H QB:=h
theorem i_andV (h:ta σ H fun x H1=>∃ c,x=.bl c/\if c=true then tb σ H1 Q else Q (.bl false) H1):SJ ta tb σ H Q:=h
theorem i_orV (h:ta σ H fun x H1=>∃ c,x=.bl c/\if c=true then Q (.bl true) H1 else tb σ H1 Q):tOrV ta tb σ H Q:=h
theorem i_ifE (h:t σ H fun c H1=>if c=true then ta σ H1 Q else tb σ H1 Q):tIf t ta tb σ H Q:=h
theorem i_chain (h:ta σ H fun x H1=>tb σ H1 fun y H2=>r x y H2 fun z H3=>∃ k,z=.bl k/\(if k=true then tc σ H3 fun w' H4=>r' y w' H4 Q else Q (.bl false) H3)):SM r r' ta tb tc σ H Q:=h
theorem O6 (h:QA [] H):tNil σ H QA:=h
theorem P4 (h:ta σ H fun x H1=>tr σ H1 fun xs H2=>QA (x::xs) H2):SR ta tr σ H QA:=h
theorem i_cb (h:t σ H fun vs H1=>r vs H1 Q):tCB r t σ H Q:=h
theorem i_call (h:t σ H fun vs H1=>sp (vs++dvs) H1 Q E):Q2 sp dvs E t σ H Q:=h
theorem i_lst (h:t σ H fun xs H1=>xs.length<=Ae/\∀ p,H1 p=none->Q (.ref p) (upd H1 p (.lst xs))):tLst t σ H Q:=h
theorem i_tup (h:t σ H fun xs H1=>xs.length<=Ae/\∀ p,H1 p=none->Q (.ref p) (upd H1 p (.tup xs))):tTup t σ H Q:=h
theorem i_bm {K:L3}{T:String}{r:V->List V->Hp->VK->Prop}{to:TE}{t:TA}(h:to σ H fun x H1=>tyV K T x H1/\t σ H1 fun xs H2=>r x xs H2 Q):tBM K T r to t σ H Q:=h
theorem i_bm0 {K:L3}{T:String}{r:V->List V->Hp->VK->Prop}{to:TE}(h:to σ H fun x H1=>tyV K T x H1/\r x [] H1 Q):tBM0 K T r to σ H Q:=h
theorem i_sl (h:te σ H fun x H1=>tl σ H1 fun l H2=>th σ H2 fun u H3=>r x l u H3 Q):tSl r te tl th σ H Q:=h
theorem cZ {K:Option Int->Hp->Prop}(h:K none H):VO σ H K:=h
theorem i_part {t:TE}{K:Option Int->Hp->Prop}(h:t σ H fun x H1=>∃ i,x=.int i/\K (some i) H1):tPart t σ H K:=h
theorem i_exI {i:Int}{P:Int->Prop}(h:P i):∃ k,V.int i=.int k/\P k:=⟨i,rfl,h⟩
theorem i_comp (h:wi σ H fun J H1=>∀ p,H1 p=none->Q6 J p g tc te Q (pick ix σ) (upd H1 p (.lst []))):Q7 ix wi g tc te σ H Q:=h
theorem i_true (h:QB true H):tTrue σ H QB:=h
theorem i_rng1 (h:ta σ H fun vs H1=>∃ j:Int,vs=[.int j]/\-(2 ^ 62)<=j/\j < 2 ^ 62/\R (Itr 0 j.toNat) H1):iRng1 ta σ H R:=h
theorem p62:((2:Int) ^ 62)=4611686018427387904:=by decide
theorem p63:((2:Int) ^ 63)=9223372036854775808:=by decide
theorem i_r1 {j:Int}{P:Int->Prop}(h1:-1000000000<=j/\j<=1000000000)(h:P j):∃ k:Int,[V.int j]=[.int k]/\-(2 ^ 62)<=k/\k < 2 ^ 62/\P k:=⟨j,rfl,by rw[p62];omega,by rw[p62];omega,h⟩
theorem i_rng2 (h:ta σ H fun vs H1=>∃ i j:Int,vs=[.int i,.int j]/\(-(2 ^ 62)<=i/\i < 2 ^ 62/\-(2 ^ 62)<=j/\j < 2 ^ 62)/\R (Itr i (j - i).toNat) H1):iRng2 ta σ H R:=h
theorem i_r2 {i j:Int}{P:Int->Int->Prop}(h1:-1000000000<=i/\i<=1000000000/\-1000000000<=j/\j<=1000000000)(h:P i j):∃ a b:Int,[V.int i,V.int j]=[.int a,.int b]/\(-(2 ^ 62)<=a/\a < 2 ^ 62/\-(2 ^ 62)<=b/\b < 2 ^ 62)/\P a b:=⟨i,j,rfl,by rw[p62];omega,h⟩
theorem i_any {K:L3}{te:TE}{R:It->Hp->Prop}(h:te σ H (OY K R)):iAny K te σ H R:=h
theorem i_anyS {K:L3}{R:It->Hp->Prop}{z:Str}(h:R (Its (chs z)) H):OY K R (.str z) H:=h
theorem O7 {K:L3}{R:It->Hp->Prop}{a:Ac}{xs:List V}(h1:SqL K H a xs)(h:R (Itl K a) H):OY K R (.ref a) H:=.inl ⟨xs,h1,h⟩
theorem Wk {K:L3}{R:It->Hp->Prop}{a:Ac}{xs:List V}(h1:SqT K H a xs)(h:R (Itt K a) H):OY K R (.ref a) H:=.inr ⟨xs,h1,h⟩
theorem i_enum (h:te σ H (enIt R)):iEnum te σ H R:=h
theorem i_enumS (h:te σ H fun x H1=>ts σ H1 fun y H2=>∃ n:Nat,y=.int (n:Int)/\n < 1000000/\N4 n R x H2):Wh te ts σ H R:=h
theorem Ri (h1:H a=some (.lst xs)) (h:R (Ien n xs fun H=>H a=some (.lst xs)) H):N4 n R (.ref a) H:=.inl ⟨xs,h1,h⟩
theorem i_enST (h1:H a=some (.tup xs)) (h:R (Ien n xs fun H=>H a=some (.tup xs)) H):N4 n R (.ref a) H:=.inr ⟨xs,h1,h⟩
theorem i_enS (h:R (Ien 0 (chs z) fun _=>True) H):enIt R (.str z) H:=h
theorem i_tyS {K:L3}{z:Str}{R:Prop}(h:R):tyV K "str" (.str z) H/\R:=⟨rfl,h⟩
theorem i_tyL {K:L3}{p:Ac}{xs:List V}{R:Prop}(h1:SqL K H p xs)(h:R):tyV K "list" (.ref p) H/\R:=⟨.inl ⟨rfl,xs,h1⟩,h⟩
theorem i_fI0 (h:Q (g i j) H):fI0 g (.int i) (.int j) H Q:=h
theorem i_fI (c:C i j) (h:Q (g i j) H):fI C g (.int i) (.int j) H Q:=⟨c,h⟩
theorem i_addI (h:Q (.int (i+j)) H):fAdd (.int i) (.int j) H Q:=h
theorem S_ (c:i.length+j.length<=Ae) (h:Q (.str (i++j)) H):fAdd (.str i) (.str j) H Q:=⟨c,h⟩
theorem QK (h1:H a=some (.lst xs)) (h2:H b=some (.lst ys)) (c:xs.length+ys.length<=Ae) (h:∀ p,H p=none->Q (.ref p) (upd H p (.lst (xs++ys)))):fAdd (.ref a) (.ref b) H Q:=by
 show (match H a,H b with | some (.lst xs),some (.lst ys)=>_ | some (.tup xs),some (.tup ys)=>_ | _,_=>_)
 rw[h1,h2];exact⟨c,h⟩
theorem i_mulI (c:CMul i j) (h:Q (.int (i * j)) H):fMul (.int i) (.int j) H Q:=⟨c,h⟩
theorem i_mulL (h1:H a=some (.lst xs)) (c:-1000000000<=k/\k<=1000000000/\xs.length * k.toNat<=1000000) (h:∀ p,H p=none->Q (.ref p) (upd H p (.lst (MD k.toNat xs).flatten))):fMul (.ref a) (.int k) H Q:=by
 show (match H a with | some (.lst xs)=>_ | _=>_)
 rw[h1];exact⟨by rw[p63];omega,by rw[p63];omega,MR c.2.2 (by decide),h⟩
theorem i_ixK {K:L3}{p:Ac}{i:Int}{xs:List V}{v:V}(h1:SqL K H p xs)(h2:atI xs i=some v)(h:Q v H):fIx K (.ref p) (.int i) H Q:=⟨xs,v,.inl h1,h2,h⟩
theorem N5 {K:L3}{p:Ac}{i:Int}{xs:List V}{v:V}(h1:seqR H p=some xs)(h2:atI xs i=some v)(h:Q v H):fIx K (.ref p) (.int i) H Q:=⟨xs,v,UQ h1,h2,h⟩
theorem i_ixS {K:L3}{z:Str}{i:Int}{c:Nat}(hz:z.length<=Ae)(h2:atI z.cps.toList i=some c)(h:Q (.str ⟨#[c]⟩) H):fIx K (.str z) (.int i) H Q:=by
 refine⟨hz,?_⟩
 rw[h2];exact h
theorem S' {p:Ac}{k:Int}{v:V}{xs:List V}{j:Nat}{K:Hp->Prop}(h1:H p=some (.lst xs))(h2:ixN xs.length k=some j)(h:K (upd H p (.lst (xs.set j v)))):fSet (.ref p) (.int k) v H K:=by
 show (match H p with | some (.lst xs)=>(match ixN xs.length k with | some j=>K (upd H p (.lst (xs.set j v))) | none=>False) | _=>False)
 rw[h1];dsimp only;rw[h2];exact h
theorem i_neg (h:Q (.int (-i)) H):fNeg (.int i) H Q:=h
theorem i_eq (c:scal x y=true) (h:Q (.bl (decide (x=y))) H):fEq x y H Q:=.inl ⟨c,h⟩
theorem i_ne (c:scal x y=true) (h:Q (.bl (!decide (x=y))) H):fNe x y H Q:=.inl ⟨c,h⟩
theorem i_neD (h1:Is H x d) (h2:Is H y d) (c:okD d) (h:Q (.bl false) H):fNe x y H Q:=.inr ⟨d,d,h1,h2,c,c,by rw[V7 c];exact h⟩
theorem i_eqD (h1:Is H x d) (h2:Is H y e) (c:okD d) (c2:okD e) (h:Q (.bl (eqD d e)) H):fEq x y H Q:=.inr ⟨d,e,h1,h2,c,c2,h⟩
theorem i_is (h:Q (.bl (decide (x=.non))) H):fIs x .non H Q:=⟨rfl,h⟩
theorem i_inS (h:Q (.bl (xor neg (Qy j i))) H):fIn neg (.str i) (.str j) H Q:=h
theorem NI (h1:seqR H p=some xs) (c:OE x=true/\xs.all OE=true) (h:Q (.bl (if neg then !inV x xs else inV x xs)) H):fIn neg x (.ref p) H Q:=by
 unfold fIn
 cases x <;> (dsimp only;rw[h1];exact⟨c.1,c.2,h⟩)
theorem Wl {K:L3}{z:Str}(hz:z.length<=Ae)(h:Q (.int z.length) H):fLen K [.str z] H Q:=⟨hz,h⟩
theorem i_lenK {K:L3}{p:Ac}{xs:List V}(h1:SqL K H p xs)(h:Q (.int xs.length) H):fLen K [.ref p] H Q:=⟨xs,.inl h1,h⟩
theorem i_lenR {K:L3}{p:Ac}{xs:List V}(h1:seqR H p=some xs)(h:Q (.int xs.length) H):fLen K [.ref p] H Q:=⟨xs,UQ h1,h⟩
theorem i_1I (h:Q (g i) H):f1I g [.int i] H Q:=h
theorem i_2I (h:Q (g i j) H):f2I g [.int i,.int j] H Q:=h
theorem c_ (h1:seqR H p=some xs) (h:∀ q,H q=none->Q (.ref q) (upd H q (.lst xs))):SZ [.ref p] H Q:=by
 show (match seqR H p with | some ys=>GetL H ys Q | none=>False)
 rw[h1];exact h
theorem Rj (h1:seqR H p=some xs) (h:GetT H xs Q):S0 [.ref p] H Q:=by
 show (match seqR H p with | some ys=>GetT H ys Q | none=>False)
 rw[h1];exact h
theorem i_slS {K:L3}{z:Str}{lo hi:Option Int}(hz:z.length<=Ae)(h:Q (.str (Vd z lo hi)) H):fSl K (.str z) lo hi H Q:=⟨hz,h⟩
theorem Py {K:L3}{a:Ac}{xs:List V}{lo hi:Option Int}(h1:SqL K H a xs)(h:∀ q,H q=none->Q (.ref q) (upd H q (.lst (cutV xs lo hi)))):fSl K (.ref a) lo hi H Q:=.inl ⟨xs,h1,h⟩
theorem i_truB (h:QB b H):fTru (.bl b) H QB:=h
theorem Rk (h1:H l=some (.lst xs)) (c:xs.length < Ae) (h:Q .non (upd H l (.lst (xs++[y])))):S3 (.ref l) [y] H Q:=by
 show (match H l with | some (.lst xs)=>xs.length < Ae/\Q .non (upd H l (.lst (xs++[y]))) | _=>False)
 rw[h1];exact⟨c,h⟩
theorem Rl (h1:lstR H p=some (ys.map V.str)) (c:(ys.map (·.length)).sum+ys.length * z.length<=16777216) (h:Q (.str (SG z ys)) H):Rc (.str z) [.ref p] H Q:=by
 show (match lstR H p with | some xs=>(match strs? xs with | some ys=>(ys.map (·.length)).sum+ys.length * z.length<=16777216/\Q (.str (SG z ys)) H | none=>False) | none=>False)
 rw[h1];dsimp only;rw[strs?_map];exact⟨c,h⟩
theorem i_SS (h:Q (g z y) H):fSS g (.str z) [.str y] H Q:=h
theorem i_SSI (h:Q (g z y i) H):fSSI g (.str z) [.str y,.int i] H Q:=h
theorem Rm (h1:lstR H p=some (bs.map V.bl)) (h:Q (.bl (f bs)) H):fAll f [.ref p] H Q:=by
 show (match lstR H p with | some ys=>(match bls? ys with | some bs=>Q (.bl (f bs)) H | none=>False) | none=>False)
 rw[h1];dsimp only;rw[bls?_map];exact h
theorem Rn (h1:tyN H x=some t) (c:P3 T=true) (h:Q (.bl (subB t T)) H):fIsi [x,.ty T] H Q:=by
 show (match tyN H x with | some t=>P3 T=true/\Q (.bl (subB t T)) H | none=>False)
 rw[h1];exact⟨c,h⟩
theorem O8 (h1:tyN H x=some t) (h2:H p=some (.tup [.ty T,.ty T'])) (c:P3 T=true/\P3 T'=true) (h:Q (.bl (subB t T || subB t T')) H):fIsi [x,.ref p] H Q:=by
 show (match tyN H x,tupR H p with | some t,some ts=>(match tys? ts with | some Ts=>Ts.all P3=true/\Q (.bl (Ts.any (subB t))) H | none=>False) | _,_=>False)
 rw[h1,V8 h2]
 show [T,T'].all P3=true/\Q (.bl ([T,T'].any (subB t))) H
 refine⟨by simp[c.1,c.2],?_⟩
 have e:[T,T'].any (subB t)=(subB t T || subB t T'):=by simp
 rw[e];exact h
end
theorem iteD {c A B:Prop} [Decidable c](h1:c->A)(h2:¬ c->B):if decide c=true then A else B:=by
 by_cases h:c
 ·rw[B9 (B7 h)];exact h1 h
 ·rw[B8 (by rw[B6 h];exact Mi)];exact h2 h
theorem Nb {c A B:Prop} [Decidable c](hc:c)(h:A):if decide c=true then A else B:=by rw[B9 (B7 hc)];exact h
theorem Nc {c A B:Prop} [Decidable c](hc:¬ c)(h:B):if decide c=true then A else B:=by rw[B8 (by rw[B6 hc];exact Mi)];exact h
theorem O9 {b:Bool}{A B:Prop}(h:b=true)(hA:A):if b=true then A else B:=by rw[B9 h];exact hA
theorem N6 {b:Bool}{A B:Prop}(h:b=false)(hB:B):if b=true then A else B:=by rw[h];exact iteF hB
theorem szc {xs:List V}(h:decide (xs.length<=1000)=true):xs.length<=Ae:=MR (of_decide_eq_true h) (by decide)
theorem szn (h:n<=1000000):n<=Ae:=MR h (by decide)
theorem i_sz {xs:List V}{R:Prop}(h:xs.length<=Ae)(r:R):xs.length<=Ae/\R:=⟨h,r⟩
theorem Wm (h:H a=some (.tup xs)):tyN H (.ref a)=some "tuple":=by
 show (match H a with | some (.lst _)=>some "list" | some (.frz _ (.lst _))=>some "list" | some (.tup _)=>some "tuple" | _=>none)=_
 rw[h]
theorem Wo (h:H a=some (.lst xs)):tyN H (.ref a)=some "list":=by
 show (match H a with | some (.lst _)=>some "list" | some (.frz _ (.lst _))=>some "list" | some (.tup _)=>some "tuple" | _=>none)=_
 rw[h]
theorem L_ (h:H p=none) (o:HO):Same H (upd H p o):=fun b u q=>by rw[L4 (Mj q h)];exact q
theorem iteB {b:Bool}{A B:Prop}(h1:b=true->A)(h2:b=false->B):if b=true then A else B:=by
 cases b
 ·exact iteF (h2 rfl)
 ·exact iteT (h1 rfl)
theorem atI_0 (x:α) (xs:List α):atI (x::xs) 0=some x:=PX (xs:=x::xs) (j:=0) (v:=x) rfl
theorem atI_1 (x y:α) (xs:List α):atI (x::y::xs) 1=some y:=PX (xs:=x::y::xs) (j:=1) (v:=y) rfl
theorem atI_2 (x y z:α) (xs:List α):atI (x::y::z::xs) 2=some z:=PX (xs:=x::y::z::xs) (j:=2) (v:=z) rfl
theorem atI_3 (x y z u:α) (xs:List α):atI (x::y::z::u::xs) 3=some u:=PX (xs:=x::y::z::u::xs) (j:=3) (v:=u) rfl
theorem Wp {n:Nat}{i:Int}(h:0<=i)(h2:i < n):ixN n i=some i.toNat:=by
 unfold ixN;rw[B9 h,B9 h2]
theorem da :seqR (upd H p (.lst xs)) p=some xs:=M9 LX
theorem Wq :lstR (upd H p (.lst xs)) p=some xs:=QH LX
theorem db :seqR (upd H p (.tup xs)) p=some xs:=UP LX
theorem QL (h:0<=i) (h2:xs[i.toNat]?=some v):atI xs i=some v:=by
 have e:i=((i.toNat:Nat):Int):=by omega
 rw[e];exact PX h2
theorem CMul.l (h1:-(2 ^ 64) < i) (h2:i < 2 ^ 64):CMul i j:=.inl ⟨h1,h2⟩
theorem CMul.r (h1:-(2 ^ 64) < j) (h2:j < 2 ^ 64):CMul i j:=.inr ⟨h1,h2⟩
def Off (p:Ac)(H H':Hp):Prop:=∀ b,b≠p->H' b=H b
def Kept (p:Ac)(H H':Hp):Prop:=∀ b o,b≠p->H b=some o->H' b=some o
theorem Off.kept (h:Off p H H'):Kept p H H':=fun b o hb e=>(h b hb).trans e
theorem Off.refl (p:Ac)(H:Hp):Off p H H:=fun _ _=>rfl
theorem Off.upd (a:Off p H H1) (o:HO):Off p H (L2.upd H1 p o):=fun c hc=>(L4 hc).trans (a c hc)
theorem Kept.refl (p:Ac)(H:Hp):Kept p H H:=fun _ _ _ e=>e
theorem Kept.trans (a:Kept p H H1) (b:Kept p H1 H2):Kept p H H2:=fun c o hc e=>b c o hc (a c o hc e)
theorem Kept.new (a:Kept p H H1) (hq:H1 q=none) (o:HO):Kept p H (L2.upd H1 q o):=fun c u hc e=>by
 rw[L4 (Mj (a c u hc e) hq)];exact a c u hc e
end L2
namespace L2
noncomputable def P5 (sep:List Nat):List (List Nat)->List Nat
 | []=>[]
 | [x]=>x
 | x::y::r=>x++sep++P5 sep (y::r)
theorem de {sep x:List Nat}:∀{r:List (List Nat)},r≠[]->P5 sep (x::r)=x++sep++P5 sep r
 | [],h=>absurd rfl h
 | _::_,_=>rfl
theorem Wr:∀ ls:List (List Nat),P5 [] ls=ls.flatten
 | []=>rfl
 | [x]=>by simp[P5]
 | x::y::r=>by
  have:=Wr (y::r)
  simp only[P5,this,Pr,UB]
noncomputable def bit (w gs:List Nat)(k:Nat):List Nat:=(if k∈gs then [45] else [])++[w.getD k 0]
noncomputable def txt (w gs:List Nat)(n:Nat):List Nat:=(Nj n).flatMap (bit w gs)
theorem Ws (w gs:List Nat)(n:Nat):txt w gs (n+1)=txt w gs n++((if n∈gs then [45] else [])++[w.getD n 0]):=by
 unfold txt
 rw[UE,Zl]
 simp[bit]
noncomputable def NJ (w:List Nat):Nat->List Nat->List (List Nat)
 | b,[]=>[w.drop b]
 | b,g::gs=>(w.take g).drop b::NJ w g gs
theorem df (w:List Nat):∀ b gs,NJ w b gs≠[]
 | _,[]=>by simp[NJ]
 | _,_::_=>by simp[NJ]
def Rise (b n:Nat):List Nat->Prop
 | []=>True
 | g::gs=>b < g/\g < n/\Rise g n gs
theorem Rise.mem {n:Nat}:∀{b:Nat}{gs:List Nat},Rise b n gs->∀ g∈gs,b < g/\g < n
 | _,[],_,g,h=>by cases h
 | b,g::gs,r,k,h=>by
  rcases Mo.mp h with rfl | h
  ·exact⟨r.1,r.2.1⟩
  ·have:=Rise.mem r.2.2 k h
   exact⟨az r.1 this.1,this.2⟩
theorem Ta (w:List Nat):∀(m b:Nat),b+m<=w.length->(Of b m).flatMap (fun k=>[w.getD k 0])=(w.drop b).take m
 | 0,b,_=>by simp
 | m+1,b,h=>by
  have hb:b < w.length:=by omega
  rw[ai,Ss,Ta w m (b+1) (by omega),QV hb,List.take_succ_cons]
  simp[Mq,hb]
theorem Wt {f g:Nat->List Nat}:∀{l:List Nat},(∀ k∈l,f k=g k)->l.flatMap f=l.flatMap g
 | [],_=>rfl
 | a::l,h=>by
  rw[Ss,Ss,h a MV,Wt fun k hk=>h k (MP _ hk)]
theorem Wu (w:List Nat):∀(gs:List Nat) (b:Nat),Rise b w.length gs->b<=w.length->P5 [45] (NJ w b gs)=(Of b (w.length - b)).flatMap (bit w gs)
 | [],b,_,hb=>by
  have e:(Of b (w.length - b)).flatMap (bit w [])=(Of b (w.length - b)).flatMap (fun k=>[w.getD k 0]):=Wt fun k _=>by simp[bit]
  rw[e,Ta w _ b (by omega)]
  simp only[NJ,P5]
  rw[U4 (by simp)]
 | g::gs,b,r,hb=>by
  obtain⟨r1,r2,r3⟩:=r
  have ih:=Wu w gs g r3 (ON r2)
  have hs:Of b (w.length - b)=Of b (g - b)++Of g (w.length - g):=by
   have:w.length - b=(g - b)+(w.length - g):=by omega
   have e2:b+(g - b)=g:=by omega
   rw[this,<- List.range'_append_1,e2]
  have hg:Of g (w.length - g)=g::Of (g+1) (w.length - (g+1)):=by
   have:w.length - g=(w.length - (g+1))+1:=by omega
   rw[this,ai]
  have f1:(Of b (g - b)).flatMap (bit w (g::gs))=(w.drop b).take (g - b):=by
   rw[<- Ta w (g - b) b (by omega)]
   refine Wt fun k hk=>?_
   have hk':b<=k/\k < g:=by
    have:=ao.mp hk
    omega
   have:k∉g::gs:=fun z=>by
    rcases Mo.mp z with z | z
    ·omega
    ·have:=(Rise.mem r3 k z).1;omega
   simp only[bit,B8 this,am]
  have hn:g∉gs:=fun z=>Qv _ (Rise.mem r3 g z).1
  have f2:(Of (g+1) (w.length - (g+1))).flatMap (bit w (g::gs))=(Of (g+1) (w.length - (g+1))).flatMap (bit w gs):=by
   refine Wt fun k hk=>?_
   have hk':g < k:=by
    have:=ao.mp hk
    omega
   have e:(k∈g::gs)↔k∈gs:=by
    rw[Mo]
    constructor
    ·rintro(z | z)
     ·omega
     ·exact z
    ·exact Or.inr
   unfold bit
   simp only[e]
  rw[NJ,de (df _ _ _),ih,hs,Zl,f1,hg,Ss,Ss,f2]
  have b1:bit w (g::gs) g=[45,w.getD g 0]:=by simp[bit]
  have b2:bit w gs g=[w.getD g 0]:=by simp[bit,hn]
  rw[b1,b2,List.drop_take]
  simp
theorem dg (w gs:List Nat)(r:Rise 0 w.length gs):P5 [45] (NJ w 0 gs)=txt w gs w.length:=by
 rw[Wu w gs 0 r (ML _)]
 unfold txt
 rw[i3,Zv]
noncomputable def MK (c:Nat):Bool:=decide (97<=c/\c<=122)
structure RS where
 w:List Nat
 g:List Nat
 lacks:Bool
noncomputable def OF (s:RS)(c:Nat):Option RS :=
 if MK c=true then some ⟨s.w++[c],s.g,false⟩ else if c=45/\s.lacks=false then some ⟨s.w,s.g++[s.w.length],true⟩ else none
noncomputable def rrun:List Nat->RS->Option RS
 | [],s=>some s
 | c::r,s=>(OF s c).bind (rrun r)
theorem Wv:∀(a b:List Nat) (s:RS),rrun (a++b) s=(rrun a s).bind (rrun b)
 | [],_,_=>rfl
 | c::a,b,s=>by
  simp only[UC,rrun]
  cases OF s c with
  | none=>rfl
  | some t=>simp only[QY];exact Wv a b t
end L2
namespace L2
open PySem PySem.Builtin PySem.Builtin.Str
noncomputable def S (l:List Nat):Str:=⟨l.toArray⟩
theorem S_cps (l:List Nat):(S l).cps.toList=l:=rfl
theorem Me (l:List Nat):(S l).length=l.length:=by show l.toArray.size=_;simp
theorem Ro (a b:List Nat):S a++S b=S (a++b):=by
 show (⟨a.toArray++b.toArray⟩:Str)=⟨(a++b).toArray⟩
 rw[List.append_toArray]
theorem S_inj (h:S a=S b):a=b:=by
 have:=congrArg (fun z:Str=>z.cps.toList) h
 exact this
noncomputable def sx (n d:Nat):Option Int->Nat
 | none=>d
 | some v=>if v < 0 then (v+(n:Int)).toNat else min v.toNat n
noncomputable def cutA {α:Type}(l:List α)(lo hi:Option Int):List α:=(l.drop (sx l.length 0 lo)).take (sx l.length l.length hi - sx l.length 0 lo)
theorem Rp (n d:Nat)(hd:d<=n)(o:Option Int):sx n d o<=n:=by
 cases o with
 | none=>exact hd
 | some v=>simp only[sx];split <;> omega
theorem sliceIx (lo hi:Option Int)(n:Nat):strSliceIndices lo hi 1 n=(Nj (sx n n hi - sx n 0 lo)).map (sx n 0 lo+·):=by
 have key:∀(a c:Nat),sliceRange (a:Int) (c:Int) 1=(Nj (c - a)).map (a+·):=fun a c=>by
  unfold sliceRange
  have e:(if (1:Int) > 0 then (if (a:Int) < (c:Int) then ((c:Int) - a+1 - 1) / 1 else 0) else (if (a:Int) > (c:Int) then ((a:Int) - c - 1 - 1) / (-1) else 0)).toNat=c - a:=by
   rw[B9 (by decide)]
   split
   ·rw[Int.ediv_one];omega
   ·omega
  simp only[e]
  apply UA
  intro k _
  omega
 have cl:∀ v:Int,max 0 (min (if v < 0 then v+(n:Int) else v) (n:Int))=(((if v < 0 then (v+(n:Int)).toNat else min v.toNat n):Nat):Int):=fun v=>by
  by_cases hv:v < 0
  ·simp only[B9 hv];omega
  ·simp only[B8 hv];omega
 unfold strSliceIndices
 have h1:((1:Int) > 0)=True:=by simp
 cases lo with
 | none =>
  cases hi with
  | none=>simp only[h1,if_true];exact key 0 n
  | some v=>simp only[h1,if_true,cl];exact key 0 _
 | some u =>
  cases hi with
  | none=>simp only[h1,if_true,cl];exact key _ n
  | some v=>simp only[h1,if_true,cl];exact key _ _
theorem pickL (l:List Nat):∀(m a:Nat),a+m<=l.length->((Nj m).map (a+·)).filterMap (l.toArray[·]?)=(l.drop a).take m
 | 0,a,_=>by simp
 | m+1,a,h=>by
  have ha:a < l.length:=by omega
  rw[iZ,Mu,Zk,Ng]
  have e:((a+·)∘Nat.succ)=((a+1)+·):=by funext k;simp;omega
  have:=pickL l m (a+1) (by omega)
  rw[e,this,QV ha,List.take_succ_cons]
  simp[ha]
theorem dh (l:List Nat)(lo hi:Option Int) :
  (if ((1:Int) == 1&&(strSliceIndices lo hi 1 (S l).length).length == (S l).length)=true then S l else ⟨((strSliceIndices lo hi 1 (S l).length).filterMap ((S l).cps[·]?)).toArray⟩:Str)=S (cutA l lo hi):=by
 have h1:=Rp l.length l.length (L' _) hi
 have h2:=Rp l.length 0 (ML _) lo
 rw[Me,sliceIx]
 unfold cutA
 generalize sx l.length l.length hi=c at *
 generalize sx l.length 0 lo=a at *
 split
 ·rename_i hc
  simp only[L8,ag,beq_self_eq_true,OM,beq_iff_eq] at hc
  by_cases h0:l.length=0
  ·have:l=[]:=Z8.mp h0
   subst this;simp
  ·have ha:a=0:=by omega
   have hc':c=l.length:=by omega
   subst ha hc'
   simp
 ·by_cases hac:a<=c
  ·show S _=S _
   congr 1
   exact pickL l _ a (by omega)
  ·have:c - a=0:=by omega
   rw[this]
   simp[S]
theorem Ww (s sub:Str)(hi:Nat):∀(l:List Nat) (arr:Array Nat) (f:Nat),1<=arr.size->(forIn l (arr,f) (Vg s sub hi 1)).run.fst=arr
 | [],_,_,_=>rfl
 | a::l,arr,f,h=>by
  rw[U8]
  unfold Vg
  have c:¬ ((((arr,f).fst.size < 1/\(arr,f).snd<=a)/\a+sub.length<=hi)/\subAt s sub a=true):=fun q=>by
   have t:arr.size < 1:=q.1.1.1
   omega
  rw[B8 c]
  exact Ww s sub hi l arr f h
theorem Wx (s sub:Str)(hi:Nat):∀(l:List Nat) (f:Nat),(∀ i∈l,f<=i) ->
  (forIn l ((#[]:Array Nat),f) (Vg s sub hi 1)).run.fst.toList=(l.find? fun i=>decide (i+sub.length<=hi)&&subAt s sub i).toList
 | [],_,_=>rfl
 | a::l,f,hf=>by
  rw[U8]
  unfold Vg
  have ha:f<=a:=hf a MV
  by_cases hc:a+sub.length<=hi/\subAt s sub a=true
  ·have c1:((((#[]:Array Nat),f).fst.size < 1/\((#[]:Array Nat),f).snd<=a)/\a+sub.length<=hi)/\subAt s sub a=true:=⟨⟨⟨by simp,ha⟩,hc.1⟩,hc.2⟩
   rw[B9 c1]
   have e:=Ww s sub hi l (#[].push a) (a+sub.length) (by simp)
   have e2:(decide (a+sub.length<=hi)&&subAt s sub a)=true:=by simp[hc.1,hc.2]
   rw[Oo,e2]
   show ((forIn l ((#[]:Array Nat).push a,a+sub.length) (Vg s sub hi 1)).run.fst).toList=_
   rw[e]
   simp
  ·have c2:¬ (((((#[]:Array Nat),f).fst.size < 1/\((#[]:Array Nat),f).snd<=a)/\a+sub.length<=hi)/\subAt s sub a=true):=fun q=>hc ⟨q.1.2,q.2⟩
   rw[B8 c2]
   have e2:(decide (a+sub.length<=hi)&&subAt s sub a)=false:=by
    rw[aq]
    intro q
    simp only[MQ,decide_eq_true_eq] at q
    exact hc q
   rw[Oo,e2]
   exact Wx s sub hi l f fun i hi'=>hf i (MP _ hi')
noncomputable def fits (p l:List Nat)(i:Nat):Bool:=decide (i+p.length<=l.length)&&((l.drop i).take p.length == p)
theorem Rq (l p:List Nat)(i:Nat):subAt (S l) (S p) i=((l.drop i).take p.length == p):=by
 rw[StrLaws.subAt_eq,Me];rfl
theorem occ_S (l p:List Nat)(k:Nat):occurrences (S l) (S p) k (S l).length 1=((Of k (l.length+1 - k)).find? (fits p l)).toList:=by
 rw[StrLaws.occ_eq,Me,Wx _ _ _ _ k (fun i hi=>by have:=ao.mp hi;omega)]
 have e:(fun i=>decide (i+(S p).length<=l.length)&&subAt (S l) (S p) i)=fits p l:=by
  funext i
  rw[Rq,Me];rfl
 rw[e]
noncomputable def Tb (p l:List Nat)(k:Nat):Int:=match (Of k (l.length+1 - k)).find? (fits p l) with
 | some i=>(i:Int)
 | none=>-1
theorem dj (l p:List Nat)(k:Nat):(match occurrences (S l) (S p) k (S l).length 1 with | i::_=>(i:Int) | []=>-1)=Tb p l k:=by
 rw[occ_S]
 unfold Tb
 cases (Of k (l.length+1 - k)).find? (fits p l) <;> rfl
theorem joinS (sep:List Nat):∀ ls:List (List Nat),UH (S sep) (ls.map S)=S (P5 sep ls)
 | []=>rfl
 | [x]=>rfl
 | x::y::r=>by
  have ih:=joinS sep (y::r)
  show S x++S sep++UH (S sep) ((y::r).map S)=_
  rw[ih,Ro,Ro]
  rfl
theorem dq (big:List Nat)(c:Nat):(!(occurrences (S big) (S [c]) 0 (S big).length 1).isEmpty)=decide (c∈big):=by
 have:=jn (S big) c
 exact this
end L2
namespace L2
open PySem PySem.Spec PyProof.Rows
noncomputable def LET:Str:=S [97,98,99,100,101,102,103,104,105,106,107,108,109,110,111,112,113,114,115,116,117,118,119,120,121,122]
theorem let_eq:Mg "abcdefghijklmnopqrstuvwxyz"=LET:=by decide +kernel
theorem du (c:Nat):Qy LET (S [c])=MK c:=by
 show (!(ZG LET ⟨#[c]⟩ 0 LET.length 1).isEmpty)=_
 rw[jn]
 show decide (c∈[97,98,99,100,101,102,103,104,105,106,107,108,109,110,111,112,113,114,115,116,117,118,119,120,121,122])=_
 unfold MK
 rw[decide_eq_decide]
 exact(ah (s:=97) (n:=26)).trans ⟨fun h=>⟨h.1,aw h.2⟩,fun h=>⟨h.1,ax h.2⟩⟩
def FeedAt (H:Hp)(p:Ac)(n:Nat):Prop:=∃ a b c:Int,H p=some (.lst [.int a,.int b,.int c])/\0<=a/\0<=b/\b < 2147483399/\0<=c/\c<=n
theorem FeedAt.off (h:FeedAt H p n) (e:H' p=H p):FeedAt H' p n:=by
 obtain⟨a,b,c,h1,r⟩:=h
 exact⟨a,b,c,e.trans h1,r⟩
theorem FeedAt.mono (h:FeedAt H p n) (e:n<=m):FeedAt H p m:=by
 obtain⟨a,b,c,h1,h2,h3,h4,h5,h6⟩:=h
 exact⟨a,b,c,h1,h2,h3,h4,h5,by omega⟩
theorem FeedAt.new (h:FeedAt H p n) (hq:H q=none):FeedAt (upd H q o) p n:=by
 obtain⟨a,b,c,h1,r⟩:=h
 exact⟨a,b,c,by rw[L4 (Mj h1 hq)];exact h1,r⟩
theorem FeedAt.some (h:FeedAt H p n):∃ o,H p=some o:=by
 obtain⟨a,b,c,h1,r⟩:=h
 exact⟨_,h1⟩
noncomputable def Rr:Nat:=1000000
def Wy (K:L3):Sp:=fun vs H Q _=>∃(a:Ac) (ns:List Int) (k:Int),vs=[.ref a,.int k]/\SqL K H a (ns.map V.int)/\0<=k/\k < 1000 /\
 ∀(p:Ac) (H':Hp),H p=none->FeedAt H' p 0->Off p H H'->Q (.ref p) H'
def Rs:Sp:=fun vs H Q _=>∃(p:Ac) (m:Int) (n:Nat),vs=[.ref p,.int m]/\FeedAt H p n/\n < Rr/\0 < m/\m < 1073741824 /\
 ∀(d:Int) (H':Hp),0<=d->d < m->FeedAt H' p (n+1)->Off p H H'->Q (.int d) H'
def P6 (n:Nat):Sp:=fun vs H Q _=>∃(u v:V) (d:Dt),vs=[u,v]/\Is H u d/\Is H v d/\dep d < n/\wid d<=100000/\∀ H',Same H H'->Q (.bl true) H'
def tData (d:Dt):TE:=fun _ H Q=>∀ v H',Is H' v d->Same H H'->Q v H'
def tDatas (ds:List Dt):TA:=fun _ H Q=>∀ vs H',IsL H' vs ds->Same H H'->Q vs H'
theorem PA.imp (h:PA X es t) (hi:∀ σ H Q,t' σ H Q->t σ H Q):PA X es t':=fun pos B_ s σ H Q I q=>h pos B_ s σ H Q I (hi σ H Q q)
theorem i_data (h:∀ v H',Is H' v d->Same H H'->Q v H'):tData d σ H Q:=h
theorem slice_S (l:List Nat)(lo hi:Option Int):Vd (S l) lo hi=S (cutA l lo hi):=dh l lo hi
theorem find3_S (l p:List Nat)(k:Nat):Txt.find3 (S l) (S p) (k:Int)=Tb p l k:=by
 have e:BU (S l).length (k:Int)=k:=by
  unfold BU
  rw[B8 (by omega)];omega
 show (match ZG (S l) (S p) (BU (S l).length (k:Int)) (S l).length 1 with | k::_=>(k:Int) | []=>-1)=_
 rw[e];exact dj l p k
theorem dv (l p:List Nat)(k:Nat):aM (S l) (S p) (k:Int)=fits p l k:=by
 have e:BU (S l).length (k:Int)=k:=by
  unfold BU
  rw[B8 (by omega)];omega
 unfold aM
 rw[e,Rq,Me,Me];rfl
theorem Wz (sep:List Nat)(ls:List (List Nat)):SG (S sep) (ls.map S)=S (P5 sep ls):=by
 show Builtin.Str.glued (S sep) (ls.map S)=_
 rw[StrLaws.glued_eq_join,joinS]
theorem dw (big:List Nat)(c:Nat):Qy (S big) (S [c])=decide (c∈big):=dq big c
theorem O_ (l:List Nat):chs (S l)=l.map fun c=>V.str (S [c]):=rfl
theorem Rt (h:i < l.length):(chs (S l)).getD i .non=V.str (S [l[i]]):=by
 rw[O_];simp[Mq,h]
theorem WA (l:List α) (i j:Nat) (h:j<=l.length) (hij:i<=j):cutA l (some (i:Int)) (some (j:Int))=(l.drop i).take (j - i):=by
 unfold cutA
 have e1:sx l.length 0 (some (i:Int))=i:=by simp only[sx];rw[B8 (by omega)];omega
 have e2:sx l.length l.length (some (j:Int))=j:=by simp only[sx];rw[B8 (by omega)];omega
 rw[e1,e2]
theorem WB (l:List α) (i:Nat) (h:i<=l.length):cutA l (some (i:Int)) none=l.drop i:=by
 unfold cutA
 have e1:sx l.length 0 (some (i:Int))=i:=by simp only[sx];rw[B8 (by omega)];omega
 rw[e1]
 show (l.drop i).take (l.length - i)=_
 rw[U4 (by simp)]
theorem Ru (xs:List V)(lo hi:Option Int):cutV xs lo hi=cutA xs lo hi:=rfl
theorem dz (l:List α) (lo hi:Option Int):(cutA l lo hi).length=sx l.length l.length hi - sx l.length 0 lo:=by
 have h1:=Rp l.length l.length (L' _) hi
 unfold cutA
 rw[MI,NN]
 omega
noncomputable def LETL:List Nat:=[97,98,99,100,101,102,103,104,105,106,107,108,109,110,111,112,113,114,115,116,117,118,119,120,121,122]
theorem t_let:Mg "abcdefghijklmnopqrstuvwxyz"=S LETL:=let_eq
theorem Ox:Mg ""=S []:=by decide +kernel
theorem P7:Mg "-"=S [45]:=by decide +kernel
theorem Td:Mg "."=S [46]:=by decide +kernel
theorem WC (c:Nat):Qy (S LETL) (S [c])=MK c:=du c
theorem WD (bs:List Bool):inV (.bl false) (bs.map V.bl)=!bs.all id:=by
 induction bs with
 | nil=>rfl
 | cons x bs ih =>
  show (eqV (.bl x) (.bl false) || inV (.bl false) (bs.map V.bl))=_
  rw[ih]
  show ((x == false) || _)=_
  cases x <;> simp
theorem WE (bs:List Bool):(bs.map V.bl).all OE=true:=by
 rw[UF,On];intro _ _;rfl
theorem FeedAt.same (h:FeedAt H p n) (k:∀ b o,H b=Option.some o->H' b=Option.some o):FeedAt H' p n:=by
 obtain⟨a,b,c,h1,r⟩:=h
 exact⟨a,b,c,k _ _ h1,r⟩
theorem Kept.same (a:Kept p H H1) (b:∀ c o,H1 c=some o->H2 c=some o):Kept p H H2:=fun c o hc e=>b c o (a c o hc e)
theorem Kept.off (a:Kept p H H1) (b:Off p H1 H2):Kept p H H2:=fun c o hc e=>(b c hc).trans (a c o hc e)
theorem Rv {K:L3}{H:Hp}{Q:VK}{l:List Nat}{i:Int}{c:Nat}(hz:l.length<=1000000)(h2:atI l i=some c)(h:Q (.str (S [c])) H):fIx K (.str (S l)) (.int i) H Q:=i_ixS (szn (by rw[Me];exact hz)) h2 h
theorem QM (hz:a.length+b.length<=1000000) (h:Q (.str (S (a++b))) H):fAdd (.str (S a)) (.str (S b)) H Q:=S_ (szn (by rw[Me,Me];exact hz)) (by rw[Ro];exact h)
theorem Oy {K:L3}{H:Hp}{Q:VK}{l:List Nat}{lo hi:Option Int}(hz:l.length<=1000000)(h:Q (.str (S (cutA l lo hi))) H):fSl K (.str (S l)) lo hi H Q:=i_slS (szn (by rw[Me];exact hz)) (by rw[slice_S];exact h)
theorem i_lenC {K:L3}{H:Hp}{Q:VK}{l:List Nat}(hz:l.length<=1000000)(h:Q (.int (l.length:Int)) H):fLen K [.str (S l)] H Q:=Wl (szn (by rw[Me];exact hz)) (by rw[Me];exact h)
theorem i_mulZ (h1:H a=some (.lst [x])) (c:0<=k/\k<=1000000) (h:∀ p,H p=none->Q (.ref p) (upd H p (.lst (MD k.toNat x)))):fMul (.ref a) (.int k) H Q:=by
 refine i_mulL h1 ⟨by omega,by omega,by simp;omega⟩ fun p hp=>?_
 have e:(MD k.toNat [x]).flatten=MD k.toNat x:=by
  generalize k.toNat=m
  induction m with
  | zero=>rfl
  | succ m ih=>rw[Uz,UB,ih];rfl
 rw[e];exact h p hp
theorem Rw (g:α->β) (l:List α) (lo hi:Option Int):cutA (l.map g) lo hi=(cutA l lo hi).map g:=by
 unfold cutA
 rw[L8,List.map_take,List.map_drop]
noncomputable def patD (x:List Nat×List Int):Dt:=.tup [.str (S x.1),.tup (x.2.map Dt.int)]
noncomputable def P8 (xs:List (List Nat×List Int)):Dt:=.lst (xs.map patD)
structure GP (x:List Nat×List Int):Prop where
 ne:1<=x.1.length
 le:x.1.length<=22
 len:x.2.length=x.1.length+1
 num:∀ v∈x.2,0<=v/\v<=9
 cs:∀ c∈x.1,c < 128
theorem Te {H:Hp}:∀{g:List Int}{xs:List V},L2.IsL H xs (g.map Dt.int)->xs=g.map V.int
 | [],[],_=>rfl
 | [],_::_,h=>by simp only[Oe,L2.IsL] at h
 | _::_,[],h=>by simp only[Mu,L2.IsL] at h
 | k::g,x::xs,h=>by
  simp only[Mu,L2.IsL,Is] at h
  rw[h.1,Te h.2];rfl
theorem P9 (h:Is H v (patD x)):∃ a t,v=.ref a/\H a=some (.tup [.str (S x.1),.ref t])/\H t=some (.tup (x.2.map V.int)):=by
 simp only[Is,patD] at h
 obtain⟨a,xs,rfl,ha,Dr⟩:=h
 match xs,Dr with
 | [],h=>simp only[L2.IsL] at h
 | [_],h=>simp only[L2.IsL] at h;exact h.2.elim
 | _::_::_::_,h=>simp only[L2.IsL] at h;exact h.2.2.elim
 | [y,z],h =>
  simp only[L2.IsL,Is] at h
  obtain⟨rfl,⟨t,ys,rfl,ht,DF⟩,_⟩:=h
  have:=Te DF
  subst this
  exact⟨a,t,rfl,ha,ht⟩
theorem Tf (h1:H a=some (.tup [.str (S x.1),.ref t])) (h2:H t=some (.tup (x.2.map V.int))):Is H (.ref a) (patD x):=by
 simp only[Is,patD,L2.IsL]
 exact⟨a,_,rfl,h1,rfl,⟨t,_,rfl,h2,IsL.ints _ _⟩,trivial⟩
theorem isPats (h:Is H v (P8 xs)):∃ a ys,v=.ref a/\H a=some (.lst ys)/\L2.IsL H ys (xs.map patD):=by
 simp only[Is,P8] at h
 exact h
theorem IsL.append {H:Hp}:∀{ds es:List Dt}{xs ys:List V},L2.IsL H xs ds->L2.IsL H ys es->L2.IsL H (xs++ys) (ds++es)
 | [],_,[],_,_,h=>h
 | d::ds,es,x::xs,ys,h,k=>by
  simp only[L2.IsL] at h
  simp only[UC,L2.IsL]
  exact⟨h.1,IsL.append h.2 k⟩
 | [],_,_::_,_,h,_=>by simp only[L2.IsL] at h
 | _::_,_,[],_,h,_=>by simp only[L2.IsL] at h
noncomputable def Ni (l:List Nat):Bool:=decide (0 < l.length)&&l.all MK
end L2
namespace L2
noncomputable abbrev Pat:=List Nat×List Int
noncomputable def mx (a b:Int):Int:=if b > a then b else a
noncomputable def put (t:List Int)(p:Nat)(v:Int):List Int:=t.set p (mx (t.getD p 0) v)
theorem WF (t:List Int)(p:Nat)(v:Int):(put t p v).length=t.length:=by unfold put;simp
theorem dA (t:List Int)(p q:Nat)(v:Int)(hq:q < t.length):(put t p v).getD q 0=if p=q then mx (t.getD q 0) v else t.getD q 0:=by
 unfold put
 simp only[Mq,List.getElem?_set]
 by_cases h:p=q
 ·subst h;simp[hq]
 ·simp[h]
noncomputable def laid (t:List Int)(b:Nat):List Int->List Int
 | []=>t
 | v::r=>laid (put t b v) (b+1) r
theorem WG (b:Nat)(v:Int):∀(r:List Int) (t:List Int) (c:Nat),laid t c (r++[v])=put (laid t c r) (c+r.length) v
 | [],t,c=>by simp[laid]
 | x::r,t,c=>by
  simp only[UC,laid,Mv]
  rw[WG b v r]
  congr 1;omega
theorem ZR:∀(ns:List Int) (t:List Int) (b:Nat),(laid t b ns).length=t.length
 | [],_,_=>rfl
 | v::r,t,b=>by simp only[laid];rw[ZR r,WF]
noncomputable def P_ (m:Int)(p b:Nat):List Int->Int
 | []=>m
 | v::r=>P_ (if b=p then mx m v else m) p (b+1) r
theorem WH:∀(ns:List Int) (t:List Int) (b q:Nat),q < t.length->(laid t b ns).getD q 0=P_ (t.getD q 0) q b ns
 | [],_,_,_,_=>rfl
 | v::r,t,b,q,h=>by
  simp only[laid,P_]
  rw[WH r _ _ q (by rw[WF];exact h),dA t b q v h]
noncomputable def Nk (p f:List Nat):List Nat:=(Nj f.length).filter (fits p f)
noncomputable def NK (f:List Nat)(t:List Int)(x:Pat):List Int:=(Nk x.1 f).foldl (fun t b=>laid t b x.2) t
noncomputable def Pa (f:List Nat)(t:List Int)(xs:List Pat):List Int:=xs.foldl (NK f) t
noncomputable def numP (f:List Nat)(p:Nat)(m:Int)(x:Pat):Int:=(Nk x.1 f).foldl (fun m b=>P_ m p b x.2) m
noncomputable def numA (f:List Nat)(p:Nat)(m:Int)(xs:List Pat):Int:=xs.foldl (numP f p) m
theorem WI (ns:List Int):∀(bs:List Nat) (t:List Int),(bs.foldl (fun t b=>laid t b ns) t).length=t.length/\∀ q,q < t.length->(bs.foldl (fun t b=>laid t b ns) t).getD q 0=bs.foldl (fun m b=>P_ m q b ns) (t.getD q 0)
 | [],t=>⟨rfl,fun _ _=>rfl⟩
 | b::bs,t=>by
  obtain⟨h1,h2⟩:=WI ns bs (laid t b ns)
  rw[ZR] at h1 h2
  refine⟨by simpa using h1,fun q hq=>?_⟩
  simp only[al]
  rw[h2 q hq,WH ns t b q hq]
theorem WJ (f:List Nat):∀(xs:List Pat) (t:List Int),(Pa f t xs).length=t.length/\∀ q,q < t.length->(Pa f t xs).getD q 0=numA f q (t.getD q 0) xs
 | [],t=>⟨rfl,fun _ _=>rfl⟩
 | x::xs,t=>by
  obtain⟨h1,h2⟩:=WI x.2 (Nk x.1 f) t
  obtain⟨h3,h4⟩:=WJ f xs (NK f t x)
  have e:(NK f t x).length=t.length:=h1
  rw[e] at h3 h4
  refine⟨h3,fun q hq=>?_⟩
  show (Pa f (NK f t x) xs).getD q 0=_
  rw[h4 q hq]
  show numA f q ((NK f t x).getD q 0) xs=numA f q (numP f q (t.getD q 0) x) xs
  rw[show (NK f t x).getD q 0=numP f q (t.getD q 0) x from h2 q hq]
noncomputable def frame (w:List Nat):List Nat:=46::(w++[46])
theorem dB (w:List Nat):(frame w).length=w.length+2:=by simp[frame]
noncomputable def vals (xs:List Pat)(w:List Nat):List Int:=(Nj (w.length - 1)).map fun j=>numA (frame w) (j+2) 0 xs
theorem ZS (xs:List Pat)(w:List Nat):(vals xs w).length=w.length - 1:=by simp[vals]
theorem dC (xs:List Pat)(w:List Nat)(j:Nat)(h:j < w.length - 1):(vals xs w)[j]?=some (numA (frame w) (j+2) 0 xs):=by
 simp[vals,h]
theorem dD (n q:Nat):(MD n (0:Int)).getD q 0=0:=by
 simp only[Mq,iY];split <;> rfl
theorem dE {a b:List Int}(h:a.length=b.length)(k:∀ q,q < a.length->a.getD q 0=b.getD q 0):a=b:=by
 apply List.ext_getElem h
 intro i h1 h2
 have:=k i h1
 simpa [Mq,h1,h2] using this
theorem dF (xs:List Pat)(w:List Nat)(h:1<=w.length):cutA (Pa (frame w) (MD ((frame w).length+1) 0) xs) (some 2) (some (-2))=vals xs w:=by
 obtain⟨h1,h2⟩:=WJ (frame w) xs (MD ((frame w).length+1) 0)
 rw[Z9] at h1 h2
 unfold cutA
 rw[h1]
 rw[dB] at h1 h2 ⊢
 have e1:sx (w.length+2+1) 0 (some 2)=2:=by simp only[sx];rw[B8 (by decide)];show min 2 (w.length+2+1)=2;omega
 have e2:sx (w.length+2+1) (w.length+2+1) (some (-2))=w.length+1:=by simp only[sx];rw[B9 (by decide)];omega
 rw[e1,e2]
 apply dE
 ·rw[ZS,MI,NN,h1];omega
 ·intro q hq
  rw[MI,NN,h1] at hq
  have hq':q < w.length - 1:=by omega
  have:=h2 (2+q) (by omega)
  rw[dD] at this
  have e3:(vals xs w).getD q 0=numA (frame w) (q+2) 0 xs:=by rw[Mq,dC xs w q hq'];rfl
  rw[e3,Nat.add_comm q 2,<- this]
  simp only[Mq,ae,List.getElem?_drop]
  rw[B9 (by omega)]
end L2
namespace L2
open PySem PySem.Spec PyProof.Rows
def Tg:V->List V->Hp->VK->Prop:=fun x vs H Q=>match x,vs with
 | .ref l,[.ref b]=>(match H l,H b with | some (.lst xs),some (.lst zs)=>xs.length+zs.length<=Ae/\Q .non (upd H l (.lst (xs++zs))) | _,_=>False)
 | _,_=>False
theorem dG :MtR X "list.extend" Tg:=fun B_ s σ H x xs v us Q I rx rs h=>by
 unfold Tg at h
 split at h
 ·split at h
  ·rename_i e e2
   exact ck B_ s σ H _ _ v us Q I rx rs ⟨_,_,_,_,rfl,rfl,e,e2,h.1,h.2⟩
  ·exact h.elim
 ·exact h.elim
theorem i_extL (h1:H l=some (.lst xs)) (h2:H b=some (.lst zs)) (c:xs.length+zs.length<=Ae) (h:Q .non (upd H l (.lst (xs++zs)))):Tg (.ref l) [.ref b] H Q:=by
 show (match H l,H b with | some (.lst xs),some (.lst zs)=>xs.length+zs.length<=Ae/\Q .non (upd H l (.lst (xs++zs))) | _,_=>False)
 rw[h1,h2];exact⟨c,h⟩
mutual
noncomputable def Rx:Dt->Bool
 | .lst _=>false
 | .tup ds=>NL ds
 | _=>true
noncomputable def NL:List Dt->Bool
 | []=>true
 | d::ds=>Rx d&&NL ds
end
def Tk (H H':Hp):Prop:=∀ b xs,H b=some (.tup xs)->H' b=some (.tup xs)
theorem Tk.trans (a:Tk H H1) (b:Tk H1 H2):Tk H H2:=fun c o h=>b c o (a c o h)
theorem Same.tk (h:Same H H'):Tk H H':=fun b xs e=>h b _ e
theorem Tk.new (h:H p=none) (o:HO):Tk H (upd H p o):=(L_ h o).tk
theorem Tk.lst (h:H p=some (.lst zs)) (o:HO):Tk H (upd H p o):=fun b xs e=>by
 rw[L4 (NY e h (by intro z;cases z))];exact e
mutual
theorem Is.tk {H H':Hp}(h:Tk H H'):∀{d:Dt}{v:V},Rx d=true->Is H v d->Is H' v d
 | .non,_,_,k=>by simp only[Is] at k ⊢;exact k
 | .bl _,_,_,k=>by simp only[Is] at k ⊢;exact k
 | .int _,_,_,k=>by simp only[Is] at k ⊢;exact k
 | .str _,_,_,k=>by simp only[Is] at k ⊢;exact k
 | .tup ds,_,t,k=>by
  simp only[Rx] at t
  simp only[Is] at k ⊢
  obtain⟨a,xs,e,h1,h2⟩:=k
  exact⟨a,xs,e,h _ _ h1,IsL.tk h t h2⟩
 | .lst ds,_,t,_=>by simp only[Rx] at t;cases t
theorem IsL.tk {H H':Hp}(h:Tk H H'):∀{ds:List Dt}{xs:List V},NL ds=true->IsL H xs ds->IsL H' xs ds
 | [],[],_,_=>by simp only[IsL]
 | [],_::_,_,k=>by simp only[IsL] at k
 | _::_,[],_,k=>by simp only[IsL] at k
 | d::ds,x::xs,t,k=>by
  simp only[NL,MQ] at t
  simp only[IsL] at k ⊢
  exact⟨Is.tk h t.1 k.1,IsL.tk h t.2 k.2⟩
end
theorem Th:∀{ds:List Dt},(∀ d∈ds,Rx d=true)->NL ds=true
 | [],_=>rfl
 | d::ds,h=>by simp only[NL,MQ];exact⟨h d MV,Th fun e he=>h e (MP _ he)⟩
theorem dH (ns:List Int):NL (ns.map Dt.int)=true:=Th fun d hd=>by
 obtain⟨n,_,rfl⟩:=Nw.mp hd;rfl
theorem IsL.snoc (h:IsL H xs ds) (k:Is H x d):IsL H (xs++[x]) (ds++[d]) :=
 IsL.append h (by simp only[IsL];exact⟨k,trivial⟩)
noncomputable abbrev Fit:=Nat×List Int
noncomputable def fitD (x:Fit):Dt:=.tup [.int (x.1:Int),.tup (x.2.map Dt.int)]
noncomputable def Ry (xs:List Fit):Dt:=.lst (xs.map fitD)
theorem dI (xs:List Fit):NL (xs.map fitD)=true:=Th fun d hd=>by
 obtain⟨n,_,rfl⟩:=Nw.mp hd;simp only[fitD,Rx,NL,dH,Bool.and_true]
theorem isFit (h:Is H v (fitD x)):∃ a t,v=.ref a/\H a=some (.tup [.int (x.1:Int),.ref t])/\H t=some (.tup (x.2.map V.int)):=by
 simp only[Is,fitD] at h
 obtain⟨a,xs,rfl,ha,Dr⟩:=h
 match xs,Dr with
 | [],h=>simp only[L2.IsL] at h
 | [_],h=>simp only[L2.IsL] at h;exact h.2.elim
 | _::_::_::_,h=>simp only[L2.IsL] at h;exact h.2.2.elim
 | [y,z],h =>
  simp only[L2.IsL,Is] at h
  obtain⟨rfl,⟨t,ys,rfl,ht,DF⟩,_⟩:=h
  have:=Te DF
  subst this
  exact⟨a,t,rfl,ha,ht⟩
theorem dJ (h1:H a=some (.tup [.int (x.1:Int),.ref t])) (h2:H t=some (.tup (x.2.map V.int))):Is H (.ref a) (fitD x):=by
 simp only[Is,fitD,L2.IsL]
 exact⟨a,_,rfl,h1,rfl,⟨t,_,rfl,h2,IsL.ints _ _⟩,trivial⟩
theorem isFits (h:Is H v (Ry xs)):∃ a ys,v=.ref a/\H a=some (.lst ys)/\L2.IsL H ys (xs.map fitD):=by
 simp only[Is,Ry] at h
 exact h
noncomputable def layF (t:List Int)(xs:List Fit):List Int:=xs.foldl (fun t x=>laid t x.1 x.2) t
theorem WK:∀(xs:List Fit) (t:List Int),(layF t xs).length=t.length
 | [],_=>rfl
 | x::xs,t=>by show (layF (laid t x.1 x.2) xs).length=_;rw[WK xs,ZR]
theorem WL (t:List Int)(xs ys:List Fit):layF t (xs++ys)=layF (layF t xs) ys:=List.foldl_append
theorem dL {xs:List Fit}{i:Nat}(h:i < xs.length)(t:List Int):layF t (xs.take (i+1))=laid (layF t (xs.take i)) xs[i].1 xs[i].2:=by
 rw[Od,Mm h,WL];rfl
noncomputable def N7 (f:List Nat)(x:Pat):List Fit:=(Nk x.1 f).map fun b=>(b,x.2)
noncomputable def Pz (f:List Nat)(xs:List Pat):List Fit:=xs.flatMap (N7 f)
theorem dM {f:List Nat}{xs:List Pat}{i:Nat}(h:i < xs.length):Pz f (xs.take (i+1))=Pz f (xs.take i)++N7 f xs[i]:=by
 unfold Pz;rw[Od,Mm h,Zl];simp
theorem dN (f:List Nat)(x:Pat)(t:List Int):layF t (N7 f x)=NK f t x:=by
 unfold layF N7 NK;rw[List.foldl_map]
theorem WM (f:List Nat):∀(xs:List Pat) (t:List Int),layF t (Pz f xs)=Pa f t xs
 | [],_=>rfl
 | x::xs,t=>by
  show layF t (N7 f x++Pz f xs)=Pa f (NK f t x) xs
  rw[WL,dN,WM f xs]
theorem WN (p f:List Nat):(Nk p f).length<=f.length:=by
 unfold Nk;exact MR (Uy _ _) (by simp)
theorem WO (f:List Nat):∀(xs:List Pat),(Pz f xs).length<=xs.length * f.length
 | []=>by simp[Pz]
 | x::xs=>by
  show (N7 f x++Pz f xs).length<=_
  have h1:=WO f xs
  have h2:=WN x.1 f
  have h3:(N7 f x).length=(Nk x.1 f).length:=by simp[N7]
  rw[Mn,Mv,Nat.add_mul];omega
theorem dP (h:y∈Pz f xs):∃ x∈xs,y.1∈Nk x.1 f/\y.2=x.2:=by
 obtain⟨x,hx,hy⟩:=Zm.mp h
 obtain⟨b,hb,rfl⟩:=Nw.mp hy
 exact⟨x,hx,hb,rfl⟩
section
variable {κ:Type} [DecidableEq κ]
noncomputable def valV (B':List (κ×V))(k:κ):Option V:=(B'.find? fun kv=>decide (kv.1=k)).map (·.2)
noncomputable def putK (B':List (κ×V))(k:κ)(v:V):List (κ×V) :=
 if (B'.any fun kv=>decide (kv.1=k))=true then B'.map (fun kv=>if kv.1=k then (kv.1,v) else kv) else B'++[(k,v)]
theorem UR {p:κ×V}{r:List (κ×V)}{k:κ}(e:p.1=k):valV (p::r) k=some p.2:=by simp[valV,Oo,e]
theorem Ti {p:κ×V}{r:List (κ×V)}{k:κ}(e:¬ p.1=k):valV (p::r) k=valV r k:=by simp[valV,Oo,e]
theorem WP (k:κ):∀ B':List (κ×V),(B'.any fun kv=>decide (kv.1=k))=(valV B' k).isSome
 | []=>rfl
 | p::r=>by
  rw[OL]
  by_cases e:p.1=k
  ·simp only[UR e,B7 e,Zr,jg]
  ·rw[Ti e,B6 e,QX];exact WP k r
theorem dQ (B':List (κ×V))(k:κ)(v:V):(putK B' k v).length<=B'.length+1:=by
 unfold putK
 split
 ·rw[L8];omega
 ·rw[Mn,Mv,Qu];omega
theorem RelO.isSome_eq (r:RelO o u):o.isSome=u.isSome:=by
 cases o with
 | none=>cases u with
  | none=>rfl
  | some _=>exact(show False from r).elim
 | some _=>cases u with
  | none=>exact(show False from r).elim
  | some _=>rfl
theorem KV.val (r:KV B' vs) (k:κ):RelO (valV B' k) (BE vs k):=by
 unfold KV at r
 induction r with
 | nil=>exact True.intro
 | @cons p q ps qs h t ih =>
  obtain⟨h1,h2⟩:=h
  by_cases e:p.1=k
  ·have e':q.1=k:=h1.symm.trans e
   have b:BE (q::qs) k=some q.2:=by simp[BE,Oo,e']
   rw[UR e,b];exact h2
  ·have e':¬ q.1=k:=fun z=>e (h1.trans z)
   have b:BE (q::qs) k=BE qs k:=by simp[BE,Oo,e']
   rw[Ti e,b];exact ih
theorem KV.any (r:KV B' vs) (k:κ):(B'.any fun kv=>decide (kv.1=k))=vs.any fun kv=>decide (kv.1=k):=by
 unfold KV at r
 induction r with
 | nil=>rfl
 | cons h t ih=>rw[OL,OL,ih,h.1]
theorem KV.repl (r:KV B' vs) (k:κ) (ry:RelV y u):
  KV (B'.map fun kv=>if kv.1=k then (kv.1,y) else kv) (vs.map fun kv=>if kv.1=k then (kv.1,u) else kv):=by
 unfold KV at r ⊢
 induction r with
 | nil=>exact .nil
 | @cons p q ps qs h t ih =>
  rw[Mu,Mu]
  refine .cons ?_ ih
  obtain⟨h1,h2⟩:=h
  by_cases e:p.1=k
  ·rw[B9 e,B9 (h1.symm.trans e)];exact⟨h1,ry⟩
  ·rw[B8 e,B8 (fun z=>e (h1.trans z))];exact⟨h1,h2⟩
theorem KV.put (r:KV B' vs) (k:κ) (ry:RelV y u):KV (putK B' k y) (stored vs k u):=by
 unfold putK stored
 rw[r.any k]
 by_cases e:(vs.any fun kv=>decide (kv.1=k))=true
 ·rw[B9 e,B9 e];exact r.repl k ry
 ·rw[B8 e,B8 e];exact Paired.snoc r ⟨rfl,ry⟩
theorem KV.length (r:KV B' vs):B'.length=vs.length:=ZM r
end
theorem N8 (r:RelV (kV k) u):(M7 P w).is k u=true:=by
 cases k with
 | inl i=>obtain⟨t,e⟩:=(show ∃ t,u=Value.int i t from r);subst e;exact a_ P w i t
 | inr x=>obtain⟨t,e⟩:=(show ∃ t,u=Value.str x t from r);subst e;exact bc P w x t
theorem WQ {P:Ak}{w:Am}:∀{ks:List Key}{us:List Ad},Vals (ks.map kV) us->ItemsAre (M7 P w) ks us
 | [],_,r=>by rw[Oe] at r;cases r;exact .nil
 | k::ks,_,r=>by
  rw[Mu] at r
  cases r with
  | cons h t=>exact .cons (N8 h) (WQ t)
abbrev KT (H:Hp):List (List Key×V)->List (List Key×Ac×Ad)->Prop:=Paired fun p q=>p.1=q.1/\H q.2.1=some (.tup (p.1.map kV))/\RelV p.2 q.2.2
theorem KT.val (r:KT H B' xs) (k:List Key):RelO (valV B' k) ((atKey xs k).map (·.2)):=by
 induction r with
 | nil=>exact True.intro
 | @cons p q ps qs h t ih =>
  obtain⟨h1,_,h2⟩:=h
  by_cases e:p.1=k
  ·have e':q.1=k:=h1.symm.trans e
   have b:atKey (q::qs) k=some q.2:=by simp[atKey,Oo,e']
   rw[UR e,b];exact h2
  ·have e':¬ q.1=k:=fun z=>e (h1.trans z)
   have b:atKey (q::qs) k=atKey qs k:=by simp[atKey,Oo,e']
   rw[Ti e,b];exact ih
theorem KT.repl (r:KT H B' xs) (k:List Key) (ry:RelV y u):
  KT H (B'.map fun kv=>if kv.1=k then (kv.1,y) else kv) (xs.map (putAt k u)):=by
 induction r with
 | nil=>exact .nil
 | @cons p q ps qs h t ih =>
  rw[Mu,Mu]
  refine .cons ?_ ih
  obtain⟨h1,h2,h3⟩:=h
  unfold putAt
  by_cases e:p.1=k
  ·rw[B9 e,B9 (h1.symm.trans e)];exact⟨h1,h2,ry⟩
  ·rw[B8 e,B8 (fun z=>e (h1.trans z))];exact⟨h1,h2,h3⟩
theorem KT.put (r:KT H B' xs) (k:List Key) (hb:H b=some (.tup (k.map kV))) (ry:RelV y u):
  KT H (putK B' k y) (storedH xs k b u):=by
 have e:(B'.any fun kv=>decide (kv.1=k))=(atKey xs k).isSome:=by
  rw[WP,(r.val k).isSome_eq,ZC]
 unfold putK storedH
 rw[e]
 by_cases q:(atKey xs k).isSome=true
 ·rw[B9 q,B9 q];exact r.repl k ry
 ·rw[B8 q,B8 q];exact Paired.snoc r ⟨rfl,hb,ry⟩
theorem KT.keeps (r:KT H B' xs) (ht:∀ b ys,H b=some (.tup ys)->H' b=some (.tup ys)):KT H' B' xs :=
 Paired.mapP r fun _ _ z=>⟨z.1,ht _ _ z.2.1,z.2.2⟩
section
variable {P:Ak}{w:Am}{H:Hp}{h:Ap}{a:Ac}
theorem rd_of (ok:HOk P w H h) (e:Rd H a u):ObjOk P w H h a u:=e.ok ok
theorem Pb (ok:HOk P w H h) (e:Rd H a (.dK B')):B'.length<=Ae/\(a == AH)=false/\∃ vs,KV B' vs/\h.DictOf (M7 P w) a vs :=
 show ObjOk P w H h a (.dK B') from rd_of ok e
theorem Rz (ok:HOk P w H h) (e:H a=some (.dK B')):B'.length<=Ae/\(a == AH)=false/\∃ vs,KV B' vs/\h.DictOf (M7 P w) a vs:=Pb ok (.inl e)
theorem P' (ok:HOk P w H h) (e:H a=some (.tup (ks.map kV))):(BP (M7 P w)).is h ks a:=by
 obtain⟨_,its,r,⟨o,h1,h2,n,h3⟩,_⟩:=(show ObjOk P w H h a (.tup (ks.map kV)) from ok a _ e)
 exact⟨o,its.toArray,n,h1,h2,h3,by simpa using WQ r⟩
theorem Qa (ok:HOk P w H h) (e:Rd H a (.dT B')):B'.length<=Ae/\(a == AH)=false /\
  ∃ xs,KT H B' xs/\h.DictOfH (BP (M7 P w)) a xs:=by
 obtain⟨z,y,xs,r,o,es,ep,h1,h2,h3,h4,h5⟩:=(show ObjOk P w H h a (.dT B') from rd_of ok e)
 refine⟨z,y,xs,r,o,es,ep,h1,h2,h3,h4,fun x hx=>?_,h5⟩
 have all:∀{l:List (List Key×V)}{m:List (List Key×Ac×Ad)},KT H l m->∀ x∈m,(BP (M7 P w)).is h x.1 x.2.1:=by
  intro l m q
  induction q with
  | nil=>intro x hx;exact nomatch hx
  | @cons p q ps qs hq t ih =>
   intro x hx
   rcases Mo.mp hx with e | hx
   ·subst e
    exact P' ok (by rw[<- hq.1];exact hq.2.1)
   ·exact ih x hx
 exact all r x hx
theorem dt_of (ok:HOk P w H h) (e:H a=some (.dT B')):B'.length<=Ae/\(a == AH)=false /\
  ∃ xs,KT H B' xs/\h.DictOfH (BP (M7 P w)) a xs:=Qa ok (.inl e)
end
noncomputable def DGet (H:Hp)(a:Ac)(y:V)(r:Option V):Prop :=
 (∃ B' k,Rd H a (.dK B')/\y=kV k/\r=valV B' k)∨∃ B' k b,Rd H a (.dT B')/\y=.ref b/\H b=some (.tup (k.map kV))/\r=valV B' k
noncomputable def DPut (H:Hp)(a:Ac)(y v:V)(H':Hp):Prop :=
 (∃ B' k,H a=some (.dK B')/\y=kV k/\B'.length < Ae/\H'=upd H a (.dK (putK B' k v))) ∨
 ∃ B' k b,H a=some (.dT B')/\y=.ref b/\H b=some (.tup (k.map kV))/\B'.length < Ae/\H'=upd H a (.dT (putK B' k v))
theorem DGet.k {H:Hp}{a:Ac}{B':List (Key×V)}{k:Key}(e:H a=some (.dK B')):DGet H a (kV k) (valV B' k):=.inl ⟨B',k,.inl e,rfl,rfl⟩
theorem DPut.k {H:Hp}{a:Ac}{B':List (Key×V)}{k:Key}{v:V}(e:H a=some (.dK B'))(hl:B'.length < Ae):DPut H a (kV k) v (upd H a (.dK (putK B' k v))):=.inl ⟨B',k,e,rfl,hl,rfl⟩
section
variable {X:Cx}{B_:List (Ac×Obj)}{σ:St}{H:Hp}{s:Af}{a:Ac}{y v:V}{u r:Ad}{o:Option V}{A:Ao}{E:Ad->Af->Prop}
theorem Inv.big (I:Inv X B_ σ H s):AH < s.heap.objs.size:=by
 have h:Ai < s.heap.objs.size:=(I.mod.glob.keeps I.bk).lt
 exact az (by decide) h
theorem dR (hu:A.units+1 < BF) (I:Inv X B_ σ H s) (g:DGet H a y (some v)) (ry:RelV y u) (h:∀ w' s',Inv X B_ σ H s'->RelV v w'->Q w' s'):
  wpAny (Aj X.prog X.w) A (Bw (.ref a) u) Q E s:=by
 rcases g with ⟨B',k,e,ey,l⟩ | ⟨B',k,b,e,ey,eb,l⟩
 ·subst ey
  obtain⟨z,hd,vs,rel,dd⟩:=Pb I.hok e
  obtain⟨w',hw,rw'⟩:=RelO.some_of (v:=v) (o:=BE vs k) (by rw[l];exact rel.val k)
  exact wpAny_getItem_of (N8 ry) dd.mapOf hw (h w' _ (I.tok _) rw')
 ·subst ey
  cases (show u=Value.ref b from ry)
  obtain⟨z,hd,xs,rel,dd⟩:=Qa I.hok e
  obtain⟨w',hw,rw'⟩:=RelO.some_of (v:=v) (o:=(atKey xs k).map (·.2)) (by rw[l];exact rel.val k)
  obtain⟨p,hp,ES⟩:=jf.mp hw
  refine wpAny_getItem_heap (A6 hu) (P' I.hok eb) dd hp ?_
  rw[ES]
  exact h w' _ (I.tok _) rw'
theorem d_in (hu:A.units+1 < BF) (I:Inv X B_ σ H s) (g:DGet H a y o) (ry:RelV y u) (h:∀ s',Inv X B_ σ H s'->Q (.bool o.isSome) s'):
  wpAny (Aj X.prog X.w) A (Ar .In u (.ref a)) Q E s:=by
 rcases g with ⟨B',k,e,ey,l⟩ | ⟨B',k,b,e,ey,eb,l⟩
 ·subst ey
  obtain⟨z,hd,vs,rel,dd⟩:=Pb I.hok e
  refine wpAny_in_of (N8 ry) hd dd.mapOf ?_
  rw[<- (rel.val k).isSome_eq,<- l]
  exact h _ (I.tok _)
 ·subst ey
  cases (show u=Value.ref b from ry)
  obtain⟨z,hd,xs,rel,dd⟩:=Qa I.hok e
  refine wpAny_in_heap (A6 hu) (P' I.hok eb) hd dd ?_
  have q:=(rel.val k).isSome_eq
  rw[ZC] at q
  rw[<- q,<- l]
  exact h _ (I.tok _)
theorem dS (hu:A.units+1 < BF) (I:Inv X B_ σ H s) (g:DGet H a y o) (ry:RelV y u) (h:∀ s',Inv X B_ σ H s'->Q (.bool (!o.isSome)) s'):
  wpAny (Aj X.prog X.w) A (Ar .NotIn u (.ref a)) Q E s:=by
 rcases g with ⟨B',k,e,ey,l⟩ | ⟨B',k,b,e,ey,eb,l⟩
 ·subst ey
  obtain⟨z,hd,vs,rel,dd⟩:=Pb I.hok e
  refine wpAny_notIn_of (N8 ry) hd dd.mapOf ?_
  rw[<- (rel.val k).isSome_eq,<- l]
  exact h _ (I.tok _)
 ·subst ey
  cases (show u=Value.ref b from ry)
  obtain⟨z,hd,xs,rel,dd⟩:=Qa I.hok e
  refine wpAny_notIn_heap (A6 hu) (P' I.hok eb) hd dd ?_
  have q:=(rel.val k).isSome_eq
  rw[ZC] at q
  rw[<- q,<- l]
  exact h _ (I.tok _)
theorem Tj (I:Inv X B_ σ H s) (mu:Mut (H a)) (hs:QU a s.heap h') (he:∃ q,h'.get? a=some q) (new:ObjOk X.prog X.w (upd H a ob) h' a ob):
  Inv X B_ σ (upd H a ob) { s with heap:=h',toks:=t' } :=
 I.write (x:=a) (e:=a) mu (.inl rfl) (fun b q hb z=>(hs.2 b hb).trans z) he new
theorem WR (z:B'.length<=Ae) (hd:(a == AH)=false) (rel:KV B' vs) (dd:h'.DictOf (M7 P w) a vs):
  ObjOk P w H' h' a (.dK B'):=⟨z,hd,vs,rel,dd⟩
theorem dU (hu:A.units+1 < BF) (I:Inv X B_ σ H s) (g:DPut H a y v H') (ry:RelV y u) (rv:RelV v r) (h:∀ s',Inv X B_ σ H' s'->Q () s'):
  wpAny (Aj X.prog X.w) A (setItem (.ref a) u r) Q E s:=by
 rcases g with ⟨B',k,e,ey,l,eH⟩ | ⟨B',k,b,e,ey,eb,l,eH⟩
 ·subst ey eH
  obtain⟨z,hd,vs,rel,dd⟩:=Rz I.hok e
  have hz:vs.length<=Ae:=by rw[<- rel.length];exact z
  have hl:(putK B' k v).length<=Ae:=by have:=dQ B' k v;omega
  refine wpAny_setItem_pairs (hsz:=hz) (N8 ry) dd fun h' dd' hs=>h _ ?_
  have he:∃ q,h'.get? a=some q:=let ⟨q,_,_,hq,_⟩:=dd';⟨q,hq⟩
  exact Tj I (by rw[e];exact True.intro) hs he (WR hl hd (rel.put k rv) dd')
 ·subst ey eH
  cases (show u=Value.ref b from ry)
  obtain⟨z,hd,xs,rel,dd⟩:=dt_of I.hok e
  have hz:xs.length<=Ae:=by rw[<- ZM rel];exact z
  have hl:(putK B' k v).length<=Ae:=by have:=dQ B' k v;omega
  refine wpAny_setItem_heap (hsz:=hz) (A6 hu) (P' I.hok eb) dd fun h' dd' hs=>h _ ?_
  obtain⟨q,es,ep,hq,h2,h3,h4,_,h5⟩:=dd'
  refine Tj I (by rw[e];exact True.intro) hs ⟨q,hq⟩ ⟨hl,hd,_,(rel.put k eb rv).keeps fun c ys ec=>?_,q,es,ep,hq,h2,h3,h4,h5⟩
  rw[L4 (NY ec e (fun z=>nomatch z))]
  exact ec
end
section
variable {X:Cx}{B_:List (Ac×Obj)}{σ:St}{H:Hp}{s:Af}{a:Ac}{B':List (Key×V)}{k:Key}{u:Ad}{A:Ao}{E:Ad->Af->Prop}
end
def NoSl (i:Ax):Prop:=∀ ov iv,BL i false ov iv=operate [ov,iv] (Bw ov iv)
theorem WS {prog:Ak}{w:Am}{A:Ao}{E:Ad->Af->Prop}{s:Af}{env:Env}{value slice:Ax}{pos:Pos}{T id:String}{Q:Ad->Af->Prop}
  (hl:AY (.type T) "__getitem__"=pure (some (.builtin id))) (hs:NoSl slice)
  (h:wpAny (Aj prog w) A (As value env) (fun o s₁=>wpAny (Aj prog w) A (As slice env) (fun i s₂=>s₂.TypeIs o T/\wpAny (Aj prog w) A (Bw o i) Q E s₂) E s₁) E s) :
  wpAny (Aj prog w) A (As (.Subscript value slice pos) env) Q E s:=by
 refine Subscript_ (An h (fun o s₁ h₁=>An h₁ (fun i s₂ h₂=>?_) fun _ _ x=>x) fun _ _ x=>x)
 obtain⟨hT,h₂⟩:=h₂
 unfold BW
 refine Aa ?_
 rw[getitemInPython_of_ne hT.not_modules]
 refine Aa (wpAny_specialOf hT hl ?_)
 have fin:wpAny (Aj prog w) A (BL slice false o i) (fun r s₃=>wpAny (Aj prog w) A (letTemporaryGo value o r >>= fun _=>pure r) Q E s₃) E s₂:=by
  rw[hs o i]
  exact wpAny_operating (An h₂ (fun r s₃ h₃=>Aa (wpAny_letTemporaryGo (Ag h₃))) fun _ _ x=>x)
 first
  | exact Ag (Aa fin)
  | exact Aa (Ag (Aa fin))
  | exact Aa fin
theorem dW (I:Inv X B_ σ H s) (g:DGet H a y o):s.TypeIs (.ref a) "dict":=by
 rcases g with ⟨B',k,e,_,_⟩ | ⟨B',k,b,e,_,_,_⟩
 ·obtain⟨_,_,vs,_,dd⟩:=Pb I.hok e
  exact dd.typeIs
 ·obtain⟨_,_,xs,_,dd⟩:=Qa I.hok e
  exact dd.typeIs
def Tl (td ty:TE):TE:=fun σ H Q=>td σ H fun x H1=>ty σ H1 fun y H2=>∃ a v,x=.ref a/\DGet H2 a y (some v)/\Q v H2
def tDIn (ty td:TE):TE:=fun σ H Q=>ty σ H fun y H1=>td σ H1 fun x H2=>∃ a o,x=.ref a/\DGet H2 a y o/\Q (.bl o.isSome) H2
def WT (ty td:TE):TE:=fun σ H Q=>ty σ H fun y H1=>td σ H1 fun x H2=>∃ a o,x=.ref a/\DGet H2 a y o/\Q (.bl (!o.isSome)) H2
def sDPut (td ty tv:TE):TS:=fun D σ H=>tv σ H fun v H1=>td σ H1 fun x H2=>ty σ H2 fun y H3=>∃ a H4,x=.ref a/\DPut H3 a y v H4/\D.nx σ H4
section
variable {X:Cx}{o i e value:Ax}{pos pos' tpos:Pos}{td ty tv:TE}
theorem Tn (hu:X.A.units+1 < BF)(ho:PE X o td)(hi:PE X i ty)(hs:NoSl i):PE X (.Subscript o i pos) (Tl td ty):=by
 intro B_ s σ H Q I h
 refine WS i6.lookup hs (thn (ho B_ s σ H _ I h) fun u s1 ⟨x,H1,I1,rx,q1⟩=>thn (hi B_ s1 σ H1 _ I1 q1) fun iv s2 ⟨y,H2,I2,ry,a,v,ex,g,q2⟩=>?_)
 subst ex
 obtain rfl:u=Value.ref a:=rx
 exact⟨dW I2 g,dR hu I2 g ry fun w' s3 I3 rw'=>⟨v,H2,I3,rw',q2⟩⟩
theorem WU (hu:X.A.units+1 < BF)(hi:PE X i ty)(ho:PE X o td):PC X .In i o (tDIn ty td):=by
 intro B_ s σ H Q I h
 refine thn (hi B_ s σ H _ I h) fun iv s1 ⟨y,H1,I1,ry,q1⟩=>thn (ho B_ s1 σ H1 _ I1 q1) fun u s2 ⟨x,H2,I2,rx,a,ov,ex,g,q2⟩=>?_
 subst ex
 obtain rfl:u=Value.ref a:=rx
 exact d_in hu I2 g ry fun s3 I3=>⟨.bl ov.isSome,H2,I3,rfl,q2⟩
theorem WV (hu:X.A.units+1 < BF)(hi:PE X i ty)(ho:PE X o td):PC X .NotIn i o (WT ty td):=by
 intro B_ s σ H Q I h
 refine thn (hi B_ s σ H _ I h) fun iv s1 ⟨y,H1,I1,ry,q1⟩=>thn (ho B_ s1 σ H1 _ I1 q1) fun u s2 ⟨x,H2,I2,rx,a,ov,ex,g,q2⟩=>?_
 subst ex
 obtain rfl:u=Value.ref a:=rx
 exact dS hu I2 g ry fun s3 I3=>⟨.bl (!ov.isSome),H2,I3,rfl,q2⟩
theorem To (hu:X.A.units+1 < BF)(ho:PE X o td)(hi:PE X i ty)(hv:PE X value tv)(hs:Bo value (some (.Subscript o i pos')) pos.line X.env=pure false) :
  PS X (.Assign [.Subscript o i pos'] value pos) (sDPut td ty tv):=by
 intro B_ s σ H D I h
 refine wpAny_Assign_Subscript (thn (hv B_ s σ H _ I h) fun r s1 ⟨v,H1,I1,rv,q1⟩=>thn (ho B_ s1 σ H1 _ I1 q1) fun u s2 ⟨x,H2,I2,rx,q2⟩=>thn (hi B_ s2 σ H2 _ I2 q2) fun iv s3 ⟨y,H3,I3,ry,a,H4,ex,g,q3⟩=>?_) hs
 subst ex
 obtain rfl:u=Value.ref a:=rx
 exact dU hu I3 g ry rv fun s4 I4=>⟨σ,H4,I4,q3⟩
end
theorem WW (h:Ap) (hb:AH < h.objs.size):ObjOk P w H (h.push { cls:=.type "dict",data:=.dict #[] }) h.objs.size (.dK []) :=
 ⟨ML _,beq_eq_false_iff_ne.mpr (MB (MA hb)),[],.nil,Heap.DictOf.new h⟩
def WX:TE:=fun _ H Q=>∀ p,H p=none->Q (.ref p) (upd H p (.dK []))
section
variable {X:Cx}{pos:Pos}
theorem WY:PE X (.Dict [] [] pos) WX:=fun B_ s σ H Q I h =>
 wpAny_Dict_empty ⟨.ref s.heap.objs.size,_,I.laid (a:=s.heap.objs.size) (o:=.dK []) (t':=s.toks) (fun _ _ q=>Mf _ q) (L' _) (WW s.heap I.big),rfl,h _ (I.hok.fresh (L' _))⟩
end
def Tp:List (TE×TE)->St->Hp->(List (V×V)->Hp->Prop)->Prop
 | [],_,H,Q=>Q [] H
 | (tk,tv)::r,σ,H,Q=>tk σ H fun x H1=>tv σ H1 fun y H2=>Tp r σ H2 fun ps H3=>Q ((x,y)::ps) H3
abbrev VV:List (V×V)->List (Ad×Ad)->Prop:=Paired fun p q=>RelV p.1 q.1/\RelV p.2 q.2
noncomputable def PPs (X:Cx)(pos:Pos)(keys:List (Option Ax))(values:List Ax)(trs:List (TE×TE)):Prop :=
 ∀(B_:List (Ac×Obj)) (s:Af) (σ:St) (H:Hp) (Q:List (V×V)->Hp->Prop),Inv X B_ σ H s->Tp trs σ H Q ->
  wpAny (Aj X.prog X.w) X.A (evalPairs (pairTrees keys values X.env pos)) (fun vs s'=>∃ ps H',Inv X B_ σ H' s'/\VV ps vs/\Q ps H') X.xe s
theorem pps_nil :PPs X pos [] [] []:=fun B_ s σ H Q I h=>pairTrees_nil_walk ⟨[],H,I,.nil,h⟩
theorem US (hk:PE X k tk) (hv:PE X v tv) (hr:PPs X pos ks vs trs):
  PPs X pos (some k::ks) (v::vs) ((tk,tv)::trs):=fun B_ s σ H Q I h =>
 pairTrees_cons_walk (thn (hk B_ s σ H _ I h) fun u s1 ⟨x,H1,I1,rx,q1⟩=>thn (hv B_ s1 σ H1 _ I1 q1) fun w2 s2 ⟨y,H2,I2,ry,q2⟩ =>
  thn (hr B_ s2 σ H2 _ I2 q2) fun ws s3 ⟨ps,H3,I3,rel,q3⟩=>⟨(x,y)::ps,H3,I3,.cons ⟨rx,ry⟩ rel,q3⟩)
noncomputable def Pd (B' more:List (Key×V)):List (Key×V):=more.foldl (fun Ca kv=>putK Ca kv.1 kv.2) B'
theorem KV.merge:∀{more:List (Key×V)}{rs:List (Key×Ad)}{B':List (Key×V)}{vs:List (Key×Ad)},KV more rs->KV B' vs->KV (Pd B' more) (merged vs rs):=by
 intro more rs B' vs r
 unfold KV at r
 induction r generalizing B' vs with
 | nil=>intro q;exact q
 | @cons p q ps qs h t ih =>
  intro r0
  have e:KV (putK B' p.1 p.2) (stored vs q.1 q.2):=by
   have:=r0.put p.1 h.2
   rw[<- h.1];exact this
  exact ih e
theorem jw:∀(more B':List (Key×V)),(Pd B' more).length<=B'.length+more.length
 | [],B'=>by show B'.length<=B'.length+0;omega
 | p::r,B'=>by
  have h1:=jw r (putK B' p.1 p.2)
  have h2:=dQ B' p.1 p.2
  show (Pd (putK B' p.1 p.2) r).length<=_
  rw[Mv];omega
theorem WZ {P:Ak}{w:Am}:∀{B':List (Key×V)}{ws:List (Ad×Ad)},VV (B'.map fun kv=>(kV kv.1,kv.2)) ws->∃ rs,Carries (M7 P w) ws rs/\KV B' rs
 | [],_,r=>by rw[Oe] at r;cases r;exact⟨[],True.intro,.nil⟩
 | p::B',_,r=>by
  rw[Mu] at r
  cases r with
  | @cons a b as bs h t =>
   obtain⟨rs,c,q⟩:=WZ (P:=P) (w:=w) t
   obtain⟨b1,b2⟩:=b
   exact⟨(p.1,b2)::rs,⟨N8 h.1,rfl,c⟩,.cons ⟨rfl,h.2⟩ q⟩
def tDisp (trs:List (TE×TE)):TE:=fun σ H Q=>∀ p,H p=none->Tp trs σ (upd H p (.dK [])) fun ps H2=>H2 p=some (.dK [])/\∃ B':List (Key×V),ps=B'.map (fun kv=>(kV kv.1,kv.2))/\B'.length<=15/\Q (.ref p) (upd H2 p (.dK (Pd [] B')))
theorem dX (h:PPs X pos keys values trs) (EQ:keys.all (·.isSome)=true) (hl:keys.length=values.length) (h0:keys≠[]) (KA:keys.length<=15):PE X (.Dict keys values pos) (tDisp trs):=by
 intro B_ s σ H Q I q
 have hn:=I.hok.fresh (L' s.heap.objs.size)
 have I1:=I.laid (a:=s.heap.objs.size) (o:=.dK []) (h':=s.heap.push { cls:=.type "dict",data:=.dict #[] }) (t':=s.toks) (fun _ _ q=>Mf _ q) (L' _) (WW s.heap I.big)
 refine wpAny_Dict_walk (knd:=M7 X.prog X.w) EQ hl h0 KA (thn (h B_ _ σ _ _ I1 (q _ hn)) fun ws s2 ⟨ps,H2,I2,rel,e,B',ep,lk,q2⟩=>?_)
 subst ep
 obtain⟨rs,c,rk⟩:=WZ (P:=X.prog) (w:=X.w) rel
 obtain⟨z,hd,vs0,r0,dd⟩:=Rz I2.hok e
 cases r0
 refine⟨rs,c,dd,fun h' dd' hs=>⟨.ref s.heap.objs.size,_,?_,rfl,q2⟩⟩
 have hz:(Pd [] B').length<=Ae:=by
  have h1:=jw B' []
  rw[Qu] at h1
  rw[Bu];omega
 have he:∃ q,h'.get? s.heap.objs.size=some q:=let ⟨q,_,_,hq,_⟩:=dd';⟨q,hq⟩
 exact Tj I2 (by rw[e];exact True.intro) hs he (WR hz hd (rk.merge .nil) dd')
structure M1 (X:Cx)(o:Ax)(m:Str)(Ct:Pos)(e:Ax)(cpos:Pos):Prop where
 base:AI o m X.env (As o X.env)=As o X.env
 few:((AA cpos (Ah [e] X.env)).all (fun x=>!x.1)&&(A_ cpos (AS [] X.env)).all (fun x=>x.1.isSome)
  && decide (([e]:List Ax).length+([]:List Bv).length+(if ([]:List Bv).isEmpty then 0 else 1) < 30))=true
 line:(Ct.endLine == cpos.line)=true
 trees:AA cpos (Ah [e] X.env)=[(false,As e X.env)]
structure M2 (X:Cx)(o:Ax)(m:Str)(Ct:Pos)(e f:Ax)(cpos:Pos):Prop where
 base:AI o m X.env (As o X.env)=As o X.env
 few:((AA cpos (Ah [e,f] X.env)).all (fun x=>!x.1)&&(A_ cpos (AS [] X.env)).all (fun x=>x.1.isSome)
  && decide (([e,f]:List Ax).length+([]:List Bv).length+(if ([]:List Bv).isEmpty then 0 else 1) < 30))=true
 line:(Ct.endLine == cpos.line)=true
 trees:AA cpos (Ah [e,f] X.env)=[(false,As e X.env),(false,As f X.env)]
section
variable {X:Cx}{B_:List (Ac×Obj)}{σ:St}{H:Hp}{s:Af}{a:Ac}{y d:V}{u r:Ad}{o:Option V}{A:Ao}{E:Ad->Af->Prop}
end
section
variable {X:Cx}{o e f:Ax}{Ct cpos:Pos}{td ty tx:TE}
end
section
variable {X:Cx}{B_:List (Ac×Obj)}{σ:St}{H:Hp}{s:Af}{a:Ac}{B':List (Key×V)}{A:Ao}{E:Ad->Af->Prop}
end
section
variable {X:Cx}{B_:List (Ac×Obj)}{σ:St}{H:Hp}{s:Af}{a:Ac}{y:V}{u:Ad}{A:Ao}{E:Ad->Af->Prop}
end
end L2
namespace L2
theorem Sc (h:(Sum.inr (S a):Key)=Sum.inr (S b)):a=b:=by
 injection h with h
 exact S_inj h
def NT (H:Hp):List (Key×V)->List Pat->Prop
 | [],[]=>True
 | kv::B',g::gs=>kv.1=Sum.inr (S g.1)/\(∃ t,kv.2=.ref t/\H t=some (.tup (g.2.map V.int)))/\NT H B' gs
 | _,_=>False
noncomputable def N9 (gs:List Pat)(z:List Nat):Option Pat:=gs.find? fun g=>decide (g.1=z)
theorem NT.val {H:Hp}{z:List Nat}:∀{B':List (Key×V)}{gs:List Pat},NT H B' gs->(N9 gs z=none/\valV B' (Sum.inr (S z))=none)∨∃ g t,N9 gs z=some g/\g∈gs/\g.1=z/\valV B' (Sum.inr (S z))=some (.ref t)/\H t=some (.tup (g.2.map V.int))
 | [],[],_=>.inl ⟨rfl,rfl⟩
 | [],_::_,h=>h.elim
 | _::_,[],h=>h.elim
 | kv::B',g::gs,h=>by
  obtain⟨h1,⟨t,h2,h3⟩,h4⟩:=h
  by_cases e:g.1=z
  ·refine .inr ⟨g,t,?_,MV,e,?_,h3⟩
   ·unfold N9;rw[Oo,B7 e]
   ·rw[UR (by rw[h1,e]),h2]
  ·have hl:N9 (g::gs) z=N9 gs z:=by unfold N9;rw[Oo,B6 e]
   have hv:valV (kv::B') (Sum.inr (S z))=valV B' (Sum.inr (S z)):=Ti fun q=>e (Sc (h1.symm.trans q))
   rw[hl,hv]
   rcases NT.val (z:=z) h4 with q | ⟨g',t',a,b,c,d,f⟩
   ·exact .inl q
   ·exact .inr ⟨g',t',a,MP _ b,c,d,f⟩
theorem NT.same {H H':Hp}(s:Same H H'):∀{B':List (Key×V)}{gs:List Pat},NT H B' gs->NT H' B' gs
 | [],[],_=>trivial
 | [],_::_,h=>h.elim
 | _::_,[],h=>h.elim
 | kv::B',g::gs,h=>by
  obtain⟨h1,⟨t,h2,h3⟩,h4⟩:=h
  exact⟨h1,⟨t,h2,s _ _ h3⟩,NT.same s h4⟩
end L2
namespace L2
open PySem
noncomputable def putG (gs:List Pat)(s:List Nat)(ns:List Int):List Pat :=
 if (gs.any fun g=>decide (g.1=s))=true then gs.map (fun g=>if g.1=s then (g.1,ns) else g) else gs++[(s,ns)]
theorem NT.anyK {H:Hp}{s:List Nat}:∀{B':List (Key×V)}{gs:List Pat},NT H B' gs->(B'.any fun kv=>decide (kv.1=(Sum.inr (S s):Key)))=gs.any fun g=>decide (g.1=s)
 | [],[],_=>rfl
 | [],_::_,h=>h.elim
 | _::_,[],h=>h.elim
 | kv::B',g::gs,h=>by
  obtain⟨h1,_,h4⟩:=h
  rw[OL,OL,NT.anyK h4]
  congr 1
  rw[h1]
  by_cases e:g.1=s
  ·rw[B7 e,B7 (by rw[e])]
  ·rw[B6 e,B6 fun q=>e (Sc q)]
theorem NT.append {H:Hp}:∀{B' kvs':List (Key×V)}{gs gs':List Pat},NT H B' gs->NT H kvs' gs'->NT H (B'++kvs') (gs++gs')
 | [],_,[],_,_,h=>h
 | [],_,_::_,_,h,_=>h.elim
 | _::_,_,[],_,h,_=>h.elim
 | kv::B',_,g::gs,_,h,h'=>⟨h.1,h.2.1,NT.append h.2.2 h'⟩
theorem NT.mapP {H:Hp}{s:List Nat}{ns:List Int}{t:Ac}(ht:H t=some (.tup (ns.map V.int))):∀{B':List (Key×V)}{gs:List Pat},NT H B' gs->NT H (B'.map fun kv=>if kv.1=(Sum.inr (S s):Key) then (kv.1,.ref t) else kv) (gs.map fun g=>if g.1=s then (g.1,ns) else g)
 | [],[],_=>trivial
 | [],_::_,h=>h.elim
 | _::_,[],h=>h.elim
 | kv::B',g::gs,h=>by
  obtain⟨h1,h2,h4⟩:=h
  rw[Mu,Mu]
  by_cases e:g.1=s
  ·rw[B9 e,B9 (by rw[h1,e])]
   exact⟨h1,⟨t,rfl,ht⟩,NT.mapP ht h4⟩
  ·rw[B8 e,B8 (by rw[h1];exact fun q=>e (Sc q))]
   exact⟨h1,h2,NT.mapP ht h4⟩
theorem NT.put (h:NT H B' gs) (ht:H t=some (.tup (ns.map V.int))):NT H (putK B' (Sum.inr (S s)) (.ref t)) (putG gs s ns):=by
 unfold putK putG
 rw[h.anyK]
 split
 ·exact h.mapP ht
 ·exact h.append ⟨rfl,⟨t,rfl,ht⟩,trivial⟩
theorem NT.tups {H H':Hp}(hk:∀ b zs,H b=some (.tup zs)->H' b=some (.tup zs)):∀{B':List (Key×V)}{gs:List Pat},NT H B' gs->NT H' B' gs
 | [],[],_=>trivial
 | [],_::_,h=>h.elim
 | _::_,[],h=>h.elim
 | kv::B',g::gs,h=>by
  obtain⟨h1,⟨t,h2,h3⟩,h4⟩:=h
  exact⟨h1,⟨t,h2,hk _ _ h3⟩,NT.tups hk h4⟩
end L2
namespace L2
noncomputable def Nz:List Nat->RS->Nat->Option Nat
 | [],s,i=>if s.lacks=true then some i else none
 | c::r,s,i=>match OF s c with
  | none=>some i
  | some s'=>Nz r s' (i+1)
theorem dY:∀(a b:List Nat) (s t:RS) (i:Nat),rrun a s=some t->Nz (a++b) s i=Nz b t (i+a.length)
 | [],b,s,t,i,h=>by cases h;rfl
 | c::a,b,s,t,i,h=>by
  simp only[rrun] at h
  cases e:OF s c with
  | none=>rw[e] at h;cases h
  | some s1 =>
   rw[e] at h
   simp only[UC,Nz,e]
   rw[dY a b s1 t (i+1) h,Mv]
   congr 1;omega
theorem dZ (h:rrun (l.take i) s=some rs) (hi:i < l.length) (hn:OF rs l[i]=none):Nz l s 0=some i:=by
 have e:l=l.take i++(l[i]::l.drop (i+1)):=by rw[<- QV hi,Zg]
 have:=dY (l.take i) (l[i]::l.drop (i+1)) s rs 0 h
 rw[<- e] at this
 rw[this]
 simp only[Nz,hn,MI]
 congr 1;omega
theorem W0 (h:rrun l s=some rs):Nz l s 0=if rs.lacks=true then some l.length else none:=by
 have:=dY l [] s rs 0 h
 rw[Pr] at this
 rw[this];simp only[Nz,aA]
noncomputable def ldue:List Nat->Bool->Nat->Option Nat
 | [],a,i=>if a=true then some i else none
 | c::r,a,i=>if c=45/\a=true then some i else if c=45∨MK c=true then ldue r (decide (c=45)) (i+1) else some i
theorem Tq:MK 45=false:=by decide
theorem Tr:∀(l:List Nat) (s:RS) (i:Nat),Nz l s i=ldue l s.lacks i
 | [],s,i=>rfl
 | c::r,s,i=>by
  simp only[Nz,ldue,OF]
  by_cases h1:MK c=true
  ·have hc:c≠45:=fun z=>by rw[z,Tq] at h1;cases h1
   simp only[h1,if_true,hc,false_and,if_false,or_true,decide_false]
   exact Tr r _ _
  ·by_cases h2:c=45
   ·subst h2
    cases hl:s.lacks with
    | true=>simp[Tq]
    | false =>
     simp only[Tq,U_,if_false,and_self,if_true,and_false,or_false,decide_true]
     exact Tr r _ _
   ·simp[h1,h2]
theorem d7 (h1:w.getD k 0=w'.getD k 0) (h2:k∈gs↔k∈gs'):bit w gs k=bit w' gs' k:=by
 unfold bit
 rw[h1]
 by_cases h:k∈gs
 ·rw[B9 h,B9 (h2.mp h)]
 ·rw[B8 h,B8 fun z=>h (h2.mpr z)]
theorem W1 (h:∀ k,k < n->w.getD k 0=w'.getD k 0/\(k∈gs↔k∈gs')):txt w gs n=txt w' gs' n:=by
 unfold txt
 exact Wt fun k hk=>d7 (h k (PL.mp hk)).1 (h k (PL.mp hk)).2
theorem W2 (h:k < w.length):(w++[c]).getD k 0=w.getD k 0:=by
 simp[Mq,Z6 h]
theorem W3 :(w++[c]).getD w.length 0=c:=by simp[Mq]
theorem W4 {n m:Nat}(h:n<=m):∀{b:Nat}{g:List Nat},Rise b n g->Rise b m g
 | _,[],_=>trivial
 | _,_::_,r=>⟨r.1,Nh r.2.1 h,W4 h r.2.2⟩
theorem W5 {n:Nat}:∀{b:Nat}{g:List Nat},b < n->Rise b n g->Rise b (n+1) (g++[n])
 | b,[],h,_=>⟨h,UG _,trivial⟩
 | b,x::g,h,r=>⟨r.1,Nat.lt_succ_of_lt r.2.1,W5 r.2.1 r.2.2⟩
noncomputable def Pin (s:RS)(pre:List Nat):Prop :=
 (s.lacks=false/\txt s.w s.g s.w.length=pre/\Rise 0 s.w.length s.g/\1<=s.w.length) ∨
 (s.lacks=true/\((pre=[]/\s.w=[]/\s.g=[])∨∃ g,s.g=g++[s.w.length]/\txt s.w g s.w.length++[45]=pre/\Rise 0 s.w.length g/\1<=s.w.length))
theorem Pin.step (h:Pin s pre) (e:OF s c=some t):Pin t (pre++[c]):=by
 unfold OF at e
 split at e
 ·cases e
  refine .inl ⟨rfl,?_⟩
  rcases h with ⟨_,h1,h2,h3⟩ | ⟨_,⟨rfl,h1,h2⟩ | ⟨g,hg,h1,h2,h3⟩⟩
  ·refine⟨?_,W4 (by simp) h2,by simp⟩
   show txt (s.w++[c]) s.g (s.w++[c]).length=_
   rw[Mn,M6,Ws,W3,B8 fun z=>Qv _ (Rise.mem h2 _ z).2,am,<- h1]
   congr 1
   exact W1 fun k hk=>⟨W2 hk,Iff.rfl⟩
  ·rw[h1,h2]
   exact⟨by simp[txt,bit],trivial,by simp⟩
  ·refine⟨?_,?_,by simp⟩
   ·show txt (s.w++[c]) s.g (s.w++[c]).length=_
    rw[Mn,M6,Ws,W3,B9 (by rw[hg];simp),<- h1,Pq]
    congr 1
    refine W1 fun k hk=>⟨W2 hk,?_⟩
    rw[hg]
    have:k≠s.w.length:=MA hk
    simp[this]
   ·show Rise 0 (s.w++[c]).length s.g
    rw[hg,Mn,M6]
    exact W5 (by omega) h2
 ·split at e
  ·rename_i hc
   cases e
   refine .inr ⟨rfl,.inr ?_⟩
   rcases h with ⟨_,h1,h2,h3⟩ | ⟨hl,_⟩
   ·refine⟨s.g,rfl,?_,h2,h3⟩
    show txt s.w s.g s.w.length++[45]=pre++[c]
    rw[h1,hc.1]
   ·rw[hc.2] at hl;cases hl
  ·cases e
theorem Pin.run:∀{r:List Nat}{s t:RS}{pre:List Nat},Pin s pre->rrun r s=some t->Pin t (pre++r)
 | [],s,t,pre,h,e=>by cases e;rw[Pr];exact h
 | c::r,s,t,pre,h,e=>by
  simp only[rrun] at e
  cases e1:OF s c with
  | none=>rw[e1] at e;cases e
  | some s1 =>
   rw[e1] at e
   have:=Pin.run (h.step e1) e
   rw[Pq] at this
   exact this
theorem d8 (h:rrun l ⟨[],[],true⟩=some ⟨w,g,false⟩):txt w g w.length=l/\Rise 0 w.length g/\1<=w.length:=by
 have:=Pin.run (pre:=[]) (.inr ⟨rfl,.inl ⟨rfl,rfl,rfl⟩⟩) h
 rcases this with ⟨_,h1,h2,h3⟩ | ⟨h1,_⟩
 ·exact⟨by simpa using h1,h2,h3⟩
 ·cases h1
noncomputable def fig (n:Int):List Nat:=if n > 0 then [48+n.toNat] else []
noncomputable def pre (s:List Nat)(ns:List Int):Nat->List Nat
 | 0=>[]
 | i+1=>pre s ns i++(fig (ns.getD i 0)++[s.getD i 0])
noncomputable def ptxt (s:List Nat)(ns:List Int):List Nat:=pre s ns s.length++fig (ns.getD s.length 0)
noncomputable def Pe (c:Nat):Bool:=decide (49<=c/\c<=57)
noncomputable def canS (c:Nat)(sg:List Nat)(n:Int):Bool :=
 if 1 < sg.length/\sg.getLast?=some 46 then false
 else if Pe c=true then decide (n=0)
 else if sg.length=22 then false
 else if c=46 then decide (sg≠[46])&&(decide (sg≠[]) || decide (n=0))
 else MK c
structure PS3 where
 sg:List Nat
 ns:List Int
 n:Int
noncomputable def Nq (t:PS3)(c:Nat):Option PS3 :=
 if canS c t.sg t.n=true then (if Pe c=true then some ⟨t.sg,t.ns,(c:Int) - 48⟩ else some ⟨t.sg++[c],t.ns++[t.n],0⟩) else none
noncomputable def prun:List Nat->PS3->Option PS3
 | [],t=>some t
 | c::r,t=>(Nq t c).bind (prun r)
theorem W6:∀(a b:List Nat) (t:PS3),prun (a++b) t=(prun a t).bind (prun b)
 | [],b,t=>rfl
 | c::a,b,t=>by
  simp only[UC,prun]
  cases Nq t c with
  | none=>rfl
  | some u=>simp only[QY];exact W6 a b u
structure VP (s:List Nat)(ns:List Int):Prop where
 len:s.length<=22
 pos:1<=s.length
 nlen:ns.length=s.length+1
 let_:∀ j,j < s.length->s.getD j 0=46/\(j=0∨j+1=s.length)∨MK (s.getD j 0)=true
 some_:∃ j,j < s.length/\MK (s.getD j 0)=true
 num:∀ j,j < ns.length->0<=ns.getD j 0/\ns.getD j 0<=9
 n0:s.getD 0 0=46->ns.getD 0 0=0
 nl:s.getD (s.length - 1) 0=46->ns.getD s.length 0=0
theorem Tt (s:List Nat)(ns:List Int):∀ i,(pre s ns i).length<=2 * i
 | 0=>L' _
 | i+1=>by
  have:=Tt s ns i
  simp only[pre,Mn,Mv,Qu]
  have:(fig (ns.getD i 0)).length<=1:=by unfold fig;split <;> simp
  omega
theorem W7 (s:List Nat)(ns:List Int):(ptxt s ns).length<=2 * s.length+1:=by
 unfold ptxt
 rw[Mn]
 have:=Tt s ns s.length
 have:(fig (ns.getD s.length 0)).length<=1:=by unfold fig;split <;> simp
 omega
theorem W8:∀{l:List Nat}{s t:PS3},prun l s=some t->t.sg.length<=s.sg.length+l.length/\t.ns.length<=s.ns.length+l.length
 | [],s,t,h=>by cases h;exact⟨L' _,L' _⟩
 | c::r,s,t,h=>by
  simp only[prun] at h
  cases e:Nq s c with
  | none=>rw[e] at h;cases h
  | some s1 =>
   rw[e] at h
   have ih:=W8 h
   unfold Nq at e
   split at e
   ·split at e
    ·cases e;simp at ih ⊢;omega
    ·cases e;simp at ih ⊢;omega
   ·cases e
noncomputable def Nl:List Nat->PS3->Nat->Option Nat
 | [],t,i=>if t.sg=[]∨t.sg=[46] then some i else none
 | c::r,t,i=>match Nq t c with
  | none=>some i
  | some t'=>Nl r t' (i+1)
theorem d9:∀(a b:List Nat) (s t:PS3) (i:Nat),prun a s=some t->Nl (a++b) s i=Nl b t (i+a.length)
 | [],b,s,t,i,h=>by cases h;rfl
 | c::a,b,s,t,i,h=>by
  simp only[prun] at h
  cases e:Nq s c with
  | none=>rw[e] at h;cases h
  | some s1 =>
   rw[e] at h
   simp only[UC,Nl,e]
   rw[d9 a b s1 t (i+1) h,Mv]
   congr 1;omega
theorem d_ (h:prun (l.take i) s=some u) (hi:i < l.length) (hn:Nq u l[i]=none):Nl l s 0=some i:=by
 have e:l=l.take i++(l[i]::l.drop (i+1)):=by rw[<- QV hi,Zg]
 have:=d9 (l.take i) (l[i]::l.drop (i+1)) s u 0 h
 rw[<- e] at this
 rw[this]
 simp only[Nl,hn,MI]
 congr 1;omega
theorem Tu (h:prun l s=some u):Nl l s 0=if u.sg=[]∨u.sg=[46] then some l.length else none:=by
 have:=d9 l [] s u 0 h
 rw[Pr] at this
 rw[this];simp only[Nl,aA]
theorem ee {l:List Nat} {i:Nat} (h1:prun (l.take i) s=some u) (hi:i < l.length) (e:Nq u l[i]=some u'):prun (l.take (i+1)) s=some u':=by
 rw[Od,Mm hi,W6,h1,QY]
 simp only[Option.toList,prun,e,QY]
theorem Tv {s s':List Nat}{ns ns':List Int}:∀{i:Nat},(∀ j,j < i->s.getD j 0=s'.getD j 0/\ns.getD j 0=ns'.getD j 0)->pre s ns i=pre s' ns' i
 | 0,_=>rfl
 | i+1,h=>by
  simp only[pre]
  rw[Tv fun j hj=>h j (by omega),(h i (by omega)).1,(h i (by omega)).2]
theorem RA (h:k < w.length):(w++[c]).getD k d=w.getD k d:=by
 simp[Mq,Z6 h]
theorem Sd :(w++[c]).getD w.length d=c:=by simp[Mq]
structure PinP (u:PS3)(t:List Nat):Prop where
 len:u.sg.length<=22
 nl:u.ns.length=u.sg.length
 tx:pre u.sg u.ns u.sg.length++fig u.n=t
 num:∀ j,j < u.ns.length->0<=u.ns.getD j 0/\u.ns.getD j 0<=9
 n9:0<=u.n/\u.n<=9
 lt:∀ j,j < u.sg.length->u.sg.getD j 0=46/\(j=0∨j+1=u.sg.length)∨MK (u.sg.getD j 0)=true
 n0:1<=u.sg.length->u.sg.getD 0 0=46->u.ns.getD 0 0=0
 ne:1 < u.sg.length->u.sg.getLast?=some 46->u.n=0
 sm:u.sg=[]∨u.sg=[46]∨∃ j,j < u.sg.length/\MK (u.sg.getD j 0)=true
theorem PinP.start:PinP ⟨[],[],0⟩ []:=⟨by simp,rfl,rfl,fun j hj=>by simp at hj,by simp,fun j hj=>by simp at hj,fun h=>by simp at h,fun h=>by simp at h,.inl rfl⟩
theorem W9 {s:List Nat}(h:1<=s.length):s.getLast?=some (s.getD (s.length - 1) 0):=by
 rw[Z7,Mm (by omega),Mq,Mm (by omega)];rfl
theorem PinP.step (h:PinP u t) (e:Nq u c=some v):PinP v (t++[c]):=by
 unfold Nq at e
 split at e
 ·rename_i hc
  have Dw:¬ (1 < u.sg.length/\u.sg.getLast?=some 46):=fun z=>by
   unfold canS at hc;rw[B9 z] at hc;cases hc
  unfold canS at hc
  rw[B8 Dw] at hc
  split at e
  ·rename_i hf
   cases e
   rw[B9 hf] at hc
   have hn:u.n=0:=of_decide_eq_true hc
   have hf':=of_decide_eq_true hf
   refine⟨h.len,h.nl,?_,h.num,by show 0<=(c:Int) - 48/\(c:Int) - 48<=9;omega,h.lt,h.n0,fun a b=>absurd ⟨a,b⟩ Dw,h.sm⟩
   show pre u.sg u.ns u.sg.length++fig ((c:Int) - 48)=t++[c]
   have ht:=h.tx
   rw[hn,show fig 0=[] from rfl,Pr] at ht
   rw[ht]
   congr 1
   unfold fig
   rw[B9 (by omega)]
   congr 1
   omega
  ·rename_i hf
   cases e
   rw[B8 hf] at hc
   have KB:u.sg.length≠22:=fun z=>by rw[B9 z] at hc;cases hc
   rw[B8 KB] at hc
   have Cd:=h.len
   have EK:=h.nl
   have Eh:c≠46->MK c=true:=fun z=>by rw[B8 z] at hc;exact hc
   have EB:c=46->u.sg≠[46]/\(u.sg≠[]∨u.n=0):=fun z=>by
    rw[B9 z,MQ,au] at hc
    exact⟨of_decide_eq_true hc.1,hc.2.imp of_decide_eq_true of_decide_eq_true⟩
   refine⟨by show (u.sg++[c]).length<=22;simp;omega,by show (u.ns++[u.n]).length=(u.sg++[c]).length;simp;omega,?_,fun j hj=>?_,by show (0:Int)<=0/\(0:Int)<=9;omega,fun j hj=>?_,fun _ z=>?_,fun _ _=>rfl,?_⟩
   ·show pre (u.sg++[c]) (u.ns++[u.n]) (u.sg++[c]).length++fig 0=t++[c]
    rw[show fig 0=[] from rfl,Pr,Mn,M6]
    simp only[pre]
    rw[Sd,<- EK,Sd,EK,Tv (s':=u.sg) (ns':=u.ns) fun j hj=>⟨RA hj,RA (by omega)⟩,<- Pq,h.tx]
   ·have hj:j < (u.ns++[u.n]).length:=hj
    show 0<=(u.ns++[u.n]).getD j 0/\(u.ns++[u.n]).getD j 0<=9
    by_cases z:j < u.ns.length
    ·rw[RA z];exact h.num j z
    ·have:j=u.ns.length:=by simp at hj;omega
     subst this
     rw[Sd];exact h.n9
   ·have hj:j < (u.sg++[c]).length:=hj
    show (u.sg++[c]).getD j 0=46/\(j=0∨j+1=(u.sg++[c]).length)∨MK ((u.sg++[c]).getD j 0)=true
    by_cases z:j < u.sg.length
    ·rw[RA z]
     rcases h.lt j z with ⟨a,b⟩ | a
     ·refine .inl ⟨a,.inl ?_⟩
      rcases b with b | b
      ·exact b
      ·by_cases j0:j=0
       ·exact j0
       ·refine absurd ⟨by omega,?_⟩ Dw
        rw[W9 (by omega),show u.sg.length - 1=j by omega,a]
     ·exact .inr a
    ·have:j=u.sg.length:=by simp at hj;omega
     subst this
     rw[Sd]
     by_cases z:c=46
     ·exact .inl ⟨z,.inr (by simp)⟩
     ·exact .inr (Eh z)
   ·have z:(u.sg++[c]).getD 0 0=46:=z
    show (u.ns++[u.n]).getD 0 0=0
    by_cases k:u.sg.length=0
    ·have hs:u.sg=[]:=Z8.mp k
     have Gz:u.ns=[]:=Z8.mp (by omega)
     rw[hs] at z
     have IE:c=46:=z
     rw[Gz]
     show u.n=0
     rcases (EB IE).2 with a | a
     ·exact absurd hs a
     ·exact a
    ·rw[RA (by omega)] at z ⊢
     exact h.n0 (by omega) z
   ·show (u.sg++[c])=[]∨(u.sg++[c])=[46]∨∃ j,j < (u.sg++[c]).length/\MK ((u.sg++[c]).getD j 0)=true
    by_cases z:c=46
    ·rcases h.sm with a | a | ⟨j,hj,a⟩
     ·right;left;rw[a,z];rfl
     ·exact absurd a (EB z).1
     ·right;right;exact⟨j,by simp;omega,by rw[RA hj];exact a⟩
    ·right;right;exact⟨u.sg.length,by simp,by rw[Sd];exact Eh z⟩
 ·cases e
theorem PinP.run:∀{r:List Nat}{s t:PS3}{p:List Nat},PinP s p->prun r s=some t->PinP t (p++r)
 | [],s,t,p,h,e=>by cases e;rw[Pr];exact h
 | c::r,s,t,p,h,e=>by
  simp only[prun] at e
  cases e1:Nq s c with
  | none=>rw[e1] at e;cases e
  | some s1 =>
   rw[e1] at e
   have:=PinP.run (h.step e1) e
   rw[Pq] at this
   exact this
theorem PinP.vp (h:PinP u t) (h1:u.sg≠[]) (h2:u.sg≠[46]):VP u.sg (u.ns++[u.n])/\ptxt u.sg (u.ns++[u.n])=t:=by
 have EK:=h.nl
 have D8:1<=u.sg.length:=List.length_pos_iff.mpr h1
 refine⟨⟨h.len,D8,by simp;omega,h.lt,?_,fun j hj=>?_,fun z=>?_,fun z=>?_⟩,?_⟩
 ·rcases h.sm with a | a | a
  ·exact absurd a h1
  ·exact absurd a h2
  ·exact a
 ·by_cases z:j < u.ns.length
  ·rw[RA z];exact h.num j z
  ·have:j=u.ns.length:=by simp at hj;omega
   subst this
   rw[Sd];exact h.n9
 ·rw[RA (by omega)];exact h.n0 D8 z
 ·rw[<- EK,Sd]
  by_cases k:u.sg.length=1
  ·exfalso
   obtain⟨a,ha⟩:=List.length_eq_one_iff.mp k
   rw[ha] at z
   exact h2 (by rw[ha];congr 1)
  ·exact h.ne (by omega) (by rw[W9 D8,z])
 ·unfold ptxt
  have e2:(u.ns++[u.n]).getD u.sg.length 0=u.n:=by rw[<- EK,Sd]
  rw[e2,Tv (s':=u.sg) (ns':=u.ns) fun j hj=>⟨rfl,RA (by omega)⟩]
  exact h.tx
end L2
namespace L2
open PySem PySem.Spec PyProof.Rows
open Sem (wp)
open AutoSeq1 (wpAny_loadPart')
set_option maxHeartbeats 4000000 in
theorem eh (l:Ac)(items:Array Ad)(n:Nat)(dct:Option Ac)(sl:Array (Option Ad)) :
  Meets (Builtin.«enumerate.__new__» ⟨[.type "enumerate",.ref l],[]⟩) (fun _ R s=>s.heap.get? l=some { cls:=.type "tuple",dict:=dct,data:=.seq items n,slots:=sl } /\
   R (.ok (.ret (.ref (s.heap.push { cls:=.type "tuple_iterator",data:=.fields #[.ref l,.int 0 0] }).objs.size)))
    { s with heap:=(s.heap.push { cls:=.type "tuple_iterator",data:=.fields #[.ref l,.int 0 0] }).push { cls:=.type "enumerate",data:=.fields #[.none,.bool false,.ref s.heap.objs.size,AM 0,.none,.none] } }) :=
 .of_wp fun prog w A R s h=>by
  obtain⟨hp,g,d,tk,os⟩:=s;obtain⟨hl,h⟩:=h
  have Eg:=Bz
  have hL:Z5 (Vi ⟨hp,g,d,tk,os⟩) l items:=⟨_,hl,rfl,n,rfl⟩
  wp_walk using Aq hl
  refine Bj fun st=>Ag ?_
  split
  ·rename_i c _ _ _ _ _
   cases (c == Value.type "enumerate")
   ·wp_walk using Aq hl,AG hL
    exact⟨_,rfl,h⟩
   ·wp_walk using Aq hl,AG hL
    exact⟨_,rfl,h⟩
  ·wp_walk using Aq hl,AG hL
   exact⟨_,rfl,h⟩
set_option maxHeartbeats 4000000 in
theorem ei (l:Ac)(items:Array Ad)(n:Nat)(dct:Option Ac)(sl:Array (Option Ad)) :
  Meets (Builtin.«enumerate.__new__» ⟨[.type "enumerate",.ref l],[]⟩) (fun _ R s=>s.heap.get? l=some { cls:=.type "list",dict:=dct,data:=.seq items n,slots:=sl } /\
   R (.ok (.ret (.ref (s.heap.push { cls:=.type "list_iterator",data:=.fields #[.ref l,.int 0 0] }).objs.size)))
    { s with heap:=(s.heap.push { cls:=.type "list_iterator",data:=.fields #[.ref l,.int 0 0] }).push { cls:=.type "enumerate",data:=.fields #[.none,.bool false,.ref s.heap.objs.size,AM 0,.none,.none] } }) :=
 .of_wp fun prog w A R s h=>by
  obtain⟨hp,g,d,tk,os⟩:=s;obtain⟨hl,h⟩:=h
  have Eg:=Bz
  have hL:Heap.IsList (Vi ⟨hp,g,d,tk,os⟩) l items:=⟨_,hl,rfl,n,rfl⟩
  wp_walk using Aq hl
  refine Bj fun st=>Ag ?_
  split
  ·rename_i c _ _ _ _ _
   cases (c == Value.type "enumerate")
   ·wp_walk using Aq hl,AE hL
    exact⟨_,rfl,h⟩
   ·wp_walk using Aq hl,AE hL
    exact⟨_,rfl,h⟩
  ·wp_walk using Aq hl,AE hL
   exact⟨_,rfl,h⟩
theorem chk10 (a:Ad):BX "enumerate" ⟨[a],[]⟩=pure ():=by kernel_rfl
theorem chk20 (a:Ad):Az "enumerate.__new__" ⟨[.type "enumerate",a],[]⟩=pure ():=by kernel_rfl
section
variable {prog:Ak}{w:Am}{A:Ao}{E:Ad->Af->Prop}{s:Af}
theorem ek (hL:s.heap.IsTuple l items) (h:∀ h',BM h' (s.heap.objs.size+1) s.heap.objs.size 0 .none->h'.IsTupleIter s.heap.objs.size l 0->(∀ b o,s.heap.get? b=some o->h'.get? b=some o)->Q (.ref (s.heap.objs.size+1)) { s with heap:=h' }):
  wpAny (Aj prog w) A (call (.type "enumerate") [.ref l]) Q E s:=by
 obtain⟨⟨c,dct,dt,sl⟩,hl,hc,n,hd⟩:=hL
 simp only at hc hd
 subst hc hd
 refine ZQ (Q₁:=fun obj s₁=>s₁.TypeIs obj "enumerate"/\Q obj s₁) Ps (chk10 _) (chk20 _) Zx Zy (eh l items n dct sl) ⟨hl,?_⟩
  fun obj s₁ hq=>⟨hq.1,F.args_object_init_2 obj _,_,Rg Ps.init.lookup Ps.made (by decide),hq.1,rfl,hq.2⟩
 have hz:(s.heap.push { cls:=.type "tuple_iterator",data:=.fields #[.ref l,.int 0 0] }).objs.size=s.heap.objs.size+1:=Om ..
 show _/\_
 rw[hz]
 have he:BM ((s.heap.push { cls:=.type "tuple_iterator",data:=.fields #[.ref l,.int 0 0] }).push { cls:=.type "enumerate",data:=.fields #[.none,.bool false,.ref s.heap.objs.size,AM 0,.none,.none] }) (s.heap.objs.size+1) s.heap.objs.size 0 .none:=by
  have:=MG (s.heap.push { cls:=.type "tuple_iterator",data:=.fields #[.ref l,.int 0 0] }) (o:={ cls:=.type "enumerate",data:=.fields #[.none,.bool false,.ref s.heap.objs.size,AM 0,.none,.none] }) rfl
  rw[hz] at this;exact this
 exact⟨⟨_,he,rfl⟩,h _ he ⟨_,Mf _ (MG _ rfl),rfl,rfl⟩ fun b o x=>Mf _ (Mf _ x)⟩
theorem em (hL:s.heap.IsList l items) (h:∀ h',BM h' (s.heap.objs.size+1) s.heap.objs.size 0 .none->h'.IsListIter s.heap.objs.size l 0->(∀ b o,s.heap.get? b=some o->h'.get? b=some o)->Q (.ref (s.heap.objs.size+1)) { s with heap:=h' }):
  wpAny (Aj prog w) A (call (.type "enumerate") [.ref l]) Q E s:=by
 obtain⟨⟨c,dct,dt,sl⟩,hl,hc,n,hd⟩:=hL
 simp only at hc hd
 subst hc hd
 refine ZQ (Q₁:=fun obj s₁=>s₁.TypeIs obj "enumerate"/\Q obj s₁) Ps (chk10 _) (chk20 _) Zx Zy (ei l items n dct sl) ⟨hl,?_⟩
  fun obj s₁ hq=>⟨hq.1,F.args_object_init_2 obj _,_,Rg Ps.init.lookup Ps.made (by decide),hq.1,rfl,hq.2⟩
 have hz:(s.heap.push { cls:=.type "list_iterator",data:=.fields #[.ref l,.int 0 0] }).objs.size=s.heap.objs.size+1:=Om ..
 show _/\_
 rw[hz]
 have he:BM ((s.heap.push { cls:=.type "list_iterator",data:=.fields #[.ref l,.int 0 0] }).push { cls:=.type "enumerate",data:=.fields #[.none,.bool false,.ref s.heap.objs.size,AM 0,.none,.none] }) (s.heap.objs.size+1) s.heap.objs.size 0 .none:=by
  have:=MG (s.heap.push { cls:=.type "list_iterator",data:=.fields #[.ref l,.int 0 0] }) (o:={ cls:=.type "enumerate",data:=.fields #[.none,.bool false,.ref s.heap.objs.size,AM 0,.none,.none] }) rfl
  rw[hz] at this;exact this
 exact⟨⟨_,he,rfl⟩,h _ he ⟨_,Mf _ (MG _ rfl),rfl,rfl⟩ fun b o x=>Mf _ (Mf _ x)⟩
end
section
variable {X:Cx}
def W_ (te:TE):TI:=fun σ H R=>te σ H (N4 0 R)
theorem Tw (hg:Gl X "enumerate") (hm:X.mg "enumerate"=none) (ha:PE X a ta) (hs:Ah [a] X.env=[(false,As a X.env)]:=by rfl):
  PI X (.Tuple elts k tpos) (.Call (.Name "enumerate" p) [a] [] pos) (W_ ta):=by
 intro B_ s σ H R I h
 refine Call_ (QC I hg hm BN (UJ ?_ hs rfl))
 rw[hs]
 show wpAny _ _ (BC ((false,As a X.env)::AA pos (Ah [] X.env))) _ _ s
 refine SE (thn (ha B_ s σ H _ I h) fun u s2 ⟨x,H2,I2,ru,q2⟩=>UK ?_)
 unfold N4 at q2
 split at q2
 ·rename_i l
  cases ru
  have fp:∀ b∈[s2.heap.objs.size+1,s2.heap.objs.size],FpOk X B_ H2 b:=fun b hb=>by
   have:s2.heap.objs.size<=b:=by
    rcases Mo.mp hb with z | z
    ·rw[z];exact Qw _
    ·have z':b=s2.heap.objs.size:=by simpa using z
     rw[z'];exact L' _
   exact I2.fpOk this (I2.hok.fresh this)
  rcases q2 with ⟨xs,hl,q2⟩ | ⟨xs,hl,q2⟩
  ·obtain⟨its,rv,pl,hz⟩:=I2.list (SqL.of hl)
   refine em pl.isList fun h1 he D7 hk=>?_
   refine AU he ?_
   refine⟨s2.heap.objs.size+1,[s2.heap.objs.size+1,s2.heap.objs.size],_,_,H2,rfl,I2.kept (t':=s2.toks) hk,Wf (b:=0) (ok:=fun H=>H l=some (.lst xs)) (xs:=xs) (St0:=fun i h=>h.IsListIter s2.heap.objs.size l i) (U' _) ?_ ?_ ?_,⟨⟨.none,he⟩,D7⟩,fp,q2⟩
   ·intro X' h1 h2 h3 hc i B_ s σ H I ok hn st
    exact h1▸h2▸Wi hc I (SqL.of ok) hn (by rw[ok];exact fun z=>nomatch z) st
   ·intro i h st
    obtain⟨o,ho,hc,hd⟩:=st
    exact⟨o,ho,fun v q=>by rw[hd] at q;cases q⟩
   ·intro i h h' st kk
    exact st.at kk
  ·obtain⟨its,rv,pl,hz⟩:=I2.tuple (SqT.of hl)
   refine ek pl fun h1 he D7 hk=>?_
   refine AU he ?_
   refine⟨s2.heap.objs.size+1,[s2.heap.objs.size+1,s2.heap.objs.size],_,_,H2,rfl,I2.kept (t':=s2.toks) hk,Wf (b:=0) (ok:=fun H=>H l=some (.tup xs)) (xs:=xs) (St0:=fun i h=>h.IsTupleIter s2.heap.objs.size l i) (U' _) ?_ ?_ ?_,⟨⟨.none,he⟩,D7⟩,fp,q2⟩
   ·intro X' h1 h2 h3 hc i B_ s σ H I ok hn st
    exact h1▸h2▸S8 hc I (SqT.of ok) hn (by rw[ok];exact fun z=>nomatch z) st
   ·intro i h st
    obtain⟨o,ho,hc,hd⟩:=st
    exact⟨o,ho,fun v q=>by rw[hd] at q;cases q⟩
   ·intro i h h' st kk
    exact st.at kk
 ·exact q2.elim
end
end L2
namespace L2
open PySem PySem.Spec PyProof.Rows
structure Dm (P:Ak)(w:Am)(K:L3)(mg:Str->Option Ad)(base:Ap)(C:Ac)(m:Str)(k:Nat)(ps:List Str)(sp:Sp):Prop where
 ex:∃(f:Ac) (fd:Ay),Meth K C m f/\Binds K fd ps []/\FnOk P w K mg base CX0 k f fd ps sp
structure Dk (P:Ak)(w:Am)(K:L3)(mg:Str->Option Ad)(base:Ap)(C:Ac)(k:Nat)(ps:List Str)(sp:Sp):Prop where
 ex:∃(f:Ac) (fd:Ay),Mk K C f/\Binds K fd ps []/\FnOk P w K mg base CX0 k f fd ps sp
section
variable {X:Cx}{k:Nat}{C:Ac}{ps:List Str}{sp:Sp}{x m:Str}{p pos Ct:Pos}{e o:Ax}{es:List Ax}{ta:TE}{t:TA}
theorem Se (he:PE X o ta) (c:Cls X.K C) (D:Dm X.prog X.w X.K X.mg X.base C m k ps sp) (hr:Room k X.A) (ha:PA X (e::es) t) (C5:Ah (e::es) X.env=(false,As e X.env)::Ah es X.env:=by rfl) (Cz:(AA pos (Ah es X.env)).any (·.1)=false:=by rfl) (ht:As (.Call (.Attribute o m Ct) (e::es) [] pos) X.env=(do
   let ov <- As o X.env
   Bm Ct.atName
   let (f,first) <- Bf [ov] (Bq ov m pl)
   BK pos f first (AA pos (Ah (e::es) X.env)) (A_ pos (AS [] X.env))):=by rfl):
  PE X (.Call (.Attribute o m Ct) (e::es) [] pos) (Q3 C m sp [] E0 ta t):=by
 obtain⟨f,fd,h1,h2,h3⟩:=D.ex
 exact VE he c h1 h3 hr h2 .nil PZ ha C5 Cz ht
theorem Tx (D:Dk X.prog X.w X.K X.mg X.base C k ps sp)(hr:Room (k+1) X.A)(hg:Gl X x)(hm:X.mg x=some (.ref C))(ha:PA X (e::es) t)
  (Dl:(x == ("__debug__":Str))=false:=by decide) (he:Ah (e::es) X.env=(false,As e X.env)::Ah es X.env:=by rfl) (Cz:(AA pos (Ah es X.env)).any (·.1)=false:=by rfl) :
  PE X (.Call (.Name x p) (e::es) [] pos) (PV C sp [] E0 t):=by
 obtain⟨f,fd,h1,h2,h3⟩:=D.ex
 exact bO h1 h3 hr hg hm h2 .nil PZ ha Dl he Cz
end
section
variable {σ:St}{H:Hp}{Q:VK}{D:Ends}
theorem Pf (h:ta σ H fun x H1=>∃ a dx fs,x=.ref a/\H1 a=some (.ins C dx fs)/\fs.lookup m=none/\t σ H1 fun vs H2=>sp (x::(vs++[])) H2 Q E):Q3 C m sp [] E ta t σ H Q:=h
theorem Pg (h1:H a=some (.ins C dx fs)) (h2:fs.lookup m=none) (h:R):∃ a' dx' fs',V.ref a=.ref a'/\H a'=some (.ins C dx' fs')/\fs'.lookup m=none/\R:=⟨a,dx,fs,rfl,h1,h2,h⟩
theorem Qb (h:t σ H fun vs H1=>∀ x dx,H1 x=none->H1 dx=none->dx≠x->sp (.ref x::(vs++[])) (upd (upd H1 dx (.own x)) x (.ins C dx [])) (fun v H2=>v=.non/\Q (.ref x) H2) E):PV C sp [] E t σ H Q:=h
theorem Nr {K:L3}{ta:TE}{f:Str}(h:ta σ H fun x H1=>∃ a C dx fs v,x=.ref a/\H1 a=some (.ins C dx fs)/\Cls K C/\NoAttr K C f/\fs.lookup f=some v/\Q v H1):tFld K ta f σ H Q:=h
theorem Ph {K:L3}{ta tv:TE}{f:Str}(h:tv σ H fun y H1=>ta σ H1 fun x H2=>∃ a C dx fs,x=.ref a/\H2 a=some (.ins C dx fs)/\Cls K C/\NoAttr K C f/\fs.length < 1000/\D.nx σ (upd H2 a (.ins C dx (putF f y fs)))):sFld K ta tv f D σ H:=h
theorem Nt {K:L3}{a C dx:Ac}{fs:List (Str×V)}{f:Str}{v:V}{R:V->Prop}(h1:H a=some (.ins C dx fs))(c:Cls K C)(n:NoAttr K C f)(l:fs.lookup f=some v)(h:R v):∃ a' C' dx' fs' v',V.ref a=.ref a'/\H a'=some (.ins C' dx' fs')/\Cls K C'/\NoAttr K C' f/\fs'.lookup f=some v'/\R v':=⟨a,C,dx,fs,v,rfl,h1,c,n,l,h⟩
theorem Pi {K:L3}{a C dx:Ac}{fs:List (Str×V)}{f:Str}{y:V}{R:Hp->Prop}(h1:H a=some (.ins C dx fs))(c:Cls K C)(n:NoAttr K C f)(l:fs.length < 1000)(h:R (upd H a (.ins C dx (putF f y fs)))) :
  ∃ a' C' dx' fs',V.ref a=.ref a'/\H a'=some (.ins C' dx' fs')/\Cls K C'/\NoAttr K C' f/\fs'.length < 1000/\R (upd H a' (.ins C' dx' (putF f y fs'))):=⟨a,C,dx,fs,rfl,h1,c,n,l,h⟩
end
end L2
namespace L2
open PySem
open Sem (wp)
structure ZA (z TI TO i1 i2:Ac)(f1 f2:List Ac):Prop where
 TIz:TI≠z
 TOz:TO≠z
 i1z:i1≠z
 i2z:i2≠z
 TITO:TI≠TO
 TIi1:TI≠i1
 TIi2:TI≠i2
 TOi1:TO≠i1
 TOi2:TO≠i2
 i12:i1≠i2
 zf1:z∉f1
 zf2:z∉f2
 of1:TO∉f1
 of2:TO∉f2
 i1f2:i1∉f2
 i2f1:i2∉f1
theorem Draws.still {P:Ak}{w:Am}{A:Ao}{it c:Ac}{fp:List Ac}{n i:Nat}{Pv:Nat->Ad->Prop}{St:Nat->Ap->Prop}{h h':Ap}(D:Draws P w A it fp n Pv St)(st:St i h)(k:Heap.ExtBut c h h')(hc:c∉fp):St i h' :=
 D.frame _ _ _ st fun b hb o e=>k b o (fun z=>hc (z▸hb)) e
section
variable {prog:Ak}{w:Am}{A:Ao}{E:Ad->Af->Prop}{s:Af}
theorem ez {z TI TO i1 i2:Ac}{f1 f2:List Ac}{n1 n2 k1 k2:Nat}{P1 P2:Nat->Ad->Prop}{S1 S2:Nat->Ap->Prop}{a b:Ad}{Q:Ad->Af->Prop}
  (D1:Draws prog w A i1 f1 n1 P1 S1) (D2:Draws prog w A i2 f2 n2 P2 S2) (Z:ZA z TI TO i1 i2 f1 f2)
  (hz:Bx s.heap z TI TO .none) (IF:AX s.heap TI (.ref i1) (.ref i2)) (IG:AX s.heap TO a b) (h1:S1 k1 s.heap) (h2:S2 k2 s.heap) (l1:k1 < n1) (l2:k2 < n2)
  (hQ:∀ x y h' tk,P1 k1 x->P2 k2 y->Bx h' z TI TO (AM s.heap.objs.size)->AX h' TO x y->S1 (k1+1) h'->S2 (k2+1) h'->AX h' s.heap.objs.size x y ->
   (∀ c o,c≠z->c≠TO->c≠i1->c≠i2->s.heap.get? c=some o->h'.get? c=some o)->Q (.ref s.heap.objs.size) { s with heap:=h',toks:=tk }) :
  wpAny (Aj prog w) A (Builtin.«zip.__next__» ⟨[.ref z],[]⟩) (fun fin s'=>∃ v,fin=.done (.ret v)/\Q v s') E s:=by
 show wpAny _ _ (field (.ref z) 2 >>= _) _ _ _
 refine Aa (Aw hz rfl (x:=.bool false) rfl ?_)
 show wpAny _ _ (field (.ref z) 3 >>= _) _ _ _
 refine Aa (Aw hz rfl (x:=.ref TI) rfl (Aa (AF IF rfl ?_)))
 show wpAny _ _ (ZB (.ref z) >>= _) _ _ _
 refine Aa ?_
 unfold ZB
 refine Aa (Aw hz rfl (x:=.none) rfl (Ag ?_))
 simp only[if_true]
 refine Aa (B0 (Aa (Aw hz rfl (x:=.ref TO) rfl (Aa (AQ hz (by simp) fun g1 zg1 b1=>?_)))))
 have zg1':Bx g1 z TI TO .ellipsis:=zg1
 refine Aa ?_
 simp only[List.zipIdx_cons,List.zipIdx_nil,U8,List.forIn_nil]
 refine Aa (Aa (A4 ?_))
 show wpAny _ _ (R' (.ref i1) >>= _) _ _ _
 refine Aa (D1.item k1 _ _ _ l1 (Draws.still D1 h1 b1.extBut Z.zf1) fun x g2 tk1 hx h1' b2=>Ag ?_)
 have to2:AX g2 TO a b:=b2.extBut _ _ Z.TOi1 (b1.extBut _ _ Z.TOz IG)
 refine Aa (AF to2 rfl (Aa (Bg to2 fun g3 to3 b3=>?_)))
 have to3':AX g3 TO x b:=to3
 refine Aa (A8 (Ag ?_))
 refine Aa (Aa (A4 ?_))
 show wpAny _ _ (R' (.ref i2) >>= _) _ _ _
 refine Aa (D2.item k2 _ _ _ l2 (Draws.still D2 (Draws.still D2 (Draws.still D2 h2 b1.extBut Z.zf2) b2.extBut Z.i1f2) b3.extBut Z.of2) fun y g4 tk2 hy h2' b4=>Ag ?_)
 have to4:AX g4 TO x b:=b4.extBut _ _ Z.TOi2 to3'
 refine Aa (AF to4 rfl (Aa (Bg to4 fun g5 to5 b5=>?_)))
 have to5':AX g5 TO x y:=to5
 refine Aa (A8 (Ag (Ag ?_)))
 refine Aa (AF to5' rfl (Aa (wpAny_newTuple ?_)))
 have sz:g5.objs.size=s.heap.objs.size:=by rw[b5.1,b4.1,b3.1,b2.1,b1.1]
 have zg5:Bx g5 z TI TO .ellipsis:=b5.extBut _ _ Z.TOz.symm (b4.extBut _ _ Z.i2z.symm (b3.extBut _ _ Z.TOz.symm (b2.extBut _ _ Z.i1z.symm zg1')))
 have kp:∀ c o,c≠z->c≠TO->c≠i1->c≠i2->s.heap.get? c=some o->g5.get? c=some o:=fun c o c1 c2 c3 c4 e =>
  b5.extBut _ _ c2 (b4.extBut _ _ c4 (b3.extBut _ _ c2 (b2.extBut _ _ c3 (b1.extBut _ _ c1 e))))
 have s1:S1 (k1+1) g5:=Draws.still D1 (Draws.still D1 (Draws.still D1 h1' b3.extBut Z.of1) b4.extBut Z.i2f1) b5.extBut Z.of1
 have s2:S2 (k2+1) g5:=Draws.still D2 h2' b5.extBut Z.of2
 have zlt:z < g5.objs.size:=Ml zg5
 show wpAny _ _ (jd (.ref z) (.ref g5.objs.size) >>= _) _ _ _
 refine Aa ?_
 unfold jd
 have zg6:Bx (g5.push { cls:=.type "tuple",data:=.seq #[x,y] }) z TI TO .ellipsis:=Mf _ zg5
 refine Aa (AQ zg6 (by simp) fun g7 zg7 b7=>?_)
 have zg7':Bx g7 z TI TO (AM g5.objs.size):=zg7
 refine AQ zg7' (by simp) fun g8 zg8 b8=>?_
 have zg8':Bx g8 z TI TO (AM g5.objs.size):=zg8
 have up:∀ c o,c≠z->g5.get? c=some o->g8.get? c=some o:=fun c o c1 e=>b8.extBut _ _ c1 (b7.extBut _ _ c1 (Mf _ e))
 have tp:AX g8 g5.objs.size x y:=b8.extBut _ _ (Sx zlt) (b7.extBut _ _ (Sx zlt) (MG _ rfl))
 rw[sz] at zg8' tp
 refine Ag ⟨_,rfl,?_⟩
 show Q (.ref g5.objs.size) _
 rw[sz]
 exact hQ x y g8 _ hx hy zg8' (up _ _ Z.TOz to5') (D1.frame _ _ _ s1 fun c hc o e=>up c o (fun q=>Z.zf1 (q▸hc)) e) (D2.frame _ _ _ s2 fun c hc o e=>up c o (fun q=>Z.zf2 (q▸hc)) e) tp fun c o c1 c2 c3 c4 e=>up c o c1 (kp c o c1 c2 c3 c4 e)
theorem eA {z TI TO i1 i2:Ac}{f1 f2:List Ac}{n1 n2 k:Nat}{P1 P2:Nat->Ad->Prop}{S1 S2:Nat->Ap->Prop}{a b:Ad}{Q:Fin->Af->Prop}
  (D1:Draws prog w A i1 f1 n1 P1 S1) (D2:Draws prog w A i2 f2 n2 P2 S2) (Z:ZA z TI TO i1 i2 f1 f2)
  (hz:Bx s.heap z TI TO .none) (IF:AX s.heap TI (.ref i1) (.ref i2)) (IG:AX s.heap TO a b) (h1:S1 k s.heap) (h2:S2 k s.heap) (hk:k=min n1 n2)
  (hE:∀ h' e tk,(∀ c o,c≠z->c≠TO->c≠i1->c≠i2->s.heap.get? c=some o->h'.get? c=some o)->(∃ o,h'.get? e=some o/\o.cls=.type "StopIteration")->E (.ref e) { s with heap:=h',toks:=tk }) :
  wpAny (Aj prog w) A (Builtin.«zip.__next__» ⟨[.ref z],[]⟩) Q E s:=by
 show wpAny _ _ (field (.ref z) 2 >>= _) _ _ _
 refine Aa (Aw hz rfl (x:=.bool false) rfl ?_)
 show wpAny _ _ (field (.ref z) 3 >>= _) _ _ _
 refine Aa (Aw hz rfl (x:=.ref TI) rfl (Aa (AF IF rfl ?_)))
 show wpAny _ _ (ZB (.ref z) >>= _) _ _ _
 refine Aa ?_
 unfold ZB
 refine Aa (Aw hz rfl (x:=.none) rfl (Ag ?_))
 simp only[if_true]
 refine Aa (B0 (Aa (Aw hz rfl (x:=.ref TO) rfl (Aa (AQ hz (by simp) fun g1 zg1 b1=>?_)))))
 have zg1':Bx g1 z TI TO .ellipsis:=zg1
 refine Aa ?_
 simp only[List.zipIdx_cons,List.zipIdx_nil,U8,List.forIn_nil]
 refine Aa (Aa (A4 ?_))
 show wpAny _ _ (R' (.ref i1) >>= _) _ _ _
 have JP:=Draws.still D1 h1 b1.extBut Z.zf1
 by_cases c:n1<=n2
 ·have e:k=n1:=by omega
  subst e
  refine Aa (D1.done _ _ _ JP fun g2 e b2 he=>?_)
  obtain⟨oe,F4,G1⟩:=he
  have zg2:Bx g2 z TI TO .ellipsis:=b2 _ _ Z.i1z.symm zg1'
  have IH:e≠z:=fun x=>by subst x;rw[zg2] at F4;cases F4;simp at G1
  exact AQ zg2 (by simp) fun g3 _ b3=>hE g3 e _ (fun c o c1 _ c3 _ x=>b3.extBut _ _ c1 (b2 _ _ c3 (b1.extBut _ _ c1 x))) ⟨oe,b3.extBut _ _ IH F4,G1⟩
 ·have e:k=n2:=by omega
  subst e
  refine Aa (D1.item k _ _ _ (by omega) JP fun x g2 tk1 hx h1' b2=>Ag ?_)
  have to2:AX g2 TO a b:=b2.extBut _ _ Z.TOi1 (b1.extBut _ _ Z.TOz IG)
  refine Aa (AF to2 rfl (Aa (Bg to2 fun g3 to3 b3=>?_)))
  refine Aa (A8 (Ag ?_))
  refine Aa (Aa (A4 ?_))
  show wpAny _ _ (R' (.ref i2) >>= _) _ _ _
  refine Aa (D2.done _ _ _ (Draws.still D2 (Draws.still D2 (Draws.still D2 h2 b1.extBut Z.zf2) b2.extBut Z.i1f2) b3.extBut Z.of2) fun g4 e b4 he=>?_)
  obtain⟨oe,F4,G1⟩:=he
  have zg4:Bx g4 z TI TO .ellipsis:=b4 _ _ Z.i2z.symm (b3.extBut _ _ Z.TOz.symm (b2.extBut _ _ Z.i1z.symm zg1'))
  have IH:e≠z:=fun x=>by subst x;rw[zg4] at F4;cases F4;simp at G1
  exact AQ zg4 (by simp) fun g5 _ b5=>hE g5 e _ (fun c o c1 c2 c3 c4 x=>b5.extBut _ _ c1 (b4 _ _ c4 (b3.extBut _ _ c2 (b2.extBut _ _ c3 (b1.extBut _ _ c1 x))))) ⟨oe,b5.extBut _ _ IH F4,G1⟩
end
theorem Xa {prog:Ak}{w:Am}{A:Ao}{z TI TO i1 i2:Ac}{f1 f2:List Ac}{n1 n2:Nat}{P1 P2:Nat->Ad->Prop}{S1 S2:Nat->Ap->Prop}
  (D1:Draws prog w A.in1 i1 f1 n1 P1 S1) (D2:Draws prog w A.in1 i2 f2 n2 P2 S2) (Z:ZA z TI TO i1 i2 f1 f2) (m1:i1∈f1) (m2:i2∈f2) :
  WalksT prog w A z (z::TI::TO::(f1++f2)) [z,TO,i1,i2] (min n1 n2)
   (fun i vals=>∃ x y,P1 i x/\P2 i y/\vals=#[x,y])
   (fun i h=>Bx h z TI TO .none/\AX h TI (.ref i1) (.ref i2)/\(∃ a b,AX h TO a b)/\S1 i h/\S2 i h)
   (fun i T h=>Bx h z TI TO (AM T)/\AX h TI (.ref i1) (.ref i2)/\(∃ a b,AX h TO a b)/\S1 (i+1) h/\S2 (i+1) h/\T≠z/\T≠TO/\T≠i1/\T≠i2) where
 sub:=fun c hc=>by
  simp only[Mo,Oc,or_false] at hc
  rcases hc with rfl | rfl | rfl | rfl
  ·simp
  ·simp
  ·simp[m1]
  ·simp[m2]
 frame:=fun i h h' st k=>by
  obtain⟨a1,a2,⟨a,b,a3⟩,a4,a5⟩:=st
  exact⟨k z (by simp) _ a1,k TI (by simp) _ a2,⟨a,b,k TO (by simp) _ a3⟩,D1.frame _ _ _ a4 fun c hc o e=>k c (by simp[hc]) o e,D2.frame _ _ _ a5 fun c hc o e=>k c (by simp[hc]) o e⟩
 item:=fun i s Q E hi st hQ=>by
  obtain⟨a1,a2,⟨a,b,a3⟩,a4,a5⟩:=st
  have hT:s.TypeIs (.ref z) "zip":=⟨_,a1,rfl⟩
  have lt:∀{c o},s.heap.get? c=some o->s.heap.objs.size≠c:=fun e=>Sx (Ml e)
  unfold pyNext
  refine Aa (BY (AK (name:=Mg "__next__") hT Zz (A3 Zz hT F.entry_zip_next
   (ez D1 D2 Z a1 a2 a3 a4 a5 (by omega) (by omega) fun x y h' tk hx hy c1 c2 c3 c4 c5 hk=>Ag ?_) (F.args_zip_next_1 _))))
  exact hQ s.heap.objs.size #[x,y] h' tk ⟨x,y,hx,hy,rfl⟩ (L' _) ⟨_,c5,rfl,_,rfl⟩
   ⟨c1,hk _ _ Z.TIz Z.TITO Z.TIi1 Z.TIi2 a2,⟨_,_,c2⟩,c3,c4,lt a1,lt a3,(by obtain⟨_,e⟩:=D1.live _ _ a4;exact lt e),(by obtain⟨_,e⟩:=D2.live _ _ a5;exact lt e)⟩
   fun c o hc e=>hk c o (fun q=>hc (by simp[q])) (fun q=>hc (by simp[q])) (fun q=>hc (by simp[q])) (fun q=>hc (by simp[q])) e
 go:=fun elts k pos i T s Q E hm hQ=>by
  obtain⟨a1,a2,⟨a,b,a3⟩,a4,a5,_⟩:=hm
  exact wpAny_letOwnedTupleGo_zip a1 fun h' z' b'=>hQ h' ⟨z',b'.extBut _ _ Z.TIz a2,⟨a,b,b'.extBut _ _ Z.TOz a3⟩,Draws.still D1 a4 b'.extBut Z.zf1,Draws.still D2 a5 b'.extBut Z.zf2⟩
   fun c o hc e=>b'.extBut _ _ (fun q=>hc (by simp[q])) e
 apart:=fun i T h hm hT=>by
  obtain⟨_,_,_,_,_,t1,t2,t3,t4⟩:=hm
  simp only[Mo,Oc,or_false] at hT
  rcases hT with q | q | q | q
  ·exact t1 q
  ·exact t2 q
  ·exact t3 q
  ·exact t4 q
 done:=fun s Q E st hQ=>by
  obtain⟨a1,a2,⟨a,b,a3⟩,a4,a5⟩:=st
  have hT:s.TypeIs (.ref z) "zip":=⟨_,a1,rfl⟩
  unfold pyNext
  refine Aa (BY (AK (name:=Mg "__next__") hT Zz (A3 Zz hT F.entry_zip_next
   (eA D1 D2 Z a1 a2 a3 a4 a5 rfl fun h' e tk hk he=>?_) (F.args_zip_next_1 _))))
  obtain⟨o,ho,hc⟩:=he
  refine Aa (wpAny_isInstance (T:="StopIteration") (b:=true) ⟨o,ho,hc⟩ isSubtype_stop ?_)
  exact Ag (hQ _ _ fun c o hc e=>hk c o (fun q=>hc (by simp[q])) (fun q=>hc (by simp[q])) (fun q=>hc (by simp[q])) (fun q=>hc (by simp[q])) e)
 self:=fun i s Q E st hQ=>BB st.1 hQ
noncomputable abbrev zs1 (h:Ap)(x:Str)(t:Tok):Ap:=h.push { cls:=.type (AO x),data:=.fields #[.str x t,.int 0 0] }
noncomputable abbrev zs2 (h:Ap)(x:Str)(t:Tok)(l:Ac):Ap:=(zs1 h x t).push { cls:=.type "tuple_iterator",data:=.fields #[.ref l,.int 0 0] }
noncomputable abbrev zs3 (h:Ap)(x:Str)(t:Tok)(l:Ac):Ap:=(zs2 h x t l).push { cls:=.type "tuple",data:=.seq #[.ref h.objs.size,.ref (zs1 h x t).objs.size] }
noncomputable abbrev zs4 (h:Ap)(x:Str)(t:Tok)(l:Ac):Ap:=(zs3 h x t l).push { cls:=.type "tuple",data:=.seq #[.none,.none] }
noncomputable abbrev zs5 (h:Ap)(x:Str)(t:Tok)(l:Ac):Ap:=(zs4 h x t l).push { cls:=.type "zip",data:=.fields #[.none,.bool false,.bool false,.ref (zs2 h x t l).objs.size,.ref (zs3 h x t l).objs.size] }
theorem eB {h:Ap}{l:Ac}{ys:Array Ad}(hl:h.IsTuple l ys)(o:Obj):(h.push o).IsTuple l ys:=by
 obtain⟨u,e,r⟩:=hl
 exact⟨u,Mf _ e,r⟩
set_option maxHeartbeats 4000000 in
theorem eC (x:Str)(t:Tok)(l:Ac)(ys:Array Ad) :
  Meets (Builtin.«zip.__new__» ⟨[.type "zip",.str x t,.ref l],[]⟩) (fun _ R s=>s.heap.IsTuple l ys /\
   R (.ok (.ret (.ref (zs4 s.heap x t l).objs.size))) { s with heap:=zs5 s.heap x t l }) :=
 .of_wp fun prog w A R s h=>by
  obtain⟨hp,g,d,tk,os⟩:=s;obtain⟨hl,h⟩:=h
  have Eg:=sub_zip
  have hL:Z5 (Vi ⟨hp.push { cls:=.type (AO x),data:=.fields #[.str x t,.int 0 0] },g,d,tk,os⟩) l ys:=eB hl _
  wp_walk using wpAny_pyIter_strU,AG hL
  exact⟨_,rfl,h⟩
section
variable {prog:Ak}{w:Am}{A:Ao}{E:Ad->Af->Prop}{s:Af}
theorem eD (hl:s.heap.IsTuple l ys) (h:∀ h',Bx h' (s.heap.objs.size+4) (s.heap.objs.size+2) (s.heap.objs.size+3) .none->AX h' (s.heap.objs.size+2) (.ref s.heap.objs.size) (.ref (s.heap.objs.size+1)) ->
   AX h' (s.heap.objs.size+3) .none .none->h'.IsStrIter s.heap.objs.size (AO x) x t 0->h'.IsTupleIter (s.heap.objs.size+1) l 0 ->
   (∀ c o,s.heap.get? c=some o->h'.get? c=some o)->Q (.ref (s.heap.objs.size+4)) { s with heap:=h' }):
  wpAny (Aj prog w) A (call (.type "zip") [.str x t,.ref l]) Q E s:=by
 refine callType_new F.called_zip (by decide) (F.typeCall_zip_2 _ _) (F.newCall_zip_2 _ _) (fun obj=>F.args_object_init_3 obj _ _) F.entry_zip_new (eC x t l ys) ⟨hl,?_⟩
 have z1:(zs1 s.heap x t).objs.size=s.heap.objs.size+1:=Om ..
 have z2:(zs2 s.heap x t l).objs.size=s.heap.objs.size+2:=by rw[Om,z1]
 have z3:(zs3 s.heap x t l).objs.size=s.heap.objs.size+3:=by rw[Om,z2]
 have z4:(zs4 s.heap x t l).objs.size=s.heap.objs.size+4:=by rw[Om,z3]
 have p5:(zs5 s.heap x t l).get? (zs4 s.heap x t l).objs.size=some _:=MG _ rfl
 have p4:(zs5 s.heap x t l).get? (zs3 s.heap x t l).objs.size=some _:=Mf _ (MG _ rfl)
 have p3:(zs5 s.heap x t l).get? (zs2 s.heap x t l).objs.size=some _:=Mf _ (Mf _ (MG _ rfl))
 have p2:(zs5 s.heap x t l).get? (zs1 s.heap x t).objs.size=some _:=Mf _ (Mf _ (Mf _ (MG _ rfl)))
 have p1:(zs5 s.heap x t l).get? s.heap.objs.size=some _:=Mf _ (Mf _ (Mf _ (Mf _ (MG _ rfl))))
 show _/\_
 rw[z2,z3,z4] at p5
 rw[z1,z2] at p3
 rw[z3] at p4
 rw[z1] at p2
 rw[z4]
 exact⟨⟨_,p5,rfl⟩,h _ p5 p3 p4 ⟨_,p1,rfl,rfl⟩ ⟨_,p2,rfl,rfl⟩ fun c o e=>Mf _ (Mf _ (Mf _ (Mf _ (Mf _ e))))⟩
end
end L2
namespace L2
open PySem PySem.Spec PyProof.Rows
noncomputable def Izp (xs ys:List V)(ok:Hp->Prop):It :=
 ⟨fun i H=>ok H/\i < xs.length/\i < ys.length,fun i H x H'=>∃ T u v,H T=none/\xs[i]?=some u/\ys[i]?=some v/\x=.ref T/\H'=upd H T (PrX T [u,v]),fun i H=>ok H/\i=min xs.length ys.length⟩
theorem eE {P:Ak}{w:Am}{K:L3}{elts:List Ax}{k:Nat}{pos:Pos}{z TI TO i1 i2:Ac}{xs ys:List V}{ok:Hp->Prop}{S1 S2:Nat->Ap->Prop}
  (n1:TI≠z) (n2:TO≠z) (n3:i1≠z) (n4:i2≠z) (n5:TI≠TO) (n6:TI≠i1) (n7:TI≠i2) (n8:TO≠i1) (n9:TO≠i2) (n10:i1≠i2)
  (JQ:∀(X:Cx),X.prog=P->X.w=w->X.K=K->X.calm=true->∀(i:Nat) (B_:List (Ac×Obj)) (s:Af) (σ:St) (H:Hp),Inv X B_ σ H s->ok H->H i1=none->S1 i s.heap->O0 P w X.A.in1 i1 xs S1 H i s.heap)
  (JR:∀(X:Cx),X.prog=P->X.w=w->X.K=K->X.calm=true->∀(i:Nat) (B_:List (Ac×Obj)) (s:Af) (σ:St) (H:Hp),Inv X B_ σ H s->ok H->H i2=none->S2 i s.heap->O0 P w X.A.in1 i2 ys S2 H i s.heap)
  (o1:∀ i h,S1 i h->∃ o,h.get? i1=some o/\∀ v,o.data≠.cell v) (o2:∀ i h,S2 i h->∃ o,h.get? i2=some o/\∀ v,o.data≠.cell v)
  (k1:∀ i h h',S1 i h->(∀ o,h.get? i1=some o->h'.get? i1=some o)->S1 i h') (k2:∀ i h h',S2 i h->(∀ o,h.get? i2=some o->h'.get? i2=some o)->S2 i h') :
  Turn P w K (.Tuple elts k pos) (Izp xs ys ok) [z,TI,TO,i1,i2] z (fun i h=>Bx h z TI TO .none/\AX h TI (.ref i1) (.ref i2)/\(∃ a b,AX h TO a b)/\S1 i h/\S2 i h) where
 mem:=by simp
 obj:=fun i h st c hc=>by
  obtain⟨a1,a2,⟨a,b,a3⟩,a4,a5⟩:=st
  simp only[Mo,Oc,or_false] at hc
  rcases hc with q | q | q | q | q <;> rw[q]
  ·exact⟨_,a1,fun v q=>by have q':Data.fields _=Data.cell v:=q;cases q'⟩
  ·exact⟨_,a2,fun v q=>by have q':Data.seq _ _=Data.cell v:=q;cases q'⟩
  ·exact⟨_,a3,fun v q=>by have q':Data.seq _ _=Data.cell v:=q;cases q'⟩
  ·exact o1 i h a4
  ·exact o2 i h a5
 keep:=fun i h h' st kk=>by
  obtain⟨a1,a2,⟨a,b,a3⟩,a4,a5⟩:=st
  exact⟨kk z (by simp) _ a1,kk TI (by simp) _ a2,⟨a,b,kk TO (by simp) _ a3⟩,k1 i h h' a4 fun o q=>kk i1 (by simp) o q,k2 i h h' a5 fun o q=>kk i2 (by simp) o q⟩
 item:=by
  intro X hP hw hK hc i B_ s σ H E I hf st hg
  subst hP hw hK
  obtain⟨a1,a2,⟨a,b,a3⟩,a4,a5⟩:=st
  obtain⟨hok,F_,JI⟩:=hg
  obtain⟨f1,P1,T1,D1,m1,FE,st1,r1,bk1⟩:=JQ X rfl rfl rfl hc i B_ s σ H I hok (hf i1 (by simp)).1 a4
  obtain⟨f2,P2,T2,D2,m2,FF,st2,r2,bk2⟩:=JR X rfl rfl rfl hc i B_ s σ H I hok (hf i2 (by simp)).1 a5
  have out1:∀ c∈[z,TI,TO,i1,i2],c≠i1->c∉f1:=fun c hc hn q=>by
   rcases FE c q with e | e
   ·exact hn e
   ·exact e (hf c hc).1
  have out2:∀ c∈[z,TI,TO,i1,i2],c≠i2->c∉f2:=fun c hc hn q=>by
   rcases FF c q with e | e
   ·exact hn e
   ·exact e (hf c hc).1
  have Z:ZA z TI TO i1 i2 f1 f2:=⟨n1,n2,n3,n4,n5,n6,n7,n8,n9,n10,out1 z (by simp) n3.symm,out2 z (by simp) n4.symm,out1 TO (by simp) n8,out2 TO (by simp) n9,out2 i1 (by simp) n10,out1 i2 (by simp) n10.symm⟩
  have W:=Xa D1 D2 Z m1 m2
  refine W.item i s _ E (by omega) ⟨a1,a2,⟨a,b,a3⟩,st1,st2⟩ fun T vals h1 tk ID hT F3 hm hk=>⟨.ref T,rfl,?_⟩
  obtain⟨x,y,hx,hy,rfl⟩:=ID
  obtain⟨u,hu,ru⟩:=r1 _ _ hx
  obtain⟨v,hv,rv⟩:=r2 _ _ hy
  have apart:=W.apart _ _ _ hm
  refine W.go elts k pos i T _ _ E hm fun h2 st2 E9=>?_
  have sub:∀ c,c∉[z,TI,TO,i1,i2]->c∉[z,TO,i1,i2]:=fun c hc q=>hc (by simp only[Mo,Oc,or_false] at q ⊢;rcases q with q | q | q | q <;> simp[q])
  have kk:∀ c u,c∉[z,TI,TO,i1,i2]->s.heap.get? c=some u->h2.get? c=some u:=fun c u hc q=>E9 c u (sub c hc) (hk c u (sub c hc) q)
  have tup2:IsTup h2 T #[x,y]:=by
   obtain⟨o,ho,r⟩:=F3
   exact⟨o,E9 T o apart ho,r⟩
  refine⟨.ref T,upd H T (PrX T [u,v]),I.turnedNew (t':=tk) hT kk hf ?_,rfl,⟨T,u,v,I.hok.fresh hT,hu,hv,rfl,rfl⟩,?_,?_⟩
  ·exact PrX.ok ⟨by show 2<=Ae;decide,[x,y],.cons ru (.cons rv .nil),tup2⟩
  ·obtain⟨c1,c2,c3,c4,c5⟩:=st2
   exact⟨c1,c2,c3,bk1 _ _ c4,bk2 _ _ c5⟩
  ·intro c hc
   have C7:c < s.heap.objs.size:=by
    simp only[Mo,Oc,or_false] at hc
    rcases hc with q | q | q | q | q <;> rw[q]
    ·exact Ml a1
    ·exact Ml a2
    ·exact Ml a3
    ·obtain⟨o,ho,_⟩:=o1 i _ a4;exact Ml ho
    ·obtain⟨o,ho,_⟩:=o2 i _ a5;exact Ml ho
   rw[L4 (MA (Nh C7 hT))]
   exact(hf c hc).1
 done:=by
  intro X hP hw hK hc i B_ s σ H E I hf st hg
  subst hP hw hK
  obtain⟨a1,a2,⟨a,b,a3⟩,a4,a5⟩:=st
  obtain⟨hok,rfl⟩:=hg
  obtain⟨f1,P1,T1,D1,m1,FE,st1,r1,bk1⟩:=JQ X rfl rfl rfl hc _ B_ s σ H I hok (hf i1 (by simp)).1 a4
  obtain⟨f2,P2,T2,D2,m2,FF,st2,r2,bk2⟩:=JR X rfl rfl rfl hc _ B_ s σ H I hok (hf i2 (by simp)).1 a5
  have out1:∀ c∈[z,TI,TO,i1,i2],c≠i1->c∉f1:=fun c hc hn q=>by
   rcases FE c q with e | e
   ·exact hn e
   ·exact e (hf c hc).1
  have out2:∀ c∈[z,TI,TO,i1,i2],c≠i2->c∉f2:=fun c hc hn q=>by
   rcases FF c q with e | e
   ·exact hn e
   ·exact e (hf c hc).1
  have Z:ZA z TI TO i1 i2 f1 f2:=⟨n1,n2,n3,n4,n5,n6,n7,n8,n9,n10,out1 z (by simp) n3.symm,out2 z (by simp) n4.symm,out1 TO (by simp) n8,out2 TO (by simp) n9,out2 i1 (by simp) n10,out1 i2 (by simp) n10.symm⟩
  have sub:∀ c,c∉[z,TI,TO,i1,i2]->c∉[z,TO,i1,i2]:=fun c hc q=>hc (by simp only[Mo,Oc,or_false] at q ⊢;rcases q with q | q | q | q <;> simp[q])
  exact(Xa D1 D2 Z m1 m2).done s _ E ⟨a1,a2,⟨a,b,a3⟩,st1,st2⟩ fun h1 tk hk=>⟨rfl,I.turnedL (fun c u hc q=>hk c u (sub c hc) q) hf⟩
 self:=fun A i s Q E st q=>BB st.1 q
theorem zn1 {n i j:Nat}(h:i≠j):n+i≠n+j:=by omega
theorem zn2 (h:0≠j):n≠n+j:=by omega
theorem zn3 (h:0≠j):n+j≠n:=by omega
section
variable {X:Cx}
def zpIt (R:It->Hp->Prop):V->V->Hp->Prop:=fun x y H1=>match x,y with
 | .str z,.ref a=>∃ ys,H1 a=some (.tup ys)/\R (Izp (chs z) ys fun H=>H a=some (.tup ys)) H1
 | _,_=>False
def iZip (ta tb:TE):TI:=fun σ H R=>ta σ H fun x H1=>tb σ H1 fun y H2=>zpIt R x y H2
theorem pi_zip (hg:Gl X "zip") (hm:X.mg "zip"=none) (ha:PE X a ta) (hb:PE X b tb) (hs:Ah [a,b] X.env=(false,As a X.env)::Ah [b] X.env:=by rfl) (D0:Ah [b] X.env=[(false,As b X.env)]:=by rfl):
  PI X (.Tuple elts k tpos) (.Call (.Name "zip" p) [a,b] [] pos) (iZip ta tb):=by
 intro B_ s σ H R I h
 refine Call_ (QC I hg hm (by decide +kernel:AL "zip"=some (.type "zip")) (UJ ?_ hs (by rw[D0];rfl)))
 rw[hs,D0]
 show wpAny _ _ (BC ((false,As a X.env)::AA pos [(false,As b X.env)])) _ _ s
 refine SE (thn (ha B_ s σ H _ I h) fun u s1 ⟨x,H1,I1,ru,q1⟩=>?_)
 show wpAny _ _ (BC ((false,As b X.env)::[])) _ _ s1
 refine SE (thn (hb B_ s1 σ H1 _ I1 q1) fun u2 s2 ⟨y,H2,I2,ru2,q2⟩=>UK ?_)
 have q2:zpIt R x y H2:=q2
 obtain⟨z,l,rfl,rfl⟩:∃ z l,x=.str z/\y=.ref l:=by
  unfold zpIt at q2
  split at q2
  ·exact⟨_,_,rfl,rfl⟩
  ·exact q2.elim
 obtain⟨t,rfl⟩:=ru
 cases ru2
 obtain⟨ys,hl,q2⟩:=q2
 obtain⟨its,rv,pl,hz⟩:=I2.tuple (SqT.of hl)
 refine eD pl fun h1 c1 c2 c3 c4 c5 hk=>?_
 refine BB c1 ?_
 refine⟨_,[_,_,_,_,_],_,_,H2,rfl,I2.kept (t':=s2.toks) hk,eE (z:=s2.heap.objs.size+4) (TI:=s2.heap.objs.size+2) (TO:=s2.heap.objs.size+3) (i1:=s2.heap.objs.size) (i2:=s2.heap.objs.size+1) (ok:=fun H=>H l=some (.tup ys)) (xs:=chs z) (ys:=ys)
  (S1:=fun i h=>h.IsStrIter s2.heap.objs.size (AO z) z t i) (S2:=fun i h=>h.IsTupleIter (s2.heap.objs.size+1) l i) (zn1 (by decide)) (zn1 (by decide)) (zn2 (by decide)) (zn1 (by decide)) (zn1 (by decide)) (zn3 (by decide)) (zn1 (by decide)) (zn3 (by decide)) (zn1 (by decide)) (zn2 (by decide)) ?_ ?_ ?_ ?_ ?_ ?_,⟨c1,c2,⟨_,_,c3⟩,c4,c5⟩,?_,q2⟩
 ·intro X' h1 h2 h3 hc i B_ s σ H I _ _ st
  exact h1▸h2▸Wg (A:=X'.A.in1) (show X'.A.in1.handled=none from I.ok.hd hc) st
 ·intro X' h1 h2 h3 hc i B_ s σ H I ok hn st
  exact h1▸h2▸S8 hc I (SqT.of ok) hn (by rw[ok];exact fun z=>nomatch z) st
 ·intro i h st
  obtain⟨o,ho,hc,hd⟩:=st
  exact⟨o,ho,fun v q=>by rw[hd] at q;cases q⟩
 ·intro i h st
  obtain⟨o,ho,hc,hd⟩:=st
  exact⟨o,ho,fun v q=>by rw[hd] at q;cases q⟩
 ·intro i h h' st kk
  obtain⟨o,ho,r⟩:=st
  exact⟨o,kk o ho,r⟩
 ·intro i h h' st kk
  exact st.at kk
 ·intro c hc
  have II:s2.heap.objs.size<=c:=by
   simp only[Mo,Oc,or_false] at hc
   rcases hc with q | q | q | q | q <;> rw[q] <;> first | exact Nat.le_add_right _ _ | exact L' _
  exact I2.fpOk II (I2.hok.fresh II)
end
theorem eF (n:Nat) (hn:n=min xs.length ys.length) (Pv:Nat->List V->St->Hp->Prop) (hok:∀ i Ca σ H,i<=n->Pv i Ca σ H->ok H) (h0:Pv 0 [] σ0 H0) (hp:∀ i Ca σ H,Pv i Ca σ H->H p=some (.lst Ca)/\Ca.length<=i) (hz:n<=Ae) (hs:∀ i u v Ca σ H T,xs[i]?=some u->ys[i]?=some v->Pv i Ca σ H->H T=none->g (.ref T) σ (upd H T (PrX T [u,v])) fun σ3 H3=>tc σ3 H3 fun bb H4 =>
   if bb=true then te σ3 H4 fun v H5=>H5 p=some (.lst Ca)/\Pv (i+1) (Ca++[v]) σ3 (upd H5 p (.lst (Ca++[v]))) else Pv (i+1) Ca σ3 H4) (hd:∀ Ca σ H,Pv n Ca σ H->Q (.ref p) H):Q6 (Izp xs ys ok) p g tc te Q σ0 H0:=by
 refine⟨fun i m Ca σ H=>m=n - i/\i<=n/\Pv i Ca σ H,⟨n,by simp,ML _,h0⟩,fun i m Ca σ' H' w=>?_⟩
 obtain⟨rfl,hi,q⟩:=w
 obtain⟨q1,q2⟩:=hp i Ca σ' H' q
 have ho:=hok i Ca σ' H' hi q
 refine⟨q1,?_⟩
 by_cases C7:i < n
 ·refine .inr ⟨⟨ho,by omega,by omega⟩,by omega,Pv (i+1),fun a' σ3 H3 k=>⟨n - (i+1),by omega,rfl,C7,k⟩,fun x H2 y=>?_⟩
  obtain⟨T,u,v,hT,hu,hv,rfl,rfl⟩:=y
  exact hs i u v Ca σ' H' T hu hv q hT
 ·have e:i=n:=by omega
  subst e
  exact .inl ⟨⟨ho,hn⟩,hd Ca σ' H' q⟩
noncomputable def ints?:List V->Option (List Int)
 | []=>some []
 | .int i::r=>(ints? r).map (i::·)
 | _=>none
def fBest (le:Int->Int->Prop):List V->Hp->VK->Prop:=fun xs H Q=>match xs with
 | [.ref p]=>(match tupR H p with
  | some ys=>(match ints? ys with
   | some ns=>ns≠[]/\∀ m,m∈ns->(∀ n∈ns,le n m)->Q (.int m) H
   | none=>False)
  | none=>False)
 | _=>False
section
variable {X:Cx}
def fIntS:List V->Hp->VK->Prop:=fun xs H Q=>match xs with
 | [.int i]=>Q (.int i) H
 | [.bl b]=>Q (.int (if b then 1 else 0)) H
 | [.str z]=>∃ n,SH z=some n/\z.length<=640/\Q (.int n) H
 | _=>False
theorem Qc:CallR X (.type "int") fIntS:=fun B_ s σ H xs us Q I r h=>by
 unfold fIntS at h
 split at h
 ·exact c_int B_ s σ H _ us Q I r h
 ·exact c_int B_ s σ H _ us Q I r h
 ·obtain⟨n,hn,hl,q⟩:=h
  obtain⟨u,rfl,t,rfl⟩:=N1 r
  exact PySem.W.KIN.call_text hn hl ⟨.int n,H,I.tok _,⟨_,rfl⟩,q⟩
 ·exact h.elim
end
end L2
namespace L2
open PySem
theorem eG:∀ d:Nat,d < 10->SH ⟨#[48+d]⟩=some (d:Int):=by decide +kernel
theorem eI:∀ d:Nat,d < 10->(toString (d:Int):Str)=⟨#[48+d]⟩:=by decide +kernel
end L2
namespace L2
open PySem PySem.Spec PyProof.Rows
section
variable {X:Cx}
end
def Dat (H H':Hp):Prop:=(∀ b xs,H b=some (.lst xs)->H' b=some (.lst xs))/\(∀ b xs,H b=some (.tup xs)->H' b=some (.tup xs))/\∀ b B',H b=some (.dK B')->H' b=some (.dK B')
theorem Same.dat (h:Same H H'):Dat H H':=⟨fun b xs e=>h b _ e,fun b xs e=>h b _ e,fun b xs e=>h b _ e⟩
theorem Dat.trans (a:Dat H H1) (b:Dat H1 H2):Dat H H2:=⟨fun c o e=>b.1 c o (a.1 c o e),fun c o e=>b.2.1 c o (a.2.1 c o e),fun c o e=>b.2.2 c o (a.2.2 c o e)⟩
theorem Dat.ins (hp:H p=some (.ins C dx fs)) (o:HO):Dat H (upd H p o):=by
 refine⟨fun b xs e=>?_,fun b xs e=>?_,fun b xs e=>?_⟩ <;>
 ·have hb:b≠p:=fun z=>by rw[z,hp] at e;cases e
  rw[L4 hb];exact e
mutual
theorem Is.dat {H H':Hp}(h:Dat H H'):∀{d:Dt}{v:V},Is H v d->Is H' v d
 | .non,_,k=>by simp only[Is] at k ⊢;exact k
 | .bl _,_,k=>by simp only[Is] at k ⊢;exact k
 | .int _,_,k=>by simp only[Is] at k ⊢;exact k
 | .str _,_,k=>by simp only[Is] at k ⊢;exact k
 | .tup ds,_,k=>by
  simp only[Is] at k ⊢
  obtain⟨a,xs,e,h1,h2⟩:=k
  exact⟨a,xs,e,h.2.1 _ _ h1,IsL.dat h h2⟩
 | .lst ds,_,k=>by
  simp only[Is] at k ⊢
  obtain⟨a,xs,e,h1,h2⟩:=k
  exact⟨a,xs,e,h.1 _ _ h1,IsL.dat h h2⟩
theorem IsL.dat {H H':Hp}(h:Dat H H'):∀{ds:List Dt}{xs:List V},IsL H xs ds->IsL H' xs ds
 | [],[],_=>by simp only[IsL]
 | d::ds,x::xs,k=>by
  simp only[IsL] at k ⊢
  exact⟨Is.dat h k.1,IsL.dat h k.2⟩
 | [],_::_,k=>by simp only[IsL] at k
 | _::_,[],k=>by simp only[IsL] at k
end
theorem NT.dat (h:Dat H H') (k:NT H B' gs):NT H' B' gs:=NT.tups h.2.1 k
theorem off_new {H H1 H2:Hp}{p:Ac}(h:∀ b o,b≠p->H b=some o->H1 b=some o)(s:Same H1 H2):∀ b o,b≠p->H b=some o->H2 b=some o:=fun b o hb e=>s _ _ (h b o hb e)
theorem Qd {H H1:Hp}{p:Ac}{x:HO}(h:∀ b o,b≠p->H b=some o->H1 b=some o):∀ b o,b≠p->H b=some o->(upd H1 p x) b=some o:=fun b o hb e=>by rw[L4 hb];exact h b o hb e
theorem i_din (h:ty σ H fun y H1=>td σ H1 fun x H2=>∃ a o,x=.ref a/\DGet H2 a y o/\Q (.bl o.isSome) H2):tDIn ty td σ H Q:=h
theorem i_tB (h:t σ H fun x H1=>∃ c,x=.bl c/\Q c H1):tB t σ H Q:=h
structure View where
 t:List Nat
 b:Option Nat
 i:Int
 j:Int
def Lay (n:Nat)(d:Dt):Prop:=aJ (toP d)=true/\PyData.depth (toP d)<=n
theorem Lay.ok (h:Lay n d) (hn:n<=64):okD d:=by
 unfold okD SeqAt.shaped
 rw[h.1,B7 (MR h.2 hn)];rfl
theorem Xb {n:Nat}:∀{ds:List Dt},(∀ d∈ds,Lay n d)->PyData.canLayAll0 (toPs ds)=true/\PyData.depthAll (toPs ds)<=n
 | [],_=>⟨rfl,ML _⟩
 | d::ds,h=>by
  have h1:=h d MV
  have h2:=Xb (ds:=ds) fun e he=>h e (MP _ he)
  simp only[toPs,PyData.canLayAll0,PyData.depthAll,h1.1,h2.1,Bool.and_self,true_and]
  have:=h1.2
  have:=h2.2
  omega
theorem Lay.lst (h:∀ d∈ds,Lay n d):Lay (n+1) (.lst ds):=by
 have:=Xb h
 unfold Lay
 simp only[toP,aJ,PyData.depth,this.1,true_and]
 omega
theorem Lay.str (h:∀ c∈l,c < 128):Lay 0 (.str (S l)):=by
 refine⟨?_,L' _⟩
 simp only[toP,aJ]
 unfold PyData.strOk
 rw[<- Array.all_toList]
 show (l.all fun x=>decide (x < 0x110000))=true
 rw[On]
 intro c hc
 have:=h c hc
 exact B7 (by omega)
section
variable {X:Cx}
theorem KV.key :∀{B':List (κ×V)}{vs:List (κ×Ad)},KV B' vs->vs.map (·.1)=B'.map (·.1):=by
 intro B' vs r
 unfold KV at r
 induction r with
 | nil=>rfl
 | cons r t ih=>rw[Mu,Mu,ih,r.1]
end
end L2
namespace L2
open PySem
section
variable {prog:Ak}{w:Am}{A:Ao}{E:Ad->Af->Prop}{s:Af}
end
open PySem.Spec PyProof.Rows
end L2
namespace L2
open PySem PySem.Spec
section
variable {prog:Ak}{w:Am}{A:Ao}{E:Ad->Af->Prop}{s:Af}
end
end L2
namespace L2
open PySem PySem.Spec PyProof.Rows
section
variable {prog:Ak}{w:Am}{A:Ao}{E:Ad->Af->Prop}{s:Af}{z TI TO i1 i2 l1 l2 S:Ac}{xs ys:Array Ad}{R:Result->Af->Prop}
end
section
variable {X:Cx}{B_:List (Ac×Obj)}{σ:St}{H H':Hp}{s:Af}{h':Ap}
theorem Inv.laidAll (I:Inv X B_ σ H s) (k:∀ b u,s.heap.get? b=some u->h'.get? b=some u) (old:∀ b o,H b=some o->H' b=some o) (none_:∀ b,b < s.heap.objs.size->H b=none->H' b=none) (new:∀ b o,H' b=some o->H b=none->ObjOk X.prog X.w H' h' b o):Inv X B_ σ H' { s with heap:=h',toks:=t' }:=by
 refine I.un ⟨fun b o q _ _ _=>k b o q,fun b o q _ _ _=>⟨o.slots,k b o q⟩,fun b o q n _=>none_ b (Ml q) n,fun b o q _=>⟨o,k b o q⟩,fun b xs e=>old b _ e,fun b o u e=>old b _ e,fun b ps e=>⟨#[],by simpa using old b _ e⟩⟩ fun b o e=>?_
 cases q:H b with
 | none=>exact new b o e q
 | some o' =>
  have e':o'=o:=by rw[old b o' q] at e;injection e
  subst e'
  exact(I.hok b o' q).stay (fun c u _ q=>k c u q) (fun c q=>old c _ q) fun c xs q=>old c _ q
end
theorem Xc (a:RelV u x) (b:RelV v x):u=v:=by
 cases u <;> cases v <;> simp only[RelV] at a b <;> first
  | (subst a;cases b;done)
  | (obtain⟨t,rfl⟩:=a;obtain⟨t',b⟩:=b;cases b;rfl)
  | (obtain⟨t,rfl⟩:=a;cases b;done)
  | (obtain⟨t,rfl⟩:=a;obtain⟨t',b⟩:=b;cases b;done)
  | (subst a;obtain⟨t',b⟩:=b;cases b;done)
  | (subst a;cases b;rfl)
  | rfl
section
variable {X:Cx}
end
noncomputable def VW (v d:Ac):HO:=.ext fun h=>h.IsItemsView v d
theorem vw_ok (x:h.IsItemsView v d):ObjOk P w H h v (VW v d) :=
 ⟨x,(let ⟨o,ho,_⟩:=x;⟨o,ho⟩),fun _ _ ⟨o,a,b⟩ k=>⟨o,k _ a,b⟩⟩
def Tz:V->List V->Hp->VK->Prop:=fun x vs H Q=>match x,vs with
 | .ref d,[]=>∃ B',H d=some (.dK B')/\∀ v,H v=none->Q (.ref v) (upd H v (VW v d))
 | _,_=>False
section
variable {X:Cx}
theorem Xd:MtR X "dict.items" Tz:=fun B_ s σ H x vs v us Q I rx rs h=>by
 unfold Tz at h
 split at h
 ·rename_i d
  obtain⟨B',e,q⟩:=h
  cases rx
  cases rs
  obtain⟨z,hd,vs,rel,dd⟩:=Rz I.hok e
  refine call_meetsIn aE dd.typeIs PySem.F.entry_dict_items (PySem.F.args_dict_items_1 _) (meets_dict_items (M7 X.prog X.w) d hd) ⟨⟨vs,dd⟩,?_⟩
  have I2:Inv X B_ σ (upd H s.heap.objs.size (VW s.heap.objs.size d)) { s with heap:=s.heap.push { cls:=.type "dict_items",data:=.fields #[.ref d] } } :=
   I.laid (a:=s.heap.objs.size) (o:=VW s.heap.objs.size d) (t':=s.toks) (fun b u q=>Mf _ q) (L' _) (vw_ok ⟨_,MG _ rfl,rfl,rfl⟩)
  exact⟨.ref s.heap.objs.size,_,I2,rfl,q _ (I.hok.fresh (L' _))⟩
 ·exact h.elim
theorem Inv.pairs {B_:List (Ac×Obj)}{σ:St}{H2:Hp}{s2:Af}{h3:Ap}{tk c:Nat}{qa:Ac}{Ts:List Ac}{xs ys:List V}{Ca:Array Ad}(I2:Inv X B_ σ H2 s2)(kk:∀ b o,s2.heap.get? b=some o->h3.get? b=some o)(hq:s2.heap.objs.size<=qa)
  (KC:h3.get? qa=some { cls:=.type "list",dict:=none,data:=.seq Ca c,slots:=#[] }) (G2:Ca.toList=Ts.map Value.ref) (hT:Ts.length=xs.length) (Ga:xs.length<=Ae)
  (G3:∀(j:Nat) T,Ts[j]?=some T->∃ u v x y,xs[j]?=some u/\ys[j]?=some v/\RelV u x/\RelV v y/\AX h3 T x y/\qa < T) :
  ∃ H3:Hp,Inv X B_ σ H3 { s2 with heap:=h3,toks:=tk }/\H2 qa=none/\H3 qa=some (.lst (Ts.map V.ref))/\(∀(j:Nat) T,Ts[j]?=some T->∃ u v,xs[j]?=some u/\ys[j]?=some v/\H3 T=some (.tup [u,v]))/\Same H2 H3:=by
 have JS:H2 qa=none:=I2.hok.fresh hq
 have E_:∀ T∈Ts,H2 T=none/\T≠qa:=fun T hm=>by
  obtain⟨j,hj⟩:=i0.mp hm
  obtain⟨_,_,_,_,_,_,_,_,_,g⟩:=G3 j T hj
  exact⟨I2.hok.fresh (ON (R_ hq g)),(MA g).symm⟩
 obtain⟨H3,hH⟩:∃ H3:Hp,H3=fun b=>if b=qa then some (.lst (Ts.map V.ref)) else match (Nj Ts.length).find? (fun j=>decide (Ts[j]?=some b)) with
   | some j=>some (.tup [xs.getD j .non,ys.getD j .non])
   | none=>H2 b:=⟨_,rfl⟩
 have JT:H3 qa=some (.lst (Ts.map V.ref)):=by rw[hH];simp
 have IJ:∀ b,b≠qa->b∉Ts->H3 b=H2 b:=fun b hb hm=>by
  rw[hH]
  simp only[B8 hb]
  have:(Nj Ts.length).find? (fun j=>decide (Ts[j]?=some b))=none:=by
   rw[List.find?_eq_none]
   intro j _ hc
   exact hm (OB (of_decide_eq_true hc))
  rw[this]
 have JU:∀ T∈Ts,∃ j,Ts[j]?=some T/\H3 T=some (.tup [xs.getD j .non,ys.getD j .non]):=fun T hm=>by
  have Cy:=(E_ T hm).2
  cases hf:(Nj Ts.length).find? (fun j=>decide (Ts[j]?=some T)) with
  | none =>
   obtain⟨j,hj,KD⟩:=Zi.mp hm
   have:=List.find?_eq_none.mp hf j (PL.mpr hj)
   exact absurd (B7 (by rw[Mm hj,KD])) this
  | some j =>
   have hd:=List.find?_some hf
   refine⟨j,of_decide_eq_true hd,?_⟩
   rw[hH]
   simp only[B8 Cy,hf]
 have same:Same H2 H3:=fun b o e=>by
  rw[IJ b (fun z=>by rw[z,JS] at e;cases e) (fun m=>by rw[(E_ b m).1] at e;cases e)]
  exact e
 have I3:Inv X B_ σ H3 { s2 with heap:=h3,toks:=tk }:=by
  refine I2.laidAll kk same (fun b hb hn=>?_) fun b o e hn=>?_
  ·rw[IJ b (fun z=>by rw[z] at hb;exact absurd hb (Nat.not_lt_of_le hq)) (fun m=>?_)]
   ·exact hn
   ·obtain⟨j,hj⟩:=i0.mp m
    obtain⟨_,_,_,_,_,_,_,_,_,g⟩:=G3 j b hj
    exact absurd hb (Nat.not_lt_of_le (ON (R_ hq g)))
  ·by_cases hb:b=qa
   ·subst hb
    rw[JT] at e
    cases e
    refine⟨by rw[L8,hT];exact Ga,Ca.toList,c,?_,by rw[Array.toArray_toList];exact KC⟩
    rw[G2]
    have:∀ l:List Ac,Vals (l.map V.ref) (l.map Value.ref):=fun l=>by
     induction l with
     | nil=>exact .nil
     | cons t l ih=>exact .cons rfl ih
    exact this Ts
   ·by_cases hm:b∈Ts
    ·obtain⟨j,hj,e'⟩:=JU b hm
     rw[e'] at e
     cases e
     obtain⟨u,v,x,y,g1,g2,r1,r2,g3,_⟩:=G3 j b hj
     have d1:xs.getD j .non=u:=by rw[Mq,g1];rfl
     have d2:ys.getD j .non=v:=by rw[Mq,g2];rfl
     rw[d1,d2]
     exact⟨by show 2<=Ae;decide,[x,y],.cons r1 (.cons r2 .nil),⟨_,g3,rfl,_,rfl⟩,fun o e=>by rw[g3] at e;cases e;rfl⟩
    ·rw[IJ b hb hm,hn] at e
     cases e
 refine⟨H3,I3,JS,JT,fun j T e=>?_,same⟩
 obtain⟨j',hj',e'⟩:=JU T (OB e)
 obtain⟨u,v,x,y,g1,g2,r1,r2,g3,_⟩:=G3 j T e
 obtain⟨u',v',x',y',g1',g2',r1',r2',g3',_⟩:=G3 j' T hj'
 have KF:x=x'/\y=y':=by
  have e3:some _=some _:=g3.symm.trans g3'
  have e4:=congrArg (fun o:Option Obj=>o.map fun o=>o.data) e3
  simp only[aL,Option.some.injEq,Data.seq.injEq] at e4
  have e5:=congrArg UL e4.1
  simp only[List.cons.injEq,and_true] at e5
  exact e5
 obtain⟨rfl,rfl⟩:=KF
 have hu:=Xc r1 r1'
 have hv:=Xc r2 r2'
 subst hu hv
 refine⟨u,v,g1,g2,?_⟩
 rw[e',Mq,g1',Mq,g2']
 rfl
theorem KV.valD :∀{B':List (κ×V)}{vs:List (κ×Ad)},KV B' vs->∀{j:Nat}{p:κ×Ad},vs[j]?=some p->∃ q,B'[j]?=some q/\q.1=p.1/\RelV q.2 p.2:=by
 intro B' vs r
 unfold KV at r
 induction r with
 | nil=>intro j p h;cases h
 | cons r t ih =>
  intro j p h
  cases j with
  | zero=>cases h;exact⟨_,rfl,r.1,r.2⟩
  | succ j=>exact ih (j:=j) h
def TD:List V->Hp->VK->Prop:=fun xs H Q=>match xs with
 | [.ref v]=>∃(d:Ac) (B':List (Key×V)),H v=some (VW v d)/\H d=some (.dK B')/\∀(q:Ac) (Ts:List Ac) (H3:Hp),H q=none->H3 q=some (.lst (Ts.map V.ref))->Ts.length=B'.length->(∀(j:Nat) T,Ts[j]?=some T->∃ kv,B'[j]?=some kv/\H3 T=some (.tup [kV kv.1,kv.2]))->Same H H3->Q (.ref q) H3
 | _=>False
theorem Xe (hc:X.calm=true):CallR X (.type "list") TD:=by
 intro B_ s σ H xs us Q I r h
 unfold TD at h
 split at h
 ·rename_i v
  obtain⟨u,rfl,ru⟩:=N1 r
  cases ru
  obtain⟨d,B',hv,e,q⟩:=h
  have vw:s.heap.IsItemsView v d:=(I.hok v _ hv).1
  obtain⟨z,hd,vs,rel,dd⟩:=Rz I.hok e
  obtain⟨ep,Dv⟩:=dd.dictAt
  have hk:=KV.key rel
  have hl:vs.length=B'.length:=by rw[<- L8 (f:=(·.1)),hk,L8]
  refine PySem.W.kdx_call (knd:=M7 X.prog X.w) (I.ok.hd hc) vw Dv (by rw[hl];exact z) fun h3 tk Ca c as kk hS FG hG GU=>?_
  obtain⟨H3,I3,a1,a2,a3,a4⟩:=I.pairs (tk:=tk) (Ts:=as) (xs:=B'.map fun kv=>kV kv.1) (ys:=B'.map fun kv=>kv.2) kk (L' _) hS GU (by rw[L8,FG,hl]) (by rw[L8];exact z) fun j T hT=>by
   obtain⟨key,k,x,e1,e2,e3⟩:=hG.pairs j T hT
   obtain⟨kv,b1,b2,b3⟩:=KV.valD rel e1
   refine⟨kV kv.1,kv.2,key,x,by rw[MC,b1];rfl,by rw[MC,b1];rfl,?_,b3,e3,hG.above T (OB hT)⟩
   rw[b2]
   rcases Qz (show Op k key=true from e2) with ⟨i,t,rfl,rfl⟩ | ⟨y,t,rfl,rfl⟩
   ·exact⟨t,rfl⟩
   ·exact⟨t,rfl⟩
  refine⟨.ref s.heap.objs.size,H3,I3,rfl,q _ as H3 a1 a2 (by rw[FG,hl]) (fun j T hT=>?_) a4⟩
  obtain⟨u,v',c1,c2,c3⟩:=a3 j T hT
  rw[MC] at c1 c2
  cases JV:B'[j]? with
  | none=>rw[JV] at c1;cases c1
  | some kv =>
   rw[JV] at c1 c2
   cases c1;cases c2
   exact⟨kv,rfl,c3⟩
 ·exact h.elim
theorem Xf (h1:H d=some (.dK B')) (h:∀ v,H v=none->Q (.ref v) (upd H v (VW v d))):Tz (.ref d) [] H Q:=⟨B',h1,h⟩
theorem Xg (h1:H v=some (VW v d)) (h2:H d=some (.dK B')) (h:∀(q:Ac) (Ts:List Ac) (H3:Hp),H q=none->H3 q=some (.lst (Ts.map V.ref))->Ts.length=B'.length->(∀(j:Nat) T,Ts[j]?=some T->∃ kv,B'[j]?=some kv/\H3 T=some (.tup [kV kv.1,kv.2]))->Same H H3->Q (.ref q) H3):TD [.ref v] H Q:=⟨d,B',h1,h2,h⟩
end
section
variable {X:Cx}{tg:Ax}
end
section
variable {X:Cx}
theorem o_inK {K:L3}(hK:X.K=K:=by rfl):OpR X (Ar .In) (rIn K false):=hK▸VX
end
theorem eJ (h:∀ c∈l,c < 128) (hl:l.length<=50):(B4 (S l)).length<=1000:=by
 have:=PySem.StrLaws.reprText_len (S l) (fun c hc=>by
  have:=h c (by rw[<- S_cps l];simpa using hc)
  exact az this (by decide))
 rw[Me] at this
 omega
end L2
namespace L2
open PySem
noncomputable abbrev vBM:List Ad:=[.type "ValueError",.type "Exception",.type "BaseException",.type "object"]
noncomputable abbrev xNew:String:="ValueError.__new__"
noncomputable abbrev xIni:String:="ValueError.__init__"
theorem xB:ExcBaseFacts "ValueError" xNew xIni vBM:=PySem.F.excBase_ValueError
def Lk (M:Model)(h:Ap){α:Type}(m:Sem α)(r:α):Prop:=∀(A:Ao) (Q:α->Af->Prop) (E:Ad->Af->Prop) (s:Af),s.heap=h->Q r s->wpAny M A m Q E s
theorem Lk.run (l:Lk M h m r) (e:s.heap=h) (q:Q r s):wpAny M A m Q E s:=l A Q E s e q
noncomputable abbrev TF (C:Ac)(t:Ac):Obj:={ cls:=.ref C,data:=.fields #[.ref t,.none,.none,.none,.bool false,.none] }
noncomputable def OG (C:Ac)(us:List Ad)(h:Ap):Ap:=(h.push { cls:=.type "tuple",data:=.seq us.toArray }).push (TF C h.objs.size)
theorem eL (e:h.get? b=some o):(OG C us h).get? b=some o:=Mf _ (Mf _ e)
theorem ZT :(OG C us h).get? (h.objs.size+1)=some (TF C h.objs.size):=by
 have:=MG (h.push { cls:=.type "tuple",data:=.seq us.toArray }) (o:=TF C h.objs.size) rfl
 rwa [Om] at this
section
variable {prog:Ak}{w:Am}{M:Model}{A:Ao}{E:Ad->Af->Prop}{R:Result->Af->Prop}{h:Ap}{g:Array B2}{dr:Drawn}{tk:Nat}{os:OsState}
variable {nm qn:Str}{C N W:Ac}{bs:List Ad}{C6:Bool}{sn:List Str}{sub:List Ad}{ab:Bool}{col:Option Bool}{dd:Option Ac}{k0 k1 k2 k3 k5:Option Ad}{us:List Ad}
theorem Sf (e:vBM.contains (.type X)=b):(Value.ref C::.ref W::vBM).contains (.type X)=b:=by
 rw[Sr,Sr,e];rfl
theorem eM (oC:h.get? C=some (At nm qn C N bs (.ref W::vBM) C6 sn sub ab col dd k0 k1 k2 k3 k5 xNew)) (k:Q () ⟨h,g,dr,tk,os⟩):
  wpAny M A (Az xNew ⟨.ref C::us,[]⟩) Q E ⟨h,g,dr,tk,os⟩:=by
 have c1:(Value.ref C::.ref W::vBM).contains (.type "ValueError")=true:=Sf xB.hasB
 have c2:=xB.noStar
 simp only[Az,xB.newKind,xB.newSplit,xB.newRow]
 repeat (first | refine Al oC ?_ | (refine Au oC ?_;rw[c1]) | refine wpAny_staticBase_exc oC ?_ | refine wpAny_madeBy_exc oC ?_ | simp only[bne_self_eq_false,U_,if_false] | wp_step)
 exact k
theorem xc_new (oC:h.get? C=some (At nm qn C N bs (.ref W::vBM) C6 sn sub ab col dd k0 k1 k2 k3 k5 xNew))
  (k:R (.ok (.ret (.ref (h.objs.size+1)))) ⟨OG C us h,g,dr,tk,os⟩) (Fa:us.length<=Ae) :
  codeAny (Aj prog w) A (.builtin xNew ⟨.ref C::us,[]⟩) R ⟨h,g,dr,tk,os⟩:=by
 have c0:=xB.ends
 have c1:(Value.ref C::.ref W::vBM).contains (.type "ValueError")=true:=Sf xB.hasB
 have c2:(Value.ref C::.ref W::vBM).contains (.type "AttributeError")=false:=Sf xB.noAttr
 have c3:(Value.ref C::.ref W::vBM).contains (.type "NameError")=false:=Sf xB.noName
 refine codeAny_builtinAt xB.entry ?_
 unfold Builtin.«BaseException.__new__»
 refine wpAt_bind ?_
 show wpAt _ _ _ (stack >>= _) _ _ _
 refine wpAt_bind (wpAt_stack fun p below=>wpAt_of_wpAny ?_)
 wp_walk
 refine wpAt_of_wpAny ?_
 rw[xB.owner]
 repeat (first | with_reducible refine wpAny_madeHere_exc xB.canon oC ?_ | with_reducible refine Al oC ?_ | (with_reducible refine Au oC ?_;first | rw[c1] | rw[c2] | rw[c3]) | wp_step)
 show R _ _
 rw[Om]
 exact k
theorem eN (oC:h.get? C=some (At nm qn C N bs (.ref W::vBM) C6 sn sub ab col dd k0 k1 k2 k3 k5 xNew)) (he:h.get? e=some oe) (ec:oe.cls=.ref C) (k:Q () ⟨h,g,dr,tk,os⟩):wpAny M A (Az xIni ⟨.ref e::us,[]⟩) Q E ⟨h,g,dr,tk,os⟩:=by
 have c1:(Value.ref C::.ref W::vBM).contains (.type "ValueError")=true:=Sf xB.hasB
 have c2:=xB.noStar
 simp only[Az,xB.initKind,xB.initSplit,xB.initRow]
 repeat (first | (with_reducible refine Al he ?_;rw[ec]) | with_reducible refine Al oC ?_ | (with_reducible refine Au oC ?_;rw[c1]) | wp_step)
 refine A4 ?_
 rw[show ∀(a b:String) (n:Nat),Bind.check ⟨.positional,"*","ValueError",.self,[⟨"args",.varPos,false⟩]⟩ a b n (List.map (fun x=>x.fst) ({ pos:=Value.ref e::us }:Args).kw)=pure () from fun a b n=>check_star_args _ _ _ _ _ _]
 exact Ag k
theorem Xh (oC:h.get? C=some (At nm qn C N bs (.ref W::vBM) C6 sn sub ab col dd k0 k1 k2 k3 k5 xNew)) (he:h.get? e=some ⟨.ref C,od,.fields vs,#[]⟩) (h0:vs[0]?=some (.ref t0)) (Fa:us.length<=Ae) (k:∀ h',(∀ b o,b≠e->h.get? b=some o->h'.get? b=some o)->h'.get? e=some ⟨.ref C,od,.fields (vs.setIfInBounds 0 (.ref h.objs.size)),#[]⟩->Q .none ⟨h',g,dr,tk,os⟩):
  wpAny (Aj prog w) A (call (.builtin xIni) (.ref e::us)) Q E ⟨h,g,dr,tk,os⟩:=by
 refine Bc (AT xB.init.plain xB.initEntry (eN oC he rfl ?_))
 unfold Builtin.«BaseException.__init__»
 wp_walk
 rw[h0]
 have hz:0 < vs.size:=(aR.mp h0).1
 have HJ:(h.push { cls:=Value.type "tuple",data:=Data.seq us.toArray }).get? e=some ⟨.ref C,od,.fields vs,#[]⟩:=Mf _ he
 refine Ag (Aa (A1 HJ rfl hz ?_))
 wp_walk
 refine k _ (fun b o hb eb=>?_) ?_
 ·rw[PH _ _ (MB hb)];exact Mf _ eb
 ·rw[R7 _ HJ rfl];rfl
theorem eO (oC:h.get? C=some (At nm qn C N bs (.ref W::vBM) C6 sn sub ab col dd k0 k1 k2 k3 k5 xNew)) (Fa:us.length<=Ae) (lk:Lk (Aj prog w) (OG C us h) (AY (.ref C) "__init__") (some f)) (bd:Lk (Aj prog w) (OG C us h) (bindSpecial f (.ref (h.objs.size+1))) (f,[.ref (h.objs.size+1)])) (k:wpAny (Aj prog w) A (call f (.ref (h.objs.size+1)::us)) (fun r s'=>r=.none/\Q (.done (.ret (.ref (h.objs.size+1)))) s') E ⟨OG C us h,g,dr,tk,os⟩):
  wpAny (Aj prog w) A (Builtin.«type.__call__» ⟨.ref C::us,[]⟩) Q E ⟨h,g,dr,tk,os⟩:=by
 repeat (first | with_reducible refine Al oC ?_ | with_reducible refine wpAny_madeBy_exc oC ?_ | wp_step)
 refine codeAny_call_builtin_code (aX _ xB.quiet) (eM oC ?_)
 refine xc_new oC ?_ Fa
 show wpAny _ _ _ _ _ _
 have oC1:=eL (C:=C) (us:=us) oC
 have IK:=ZT (C:=C) (us:=us) (h:=h)
 have c1:(Value.ref C::.ref W::vBM).contains (.ref C)=true:=by simp
 unfold isInstance
 repeat (first | with_reducible refine Al IK ?_ | (with_reducible refine Au oC1 ?_;rw[c1]) | wp_step)
 show wpAny _ _ (AY (.ref C) _) _ _ _
 refine lk _ _ _ _ rfl ?_
 refine AN (Aa (bd _ _ _ _ rfl ?_))
 refine Aa (An k (fun r s' hr=>?_) fun _ _ x=>x)
 obtain⟨rfl,hQ⟩:=hr
 wp_walk
 exact hQ
theorem Xi (oC:h.get? C=some (At nm qn C N bs (.ref W::vBM) C6 sn sub ab col dd k0 k1 k2 k3 k5 xNew)) (Fa:us.length<=Ae) (lk:Lk (Aj prog w) (OG C us h) (AY (.ref C) "__init__") (some f)) (bd:Lk (Aj prog w) (OG C us h) (bindSpecial f (.ref (h.objs.size+1))) (f,[.ref (h.objs.size+1)])) (k:wpAny (Aj prog w) (A.under (.builtin "type.__call__" ⟨.ref C::us,[]⟩)) (call f (.ref (h.objs.size+1)::us)) (fun r s'=>r=.none/\Q (.ref (h.objs.size+1)) s') E ⟨OG C us h,g,dr,tk,os⟩):
  wpAny (Aj prog w) A (call (.ref C) us) Q E ⟨h,g,dr,tk,os⟩:=by
 have c1:=tc_lookup
 have c2:=tc_bind (.ref C)
 have c3:(⟨h,g,dr,tk,os⟩:Af).TypeIs (.ref C) "type":=⟨_,oC,rfl⟩
 refine Bc (codeAny_of_tree ?_)
 show wpAny _ _ (callAny (.ref C) _) _ _ _
 repeat (any_goals (first | assumption | with_reducible refine Al oC ?_ | wp_step))
 refine⟨rfl,?_⟩
 exact codeAny_call_builtin_at (aX _ (by decide +kernel)) entry_typeCall (wpAny_check_type_call_sub oC (eO oC Fa lk bd k))
theorem sV:StoreFacts "ValueError" vBM "object.__setattr__" "object":=PySem.F.store_ValueError
theorem eQ (oC:h.get? C=some (At nm qn C N bs (.ref W::vBM) C6 sn sub ab col dd k0 k1 k2 k3 k5 xNew)) (he:h.get? e=some oe) (ec:oe.cls=.ref C) (k:Q () ⟨h,g,dr,tk,os⟩):wpAny M A (Az "object.__setattr__" ⟨[.ref e,nv,v],[]⟩) Q E ⟨h,g,dr,tk,os⟩:=by
 have c1:(Value.ref C::.ref W::vBM).contains (.type "object")=true:=Sf sV.hasOwner
 have c2:=sV.args (.ref e) nv v
 simp only[Az,sV.kind,sV.split]
 refine Aa ?_
 unfold isInstance
 repeat (first | (with_reducible refine Al he ?_;rw[ec]) | (with_reducible refine Au oC ?_;rw[c1]) | wp_step)
 exact k
open Builtin Builtin.ObjectAttr in
theorem eR (oC:h.get? C=some (At nm qn C N bs (.ref W::vBM) true sn sub ab col dd k0 k1 k2 k3 k5 xNew)) (he:h.get? e=some oe) (ec:oe.cls=.ref C) (ed:oe.dict=none) (ef:oe.data=.fields vs) (es:oe.slots=#[]) (ls:Lk (Aj prog w) h (AY (.ref C) "__setattr__") (some (.builtin "object.__setattr__"))) (ln:Lk (Aj prog w) h (AY (.ref C) name) none) (k:∀ h' tk',h'.get? e=some ⟨.ref C,some h.objs.size,.fields vs,#[]⟩->h'.Ns1 h.objs.size (fun y=>if y=name then some v else none)->(∀ b o,b≠e->h.get? b=some o->h'.get? b=some o)->Q () ⟨h',g,dr,tk',os⟩):
  wpAny (Aj prog w) A (setAttr (.ref e) name v) Q E ⟨h,g,dr,tk,os⟩:=by
 have c0:=sV.slot.bind (.ref e)
 have c1:=sV.passes (.ref e)
 unfold setAttr callSpecial? specialOf
 repeat (any_goals (first | assumption | (with_reducible refine Al he ?_;rw[ec]) | (with_reducible refine Lk.run ls rfl ?_) | wp_step))
 refine AT sV.slot.plain sV.entry (eQ oC he ec ?_)
 unfold Builtin.«object.__setattr__»
 repeat (first | rw[refuse_eq] | (rw[refuseLoop_ref,refuseLoop_ref,c1]) | (with_reducible refine Al he ?_;rw[ec]) | with_reducible refine wpAny_mroOf_exc oC ?_ | (with_reducible refine Lk.run ln rfl ?_) | wp_step)
 have EC:=(Heap.get?_some_iff.mp he).2
 obtain⟨oc,od,odt,osl⟩:=oe
 dsimp only at ec ed ef es
 subst ec ed ef es
 dsimp only
 rw[B8 (by simp[typeHasDict])]
 have IL:(h.push { cls:=.type "dict",data:=.dict #[] }).get? e=some ⟨.ref C,none,.fields vs,#[]⟩:=Mf _ he
 have JW:e≠h.objs.size:=MA (Ml he)
 refine Aa (wpAny_alloc' (Aa (wpAny_update' IL (Ag ?_))))
 have g1:((h.push { cls:=.type "dict",data:=.dict #[] }).update e fun o=>{ cls:=o.cls,dict:=some h.objs.size,data:=o.data,slots:=o.slots }).get? h.objs.size=some { cls:=.type "dict",data:=.dict #[] } :=
  (Heap.get?_update_ne _ _ _ _ JW.symm).trans (Heap.get?_push_at rfl rfl)
 have g2:((h.push { cls:=.type "dict",data:=.dict #[] }).update e fun o=>{ cls:=o.cls,dict:=some h.objs.size,data:=o.data,slots:=o.slots }).Ns h.objs.size (fun _=>none) :=
  ⟨_,#[],_,g1,rfl,fun y hy=>absurd hy (by simp),fun _=>rfl⟩
 show wpAny _ _ (storeInDict h.objs.size (.str name tk) name v) _ _ _
 unfold storeInDict newKeyGuard
 refine Aa (Ag (Aa (wpAny_nsSet1 (ju g2) fun h' hn' hs=>?_)))
 obtain⟨oD,esD,epD,Iq,Ir,Iu⟩:=hn'.count (Within.cons name v Within.nil)
 refine Aa (wpAny_lookBehind Iq (by rw[Ir];exact pastItsLine_dict (MR Iu (by rw[Mv,Qu,Bu];omega))) ?_)
 wp_walk
 refine k h' _ ?_ hn' fun b o hb eb=>?_
 ·exact(hs.2 e JW).trans (R7 _ IL rfl)
 ·exact(hs.2 b (MA (Ml eb))).trans ((Heap.get?_update_ne _ _ _ _ hb).trans (Mf _ eb))
end
noncomputable def Fl (base:Ap)(l:List Env)(e C:Ac)(od:Option Ac)(fl:Ad)(h:Ap):Prop :=
 base.StaysIn h/\base.get? e=none/\h.FunFrames base l/\∃(vs:Array Ad) (T:Ac) (oT:Obj) (ts:Array Ad) (t0:Ac),
  h.get? e=some ⟨.ref C,od,.fields vs,#[]⟩/\vs.size=6/\vs[0]?=some (.ref t0)/\vs[1]?=some (.ref T)/\base.get? T=none/\T≠e/\h.get? T=some oT/\oT.data=.fields ts/\ts[3]?=some fl
theorem Fl.tail (x:Fl base (env::l) e C od fl h):Fl base l e C od fl h :=
 ⟨x.1,x.2.1,x.2.2.1.2.2,x.2.2.2⟩
theorem Fl.at (x:Fl base l e C od fl h):∃(vs:Array Ad) (t0:Ac),h.get? e=some ⟨.ref C,od,.fields vs,#[]⟩/\vs.size=6/\vs[0]?=some (.ref t0):=by
 obtain⟨_,_,_,vs,T,oT,ts,t0,a1,a2,a3,_⟩:=x
 exact⟨vs,t0,a1,a2,a3⟩
section
variable {M:Model}{A:Ao}{E:Ad->Af->Prop}{s:Af}{base:Ap}{env:Env}{outer l:List Env}{L e C:Ac}{od:Option Ac}{Q:Unit->Af->Prop}
theorem Xj (EC:A.frames=some (env::outer)) (hl:s.heap.FunFrames base (env::outer)) (hf:env.frame=some L) (Fn:base.StaysIn s.heap) (Fb:base.get? e=none) (he:s.heap.get? e=some ⟨.ref C,od,.fields vs,#[]⟩) (hz:vs.size=6) (h0:vs[0]?=some (.ref t0)) (k:∀ h',Fl base (env::outer) e C od (AM L) h'->s.heap.UpToSlots h'->Q () { s with heap:=h' }):
  wpAny M A (do let a <- frameOf env;let pl <- entryPlaceOf L HK;let b <- jr IM a .none (AM L) .none pl;setField (.ref e) 1 b) Q E s:=by
 have ene:e∉(env::outer).filterMap (·.frame):=fun hm=>by
  obtain⟨_,o,ho,DP⟩:=hl.mem hm
  rw[he] at ho;cases ho;exact DP vs rfl
 refine Aa (wpAny_frameOf_fun EC hl hf fun h1 Fc=>?_)
 refine Aa (wpAny_entryPlaceOf fun pl Cz=>?_)
 unfold jr newFields
 refine Aa (AD ?_ (Cz.sizeOk5 _ _ _ _ _))
 have e1:h1.get? e=some ⟨.ref C,od,.fields vs,#[]⟩:=(Fc.2.1 e ene).trans he
 have kb1:base.StaysIn h1:=fun b o Ei=>(Fc.2.1 b fun hm=>by rw[(hl.mem hm).1] at Ei;cases Ei).trans (Fn b o Ei)
 generalize JX:({ cls:=.type "traceback",dict:=none,data:=.fields ([IM,.ref L,.none,AM L,.none]++(if pl.isEmpty then MD 6 Value.none else pl)).toArray }:Obj)=oT
 have e2:=Mf (h:=h1) oT e1
 have Gb:h1.objs.size≠e:=Sx (Ml e1)
 have GA:oT.isFreed=false:=by rw[<- JX];rfl
 have eT:=MG h1 (o:=oT) GA
 refine A1 e2 rfl (by rw[hz];decide) ?_
 have keep:∀ b o,b≠e->h1.get? b=some o->((h1.push oT).update e (ZJ (·.setIfInBounds 1 (Value.ref h1.objs.size)))).get? b=some o:=fun b o Fj hb=>by
  rw[PH _ _ (MB Fj)]
  exact Mf _ hb
 have nore:∀ b o,s.heap.get? b=some o->(∀ vs,o.data≠.fields vs)->b≠e:=fun b o hb DP q=>by
  rw[q,he] at hb;cases hb;exact DP vs rfl
 refine k _ ⟨fun b o Ei=>keep b o (fun q=>by rw[q,Fb] at Ei;cases Ei) (kb1 b o Ei),Fb,hl.of_keeps fun b o hb DP=>?_,vs.setIfInBounds 1 (.ref h1.objs.size),h1.objs.size,oT,_,t0,?_,?_,?_,?_,kb1.fresh,Gb,?_,by rw[<- JX],?_⟩ fun b o hb DP=>?_
 ·obtain⟨sl,hs⟩:=Fc.2.2 b o hb
  exact⟨_,keep b _ (nore b o hb DP) hs,rfl⟩
 ·rw[R7 _ e2 rfl];rfl
 ·rw[jl];exact hz
 ·rw[jk (by decide)];exact h0
 ·simp[hz]
 ·rw[PH _ _ (MB Gb)];exact eT
 ·rcases Cz with rfl | ⟨_,_,_,_,_,_,_,rfl⟩ <;> simp
 ·obtain⟨sl,hs⟩:=Fc.2.2 b o hb
  exact⟨sl,keep b _ (nore b o hb DP) hs⟩
theorem eS (EC:A.frames=some (env::outer)) (hl:s.heap.FunFrames base (env::outer)) (hf:env.frame=some L) (Fn:base.StaysIn s.heap) (Fb:base.get? e=none) (he:s.heap.get? e=some ⟨.ref C,od,.fields vs,#[]⟩) (hz:vs.size=6) (h0:vs[0]?=some (.ref t0)) (h1:vs[1]?=some .none) (k:∀ h',Fl base (env::outer) e C od (AM L) h'->s.heap.UpToSlots h'->Q () { s with heap:=h' }):wpAny M A (noteFrame (.ref e) env) Q E s:=by
 unfold noteFrame
 simp only[hf]
 refine Aa (Aw he rfl h1 ?_)
 rw[B8 (by decide)]
 exact Xj EC hl hf Fn Fb he hz h0 k
theorem Xk {h:Ap}{T:Ac}{oT:Obj}{ts:Array Ad}{i:Nat}{x:Ad}(hT:h.get? T=some oT)(hd:oT.data=.fields ts) :
  (∀ b,b≠T->(h.update T (ZJ (·.setIfInBounds i x))).get? b=h.get? b)/\(h.update T (ZJ (·.setIfInBounds i x))).get? T=some (oT.mapFields (·.setIfInBounds i x)) :=
 ⟨fun b hb=>PH _ _ (MB hb),R7 _ hT (jm (ZI hd _))⟩
theorem TH (EC:A.frames=some (env::outer))(hf:env.frame=some L)(x:Fl base (env::outer) e C od .none s.heap)
  (k:∀ h',Fl base (env::outer) e C od (AM L) h'->s.heap.UpToSlots h'->Q () { s with heap:=h' }):wpAny M A (noteFrame (.ref e) env) Q E s:=by
 obtain⟨Fn,Fb,hl,vs,T,oT,ts,t0,he,hz,h0,h1,GA,Gb,hT,Fo,h3⟩:=x
 unfold noteFrame
 simp only[hf]
 refine Aa (Aw he rfl h1 ?_)
 rw[B9 (show (Value.ref T != Value.none)=true from by simp)]
 refine Aa (Aw hT Fo h3 ?_)
 rw[B8 (show ¬ ((Value.none == AM L)=true) from by simp[AM])]
 refine Aa (A1 hT Fo (aR.mp h3).1 ?_)
 obtain⟨ot,_⟩:=Xk (i:=3) (x:=Value.none) hT Fo
 have norT:∀ b o,s.heap.get? b=some o->(∀ vs,o.data≠.fields vs)->b≠T:=fun b o hb DP q=>by
  rw[q,hT] at hb;cases hb;exact DP ts Fo
 refine Xj (s:={ s with heap:=s.heap.update T (ZJ (·.setIfInBounds 3 Value.none)) }) EC (hl.of_keeps fun b o hb DP=>⟨o,(ot b (norT b o hb DP)).trans hb,rfl⟩) hf
  (fun b o Ei=>(ot b fun q=>by rw[q,GA] at Ei;cases Ei).trans (Fn b o Ei)) Fb ((ot e (MB Gb)).trans he) hz h0 fun h' x1 x2=>k h' x1 fun b o hb DP=>?_
 exact x2 b o ((ot b (norT b o hb DP)).trans hb) DP
theorem UT (x:Fl base l e C od fl s.heap) (k:∀ h',Fl base l e C od .none h'->s.heap.UpToSlots h'->Q () { s with heap:=h' }):wpAny M A (setFlight (.ref e) none) Q E s:=by
 obtain⟨Fn,Fb,hl,vs,T,oT,ts,t0,he,hz,h0,h1,GA,Gb,hT,Fo,h3⟩:=x
 unfold setFlight
 refine Aa (Aw he rfl h1 ?_)
 rw[B9 (show (Value.ref T != Value.none)=true from by simp)]
 have FH:=(aR.mp h3).1
 obtain⟨ot,oT2⟩:=Xk (i:=3) (x:=Value.none) hT Fo
 have norT:∀ b o,s.heap.get? b=some o->(∀ vs,o.data≠.fields vs)->b≠T:=fun b o hb DP q=>by
  rw[q,hT] at hb;cases hb;exact DP ts Fo
 refine A1 hT Fo FH (k _ ⟨fun b o Ei=>(ot b fun q=>by rw[q,GA] at Ei;cases Ei).trans (Fn b o Ei),Fb,hl.of_keeps fun b o hb DP=>⟨o,(ot b (norT b o hb DP)).trans hb,rfl⟩,
  vs,T,_,ts.setIfInBounds 3 .none,t0,(ot e (MB Gb)).trans he,hz,h0,h1,GA,Gb,oT2,ZI Fo _,by simp[FH]⟩ fun b o hb DP=>⟨o.slots,(ot b (norT b o hb DP)).trans hb⟩)
theorem eU (EC:A.frames=some (env::outer))(hf:env.frame=some L)(x:Fl base (env::outer) e C od .none s.heap)
  (k:∀ h',Fl base outer e C od .none h'->s.heap.UpToSlots h'->Q () { s with heap:=h' }):wpAny M A (leaving env (.ref e)) Q E s:=by
 unfold leaving
 refine Aa (TH EC hf x fun h1 x1 u1=>?_)
 exact UT (s:={ s with heap:=h1 }) x1 fun h2 x2 u2=>k h2 x2.tail (u1.trans u2)
theorem eV (EC:A.frames=some (env::outer)) (hl:s.heap.FunFrames base (env::outer)) (hf:env.frame=some L) (Fn:base.StaysIn s.heap) (Fb:base.get? e=none) (he:s.heap.get? e=some ⟨.ref C,od,.fields vs,#[]⟩) (hz:vs.size=6) (h0:vs[0]?=some (.ref t0)) (h1:vs[1]?=some .none) (k:∀ h',Fl base outer e C od .none h'->s.heap.UpToSlots h'->Q () { s with heap:=h' }):wpAny M A (leaving env (.ref e)) Q E s:=by
 unfold leaving
 refine Aa (eS EC hl hf Fn Fb he hz h0 h1 fun h2 x2 u2=>?_)
 exact UT (s:={ s with heap:=h2 }) x2 fun h3 x3 u3=>k h3 x3.tail (u2.trans u3)
end
section
variable {M:Model}{A:Ao}{E:Ad->Af->Prop}{env:Env}
variable {nm qn:Str}{C N W:Ac}{bs:List Ad}{C6:Bool}{sn:List Str}{sub:List Ad}{ab:Bool}{col:Option Bool}{dd:Option Ac}{k0 k1 k2 k3 k5:Option Ad}
theorem eW (hh:A.handled=none) (k:wpAny M A x (fun v s1=>∃ e od vs,v=.ref e/\(∃ nm qn C N bs W C6 sn sub ab col dd k0 k1 k2 k3 k5,s1.heap.get? C=some (At nm qn C N bs (.ref W::vBM) C6 sn sub ab col dd k0 k1 k2 k3 k5 xNew) /\
   s1.heap.get? e=some ⟨.ref C,od,.fields vs,#[]⟩)/\vs[1]?=some .none/\E (.ref e) s1) E s):wpAny M A (raiseStmt env (some x) none) Q E s:=by
 unfold raiseStmt
 refine Aa (An k (fun v s1 z=>?_) fun _ _ x=>x)
 obtain⟨e,od,vs,rfl,⟨nm,qn,C,N,bs,W,C6,sn,sub,ab,col,dd,k0,k1,k2,k3,k5,oC,he⟩,h1,hE⟩:=z
 have c1:(Value.ref C::.ref W::vBM).contains (.type "BaseException")=true:=Sf xB.hasBase
 obtain⟨hp,g,d,tk,os⟩:=s1
 repeat (first | with_reducible refine Al he ?_ | with_reducible refine Al oC ?_ | (with_reducible refine Au oC ?_;rw[c1]) | wp_step)
 rw[h1]
 refine Ag ?_
 rw[B8 (show ¬ ((Value.none != Value.none)=true) from by decide)]
 exact Ag (wpAny_raiseNew_none hh hE)
theorem eX (hh:A.handled=none) (k:wpAny M A (As x env) (fun v s1=>∃ e od vs,v=.ref e/\(∃ nm qn C N bs W C6 sn sub ab col dd k0 k1 k2 k3 k5,s1.heap.get? C=some (At nm qn C N bs (.ref W::vBM) C6 sn sub ab col dd k0 k1 k2 k3 k5 xNew) /\
   s1.heap.get? e=some ⟨.ref C,od,.fields vs,#[]⟩)/\vs[1]?=some .none/\E (.ref e) s1) E s):wpAny M A (exec (.Raise (some x) none pos) env) Q E s:=by
 rw[arm_exec_Raise]
 refine Aa (AV ?_)
 show wpAny M A (raiseStmt env (some (do let v <- As x env;Bm pos;pure v)) none) Q E s
 exact eW hh (Aa (An k (fun v s1 z=>Aa (AV (Ag z))) fun _ _ y=>y))
theorem eY {h:Ap}{g:Array B2}{dr:Drawn}{tk:Nat}{os:OsState}{e:Ac}{oe:Obj}{Q:Bool->Af->Prop}{nm2 q2:Str}{N2:Ac}{bs2:List Ad}{CI:Bool}{sn2:List Str}{sub2:List Ad}{ab2:Bool}{col2:Option Bool}{dd2:Option Ac}{j0 j1 j2 j3 j5:Option Ad}{nw2:String}
  (oC:h.get? C=some (At nm qn C N bs (.ref W::vBM) C6 sn sub ab col dd k0 k1 k2 k3 k5 xNew)) (oW:h.get? W=some (At nm2 q2 W N2 bs2 vBM CI sn2 sub2 ab2 col2 dd2 j0 j1 j2 j3 j5 nw2))
  (he:h.get? e=some oe) (ec:oe.cls=.ref C) (k:Q true ⟨h,g,dr,tk,os⟩):wpAny M A (B1 (.ref e) (.ref W)) Q E ⟨h,g,dr,tk,os⟩:=by
 have c1:(Value.ref W::vBM).contains (.type "BaseException")=true:=by rw[Sr,xB.hasBase,Zs]
 have c2:(Value.ref C::.ref W::vBM).contains (.ref W)=true:=by simp
 have c3:=tc_notTuple
 unfold B1
 repeat (first | (with_reducible refine Al he ?_;rw[ec]) | with_reducible refine Al oW ?_ | (with_reducible refine Au oW ?_;rw[c1]) | (with_reducible refine Au oC ?_;rw[c2]) | wp_step)
 exact k
end
noncomputable abbrev xGa:String:="BaseException.__getattribute__"
section
variable {prog:Ak}{w:Am}{M:Model}{A:Ao}{E:Ad->Af->Prop}{h:Ap}{g:Array B2}{dr:Drawn}{tk:Nat}{os:OsState}
variable {nm qn:Str}{C N W e:Ac}{bs:List Ad}{C6:Bool}{sn:List Str}{sub:List Ad}{ab:Bool}{col:Option Bool}{dd:Option Ac}{k0 k1 k2 k3 k5:Option Ad}{oe:Obj}
theorem eZ (oC:h.get? C=some (At nm qn C N bs (.ref W::vBM) C6 sn sub ab col dd k0 k1 k2 k3 k5 xNew)) (he:h.get? e=some oe) (ec:oe.cls=.ref C) (k:Q () ⟨h,g,dr,tk,os⟩):wpAny M A (Az xGa ⟨[.ref e,nv],[]⟩) Q E ⟨h,g,dr,tk,os⟩:=by
 have c0:builtinKind xGa=some .slot:=by decide +kernel
 have c1:splitId xGa=some ("BaseException","__getattribute__"):=by decide +kernel
 have c2:(Value.ref C::.ref W::vBM).contains (.type "BaseException")=true:=Sf xB.hasBase
 have c3:=PySem.F.args_bexc_ga (.ref e) nv
 simp only[Az,c0,c1]
 refine Aa ?_
 unfold isInstance
 repeat (first | (with_reducible refine Al he ?_;rw[ec]) | (with_reducible refine Au oC ?_;rw[c2]) | wp_step)
 exact k
theorem xg_by (oC:h.get? C=some (At nm qn C N bs (.ref W::vBM) C6 sn sub ab col dd k0 k1 k2 k3 k5 xNew)) (he:h.get? e=some oe) (ec:oe.cls=.ref C) (l1:Lk (Aj prog w) h (AY (.ref C) "__getattribute__") (some (.builtin xGa))) (l2:Lk (Aj prog w) h (AY (.ref C) "__getattr__") none) (k:wpAny (Aj prog w) A.in1 (Builtin.«object.__getattribute__» ⟨[.ref e,.str name tn],[]⟩) (fun fin s'=>match fin with | .done (.ret v)=>wpAny (Aj prog w) A (handedOut v) Q E s' | _=>False) (fun _ _=>False) ⟨h,g,dr,tk,os⟩):
  wpAny (Aj prog w) A (getAttrBy (.ref e) (.str name tn) fill expr) Q E ⟨h,g,dr,tk,os⟩:=by
 have c0:=(i9).ga.bind (.ref e)
 have c1:(expr&&onTheHeap (Value.builtin xGa))=false:=by cases expr <;> rfl
 have c2:(Value.builtin xGa == Value.builtin "object.__getattribute__")=false:=by decide +kernel
 have c3:(onTheHeap (Value.ref C)&&Value.builtin xGa == Value.builtin "object.__getattribute__")=false:=by rw[c2];rfl
 repeat (any_goals (first | assumption | (with_reducible refine Al he ?_;rw[ec]) | with_reducible refine Lk.run l1 rfl ?_ | with_reducible refine Lk.run l2 rfl ?_ | wp_step))
 refine AT (i9).ga.plain PySem.F.entry_bexc_ga (eZ oC he ec (An k (fun fin s' z=>?_) fun _ _ z=>z.elim))
 rcases fin with (_ | _ | _ | _) | _ <;> first | exact z | exact z.elim | (repeat (any_goals (first | assumption | wp_step)))
end
theorem OH (l:iO M h m r):Lk M h m r:=fun A Q E s e q=>l A Q E s (fun b o z=>by rw[e];exact z) q
section
open PySem.W
variable {prog:Ak}{w:Am}{A:Ao}{E:Ad->Af->Prop}{s:Af}{K:Frag}{x C W N:Ac}{ox:Obj}{od:Option Obj}{name:Str}{expr:Bool}
variable {nm qn:Str}{bs:List Ad}{C6:Bool}{sn:List Str}{sub:List Ad}{ab:Bool}{col:Option Bool}{dd:Option Ac}{k0 k1 k2 k3 k5:Option Ad}
theorem e9 (X:K.In s.heap) (I:InstAt s.heap x ox C od) (oC:K.lookup C=some (At nm qn C N bs (.ref W::vBM) C6 sn sub ab col dd k0 k1 k2 k3 k5 xNew)) (g1:findIn K (.ref C) "__getattribute__"=some (some (.builtin xGa))) (g2:findIn K (.ref C) "__getattr__"=some none) (hf:findObj K C od name=some (.value v)) (hh:handedIn v=true) (h:Q v { s with toks:=s.toks+1 }):
  wpAny (Aj prog w) A (getAttr (.ref x) name expr) Q E s:=by
 obtain⟨hh',g,d,t,os⟩:=s
 have L0:=OH (I.type (M:=Aj prog w))
 have L1:=OH (looks_find (M:=Aj prog w) X I hf)
 unfold getAttr
 refine Aa (wpAny_mkText ?_)
 refine xg_by (X _ _ oC) I.at_ I.cls (OH (looks_findIn X g1)) (OH (looks_findIn X g2)) ?_
 refine Aa (Ag (Aa (Ag (Aa (L0.run rfl (Aa (L1.run rfl (Ag ?_))))))))
 show wpAny _ _ (handedOut v) _ _ _
 rw[handedOut_of hh];exact Ag h
theorem e_ (X:K.In s.heap) (I:InstAt s.heap x ox C od) (oC:K.lookup C=some (At nm qn C N bs (.ref W::vBM) C6 sn sub ab col dd k0 k1 k2 k3 k5 xNew)) (g1:findIn K (.ref C) "__getattribute__"=some (some (.builtin xGa))) (g2:findIn K (.ref C) "__getattr__"=some none) (hf:findObj K C od "__class__"=some (.bind (.builtin "getset_descriptor.__get__") (.builtin "object.__class__"))) (hm:mroIn K C (.type "object")=some true) (h:Q (some (.ref C)) { s with toks:=s.toks+1 }):wpAny (Aj prog w) A (getAttr? (.ref x) "__class__") Q E s:=by
 obtain⟨hh',g,d,t,os⟩:=s
 have L0:=OH (I.type (M:=Aj prog w))
 have L1:=OH (looks_find (M:=Aj prog w) X I hf)
 unfold getAttr? getAttrBy?
 refine Aa (wpAny_mkText (Aa (BY ?_)))
 refine xg_by (X _ _ oC) I.at_ I.cls (OH (looks_findIn X g1)) (OH (looks_findIn X g2)) ?_
 refine Aa (Ag (Aa (Ag (Aa (L0.run rfl (Aa (L1.run rfl ?_)))))))
 show wpAny _ _ (Bf [Value.builtin "object.__class__"] (call (.builtin "getset_descriptor.__get__") [.builtin "object.__class__",.ref x,.ref C]) >>= ret) _ _ _
 refine Aa (AN (Bc (class_get (s:=⟨hh',g,d,t+1,os⟩) (ox:=ox) (od:=od) X I hm ?_)))
 refine Ag ?_
 show wpAny _ _ (handedOut (.ref C)) _ _ _
 rw[handedOut_of rfl]
 exact Ag (Ag h)
end
end L2
namespace L2
open PySem PySem.Spec PyProof.Rows
noncomputable def XO (e C:Ac)(od:Option Ac)(fr:Bool):HO:=.ext fun h=>∃(vs:Array Ad) (t0:Ac),h.get? e=some ⟨.ref C,od,.fields vs,#[]⟩/\vs.size=6/\vs[0]?=some (.ref t0)/\(fr=true->vs[1]?=some .none)
theorem Pj (he:h.get? e=some ⟨.ref C,od,.fields vs,#[]⟩) (hz:vs.size=6) (h0:vs[0]?=some (.ref t0)) (h1:fr=true->vs[1]?=some .none):
  ObjOk P w H h e (XO e C od fr):=⟨⟨vs,t0,he,hz,h0,h1⟩,⟨_,he⟩,fun _ _ ⟨vs,t0,a,b⟩ k=>⟨vs,t0,k _ a,b⟩⟩
theorem QN (ok:HOk P w H h) (q:H e=some (XO e C od fr)):
  ∃(vs:Array Ad) (t0:Ac),h.get? e=some ⟨.ref C,od,.fields vs,#[]⟩/\vs.size=6/\vs[0]?=some (.ref t0)/\(fr=true->vs[1]?=some .none):=(ok e _ q).1
theorem Xl (h:H a=some o):upd H a o=H:=by
 funext b;unfold upd;split
 ·rename_i e;rw[e,h]
 ·rfl
structure Exc (K:L3)(W C:Ac):Prop where
 ob:∃(nm qn:Str) (N:Ac) (bs:List Ad) (sn:List Str) (sub:List Ad) (ab:Bool) (col:Option Bool) (dd:Option Ac) (k0 k1 k2 k3 k5:Option Ad),
  K.lookup C=some (At nm qn C N bs (.ref W::vBM) true sn sub ab col dd k0 k1 k2 k3 k5 xNew)
 ga:Mw K (.ref C) "__getattribute__"=some (some (.builtin xGa))
 gr:Mw K (.ref C) "__getattr__"=some none
 sa:Mw K (.ref C) "__setattr__"=some (some (.builtin "object.__setattr__"))
 kp:OA K (.ref C)=true
 cl:Mw K (.ref C) "__class__"=some (some (.builtin "object.__class__"))
theorem Exc.cls {K:L3}{W C:Ac}(x:Exc K W C):∃ cd,Z4 K C=some cd/\cd.mro=.ref C::.ref W::vBM/\cd.hasDict=true:=by
 obtain⟨nm,qn,N,bs,sn,sub,ab,col,dd,k0,k1,k2,k3,k5,h⟩:=x.ob
 exact⟨_,by unfold Z4;rw[h],rfl,rfl⟩
theorem Exc.hd {K:L3}{W C:Ac}(x:Exc K W C):R4 K C=true:=by
 obtain⟨cd,h1,_,h2⟩:=x.cls
 unfold R4;rw[h1];exact h2
section
variable {X:Cx}{B_:List (Ac×Obj)}{σ:St}{H:Hp}{s:Af}{W C f:Ac}{fd:Ay}{ps:List Str}{sp:Sp}{k:Nat}{CX:CXT}{E:XK}
theorem fb (M:Exc X.K W C) (hi:Mw X.K (.ref C) "__init__"=some (some (.ref f))) (hf:Sn X.K (.ref f)=true) (F:FnOk X.prog X.w X.K X.mg X.base CX k f fd ps sp) (hr:Room (k+1) X.A) (hb:Binds X.K fd ps []) (hx:Os CX X E) (I:Inv X B_ σ H s) (r:Vals vs us) (hz:vs.length<=Ae) (h:∀ x,H x=none->sp (.ref x::vs) (upd H x (XO x C none true)) (fun v H2=>v=.non/\Q (.ref x) H2) E):wpAny (Aj X.prog X.w) X.A (call (.ref C) us) (EP X B_ σ Q) X.xe s:=by
 have hq:=h (s.heap.objs.size+1) (I.hok.fresh (Qw _))
 have Fa:us.length<=Ae:=by rw[<- r.length];exact hz
 have I2:Inv X B_ σ (upd H (s.heap.objs.size+1) (XO (s.heap.objs.size+1) C none true)) { s with heap:=OG C us s.heap } :=
  I.laid (a:=s.heap.objs.size+1) (o:=XO (s.heap.objs.size+1) C none true) (h':=OG C us s.heap) (t':=s.toks) (fun b u q=>eL q) (Qw _) (Pj ZT rfl rfl fun _=>rfl)
 have r2:Vals (V.ref (s.heap.objs.size+1)::vs) (Value.ref (s.heap.objs.size+1)::us):=.cons rfl r
 have hl:(Value.ref (s.heap.objs.size+1)::us++[]).length=ps.length:=by
  rw[Pr,<- r2.length];exact F.len _ _ _ _ hq
 have JY:=hb { s with heap:=OG C us s.heap } (Value.ref (s.heap.objs.size+1)::us) I2.kIn hl
 rw[Pr] at JY
 obtain⟨nm,qn,N,bs,sn,sub,ab,col,dd,k0,k1,k2,k3,k5,oC⟩:=M.ob
 have KI:=I.kIn
 have KI2:=I2.kIn
 obtain⟨hh,g,d,t,os⟩:=s
 refine Xi (KI _ _ oC) Fa (OH (UZ KI2 hi)) (OH (PySem.W.bind_fn KI2 _ (beq_iff_eq.mp hf))) ?_
 refine Bc (A2 (F.run _ X.stack _ _ ⟨Value.ref (hh.objs.size+1)::us,[]⟩ (Value.ref (hh.objs.size+1)::us) _ _ E (hr.make C us []) (I2.env0.make C us []) JY r2 hq) fun r s' hq'=>?_)
 cases r with
 | error e=>exact hx B_ σ _ _ e s' I2 hq'
 | ok fl =>
  cases fl with
  | ret u =>
   obtain⟨v,H',I3,rv,ev,q3⟩:=I2.after hq'
   subst ev
   exact⟨rv,⟨V.ref (hh.objs.size+1),H',I3,rfl,q3⟩⟩
  | next=>exact Oi hq'
  | brk=>exact Oi hq'
  | cont=>exact Oi hq'
end
section
variable {X:Cx}{W C f:Ac}{fd:Ay}{ps:List Str}{sp:Sp}{k:Nat}{CX:CXT}{E:XK}{x:Str}{p pos Ct:Pos}{e:Ax}{es:List Ax}{t:TA}
def TK (C:Ac)(sp:Sp)(E:XK)(t:TA):TE:=fun σ H Q=>t σ H fun vs H1=>vs.length<=Ae/\∀ x,H1 x=none->sp (.ref x::vs) (upd H1 x (XO x C none true)) (fun v H2=>v=.non/\Q (.ref x) H2) E
theorem fc (M:Exc X.K W C)(hi:Mw X.K (.ref C) "__init__"=some (some (.ref f)))(hf:Sn X.K (.ref f)=true)(F:FnOk X.prog X.w X.K X.mg X.base CX k f fd ps sp)(hr:Room (k+1) X.A)(hg:Gl X x)(hm:X.mg x=some (.ref C))
  (hb:Binds X.K fd ps []) (hx:Os CX X E) (ha:PA X (e::es) t) (Dl:(x == ("__debug__":Str))=false:=by decide) (he:Ah (e::es) X.env=(false,As e X.env)::Ah es X.env:=by rfl) (Cz:(AA pos (Ah es X.env)).any (·.1)=false:=by rfl) :
  PE X (.Call (.Name x p) (e::es) [] pos) (TK C sp E t):=by
 intro B_ s σ H Q I h
 refine AC (PN I hg hm ?_ Dl)
 refine U0 (h₀:=X.base) I.ok.mod.kin M.kp (thn (ha pos B_ s σ H _ I h) fun us s1 ⟨vs,H1,I1,r,z,q⟩=>⟨I1.kIn,?_⟩) he Cz
 exact fb M hi hf F hr hb hx I1 r z q
def Xm (C:Ac)(t:TA):TE:=fun σ H Q=>t σ H fun vs H1=>vs.length<=Ae/\∀ x,H1 x=none->Q (.ref x) (upd H1 x (XO x C none true))
theorem Xn (M:Exc X.K W C)(hi:Mw X.K (.ref C) "__init__"=some (some (.builtin xIni)))(hg:Gl X x)(hm:X.mg x=some (.ref C))
  (ha:PA X (e::es) t) (Dl:(x == ("__debug__":Str))=false:=by decide) (he:Ah (e::es) X.env=(false,As e X.env)::Ah es X.env:=by rfl) (Cz:(AA pos (Ah es X.env)).any (·.1)=false:=by rfl) :
  PE X (.Call (.Name x p) (e::es) [] pos) (Xm C t):=by
 intro B_ s σ H Q I h
 refine AC (PN I hg hm ?_ Dl)
 refine U0 (h₀:=X.base) I.ok.mod.kin M.kp (thn (ha pos B_ s σ H _ I h) fun us s1 ⟨vs,H1,I1,r,z,q⟩=>⟨I1.kIn,?_⟩) he Cz
 have Fa:us.length<=Ae:=by rw[<- r.length];exact z
 have hq:=q (s1.heap.objs.size+1) (I1.hok.fresh (Qw _))
 have I2:Inv X B_ σ (upd H1 (s1.heap.objs.size+1) (XO (s1.heap.objs.size+1) C none true)) { s1 with heap:=OG C us s1.heap } :=
  I1.laid (a:=s1.heap.objs.size+1) (o:=XO (s1.heap.objs.size+1) C none true) (h':=OG C us s1.heap) (t':=s1.toks) (fun b u q=>eL q) (Qw _) (Pj ZT rfl rfl fun _=>rfl)
 obtain⟨nm,qn,N,bs,sn,sub,ab,col,dd,k0,k1,k2,k3,k5,oC⟩:=M.ob
 have KI:=I1.kIn
 have KI2:=I2.kIn
 obtain⟨hh,g,d,t,os⟩:=s1
 refine Xi (KI _ _ oC) Fa (OH (UZ KI2 hi)) (OH (jp (xB.init.bind _))) ?_
 refine Xh (KI2 _ _ oC) ZT rfl Fa fun h' hk he'=>⟨rfl,.ref (hh.objs.size+1),_,?_,rfl,hq⟩
 have hw:=I2.write (x:=hh.objs.size+1) (e:=hh.objs.size+1) (h':=h') (o:=XO (hh.objs.size+1) C none true) (t':=t) (by rw[LX];exact True.intro) (.inl rfl) (fun b u hb q=>hk b u hb q) ⟨_,he'⟩ (Pj he' rfl rfl fun _=>rfl)
 rw[OR] at hw
 exact hw
def Xo (K:L3)(W:Ac)(t:TA):TE:=fun σ H Q=>t σ H fun vs H1=>∃(e C:Ac) (od:Option Ac) (fr:Bool) (y:V),vs=[.ref e,y]/\H1 e=some (XO e C od fr)/\Exc K W C/\Q .non H1
structure ExcBase (K:L3)(W:Ac):Prop where
 rd:PySem.W.readsIn K W (.type "type")=true
 ga:U2 K (.ref W) "__getattribute__"=some (some (.builtin "type.__getattribute__"))
 ini:PySem.W.findCls K (.ref W) (.type "type") "__init__"=some (.val (.builtin xIni))
theorem Xp (M:ExcBase X.K W) (hg:Gl X x) (hm:X.mg x=some (.ref W)) (ha:PA X (e::es) t) (Dl:(x == ("__debug__":Str))=false:=by decide) (he:Ah (e::es) X.env=(false,As e X.env)::Ah es X.env:=by rfl) (Cz:(AA pos (Ah es X.env)).any (·.1)=false:=by rfl) (ht:As (.Call (.Attribute (.Name x p) "__init__" Ct) (e::es) [] pos) X.env=(do
   let ov <- As (.Name x p) X.env
   Bm Ct.atName
   let (f,first) <- Bf [ov] (Bq ov "__init__" pl)
   BK pos f first (AA pos (Ah (e::es) X.env)) (A_ pos (AS [] X.env))):=by rfl):
  PE X (.Call (.Attribute (.Name x p) "__init__" Ct) (e::es) [] pos) (Xo X.K W t):=by
 intro B_ s σ H Q I h
 refine ZY (pl:=pl) (PN I hg hm ?_ Dl) ht
 refine PySem.W.method_cls I.kIn M.ga (PySem.W.cls_value I.kIn M.rd M.ini rfl ?_)
 refine je (thn (ha pos B_ _ σ H _ (I.tok _) h) fun us s1 ⟨vs,H1,I1,r,ex,C,od,fr,y,ev,hX,hE,q⟩=>?_) he Cz
 subst ev
 cases r with
 | cons r1 rs =>
  cases (show _=Value.ref ex from r1)
  obtain⟨vs,t0,he,hz,h0,h1⟩:=QN I1.hok hX
  obtain⟨nm,qn,N,bs,sn,sub,ab,col,dd,k0,k1,k2,k3,k5,oC⟩:=hE.ob
  have Cd:=rs.length
  have KI:=I1.kIn
  obtain⟨hh,g,d,t,os⟩:=s1
  refine Xh (KI _ _ oC) he h0 (by rw[<- Cd];exact szn (by show 1<=1000000;decide)) fun h' hk he'=>⟨.non,_,?_,rfl,q⟩
  have hw:=I1.write (x:=ex) (e:=ex) (h':=h') (o:=XO ex C od fr) (t':=t) (by rw[hX];exact True.intro) (.inl rfl) (fun b u hb q=>hk b u hb q) ⟨_,he'⟩
   (Pj (t0:=hh.objs.size) he' (by rw[jl];exact hz) (by simp[hz]) fun z=>by rw[jk (by decide)];exact h1 z)
  rw[Xl hX] at hw
  exact hw
end
abbrev TJ:=St->Hp->Nat->VK->Prop
def PJ (X:Cx)(es:List Ax)(t:TJ):Prop:=∀(B_:List (Ac×Obj)) (s:Af) (σ:St) (H:Hp) (Ca:Str) (Q:VK),Inv X B_ σ H s->t σ H Ca.length Q ->
 Joins (Aj X.prog X.w) X.A X.xe (evalEach es X.env) Ca (fun out s1=>out.length<=Ae/\EP X B_ σ Q (.str out s1.toks) { s1 with toks:=s1.toks+1 }) s
noncomputable def jNil:TJ:=fun _ H n Q=>n<=1000000/\∀ z,Q (.str z) H
noncomputable def N_ (te:TE)(t:TJ):TJ:=fun σ H n Q=>te σ H fun x H1=>∃ y,x=.str y/\n+y.length<=1000000/\t σ H1 (n+y.length) Q
def tFs (t:TJ):TE:=fun σ H Q=>t σ H 0 Q
section
variable {X:Cx}{e a b:Ax}{es:List Ax}{te:TE}{t:TJ}{pos:Pos}
theorem Pk:PJ X [] jNil:=fun B_ s σ H Ca Q I h=>⟨szn h.1,.str Ca,H,I.tok _,⟨_,rfl⟩,h.2 Ca⟩
theorem OI (he:PE X e te)(hr:PJ X es t)(KG:evalEach (e::es) X.env=As e X.env::evalEach es X.env:=by rfl):PJ X (e::es) (N_ te t):=by
 intro B_ s σ H Ca Q I h
 rw[KG]
 refine thn (he B_ s σ H _ I h) fun u s1 ⟨x,H1,I1,r,y,ex,hz,q⟩=>?_
 subst ex
 obtain⟨tk,rfl⟩:=(show ∃ tk,u=Value.str y tk from r)
 exact⟨y,tk,rfl,szn (by rw[strLen_append];exact hz),hr B_ s1 σ H1 (Ca++y) Q I1 (by rw[strLen_append];exact q)⟩
theorem Pl (h:PJ X (a::b::es) t):PE X (.JoinedStr (a::b::es) pos) (tFs t):=by
 intro B_ s σ H Q I q
 exact wpAny_JoinedStr (h B_ s σ H Va Q I q)
def tFv (te:TE):TE:=fun σ H Q=>te σ H fun x H1=>(∃ i:Int,x=.int i/\i.natAbs.log2 < 1920/\∀ z:Str,z.length<=2000->Q (.str z) H1)∨∃ y:Str,x=.str y/\y.length<=1000000/\Q (.str y) H1
theorem RB (he:PE X e te):PE X (.FormattedValue e (-1) none pos) (tFv te):=by
 intro B_ s σ H Q I q
 refine wpAny_FormattedValue_plain (thn (he B_ s σ H _ I q) fun u s1 ⟨x,H1,I1,r,q1⟩=>?_)
 rcases q1 with ⟨i,rfl,hi,q1⟩ | ⟨y,rfl,hy,q1⟩
 ·obtain⟨tk,rfl⟩:=(show ∃ tk,u=Value.int i tk from r)
  refine wpAny_formatField_int hi ⟨.str (toString i),H1,(I1.tok _),⟨_,rfl⟩,q1 _ ?_⟩
  have:=int_text_length_le (k:=1920) (by decide) hi
  rw[PySem.ofString_length];omega
 ·obtain⟨tk,rfl⟩:=(show ∃ tk,u=Value.str y tk from r)
  exact BI ⟨.str y,H1,I1,⟨_,rfl⟩,q1⟩ ⟨.str y,H1,I1.tok _,⟨_,rfl⟩,q1⟩ (szn hy)
def tFr (te:TE):TE:=fun σ H Q=>te σ H fun x H1=>∃ y:Str,x=.str y/\(PySem.reprText y).length<=1000/\Q (.str (PySem.reprText y)) H1
theorem pe_fr (he:PE X e te):PE X (.FormattedValue e 114 none pos) (tFr te):=by
 intro B_ s σ H Q I q
 refine wpAny_FormattedValue_repr (thn (he B_ s σ H _ I q) fun u s1 ⟨x,H1,I1,r,y,ex,hy,q1⟩=>?_)
 subst ex
 obtain⟨tk,rfl⟩:=(show ∃ tk,u=Value.str y tk from r)
 refine wpAny_pyReprObj_gives (T:="str") rfl slot_str_repr entry_str_repr (args_str_repr _) (gives_str_repr y tk) ?_ rfl (szn (MR hy (by decide)))
 exact BI ⟨.str (B4 y),H1,(I1.tok _),⟨_,rfl⟩,q1⟩ ⟨.str (B4 y),H1,(I1.tok _).tok _,⟨_,rfl⟩,q1⟩ (szn (MR hy (by decide)))
end
theorem Inv.track (I:Inv X B_ σ H s) (n:H d=none) (h0:X.s₀.heap.objs.size<=d) (hl:d≠X.env.locals) (hc:∀ x c,X.env.cells.lookup x=some c->c≠d) (hp:∀ p∈X.pn++B_,p.1≠d) (ok:ObjOk X.prog X.w (upd H d o) s.heap d o):Inv X B_ σ (upd H d o) s:=by
 have ne:∀ b ob,X.s₀.heap.get? b=some ob->b≠d:=fun b ob e=>MA (Nh (Ml e) h0)
 refine⟨I.ok,I.os,I.bare,⟨I.base.keep,I.base.slot,fun b ob e q hx=>?_,I.base.there,fun b xs q=>?_,fun b ob u q=>?_,fun b ps q=>?_⟩,I.loc,I.cell,?_,fun x c e=>?_,fun p hq=>?_,fun b u e=>?_,I.len⟩
 ·rw[L4 (ne b ob e)];exact I.base.free b ob e q hx
 ·have q2:=I.base.tups b xs q
  rw[L4 (Mj q2 n)];exact q2
 ·have q2:=I.base.frzs b ob u q
  rw[L4 (Mj q2 n)];exact q2
 ·obtain⟨more,q2⟩:=I.base.tbls b ps q
  exact⟨more,by rw[L4 (Mj q2 n)];exact q2⟩
 ·rw[L4 (MB hl)];exact I.free
 ·rw[L4 (hc x c e)];exact I.freeC x c e
 ·obtain⟨e1,e2,e3⟩:=I.pin p hq
  exact⟨e1,by rw[L4 (hp p hq)];exact e2,e3⟩
 ·by_cases hb:b=d
  ·subst hb;rw[LX] at e;cases e;exact ok
  ·rw[L4 hb] at e
   exact(I.hok b u e).stay (fun _ _ _ q=>q) (fun c q=>by rw[L4 (Mj q n)];exact q) fun c xs q=>by rw[L4 (Mj q n)];exact q
theorem Xq (h:a≠b):upd (upd H a o) b u=upd (upd H b u) a o:=by
 funext c;unfold upd
 by_cases h1:c=a
 ·subst h1;simp[h]
 ·simp[h1]
section
variable {X:Cx}{o e value:Ax}{f:Str}{pos pos':Pos}{ta tv:TE}
def sFldX (K:L3)(ta tv:TE)(f:Str):TS:=fun D σ H=>tv σ H fun y H1=>ta σ H1 fun x H2=>∃(a C W:Ac) (fr:Bool),x=.ref a/\H2 a=some (XO a C none fr)/\Exc K W C/\NoAttr K C f /\
 ∀ d,H2 d=none->d≠a->D.nx σ (upd (upd H2 d (.xd [(f,y)])) a (XO a C (some d) fr))
theorem Qe (ha:PE X o ta)(hv:PE X value tv)(hs:Bo value (some (.Attribute o f pos')) pos.line X.env=pure false):PS X (.Assign [.Attribute o f pos'] value pos) (sFldX X.K ta tv f):=by
 intro B_ s σ H D I h
 refine Bb (thn (hv B_ s σ H _ I h) fun u s1 ⟨y,H1,I1,ry,q⟩=>thn (ha B_ s1 σ H1 _ I1 q) fun ov s2 ⟨x,H2,I2,rx,a,C,W,fr,ex,ea,M,n,q2⟩=>?_) hs
 subst ex
 obtain rfl:ov=Value.ref a:=rx
 obtain⟨vs,t0,he,hz,h0,h1⟩:=QN I2.hok ea
 obtain⟨nm,qn,N,bs,sn,sub,ab,col,dd,k0,k1,k2,k3,k5,oC⟩:=M.ob
 have KI:=I2.kIn
 have EC:H2 s2.heap.objs.size=none:=I2.hok.fresh (L' _)
 have C7:=Ml he
 obtain⟨hh,g,d,t,os⟩:=s2
 refine eR (KI _ _ oC) he rfl rfl rfl rfl (OH (UZ KI M.sa)) (OH (UZ KI n)) fun h' tk' e1 e2 e3=>⟨σ,_,?_,q2 hh.objs.size EC (Sx C7)⟩
 have G4:a≠hh.objs.size:=MA C7
 have hw:=I2.write (x:=a) (e:=a) (h':=h') (o:=XO a C (some hh.objs.size) fr) (t':=tk') (by rw[ea];exact True.intro) (.inl rfl) (fun b u hb q=>e3 b u hb q) ⟨_,e1⟩ (Pj e1 hz h0 h1)
 have n2:(upd H2 a (XO a C (some hh.objs.size) fr)) hh.objs.size=none:=by rw[L4 (MB G4)];exact EC
 have ht:=hw.track (d:=hh.objs.size) (o:=.xd [(f,y)]) n2 I2.sz (Sx I2.lt) (fun x c e=>?_) (fun p hp=>?_) ⟨_,e2,fun g=>?_⟩
 ·rw[Xq G4] at ht;exact ht
 ·obtain⟨v,o,ho,_⟩:=I2.cell x c e
  exact MA (Ml ho)
 ·obtain⟨e1,_⟩:=I2.pin p hp
  exact MA (Ml e1)
 ·by_cases hg:g=f
  ·subst hg
   have:PM g [(g,y)]=some y:=by simp[PM]
   rw[this,B9 rfl];exact ry
  ·have:PM g [(f,y)]=none:=by
    have hb:(g == f)=false:=beq_eq_false_iff_ne.mpr hg
    simp[PM,hb]
   rw[this,B8 hg];exact True.intro
def tFldX (K:L3)(ta:TE)(f:Str):TE:=fun σ H Q=>ta σ H fun x H1=>∃(a C W d:Ac) (fr:Bool) (fs:List (Str×V)) (v:V),x=.ref a/\H1 a=some (XO a C (some d) fr)/\H1 d=some (.xd fs)/\Exc K W C/\NoAttr K C f/\fs.lookup f=some v/\Q v H1
theorem TL {K:L3}(he:PE X e ta)(hb:AI e f X.env (As e X.env)=As e X.env)(hK:X.K=K:=by rfl):PE X (.Attribute e f pos) (tFldX K ta f):=by
 subst hK
 intro B_ s σ H Q I h
 refine VB hb (thn (he B_ s σ H _ I h) fun u s1 ⟨x,H1,I1,rx,a,C,W,d,fr,fs,v,ex,ea,ed,M,n,l,q⟩=>?_)
 subst ex
 obtain rfl:u=Value.ref a:=rx
 obtain⟨vs,t0,he,hz,h0,h1⟩:=QN I1.hok ea
 obtain⟨mA,nA,rA⟩:=(show ∃ mA,s1.heap.Ns1 d mA/\∀ f,RelO (fs.lookup f) (mA f) from I1.hok d _ ed)
 obtain⟨od,ho,hl⟩:=Vw nA
 obtain⟨u,hu,ru⟩:=RelO.some_of (v:=v) (o:=mA f) (by rw[<- l];exact rA f)
 have J:Zd s1.heap a ⟨.ref C,some d,.fields vs,#[]⟩ C (some od):=⟨he,rfl,rfl,ho⟩
 obtain⟨nm,qn,N,bs,sn,sub,ab,col,dd,k0,k1,k2,k3,k5,oC⟩:=M.ob
 exact e9 I1.kIn J oC M.ga M.gr (iS M.hd n rfl (by rw[hl,hu])) (Vz ru) ⟨v,H1,I1.tok _,ru,q⟩
end
theorem xo_ne {H:Hp}{x b C:Ac}{od:Option Ac}{fr:Bool}(h:H x=some (XO x C od fr))(n:H b=none):b≠x:=fun e=>by rw[e,h] at n;cases n
theorem RC (U:Un fs' [] H₀ H h₀ h) (KH:∀ b o,h₀.get? b=some o->b∈fs'->b∈fs) (hX:H x=some (XO x C od fr)) (hb:∀ b o o',h₀.get? b=some o'->h.get? b=some o->b∉fs->b≠x->base.get? b=some o) (F:Fl base l x C od fl h') (us:h.UpToSlots h') (hf:∀ b∈fs,∀ o,h.get? b=some o->∀ vs,o.data≠.fields vs):Un fs [] H₀ (upd H x (XO x C od false)) h₀ h':=by
 have noE:∀ b:Ac,b∉([]:List Ac):=fun b z=>by simp at z
 refine⟨fun b o q n hn _=>?_,fun b o q n hn _=>?_,fun b o q n _=>?_,fun b o q _=>?_,fun b xs q=>?_,fun b o u q=>?_,fun b ps q=>?_⟩
 ·have e1:=U.keep b o q n (fun z=>hn (KH b o q z)) (noE b)
  exact F.1 b o (hb b o o q e1 hn (xo_ne hX (U.free b o q n (noE b))))
 ·by_cases hm:b∈fs'
  ·obtain⟨sl,e1⟩:=U.slot b o q n hm (noE b)
   obtain⟨sl2,e2⟩:=us b _ e1 (hf b hn _ e1)
   exact⟨sl2,e2⟩
  ·have e1:=U.keep b o q n hm (noE b)
   obtain⟨sl2,e2⟩:=us b _ e1 (hf b hn _ e1)
   exact⟨sl2,e2⟩
 ·have n1:=U.free b o q n (noE b)
  rw[L4 (xo_ne hX n1)];exact n1
 ·obtain⟨o1,e1⟩:=U.there b o q (noE b)
  by_cases hm:b∈fs
  ·obtain⟨sl,e2⟩:=us b _ e1 (hf b hm _ e1)
   exact⟨_,e2⟩
  ·by_cases hx:b=x
   ·obtain⟨vs,t0,e2,_⟩:=F.at
    exact⟨_,by rw[hx];exact e2⟩
   ·exact⟨o1,F.1 b o1 (hb b o1 o q e1 hm hx)⟩
 ·have n1:=U.tups b xs q
  rw[L4 (NY n1 hX (by intro z;cases z))];exact n1
 ·have n1:=U.frzs b o u q
  rw[L4 (NY n1 hX (by intro z;cases z))];exact n1
 ·obtain⟨more,n1⟩:=U.tbls b ps q
  exact⟨more,by rw[L4 (NY n1 hX (by intro z;cases z))];exact n1⟩
theorem TM (x:ObjOk P w H h a o):∃ ob,h.get? a=some ob:=by
 cases o with
 | lst xs=>obtain⟨_,_,_,_,e⟩:=x;exact⟨_,e⟩
 | tup xs=>obtain⟨_,_,_,⟨o,e,_⟩,_⟩:=x;exact⟨_,e⟩
 | dK B'=>obtain⟨_,_,_,_,o,_,_,e,_⟩:=x;exact⟨_,e⟩
 | dT B'=>obtain⟨_,_,_,_,o,_,_,e,_⟩:=x;exact⟨_,e⟩
 | set S n=>obtain⟨o,_,_,_,e,_⟩:=x;exact⟨_,e⟩
 | ins C dx fs=>obtain⟨_,_,_,e,_⟩:=x;exact⟨_,e⟩
 | own y=>exact x
 | xd fs=>obtain⟨_,⟨_,_,_,e,_⟩,_⟩:=x;exact⟨_,e⟩
 | rng lo hi=>obtain⟨_,_,_,e⟩:=x;exact⟨_,e⟩
 | frz ob u=>obtain⟨e,_⟩:=x;exact⟨_,e⟩
 | tbl ps=>exact⟨_,x⟩
 | met f y=>exact⟨_,x⟩
 | ext φ=>obtain⟨_,e,_⟩:=x;exact e
theorem RD (ok:HOk P w H h) (hX:H x=some (XO x C od fr)) (ht:∀ a u o,H a=some u->a≠x->h.get? a=some o->base.get? a=some o) (F:Fl base l x C od fl h'):HOk P w (upd H x (XO x C od false)) h':=fun a u e=>by
 by_cases ha:a=x
 ·subst ha
  rw[LX] at e;cases e
  obtain⟨vs,t0,e2,hz,h0⟩:=F.at
  exact Pj e2 hz h0 fun z=>by cases z
 ·rw[L4 ha] at e
  refine(ok a u e).stay (fun b v hb q=>?_) (fun b q=>?_) fun b xs q=>?_
  ·have JZ:b≠x:=by
    rcases hb with rfl | hb
    ·exact ha
    ·exact NY hb hX (by intro z;cases z)
   rcases hb with rfl | hb
   ·exact F.1 _ _ (ht _ _ _ e JZ q)
   ·exact F.1 _ _ (ht _ _ _ hb JZ q)
  ·rw[L4 (NY q hX (by intro z;cases z))];exact q
  ·rw[L4 (NY q hX (by intro z;cases z))];exact q
noncomputable def CXx (P:Ak)(w:Am):CXT:=fun outer H s E e s'=>∃(x C:Ac) (od:Option Ac) (H':Hp) (base:Ap),e=.ref x/\s'.os=s.os/\Bl s'.gens/\Un (frs outer) [] H H' s.heap s'.heap/\HOk P w H' s'.heap /\
 H' x=some (XO x C od false)/\Fl base outer x C od .none s'.heap/\(∀ a u o,H' a=some u->a≠x->s'.heap.get? a=some o->base.get? a=some o) /\
 (∀ b o o',s.heap.get? b=some o'->s'.heap.get? b=some o->b∉frs outer->b≠x->base.get? b=some o)/\E (.ref x) od H'
def Thr (X:Cx)(E:XK):Prop:=∀(B_:List (Ac×Obj)) (σ:St) (H:Hp) (s:Af) (x C:Ac) (od:Option Ac),Inv X B_ σ H s->H x=some (XO x C od true)->E (.ref x) od (upd H x (XO x C od false))->X.xe (.ref x) s
section
variable {X:Cx}{B_:List (Ac×Obj)}{σ:St}{H:Hp}{s:Af}
theorem Inv.below (I:Inv X B_ σ H s) (e:X.s₀.heap.get? b=some o):b≠X.env.locals:=MA (Nh (Ml e) I.ok.above)
theorem fe (I:Inv X B_ σ H s) (hX:H x=some (XO x C od fr)):
  ∃ base:Ap,base.StaysIn s.heap/\base.get? x=none/\s.heap.FunFrames base X.stack/\∀ b o,s.heap.get? b=some o->b∉frs X.stack->b≠x->base.get? b=some o:=by
 refine⟨PySem.W.hideAll s.heap (x::frs X.stack),fun b o e=>iT _ e,iQ _ MV,PySem.W.funFrames_hide I.stack fun env he a hf=>MP _ (Sq.mpr ⟨env,he,hf⟩),fun b o e hn hx=>iR _ e fun hm=>?_⟩
 rcases Mo.mp hm with z | z
 ·exact hx z
 ·exact hn z
theorem fg (I:Inv X B_ σ H s):∀ b∈frs X.stack,∀ o,s.heap.get? b=some o->∀ vs,o.data≠.fields vs:=fun b hb o e vs=>by
 obtain⟨_,o2,e2,h2⟩:=I.stack.mem hb
 rw[e] at e2;cases e2;exact h2 vs
end
section
variable {CX:CXT}{P:Ak}{w:Am}{K:L3}{mg:Str->Option Ad}{base:Ap}{N:List Str}{Ci:Str}{scope:Bt}{f:Ac}{cd:Ad}{A:Ao}{outer:List Env}{s:Af}{H:Hp}{E:XK}
theorem PB:Thr (cxOf (CXx P w) P w K mg base N Ci scope f cd A outer s H E) E:=fun B_ σ H1 s1 x C od I hX hE=>by
 obtain⟨B,b1,b2,b3,b4⟩:=fe I hX
 obtain⟨vs,t0,e0,hz,h0,h1⟩:=QN I.hok hX
 refine eV (base:=B) (outer:=outer) (L:=s.heap.objs.size) (I.ok.frames) b3 rfl b1 b2 e0 hz h0 (h1 rfl) fun h' x1 u1=>?_
 have ht:∀ a u o,H1 a=some u->a≠x->s1.heap.get? a=some o->B.get? a=some o:=fun a u o q hx e=>b4 a o e (fun z=>by rw[I.stkFree a z] at q;cases q) hx
 refine⟨x,C,od,upd H1 x (XO x C od false),B,rfl,I.os,I.bare,RC (fs:=frs outer) I.base (fun _ _ _ z=>z) hX (fun b o o' q e hn hx=>b4 b o e (fun z=>?_) hx) x1 u1 (fun b hb=>fg I b (Sq.mpr ?_)),RD I.hok hX ht x1,LX,x1,fun a u o q hx e=>?_,fun b o o' q e hn hx=>?_,hE⟩
 ·rcases Mo.mp (I.stkSub b z) with z | z
  ·exact I.below q z
  ·exact hn z
 ·obtain⟨env,he,hf⟩:=Sq.mp hb
  exact⟨env,MP _ he,hf⟩
 ·rw[L4 hx] at q
  obtain⟨ob,e2⟩:=TM (I.hok a u q)
  have e3:=ht a u ob q hx e2
  have e4:=x1.1 a ob e3
  have e5:some o=some ob:=e.symm.trans e4
  cases e5;exact e3
 ·obtain⟨o2,e2⟩:=I.base.there b o' q (by show b∉([]:List Ac);simp)
  have e3:=b4 b o2 e2 (fun z=>by
   rcases Mo.mp (I.stkSub b z) with z | z
   ·exact I.below q z
   ·exact hn z) hx
  have e4:=x1.1 b o2 e3
  have e5:some o=some o2:=e.symm.trans e4
  cases e5;exact e3
theorem Qf (KJ:∀ v od H,E' v od H->E v od H):Os (CXx P w) (cxOf (CXx P w) P w K mg base N Ci scope f cd A outer s H E) E':=fun B_ σ H1 s1 e s2 I h=>by
 obtain⟨x,C,od,H2,B,rfl,os,bare,U,ok,hX,F,ht,hb,hE⟩:=h
 refine eU (base:=B) (outer:=outer) (L:=s.heap.objs.size) I.ok.frames rfl F fun h' x1 u1=>?_
 have noE:∀ b:Ac,b∉([]:List Ac):=fun b z=>by simp at z
 have C5:∀ b o,s.heap.get? b=some o->b∈frs (cxOf (CXx P w) P w K mg base N Ci scope f cd A outer s H E).stack->b∈frs outer:=fun b o q z=>by
  rcases Mo.mp (I.stkSub b z) with z | z
  ·exact absurd z (I.below q)
  ·exact z
 have hU:Un (frs (cxOf (CXx P w) P w K mg base N Ci scope f cd A outer s H E).stack) [] H H2 s.heap s2.heap :=
  (I.base.mono (fun b hb=>by obtain⟨env,he,hf⟩:=Sq.mp hb;exact Sq.mpr ⟨env,MP _ he,hf⟩) (fun b z=>z)).trans U
 have D6:=RC (fs:=frs outer) hU C5 hX (fun b o o' q e hn hx=>?_) x1 u1 (fun b hb o q=>?_)
 rw[Xl hX] at D6
 have E9:=RD ok hX ht x1
 rw[Xl hX] at E9
 refine⟨x,C,od,H2,B,rfl,os.trans I.os,bare,D6,E9,hX,x1,fun a u o q hx e=>?_,fun b o o' q e hn hx=>?_,KJ _ _ _ hE⟩
 ·obtain⟨ob,e2⟩:=TM (ok a u q)
  have e3:=ht a u ob q hx e2
  have e4:=x1.1 a ob e3
  have e5:some o=some ob:=e.symm.trans e4
  cases e5;exact e3
 ·obtain⟨o2,e2⟩:=I.base.there b o' q (noE b)
  obtain⟨o3,e3⟩:=U.there b o2 e2 (noE b)
  have e4:=hb b o3 o2 e2 e3 (fun z=>hn (C5 b o' q z)) hx
  have e5:=x1.1 b o3 e4
  have e6:some o=some o3:=e.symm.trans e5
  cases e6;exact e4
 ·obtain⟨o2,e2⟩:=I.base.there b o' q (noE b)
  exact hb b o o2 e2 e (fun z=>hn (C5 b o' q z)) hx
 ·have hm:b∈(outer).filterMap (·.frame):=hb
  obtain⟨_,o2,e2,h2⟩:=F.2.2.1.2.2.mem hm
  rw[q] at e2;cases e2;exact h2
end
section
variable {X:Cx}{e:Ax}{te:TE}{pos:Pos}{E:XK}
def Xr (K:L3)(E:XK)(te:TE):TS:=fun _ σ H=>te σ H fun v H1=>∃(x C W:Ac) (od:Option Ac),v=.ref x/\H1 x=some (XO x C od true)/\Exc K W C/\E (.ref x) od (upd H1 x (XO x C od false))
theorem PD (hc:X.calm=true)(ht:Thr X E)(he:PE X e te):PS X (.Raise (some e) none pos) (Xr X.K E te):=by
 intro B_ s σ H D I h
 refine eX (I.ok.hd hc) (thn (he B_ s σ H _ I h) fun u s1 ⟨v,H1,I1,r,x,C,W,od,ev,hX,M,q⟩=>?_)
 subst ev
 obtain rfl:u=Value.ref x:=r
 obtain⟨vs,t0,e0,hz,h0,h1⟩:=QN I1.hok hX
 obtain⟨nm,qn,N,bs,sn,sub,ab,col,dd,k0,k1,k2,k3,k5,oC⟩:=M.ob
 exact⟨x,od,vs,rfl,⟨nm,qn,C,N,bs,W,true,sn,sub,ab,col,dd,k0,k1,k2,k3,k5,I1.kIn _ _ oC,e0⟩,h1 rfl,ht B_ σ H1 s1 x C od I1 hX q⟩
end
section
variable {X:Cx}{B_:List (Ac×Obj)}{σ:St}{H:Hp}{s:Af}
theorem ZU (I:Inv X B_ σ H s) (hN:X.N.Nodup) (hi:X.N[i]?=some x) (hk:X.env.scope.names.lookup x=some .local) (h:∀ s',Inv X B_ (σ.set i none) H s'->Q () s'):wpAny M A (do bindName X.env x .none;BO X.env x pos) Q E s:=by
 refine Aa (wpAny_bindName (Vk (v:=.non) (u:=.none) I hN hi (.inl hk) rfl (fun s1 I1=>?_) (.inr hk)))
 have hiσ:i < σ.length:=by rw[I.len];exact(MS.mp hi).1
 obtain⟨m,hn,hl⟩:=id I1.loc
 have FZ:(X.env.scope.kind == .class || (X.env.scope.kind == .module&&X.env.locals != X.env.globals))=false:=by rw[I1.ok.kind];rfl
 have cne:=I1.cne
 obtain⟨u0,r0,q0⟩:=hl i x .non hi (by rw[Zf hiσ]) (.inl hk)
 have hv:m x=some u0:=by
  rcases q0 with ⟨_,e⟩ | ⟨k,_⟩
  ·exact e
  ·have k':X.env.scope.names.lookup x=some .cell∨X.env.scope.names.lookup x=some .free:=k
   rcases k' with z | z <;> (rw[hk] at z;cases z)
 unfold BO
 refine A4 (wpAny_unbindName_local hk hn hv FZ fun h' u hn' hs=>h _ ?_)
 obtain⟨oL,_,_,JE,_⟩:=id hn
 have tracked:HOk X.prog X.w H h':=fun b ob e=>by
  refine(I1.hok b ob e).stay (fun c w' hc q=>(hs.2 c ?_).trans q) (fun _ q=>q) fun _ _ q=>q
  rintro rfl
  rcases hc with rfl | hc
  ·rw[I1.free] at e;cases e
  ·rw[I1.free] at hc;cases hc
 refine⟨I1.ok,I1.os,I1.bare,⟨fun b o e n hb hx=>?_,fun b o e n hb hx=>?_,I1.base.free,fun b o e hx=>?_,I1.base.tups,I1.base.frzs,I1.base.tbls⟩,⟨_,hn',fun j y v' e1 e2 e3=>?_⟩,fun y c e=>?_,I1.free,I1.freeC,fun p hp=>?_,tracked,by simpa using I.len⟩
 ·exact(hs.2 b (I1.below e)).trans (I1.base.keep b o e n hb hx)
 ·obtain⟨sl,e1⟩:=I1.base.slot b o e n hb hx
  exact⟨sl,(hs.2 b (I1.below e)).trans e1⟩
 ·obtain⟨o',e1⟩:=I1.base.there b o e hx
  exact⟨o',(hs.2 b (I1.below e)).trans e1⟩
 ·by_cases hj:j=i
  ·subst hj
   rw[Zf hiσ] at e2
   cases e2
  ·rw[Zh (MB hj)] at e2
   obtain⟨u',r',q⟩:=hl j y v' e1 (by rw[Zh (MB hj)];exact e2) e3
   refine⟨u',r',?_⟩
   rcases q with ⟨k,e⟩ | ⟨k,c,e,z⟩
   ·refine .inl ⟨k,?_⟩
    have:y≠x:=fun e=>hj (SI hN e1 (e▸hi))
    simp[this,e]
   ·exact .inr ⟨k,c,e,z.sameBut hs (cne y c e)⟩
 ·obtain⟨w',z⟩:=I1.cell y c e
  exact⟨w',z.sameBut hs (cne y c e)⟩
 ·obtain⟨e,n,ne,nf,d⟩:=I1.pin p hp
  exact⟨(hs.2 p.1 ne).trans e,n,ne,nf,d⟩
noncomputable abbrev Cx.marked (X:Cx)(x:Ac):Cx:={ X with A:=X.A.mark (some (.ref x)),calm:=false,xe:=fun _ _=>False }
theorem Inv.mark (I:Inv X B_ σ H s)(x:Ac):Inv (X.marked x) B_ σ H s :=
 ⟨⟨I.ok.mod,I.ok.kind,I.ok.glob,I.ok.blt,I.ok.above,I.ok.inj,I.ok.has,I.ok.cab,(fun z=>nomatch z),I.ok.frames,I.ok.stk,I.ok.exf,I.ok.bs,I.ok.bsz,I.ok.noex,I.ok.exfs,I.ok.funs,I.ok.frf⟩,I.os,I.bare,I.base,I.loc,I.cell,I.free,I.freeC,I.pin,I.hok,I.len⟩
theorem Inv.unmark (I0:X.Ok) (I:Inv (X.marked x) B_ σ H s):Inv X B_ σ H s:=⟨I0,I.os,I.bare,I.base,I.loc,I.cell,I.free,I.freeC,I.pin,I.hok,I.len⟩
noncomputable abbrev Cx.tried (X:Cx)(pn:List (Ac×Obj))(xe:Ad->Af->Prop):Cx:={ X with pn:=pn,xe:=xe }
theorem Inv.Xs (I:Inv X B_ σ H s)(xe:Ad->Af->Prop):Inv (X.tried (X.pn++B_) xe) [] σ H s :=
 ⟨⟨I.ok.mod,I.ok.kind,I.ok.glob,I.ok.blt,I.ok.above,I.ok.inj,I.ok.has,I.ok.cab,I.ok.hd,I.ok.frames,I.ok.stk,I.ok.exf,I.ok.bs,I.ok.bsz,I.ok.noex,I.ok.exfs,I.ok.funs,I.ok.frf⟩,I.os,I.bare,I.base,I.loc,I.cell,I.free,I.freeC,fun p hp=>I.pin p (by simpa using hp),I.hok,I.len⟩
theorem Inv.untry (I0:X.Ok) (I:Inv (X.tried (X.pn++B_) xe) pins' σ H s):Inv X B_ σ H s :=
 ⟨I0,I.os,I.bare,I.base,I.loc,I.cell,I.free,I.freeC,fun p hp=>I.pin p (Z' _ hp),I.hok,I.len⟩
end
section
variable {X:Cx}{EX:XK}{W:Ac}{Wn en:Str}{i:Nat}{body suite:List Av}{b0:Av}{tb ts:TS}{wp D8 pos:Pos}
def tTry (EX:XK)(i n:Nat)(tb ts:TS):TS:=fun D σ H=>tb D σ H/\∀(σ':St) (v:V) (x:Ac) (od:Option Ac) (H':Hp),σ'.length=n->EX (.ref x) od H'->v=.ref x->ts { nx:=fun σ2 H2=>D.nx (σ2.set i none) H2,rt:=D.rt } (σ'.set i (some v)) H'
structure ExcW (K:L3)(W:Ac):Prop where
 ob:∃(nm qn:Str) (N:Ac) (bs:List Ad) (hd:Bool) (sn:List Str) (sub:List Ad) (ab:Bool) (col:Option Bool) (dd:Option Ac) (k0 k1 k2 k3 k5:Option Ad) (nw:String),
  K.lookup W=some (At nm qn W N bs vBM hd sn sub ab col dd k0 k1 k2 k3 k5 nw)
theorem ps_try (C5:X.stack=X.env::X.outer)(hL:X.env.frame=some X.env.locals)(hN:X.N.Nodup)(hi:X.N[i]?=some en)(hk:X.env.scope.names.lookup en=some .local)(hg:Gl X Wn)(hm:X.mg Wn=some (.ref W))(MW:ExcW X.K W)
  (hE:∀ x od H',EX (.ref x) od H'->∃ C,H' x=some (XO x C od false)/\Exc X.K W C)
  (hb:∀ pn xe,Os (CXx X.prog X.w) (X.tried pn xe) EX->PSs (X.tried pn xe) body tb) (hs:∀ x,PSs (X.marked x) (b0::suite) ts) (Dl:(Wn == ("__debug__":Str))=false:=by decide) :
  PS X (.Try body [.ExceptHandler (some (.Name Wn wp)) (some en) (b0::suite) D8] [] [] pos) (tTry EX i X.N.length tb ts):=by
 intro B_ s σ H D I ⟨q1,q2⟩
 refine wpAny_Try_except (An (hb (X.pn++B_) (fun e s1=>∃ σ' H' s',Inv X B_ σ' H' s'/\CXx X.prog X.w X.stack H' s' EX e s1) (fun pins' σ' H' s' e s1 I' z=>⟨σ',H',s',Inv.untry I.ok I',z⟩) [] s σ H D (I.Xs _) q1) (fun f s1 z=>?_) fun e s1 z=>?_)
 ·cases f with
  | next =>
   obtain⟨σ',H',I',q⟩:=z
   exact A0 ⟨σ',H',Inv.untry I.ok I',q⟩
  | brk=>obtain⟨σ',H',I',q⟩:=z;exact⟨σ',H',Inv.untry I.ok I',q⟩
  | cont=>obtain⟨σ',H',I',q⟩:=z;exact⟨σ',H',Inv.untry I.ok I',q⟩
  | ret u=>obtain⟨v,σ',H',I',r,q⟩:=z;exact⟨v,σ',H',Inv.untry I.ok I',r,q⟩
 ·obtain⟨σ',H1,s',I1,x,C,od,H2,B,rfl,os,bare,U,ok,hX,F,ht,GR,G5⟩:=z
  have F':=F
  rw[C5] at F
  obtain⟨C',hX',ME⟩:=hE _ _ _ G5
  obtain⟨_,_,z1,_⟩:=QN ok hX
  obtain⟨_,_,z2,_⟩:=QN ok hX'
  have zC:C=C':=by
   rw[z1] at z2
   have:=congrArg (Option.map Obj.cls) z2
   exact Value.ref.inj (Option.some.inj this)
  subst zC
  obtain⟨nm,qn,N,bs,sn,sub,ab,col,dd,k0,k1,k2,k3,k5,oC⟩:=ME.ob
  obtain⟨nm2,qn2,N2,bs2,CI,sn2,sub2,ab2,col2,dd2,j0,j1,j2,j3,j5,nw2,oW⟩:=MW.ob
  have fd:∀ b∈frs X.stack,∀ o,s1.heap.get? b=some o->∀ vs,o.data≠.fields vs:=fun b hb o q=>by
   obtain⟨_,o2,e2,h2⟩:=F'.2.2.1.mem hb
   rw[q] at e2;cases e2;exact h2
  have inv:∀ h3 t3 l3 fl,Fl B l3 x C od fl h3->s1.heap.UpToSlots h3->Inv X B_ σ' H2 { s1 with heap:=h3,toks:=t3 }:=fun h3 t3 l3 fl x3 u3=>by
   have hU:=RC (fs:=frs X.stack) U (fun _ _ _ z=>z) hX (fun b o o' q e hn hx=>GR b o o' q e hn hx) x3 u3 fd
   have hK:=RD ok hX ht x3
   rw[Xl hX] at hU hK
   exact I1.call' (s':={ s1 with heap:=h3,toks:=t3 }) os hU hK bare (fun b z=>absurd z (by simp))
  refine TH (by rw[<- C5];exact I.ok.frames) hL F fun h2 x2 u2=>?_
  refine UT (s:={ s1 with heap:=h2 }) x2 fun h3 x3 u3=>?_
  have I3:=inv h3 s1.toks _ _ x3 (u2.trans u3)
  refine BV (BJ ?_) (by intro q;cases q)
  refine PN (X:=X.marked x) (I3.mark x) hg hm ?_ Dl
  obtain⟨vs3,t03,e3,_⟩:=x3.at
  have kI:=I3.kIn
  obtain⟨sh,sg,sd,st,so⟩:=s1
  refine eY (kI _ _ oC) (kI _ _ oW) e3 rfl ?_
  refine Bs ?_
  refine UT (s:=⟨h3,sg,sd,st,so⟩) x3 fun h5 x5 u5=>?_
  have I5:=inv h5 st _ _ x5 ((u2.trans u3).trans u5)
  refine Vk (X:=X.marked x) (v:=.ref x) (I5.mark x) hN hi (.inl hk) rfl (fun s6 I6=>?_) (.inr hk)
  have Cd:σ'.length=X.N.length:=I5.len
  refine An (hs x B_ s6 _ H2 _ I6 (q2 σ' (.ref x) x od H2 Cd G5 rfl)) (fun f s7 z=>?_) fun _ _ z=>z.elim
  cases f with
  | next =>
   obtain⟨σ7,H7,I7,q7⟩:=z
   exact ZU (Inv.unmark I.ok I7) hN hi hk fun s8 I8=>⟨_,H7,I8,q7⟩
  | brk=>obtain⟨_,_,_,z⟩:=z;exact z.elim
  | cont=>obtain⟨_,_,_,z⟩:=z;exact z.elim
  | ret u =>
   obtain⟨v,σ7,H7,I7,r7,q7⟩:=z
   exact ZU (Inv.unmark I.ok I7) hN hi hk fun s8 I8=>⟨v,_,H7,I8,r7,q7⟩
end
theorem fh:∀ K:L3,U2 K (.builtin "object.__class__") "__get__"=some (some (.builtin "getset_descriptor.__get__")):=fun K=>by kernel_rfl
theorem fi:∀ K:L3,PySem.W.takesIn K (.builtin "object.__class__")=some true:=fun K=>by kernel_rfl
section
variable {K:L3}{x D W:Ac}{ox:Obj}{odo:Option Obj}
theorem Exc.mro (M:Exc K W D)(v:Ad):U3 K D v=some ((Value.ref D::.ref W::vBM).contains v):=by
 obtain⟨cd,h1,h2,_⟩:=M.cls
 unfold U3
 rw[h1,QY,h2];rfl
theorem Exc.ty (M:Exc K W D):Z3 K (.ref D)=some (.type "type"):=by
 obtain⟨nm,qn,N,bs,sn,sub,ab,col,dd,k0,k1,k2,k3,k5,h⟩:=M.ob
 show (K.lookup D).map (·.cls)=_
 rw[h];rfl
theorem kitx_x (M:Exc K W D):PySem.W.KitX K (.ref x) (.ref D) (fun h=>Zd h x ox D odo) where
 ty:=fun _ _ _ I=>I.type
 it:=fun _ _ X _=>by
  obtain⟨nm,qn,N,bs,sn,sub,ab,col,dd,k0,k1,k2,k3,k5,ho⟩:=M.ob
  intro A' Q' E' s' k q
  unfold isType loadHead
  exact Aa (wpAny_loadPart (k _ _ (X _ _ ho)) (Ag q))
 ne:=fun h tp dd its n sl X IN=>by
  obtain⟨nm,qn,N,bs,sn,sub,ab,col,dd,k0,k1,k2,k3,k5,ho⟩:=M.ob
  refine aq.mpr fun q=>?_
  have e:D=tp:=Value.ref.inj (beq_iff_eq.mp q)
  subst e
  have z:=congrArg (Option.map Obj.cls) ((X _ _ ho).symm.trans IN)
  have z2:(some (Value.type "type"):Option Ad)=some (Value.type "tuple"):=z
  exact absurd z2 (by decide)
 ca:=fun{prog w A E Q s} X I k=>by
  obtain⟨cd,h1,_,_⟩:=M.cls
  have hf:PySem.W.findObj K D odo "__class__"=some (.bind (.builtin "getset_descriptor.__get__") (.builtin "object.__class__")):=by
   unfold PySem.W.findObj
   rw[h1,QY,M.cl,QY]
   simp[fh K,fi K]
  obtain⟨nm,qn,N,bs,sn,sub,ab,col,dd,k0,k1,k2,k3,k5,oC⟩:=M.ob
  exact e_ X I oC M.ga M.gr hf (M.mro _) k
theorem fk (M:Exc K W D):Qr K (.ref D) (.ref D)=some true:=by unfold Qr;rw[B9 (by simp)]
theorem fm (M:Exc K W D) (M2:Exc K W C) (h1:D≠C) (h2:C≠W):Qr K (.ref D) (.ref C)=some false:=by
 have e:¬ ((Value.ref D == Value.ref C)=true):=fun z=>h1 (Value.ref.inj (beq_iff_eq.mp z))
 unfold Qr
 rw[B8 e]
 obtain⟨cd,g1,_,_⟩:=M2.cls
 show (if ((Z4 K C).isSome&&Z3 K (.ref C) == some (.type "type"))=true then U3 K D (.ref C) else none)=some false
 rw[g1,M2.ty,B9 (by simp),M.mro]
 congr 1
 have a1:(Value.ref D == Value.ref C)=false:=by simpa using h1
 have a2:(Value.ref W == Value.ref C)=false:=beq_eq_false_iff_ne.mpr fun z=>h2 (Value.ref.inj z).symm
 have a3:(Value.ref C == Value.ref D)=false:=beq_eq_false_iff_ne.mpr fun z=>h1 (Value.ref.inj z).symm
 have a4:(Value.ref C == Value.ref W)=false:=beq_eq_false_iff_ne.mpr fun z=>h2 (Value.ref.inj z)
 rw[Sr,Sr,a3,a4];rfl
theorem kit_ve (M:Exc K W D):Qr K (.ref D) (.type "ValueError")=some true:=by
 unfold Qr
 rw[B8 (by simp)]
 show (if PySem.W.kitMeta "ValueError"=true then U3 K D (.type "ValueError") else none)=some true
 rw[B9 (by decide +kernel),M.mro]
 congr 1
end
def fIsiX (K:L3):List V->Hp->VK->Prop:=fun xs H Q=>∃(e C W:Ac) (od:Option Ac) (fr:Bool) (c:V) (cv:Ad) (b:Bool),xs=[.ref e,c]/\H e=some (XO e C od fr)/\(∀ d,od=some d->∃ fs,H d=some (.xd fs))/\Exc K W C/\(∀ u,RelV c u->u=cv) /\
 Qr K (.ref C) cv=some b/\Q (.bl b) H
theorem Sg {X:Cx}{K:L3}(hK:X.K=K:=by rfl):CallR X (.builtin "isinstance") (fIsiX K):=by
 subst hK
 rintro B_ s σ H xs us Q I rs ⟨e,C,W,od,fr,c,cv,b,rfl,hX,hd,M,rc,hk,q⟩
 cases rs with
 | cons r1 rs =>
  cases rs with
  | cons r2 rs =>
   cases rs
   cases (show _=Value.ref e from r1)
   cases rc _ r2
   obtain⟨vs,t0,he,hz,h0,h1⟩:=QN I.hok hX
   have J:∃ odo,Zd s.heap e ⟨.ref C,od,.fields vs,#[]⟩ C odo:=by
    cases od with
    | none=>exact⟨none,he,rfl,rfl,True.intro⟩
    | some d =>
     obtain⟨fs,hf⟩:=hd d rfl
     obtain⟨ob,ho⟩:=TM (I.hok d _ hf)
     exact⟨some ob,he,rfl,rfl,ho⟩
   obtain⟨odo,J⟩:=J
   exact PySem.W.kia_one (kitx_x M) I.kIn J hk (fun z=>nomatch z) fun tk=>⟨.bl b,H,I.tok _,rfl,q⟩
structure DnX (P:Ak)(w:Am)(K:L3)(mg:Str->Option Ad)(base:Ap)(x:Str)(k:Nat)(ps:List Str)(sp:Sp):Prop where
 ex:∃(f:Ac) (fd:Ay),mg x=some (.ref f)/\OA K (.ref f)=true/\Binds K fd ps []/\FnOk P w K mg base (CXx P w) k f fd ps sp
theorem QO (D:DnX X.prog X.w X.K X.mg X.base x k ps sp) (hr:Room k X.A) (hg:Gl X x) (hx:Os (CXx X.prog X.w) X E) (ha:PA X (e::es) t) (Dl:(x == ("__debug__":Str))=false:=by decide) (he:Ah (e::es) X.env=(false,As e X.env)::Ah es X.env:=by rfl) (Cz:(AA pos (Ah es X.env)).any (·.1)=false:=by rfl):PE X (.Call (.Name x p) (e::es) [] pos) (Q2 sp [] E t):=by
 obtain⟨f,fd,hm,hk,hb,F⟩:=D.ex
 exact VD F hr hg hm hk hb .nil hx ha Dl he Cz
theorem Fun.okX {P:Ak}{w:Am}{K:L3}{mg:Str->Option Ad}{base:Ap}{x Ci:Str}{st:Av}{f:Ac}{fd:Ay}{N ps:List Str}{k:Nat}{sp:Sp}(F:Fun K x Ci st f fd)(S:FnScope N ps (NF st))(len:∀ vs H Q E,sp vs H Q E->vs.length=ps.length)
  (Dq:∀(cdv:Ad) (A:Ao) (outer:List Env) (s:Af) (H:Hp) (vs:List V) (Q:VK) (E:XK),Room k (A.deeper (Br Ci (NF st) s.heap.objs.size f cdv))->sp vs H Q E ->
   ∃ t,PSs (cxOf (CXx P w) P w K mg base N Ci (NF st) f cdv A outer s H E) (QF st) t/\t { nx:=fun _ H'=>Q .non H',rt:=Q } (start N vs) H):FnOk P w K mg base (CXx P w) (k+1) f fd ps sp:=by
 obtain⟨oc,od,kV,doc,pm,an,cdv,ct,osl,rfl,lk,Ez⟩:=F.ex
 exact fn_of lk Ez S len fun A outer s H vs Q E hr DY=>Dq cdv A outer s H vs Q E hr DY
structure Ini (P:Ak)(w:Am)(K:L3)(mg:Str->Option Ad)(base:Ap)(C:Ac)(k:Nat)(ps:List Str)(sp:Sp):Prop where
 ex:∃(f:Ac) (fd:Ay),Mw K (.ref C) "__init__"=some (some (.ref f))/\Sn K (.ref f)=true/\Binds K fd ps []/\FnOk P w K mg base CX0 k f fd ps sp
theorem QP (M:Exc X.K W C) (D:Ini X.prog X.w X.K X.mg X.base C k ps sp) (hr:Room (k+1) X.A) (hg:Gl X x) (hm:X.mg x=some (.ref C)) (ha:PA X (e::es) t) (Dl:(x == ("__debug__":Str))=false:=by decide) (he:Ah (e::es) X.env=(false,As e X.env)::Ah es X.env:=by rfl) (Cz:(AA pos (Ah es X.env)).any (·.1)=false:=by rfl):
  PE X (.Call (.Name x p) (e::es) [] pos) (TK C sp E0 t):=by
 obtain⟨f,fd,hi,hf,hb,F⟩:=D.ex
 exact fc M hi hf F hr hg hm hb PZ ha Dl he Cz
def okTx (y:V):Prop:=(∃ i:Int,y=.int i/\i.natAbs.log2 < 1920)∨∃ z:Str,y=.str z/\z.length<=1000
def okTs (y:V):Prop:=∃ z:Str,y=.str z/\(B4 z).length<=1000
def Pm (ok:V->Prop)(C:Ac)(f:Str):Sp:=fun vs H Q _=>∃(e:Ac) (y:V) (fr:Bool),vs=[.ref e,y]/\H e=some (XO e C none fr)/\ok y/\∀ d,H d=none->d≠e->Q .non (upd (upd H d (.xd [(f,y)])) e (XO e C (some d) fr))
section
variable {σ:St}{H:Hp}{Q:VK}{K:L3}{W:Ac}{t:TA}{i:Nat}{y:V}{a b:Str}
theorem Qg (h:t σ H fun vs H1=>∃(e C:Ac) (od:Option Ac) (fr:Bool) (y:V),vs=[.ref e,y]/\H1 e=some (XO e C od fr)/\Exc K W C/\Q .non H1):Xo K W t σ H Q:=h
theorem i_fv (hy:okTx y) (e:σ[i]?=some (some y)) (h:∀ z:Str,z.length<=2000->R (.str z) H):tFv (tVar i) σ H R:=by
 refine⟨y,e,?_⟩
 rcases hy with ⟨j,rfl,hj⟩ | ⟨z,rfl,hz⟩
 ·exact .inl ⟨j,rfl,hj,h⟩
 ·exact .inr ⟨z,rfl,MR hz (by decide),h z (MR hz (by decide))⟩
theorem i_fs2 (ha:a.length<=1000)(hy:okTx y)(e:σ[i]?=some (some y))(h:∀ z,Q (.str z) H):tFs (N_ (tC (.str a)) (N_ (tFv (tVar i)) jNil)) σ H Q:=by
 refine⟨a,rfl,by omega,i_fv hy e fun z hz=>⟨z,rfl,by omega,by omega,h⟩⟩
theorem i_fs3 (ha:a.length<=1000)(hb:b.length<=1000)(hy:okTx y)(e:σ[i]?=some (some y))(h:∀ z,Q (.str z) H):tFs (N_ (tC (.str a)) (N_ (tFv (tVar i)) (N_ (tC (.str b)) jNil))) σ H Q:=by
 refine⟨a,rfl,by omega,i_fv hy e fun z hz=>⟨z,rfl,by omega,⟨b,rfl,by omega,by omega,h⟩⟩⟩
theorem Xt (ha:a.length<=1000)(hy:okTs y)(e:σ[i]?=some (some y))(h:∀ z,Q (.str z) H):tFs (N_ (tC (.str a)) (N_ (tFr (tVar i)) jNil)) σ H Q:=by
 obtain⟨z,rfl,hz⟩:=hy
 exact⟨a,rfl,by omega,.str z,e,z,rfl,hz,B4 z,rfl,by omega,by omega,h⟩
end
theorem Qh (h:t σ H fun vs H1=>vs.length<=Ae/\∀ x,H1 x=none->sp (.ref x::vs) (upd H1 x (XO x C none true)) (fun v H2=>v=.non/\Q (.ref x) H2) E):TK C sp E t σ H Q:=h
theorem Xu (h:t σ H fun vs H1=>vs.length<=Ae/\∀ x,H1 x=none->Q (.ref x) (upd H1 x (XO x C none true))):Xm C t σ H Q:=h
theorem TQ {σ:St}{H:Hp}{Q:VK}{K:L3}{ta:TE}{f:Str}(h:ta σ H fun x H1=>∃(a C W d:Ac) (fr:Bool) (fs:List (Str×V)) (v:V),x=.ref a/\H1 a=some (XO a C (some d) fr)/\H1 d=some (.xd fs)/\Exc K W C/\NoAttr K C f/\fs.lookup f=some v/\Q v H1):tFldX K ta f σ H Q:=h
theorem Sh {H:Hp}{Q:VK}{K:L3}{e C W:Ac}{od:Option Ac}{fr:Bool}{c:V}{cv:Ad}{b:Bool}(h1:H e=some (XO e C od fr))(h2:∀ d,od=some d->∃ fs,H d=some (.xd fs))(M:Exc K W C)(h3:∀ u,RelV c u->u=cv)
  (h4:Qr K (.ref C) cv=some b) (q:Q (.bl b) H):fIsiX K [.ref e,c] H Q:=⟨e,C,W,od,fr,c,cv,b,rfl,h1,h2,M,h3,h4,q⟩
theorem Pn {σ:St}{H:Hp}{D:Ends}{K:L3}{E:XK}{te:TE}(h:te σ H fun v H1=>∃(x C W:Ac) (od:Option Ac),v=.ref x/\H1 x=some (XO x C od true)/\Exc K W C/\E (.ref x) od (upd H1 x (XO x C od false))):Xr K E te D σ H:=h
theorem i_try (h1:tb D σ H) (h2:∀(σ':St) (v:V) (x:Ac) (od:Option Ac) (H':Hp),σ'.length=n->EX (.ref x) od H'->v=.ref x->ts { nx:=fun σ2 H2=>D.nx (σ2.set i none) H2,rt:=D.rt } (σ'.set i (some v)) H'):tTry EX i n tb ts D σ H:=⟨h1,h2⟩
theorem Qi {H:Hp}{R:Ac->Hp->Prop}{C:Ac}{f:Str}{ok:V->Prop}{y:V}{E:XK}(hy:ok y)(h:∀ x d,H x=none->H d=none->d≠x->R x (upd (upd H d (.xd [(f,y)])) x (XO x C (some d) true))) :
  ∀ x,H x=none->Pm ok C f [.ref x,y] (upd H x (XO x C none true)) (fun v H2=>v=.non/\R x H2) E:=by
 refine fun x hx=>⟨x,y,true,rfl,LX,hy,fun d hd ED=>⟨rfl,?_⟩⟩
 rw[L4 ED] at hd
 have:=h x d hx hd ED
 rw[Xq (MB ED),OR]
 exact this
structure DkX (P:Ak)(w:Am)(K:L3)(mg:Str->Option Ad)(base:Ap)(C:Ac)(k:Nat)(ps:List Str)(sp:Sp):Prop where
 ex:∃(f:Ac) (fd:Ay),Mk K C f/\Binds K fd ps []/\FnOk P w K mg base (CXx P w) k f fd ps sp
section
variable {X:Cx}{k:Nat}{C:Ac}{ps:List Str}{sp:Sp}{x:Str}{p pos:Pos}{e:Ax}{es:List Ax}{t:TA}{E:XK}
end
section
variable {X:Cx}{σ:St}{CX:CXT}{k:Nat}{f C:Ac}{fd:Ay}{ps:List Str}{sp:Sp}{dvs:List V}{ds:List Ad}{E:XK}{x m:Str}{p pos Ct:Pos}{e o:Ax}{es:List Ax}{ta te:TE}{t:TA}
end
section
variable {X:Cx}{EX:St->XK}{W:Ac}{Wn en:Str}{i:Nat}{st:Av}{body suite:List Av}{b0:Av}{t0:St->TS}{tb ts:TS}{wp D8 pos:Pos}
end
structure DmX (P:Ak)(w:Am)(K:L3)(mg:Str->Option Ad)(base:Ap)(C:Ac)(m:Str)(k:Nat)(ps:List Str)(sp:Sp):Prop where
 ex:∃(f:Ac) (fd:Ay),Meth K C m f/\Binds K fd ps []/\FnOk P w K mg base (CXx P w) k f fd ps sp
section
variable {X:Cx}{k:Nat}{C:Ac}{ps:List Str}{sp:Sp}{x m:Str}{p pos Ct:Pos}{e o:Ax}{es:List Ax}{ta:TE}{t:TA}{E:XK}
theorem UU (he:PE X o ta) (c:Cls X.K C) (D:DmX X.prog X.w X.K X.mg X.base C m k ps sp) (hr:Room k X.A) (hx:Os (CXx X.prog X.w) X E) (ha:PA X (e::es) t) (C5:Ah (e::es) X.env=(false,As e X.env)::Ah es X.env:=by rfl) (Cz:(AA pos (Ah es X.env)).any (·.1)=false:=by rfl) (ht:As (.Call (.Attribute o m Ct) (e::es) [] pos) X.env=(do
   let ov <- As o X.env
   Bm Ct.atName
   let (f,first) <- Bf [ov] (Bq ov m pl)
   BK pos f first (AA pos (Ah (e::es) X.env)) (A_ pos (AS [] X.env))):=by rfl):
  PE X (.Call (.Attribute o m Ct) (e::es) [] pos) (Q3 C m sp [] E ta t):=by
 obtain⟨f,fd,h1,h2,h3⟩:=D.ex
 exact VE he c h1 h3 hr h2 .nil hx ha C5 Cz ht
theorem Xv (D:Dk X.prog X.w X.K X.mg X.base C k ps sp)(hr:Room (k+1) X.A)(hg:Gl X x)(hm:X.mg x=some (.ref C))
  (Dl:(x == ("__debug__":Str))=false:=by decide):PE X (.Call (.Name x p) [] [] pos) (PV C sp [] E0 tNil):=by
 obtain⟨f,fd,h1,h2,h3⟩:=D.ex
 exact bP h1 h3 hr hg hm h2 .nil PZ Dl
end
noncomputable abbrev dKw (d:Ad):List (Str×Ad):=[(Mg "default",d)]
theorem fo (a d:Ad):argsOk "max" ⟨[a],dKw d⟩:=by unfold argsOk;kernel_rfl
section
variable {prog:Ak}{w:Am}{Z:Ao}{R:Result->Af->Prop}{J:Ac}{fp wr:List Ac}{n:Nat}{P:Nat->Ad->Prop}{St:Nat->Ap->Prop}
theorem fq (W:Walks prog w Z.in1 J fp wr n P St)(bt:Nat->Nat->Bool)(hc:CmpOf prog w Z.in1 .Gt P bt)(B:Ac)(hB:B∉fp)(d:Ad) :
  ∀(k j:Nat) (t:Af) (u:Ad) (z:Nat),n - (j+1)=k->j+1<=n->St (j+1) t.heap->P (By bt j) u ->
  t.heap.get? B=some { cls:=.type "list",dict:=none,data:=.seq #[u,u] z,slots:=#[] } ->
  (∀ v g tk,P (By bt (n - 1)) v->(∀ b o,b∉wr->b≠B->t.heap.get? b=some o->g.get? b=some o)->R (.ok (.ret v)) { t with heap:=g,toks:=tk }) ->
  codeAny (Aj prog w) Z (.builtin "max.loop" ⟨[.ref J,.none,.ref B],dKw d⟩) R t:=by
 have HL:B∉wr:=fun h=>hB (W.sub _ h)
 have nm:(toString "max"++toString ".loop":String)="max.loop":=by decide
 intro k
 induction k with
 | zero =>
  intro j t u z hk hj C5 hP hb hR
  have Do:j+1=n:=by omega
  refine Bk aF ?_
  rw[aV Sy _]
  show wpAny _ Z.in1 (BS (.ref B) >>= _) _ _ t
  refine Aa (AF hb rfl ?_)
  show wpAny _ Z.in1 (tryCatch (pyNext (.ref J)) _ >>= _) _ _ t
  refine Aa (Ba (W.done t _ _ (Do▸C5) fun g tk kk=>?_))
  have hb':=kk B _ HL hb
  show wpAny _ Z.in1 (updateSeq B (fun _=>#[]) >>= _) _ _ _
  exact Aa (BG hb' rfl (Aa (A8 (Ag (hR u _ tk (by rw[<- Do];exact hP) fun b o h1 h2 e=>(PH _ _ (MB h2)).trans (kk b o h1 e))))))
 | succ k ih =>
  intro j t u z hk hj C5 hP hb hR
  have C7:j+1 < n:=by omega
  refine Bk aF ?_
  rw[aV Sy _]
  show wpAny _ Z.in1 (BS (.ref B) >>= _) _ _ t
  refine Aa (AF hb rfl ?_)
  show wpAny _ Z.in1 (tryCatch (pyNext (.ref J)) _ >>= _) _ _ t
  refine Aa (Ba (W.item (j+1) t _ _ C7 C5 fun v g tk hv hst' kk=>?_))
  have hb':=kk B _ HL hb
  show wpAny _ Z.in1 (tryCatch (Bf [v,v] (richCompare .Gt v u >>= _)) _ >>= _) _ _ _
  refine Aa (Ba (AN (Aa (hc (j+1) (By bt j) v u _ _ _ hv hP ?more))))
  refine Aa (AN (AB (Aa (A8 (Ag ?_)))))
  cases e:bt (j+1) (By bt j) with
  | true =>
   simp only[if_true]
   refine Aa (BG hb' rfl (Aa (A8 ?_)))
   rw[nm]
   refine Ag ⟨BA Sy _,ih (j+1) _ v _ (by omega) C7 (W.frame _ _ _ hst' fun b h1 o h2=>?_) (by simp only[By,e,if_true];exact hv) (R7 _ hb' rfl) fun v' g' tk' h1 h2=>?_⟩
   ·exact(PH _ _ (fun h:B=b=>hB (by rw[h];exact h1))).trans h2
   ·exact hR v' g' tk' h1 fun b o h3 h4 h5=>h2 b o h3 h4 ((PH _ _ (MB h4)).trans (kk b o h3 h5))
  | false =>
   simp only[U_,if_false]
   refine Aa (A8 ?_)
   rw[nm]
   exact Ag ⟨BA Sy _,ih (j+1) _ u z (by omega) C7 hst' (by simp only[By,e,U_,if_false];exact hP) hb' fun v' g' tk' h1 h2=>hR v' g' tk' h1 fun b o h3 h4 h5=>h2 b o h3 h4 (kk b o h3 h5)⟩
theorem fu (W:Walks prog w Z.in1 J fp wr n P St) (bt:Nat->Nat->Bool) (hc:CmpOf prog w Z.in1 .Gt P bt) (B:Ac) (hB:B∉fp) (d:Ad) (C5:St 0 t.heap) (hb:t.heap.get? B=some { cls:=.type "list",dict:=none,data:=.seq #[] z,slots:=#[] }) (h0:n=0->∀ g tk,(∀ b o,b∉wr->b≠B->t.heap.get? b=some o->g.get? b=some o)->R (.ok (.ret d)) { t with heap:=g,toks:=tk }) (hR:0 < n->∀ v g tk,P (By bt (n - 1)) v->(∀ b o,b∉wr->b≠B->t.heap.get? b=some o->g.get? b=some o)->R (.ok (.ret v)) { t with heap:=g,toks:=tk }):
  codeAny (Aj prog w) Z (.builtin "max.loop" ⟨[.ref J,.none,.ref B],dKw d⟩) R t:=by
 have HL:B∉wr:=fun h=>hB (W.sub _ h)
 have nm:(toString "max"++toString ".loop":String)="max.loop":=by decide
 refine Bk aF ?_
 rw[aV Sy _]
 show wpAny _ Z.in1 (BS (.ref B) >>= _) _ _ t
 refine Aa (AF hb rfl ?_)
 show wpAny _ Z.in1 (tryCatch (pyNext (.ref J)) _ >>= _) _ _ t
 rcases Nat.eq_zero_or_pos n with hn | hn
 ·refine Aa (Ba (W.done t _ _ (by rw[hn];exact C5) fun g tk kk=>?_))
  show wpAny _ Z.in1 (rule _ >>= _) _ _ _
  exact Aa (B0 (Ag (h0 hn g tk fun b o h1 _ e=>kk b o h1 e)))
 ·refine Aa (Ba (W.item 0 t _ _ hn C5 fun v g tk hv hst' kk=>?_))
  have hb':=kk B _ HL hb
  show wpAny _ Z.in1 (updateSeq B (fun _=>#[v,v]) >>= _) _ _ _
  refine Aa (BG hb' rfl ?_)
  rw[nm]
  refine Ag ⟨BA Sy _,fq W bt hc B hB d _ 0 _ v _ rfl hn (W.frame _ _ _ hst' fun b h1 o h2=>?_) hv (R7 _ hb' rfl) fun v' g' tk' h1 h2=>?_⟩
  ·exact(PH _ _ (fun h:B=b=>hB (by rw[h];exact h1))).trans h2
  ·exact hR hn v' g' tk' h1 fun b o h3 h4 h5=>h2 b o h3 h4 ((PH _ _ (MB h4)).trans (kk b o h3 h5))
theorem fv (h:wpAny (Aj prog w) Z.in1 (pyIter x) (fun it t=>∃ J fp wr n P St bt,it=.ref J/\Walks prog w Z.in1 J fp wr n P St/\St 0 t.heap/\(∀ b∈fp,b < t.heap.objs.size)/\CmpOf prog w Z.in1 .Gt P bt /\
   (n=0->∀ g tk,(∀ b o,b∉wr->t.heap.get? b=some o->g.get? b=some o)->Q d { t with heap:=g,toks:=tk }) /\
   (0 < n->∀ v g tk,P (By bt (n - 1)) v->(∀ b o,b∉wr->t.heap.get? b=some o->g.get? b=some o)->Q v { t with heap:=g,toks:=tk })) E s):
  wpAny (Aj prog w) Z (call (.builtin "max") [x] (dKw d)) Q E s:=by
 have nm:(toString "max"++toString ".loop":String)="max.loop":=by decide
 refine kmk_tree PySem.F.kind_max PySem.F.plain_max PySem.F.entry_max (fo _ _) ?_
 show wpAny _ Z.in1 (jo "max" ["key","default"] 0 ⟨[],dKw d⟩ >>= _) _ _ s
 refine Aa (wpAny_of_eq (show jo "max" ["key","default"] 0 ⟨[],dKw d⟩=pure [none,some d] from rfl) (Aa (Ag ?_)))
 refine Aa (An h (fun it t h₂=>?_) fun _ _ e=>e)
 obtain⟨J,fp,wr,n,P,St,bt,rfl,W,C5,GZ,hc,q0,q1⟩:=h₂
 refine Aa (AD ?_)
 rw[nm]
 have DP:t.heap.objs.size∉fp:=fun hm=>Qv _ (GZ _ hm)
 refine Ag ⟨BA Sy _,fu W bt hc t.heap.objs.size DP d (W.frame _ _ _ C5 fun b _ o e=>Mf _ e) (MG _ rfl) (fun hn g tk kk=>?_) fun hn v g tk hv kk=>?_⟩
 ·exact q0 hn g tk fun b o h1 e=>kk b o h1 (MA (Ml e)) (Mf _ e)
 ·exact q1 hn v g tk hv fun b o h1 e=>kk b o h1 (MA (Ml e)) (Mf _ e)
end
def tMaxD (ta tb:TE):TE:=fun σ H Q=>ta σ H fun v H1=>tb σ H1 fun d H2=>∃(p:Ac) (ns:List Int),v=.ref p/\H2 p=some (.lst (ns.map V.int))/\(ns=[]->Q d H2)/\∀ m,m∈ns->(∀ n∈ns,n<=m)->Q (.int m) H2
theorem i_maxD (h:ta σ H fun v H1=>tb σ H1 fun d H2=>∃(p:Ac) (ns:List Int),v=.ref p/\H2 p=some (.lst (ns.map V.int))/\(ns=[]->Q d H2)/\∀ m,m∈ns->(∀ n∈ns,n<=m)->Q (.int m) H2):tMaxD ta tb σ H Q:=h
section
variable {X:Cx}
theorem pe_maxD (G6:X.calm=true) (hg:Gl X "max") (hm:X.mg "max"=none) (ha:PE X a ta) (hb:PE X b tb) (hs:Ah [a] X.env=[(false,As a X.env)]:=by rfl):
  PE X (.Call (.Name "max" p) [a] [⟨some "default",b,kpos⟩] pos) (tMaxD ta tb):=by
 intro B_ s σ H Q I h
 refine AC (QC (u:=.builtin "max") I hg hm (by decide +kernel) ?_)
 refine PyProof.Rows.callWith_kw ?_ (by rw[hs];rfl) (by rw[hs];rfl)
 rw[hs]
 show wpAny _ _ (BC ((false,As a X.env)::AA pos (Ah [] X.env))) _ _ s
 refine SE (thn (ha B_ s σ H _ I h) fun u s1 ⟨x,H1,I1,ru,q1⟩=>UK ?_)
 show wpAny _ _ (evalAll ((do let v <- As b X.env;Bm pos;pure v)::[])) _ _ s1
 refine wpAny_evalAll_cons (Aa (thn (hb B_ s1 σ H1 _ I1 q1) fun u2 s2 ⟨y,H2,I2,ry,l,ns,ex,el,q0,q2⟩=>Aa (AV (Ag (wpAny_evalAll_nil ?_)))))
 subst ex
 cases ru
 show wpAny _ _ (call (.builtin "max") [.ref l] (dKw u2)) _ _ s2
 obtain⟨its,rv,pl,hz⟩:=I2.list (SqL.of (K:=X.K) el)
 have Cd:=rv.length
 rw[L8] at Cd
 have C7:l < s2.heap.objs.size:=by obtain⟨o,_,ho,_⟩:=pl;exact Ml ho
 have EE:∀(i:Nat) (v:Ad),its.toArray[i]?=some v->∃ t,v=.int (ns.getD i 0) t:=fun i v hv=>by
  have hv':its[i]?=some v:=by simpa using hv
  have Ec:i < its.length:=(MS.mp hv').1
  obtain⟨w',hw,t,rfl⟩:=rv.get (i:=i) (x:=V.int (ns.getD i 0)) (by rw[MC];simp[Mq,show i < ns.length by omega])
  rw[hv'] at hw
  cases hw
  exact⟨t,rfl⟩
 have f1:=I2.fpOk (H':=H2) (b:=s2.heap.objs.size) (L' _) (I2.hok.fresh (L' _))
 have isl:s2.heap.IsList l its.toArray:=by
  obtain⟨o,n,e,hc,hd,hx⟩:=pl
  exact⟨o,e,hc,n,hx⟩
 have I3:Inv X B_ σ H2 { s2 with heap:=s2.heap.push { cls:=.type "list_iterator",data:=.fields #[.ref l,.int 0 0] },toks:=s2.toks }:=I2.kept fun b u q=>Mf _ q
 refine fv (AE isl ?_)
 refine⟨s2.heap.objs.size,_,_,_,_,_,_,rfl,Walks.list (A:=X.A.in1) (show X.A.in1.handled=none from I2.ok.hd G6) s2.heap.objs.size l (MA C7) its.toArray,⟨⟨_,MG _ rfl,rfl,rfl⟩,?_⟩,?_,CmpOf.ints_gt (fun i=>ns.getD i 0) EE,fun hn g tk k=>?_,fun hn v g tk hv k=>?_⟩
 ·obtain⟨o,ho,q⟩:=isl
  exact⟨o,Mf _ ho,q⟩
 ·intro b hb
  have hsz:(s2.heap.push { cls:=.type "list_iterator",data:=.fields #[.ref l,.int 0 0] }).objs.size=s2.heap.objs.size+1:=Om ..
  show b < (s2.heap.push _).objs.size
  rw[hsz]
  rcases Mo.mp hb with z | z
  ·rw[z];exact UG _
  ·have z':b=l:=by simpa using z
   rw[z'];exact Nat.lt_succ_of_lt C7
 ·rw[MH] at hn
  have Gz:ns=[]:=iV (by omega)
  exact⟨y,H2,I3.turned (t':=tk) (it:=s2.heap.objs.size) (fun b o hb q=>k b o (by simpa using hb) q) f1.1 f1.2.1 f1.2.2.2.1 f1.2.2.2.2.1 f1.2.2.2.2.2,ry,q0 Gz⟩
 ·obtain⟨t,rfl⟩:=EE _ _ hv
  rw[MH] at hn ⊢
  obtain⟨b1,b2⟩:=argBest_gt (fun i=>ns.getD i 0) (its.length - 1)
  refine⟨.int _,H2,I3.turned (t':=tk) (it:=s2.heap.objs.size) (fun b o hb q=>k b o (by simpa using hb) q) f1.1 f1.2.1 f1.2.2.2.1 f1.2.2.2.2.1 f1.2.2.2.2.2,⟨_,rfl⟩,q2 _ ?_ fun n Er=>?_⟩
  ·rw[Mq,Mm (show By _ _ < ns.length by omega)]
   exact Qt _
  ·obtain⟨j,hj,rfl⟩:=List.getElem_of_mem Er
   have:=b2 j (by omega)
   rw[Mq (i:=j),Mm hj] at this
   exact this
end
end L2
namespace L2
open PySem PySem.Spec PyProof.Rows PySem.SeqAt
def TR:V->List V->Hp->VK->Prop:=fun x vs H Q=>match x,vs with
 | .ref l,[.bl k]=>∃ bs:List Bool,H l=some (.lst (bs.map V.bl))/\Q (.int ((bs.count k:Nat):Int)) H
 | _,_=>False
theorem fw {l:Ac}{k:Bool}{H:Hp}{Q:VK}{bs:List Bool}(h:H l=some (.lst (bs.map V.bl)))(q:Q (.int ((bs.count k:Nat):Int)) H):TR (.ref l) [.bl k] H Q:=⟨bs,h,q⟩
theorem TU:∀{bs:List Bool}{us:List Ad},Vals (bs.map V.bl) us->us=bs.map Value.bool
 | [],_,r=>by cases r;rfl
 | b::bs,_,r=>by
  cases r with
  | cons h t =>
   have h:_=Value.bool b:=h
   rw[h,TU t];rfl
theorem Xw (k:Bool):∀ bs:List Bool,(bs.map Value.bool).countP (B5 k)=bs.count k
 | []=>rfl
 | b::bs=>by
  rw[Mu,List.countP_cons,Xw k bs,List.count_cons]
  rfl
theorem fz :MtR X "list.count" TR:=fun B_ s σ H x xs v us Q I rx rs h=>by
 unfold TR at h
 split at h
 ·rename_i l k
  obtain⟨bs,e,q⟩:=h
  cases rx
  obtain⟨u,rfl,ru⟩:=rs.one
  have ru:u=Value.bool k:=ru
  subst ru
  obtain⟨z,its,n,r,hl,eo⟩:=I.lstM e
  have hi:=TU r
  refine AZ i_ ⟨_,eo,rfl⟩ PySem.F.entry_list_count (PySem.F.args_list_count_2 _ _) (list_countAt l its.toArray n none #[] (.bool k) (B5 k)) ⟨eo,fun y hy=>?_,?_⟩
  ·have hy:y∈its:=by simpa using hy
   rw[hi] at hy
   obtain⟨b,_,rfl⟩:=Nw.mp hy
   exact EqAt.bool_bool b k
  ·rw[show its.toArray.toList=its from rfl,hi,Xw]
   exact⟨.int _,H,I.tok _,⟨_,rfl⟩,q⟩
 ·exact h.elim
end L2
namespace L2
open PySem
open Sem (wp)
set_option maxHeartbeats 4000000 in
section
variable {prog:Ak}{w:Am}{A:Ao}{E:Ad->Af->Prop}{s:Af}
end
open PySem.Spec PyProof.Rows
section
variable {X:Cx}
end
end L2
namespace L2
open PySem
theorem st_c :start (n::N) (v::vs)=some v::start N vs:=by
 unfold start
 rw[Mv,Mv,Nat.add_sub_add_right];rfl
theorem st_n :start (n::N) []=none::start N []:=rfl
theorem st_0:start [] []=[]:=rfl
theorem Ms (h:H a=none) (o:HO):∃ H',upd H a o=H'/\Same H H'/\H' a=some o:=⟨_,rfl,fun b u e=>by rw[L4 (fun z=>by rw[z,h] at e;cases e)];exact e,LX⟩
end L2
namespace L2
open PySem PySem.Spec PyProof.Rows
section
variable {X:Cx}{x:Str}{p pos pos':Pos}{e a b:Ax}{es:List Ax}{te ta tb:TE}{t:TA}{id T:String}{r:List V->Hp->VK->Prop}
theorem pa1 (h:PE X e te)(hs:Ah [e] X.env=(false,As e X.env)::Ah [] X.env:=by rfl):PA X [e] (SR te tNil):=LS h pa_nil hs
theorem pst (i:Nat)(hN:X.N.Nodup)(he:PE X e te)(hi:X.N[i]?=some x:=by rfl)(hx:Loc X.env.scope x:=by exact .inl rfl)(hs:Bo e (some (.Name x pos')) pos.line X.env=pure false:=by rfl)(hf:X.fn x=true∨X.env.scope.names.lookup x=some .local:=by first | exact .inl rfl | exact .inr rfl | assumption):PS X (.Assign [.Name x pos'] e pos) (tAsg te (OS i)):=Vl hN hi hx he hs hf
theorem pnm (i:Nat)(hN:X.N.Nodup)(hi:X.N[i]?=some x:=by rfl)(hx:Loc X.env.scope x:=by exact .inl rfl)(hf:X.fn x=true∨X.env.scope.names.lookup x=some .local:=by first | exact .inl rfl | exact .inr rfl | assumption):PG X (.Name x pos) (OS i):=NZ hN hi hx hf
theorem pix (K:L3)(ha:PE X a ta)(hb:PE X b tb)(hs:VS b:=by exact fun _ _=>rfl)(hK:X.K=K:=by rfl):PE X (.Subscript a b pos) (tOp (fIx K) ta tb):=pe_ix (ix_any hK) ha hb hs
theorem pcb (hc:CallR X (.builtin id) r)(hm:X.mg x=none)(ha:PA X (e::es) t)(hg:Gl X x:=by rfl)(hv:AL x=some (.builtin id):=by decide +kernel)(hn:x≠"__name__":=by decide)(Dl:(x == ("__debug__":Str))=false:=by decide)
  (he:Ah (e::es) X.env=(false,As e X.env)::Ah es X.env:=by rfl) (Cz:(AA pos (Ah es X.env)).any (·.1)=false:=by rfl):PE X (.Call (.Name x p) (e::es) [] pos) (tCB r t):=bR hc hg hm hv ha hn Dl he Cz
theorem pct (hc:CallR X (.type T) r)(hm:X.mg x=none)(ha:PA X (e::es) t)(hg:Gl X x:=by rfl)(hv:AL x=some (.type T):=by decide +kernel)(hn:x≠"__name__":=by decide)(Dl:(x == ("__debug__":Str))=false:=by decide)
  (he:Ah (e::es) X.env=(false,As e X.env)::Ah es X.env:=by rfl) (Cz:(AA pos (Ah es X.env)).any (·.1)=false:=by rfl):PE X (.Call (.Name x p) (e::es) [] pos) (tCB r t):=bS hc hg hm hv ha hn Dl he Cz
theorem pty (y:String)(hm:X.mg x=none)(hg:Gl X x:=by rfl)(hv:AL x=some (.type y):=by decide +kernel)(hn:x≠"__name__":=by decide)(hd:(x == ("__debug__":Str))=false:=by decide):PE X (.Name x pos) (tC (.ty y)):=bi hg hm hv rfl hn hd
end
section
variable {P:Ak}{w:Am}{K:L3}{mg:Str->Option Ad}{base:Ap}{x Ci:Str}{st:Av}{f:Ac}{fd:Ay}{ps:List Str}{k:Nat}{sp:Sp}
theorem Fun.okk (F:Fun K x Ci st f fd)(N:List Str)
  (Dq:∀(cdv:Ad) (A:Ao) (outer:List Env) (s:Af) (H:Hp) (vs:List V) (Q:VK) (E:XK),Room k (A.deeper (Br Ci (NF st) s.heap.objs.size f cdv))->sp vs H Q E->N.Nodup ->
   ∃ t,PSs (cxOf CX0 P w K mg base N Ci (NF st) f cdv A outer s H E).nox (QF st) t/\t { nx:=fun _ H'=>Q .non H',rt:=Q } (start N vs) H) (len:∀ vs H Q E,sp vs H Q E->vs.length=ps.length:=by walk_at "l0") (S:FnScope N ps (NF st):=by exact⟨rfl,rfl,rfl,by decide +kernel,rfl,by decide +kernel,by decide +kernel⟩):FnOk P w K mg base CX0 (k+1) f fd ps sp :=
 F.ok S len fun cdv A outer s H vs Q E hr h=>Dq cdv A outer s H vs Q E hr h S.nd
theorem Fun.okx (F:Fun K x Ci st f fd)(N:List Str)
  (Dq:∀(cdv:Ad) (A:Ao) (outer:List Env) (s:Af) (H:Hp) (vs:List V) (Q:VK) (E:XK),Room k (A.deeper (Br Ci (NF st) s.heap.objs.size f cdv))->sp vs H Q E->N.Nodup ->
   ∃ t,PSs (cxOf (CXx P w) P w K mg base N Ci (NF st) f cdv A outer s H E) (QF st) t/\t { nx:=fun _ H'=>Q .non H',rt:=Q } (start N vs) H) (len:∀ vs H Q E,sp vs H Q E->vs.length=ps.length:=by walk_at "l0") (S:FnScope N ps (NF st):=by exact⟨rfl,rfl,rfl,by decide +kernel,rfl,by decide +kernel,by decide +kernel⟩):FnOk P w K mg base (CXx P w) (k+1) f fd ps sp :=
 F.okX S len fun cdv A outer s H vs Q E hr h=>Dq cdv A outer s H vs Q E hr h S.nd
end
inductive StrsE:List Ax->List Dt->Prop
 | nil:StrsE [] []
 | cons {x:Str}{k:Nat}{p:Pos}{es:List Ax}{ds:List Dt}:StrsE es ds->StrsE (.Constant (.str x) k p::es) (.str x::ds)
theorem fA (h:StrsE es ds):PA X es (tDatas ds):=by
 induction h with
 | nil=>exact pa_nil.imp fun σ H Q q=>q [] H (by simp only[IsL]) (Same.refl H)
 | cons _ ih =>
  refine(LS LU ih rfl).imp fun σ H Q q vs H2 KL s2=>q (_::vs) H2 ?_ s2
  simp only[IsL,Is]
  exact⟨trivial,KL⟩
theorem RE (ds:List Dt) (h:StrsE es ds:=by repeat constructor) (hl:ds.length<=1000:=by decide):PE X (.List es p) (tData (.lst ds)):=by
 refine(Mp (fA h)).imp fun σ H Q q vs H' hv hs=>⟨szn (by rw[IsL.length hv];omega),fun p hp=>q _ _ ?_ (hs.trans (L_ hp _))⟩
 simp only[Is]
 exact⟨p,vs,rfl,LX,IsL.same (L_ hp _) hv⟩
end L2
namespace L2
open PySem PySem.Spec PyProof.Rows PySem.SeqAt Builtin Builtin.Str
section
variable {X:Cx}
def Xx:V->List V->Hp->VK->Prop:=fun x vs H Q=>∃ z y:Str,x=.str z/\vs=[.str y]/\(y.length == 0)=false/\z.length<=Ae/\(Oj z y).length<=Ae/\∀ q,H q=none->Q (.ref q) (upd H q (.lst ((Oj z y).map V.str)))
theorem Xy (h1:(y.length == 0)=false) (h2:z.length<=Ae) (h3:(Oj z y).length<=Ae) (h:∀ q,H q=none->Q (.ref q) (upd H q (.lst ((Oj z y).map V.str)))):Xx (.str z) [.str y] H Q:=⟨z,y,rfl,rfl,h1,h2,h3,h⟩
theorem Xz:∀(t:Nat) (ps:List Str),Vals (ps.map V.str) (strsFrom t ps)
 | _,[]=>.nil
 | t,p::ps=>.cons ⟨t,rfl⟩ (Xz (t+1) ps)
theorem XA:MtR X "str.split" Xx:=fun B_ s σ H x vs v us Q I rx rs h=>by
 obtain⟨z,y,rfl,rfl,hy,hz,hn,q⟩:=h
 obtain⟨t,rfl⟩:=rx
 obtain⟨u,rfl,t',rfl⟩:=N1 rs
 have new:∀(its:List Ad) (tk:Nat),Vals ((Oj z y).map V.str) its->(∃(y':V) (H':Hp),Inv X B_ σ H' { s with heap:=s.heap.push { cls:=.type "list",data:=.seq its.toArray },toks:=tk }/\RelV y' (.ref s.heap.objs.size)/\Q y' H'):=fun its tk r=>by
  refine⟨.ref s.heap.objs.size,_,I.laid (t':=tk) (fun b o e=>Mf _ e) (L' _) (show ObjOk X.prog X.w _ _ _ (.lst _) from ⟨by rw[L8];exact hn,its,0,r,MG _ rfl⟩),rfl,q _ (I.hok.fresh (L' _))⟩
 cases h1:(decide (z.length < y.length) || decide (strKind z < strKind y))
 ·cases hf:(occurrences z y 0 z.length (z.length+1)).isEmpty
  ·have e:Oj z y=partsBetween z (occurrences z y 0 z.length (z.length+1)) y.length:=(B8 (ne_true_of_eq_false h1)).trans (B8 (ne_true_of_eq_false hf))
   rw[e] at new hn
   exact AZ aI (Bd _ _ _) aH (aG _ _) (meets_str_split_sep z y t t' h1 hy hf hz hn) (new _ _ (Xz _ _))
  ·have e:Oj z y=[z]:=(B8 (ne_true_of_eq_false h1)).trans (B9 hf)
   rw[e] at new
   exact AZ aI (Bd _ _ _) aH (aG _ _) (meets_str_split_not_found z y t t' h1 hy hf) (new [.str z t] s.toks (.cons ⟨t,rfl⟩ .nil))
 ·have e:Oj z y=[z]:=B9 h1
  rw[e] at new
  exact AZ aI (Bd _ _ _) aH (aG _ _) (meets_str_split_cannot_occur z y t t' h1) (new [.str z t] s.toks (.cons ⟨t,rfl⟩ .nil))
def fOrd:List V->Hp->VK->Prop:=fun xs H Q=>∃ c:Nat,xs=[.str ⟨#[c]⟩]/\Q (.int (c:Int)) H
theorem i_ord (h:Q (.int (c:Int)) H):fOrd [.str ⟨#[c]⟩] H Q:=⟨c,rfl,h⟩
theorem c_ord:CallR X (.builtin "ord") fOrd:=fun B_ s σ H xs us Q I r h=>by
 obtain⟨c,rfl,q⟩:=h
 obtain⟨u,rfl,t,rfl⟩:=N1 r
 exact P.ord_of_char ⟨.int (c:Int),H,I.tok _,⟨_,rfl⟩,q⟩
def fLeS:R2:=fun x y H Q=>∃ a b:Nat,x=.str ⟨#[a]⟩/\y=.str ⟨#[b]⟩/\Q (.bl (decide (a<=b))) H
theorem i_leS (h:Q (.bl (decide (a<=b))) H):fLeS (.str ⟨#[a]⟩) (.str ⟨#[b]⟩) H Q:=⟨a,b,rfl,rfl,h⟩
theorem o_leS:OpR X (Ar .LtE) fLeS:=fun B_ s σ H x y v u Q I rx ry h=>by
 obtain⟨a,b,rfl,rfl,q⟩:=h
 obtain⟨t,rfl⟩:=rx
 obtain⟨t',rfl⟩:=ry
 refine P.le_str (MJ I q ?_)
 rw[No]
 simp
 have h:([b] < [a])↔b < a:=by rw[List.cons_lt_cons_iff];simp
 exact⟨fun z=>List.not_lt.mp fun y=>Nat.not_lt.mpr z (h.mp y),fun z=>Nat.not_lt.mp fun y=>List.not_lt.mpr z (h.mpr y)⟩
def XB:V->List V->Hp->VK->Prop:=fun x vs H Q=>∃ z:Str,x=.str z/\vs=[]/\tooLong (SF z).length=false/\Q (.str (SF z)) H
theorem i_upper (h1:tooLong (SF z).length=false) (h:Q (.str (SF z)) H):XB (.str z) [] H Q:=⟨z,rfl,rfl,h1,h⟩
theorem fB:MtR X "str.upper" XB:=fun B_ s σ H x vs v us Q I rx rs h=>by
 obtain⟨z,rfl,rfl,hf,q⟩:=h
 obtain⟨t,rfl⟩:=rx
 cases rs
 exact AZ F.slot_str_upper (Bd _ _ _) F.entry_str_upper (F.args_str_upper_1 _) (gives_str_upper z t hf).meets ⟨fit_le hf,.str (SF z),H,I.tok _,⟨_,rfl⟩,q⟩
def XC:V->List V->Hp->VK->Prop:=fun x vs H Q=>∃(l:Ac) (bs:List Bool) (k:Bool) (j:Nat),x=.ref l/\vs=[.bl k]/\H l=some (.lst (bs.map V.bl))/\bs[j]?=some k/\(∀ i,i < j->bs[i]?≠some k)/\Q (.int (j:Int)) H
theorem fE {H:Hp}{Q:VK}{l:Ac}{bs:List Bool}{k:Bool}{j:Nat}(h1:H l=some (.lst (bs.map V.bl)))(h2:bs[j]?=some k)(h3:∀ i,i < j->bs[i]?≠some k)(h:Q (.int (j:Int)) H):XC (.ref l) [.bl k] H Q:=⟨l,bs,k,j,rfl,rfl,h1,h2,h3,h⟩
theorem m_idxB:MtR X "list.index" XC:=fun B_ s σ H x vs v us Q I rx rs h=>by
 obtain⟨l,bs,k,j,rfl,rfl,hH,h1,h2,q⟩:=h
 cases rx
 obtain⟨u,rfl,ru⟩:=rs.one
 have ru:u=Value.bool k:=ru
 subst ru
 obtain⟨z,its,n,r,hl,e⟩:=I.lstM hH
 have hi:=TU r
 subst hi
 have KM:Ae<=2 ^ 62:=by decide
 rw[L8] at z
 have hj:j < bs.length:=(MS.mp h1).1
 have KN:bs[j]=k:=by rw[Mm hj] at h1;injection h1
 refine AZ F.slot_list_index ⟨_,e,rfl⟩ F.entry_list_index (F.args_list_index_2 _ _) (list_indexAt l (bs.map Value.bool).toArray n none #[] (.bool k) (B5 k) j (by simpa using hj) (by omega) ?_ (fun i hi C7=>?_)) ⟨e,fun y hy=>?_,?_⟩
 ·show B5 k ((bs.map Value.bool)[j]'(by simpa using hj))=true
  rw[Zn,KN]
  cases k <;> rfl
 ·have hi':i < bs.length:=by simpa using hi
  show B5 k ((bs.map Value.bool)[i]'(by simpa using hi'))=false
  rw[Zn]
  have:=h2 i C7
  rw[Mm hi'] at this
  generalize bs[i]=b at this
  cases b <;> cases k <;> first | rfl | exact absurd rfl this
 ·have hy:y∈bs.map Value.bool:=by simpa using hy
  obtain⟨b,_,rfl⟩:=Nw.mp hy
  exact EqAt.bool_bool b k
 ·exact⟨.int (j:Int),H,I.kept (h':=s.heap) (t':=s.toks+1) fun b u q=>q,⟨_,rfl⟩,q⟩
end
end L2
namespace L2
open PySem PySem.Spec PyProof.Rows
def DC (P:Ak)(w:Am)(K:L3)(a:Ac)(B':List (Key×V)):Prop:=∃ o vs,K.lookup a=some o/\o.IsDictOf (M7 P w) vs/\KV B' vs/\(a == AH)=false
def tKIn (B':List (Key×V))(neg:Bool)(ty:TE):TE:=fun σ H Q=>ty σ H fun y H1=>∃ k,y=kV k/\Q (.bl (xor neg (valV B' k).isSome)) H1
def tKGet (B':List (Key×V))(ty:TE):TE:=fun σ H Q=>ty σ H fun y H1=>∃ k v,y=kV k/\valV B' k=some v/\Q v H1
theorem i_kin (h:ty σ H fun y H1=>∃ k,y=kV k/\Q (.bl (xor neg (valV B' k).isSome)) H1):tKIn B' neg ty σ H Q:=h
theorem i_kget (h:ty σ H fun y H1=>∃ k v,y=kV k/\valV B' k=some v/\Q v H1):tKGet B' ty σ H Q:=h
section
variable {X:Cx}{x:Str}{i:Ax}{a:Ac}{B':List (Key×V)}{pos pos':Pos}{ty:TE}
theorem DC.at (d:DC X.prog X.w X.K a B') (I:Inv X B_ σ H s):(a == AH)=false/\∃ vs,KV B' vs/\s.heap.DictOf (M7 X.prog X.w) a vs:=by
 obtain⟨o,vs,h1,h2,h3,h4⟩:=d
 exact⟨h4,vs,h3,Heap.dictOf_iff.mpr ⟨o,I.kIn a o h1,h2⟩⟩
theorem fF {P:Ak}{w:Am}{K:L3}(d:DC P w K a B')(hg:Gl X x)(hm:X.mg x=some (.ref a))(hi:PE X i ty)(eP:X.prog=P:=by rfl)(ew:X.w=w:=by rfl)(eK:X.K=K:=by rfl)(hd:(x == ("__debug__":Str))=false:=by decide):PC X .NotIn i (.Name x pos) (tKIn B' true ty):=by
 subst eP ew eK
 intro B_ s σ H Q I h
 refine thn (hi B_ s σ H _ I h) fun iv s1 ⟨y,H1,I1,ry,k,ey,q1⟩=>PN I1 hg hm ?_ hd
 subst ey
 obtain⟨hS,vs,rel,dd⟩:=d.at I1
 refine wpAny_notIn_of (N8 ry) hS dd.mapOf ?_
 rw[<- (rel.val k).isSome_eq]
 rw[Bool.true_xor] at q1
 exact⟨.bl (!(valV B' k).isSome),H1,I1.tok _,rfl,q1⟩
theorem pe_kget {P:Ak}{w:Am}{K:L3}(d:DC P w K a B')(hg:Gl X x)(hm:X.mg x=some (.ref a))(hi:PE X i ty)(hs:NoSl i)(eP:X.prog=P:=by rfl)(ew:X.w=w:=by rfl)(eK:X.K=K:=by rfl)(hd:(x == ("__debug__":Str))=false:=by decide):PE X (.Subscript (.Name x pos) i pos') (tKGet B' ty):=by
 subst eP ew eK
 intro B_ s σ H Q I h
 refine WS i6.lookup hs (PN I hg hm (thn (hi B_ s σ H _ I h) fun iv s2 ⟨y,H2,I2,ry,k,v,ey,hv,q2⟩=>?_) hd)
 subst ey
 obtain⟨hS,vs,rel,dd⟩:=d.at I2
 obtain⟨w',hw,rw'⟩:=RelO.some_of (v:=v) (o:=BE vs k) (by rw[<- hv];exact rel.val k)
 exact⟨dd.typeIs,wpAny_getItem_of (N8 ry) dd.mapOf hw ⟨v,H2,I2.tok _,rw',q2⟩⟩
end
end L2
namespace L2
open PySem
noncomputable def spl (c:Nat):List Nat->List (List Nat)
 | []=>[[]]
 | x::r=>if x=c then []::spl c r else match spl c r with
  | []=>[[x]]
  | p::ps=>(x::p)::ps
theorem Qj (c:Nat):∀ l,spl c l≠[]
 | [],h=>by cases h
 | x::r,h=>by
  unfold spl at h
  split at h
  ·cases h
  ·split at h <;> cases h
theorem RF {c:Nat}:∀{p:List Nat},c∉p->spl c p=[p]
 | [],_=>rfl
 | x::p,h=>by
  unfold spl
  rw[B8 fun e=>h (by rw[e];exact MV),RF (p:=p) fun e=>h (MP _ e)]
theorem UV {c:Nat}(r:List Nat):∀{p:List Nat},c∉p->spl c (p++c::r)=p::spl c r
 | [],_=>by
  show (if c=c then []::spl c r else _)=_
  rw[B9 rfl]
 | x::p,h=>by
  show (if x=c then []::spl c (p++c::r) else match spl c (p++c::r) with | []=>[[x]] | p::ps=>(x::p)::ps)=_
  rw[B8 fun e=>h (by rw[e];exact MV),UV r (p:=p) fun e=>h (MP _ e)]
noncomputable def M5 (c:Nat):List (List Nat)->List Nat
 | []=>[]
 | [p]=>p
 | p::q::r=>p++c::M5 c (q::r)
theorem XD {c:Nat}:∀{ps:List (List Nat)},ps≠[]->(∀ p∈ps,c∉p)->spl c (M5 c ps)=ps
 | [],h,_=>absurd rfl h
 | [p],_,h=>RF (h p MV)
 | p::q::r,_,h=>by
  show spl c (p++c::M5 c (q::r))=_
  rw[UV _ (h p MV),XD (List.cons_ne_nil q r) fun y hy=>h y (MP _ hy)]
theorem XE (c:Nat):∀ qs:List (List Nat),UH ⟨#[c]⟩ (qs.map S)=S (M5 c qs)
 | []=>rfl
 | [q]=>rfl
 | p::q::r=>by
  have ih:=XE c (q::r)
  show UH ⟨#[c]⟩ (S p::(q::r).map S)=_
  rw[show UH ⟨#[c]⟩ (S p::(q::r).map S)=S p++⟨#[c]⟩++UH ⟨#[c]⟩ ((q::r).map S) from rfl,ih]
  show (S p++⟨#[c]⟩++S (M5 c (q::r)):Str)=S (p++c::M5 c (q::r))
  apply Str.ext'
  apply Array.toList_inj.mp
  show ((p.toArray++#[c])++(M5 c (q::r)).toArray).toList=(p++c::M5 c (q::r)).toArray.toList
  simp
theorem XF (x:Str):S x.cps.toList=x:=by
 unfold S;simp
theorem QQ (l:List Nat)(c:Nat):Oj (S l) (S [c])=(spl c l).map S:=by
 have e1:=StrLaws.join_split (S l) (S [c])
 have e2:=StrLaws.split_free (S l) c
 have hq:Oj (S l) (S [c])=((Oj (S l) (S [c])).map fun p=>p.cps.toList).map S:=by
  rw[Ng]
  conv=>lhs;rw[<- List.map_id (Oj (S l) (S [c]))]
  apply UA
  intro p _
  exact(XF p).symm
 have Cy:((Oj (S l) (S [c])).map fun p=>p.cps.toList)≠[]:=by
  unfold Oj
  split
  ·simp
  ·split
   ·simp
   ·unfold Builtin.Str.partsBetween
    simp
 have e2':∀ p∈((Oj (S l) (S [c])).map fun p=>p.cps.toList),c∉p:=fun p hp=>by
  obtain⟨y,hy,rfl⟩:=Nw.mp hp
  exact e2 y hy
 rw[hq] at e1
 rw[hq]
 generalize ((Oj (S l) (S [c])).map fun p=>p.cps.toList)=qs at e1 Cy e2'
 have e3:S (M5 c qs)=S l:=(XE c qs).symm.trans e1
 have e4:M5 c qs=l:=by
  unfold S at e3
  injection e3 with e3
  simpa using congrArg UL e3
 rw[<- e4,XD Cy e2']
end L2
namespace L2
open PySem PySem.Spec PyProof.Rows
section
variable {X:Cx}
def XG:List V->Hp->VK->Prop:=fun xs H Q=>∃ a B',xs=[.ref a]/\H a=some (.dK B')/\∀ q,H q=none->Q (.ref q) (upd H q (.dK B'))
theorem fG (h1:H a=some (.dK B')) (h:∀ q,H q=none->Q (.ref q) (upd H q (.dK B'))):XG [.ref a] H Q:=⟨a,B',rfl,h1,h⟩
theorem c_dict:CallR X (.type "dict") XG:=fun B_ s σ H xs us Q I r h=>by
 obtain⟨a,B',rfl,e,q⟩:=h
 obtain⟨u,rfl,ru⟩:=N1 r
 cases (show u=Value.ref a from ru)
 obtain⟨z,hd,vs,rel,dd⟩:=Pb I.hok (.inl e)
 have hz:vs.length<=Ae:=by rw[<- rel.length];exact z
 refine kt_call_dict hd dd hz fun h' hD hs=>?_
 have hk:∀ b u,s.heap.get? b=some u->h'.get? b=some u:=fun b u e=>by
  have hb:b≠s.heap.objs.size:=fun zz=>by rw[zz] at e;exact absurd (Ml e) (Qv _)
  rw[hs.2 b hb]
  exact Mf _ e
 exact⟨.ref s.heap.objs.size,_,I.laid (o:=.dK B') (t':=s.toks) hk (L' _) ⟨z,beq_eq_false_iff_ne.mpr (MB (MA I.big)),vs,rel,hD⟩,rfl,q _ (I.hok.fresh (L' _))⟩
end
section
variable {M:Model}{A:Ao}{E:Ad->Af->Prop}{env:Env}
variable {nm qn:Str}{C N W:Ac}{bs:List Ad}{C6:Bool}{sn:List Str}{sub:List Ad}{ab:Bool}{col:Option Bool}{dd:Option Ac}{k0 k1 k2 k3 k5:Option Ad}
theorem fH {h:Ap}{g:Array B2}{dr:Drawn}{tk:Nat}{os:OsState}{e:Ac}{oe:Obj}{Q:Bool->Af->Prop}
  (oC:h.get? C=some (At nm qn C N bs (.ref W::vBM) C6 sn sub ab col dd k0 k1 k2 k3 k5 xNew))
  (he:h.get? e=some oe) (ec:oe.cls=.ref C) (k:Q true ⟨h,g,dr,tk,os⟩):wpAny M A (B1 (.ref e) (.ref C)) Q E ⟨h,g,dr,tk,os⟩:=by
 have c1:(Value.ref C::.ref W::vBM).contains (.type "BaseException")=true:=by rw[Sr,Sr,xB.hasBase,Zs,Zs]
 have c2:(Value.ref C::.ref W::vBM).contains (.ref C)=true:=by simp
 have c3:=tc_notTuple
 unfold B1
 repeat (first | (with_reducible refine Al he ?_;rw[ec]) | with_reducible refine Al oC ?_ | (with_reducible refine Au oC ?_;rw[c1]) | (with_reducible refine Au oC ?_;rw[c2]) | wp_step)
 exact k
end
section
variable {X:Cx}{EX:XK}{W C0:Ac}{Wn en:Str}{i:Nat}{body suite:List Av}{b0:Av}{tb ts:TS}{wp D8 pos:Pos}
theorem fJ (C5:X.stack=X.env::X.outer)(hL:X.env.frame=some X.env.locals)(hN:X.N.Nodup)(hi:X.N[i]?=some en)(hk:X.env.scope.names.lookup en=some .local)(hg:Gl X Wn)(hm:X.mg Wn=some (.ref C0))(ME:Exc X.K W C0)
  (hE:∀ x od H',EX (.ref x) od H'->H' x=some (XO x C0 od false))
  (hb:∀ pn xe,Os (CXx X.prog X.w) (X.tried pn xe) EX->PSs (X.tried pn xe) body tb) (hs:∀ x,PSs (X.marked x) (b0::suite) ts) (Dl:(Wn == ("__debug__":Str))=false:=by decide) :
  PS X (.Try body [.ExceptHandler (some (.Name Wn wp)) (some en) (b0::suite) D8] [] [] pos) (tTry EX i X.N.length tb ts):=by
 intro B_ s σ H D I ⟨q1,q2⟩
 refine wpAny_Try_except (An (hb (X.pn++B_) (fun e s1=>∃ σ' H' s',Inv X B_ σ' H' s'/\CXx X.prog X.w X.stack H' s' EX e s1) (fun pins' σ' H' s' e s1 I' z=>⟨σ',H',s',Inv.untry I.ok I',z⟩) [] s σ H D (I.Xs _) q1) (fun f s1 z=>?_) fun e s1 z=>?_)
 ·cases f with
  | next =>
   obtain⟨σ',H',I',q⟩:=z
   exact A0 ⟨σ',H',Inv.untry I.ok I',q⟩
  | brk=>obtain⟨σ',H',I',q⟩:=z;exact⟨σ',H',Inv.untry I.ok I',q⟩
  | cont=>obtain⟨σ',H',I',q⟩:=z;exact⟨σ',H',Inv.untry I.ok I',q⟩
  | ret u=>obtain⟨v,σ',H',I',r,q⟩:=z;exact⟨v,σ',H',Inv.untry I.ok I',r,q⟩
 ·obtain⟨σ',H1,s',I1,x,C,od,H2,B,rfl,os,bare,U,ok,hX,F,ht,GR,G5⟩:=z
  have F':=F
  rw[C5] at F
  have hX':=hE _ _ _ G5
  obtain⟨_,_,z1,_⟩:=QN ok hX
  obtain⟨_,_,z2,_⟩:=QN ok hX'
  have zC:C=C0:=by
   rw[z1] at z2
   have:=congrArg (Option.map Obj.cls) z2
   exact Value.ref.inj (Option.some.inj this)
  subst zC
  obtain⟨nm,qn,N,bs,sn,sub,ab,col,dd,k0,k1,k2,k3,k5,oC⟩:=ME.ob
  have fd:∀ b∈frs X.stack,∀ o,s1.heap.get? b=some o->∀ vs,o.data≠.fields vs:=fun b hb o q=>by
   obtain⟨_,o2,e2,h2⟩:=F'.2.2.1.mem hb
   rw[q] at e2;cases e2;exact h2
  have inv:∀ h3 t3 l3 fl,Fl B l3 x C od fl h3->s1.heap.UpToSlots h3->Inv X B_ σ' H2 { s1 with heap:=h3,toks:=t3 }:=fun h3 t3 l3 fl x3 u3=>by
   have hU:=RC (fs:=frs X.stack) U (fun _ _ _ z=>z) hX (fun b o o' q e hn hx=>GR b o o' q e hn hx) x3 u3 fd
   have hK:=RD ok hX ht x3
   rw[Xl hX] at hU hK
   exact I1.call' (s':={ s1 with heap:=h3,toks:=t3 }) os hU hK bare (fun b z=>absurd z (by simp))
  refine TH (by rw[<- C5];exact I.ok.frames) hL F fun h2 x2 u2=>?_
  refine UT (s:={ s1 with heap:=h2 }) x2 fun h3 x3 u3=>?_
  have I3:=inv h3 s1.toks _ _ x3 (u2.trans u3)
  refine BV (BJ ?_) (by intro q;cases q)
  refine PN (X:=X.marked x) (I3.mark x) hg hm ?_ Dl
  obtain⟨vs3,t03,e3,_⟩:=x3.at
  have kI:=I3.kIn
  obtain⟨sh,sg,sd,st,so⟩:=s1
  refine fH (kI _ _ oC) e3 rfl ?_
  refine Bs ?_
  refine UT (s:=⟨h3,sg,sd,st,so⟩) x3 fun h5 x5 u5=>?_
  have I5:=inv h5 st _ _ x5 ((u2.trans u3).trans u5)
  refine Vk (X:=X.marked x) (v:=.ref x) (I5.mark x) hN hi (.inl hk) rfl (fun s6 I6=>?_) (.inr hk)
  have Cd:σ'.length=X.N.length:=I5.len
  refine An (hs x B_ s6 _ H2 _ I6 (q2 σ' (.ref x) x od H2 Cd G5 rfl)) (fun f s7 z=>?_) fun _ _ z=>z.elim
  cases f with
  | next =>
   obtain⟨σ7,H7,I7,q7⟩:=z
   exact ZU (Inv.unmark I.ok I7) hN hi hk fun s8 I8=>⟨_,H7,I8,q7⟩
  | brk=>obtain⟨_,_,_,z⟩:=z;exact z.elim
  | cont=>obtain⟨_,_,_,z⟩:=z;exact z.elim
  | ret u =>
   obtain⟨v,σ7,H7,I7,r7,q7⟩:=z
   exact ZU (Inv.unmark I.ok I7) hN hi hk fun s8 I8=>⟨v,_,H7,I8,r7,q7⟩
end
end L2
set_option maxHeartbeats 4000000
namespace K81
theorem _root_.L2.Room.L5 (h:L2.Room k A) (e:l<=k:=by first | decide | omega):L2.Room l A:=h.mono e
open PySem L2
local macro_rules | `(tactic| walk_at "f") => `(tactic| exact ⟨rfl,rfl,rfl,by decide +kernel,rfl,by decide +kernel,by decide +kernel⟩)
local macro_rules | `(tactic| walk_at "sc")=>`(tactic| first | assumption | omega | exact rfl | decide | exact szn (by omega) | (simp only[Mv,Qu,L8,Me] <;> omega) | trivial)
local macro_rules | `(tactic| walk_at "sq")=>`(tactic| first | assumption | exact da | exact db | (exact M9 (by assumption)) | (exact UP (by assumption)))
local macro_rules | `(tactic| walk_at "sl")=>`(tactic| first | assumption | exact SqL.of LX | exact SqL.of (by assumption))
local macro_rules | `(tactic| walk_at "st")=>`(tactic| first | assumption | exact SqT.of LX | exact SqT.of (by assumption))
local macro_rules | `(tactic| walk_at "lq")=>`(tactic| first | assumption | exact Wq | (exact QH (by assumption)))
local macro_rules | `(tactic| walk_at "at")=>`(tactic| first | exact atI_0 _ _ | exact atI_1 _ _ _ | exact atI_2 _ _ _ _ | exact atI_3 _ _ _ _ _ | assumption)
local macro_rules | `(tactic| walk_at "mu")=>`(tactic| first | (exact CMul.l (by omega) (by omega)) | (exact CMul.r (by omega) (by omega)) | (exact CMul.l (by decide) (by decide)) | (exact CMul.r (by decide) (by decide)))
local macro_rules | `(tactic| walk_at "sd")=>`(tactic| first | omega | (simp only[Mn,Mv,Qu,L8,dB] <;> omega))
local macro_rules | `(tactic| walk_at "g1")=>`(tactic| first
 | (with_reducible first | refine NH ?_ | refine i_ifs ?_ | refine i_asg ?_ | refine i_op ?_) | ((with_reducible refine' O5 ?k1 ?_);(case k1=>exact rfl)) | (with_reducible first | refine i_c ?_ | refine i_ret ?_ | refine i_next ?_ | refine O1 ?_ | refine MZ ?_ | refine i_gsub ?_ | refine i_test ?_ | refine i_bl ?_ | refine i_fI0 ?_ | refine i_addI ?_) | ((with_reducible refine' i_fI ?k1 ?_);(case k1=>walk_at "sc")) | ((with_reducible refine' i_mulI ?k1 ?_);(case k1=>walk_at "mu")) | ((with_reducible refine' N5 ?k1 ?k2 ?_);(case k1=>walk_at "sq");(case k2=>walk_at "at")) | (with_reducible first | refine P4 ?_ | refine O6 ?_ | refine i_cb ?_ | refine i_call ?_ | refine i_and ?_ | refine i_or ?_ | refine i_not ?_ | refine i_andV ?_ | refine i_orV ?_ | refine i_notV ?_ | refine i_ifE ?_ | refine i_chain ?_ | refine i_un ?_ | refine i_neg ?_ | refine i_sl ?_ | refine cZ ?_ | refine i_part ?_ | refine i_exI ?_) | ((with_reducible refine' i_eq ?k1 ?_);(case k1=>exact rfl)) | ((with_reducible refine' i_ne ?k1 ?_);(case k1=>exact rfl)) | (with_reducible first | refine i_is ?_ | refine i_isnot ?_ | refine i_inS ?_) | ((with_reducible refine' i_lenC ?k1 ?_);(case k1=>walk_at "sd")) | ((with_reducible refine' Wl ?k1 ?_);(case k1=>walk_at "sc")) | ((with_reducible refine' i_lenR ?k1 ?_);(case k1=>walk_at "sq")) | (with_reducible first | refine i_1I ?_ | refine i_2I ?_ | refine i_intB ?_ | refine i_intI ?_) | ((with_reducible refine' QM ?k1 ?_);(case k1=>walk_at "sd")) | ((with_reducible refine' Oy ?k1 ?_);(case k1=>walk_at "sd")) | ((with_reducible refine' S_ ?k1 ?_);(case k1=>walk_at "sc")) | ((with_reducible refine' i_slS ?k1 ?_);(case k1=>walk_at "sc")) | (with_reducible first | refine i_truB ?_ | refine i_truI ?_ | refine i_SS ?_ | refine i_SSI ?_) | ((with_reducible refine' Rk ?k1 ?k2 ?_);(case k1=>first | assumption | exact LX);(case k2=>walk_at "sc")) | (with_reducible first | refine i_rng1 ?_ | refine i_rng2 ?_) | ((with_reducible refine' i_r1 ?k1 ?_);(case k1=>omega)) | (with_reducible first | refine i_comp ?_ | refine i_true ?_ | refine i_data ?_ | refine i_bm ?_ | refine i_bm0 ?_ | refine i_tyS ?_) | ((with_reducible refine' i_tyL ?k1 ?_);(case k1=>walk_at "sl")) | (with_reducible first | refine i_for ?_ | refine i_any ?_ | refine i_anyS ?_) | ((with_reducible refine' O7 ?k1 ?_);(case k1=>walk_at "sl")) | ((with_reducible refine' Wk ?k1 ?_);(case k1=>walk_at "st")) | (with_reducible first | refine i_enumS ?_ | refine i_enum ?_ | refine i_enS ?_) | ((with_reducible refine' i_lenK ?k1 ?_);(case k1=>assumption)) | ((with_reducible refine' i_ixK ?k1 ?k2 ?_);(case k1=>assumption);(case k2=>walk_at "at")) | (with_reducible first | refine i_lst ?_ | refine i_tup ?_ | refine i_retN ?_) | ((with_reducible refine' O9 ?k1 ?_);(case k1=>first | exact rfl | decide)) | ((with_reducible refine' N6 ?k1 ?_);(case k1=>first | exact rfl | decide)) | ((with_reducible refine' Nc ?k1 ?_);(case k1=>intro z;cases z)) | ((with_reducible refine' Nb ?k1 ?_);(case k1=>exact rfl)) | ((with_reducible refine' i_sz ?k1 ?_);(case k1=>exact szc rfl)) | ((with_reducible refine' Rn ?k1 ?k2 ?_);(case k1=>first | exact rfl | (exact Wm (by assumption)) | (exact Wo (by assumption)));(case k2=>exact rfl)) | ((with_reducible refine' i_r2 ?k1 ?_);(case k1=>omega)) | ((with_reducible show Ends.nx _ _ _);dsimp only) | ((with_reducible show Ends.rt _ _ _);dsimp only) | ((with_reducible refine' S' ?k1 ?k2 ?_);(case k1=>first | assumption | exact LX);(case k2=>first | exact rfl | (exact Wp (by omega) (by omega)))))
local macro_rules | `(tactic| ext)=>`(tactic| repeat (walk_at "g1"))
local macro_rules | `(tactic| walk_at "s0")=>`(tactic| ((repeat rw[st_c]);(repeat rw[st_n]);rw[st_0]))
local macro_rules | `(tactic| walk_at "l0")=>`(tactic| (intro _ _ _ _ h;(repeat (first | (cases h.1;rfl) | rcases h with ⟨_,h⟩))))
seal L2.PSs L2.PS L2.PE L2.PT L2.PA L2.PI L2.PG L2.PTs L2.PGs L2.PO L2.PW
noncomputable def top (i:Nat):Av:=PySem.Challenge.pw_breakwords_k81_rows_refused.main.body.getD i (.Pass ⟨0,0,0,0⟩)
structure Txt (mg:Str->Option Ad)(tk:Nat->Tok):Prop where
 z_len:mg "len"=none
 z_abs:mg "abs"=none
 z_all:mg "all"=none
 z_any:mg "any"=none
 z_range:mg "range"=none
 z_enumerate:mg "enumerate"=none
 z_isinstance:mg "isinstance"=none
 z_tuple:mg "tuple"=none
 z_list:mg "list"=none
 z_dict:mg "dict"=none
 z_bool:mg "bool"=none
 z_str:mg "str"=none
 z_int:mg "int"=none
 z_min:mg "min"=none
 z_max:mg "max"=none
 z_zip:mg "zip"=none
 z_ord:mg "ord"=none
 z_sorted:mg "sorted"=none
 z_ValueError:mg "ValueError"=none
 m_LETTERS:mg "LETTERS"=some (.str "abcdefghijklmnopqrstuvwxyz" (tk 0))
 m_MOST_LETTERS:mg "MOST_LETTERS"=some (.int 8 (tk 1))
 m_FIGURES:mg "FIGURES"=some (.str "123456789" (tk 2))
 m_MOST_SIGNS:mg "MOST_SIGNS"=some (.int 22 (tk 3))
 m_PERCENT_SIGN:mg "PERCENT_SIGN"=some (.int 37 (tk 4))
structure Cs (K:L3)(mg:Str->Option Ad)(ad:Nat->Ac):Prop where
 m_WordError:mg "WordError"=some (.ref (ad 0))
 b_WordError:ExcBase K (ad 0)
 w_WordError:ExcW K (ad 0)
 m_NoWord:mg "NoWord"=some (.ref (ad 1))
 x_NoWord:Exc K (ad 0) (ad 1)
 n_NoWord:NoAttr K (ad 1) "place"
 m_NoPattern:mg "NoPattern"=some (.ref (ad 2))
 x_NoPattern:Exc K (ad 0) (ad 2)
 n_NoPattern:NoAttr K (ad 2) "place"
 m_NoThing:mg "NoThing"=some (.ref (ad 3))
 x_NoThing:Exc K (ad 0) (ad 3)
 n_NoThing:NoAttr K (ad 3) "place"
 m_TooNarrow:mg "TooNarrow"=some (.ref (ad 4))
 x_TooNarrow:Exc K (ad 0) (ad 4)
 n_TooNarrow:NoAttr K (ad 4) "place"
 m_Twice:mg "Twice"=some (.ref (ad 5))
 x_Twice:Exc K (ad 0) (ad 5)
 n_Twice:NoAttr K (ad 5) "word"
 m_NoTongue:mg "NoTongue"=some (.ref (ad 6))
 x_NoTongue:Exc K (ad 0) (ad 6)
 n_NoTongue:NoAttr K (ad 6) "name"
 m_NoRow:mg "NoRow"=some (.ref (ad 7))
 x_NoRow:Exc K (ad 0) (ad 7)
 i_NoRow:Mw K (.ref (ad 7)) "__init__"=some (some (.builtin xIni))
 nd:([ad 0,ad 1,ad 2,ad 3,ad 4,ad 5,ad 6,ad 7]:List Ac).Nodup
noncomputable abbrev s_NoWord_init:Av:=Ot (top 3) 0
variable {P:Ak}{w:Am}{K:L3}{mg:Str->Option Ad}{base:Ap}{f cO cO2 mkT cD cO3:Ac}{fd:Ay}{ad:Nat->Ac}{tk:Nat->Tok}
theorem fK (Z:Cs K mg ad)(F:Fun K "__init__" "NoWord.__init__" s_NoWord_init f fd):FnOk P w K mg base CX0 1 f fd ["self","place"] (Pm okTx (ad 1) "place"):=by
 refine F.okk ["self","place"] ?_
 rintro _ _ _ _ H _ _ _ hr ⟨e,y,fr,rfl,hX,hy,q⟩ nd
 refine⟨_,(LZ (Na (Xp Z.b_WordError rfl Z.m_WordError (LS (pv 0) (pa1 (Pl (OI LU (OI (RB (pv 1)) Pk)))))))
  (LY (Qe (pv 0) (pv 1) rfl))),?_⟩
 walk_at "s0"
 refine NH (O1 (Qg (P4 (O5 rfl (P4 (i_fs2 (by decide) hy rfl fun z=>O6 ⟨e,ad 1,none,fr,_,rfl,hX,Z.x_NoWord,?_⟩))))))
 exact⟨y,rfl,.ref e,rfl,e,ad 1,ad 0,fr,rfl,hX,Z.x_NoWord,Z.n_NoWord,fun d hd ED=>q d hd ED⟩
noncomputable abbrev s_NoPattern_init:Av:=Ot (top 4) 0
theorem fL (Z:Cs K mg ad)(F:Fun K "__init__" "NoPattern.__init__" s_NoPattern_init f fd):FnOk P w K mg base CX0 1 f fd ["self","place"] (Pm okTx (ad 2) "place"):=by
 refine F.okk ["self","place"] ?_
 rintro _ _ _ _ H _ _ _ hr ⟨e,y,fr,rfl,hX,hy,q⟩ nd
 refine⟨_,(LZ (Na (Xp Z.b_WordError rfl Z.m_WordError (LS (pv 0) (pa1 (Pl (OI LU (OI (RB (pv 1)) Pk)))))))
  (LY (Qe (pv 0) (pv 1) rfl))),?_⟩
 walk_at "s0"
 refine NH (O1 (Qg (P4 (O5 rfl (P4 (i_fs2 (by decide) hy rfl fun z=>O6 ⟨e,ad 2,none,fr,_,rfl,hX,Z.x_NoPattern,?_⟩))))))
 exact⟨y,rfl,.ref e,rfl,e,ad 2,ad 0,fr,rfl,hX,Z.x_NoPattern,Z.n_NoPattern,fun d hd ED=>q d hd ED⟩
noncomputable abbrev s_NoThing_init:Av:=Ot (top 7) 0
theorem fM (Z:Cs K mg ad)(F:Fun K "__init__" "NoThing.__init__" s_NoThing_init f fd):FnOk P w K mg base CX0 1 f fd ["self","place"] (Pm okTx (ad 3) "place"):=by
 refine F.okk ["self","place"] ?_
 rintro _ _ _ _ H _ _ _ hr ⟨e,y,fr,rfl,hX,hy,q⟩ nd
 refine⟨_,(LZ (Na (Xp Z.b_WordError rfl Z.m_WordError (LS (pv 0) (pa1 (Pl (OI LU (OI (RB (pv 1)) (OI LU Pk))))))))
  (LY (Qe (pv 0) (pv 1) rfl))),?_⟩
 walk_at "s0"
 refine NH (O1 (Qg (P4 (O5 rfl (P4 (i_fs3 (by decide) (by decide) hy rfl fun z=>O6 ⟨e,ad 3,none,fr,_,rfl,hX,Z.x_NoThing,?_⟩))))))
 exact⟨y,rfl,.ref e,rfl,e,ad 3,ad 0,fr,rfl,hX,Z.x_NoThing,Z.n_NoThing,fun d hd ED=>q d hd ED⟩
noncomputable abbrev s_TooNarrow_init:Av:=Ot (top 8) 0
theorem fN (Z:Cs K mg ad)(F:Fun K "__init__" "TooNarrow.__init__" s_TooNarrow_init f fd):FnOk P w K mg base CX0 1 f fd ["self","place"] (Pm okTx (ad 4) "place"):=by
 refine F.okk ["self","place"] ?_
 rintro _ _ _ _ H _ _ _ hr ⟨e,y,fr,rfl,hX,hy,q⟩ nd
 refine⟨_,(LZ (Na (Xp Z.b_WordError rfl Z.m_WordError (LS (pv 0) (pa1 (Pl (OI LU (OI (RB (pv 1)) (OI LU Pk))))))))
  (LY (Qe (pv 0) (pv 1) rfl))),?_⟩
 walk_at "s0"
 refine NH (O1 (Qg (P4 (O5 rfl (P4 (i_fs3 (by decide) (by decide) hy rfl fun z=>O6 ⟨e,ad 4,none,fr,_,rfl,hX,Z.x_TooNarrow,?_⟩))))))
 exact⟨y,rfl,.ref e,rfl,e,ad 4,ad 0,fr,rfl,hX,Z.x_TooNarrow,Z.n_TooNarrow,fun d hd ED=>q d hd ED⟩
noncomputable abbrev s_NoTongue_init:Av:=Ot (top 6) 0
theorem fO (Z:Cs K mg ad)(F:Fun K "__init__" "NoTongue.__init__" s_NoTongue_init f fd):FnOk P w K mg base CX0 1 f fd ["self","name"] (Pm okTs (ad 6) "name"):=by
 refine F.okk ["self","name"] ?_
 rintro _ _ _ _ H _ _ _ hr ⟨e,y,fr,rfl,hX,hy,q⟩ nd
 refine⟨_,(LZ (Na (Xp Z.b_WordError rfl Z.m_WordError (LS (pv 0) (pa1 (Pl (OI LU (OI (pe_fr (pv 1)) Pk)))))))
  (LY (Qe (pv 0) (pv 1) rfl))),?_⟩
 walk_at "s0"
 refine NH (O1 (Qg (P4 (O5 rfl (P4 (Xt (by decide) hy rfl fun z=>O6 ⟨e,ad 6,none,fr,_,rfl,hX,Z.x_NoTongue,?_⟩))))))
 exact⟨y,rfl,.ref e,rfl,e,ad 6,ad 0,fr,rfl,hX,Z.x_NoTongue,Z.n_NoTongue,fun d hd ED=>q d hd ED⟩
noncomputable abbrev s_law_feed:Av:=top 77
noncomputable abbrev s_law_next:Av:=top 78
noncomputable abbrev s_law_alike:Av:=top 79
theorem fP (T:Txt mg tk)(F:Fun K "_law_feed" "_law_feed" s_law_feed f fd):FnOk P w K mg base CX0 1 f fd ["_law_script","_law_k"] (Wy K):=by
 refine F.okk ["_law_script","_law_k","_law_cell","_law_left"] ?_
 rintro _ _ _ _ H _ Q _ hr ⟨a,ns,k,rfl,hl,hk0,HM,q⟩ nd
 refine⟨_,(LZ (pst 2 nd LV)
  (LZ (Ma (Mb o_gt (pcb (MU (K:=K)) T.z_len (pa1 (pv 0))) LV (L9 _))
   (LY (pst 2 nd (pix K (pv 0) (L7 NG (pv 1) (pcb (MU (K:=K)) T.z_len (pa1 (pv 0)))))))
   Mh)
  (LZ (pst 3 nd (pcb c_abs T.z_abs (pa1 (pv 2))))
  (LZ (Ma (Mb o_lt (pv 3) (L7 o_pow LV LV) (L9 _))
   (LY (pst 3 nd LV))
   Mh)
  (LY (L6 (Mp (LS (pv 3) (LS (L7 NG (L7 Md (L7 Md (pv 2) (L7 Ou LV (pv 1))) LV) LV) (pa1 LV)))))))))),?_⟩
 walk_at "s0"
 have fin:∀(cell left:Int),0<=left->∀ p,H p=none->Q (.ref p) (upd H p (.lst [.int left,.int ((cell+7919 * k+13) % 2147483399),.int 0])):=fun cell left h0 p hp =>
  q p _ hp ⟨left,_,0,LX,h0,Vh _ (by decide),ZK _ (by decide),ZL 0,ZL 0⟩ ((Off.refl p H).upd _)
 have Cd:(ns.map V.int).length=ns.length:=L8 _
 ext
 refine iteD (fun c=>?_) (fun c=>?_)
 ·rw[Cd] at c
  ext
  have IP:(k % (ns.length:Int)).toNat < ns.length:=by
   have h1:=ZK k c
   have h2:=Vh k (show (ns.length:Int)≠0 by omega)
   omega
  refine i_ixK (v:=.int ns[(k % (ns.length:Int)).toNat]) hl ?_ ?_
  ·rw[Cd]
   exact QL (Vh k (by omega)) (by rw[MC,Mm IP];rfl)
  ext
  refine iteD (fun c=>?_) (fun c=>?_)
  ·ext
   exact(fun p hp=>fin _ 0 (ZL 0) p hp)
  ·ext
   refine(fun p hp=>fin _ _ ?_ p hp)
   split <;> omega
 ·ext
  exact fun p hp=>fin 0 0 (ZL 0) p hp
theorem fQ (F:Fun K "_law_next" "_law_next" s_law_next f fd):FnOk P w K mg base CX0 1 f fd ["_law_feed_here","_law_many"] Rs:=by
 refine F.okk ["_law_feed_here","_law_many","_law_digit","_law_mixed"] ?_
 rintro _ _ _ _ H _ _ _ hr ⟨p,m,n,rfl,⟨a,b,c,h1,ha,Fp,J0,DI,G7⟩,hn,J1,G8,q⟩ nd
 refine⟨_,(LZ (Ma (Mb o_gt (pix K (pv 0) LV) LV (L9 _))
   (LZ (pst 2 nd (L7 NG (pix K (pv 0) LV) (pv 1)))
  (LZ (OV (L7 V9 (pix K (pv 0) LV) (pv 1)) (OU (pv 0) LV OZ))
  (LY (L6 (pv 2)))))
   Mh)
  (LZ (OV (L7 Md (pix K (pv 0) LV) LV) (OU (pv 0) LV OZ))
  (LZ (pst 3 nd (L7 NG (L7 Ou (L7 NG (L7 Md (L7 Md (pix K (pv 0) LV) (L7 Ou LV (pix K (pv 0) LV))) LV) LV) LV) LV))
  (LZ (pst 3 nd (L7 NG (L7 Ou (L7 NG (L7 Md (L7 Ou (pv 3) LV) (L7 Ou (pix K (pv 0) LV) (pix K (pv 0) LV))) LV) LV) LV))
  (LY (L6 (L7 NG (L7 V9 (pv 3) LV) (pv 1)))))))),?_⟩
 walk_at "s0"
 unfold Rr at hn
 ext
 refine iteD (fun c0=>?_) (fun c0=>?_)
 ·ext
  exact q _ _ (Vh _ (by omega)) (ZK _ J1) ⟨a / m,b,c,LX,Int.ediv_nonneg ha (by omega),Fp,J0,DI,by omega⟩ ((Off.refl p H).upd _)
 ·ext
  exact q _ _ (Vh _ (by omega)) (ZK _ J1) ⟨a,b,c+1,LX,ha,Fp,J0,by omega,by omega⟩ ((Off.refl p H).upd _)
theorem XH (T:Txt mg tk)(F:Fun K "_law_alike" "_law_alike" s_law_alike f fd)(bF:Binds K fd ["_law_found","_law_due_here"] [])(mF:mg "_law_alike"=some (.ref f)) :
  ∀ n,FnOk P w K mg base CX0 n f fd ["_law_found","_law_due_here"] (P6 n)
 | 0=>by
  have no:∀ vs H Q E,¬ P6 0 vs H Q E:=fun vs H Q E h=>by
   obtain⟨u,v,d,_,_,_,h0,_⟩:=h
   omega
  exact⟨fun vs H Q E h=>absurd h (no vs H Q E),fun A outer s H args us vs Q E _ _ _ _ h=>absurd h (no vs H Q E)⟩
 | n+1=>by
  have CJ:Dn P w K mg base "_law_alike" n ["_law_found","_law_due_here"] (P6 n):=⟨f,fd,mF,F.kp,bF,XH T F bF mF n⟩
  refine F.okk ["_law_found","_law_due_here"] ?_
  rintro _ _ _ _ H _ _ _ hr ⟨u,v,d,rfl,hu,hv,hd,hw,q⟩ nd
  refine⟨_,(LZ (Ma (MY (pcb Ov T.z_isinstance (LS (pv 1) (pa1 (Sa (LS (pty "tuple" T.z_tuple) (pa1 (pty "list" T.z_list))))))) (fun _=>rfl))
   (LZ (Ma (PW.pt (Pu (Mb (o_ne hr.units) (pcb Ov T.z_isinstance (LS (pv 1) (pa1 (pty "tuple" T.z_tuple)))) (pcb Ov T.z_isinstance (LS (pv 0) (pa1 (pty "tuple" T.z_tuple)))) (L9 _)) (QD (Mb (o_ne hr.units) (pcb Ov T.z_isinstance (LS (pv 1) (pa1 (pty "list" T.z_list)))) (pcb Ov T.z_isinstance (LS (pv 0) (pa1 (pty "list" T.z_list)))) (L9 _)))))
   (LY (L6 Nx))
   Mh)
  (LZ (Ma (Mb (o_ne hr.units) (pcb (MU (K:=K)) T.z_len (pa1 (pv 0))) (pcb (MU (K:=K)) T.z_len (pa1 (pv 1))) (L9 _))
   (LY (L6 Nx))
   Mh)
  (LY (L6 (pcb (S5 rfl) T.z_all (pa1 (Px ["_law_found","_law_due_here","_law_k"] [some 0,some 1,none] rfl (by kernel_rfl) rfl (Vo rfl T.z_range (pa1 (pcb (MU (K:=K)) T.z_len (pa1 (pv 1))))) (fun _ _ _ _=>(NZ (i:=2) (show (["_law_found","_law_due_here","_law_k"]:List Str).Nodup by decide +kernel) rfl (Or.inl rfl) (Or.inr rfl))) (fun _ _ _ _=>Q4) (fun _ _ _ _=>(Mc CJ hr.L5 rfl (LS (pix K (pv 0) (pv 2)) (pa1 (pix K (pv 1) (pv 2)))))))))))))
   Mh)
  (LZ (Ma (PW.pt (Pu (Mb o_is (pv 1) Ny (L9 _)) (QD (Mb o_is (pv 0) Ny (L9 _)))))
   (LY (L6 (ND (MT o_is (pv 1) Ny (L9 _)) (NC (MT o_is (pv 0) Ny (L9 _))))))
   Mh)
  (LZ (Ma (PW.pt (Pu (MY (pcb Ov T.z_isinstance (LS (pv 1) (pa1 (pty "bool" T.z_bool)))) (fun _=>rfl)) (QD (MY (pcb Ov T.z_isinstance (LS (pv 0) (pa1 (pty "bool" T.z_bool)))) (fun _=>rfl)))))
   (LY (L6 (ND (pcb Ov T.z_isinstance (LS (pv 1) (pa1 (pty "bool" T.z_bool)))) (ND (pcb Ov T.z_isinstance (LS (pv 0) (pa1 (pty "bool" T.z_bool)))) (NC (MT (o_eq hr.units) (pv 0) (pv 1) (L9 _)))))))
   Mh)
  (LZ (Ma (MY (pcb Ov T.z_isinstance (LS (pv 1) (pa1 (pty "str" T.z_str)))) (fun _=>rfl))
   (LY (L6 (ND (pcb Ov T.z_isinstance (LS (pv 0) (pa1 (pty "str" T.z_str)))) (NC (MT (o_eq hr.units) (pv 0) (pv 1) (L9 _))))))
   Mh)
  (LY (L6 (ND (pcb Ov T.z_isinstance (LS (pv 0) (pa1 (pty "int" T.z_int)))) (NC (MT (o_eq hr.units) (pv 0) (pv 1) (L9 _)))))))))),?_⟩
  walk_at "s0"
  ext
  intro p hp
  ext
  have s1:Same H (upd H p (.tup [.ty "tuple",.ty "list"])):=L_ hp _
  have G9:=Is.same s1 hu
  have G_:=Is.same s1 hv
  cases d with
  | non =>
   simp only[Is] at hu hv
   subst hu hv
   refine O8 (t:="NoneType") (T:="tuple") (T':="list") rfl LX ⟨rfl,rfl⟩ ?_
   ext
   exact q _ s1
  | bl b =>
   simp only[Is] at hu hv
   subst hu hv
   refine O8 (t:="bool") (T:="tuple") (T':="list") rfl LX ⟨rfl,rfl⟩ ?_
   ext
   rw[B7 rfl]
   exact q _ s1
  | int i =>
   simp only[Is] at hu hv
   subst hu hv
   refine O8 (t:="int") (T:="tuple") (T':="list") rfl LX ⟨rfl,rfl⟩ ?_
   ext
   rw[B7 rfl]
   exact q _ s1
  | str x =>
   simp only[Is] at hu hv
   subst hu hv
   refine O8 (t:="str") (T:="tuple") (T':="list") rfl LX ⟨rfl,rfl⟩ ?_
   ext
   rw[B7 rfl]
   exact q _ s1
  | tup ds =>
   simp only[Is] at G9 G_
   obtain⟨a,xs,rfl,ha,Dr⟩:=G9
   obtain⟨b,ys,rfl,hb,DF⟩:=G_
   have l1:=Dr.length
   have l2:=DF.length
   simp only[wid,dep] at hw hd
   refine O8 (t:="tuple") (T:="tuple") (T':="list") (Wm hb) LX ⟨rfl,rfl⟩ ?_
   ext
   refine N6 (by rw[l1,l2,B7 rfl];rfl) ?_
   have Gc:(ys.length:Int)<=100000:=by omega
   ext
   intro r Cc
   have s2:Same (upd H p (.tup [.ty "tuple",.ty "list"])) (upd (upd H p (.tup [.ty "tuple",.ty "list"])) r (.lst [])):=L_ Cc _
   refine ZP (fun i Ca σ H'=>∃ v,σ=[some (.ref a),some (.ref b),v]/\Ca=(MD i true).map V.bl/\Same (upd H p (.tup [.ty "tuple",.ty "list"])) H'/\H' r=some (.lst Ca))
    ⟨none,rfl,rfl,s2,LX⟩ (fun i Ca σ H' ⟨_,_,e,_,e2⟩=>⟨e2,by rw[e];simp⟩) (szn (by omega)) ?_ ?_
   ·rintro i Ca σ H' hi ⟨v,rfl,rfl,s3,e3⟩
    have hi':i < ds.length:=by omega
    obtain⟨x,d,hx,DR,hI⟩:=IsL.get (IsL.same s3 Dr) hi'
    obtain⟨y,d',hy,CI,hJ⟩:=IsL.get (IsL.same s3 DF) hi'
    rw[DR] at CI
    cases CI
    have IQ:=s3 _ _ ha
    have IR:=s3 _ _ hb
    ext
    refine N5 (UP IQ) (QL (by omega) (by simpa using hx)) ?_
    ext
    refine N5 (UP IR) (QL (by omega) (by simpa using hy)) ?_
    ext
    have KO:=V6 DR
    have KP:=V5 DR
    refine⟨x,y,d,rfl,hI,hJ,by omega,by omega,fun H4 s4=>⟨s4 _ _ e3,?_⟩⟩
    refine⟨_,rfl,?_,fun c o e=>?_,LX⟩
    ·rw[ac,Mr];rfl
    ·have Gd:c≠r:=fun z=>by rw[z,Cc] at e;cases e
     rw[L4 Gd]
     exact s4 _ _ (s3 _ _ e)
   ·rintro Ca σ H' ⟨v,rfl,rfl,s3,e3⟩
    ext
    refine Rm (QH e3) ?_
    ext
    have e:(MD (0+(ys.length:Int) - 0).toNat true).all id=true:=by simp
    simp only[List.all_replicate]
    have e5:∀ k:Nat,(if k=0 then true else id true)=true:=fun k=>by split <;> rfl
    rw[e5]
    exact q _ fun c o k=>s3 _ _ (s1 _ _ k)
  | lst ds =>
   simp only[Is] at G9 G_
   obtain⟨a,xs,rfl,ha,Dr⟩:=G9
   obtain⟨b,ys,rfl,hb,DF⟩:=G_
   have l1:=Dr.length
   have l2:=DF.length
   simp only[wid,dep] at hw hd
   refine O8 (t:="list") (T:="tuple") (T':="list") (Wo hb) LX ⟨rfl,rfl⟩ ?_
   ext
   refine N6 (by rw[l1,l2,B7 rfl];rfl) ?_
   have Gc:(ys.length:Int)<=100000:=by omega
   ext
   intro r Cc
   have s2:Same (upd H p (.tup [.ty "tuple",.ty "list"])) (upd (upd H p (.tup [.ty "tuple",.ty "list"])) r (.lst [])):=L_ Cc _
   refine ZP (fun i Ca σ H'=>∃ v,σ=[some (.ref a),some (.ref b),v]/\Ca=(MD i true).map V.bl/\Same (upd H p (.tup [.ty "tuple",.ty "list"])) H'/\H' r=some (.lst Ca))
    ⟨none,rfl,rfl,s2,LX⟩ (fun i Ca σ H' ⟨_,_,e,_,e2⟩=>⟨e2,by rw[e];simp⟩) (szn (by omega)) ?_ ?_
   ·rintro i Ca σ H' hi ⟨v,rfl,rfl,s3,e3⟩
    have hi':i < ds.length:=by omega
    obtain⟨x,d,hx,DR,hI⟩:=IsL.get (IsL.same s3 Dr) hi'
    obtain⟨y,d',hy,CI,hJ⟩:=IsL.get (IsL.same s3 DF) hi'
    rw[DR] at CI
    cases CI
    have IQ:=s3 _ _ ha
    have IR:=s3 _ _ hb
    ext
    refine N5 (M9 IQ) (QL (by omega) (by simpa using hx)) ?_
    ext
    refine N5 (M9 IR) (QL (by omega) (by simpa using hy)) ?_
    ext
    have KO:=V6 DR
    have KP:=V5 DR
    refine⟨x,y,d,rfl,hI,hJ,by omega,by omega,fun H4 s4=>⟨s4 _ _ e3,?_⟩⟩
    refine⟨_,rfl,?_,fun c o e=>?_,LX⟩
    ·rw[ac,Mr];rfl
    ·have Gd:c≠r:=fun z=>by rw[z,Cc] at e;cases e
     rw[L4 Gd]
     exact s4 _ _ (s3 _ _ e)
   ·rintro Ca σ H' ⟨v,rfl,rfl,s3,e3⟩
    ext
    refine Rm (QH e3) ?_
    ext
    have e:(MD (0+(ys.length:Int) - 0).toNat true).all id=true:=by simp
    simp only[List.all_replicate]
    have e5:∀ k:Nat,(if k=0 then true else id true)=true:=fun k=>by split <;> rfl
    rw[e5]
    exact q _ fun c o k=>s3 _ _ (s1 _ _ k)
noncomputable abbrev s_fitting_places:Av:=top 11
noncomputable abbrev s_values_by_fits:Av:=top 12
noncomputable abbrev s_values:Av:=top 13
def spFit:Sp:=fun vs H Q _=>∃(p f:List Nat),vs=[.str (S p),.str (S f)]/\p.length<=1000/\f.length<=1000/\∀(r:Ac) (H':Hp),H r=none->H' r=some (.lst ((Nk p f).map fun k:Nat=>V.int (k:Int)))->Same H H'->Q (.ref r) H'
def XI:Sp:=fun vs H Q _=>∃(v:V) (xs:List Pat) (w:List Nat),vs=[v,.str (S w)]/\Is H v (P8 xs)/\(∀ x∈xs,1<=x.1.length/\x.1.length<=1000/\x.2.length<=x.1.length+1)/\xs.length<=9000/\1<=w.length/\w.length<=100 /\
 ∀(r:Ac) (H':Hp),H r=none->H' r=some (.lst ((vals xs w).map V.int))->Same H H'->Q (.ref r) H'
theorem fR {p f:List Nat}{b:Nat}(h:b∈Nk p f):b+p.length<=f.length:=by
 unfold Nk at h
 have:=(U6.mp h).2
 unfold fits at this
 simp only[MQ,decide_eq_true_eq] at this
 exact this.1
theorem fS (w:List Nat):[46]++w++[46]=frame w:=by simp[frame]
theorem fT (t:List Int)(p:Nat)(v:Int)(h:p < t.length):(t.map V.int).set p (.int (if v > t[p] then v else t[p]))=(put t p v).map V.int:=by
 unfold put mx
 rw[List.map_set]
 have:t.getD p 0=t[p]:=by simp[Mq,h]
 rw[this]
def XJ:Sp:=fun vs H Q _=>∃(v:V) (xs:List Fit) (w:List Nat),vs=[v,.str (S w)]/\Is H v (Ry xs)/\(∀ x∈xs,x.1+x.2.length<=w.length+3)/\w.length<=100 /\
 ∀(r:Ac) (H':Hp),H r=none->H' r=some (.lst ((cutA (layF (MD (w.length+3) 0) xs) (some 2) (some (-2))).map V.int))->Same H H'->Q (.ref r) H'
theorem jy (T:Txt mg tk)(F:Fun K "fitting_places" "fitting_places" s_fitting_places f fd):FnOk P w K mg base CX0 1 f fd ["signs","framed"] spFit:=by
 refine F.okk ["signs","framed"] ?_
 rintro _ _ _ _ H _ _ _ hr ⟨p,fr,rfl,hp,hf,q⟩ nd
 refine⟨_,(LY (L6 (Px ["framed","signs","place"] [some 1,some 0,none] rfl (by kernel_rfl) rfl (Vo rfl T.z_range (pa1 (pcb (MU (K:=K)) T.z_len (pa1 (pv 1))))) (fun _ _ _ _=>(NZ (i:=2) (show (["framed","signs","place"]:List Str).Nodup by decide +kernel) rfl (Or.inl rfl) (Or.inr rfl))) (fun _ _ _ _=>(Q5 (MY (MO (K:=K) NX aB aC cQ (pv 0) (LS (pv 1) (pa1 (pv 2)))) (fun _=>rfl)))) (fun _ _ _ _=>(pv 2))))),?_⟩
 walk_at "s0"
 ext
 intro r Cc
 refine ZP (fun i Ca σ H'=>∃ v,σ=[some (.str (S fr)),some (.str (S p)),v]/\Ca=(((Nj i).filter (fits p fr)).map fun k:Nat=>V.int (k:Int))/\Same H H'/\H' r=some (.lst Ca))
  ⟨none,rfl,rfl,L_ Cc _,LX⟩ (fun i Ca σ H' ⟨_,_,e,_,e2⟩=>⟨e2,by rw[e,L8];exact MR (Uy _ _) (by simp)⟩) (szn (by omega)) ?_ ?_
 ·rintro i Ca σ H' hi ⟨v,rfl,rfl,s1,e1⟩
  ext
  rw[Int.zero_add,dv]
  refine iteB (fun c=>?_) (fun c=>?_)
  ·ext
   refine⟨e1,_,rfl,?_,fun b o e=>?_,LX⟩
   ·rw[UE,R8,Mr,U5,c,B9 rfl];rfl
   ·have hb:b≠r:=fun z=>by rw[z,Cc] at e;cases e
    rw[L4 hb];exact s1 b o e
  ·refine⟨_,rfl,?_,s1,?_⟩
   ·rw[UE,R8,Mr,U5,c,B8 Mi];simp
   ·exact e1
 ·rintro Ca σ H' ⟨v,rfl,rfl,s1,e1⟩
  refine q r H' Cc ?_ s1
  rw[e1]
  show _=some (HO.lst (((Nj fr.length).filter (fits p fr)).map _))
  simp
theorem fU (T:Txt mg tk)(F:Fun K "values_by_fits" "values_by_fits" s_values_by_fits f fd):FnOk P w K mg base CX0 1 f fd ["fits","word"] XJ:=by
 refine F.okk ["fits","word","told","begin","numbers","place","number"] ?_
 rintro _ _ _ _ H _ _ _ hr ⟨v,xs,w',rfl,hv,Dr,DV,q⟩ nd
 obtain⟨a,ys,rfl,ha,DF⟩:=isFits hv
 refine⟨_,(LZ (pst 2 nd (L7 Ou (Mp (pa1 LV)) (L7 Md (pcb (MU (K:=K)) T.z_len (pa1 (pv 1))) LV)))
  (LZ (NE OQ rfl (NS (K:=K) (pv 0)) (Pw rfl (M8 (pnm 3 nd) (M8 (pnm 4 nd) OT)))
   (LY (NE OQ rfl (Wj rfl T.z_enumerate (pv 4) (pv 3)) (Pw rfl (M8 (pnm 5 nd) (M8 (pnm 6 nd) OT)))
   (LY (OV (pcb (c_max rfl) T.z_max (LS (pix K (pv 2) (pv 5)) (pa1 (pv 6)))) (OU (pv 2) (pv 5) OZ))))))
  (LY (L6 (MM (MN (K:=K)) (pv 2) (MF LV) (MF (QE QI LV))))))),?_⟩
 walk_at "s0"
 ext
 intro b0 Fp
 ext
 refine i_mulZ LX (by omega) fun t FI=>?_
 have IS:(MD (((w'.length:Nat):Int)+3).toNat (V.int 0))=(MD (w'.length+3) (0:Int)).map V.int:=by
  rw[List.map_replicate];congr 1
 rw[IS]
 have s0:Same H (upd (upd H b0 (.lst [.int 0])) t (.lst ((MD (w'.length+3) (0:Int)).map V.int))):=(L_ Fp _).trans (L_ FI _)
 have KQ:H t=none:=(L_ Fp _).free FI
 have KR:=s0 _ _ ha
 ext
 refine Q1 (K:=K) (xs:=ys) (fun i σ H'=>∃(v3 v4 v5 v6:Option V),σ=[some (.ref a),some (.str (S w')),some (.ref t),v3,v4,v5,v6]/\H' t=some (.lst ((layF (MD (w'.length+3) 0) (xs.take i)).map V.int))/\Same H H')
  ⟨none,none,none,none,rfl,LX,s0⟩ (fun i σ H' _ ⟨_,_,_,_,_,_,s1⟩=>SqL.of (s1 _ _ ha)) ?_ ?_
 ·rintro i x σ H1 hx ⟨v3,v4,v5,v6,rfl,e1,s1⟩
  have Ec:i < xs.length:=by
   have h1:=(MS.mp hx).1
   have h2:=DF.length
   rw[L8] at h2;omega
  obtain⟨x',d,E8,Fd,FJ⟩:=IsL.get DF (i:=i) (by rw[L8];exact Ec)
  rw[hx] at E8
  cases E8
  rw[MC,Mm Ec] at Fd
  cases Fd
  obtain⟨pa,nt,rfl,HN,FK⟩:=isFit FJ
  have hg:=Dr _ (Qt Ec)
  have Ej:=s1 _ _ HN
  have Ek:=s1 _ _ FK
  have EL:=WK (xs.take i) (MD (w'.length+3) 0)
  rw[Z9] at EL
  rw[dL Ec]
  generalize layF (MD (w'.length+3) 0) (xs.take i)=T1 at e1 EL ⊢
  generalize xs[i]=xi at hg Ej Ek FK ⊢
  obtain⟨b,ns⟩:=xi
  refine S9 Ej rfl (M_ (MZ (M_ (MZ (O4 ?_)))))
  have hg:b+ns.length<=w'.length+3:=hg
  have Ek:H1 nt=some (.tup (ns.map V.int)):=Ek
  have FK:H nt=some (.tup (ns.map V.int)):=FK
  ext
  refine⟨b,rfl,by omega,i_enST Ek ?_⟩
  refine Sb (b:=b) (xs:=ns.map V.int) (fun k σ H'=>∃(v5 v6:Option V),σ=[some (.ref a),some (.str (S w')),some (.ref t),some (.int (b:Int)),some (.ref nt),v5,v6]/\H' t=some (.lst ((laid T1 b (ns.take k)).map V.int))/\Same H H')
   ⟨_,_,rfl,e1,s1⟩ (fun k σ H' _ ⟨_,_,_,_,s4⟩=>s4 _ _ FK) ?_ ?_
  ·rintro k z σ H4 T4 hz ⟨v5,v6,rfl,e4,s4⟩ Fq
   have Ed:k < ns.length:=by
    have:=(MS.mp hz).1
    simpa using this
   rw[MC,Mm Ed] at hz
   cases hz
   have KS:t≠T4:=Mj e4 Fq
   have KU:=ZR (ns.take k) T1 b
   have IT:ns.take (k+1)=ns.take k++[ns[k]]:=by rw[Od,Mm Ed];rfl
   have J2:=WG b ns[k] (ns.take k) T1 b
   rw[<- IT,MI,Nat.min_eq_left (ON Ed)] at J2
   rw[J2]
   generalize laid T1 b (ns.take k)=T2 at e4 KU ⊢
   have e5:(upd H4 T4 (PrX T4 [.int ((b:Int)+(k:Int)),.int ns[k]])) t=some (.lst (T2.map V.int)):=by rw[L4 KS];exact e4
   have HP:b+k < T2.length:=by omega
   refine QJ LX rfl (M_ (MZ (M_ (MZ (O4 ?_)))))
   ext
   refine N5 (v:=.int T2[b+k]) (M9 e5) (QL (by omega) (by rw[show ((b:Int)+(k:Int)).toNat=b+k by omega,MC,Mm HP];rfl)) ?_
   ext
   refine S' (j:=b+k) e5 (by rw[L8];rw[Wp (by omega) (by omega)];rfl) ?_
   rw[fT T2 (b+k) ns[k] HP]
   ext
   refine⟨_,_,rfl,LX,fun c o e=>?_⟩
   have JM:c≠t:=fun z=>by rw[z,KQ] at e;cases e
   rw[L4 JM]
   exact(L_ Fq _) c o (s4 c o e)
  ·rintro σ H4 ⟨v5,v6,rfl,e4,s4⟩
   rw[L8,NO] at e4
   ext
   exact⟨_,_,_,_,rfl,e4,s4⟩
 ·rintro σ H1 ⟨v3,v4,v5,v6,rfl,e1,s1⟩
  have h2:=DF.length
  rw[L8] at h2
  rw[h2,NO] at e1
  ext
  refine Py (SqL.of e1) fun r GB=>?_
  rw[Ru,Rw]
  ext
  exact q r _ (s1.free GB) LX (s1.trans (L_ GB _))
theorem fV (T:Txt mg tk)(F:Fun K "values" "values" s_values f fd)(CC:Dn P w K mg base "fitting_places" 1 ["signs","framed"] spFit)(CF:Dn P w K mg base "values_by_fits" 1 ["fits","word"] XJ):FnOk P w K mg base CX0 2 f fd ["patterns","word"] XI:=by
 refine F.okk ["patterns","word","framed","fits","pattern"] ?_
 rintro _ _ _ _ H _ _ _ hr ⟨v,xs,w',rfl,hv,Dr,FL,DW,DV,q⟩ nd
 obtain⟨a,ys,rfl,ha,DF⟩:=isPats hv
 refine⟨_,(LZ (pst 2 nd (L7 Md (L7 Md LU (pv 1)) LU))
  (LZ (pst 3 nd (Mp pa_nil))
  (LZ (NE OQ rfl (NS (K:=K) (pv 0)) (NZ (i:=4) nd rfl (Or.inr rfl))
   (LY (Na (MO (K:=K) Og PySem.F.slot_list_extend PySem.F.type_list_extend dG (pv 3) (pa1 (Px ["pattern","begin"] [some 4,none] rfl (by kernel_rfl) rfl (NS (K:=K) (Mc CC hr.L5 rfl (LS (pix K (pv 4) LV) (pa1 (pv 2))))) (fun _ _ _ _=>(NZ (i:=1) (show (["pattern","begin"]:List Str).Nodup by decide +kernel) rfl (Or.inl rfl) (Or.inr rfl))) (fun _ _ _ _=>Q4) (fun _ _ _ _=>(Sa (LS (pv 1) (pa1 (pix K (pv 0) LV)))))))))))
  (LY (L6 (Mc CF hr.L5 rfl (LS (pv 3) (pa1 (pv 1))))))))),?_⟩
 walk_at "s0"
 rw[Td]
 have Ee:=dB w'
 ext
 rw[fS]
 intro r Cc
 have ra:(upd H r (.lst [])) a=some (.lst ys):=(L_ Cc _) _ _ ha
 ext
 refine Q1 (K:=K) (xs:=ys) (fun i σ H'=>∃(v4:Option V) (zs:List V),σ=[some (.ref a),some (.str (S w')),some (.str (S (frame w'))),some (.ref r),v4]/\H' r=some (.lst zs)/\IsL H' zs ((Pz (frame w') (xs.take i)).map fitD)/\Same H H')
  ⟨none,[],rfl,LX,(by simp[Pz,L2.IsL]),L_ Cc _⟩ (fun i σ H' _ ⟨_,_,_,_,_,s1⟩=>SqL.of (s1 _ _ ha)) ?_ ?_
 ·rintro i x σ H1 hx ⟨v4,zs,rfl,e1,Ga,s1⟩
  have Ec:i < xs.length:=by
   have h1:=(MS.mp hx).1
   have h2:=DF.length
   rw[L8] at h2;omega
  obtain⟨x',d,E8,Fd,FJ⟩:=IsL.get DF (i:=i) (by rw[L8];exact Ec)
  rw[hx] at E8
  cases E8
  rw[MC,Mm Ec] at Fd
  cases Fd
  obtain⟨pa,nt,rfl,HN,FK⟩:=P9 FJ
  obtain⟨Fs,J3,KW⟩:=Dr _ (Qt Ec)
  have Ej:=s1 _ _ HN
  have Ek:=s1 _ _ FK
  have KM:zs.length<=9000 * 102:=by
   have h1:=Ga.length
   rw[L8] at h1
   have h2:=WO (frame w') (xs.take i)
   have h3:(xs.take i).length<=9000:=by rw[MI];omega
   have h4:(xs.take i).length * (frame w').length<=9000 * 102:=Nat.mul_le_mul h3 (by omega)
   omega
  rw[dM Ec]
  generalize xs[i]=xi at HN FK Ej Ek Fs J3 KW ⊢
  ext
  refine⟨xi.1,frame w',rfl,J3,by omega,fun p H2 ES e2 s2=>?_⟩
  have Ge:=s2 _ _ Ej
  have Cz:=WN xi.1 (frame w')
  ext
  intro c DI
  have rc:r≠c:=Mj (s2 _ _ e1) DI
  refine We (K:=K) (xs:=(Nk xi.1 (frame w')).map fun k:Nat=>V.int (k:Int)) (fun j Ca σ H'=>∃ v,σ=[some (.ref pa),v]/\Ca.length=j/\H' c=some (.lst Ca)/\IsL H' Ca ((((Nk xi.1 (frame w')).take j).map fun b=>(b,xi.2)).map fitD)/\Same H2 H')
   (fun j Ca σ H' _ ⟨_,_,_,_,_,s3⟩=>SqL.of (s3 _ _ e2)) ⟨none,rfl,rfl,LX,(by simp[L2.IsL]),L_ DI _⟩ (fun j Ca σ H' ⟨_,_,e,e3,_⟩=>⟨e3,Zu e⟩) (szn (by rw[L8];omega)) ?_ ?_
  ·rintro j Ca σ H3 hj ⟨v,rfl,FG,e3,FH,s3⟩
   have hj':j < (Nk xi.1 (frame w')).length:=by simpa using hj
   have G':=s3 _ _ Ge
   have EF:((Nk xi.1 (frame w')).map fun k:Nat=>V.int (k:Int)).getD j .non=V.int ((Nk xi.1 (frame w'))[j]:Int):=by
    rw[Mq,MC,Mm hj'];rfl
   rw[EF]
   ext
   intro t FI
   have tc:c≠t:=Mj e3 FI
   have e4:(upd H3 t (.tup [.int ((Nk xi.1 (frame w'))[j]:Int),.ref nt])) c=some (.lst Ca):=by rw[L4 tc];exact e3
   have k4:Tk H3 (upd (upd H3 t (.tup [.int ((Nk xi.1 (frame w'))[j]:Int),.ref nt])) c (.lst (Ca++[.ref t]))):=(Tk.new FI _).trans (Tk.lst e4 _)
   refine⟨e4,_,rfl,by simp[FG],LX,?_,fun b o e=>?_⟩
   ·have D3:(Nk xi.1 (frame w')).take (j+1)=(Nk xi.1 (frame w')).take j++[(Nk xi.1 (frame w'))[j]]:=by rw[Od,Mm hj'];rfl
    rw[D3,Mr,Mr]
    refine IsL.snoc (IsL.tk k4 (dI _) FH) (dJ (x:=((Nk xi.1 (frame w'))[j],xi.2)) ?_ (k4 _ _ (s3 _ _ (s2 _ _ Ek))))
    rw[L4 tc.symm];exact LX
   ·have KY:b≠c:=fun z=>by rw[z,DI] at e;cases e
    rw[L4 KY];exact(L_ FI _) _ _ (s3 _ _ e)
  ·rintro Ca σ H3 ⟨v,rfl,FG,e3,FH,s3⟩
   rw[L8] at FG FH
   rw[NO] at FH
   have e3r:H3 r=some (.lst zs):=s3 _ _ (s2 _ _ e1)
   ext
   refine i_extL e3r e3 (szn (by omega)) ?_
   ext
   have k5:Tk H3 (upd H3 r (.lst (zs++Ca))):=Tk.lst e3r _
   refine⟨_,zs++Ca,rfl,LX,?_,fun b o e=>?_⟩
   ·rw[Mr]
    exact IsL.append (IsL.tk k5 (dI _) (IsL.same (s2.trans s3) Ga)) (IsL.tk k5 (dI _) FH)
   ·have ET:b≠r:=fun z=>by rw[z,Cc] at e;cases e
    rw[L4 ET];exact s3 _ _ (s2 _ _ (s1 _ _ e))
 ·rintro σ H1 ⟨v4,zs,rfl,e1,Ga,s1⟩
  have h2:=DF.length
  rw[L8] at h2
  rw[h2,NO] at Ga
  ext
  refine⟨.ref r,Pz (frame w') xs,w',rfl,?_,fun y hy=>?_,DV,fun r2 H2 El e2 s2=>?_⟩
  ·simp only[Is,Ry];exact⟨r,zs,rfl,e1,Ga⟩
  ·obtain⟨x,hx,hp,he⟩:=dP hy
   have h3:=fR hp
   have h4:=(Dr x hx).2.2
   rw[he];omega
  ·rw[WM,show w'.length+3=(frame w').length+1 by omega,dF xs w' DW] at e2
   exact q r2 H2 (s1.free El) e2 (s1.trans s2)
theorem XM (hK:X.K=K) (hc:X.calm=true) (h:PGs X es t) (hn:(A5 es X.env).length=n:=by rfl) (C5:(A5 es X.env).findIdx? (·.1)=none:=by rfl):PG X (.Tuple es k pos) (gTup K n t):=hK▸Pw hc h hn C5
noncomputable abbrev s_breaks:Av:=top 14
theorem fW (Pv:Nat->List V->St->Hp->Prop) (hok:∀ i Ca σ H,i<=xs.length->Pv i Ca σ H->ok H) (h0:Pv 0 [] σ0 H0) (hp:∀ i Ca σ H,Pv i Ca σ H->H p=some (.lst Ca)/\Ca.length<=i) (hz:xs.length<=Ae) (hs:∀ i v Ca σ H T,xs[i]?=some v->Pv i Ca σ H->H T=none->g (.ref T) σ (upd H T (PrX T [.int ((b:Int)+(i:Int)),v])) fun σ3 H3=>tc σ3 H3 fun bb H4 =>
   if bb=true then te σ3 H4 fun v H5=>H5 p=some (.lst Ca)/\Pv (i+1) (Ca++[v]) σ3 (upd H5 p (.lst (Ca++[v]))) else Pv (i+1) Ca σ3 H4) (hd:∀ Ca σ H,Pv xs.length Ca σ H->Q (.ref p) H):Q6 (Ien b xs ok) p g tc te Q σ0 H0:=by
 refine⟨fun i m Ca σ H=>m=xs.length - i/\i<=xs.length/\Pv i Ca σ H,⟨xs.length,by simp,ML _,h0⟩,fun i m Ca σ' H' w=>?_⟩
 obtain⟨rfl,hi,q⟩:=w
 obtain⟨q1,q2⟩:=hp i Ca σ' H' q
 have ho:=hok i Ca σ' H' hi q
 refine⟨q1,?_⟩
 by_cases C7:i < xs.length
 ·refine .inr ⟨⟨ho,C7⟩,by omega,Pv (i+1),fun a' σ3 H3 k=>⟨xs.length - (i+1),by omega,rfl,C7,k⟩,fun x H2 y=>?_⟩
  obtain⟨T,v,hT,hv,rfl,rfl⟩:=y
  exact hs i v Ca σ' H' T hv q hT
 ·have e:i=xs.length:=by omega
  subst e
  exact .inl ⟨⟨ho,rfl⟩,hd Ca σ' H' q⟩
noncomputable def Oa (vs:List Int)(j:Nat):Bool:=decide (vs.getD j 0 % 2=1)
noncomputable def brks (vs:List Int):List Int:=((Nj vs.length).filter (Oa vs)).map fun j:Nat=>(j:Int)+1
noncomputable def PF (vs:List Int)(i:Nat):List V:=((Nj i).filter (Oa vs)).map fun j:Nat=>V.int ((j:Int)+1)
theorem fX (vs:List Int):PF vs vs.length=(brks vs).map V.int:=by unfold PF brks;rw[Ng];rfl
theorem fY (h:Oa vs i=true):PF vs (i+1)=PF vs i++[V.int ((i:Int)+1)]:=by
 unfold PF;rw[UE,R8,Mr,U5,h,B9 rfl];rfl
theorem fZ (h:Oa vs i=false):PF vs (i+1)=PF vs i:=by
 unfold PF;rw[UE,R8,Mr,U5,h,B8 Mi];simp
theorem f_ (vs:List Int)(i:Nat):(PF vs i).length<=i:=by
 unfold PF;rw[L8];exact MR (Uy _ _) (by simp)
def XN:Sp:=fun vs H Q _=>∃(v:V) (xs:List Pat) (w:List Nat),vs=[v,.str (S w)]/\Is H v (P8 xs)/\(∀ x∈xs,1<=x.1.length/\x.1.length<=1000/\x.2.length<=x.1.length+1)/\xs.length<=9000/\1<=w.length/\w.length<=100 /\
 ∀(t:Ac) (H':Hp),H' t=some (.tup ((brks (vals xs w)).map V.int))->Same H H'->Q (.ref t) H'
theorem f' (T:Txt mg tk)(F:Fun K "breaks" "breaks" s_breaks f fd)(DJ:Dn P w K mg base "values" 2 ["patterns","word"] XI):FnOk P w K mg base CX0 3 f fd ["patterns","word"] XN:=by
 refine F.okk ["patterns","word"] ?_
 rintro _ _ _ _ H _ _ _ hr ⟨v,xs,w',rfl,hv,Dr,FL,DW,DV,q⟩ nd
 have hvl:=ZS xs w'
 refine⟨_,(LY (L6 (pct Rb T.z_tuple (pa1 (Px ["gap","value"] [none,none] rfl (by kernel_rfl) rfl (Wj rfl T.z_enumerate (Mc DJ hr.L5 rfl (LS (pv 0) (pa1 (pv 1)))) LV) (fun _ _ _ _=>(XM (K:=K) (n:=2) rfl rfl (M8 (NZ (i:=0) (show (["gap","value"]:List Str).Nodup by decide +kernel) rfl (Or.inl rfl) (Or.inr rfl)) (M8 (NZ (i:=1) (show (["gap","value"]:List Str).Nodup by decide +kernel) rfl (Or.inl rfl) (Or.inr rfl)) OT)))) (fun _ _ _ _=>(Q5 (Mb (o_eq hr.units) (L7 NG (pv 1) LV) LV (L9 _)))) (fun _ _ _ _=>(pv 0))))))),?_⟩
 walk_at "s0"
 ext
 refine⟨v,xs,w',rfl,hv,Dr,FL,DW,DV,fun a H1 KR e1 s1=>?_⟩
 ext
 refine⟨1,rfl,by decide,Ri e1 ?_⟩
 intro r Cc
 have ar:a≠r:=Mj e1 Cc
 refine fW (b:=1) (xs:=(vals xs w').map V.int) (fun i Ca σ H'=>∃ v1 v2,σ=[v1,v2]/\Ca=PF (vals xs w') i/\Same H1 H'/\H' r=some (.lst Ca))
  (fun i Ca σ H' _ ⟨_,_,_,_,s2,_⟩=>s2 _ _ e1) ⟨none,none,rfl,rfl,L_ Cc _,LX⟩ (fun i Ca σ H' ⟨_,_,_,e,_,e2⟩=>⟨e2,by rw[e];exact f_ _ _⟩) (szn (by rw[L8];omega)) ?_ ?_
 ·rintro i z Ca σ H2 T2 hz ⟨v1,v2,rfl,rfl,s2,e2⟩ hT
  have Ec:i < (vals xs w').length:=by
   have:=(MS.mp hz).1
   simpa using this
  rw[MC,Mm Ec] at hz
  cases hz
  have J4:Oa (vals xs w') i=decide ((vals xs w')[i] % 2=1):=by unfold Oa;simp[Mq,Ec]
  have rT:r≠T2:=Mj e2 hT
  have s3:=L_ hT (PrX T2 [.int (((1:Nat):Int)+(i:Int)),.int (vals xs w')[i]])
  have e3:(upd H2 T2 (PrX T2 [.int (((1:Nat):Int)+(i:Int)),.int (vals xs w')[i]])) r=some (.lst (PF (vals xs w') i)):=s3 _ _ e2
  refine QJ LX rfl (M_ (MZ (M_ (MZ (O4 ?_)))))
  ext
  refine iteD (fun c=>?_) (fun c=>?_)
  ·have c':(vals xs w')[i] % 2=1:=by injection c
   ext
   have hb:=fY (vs:=vals xs w') (i:=i) (by rw[J4];exact B7 c')
   have he:V.int (((1:Nat):Int)+(i:Int))=V.int ((i:Int)+1):=by congr 1;omega
   refine⟨e3,_,_,rfl,by rw[hb,he],fun b o e=>?_,LX⟩
   have ET:b≠r:=fun z=>by rw[z,Cc] at e;cases e
   rw[L4 ET];exact s3 _ _ (s2 b o e)
  ·have c':¬ (vals xs w')[i] % 2=1:=fun z=>c (by rw[z])
   have hb:=fZ (vs:=vals xs w') (i:=i) (by rw[J4];exact B6 c')
   exact⟨_,_,rfl,hb.symm,s2.trans s3,by rw[e3]⟩
 ·rintro Ca σ H2 ⟨v1,v2,rfl,rfl,s2,e2⟩
  rw[L8,fX] at e2
  ext
  refine Rj (M9 e2) fun t H3 ht k3=>?_
  ext
  exact q t H3 ht ((s1.trans s2).trans k3)
structure Ow (K:L3)(mg:Str->Option Ad)(cO:Ac):Prop where
 m_Breaker:mg "Breaker"=some (.ref cO)
 cl:Cls K cO
 n_told_gaps:NoAttr K cO "told_gaps"
 n_patterns:NoAttr K cO "patterns"
 n_head:NoAttr K cO "head"
 n_tail:NoAttr K cO "tail"
noncomputable abbrev s_Breaker_init:Av:=Ot (top 23) 0
noncomputable abbrev s_Breaker_gaps:Av:=Ot (top 23) 1
noncomputable abbrev s_Breaker_shown:Av:=Ot (top 23) 2
noncomputable abbrev s_gaps_by_word:Av:=top 22
theorem TV (h:tv σ H fun v H1=>td σ H1 fun x H2=>ty σ H2 fun y H3=>∃ a H4,x=.ref a/\DPut H3 a y v H4/\D.nx σ H4):sDPut td ty tv D σ H:=h
theorem i_dget (h:td σ H fun x H1=>ty σ H1 fun y H2=>∃ a v,x=.ref a/\DGet H2 a y (some v)/\Q v H2):Tl td ty σ H Q:=h
theorem XQ (h:∀ p,H p=none->Q (.ref p) (upd H p (.dK []))):WX σ H Q:=h
def spGbw:Sp:=fun vs H Q _=>∃(b:Ac) (ys:List V) (xs:List Pat),vs=[.ref b]/\H b=some (.lst ys)/\L2.IsL H ys (xs.map patD)/\(xs.map (·.1)).Nodup/\xs.length<=1000 /\
 ∀(a:Ac) (B':List (Key×V)) (H':Hp),H a=none->H' a=some (.dK B')->NT H' B' xs->Same H H'->Q (.ref a) H'
theorem gb {B':List (Key×V)}{k:Key}{v:V}(h:(B'.any fun kv=>decide (kv.1=k))=false):putK B' k v=B'++[(k,v)]:=by
 unfold putK
 rw[h];rfl
theorem gc (T:Txt mg tk)(F:Fun K "gaps_by_word" "gaps_by_word" s_gaps_by_word f fd):FnOk P w K mg base CX0 1 f fd ["told"] spGbw:=by
 refine F.okk ["told","known","word","gaps"] ?_
 rintro _ _ _ s H _ _ _ hr ⟨b,ys,xs,rfl,hb,DF,EU,FL,q⟩ nd
 have FM:ys.length=xs.length:=by have:=DF.length;simpa using this
 refine⟨_,(LZ (pst 1 nd WY)
  (LZ (NE OQ rfl (NS (K:=K) (pv 0)) (Pw rfl (M8 (pnm 2 nd) (M8 (pnm 3 nd) OT)))
   (LZ (Ma (PP (WU (QG hr) (pv 2) (pv 1)))
   (LY bj)
   Mh)
  (LY (To (QG hr) (pv 1) (pv 2) (pv 3) rfl))))
  (LY (L6 (pv 1))))),?_⟩
 walk_at "s0"
 ext
 refine XQ fun a ha=>?_
 have s1:=L_ ha (.dK [])
 ext
 refine O7 (SqL.of (s1 _ _ hb)) ?_
 refine Q1 (K:=K) (xs:=ys) (fun i σ H'=>∃(v2 v3:Option V) (B':List (Key×V)),σ=[some (.ref b),some (.ref a),v2,v3]/\H' a=some (.dK B')/\NT H' B' (xs.take i)/\B'.length=i/\Same H H')
  ⟨none,none,[],rfl,LX,trivial,rfl,s1⟩ (fun i σ H' _ ⟨_,_,_,_,_,_,_,s⟩=>SqL.of (s _ _ hb)) ?_ ?_
 ·rintro i y σ H2 hy ⟨v2,v3,B',rfl,e2,hN,Ed,s2⟩
  have hi:i < xs.length:=by
   have:=(MS.mp hy).1
   omega
  obtain⟨y',d,hy',DR,hI⟩:=IsL.get (IsL.same s2 DF) (show i < (xs.map patD).length by simpa using hi)
  rw[hy] at hy'
  cases hy'
  rw[MC,Mm hi] at DR
  cases DR
  obtain⟨a2,t2,rfl,ea2,et2⟩:=P9 hI
  have D6:((xs.take i).any fun g=>decide (g.1=xs[i].1))=false:=by
   rw[af]
   intro g hg hd
   have KZ:g.1=xs[i].1:=by simpa using hd
   obtain⟨j,hj⟩:=List.getElem?_of_mem hg
   rw[ae] at hj
   split at hj
   ·rename_i K0
    have HQ:j < xs.length:=by omega
    rw[Mm HQ] at hj
    cases hj
    have:=List.pairwise_iff_getElem.mp EU j i (by simpa using HQ) (by simpa using hi) K0
    apply this
    rw[Zn,Zn]
    exact KZ
   ·cases hj
  have EE:valV B' (Sum.inr (S xs[i].1))=none:=by
   rcases hN.val (z:=xs[i].1) with ⟨q1,q2⟩ | ⟨g,t,q1,J5,J6,q2,q3⟩
   ·exact q2
   ·rw[af] at D6
    exact absurd (by simpa using J6) (D6 g J5)
  refine S9 ea2 rfl (M_ (MZ (M_ (MZ (O4 ?_)))))
  ext
  refine i_tB (i_din ?_)
  ext
  refine⟨a,_,rfl,DGet.k (k:=Sum.inr (S xs[i].1)) e2,?_⟩
  rw[EE]
  ext
  refine TV ?_
  ext
  refine⟨a,_,rfl,DPut.k (k:=Sum.inr (S xs[i].1)) e2 (R_ (show B'.length<=1000 by omega) (by decide)),?_⟩
  have FN:putK B' (Sum.inr (S xs[i].1):Key) (V.ref t2)=B'++[(Sum.inr (S xs[i].1),.ref t2)]:=gb (by rw[hN.anyK];exact D6)
  refine⟨_,_,_,rfl,LX,?_,?_,fun c o e=>?_⟩
  ·rw[Od,Mm hi,FN]
   exact NT.tups (fun b' zs e=>by
    have hb':b'≠a:=fun z=>by rw[z,e2] at e;cases e
    rw[L4 hb'];exact e) (NT.append hN ⟨rfl,⟨t2,rfl,et2⟩,trivial⟩)
  ·rw[FN,Mn];simp[Ed]
  ·have hc:c≠a:=fun z=>by rw[z,ha] at e;cases e
   rw[L4 hc];exact s2 c o e
 ·rintro σ H2 ⟨v2,v3,B',rfl,e2,hN,Ed,s2⟩
  rw[FM,NO] at hN
  ext
  exact q a B' H2 ha e2 hN s2
noncomputable abbrev s_shown_broken:Av:=top 20
noncomputable def brD (w g:List Nat):Dt:=.tup [.str (S w),.tup (g.map fun k:Nat=>Dt.int (k:Int))]
def XR:Sp:=fun vs H Q _=>∃(v:V) (w g:List Nat),vs=[v]/\Is H v (brD w g)/\1<=w.length/\w.length<=1000/\Rise 0 w.length g/\∀ H',Same H H'->Q (.str (S (txt w g w.length))) H'
theorem XS (w:List Nat):∀(g:List Nat) (b:Nat),(NJ w b g).length=g.length+1/\∀ p∈NJ w b g,p.length<=w.length
 | [],b=>by simp[NJ]
 | x::g,b=>by
  have ih:=XS w g x
  refine⟨by simp[NJ,ih.1],fun p hp=>?_⟩
  simp only[NJ,Mo] at hp
  rcases hp with rfl | hp
  ·simp;omega
  ·exact ih.2 p hp
theorem XT {n:Nat}:∀(ls:List Nat),(∀ x∈ls,x<=n)->ls.sum<=ls.length * n
 | [],_=>by simp
 | x::ls,h=>by
  have ih:=XT ls fun y hy=>h y (MP _ hy)
  have:=h x MV
  simp only[Zo,Mv,ay]
  omega
theorem TW {n:Nat}:∀{b:Nat}{g:List Nat},Rise b n g->b<=n->g.length<=n - b
 | b,[],_,_=>by simp
 | b,x::g,r,h=>by
  have:=TW r.2.2 (ON r.2.1)
  have h1:=r.1
  have h2:=r.2.1
  simp;omega
theorem XU {H:Hp}:∀{g:List Nat}{xs:List V},L2.IsL H xs (g.map fun k:Nat=>Dt.int (k:Int))->xs=g.map fun k:Nat=>V.int (k:Int)
 | [],[],_=>rfl
 | [],_::_,h=>by simp only[Oe,L2.IsL] at h
 | _::_,[],h=>by simp only[Mu,L2.IsL] at h
 | k::g,x::xs,h=>by
  simp only[Mu,L2.IsL,Is] at h
  rw[h.1,XU h.2];rfl
theorem gd (T:Txt mg tk)(F:Fun K "shown_broken" "shown_broken" s_shown_broken f fd):FnOk P w K mg base CX0 1 f fd ["broken"] XR:=by
 refine F.okk ["broken","word","parts","begin","gap"] ?_
 rintro _ _ _ _ H _ _ _ hr ⟨v,w',g,rfl,hv,DW,DV,Et,q⟩ nd
 simp only[Is,brD] at hv
 obtain⟨a,xs,rfl,ha,Dr⟩:=hv
 obtain⟨x0,y,rfl⟩:∃ x y,xs=[x,y]:=by
  match xs,Dr with
  | [],h=>simp only[L2.IsL] at h
  | [_],h=>simp only[L2.IsL] at h;exact h.2.elim
  | [x,y],_=>exact⟨x,y,rfl⟩
  | _::_::_::_,h=>simp only[L2.IsL] at h;exact h.2.2.elim
 simp only[L2.IsL,Is] at Dr
 obtain⟨rfl,⟨t,ys,rfl,ht,DF⟩,_⟩:=Dr
 have:=XU DF
 subst this
 refine⟨_,(LZ (pst 1 nd (pix K (pv 0) LV))
  (LZ (pst 2 nd (Mp pa_nil))
  (LZ (pst 3 nd LV)
  (LZ (NE OQ rfl (NS (K:=K) (pix K (pv 0) LV)) (pnm 4 nd)
   (LZ (Na (MO (K:=K) Og OO OP OX (pv 2) (pa1 (MM (MN (K:=K)) (pv 1) (MF (pv 3)) (MF (pv 4))))))
  (LY (pst 3 nd (pv 4)))))
  (LZ (Na (MO (K:=K) Og OO OP OX (pv 2) (pa1 (MM (MN (K:=K)) (pv 1) (MF (pv 3)) MX))))
  (LY (L6 (MO (K:=K) NX Sz SA S4 LU (pa1 (pv 2)))))))))),?_⟩
 walk_at "s0"
 rw[P7]
 ext
 intro p hp
 ext
 have DK:(upd H p (.lst [])) a=some (.tup [.str (S w'),.ref t]):=by rw[L4 (Mj ha hp)];exact ha
 have Hd:(upd H p (.lst [])) t=some (.tup (g.map fun k:Nat=>V.int (k:Int))):=by rw[L4 (Mj ht hp)];exact ht
 refine N5 (UP DK) (atI_1 _ _ _) ?_
 ext
 refine bu (xs:=g.map fun k:Nat=>V.int (k:Int)) (fun i σ H2=>∃(b:Nat) (ps:List (List Nat)) (v4:Option V),σ=[some (.ref a),some (.str (S w')),some (.ref p),some (.int (b:Int)),v4]/\b<=w'.length/\Rise b w'.length (g.drop i)/\ps.length=i/\NJ w' 0 g=ps++NJ w' b (g.drop i)/\H2 p=some (.lst ((ps.map S).map V.str))/\Same H H2)
  ⟨0,[],none,rfl,ML _,Et,rfl,rfl,LX,L_ hp _⟩ (fun i σ H2 _ ⟨_,_,_,_,_,_,_,_,_,s2⟩=>SqT.of (s2 _ _ ht)) ?_ ?_
 ·rintro i x σ H2 hx ⟨b,ps,v4,rfl,hb,El,Cd,EA,h2,s2⟩
  have hi:i < g.length:=by
   have:=(MS.mp hx).1
   simpa using this
  rw[MC,Mm hi] at hx
  cases hx
  rw[QV hi] at El EA
  obtain⟨GC,hr4,HR⟩:=El
  have K1:=TW Et (ML _)
  have hsz:(S w').length<=Ae:=szn (by rw[Me];omega)
  ext
  rw[WA w' b g[i] (by omega) (by omega)]
  refine Rk h2 (szn (by simp;omega)) ?_
  ext
  refine⟨g[i],ps++[(w'.drop b).take (g[i] - b)],_,rfl,by omega,HR,by simp[Cd],?_,?_,fun c o e=>?_⟩
  ·rw[EA]
   simp only[NJ]
   rw[List.drop_take,Pq];rfl
  ·rw[LX,Mr,Mr];rfl
  ·have hc:c≠p:=fun z=>by rw[z,hp] at e;cases e
   rw[L4 hc];exact s2 c o e
 ·rintro σ H2 ⟨b,ps,v4,rfl,hb,El,Cd,EA,h2,s2⟩
  rw[L8] at Cd EA
  rw[Su] at EA
  have hsz:(S w').length<=Ae:=szn (by rw[Me];omega)
  have K1:=TW Et (ML _)
  ext
  rw[WB w' b hb]
  refine Rk h2 (szn (by simp;omega)) ?_
  ext
  have Cz:=XS w' g 0
  simp only[NJ] at EA
  refine Rl (ys:=(NJ w' 0 g).map S) (by rw[EA,Wq,Mr,Mr];rfl) ?_ ?_
  ·have h1:=XT (n:=w'.length) (((NJ w' 0 g).map S).map (·.length)) (fun x hx=>by
    rw[Ng] at hx
    obtain⟨y,hy,rfl⟩:=Nw.mp hx
    show (S y).length<=_
    rw[Me]
    exact Cz.2 y hy)
   rw[L8,L8,Cz.1] at h1
   rw[L8,Cz.1,Me,show ([45]:List Nat).length=1 from rfl]
   have h3:(g.length+1) * w'.length<=1001 * 1000:=Nat.mul_le_mul (by omega) DV
   omega
  ·rw[Wz,dg w' g Et]
   ext
   exact q _ (fun c o e=>by
    have hc:c≠p:=fun z=>by rw[z,hp] at e;cases e
    rw[L4 hc];exact s2 c o e)
theorem XV (Pv:Nat->List V->St->Hp->Prop) (hl:∀ i Ca σ H,i<=xs.length->Pv i Ca σ H->SqT K H a xs) (h0:Pv 0 [] σ0 H0) (hp:∀ i Ca σ H,Pv i Ca σ H->H p=some (.lst Ca)/\Ca.length<=i) (hz:xs.length<=Ae) (hs:∀ i Ca σ H,i < xs.length->Pv i Ca σ H->g (xs.getD i .non) σ H fun σ3 H3=>tc σ3 H3 fun b H4 =>
   if b=true then te σ3 H4 fun v H5=>H5 p=some (.lst Ca)/\Pv (i+1) (Ca++[v]) σ3 (upd H5 p (.lst (Ca++[v]))) else Pv (i+1) Ca σ3 H4) (hd:∀ Ca σ H,Pv xs.length Ca σ H->Q (.ref p) H):Q6 (Itt K a) p g tc te Q σ0 H0 :=
 Re (J:=Itt K a) (n:=xs.length) (val:=fun i=>xs.getD i .non) Pv
  (fun i Ca σ H hi q=>⟨xs,xs[i],(hl i Ca σ H (ON hi) q),by simp[hi]⟩) (fun Ca σ H q=>⟨xs,(hl _ Ca σ H (L' _) q),L' _⟩)
  (fun i Ca σ H x _ hi q y=>⟨y.1,by have:=y.2 xs (hl i Ca σ H (ON hi) q);rw[Mq,this];rfl⟩) h0 hp hz hs hd
theorem ge {X:Cx}{e:Ax}{f:Str}{ta:TE}{pos:Pos}{K:L3}(hK:X.K=K)(he:PE X e ta)(hb:AI e f X.env (As e X.env)=As e X.env):PE X (.Attribute e f pos) (tFld K ta f):=hK▸Np he hb
noncomputable def letG (hd tl:Int)(n:Nat)(g:Int):Bool:=decide (hd<=g)&&decide (g<=(n:Int) - tl)
noncomputable def RG (pats told:List Pat)(hd tl:Int)(w:List Nat):List Int:=match N9 told w with
 | some g=>g.2
 | none=>(brks (vals pats w)).filter (letG hd tl w.length)
def BrkAt (C:Ac)(H:Hp)(p kd ld:Ac)(pats told:List Pat)(hd tl:Int):Prop:=∃(dx:Ac) (ys:List V) (B':List (Key×V)),
 H p=some (.ins C dx [(("told_gaps":Str),.ref kd),(("patterns":Str),.ref ld),(("head":Str),.int hd),(("tail":Str),.int tl)])/\H kd=some (.dK B')/\NT H B' told/\H ld=some (.lst ys)/\L2.IsL H ys (pats.map patD)
theorem BrkAt.same (s:Same H H') (h:BrkAt C H p kd ld pats told hd tl):BrkAt C H' p kd ld pats told hd tl:=by
 obtain⟨dx,ys,B',h1,h2,h3,h4,h5⟩:=h
 exact⟨dx,ys,B',s _ _ h1,s _ _ h2,h3.same s,s _ _ h4,IsL.same s h5⟩
def RH (C:Ac):Sp:=fun vs H Q _=>∃(p a b dx:Ac) (ya yb:List V) (pats told:List Pat) (hd tl:Int),vs=[.ref p,.ref a,.ref b,.int hd,.int tl]/\H p=some (.ins C dx [])/\H a=some (.lst ya)/\H b=some (.lst yb)/\L2.IsL H ya (pats.map patD)/\L2.IsL H yb (told.map patD)/\(told.map (·.1)).Nodup/\told.length<=1000/\pats.length<=1000 /\
 ∀(kd ld:Ac) (H':Hp),H kd=none->H ld=none->BrkAt C H' p kd ld pats told hd tl->(∀ b o,b≠p->H b=some o->H' b=some o)->Q .non H'
def TX (C:Ac):Sp:=fun vs H Q _=>∃(p kd ld:Ac) (pats told:List Pat) (hd tl:Int) (w:List Nat),vs=[.ref p,.str (S w)]/\BrkAt C H p kd ld pats told hd tl/\(∀ x∈pats,1<=x.1.length/\x.1.length<=1000/\x.2.length<=x.1.length+1)/\pats.length<=1000/\1<=w.length/\w.length<=100 /\
 ∀(t:Ac) (H':Hp),H' t=some (.tup ((RG pats told hd tl w).map V.int))->Same H H'->Q (.ref t) H'
def XW (C:Ac):Sp:=fun vs H Q _=>∃(p kd ld:Ac) (pats told:List Pat) (hd tl:Int) (w g:List Nat),vs=[.ref p,.str (S w)]/\BrkAt C H p kd ld pats told hd tl/\(∀ x∈pats,1<=x.1.length/\x.1.length<=1000/\x.2.length<=x.1.length+1)/\pats.length<=1000/\1<=w.length/\w.length<=100 /\
 RG pats told hd tl w=g.map (fun k:Nat=>(k:Int))/\Rise 0 w.length g/\∀ H',Same H H'->Q (.str (S (txt w g w.length))) H'
theorem gf (T:Txt mg tk)(O:Ow K mg cO)(F:Fun K "__init__" "Breaker.__init__" s_Breaker_init f fd)(CV:Dn P w K mg base "gaps_by_word" 1 ["told"] spGbw):FnOk P w K mg base CX0 2 f fd ["self","patterns","told","head","tail"] (RH cO):=by
 refine F.okk ["self","patterns","told","head","tail"] ?_
 rintro _ _ _ _ H _ _ _ hr ⟨p,a,b,dx,ya,yb,pats,told,hd,tl,rfl,hp,ha,hb,HS,He,EU,Hd,ht2,q⟩ nd
 have F_:=HS.length
 rw[L8] at F_
 refine⟨_,(LZ (OW (pv 0) (Mc CV hr.L5 rfl (pa1 (pv 2))) rfl)
  (LZ (OW (pv 0) (pct c_list T.z_list (pa1 (pv 1))) rfl)
  (LZ (OW (pv 0) (pv 3) rfl)
  (LY (OW (pv 0) (pv 4) rfl))))),?_⟩
 walk_at "s0"
 refine NH (Ph ?_)
 ext
 refine⟨b,yb,told,rfl,hb,He,EU,Hd,fun kd B' H2 Fe ekd hN s2=>?_⟩
 have ES:=s2 _ _ hp
 ext
 refine Pi ES O.cl O.n_told_gaps (by decide) ?_
 have d2:=Dat.ins ES (.ins cO dx (putF ("told_gaps":Str) (.ref kd) []))
 have d02:=s2.dat.trans d2
 have e2:=LX (H:=H2) (a:=p) (o:=.ins cO dx (putF ("told_gaps":Str) (.ref kd) []))
 have o2:=Qd (p:=p) (x:=.ins cO dx (putF ("told_gaps":Str) (.ref kd) [])) (fun b o _ e=>s2 b o e)
 have ekd2:=d2.2.2 _ _ ekd
 have Hf:=hN.dat d2
 generalize upd H2 p (.ins cO dx (putF ("told_gaps":Str) (.ref kd) []))=H3 at d02 e2 o2 ekd2 Hf ⊢
 ext
 refine NH (Ph ?_)
 ext
 refine c_ (M9 (d02.1 _ _ ha)) fun ld EG=>?_
 have s4:=L_ EG (.lst ya)
 have eld:=LX (H:=H3) (a:=ld) (o:=.lst ya)
 generalize upd H3 ld (.lst ya)=H4 at s4 eld ⊢
 ext
 refine Pi (s4 _ _ e2) O.cl O.n_patterns (show 1 < 1000 by decide) ?_
 have d4:=Dat.ins (s4 _ _ e2) (.ins cO dx (putF ("patterns":Str) (.ref ld) (putF ("told_gaps":Str) (.ref kd) [])))
 have d04:=(d02.trans s4.dat).trans d4
 have e4:=LX (H:=H4) (a:=p) (o:=.ins cO dx (putF ("patterns":Str) (.ref ld) (putF ("told_gaps":Str) (.ref kd) [])))
 have o4:=Qd (p:=p) (x:=.ins cO dx (putF ("patterns":Str) (.ref ld) (putF ("told_gaps":Str) (.ref kd) []))) (off_new o2 s4)
 have ekd4:=d4.2.2 _ _ (s4 _ _ ekd2)
 have J7:=(Hf.same s4).dat d4
 have eld4:=d4.1 _ _ eld
 have IU:H ld=none:=by
  cases e:H ld with
  | none=>rfl
  | some o =>
   exfalso
   by_cases z:ld=p
   ·rw[z,e2] at EG;cases EG
   ·have:=o2 ld o z e;rw[EG] at this;cases this
 generalize upd H4 p (.ins cO dx (putF ("patterns":Str) (.ref ld) (putF ("told_gaps":Str) (.ref kd) [])))=H5 at d04 e4 o4 ekd4 J7 eld4 ⊢
 ext
 refine NH (Ph ?_)
 ext
 refine Pi e4 O.cl O.n_head (show 2 < 1000 by decide) ?_
 have d5:=Dat.ins e4 (.ins cO dx (putF ("head":Str) (.int hd) (putF ("patterns":Str) (.ref ld) (putF ("told_gaps":Str) (.ref kd) []))))
 have d05:=d04.trans d5
 have e5:=LX (H:=H5) (a:=p) (o:=.ins cO dx (putF ("head":Str) (.int hd) (putF ("patterns":Str) (.ref ld) (putF ("told_gaps":Str) (.ref kd) []))))
 have o5:=Qd (p:=p) (x:=.ins cO dx (putF ("head":Str) (.int hd) (putF ("patterns":Str) (.ref ld) (putF ("told_gaps":Str) (.ref kd) [])))) o4
 have ekd5:=d5.2.2 _ _ ekd4
 have J8:=J7.dat d5
 have eld5:=d5.1 _ _ eld4
 generalize upd H5 p (.ins cO dx (putF ("head":Str) (.int hd) (putF ("patterns":Str) (.ref ld) (putF ("told_gaps":Str) (.ref kd) []))))=H6 at d05 e5 o5 ekd5 J8 eld5 ⊢
 ext
 refine Ph ?_
 ext
 refine Pi e5 O.cl O.n_tail (show 3 < 1000 by decide) ?_
 have d6:=Dat.ins e5 (.ins cO dx (putF ("tail":Str) (.int tl) (putF ("head":Str) (.int hd) (putF ("patterns":Str) (.ref ld) (putF ("told_gaps":Str) (.ref kd) [])))))
 ext
 exact q kd ld _ Fe IU ⟨dx,ya,B',LX,d6.2.2 _ _ ekd5,J8.dat d6,d6.1 _ _ eld5,IsL.dat (d05.trans d6) HS⟩ (Qd o5)
theorem gg (T:Txt mg tk)(O:Ow K mg cO)(F:Fun K "gaps" "Breaker.gaps" s_Breaker_gaps f fd)(DL:Dn P w K mg base "breaks" 3 ["patterns","word"] XN):FnOk P w K mg base CX0 4 f fd ["self","word"] (TX cO):=by
 refine F.okk ["self","word","last"] ?_
 rintro _ _ _ _ H _ _ _ hr ⟨p,kd,ld,pats,told,hd,tl,w',rfl,hB,EA,Cz,DW,DV,q⟩ nd
 obtain⟨dx,ys,B',e1,e2,hN,e3,DF⟩:=id hB
 refine⟨_,(LZ (Ma (PP (WU (QG hr) (pv 1) (Np (pv 0) rfl)))
   (LY (L6 (Tn (QG hr) (Np (pv 0) rfl) (pv 1) (fun _ _=>rfl))))
   Mh)
  (LZ (Vl (i:=2) nd rfl (Or.inr rfl) (L7 Q_ (pcb (MU (K:=K)) T.z_len (pa1 (pv 1))) (Np (pv 0) rfl)))
  (LY (L6 (pct Rb T.z_tuple (pa1 (Px ["self","last","gap"] [some 0,some 2,none] rfl (by kernel_rfl) rfl (NS (K:=K) (Mc DL hr.L5 rfl (LS (Np (pv 0) rfl) (pa1 (pv 1))))) (fun _ _ _ _=>(NZ (i:=2) (show (["self","last","gap"]:List Str).Nodup by decide +kernel) rfl (Or.inl rfl) (Or.inr rfl))) (fun _ _ _ _=>(Q5 (Vu o_le o_le (ge (K:=K) rfl (pv 0) rfl) (pv 2) (pv 1)))) (fun _ _ _ _=>(pv 2))))))))),?_⟩
 walk_at "s0"
 have hsz:(S w').length<=Ae:=szn (by rw[Me];omega)
 ext
 refine i_tB (i_din ?_)
 ext
 refine Nr ?_
 ext
 refine Nt e1 O.cl O.n_told_gaps rfl ?_
 refine⟨kd,_,rfl,DGet.k (k:=Sum.inr (S w')) e2,?_⟩
 rcases hN.val (z:=w') with ⟨q1,q2⟩ | ⟨g,t,q1,J5,J6,q2,q3⟩
 ·rw[q2]
  ext
  refine Nr ?_
  ext
  refine Nt e1 O.cl O.n_tail rfl ?_
  ext
  refine Nr ?_
  ext
  refine Nt e1 O.cl O.n_patterns rfl ?_
  ext
  have J9:(brks (vals pats w')).length<=100:=by
   unfold brks
   rw[L8]
   refine MR (Uy _ _) ?_
   rw[ag,ZS];omega
  refine⟨.ref ld,pats,w',rfl,?_,EA,(by omega),DW,DV,fun t H1 et s1=>?_⟩
  ·simp only[Is,P8]
   exact⟨ld,ys,rfl,e3,DF⟩
  refine Wk (SqT.of et) ?_
  intro r Cc
  refine XV (K:=K) (a:=t) (xs:=(brks (vals pats w')).map V.int) (fun i Ca σ H'=>∃ v,σ=[some (.ref p),some (.int ((w'.length:Int) - tl)),v]/\Ca=(((brks (vals pats w')).take i).filter (letG hd tl w'.length)).map V.int/\Same H1 H'/\H' r=some (.lst Ca))
   (fun i Ca σ H' _ ⟨_,_,_,s2,_⟩=>SqT.of (s2 _ _ et)) ⟨none,rfl,rfl,L_ Cc _,LX⟩ (fun i Ca σ H' ⟨_,_,e,_,e2⟩=>⟨e2,by rw[e,L8];exact MR (Uy _ _) (by rw[MI];omega)⟩) (szn (by rw[L8];omega)) ?_ ?_
  ·rintro i Ca σ H2 hi ⟨v,rfl,rfl,s2,e2'⟩
   rw[L8] at hi
   have EF:((brks (vals pats w')).map V.int).getD i .non=V.int (brks (vals pats w'))[i]:=by simp[Mq,hi]
   rw[EF]
   have D3:(brks (vals pats w')).take (i+1)=(brks (vals pats w')).take i++[(brks (vals pats w'))[i]]:=by rw[Od,Mm hi];rfl
   have ep:=s2 _ _ (s1 _ _ e1)
   generalize (brks (vals pats w'))[i]=g at D3 ⊢
   ext
   refine Nr ?_
   ext
   refine Nt ep O.cl O.n_head rfl ?_
   ext
   have keep:∀ b' o,H1 b'=some o->b'≠r:=fun b' o e z=>by rw[z,Cc] at e;cases e
   have no:letG hd tl w'.length g=false->∃ v_1,[some (V.ref p),some (V.int ((w'.length:Int) - tl)),some (V.int g)]=[some (V.ref p),some (V.int ((w'.length:Int) - tl)),v_1]/\(((brks (vals pats w')).take i).filter (letG hd tl w'.length)).map V.int=(((brks (vals pats w')).take (i+1)).filter (letG hd tl w'.length)).map V.int/\Same H1 H2/\H2 r=some (.lst ((((brks (vals pats w')).take i).filter (letG hd tl w'.length)).map V.int)):=fun hl =>
    ⟨_,rfl,by rw[D3,R8];simp[hl],s2,e2'⟩
   by_cases c:hd<=g
   ·rw[B9 (B7 c)]
    ext
    by_cases c2:g<=(w'.length:Int) - tl
    ·rw[B9 (B7 c2)]
     ext
     have hl:letG hd tl w'.length g=true:=by unfold letG;rw[B7 c,B7 c2];rfl
     refine⟨e2',_,rfl,by rw[D3,R8,Mr];simp[hl],fun b' o e=>by rw[L4 (keep b' o e)];exact s2 b' o e,LX⟩
    ·rw[B8 (by rw[B6 c2];exact Mi)]
     exact no (by unfold letG;rw[B6 c2,Sv])
   ·rw[B8 (by rw[B6 c];exact Mi)]
    refine⟨false,rfl,?_⟩
    rw[B8 Mi]
    exact no (by unfold letG;rw[B6 c,QW])
  ·rintro Ca σ H2 ⟨v,rfl,rfl,s2,e2'⟩
   rw[L8,NO] at e2'
   ext
   refine Rj (M9 e2') fun t2 H3 ht k3=>?_
   ext
   refine q t2 H3 ?_ ((s1.trans s2).trans k3)
   unfold RG
   rw[q1]
   exact ht
 ·rw[q2]
  ext
  refine i_dget ?_
  ext
  refine Nr ?_
  ext
  refine Nt e1 O.cl O.n_told_gaps rfl ?_
  ext
  refine⟨kd,_,rfl,q2▸DGet.k (k:=Sum.inr (S w')) e2,?_⟩
  ext
  refine q t H ?_ (fun _ _ e=>e)
  unfold RG
  rw[q1]
  exact q3
theorem gh (T:Txt mg tk)(O:Ow K mg cO)(F:Fun K "shown" "Breaker.shown" s_Breaker_shown f fd)(CW:Dn P w K mg base "shown_broken" 1 ["broken"] XR)(Cp:Dm P w K mg base cO "gaps" 4 ["self","word"] (TX cO)):FnOk P w K mg base CX0 5 f fd ["self","word"] (XW cO):=by
 refine F.okk ["self","word"] ?_
 rintro _ _ _ _ H _ _ _ hr ⟨p,kd,ld,pats,told,hd,tl,w',g,rfl,hB,EA,Cz,DW,DV,hg,hR,q⟩ nd
 obtain⟨dx,ys,B',e1,_⟩:=id hB
 refine⟨_,(LY (L6 (Mc CW hr.L5 rfl (pa1 (Sa (LS (pv 1) (pa1 (Se (pv 0) O.cl Cp hr.L5 (pa1 (pv 1)))))))))),?_⟩
 walk_at "s0"
 ext
 refine Pf ?_
 ext
 refine Pg e1 rfl ?_
 ext
 refine⟨p,kd,ld,pats,told,hd,tl,w',rfl,hB,EA,Cz,DW,DV,fun t H1 et s1=>?_⟩
 ext
 intro r Cc
 ext
 have s2:=L_ Cc (.tup [.str (S w'),.ref t])
 refine⟨.ref r,w',g,rfl,?_,DW,by omega,hR,fun H' s3=>?_⟩
 ·simp only[Is,brD,L2.IsL]
  refine⟨r,_,rfl,LX,rfl,⟨t,_,rfl,s2 _ _ et,?_⟩,trivial⟩
  rw[hg,Ng]
  have:∀ g:List Nat,L2.IsL (upd H1 r (.tup [.str (S w'),.ref t])) (g.map (V.int∘fun k:Nat=>(k:Int))) (g.map fun k:Nat=>Dt.int (k:Int)):=by
   intro g
   induction g with
   | nil=>simp only[Oe,L2.IsL]
   | cons x g ih =>
    simp only[Mu,L2.IsL,Is]
    exact⟨rfl,ih⟩
  exact this g
 ·ext
  exact q H' ((s1.trans s2).trans s3)
theorem RI (l:List α) (j:Nat) (h:j<=l.length):cutA l none (some (j:Int))=l.take j:=by
 have:=WA l 0 j h (ML _)
 rw[U9,Zv] at this
 rw[<- this]
 simp[cutA,sx]
structure OkB (pats told:List Pat):Prop where
 ps:∀ x∈pats,1<=x.1.length/\x.1.length<=1000/\x.2.length<=x.1.length+1
 pl:pats.length<=100
 tl:told.length<=100
 nd:(told.map (·.1)).Nodup
 pc:∀ x∈pats,∀ c∈x.1,c < 128
 tc:∀ x∈told,∀ c∈x.1,c < 128
 tg:∀ x∈told,∃ g:List Nat,x.2=g.map (fun k:Nat=>(k:Int))/\Rise 0 x.1.length g
theorem gj {n:Nat}:∀{b b':Nat}{g:List Nat},Rise b' n g->b<=b'->Rise b n g
 | _,_,[],_,_=>trivial
 | _,_,x::g,r,h=>⟨R_ h r.1,r.2⟩
theorem gk (vs:List Int)(p:Int->Bool):(brks vs).filter p=((Nj vs.length).filter fun j=>Oa vs j&&p ((j:Int)+1)).map fun j:Nat=>(j:Int)+1:=by
 unfold brks
 rw[List.filter_map,List.filter_filter]
 congr 2
 funext j
 rw[Bool.and_comm];rfl
theorem TY (h:te σ H (N4 0 R)):W_ te σ H R:=h
theorem XX (o:OkB pats told) (hd tl:Int) {w:List Nat} (hw:1<=w.length):∃ g:List Nat,RG pats told hd tl w=g.map (fun k:Nat=>(k:Int))/\Rise 0 w.length g:=by
 unfold RG
 cases h:N9 told w with
 | some x =>
  have hm:=iW h
  have he:x.1=w:=by have:=List.find?_some h;simpa using this
  obtain⟨g,h1,h2⟩:=o.tg x hm
  exact⟨g,h1,he▸h2⟩
 | none =>
  refine⟨((Nj (vals pats w).length).filter fun j=>Oa (vals pats w) j&&letG hd tl w.length ((j:Int)+1)).map (·+1),?_,?_⟩
  ·rw[gk,Ng]
   apply UA
   intro j _
   simp
  ·rw[ZS]
   have key:∀(p:Nat->Bool) (m b:Nat),b<=w.length->Rise b w.length (((Of b m).filter p).map (·+1))∨w.length<=b+m:=by
    intro p m
    induction m with
    | zero=>intro b _;exact .inl trivial
    | succ m ih =>
     intro b hb
     by_cases c:w.length<=b+(m+1)
     ·exact .inr c
     ·left
      rw[ai,U5]
      have h1:=(ih (b+1) (by omega)).resolve_right (by omega)
      split
      ·exact⟨UG _,by show b+1 < _;omega,h1⟩
      ·exact gj h1 (Qw _)
   rw[i3]
   exact(key _ (w.length - 1) 0 (ML _)).resolve_right (by omega)
structure Ow2 (K:L3)(mg:Str->Option Ad)(cO:Ac):Prop where
 m_Tongues:mg "Tongues"=some (.ref cO)
 cl:Cls K cO
 n_breakers:NoAttr K cO "breakers"
noncomputable abbrev s_Tongues_init:Av:=Ot (top 51) 0
noncomputable abbrev s_Tongues_put:Av:=Ot (top 51) 1
noncomputable abbrev s_Tongues_breaker_of:Av:=Ot (top 51) 2
noncomputable abbrev s_with_patterns:Av:=top 24
theorem XY (h:td σ H fun x H1=>ty σ H1 fun y H2=>∃ a v,x=.ref a/\DGet H2 a y (some v)/\Q v H2):Tl td ty σ H Q:=h
theorem RJ (h:ty σ H fun y H1=>td σ H1 fun x H2=>∃ a o,x=.ref a/\DGet H2 a y o/\Q (.bl (!o.isSome)) H2):WT ty td σ H Q:=h
theorem TZ {H H':Hp}(tks:∀ b zs,H b=some (.tup zs)->H' b=some (.tup zs)):∀{xs:List Pat}{ys:List V},L2.IsL H ys (xs.map patD)->L2.IsL H' ys (xs.map patD)
 | [],[],_=>by simp only[Oe,L2.IsL]
 | [],_::_,h=>by simp only[Oe,L2.IsL] at h
 | _::_,[],h=>by simp only[Mu,L2.IsL] at h
 | x::xs,y::ys,h=>by
  simp only[Mu,L2.IsL] at h ⊢
  refine⟨?_,TZ tks h.2⟩
  obtain⟨a,t,rfl,h1,h2⟩:=P9 h.1
  exact Tf (tks a _ h1) (tks t _ h2)
theorem T0 {H H2:Hp}(s:Same H H2):∀{B':List (Key×V)}{told:List Pat}{Ts:List Ac},NT H B' told->Ts.length=B'.length->(∀(j:Nat) T,Ts[j]?=some T->∃ kv,B'[j]?=some kv/\H2 T=some (.tup [kV kv.1,kv.2]))->L2.IsL H2 (Ts.map V.ref) (told.map patD)
 | [],[],[],_,_,_=>by simp only[Oe,L2.IsL]
 | [],[],_::_,_,h,_=>by simp at h
 | [],_::_,_,h,_,_=>h.elim
 | _::_,[],_,h,_,_=>h.elim
 | kv::B',g::told,[],_,h,_=>by simp at h
 | kv::B',g::told,T::Ts,h,hl,hj=>by
  obtain⟨h1,⟨t,h2,h3⟩,h4⟩:=h
  obtain⟨kv',e1,e2⟩:=hj 0 T rfl
  have e1:kv=kv':=by simpa using e1
  subst e1
  rw[h1,h2] at e2
  simp only[Mu,L2.IsL]
  exact⟨Tf e2 (s _ _ h3),T0 s h4 (by simpa using hl) fun j T' e=>by simpa using hj (j+1) T' (by simpa using e)⟩
def spWP (C:Ac):Sp:=fun vs H Q _=>∃(bp bkd bld a:Ac) (ya:List V) (pats0 pats told:List Pat) (hd tl:Int),vs=[.ref bp,.ref a]/\BrkAt C H bp bkd bld pats0 told hd tl/\H a=some (.lst ya)/\L2.IsL H ya (pats.map patD)/\pats.length<=1000/\told.length<=1000/\(told.map (·.1)).Nodup /\
 ∀(p kd ld:Ac) (H':Hp),H p=none->H kd=none->H ld=none->BrkAt C H' p kd ld pats told hd tl->Same H H'->Q (.ref p) H'
def TgAt (CT:Ac)(H:Hp)(tp td:Ac)(B':List (Key×V)):Prop:=∃ dx,H tp=some (.ins CT dx [(("breakers":Str),.ref td)])/\H td=some (.dK B')
theorem TgAt.same (s:Same H H') (h:TgAt CT H tp td B'):TgAt CT H' tp td B':=by
 obtain⟨dx,h1,h2⟩:=h
 exact⟨dx,s _ _ h1,s _ _ h2⟩
def spTgI (CT:Ac):Sp:=fun vs H Q _=>∃(p dx:Ac),vs=[.ref p]/\H p=some (.ins CT dx [])/\∀(td:Ac) (H':Hp),H td=none->TgAt CT H' p td []->(∀ b o,b≠p->H b=some o->H' b=some o)->Q .non H'
def spPut (C CT:Ac):Sp:=fun vs H Q _=>∃(tp td bp bkd bld:Ac) (B':List (Key×V)) (nm:List Nat) (pats told:List Pat) (hd tl:Int),vs=[.ref tp,.str (S nm),.ref bp]/\TgAt CT H tp td B'/\BrkAt C H bp bkd bld pats told hd tl/\pats.length<=1000/\told.length<=1000/\(told.map (·.1)).Nodup/\B'.length<=1000 /\
 ∀(p kd ld:Ac) (H':Hp),H p=none->H kd=none->H ld=none->BrkAt C H' p kd ld pats told hd tl->H' td=some (.dK (putK B' (Sum.inr (S nm)) (.ref p)))->(∀ b o,b≠td->H b=some o->H' b=some o)->Q .non H'
theorem gl (T:Txt mg tk)(O:Ow K mg cO)(F:Fun K "with_patterns" "with_patterns" s_with_patterns f fd)(Cf:Dk P w K mg base cO 2 ["self","patterns","told","head","tail"] (RH cO)):FnOk P w K mg base CX0 4 f fd ["breaker","patterns"] (spWP cO):=by
 refine F.okk ["breaker","patterns"] ?_
 rintro _ _ _ _ H _ _ _ hr ⟨bp,bkd,bld,a,ya,pats0,pats,told,hd,tl,rfl,hB,ha,HS,Cz,Eu,EU,q⟩ nd
 obtain⟨dx0,ys0,B',e1,e2,hN,e3,Em⟩:=id hB
 refine⟨_,(LY (L6 (Tx Cf hr.L5 rfl O.m_Breaker (LS (pv 1) (LS (pct (Xe rfl) T.z_list (pa1 (S7 (K:=K) ja aE jb Xd (Np (pv 0) rfl)))) (LS (Np (pv 0) rfl) (pa1 (Np (pv 0) rfl)))))))),?_⟩
 walk_at "s0"
 ext
 refine Qb ?_
 ext
 refine Nr ?_
 ext
 refine Nt e1 O.cl O.n_told_gaps rfl ?_
 refine⟨Or.inr (Or.inr (Or.inl ⟨rfl,Or.inl ⟨_,e2⟩⟩)),Xf e2 fun v hv=>?_⟩
 have s1:=L_ hv (VW v bkd)
 have ev:=LX (H:=H) (a:=v) (o:=VW v bkd)
 generalize upd H v (VW v bkd)=H1 at s1 ev ⊢
 ext
 refine Xg ev (s1 _ _ e2) fun l Ts H2 hl el G2 GO s2=>?_
 have s02:=s1.trans s2
 have He:L2.IsL H2 (Ts.map V.ref) (told.map patD):=T0 s2 (hN.same s1) G2 GO
 ext
 refine Nr ?_
 ext
 refine Nt (s02 _ _ e1) O.cl O.n_head rfl ?_
 ext
 refine Nr ?_
 ext
 refine Nt (s02 _ _ e1) O.cl O.n_tail rfl ?_
 ext
 intro x dx hx Ft Cy
 have s3:Same H2 (upd (upd H2 dx (.own x)) x (.ins cO dx [])):=fun b o e=>by
  rw[L4 (Mj e hx),L4 (Mj e Ft)];exact e
 have e4:=LX (H:=upd H2 dx (.own x)) (a:=x) (o:=.ins cO dx [])
 generalize upd (upd H2 dx (.own x)) x (.ins cO dx [])=H3 at s3 e4 ⊢
 have s03:=s02.trans s3
 refine⟨x,a,l,dx,ya,Ts.map V.ref,pats,told,hd,tl,rfl,e4,s03 _ _ ha,s3 _ _ el,IsL.same s03 HS,IsL.same s3 He,EU,Eu,Cz,fun kd ld H5 Fe EG IV off=>⟨rfl,?_⟩⟩
 ext
 exact q x kd ld H5 (s02.free hx) (s03.free Fe) (s03.free EG) IV fun b o e=>off b o (Mj (s02 _ _ e) hx) (s03 _ _ e)
theorem gm (T:Txt mg tk)(O2:Ow2 K mg cO2)(F:Fun K "__init__" "Tongues.__init__" s_Tongues_init f fd):FnOk P w K mg base CX0 1 f fd ["self"] (spTgI cO2):=by
 refine F.okk ["self"] ?_
 rintro _ _ _ _ H _ _ _ hr ⟨p,dx,rfl,hp,q⟩ nd
 refine⟨_,(LY (OW (pv 0) WY rfl)),?_⟩
 walk_at "s0"
 refine Ph ?_
 refine XQ fun td DQ=>?_
 have s1:=L_ DQ (.dK [])
 have etd:=LX (H:=H) (a:=td) (o:=.dK [])
 generalize upd H td (.dK [])=H1 at s1 etd ⊢
 ext
 refine Pi (s1 _ _ hp) O2.cl O2.n_breakers (by decide) ?_
 ext
 have Cy:td≠p:=fun z=>by rw[z,hp] at DQ;cases DQ
 exact q td _ DQ ⟨dx,LX,by rw[L4 Cy];exact etd⟩ (Qd fun b o _ e=>s1 b o e)
theorem gn (T:Txt mg tk)(O:Ow K mg cO)(O2:Ow2 K mg cO2)(F:Fun K "put" "Tongues.put" s_Tongues_put f fd)(Cn:Dn P w K mg base "with_patterns" 4 ["breaker","patterns"] (spWP cO)):FnOk P w K mg base CX0 5 f fd ["self","name","breaker"] (spPut cO cO2):=by
 refine F.okk ["self","name","breaker"] ?_
 rintro _ _ _ _ H _ _ _ hr ⟨tp,td,bp,bkd,bld,B',nm,pats,told,hd,tl,rfl,hT,hB,Cz,Eu,EU,Ed,q⟩ nd
 obtain⟨dxt,t1,t2⟩:=id hT
 obtain⟨dx0,ys0,kvs0,e1,e2,hN,e3,Em⟩:=id hB
 refine⟨_,(LY (To (QG hr) (Np (pv 0) rfl) (pv 1) (Mc Cn hr.L5 rfl (LS (pv 2) (pa1 (Np (pv 2) rfl)))) rfl)),?_⟩
 walk_at "s0"
 refine TV ?_
 ext
 refine Nr ?_
 ext
 refine Nt e1 O.cl O.n_patterns rfl ?_
 ext
 refine⟨bp,bkd,bld,bld,ys0,pats,pats,told,hd,tl,rfl,hB,e3,Em,Cz,Eu,EU,fun p kd ld H1 hp Fe EG FO s1=>?_⟩
 ext
 refine Nr ?_
 ext
 refine Nt (s1 _ _ t1) O2.cl O2.n_breakers rfl ?_
 ext
 refine⟨td,_,rfl,DPut.k (k:=Sum.inr (S nm)) (s1 _ _ t2) (R_ Ed (by decide)),?_⟩
 ext
 have kne:kd≠td:=fun z=>by rw[z,t2] at Fe;cases Fe
 have pne:p≠td:=fun z=>by rw[z,t2] at hp;cases hp
 have lne:ld≠td:=fun z=>by rw[z,t2] at EG;cases EG
 have up:∀ b o,H1 b=some o->b≠td->(upd H1 td (.dK (putK B' (Sum.inr (S nm)) (.ref p)))) b=some o:=fun b o e hb=>by rw[L4 hb];exact e
 have tks:∀ b zs,H1 b=some (.tup zs)->(upd H1 td (.dK (putK B' (Sum.inr (S nm)) (.ref p)))) b=some (.tup zs):=fun b zs e=>up b _ e fun z=>by
  have:=s1 _ _ t2
  rw[z,this] at e;cases e
 obtain⟨dx1,ys1,kvs1,b1,b2,b3,b4,b5⟩:=FO
 exact q p kd ld _ hp Fe EG ⟨dx1,ys1,kvs1,up _ _ b1 pne,up _ _ b2 kne,NT.tups tks b3,up _ _ b4 lne,TZ tks b5⟩ LX fun b o hb e=>up b o (s1 _ _ e) hb
structure Bp where
 pats:List Pat
 told:List Pat
 hd:Int
 tl:Int
def TB (C:Ac)(H:Hp):List (Key×V)->List (List Nat×Bp)->Prop
 | [],[]=>True
 | kv::B',m::ms=>kv.1=Sum.inr (S m.1)/\(∃ p kd ld,kv.2=.ref p/\BrkAt C H p kd ld m.2.pats m.2.told m.2.hd m.2.tl)/\OkB m.2.pats m.2.told/\TB C H B' ms
 | _,_=>False
theorem TB.ind {C:Ac}{H:Hp}{M:List (Key×V)->List (List Nat×Bp)->Prop}(h0:M [] [])
  (h1:∀ kv B' m ms,kv.1=Sum.inr (S m.1)->(∃ p kd ld,kv.2=.ref p/\BrkAt C H p kd ld m.2.pats m.2.told m.2.hd m.2.tl)->OkB m.2.pats m.2.told->TB C H B' ms->M B' ms->M (kv::B') (m::ms)) :
  ∀{B':List (Key×V)}{ms:List (List Nat×Bp)},TB C H B' ms->M B' ms
 | [],[],_=>h0
 | [],_::_,h=>h.elim
 | _::_,[],h=>h.elim
 | kv::B',m::ms,h=>h1 kv B' m ms h.1 h.2.1 h.2.2.1 h.2.2.2 (TB.ind h0 h1 h.2.2.2)
theorem TB.same (s:Same H H') (h:TB C H B' ms):TB C H' B' ms :=
 TB.ind (M:=fun B' ms=>TB C H' B' ms) trivial (fun _ _ _ _ a ⟨p,kd,ld,c1,c2⟩ e _ ih=>⟨a,⟨p,kd,ld,c1,c2.same s⟩,e,ih⟩) h
theorem TB.keys (h:TB C H B' ms):B'.map (·.1)=(ms.map fun m=>S m.1).map Sum.inr :=
 TB.ind (M:=fun B' ms=>B'.map (·.1)=(ms.map fun m=>S m.1).map Sum.inr) rfl (fun _ _ _ _ a _ _ _ ih=>by
  simp only[Mu]
  rw[ih,a]) h
theorem TB.len (h:TB C H B' ms):B'.length=ms.length:=by
 have:=congrArg R9 h.keys
 simpa only [L8] using this
noncomputable def putM (ms:List (List Nat×Bp))(z:List Nat)(b:Bp):List (List Nat×Bp):=if (ms.any fun m=>decide (m.1=z))=true then ms.map (fun m=>if m.1=z then (m.1,b) else m) else ms++[(z,b)]
theorem XZ (ms:List (List Nat×Bp))(z:List Nat)(b:Bp):(putM ms z b).length<=ms.length+1:=by
 unfold putM
 split
 ·rw[L8];omega
 ·rw[Mn];simp
theorem TB.any (z:List Nat) (h:TB C H B' ms):(B'.any fun kv=>decide (kv.1=(Sum.inr (S z):Key)))=(ms.any fun m=>decide (m.1=z)):=by
 refine TB.ind (M:=fun B' ms=>(B'.any fun kv=>decide (kv.1=(Sum.inr (S z):Key)))=(ms.any fun m=>decide (m.1=z))) rfl ?_ h
 intro kv B' m ms a _ _ _ ih
 rw[OL,OL,ih,a]
 have e:decide ((Sum.inr (S m.1):Key)=Sum.inr (S z))=decide (m.1=z):=by
  by_cases e:m.1=z
  ·rw[B7 e,B7 (by rw[e])]
  ·rw[B6 e,B6 fun q=>e (Sc q)]
 rw[e]
theorem TB.append (h:TB C H B' ms) (h':TB C H kvs' ms'):TB C H (B'++kvs') (ms++ms') :=
 TB.ind (M:=fun B' ms=>TB C H (B'++kvs') (ms++ms')) h' (fun _ _ _ _ a c e _ ih=>⟨a,c,e,ih⟩) h
theorem TB.put (h:TB C H B' ms) (hB:BrkAt C H p kd ld b.pats b.told b.hd b.tl) (hO:OkB b.pats b.told):TB C H (putK B' (Sum.inr (S z)) (.ref p)) (putM ms z b):=by
 unfold putK putM
 rw[h.any z]
 by_cases c:(ms.any fun m=>decide (m.1=z))=true
 ·rw[B9 c,B9 c]
  refine TB.ind (M:=fun B' ms=>TB C H (B'.map fun kv=>if kv.1=(Sum.inr (S z):Key) then (kv.1,.ref p) else kv) (ms.map fun m=>if m.1=z then (m.1,b) else m)) trivial ?_ h
  intro kv B' m ms a c e _ ih
  simp only[Mu]
  by_cases hz:m.1=z
  ·rw[B9 (by rw[a,hz]),B9 hz]
   exact⟨a,⟨p,kd,ld,rfl,hB⟩,hO,ih⟩
  ·rw[B8 (by rw[a];exact fun q=>hz (Sc q)),B8 hz]
   exact⟨a,c,e,ih⟩
 ·rw[B8 c,B8 c]
  exact h.append ⟨rfl,⟨p,kd,ld,rfl,hB⟩,hO,trivial⟩
noncomputable def offH (H:Hp)(D:List Ac):Hp:=fun b=>if b∈D then none else H b
theorem X0 (h:b∉D):offH H D b=H b:=by unfold offH;rw[B8 h]
theorem X1 (h:offH H D b=some o):b∉D/\H b=some o:=by
 unfold offH at h
 split at h
 ·cases h
 ·rename_i hb;exact⟨hb,h⟩
theorem X2 (H:Hp)(D:List Ac):Same (offH H D) H:=fun b o e=>(X1 e).2
theorem ZV (h:∀ b o,b∉D->H b=some o->b∉D'/\H' b=some o):Same (offH H D) (offH H' D'):=fun b o e=>by
 obtain⟨h1,h2⟩:=X1 e
 obtain⟨h3,h4⟩:=h b o h1 h2
 rw[X0 h3];exact h4
theorem BrkAt.offD (hD:∀ b∈D,∀ zs,H b≠some (.tup zs)) (h1:p∉D) (h2:kd∉D) (h3:ld∉D) (h:BrkAt C H p kd ld pats told hd tl):BrkAt C (offH H D) p kd ld pats told hd tl:=by
 obtain⟨dx,ys,B',b1,b2,b3,b4,b5⟩:=h
 have tks:∀ b zs,H b=some (.tup zs)->offH H D b=some (.tup zs):=fun b zs e=>by rw[X0 fun hb=>hD b hb zs e];exact e
 exact⟨dx,ys,B',by rw[X0 h1];exact b1,by rw[X0 h2];exact b2,NT.tups tks b3,by rw[X0 h3];exact b4,TZ tks b5⟩
noncomputable abbrev s_is_letter:Av:=top 17
noncomputable abbrev s_is_word:Av:=top 18
def X3:Sp:=fun vs H Q _=>∃ c:Nat,vs=[.str (S [c])]/\Q (.bl (MK c)) H
def T5:Sp:=fun vs H Q _=>∃ l:List Nat,vs=[.str (S l)]/\l.length<=1000/\∀ H',Same H H'->Q (.bl (Ni l)) H'
theorem gp (T:Txt mg tk)(F:Fun K "is_letter" "is_letter" s_is_letter f fd):FnOk P w K mg base CX0 1 f fd ["sign"] X3:=by
 refine F.okk ["sign"] ?_
 rintro _ _ _ _ H _ _ _ hr ⟨c,rfl,q⟩ nd
 refine⟨_,(LY (L6 (MT o_in (pv 0) (OD (v:=.str "abcdefghijklmnopqrstuvwxyz") rfl T.m_LETTERS ⟨_,rfl⟩) (by with_unfolding_all rfl)))),?_⟩
 walk_at "s0"
 rw[t_let]
 ext
 rw[WC,Sw]
 exact q
theorem gq (T:Txt mg tk)(F:Fun K "is_word" "is_word" s_is_word f fd)(Cg:Dn P w K mg base "is_letter" 1 ["sign"] X3):FnOk P w K mg base CX0 2 f fd ["text"] T5:=by
 refine F.okk ["text"] ?_
 rintro _ _ _ _ H _ _ _ hr ⟨l,rfl,hl,q⟩ nd
 refine⟨_,(LY (L6 (ND (MT o_gt (pcb (MU (K:=K)) T.z_len (pa1 (pv 0))) LV (L9 _)) (NC (pcb (S5 rfl) T.z_all (pa1 (Px ["sign"] [none] rfl (by kernel_rfl) rfl (NS (K:=K) (pv 0)) (fun _ _ _ _=>(NZ (i:=0) (show (["sign"]:List Str).Nodup by decide +kernel) rfl (Or.inl rfl) (Or.inr rfl))) (fun _ _ _ _=>Q4) (fun _ _ _ _=>(Mc Cg hr.L5 rfl (pa1 (pv 0))))))))))),?_⟩
 walk_at "s0"
 have Ev:(S l).length<=Ae:=szn (by rw[Me];omega)
 ext
 try rw[Me]
 refine iteD (fun c=>?_) (fun c=>?_)
 ·ext
  intro r Cc
  refine Rf (fun i Ca σ H'=>∃ v,σ=[v]/\Ca=((l.take i).map MK).map V.bl/\Same H H'/\H' r=some (.lst Ca))
   ⟨none,rfl,rfl,L_ Cc _,LX⟩ (fun i Ca σ H' ⟨_,_,e,_,e2⟩=>⟨e2,by rw[e];simp;omega⟩) (szn (by rw[N3,Me];omega)) ?_ ?_
  ·rintro i Ca σ H' hi ⟨v,rfl,rfl,s1,e1⟩
   rw[N3,Me] at hi
   rw[Rt hi]
   ext
   refine⟨l[i],rfl,e1,_,rfl,?_,fun c o e=>?_,LX⟩
   ·rw[Od,Mm hi,Mr,Mr];rfl
   ·have Gd:c≠r:=fun z=>by rw[z,Cc] at e;cases e
    rw[L4 Gd];exact s1 _ _ e
  ·rintro Ca σ H' ⟨v,rfl,rfl,s1,e1⟩
   ext
   refine Rm (QH e1) ?_
   ext
   rw[N3,Me,NO]
   have e:(l.map MK).all id=Ni l:=by
    unfold Ni
    rw[B7 (by omega),OM,UF];rfl
   rw[e]
   exact q H' s1
 ·have e:Ni l=false:=by
   unfold Ni
   rw[B6 (by omega),QW]
  ext
  rw[<- e]
  exact q H (Same.refl H)
noncomputable abbrev s_mark_of:Av:=top 54
noncomputable abbrev s_word_of:Av:=top 55
noncomputable abbrev s_is_name:Av:=top 50
noncomputable abbrev s_is_thing:Av:=top 56
noncomputable abbrev s_check_things:Av:=top 57
noncomputable abbrev s_pieces:Av:=top 58
structure Tc (K:L3)(mg:Str->Option Ad)(mkT:Ac):Prop where
 m:mg "MARKS"=some (.ref mkT)
 s:∀ H,SqT K H mkT [V.str ",",V.str ".",V.str ";",V.str ":",V.str "!",V.str "?"]
noncomputable def Sj (c:Nat):Bool:=[44,46,59,58,33,63].contains c
noncomputable def QR (l:List Nat):List Nat:=l.drop (l.length - 1)
noncomputable def NU (l:List Nat):List Nat:=if (QR l).any Sj=true then QR l else []
noncomputable def NV (l:List Nat):List Nat:=l.take (l.length - (NU l).length)
noncomputable def isAt (l:List Nat):Bool:=l.head? == some 64
noncomputable def isNm (l:List Nat):Bool:=Ni l&&decide (l.length<=8)
noncomputable def Po (l:List Nat):Bool:=if isAt l=true then isNm l.tail else Ni (NV l)
theorem X4 (l:List Nat):(QR l).length<=1:=by unfold QR;rw[NN];omega
theorem X5 (l:List Nat):(NU l).length<=1:=by
 unfold NU
 split
 ·exact X4 l
 ·exact ML _
theorem gt (l:List Nat):cutA l (some (-1)) none=QR l:=by
 unfold cutA QR
 have h1:sx l.length 0 (some (-1))=l.length - 1:=by simp only[sx];rw[B9 (by decide)];omega
 have h2:sx l.length l.length none=l.length:=rfl
 rw[h1,h2]
 exact U4 (by rw[NN];exact L' _)
theorem gu (hx:x.length<=1):inV (.str (S x)) [V.str ",",V.str ".",V.str ";",V.str ":",V.str "!",V.str "?"]=x.any Sj:=by
 match x,hx with
 | [],_=>decide +kernel
 | [c],_ =>
  have e:[V.str ",",V.str ".",V.str ";",V.str ":",V.str "!",V.str "?"]=[44,46,59,58,33,63].map fun d=>V.str (S [d]):=by decide +kernel
  rw[e]
  unfold inV Sj
  rw[Zp]
  simp only[OL,List.any_nil,Zq,List.contains_eq_any_beq]
  have q:∀ d:Nat,(eqV (V.str (S [d])) (V.str (S [c])))=(c == d):=fun d=>by
   by_cases h:c=d
   ·subst h;simp[eqV]
   ·have h2:(S [d] == S [c])=false:=by
     rw[beq_eq_false_iff_ne]
     intro z
     have:=S_inj z
     injection this with this
     exact h this.symm
    rw[show (c == d)=false by rw[beq_eq_false_iff_ne];exact h]
    simp[eqV,h2]
  simp only[Function.comp,q]
def T6:Sp:=fun vs H Q _=>∃ l:List Nat,vs=[.str (S l)]/\l.length<=1000/\Q (.str (S (NU l))) H
def T7:Sp:=fun vs H Q _=>∃ l:List Nat,vs=[.str (S l)]/\l.length<=1000/\Q (.str (S (NV l))) H
def T8:Sp:=fun vs H Q _=>∃ l:List Nat,vs=[.str (S l)]/\l.length<=1000/\∀ H',Same H H'->Q (.bl (isNm l)) H'
def X6:Sp:=fun vs H Q _=>∃ l:List Nat,vs=[.str (S l)]/\l.length<=1000/\∀ H',Same H H'->Q (.bl (Po l)) H'
theorem t_at:Mg "@"=S [64]:=by decide +kernel
theorem X7 (l:List Nat):aN (S l) (S [64])=isAt l:=by
 unfold aN
 rw[Rq,Me,Me]
 cases l with
 | nil=>rfl
 | cons x r =>
  simp only[U9,Mv,Qu,isAt,List.head?_cons]
  by_cases h:x=64
  ·subst h;simp
  ·simp[h]
theorem gv (T:Txt mg tk)(TC:Tc K mg mkT)(F:Fun K "mark_of" "mark_of" s_mark_of f fd):FnOk P w K mg base CX0 1 f fd ["thing"] T6:=by
 refine F.okk ["thing","last"] ?_
 rintro _ _ _ s H _ _ _ hr ⟨l,rfl,hl,q⟩ nd
 refine⟨_,(LZ (pst 1 nd (MM (MN (K:=K)) (pv 0) (MF (QE QI LV)) MX))
  (LY (L6 (UM (Mb (o_inK (K:=K)) (pv 1) (OD (v:=.ref mkT) rfl TC.m rfl) (by with_unfolding_all rfl)) (pv 1) LU)))),?_⟩
 walk_at "s0"
 rw[Ox]
 ext
 rw[gt]
 ext
 refine⟨mkT,_,rfl,.inr (TC.s H),rfl,rfl,?_⟩
 rw[B8 Mi,gu (X4 l)]
 ext
 refine iteB (fun c=>?_) (fun c=>?_)
 ·have e:NU l=QR l:=by unfold NU;rw[B9 c]
  rw[e] at q
  ext
  exact q
 ·have e:NU l=[]:=by unfold NU;rw[B8 (by rw[c];exact Mi)]
  rw[e] at q
  ext
  exact q
theorem gw (T:Txt mg tk)(F:Fun K "word_of" "word_of" s_word_of f fd)(CP:Dn P w K mg base "mark_of" 1 ["thing"] T6):FnOk P w K mg base CX0 2 f fd ["thing"] T7:=by
 refine F.okk ["thing"] ?_
 rintro _ _ _ _ H _ _ _ hr ⟨l,rfl,hl,q⟩ nd
 have hm:=X5 l
 refine⟨_,(LY (L6 (MM (MN (K:=K)) (pv 0) MX (MF (L7 Q_ (pcb (MU (K:=K)) T.z_len (pa1 (pv 0))) (pcb (MU (K:=K)) T.z_len (pa1 (Mc CP hr.L5 rfl (pa1 (pv 0)))))))))),?_⟩
 walk_at "s0"
 ext
 refine⟨l,rfl,hl,?_⟩
 ext
 have II:(NU l).length<=l.length:=by
  unfold NU
  split
  ·unfold QR;rw[NN];omega
  ·exact ML _
 have e:cutA l none (some ((l.length:Int) - ((NU l).length:Int)))=NV l:=by
  rw[show (l.length:Int) - ((NU l).length:Int)=((l.length - (NU l).length:Nat):Int) by omega]
  exact RI l _ (by omega)
 rw[e]
 ext
 exact q
theorem gx (T:Txt mg tk)(F:Fun K "is_name" "is_name" s_is_name f fd)(CQ:Dn P w K mg base "is_word" 2 ["text"] T5):FnOk P w K mg base CX0 3 f fd ["text"] T8:=by
 refine F.okk ["text"] ?_
 rintro _ _ _ _ H _ _ _ hr ⟨l,rfl,hl,q⟩ nd
 refine⟨_,(LY (L6 (ND (Mc CQ hr.L5 rfl (pa1 (pv 0))) (NC (MT o_le (pcb (MU (K:=K)) T.z_len (pa1 (pv 0))) (OD (v:=.int 8) rfl T.m_MOST_LETTERS ⟨_,rfl⟩) (L9 _)))))),?_⟩
 walk_at "s0"
 ext
 refine⟨l,rfl,hl,fun H1 s1=>?_⟩
 have q1:=q H1 s1
 ext
 cases e:Ni l with
 | false =>
  ext
  have:isNm l=false:=by unfold isNm;rw[e];rfl
  rw[this] at q1
  exact q1
 | true =>
  ext
  have:isNm l=decide ((l.length:Int)<=8):=by
   unfold isNm;rw[e,OM]
   by_cases c:l.length<=8
   ·rw[B7 c,B7 (by omega)]
   ·rw[B6 c,B6 (by omega)]
  rw[this] at q1
  exact q1
theorem gy (T:Txt mg tk)(F:Fun K "is_thing" "is_thing" s_is_thing f fd)(CQ:Dn P w K mg base "is_word" 2 ["text"] T5)(CS:Dn P w K mg base "is_name" 3 ["text"] T8)(CU:Dn P w K mg base "word_of" 2 ["thing"] T7):FnOk P w K mg base CX0 4 f fd ["thing"] X6:=by
 refine F.okk ["thing"] ?_
 rintro _ _ _ _ H _ _ _ hr ⟨l,rfl,hl,q⟩ nd
 refine⟨_,(LZ (Ma (MY (MO (K:=K) NX aB aC jv (pv 0) (pa1 LU)) (fun _=>rfl))
   (LY (L6 (Mc CS hr.L5 rfl (pa1 (MM (MN (K:=K)) (pv 0) (MF LV) MX)))))
   Mh)
  (LY (L6 (Mc CQ hr.L5 rfl (pa1 (Mc CU hr.L5 rfl (pa1 (pv 0)))))))),?_⟩
 walk_at "s0"
 rw[t_at]
 ext
 rw[X7]
 ext
 cases e:isAt l with
 | true =>
  ext
  have hc:cutA l (some 1) none=l.tail:=by
   have:=WB l 1 (by
    cases l with
    | nil=>simp[isAt] at e
    | cons x r=>simp)
   rw[List.drop_one] at this
   exact this
  rw[hc]
  refine⟨l.tail,rfl,by rw[aj];omega,fun H1 s1=>?_⟩
  ext
  have q1:=q H1 s1
  unfold Po at q1
  rw[e,B9 rfl] at q1
  exact q1
 | false =>
  ext
  refine⟨l,rfl,hl,?_⟩
  ext
  refine⟨NV l,rfl,by unfold NV;rw[MI];omega,fun H1 s1=>?_⟩
  ext
  have q1:=q H1 s1
  unfold Po at q1
  rw[e,B8 Mi] at q1
  exact q1
theorem RK {n:Nat}(h:n<=1000):okTx (.int (n:Int)):=.inl ⟨(n:Int),rfl,by
 have h2:((n:Int)).natAbs=n:=by omega
 rw[h2]
 by_cases z:n=0
 ·rw[z];decide
 ·have:=(Nat.log2_lt z).mpr (show n < 2 ^ 10 by omega)
  omega⟩
def refuses (C:Ac)(f:Str)(y:V)(H:Hp)(E:XK):Prop:=∀ e d H',H' e=some (XO e C (some d) false)->H' d=some (.xd [(f,y)])->Same H H'->E (.ref e) (some d) H'
noncomputable def Nu:List (List Nat)->Nat->Option Nat
 | [],_=>none
 | l::r,k=>if Po l=true then Nu r (k+1) else some k
def X8 (NTh:Ac):Sp:=fun vs H Q E=>∃(a:Ac) (ls:List (List Nat)),vs=[.ref a]/\H a=some (.lst (ls.map fun l=>V.str (S l)))/\ls.length<=1000/\(∀ l∈ls,l.length<=1000) /\
 (Nu ls 0=none->∀ H',Same H H'->Q .non H')/\∀ k:Nat,Nu ls 0=some k->refuses NTh "place" (.int (k:Int)) H E
theorem RL {α:Type}{ls:List α}{i:Nat}{l:α}(h:ls[i]?=some l):ls.drop i=l::ls.drop (i+1):=by
 obtain⟨h1,h2⟩:=MS.mp h
 rw[<- h2];exact QV h1
theorem gz (T:Txt mg tk)(Z:Cs K mg ad)(F:Fun K "check_things" "check_things" s_check_things f fd)(Dp:Dn P w K mg base "is_thing" 4 ["thing"] X6)(CY:Ini P w K mg base (ad 3) 1 ["self","place"] (Pm okTx (ad 3) "place")):FnOk P w K mg base (CXx P w) 5 f fd ["text"] (X8 (ad 3)):=by
 refine F.okx ["text","place","thing"] ?_
 rintro _ _ _ s H _ _ _ hr ⟨a,ls,rfl,ha,Ev,Hg,q,qe⟩ nd
 refine⟨_,(LY (NE SD rfl (Tw rfl T.z_enumerate (pv 0)) (Pw rfl (M8 (pnm 1 nd) (M8 (pnm 2 nd) OT)))
   (LY (Ma (Oq (MY (Mc Dp hr.L5 rfl (pa1 (pv 2))) (fun _=>rfl)))
   (LY (PD rfl PB (QP Z.x_NoThing CY hr.L5 rfl Z.m_NoThing (pa1 (pv 1)))))
   Mh)))),?_⟩
 walk_at "s0"
 ext
 refine TY ?_
 ext
 refine Ri ha ?_
 refine Sb (fun i σ H'=>∃(v1 v2:Option V),σ=[some (.ref a),v1,v2]/\Nu ls 0=Nu (ls.drop i) i/\Same H H')
  ⟨none,none,rfl,rfl,Same.refl _⟩ (fun _ _ H' _ ⟨_,_,_,_,s⟩=>s _ _ ha) ?_ ?_
 ·rintro i v σ H2 T2 hv ⟨v1,v2,rfl,Ef,s2⟩ hT
  rw[MC] at hv
  obtain⟨l,hl,rfl⟩:∃ l,ls[i]?=some l/\v=V.str (S l):=by
   cases e:ls[i]? with
   | none=>rw[e] at hv;cases hv
   | some l=>rw[e] at hv;cases hv;exact⟨l,rfl,rfl⟩
  have hi:=(MS.mp hl).1
  rw[RL hl] at Ef
  refine QJ LX rfl (M_ (MZ (M_ (MZ (O4 ?_)))))
  have s3:=s2.trans (L_ hT (PrX T2 [.int (((0:Nat):Int)+(i:Int)),.str (S l)]))
  have Ew:V.int (((0:Nat):Int)+(i:Int))=V.int (i:Int):=by congr 1;omega
  ext
  refine⟨l,rfl,Hg l (OB hl),fun H3 s4=>?_⟩
  cases e:Po l with
  | true =>
   have e2:Nu (l::ls.drop (i+1)) i=Nu (ls.drop (i+1)) (i+1):=by simp only[Nu];rw[B9 e]
   ext
   exact⟨_,_,rfl,Ef.trans e2,s3.trans s4⟩
  | false =>
   have e2:Nu (l::ls.drop (i+1)) i=some i:=by simp only[Nu];rw[B8 (by rw[e];exact Mi)]
   ext
   refine Pn (Qh ?_)
   ext
   rw[Ew]
   refine Qi (RK (by omega)) fun x d hx hd Cy=>⟨x,ad 3,ad 0,some d,rfl,LX,Z.x_NoThing,qe i (Ef.trans e2) x d _ LX ?_ ?_⟩
   ·rw[L4 Cy,L4 Cy,LX]
   ·rw[OR]
    exact(s3.trans s4).trans ((L_ hd _).trans (L_ (by rw[L4 (MB Cy)];exact hx) _))
 ·rintro σ H2 ⟨v1,v2,rfl,Ef,s2⟩
  rw[L8,Su] at Ef
  ext
  exact q Ef H2 s2
theorem List.reverseRec' {α:Type}{M:List α->Prop}(nil:M [])(snoc:∀ l a,M l->M (l++[a]))(l:List α):M l:=by
 have h:∀ r:List α,M r.reverse:=fun r=>by
  induction r with
  | nil=>exact nil
  | cons x r ih=>rw[List.reverse_cons];exact snoc _ _ ih
 have:=h l.reverse
 rwa [List.reverse_reverse] at this
theorem gA {ns:List Int} (h:H t=some (.tup (ns.map V.int))):Is H (.ref t) (.tup (ns.map Dt.int)):=by
 simp only[Is]
 refine⟨t,_,rfl,h,?_⟩
 clear h
 induction ns with
 | nil=>simp only[Oe,L2.IsL]
 | cons x ns ih=>simp only[Mu,L2.IsL,Is];exact⟨by first | rfl | trivial,ih⟩
noncomputable def QS (k:Nat)(w m:List Nat)(g:List Int):Dt:=.tup [.int (k:Int),.str (S w),.str (S m),.tup (g.map Dt.int)]
noncomputable def gapsB (b:Bp)(w:List Nat):List Int:=RG b.pats b.told b.hd b.tl w
noncomputable def Mz (ms:List (List Nat×Bp))(z:List Nat):Option Bp:=(ms.find? fun m=>decide (m.1=z)).map (·.2)
structure Pc where
 b:Option (List Nat×Bp)
 ds:List Dt
 k:Nat
noncomputable def Nq (ms:List (List Nat×Bp))(s:Pc)(l:List Nat):Pc :=
 if isAt l=true then ⟨(Mz ms l.tail).map fun b=>(l.tail,b),s.ds,s.k+1⟩
 else ⟨s.b,s.ds++(match s.b with | some b=>[QS s.k (NV l) (NU l) (gapsB b.2 (NV l))] | none=>[]),s.k+1⟩
noncomputable def prun (ms:List (List Nat×Bp))(ls:List (List Nat)):Pc:=ls.foldl (Nq ms) ⟨none,[],0⟩
theorem ZW (ms:List (List Nat×Bp))(ls:List (List Nat))(l:List Nat):prun ms (ls++[l])=Nq ms (prun ms ls) l:=by unfold prun;rw[List.foldl_append];rfl
theorem prun_k (ms:List (List Nat×Bp))(ls:List (List Nat)):(prun ms ls).k=ls.length:=by
 induction ls using List.reverseRec' with
 | nil=>rfl
 | snoc ls l ih =>
  rw[ZW,Mn]
  unfold Nq
  split <;> (simp only[ih];rfl)
theorem TB.look (z:List Nat) (h:TB C H B' ms):∀ b,Mz ms z=some b->∃ p kd ld:Ac,valV B' (Sum.inr (S z))=some (.ref p)/\BrkAt C H p kd ld b.pats b.told b.hd b.tl/\OkB b.pats b.told:=by
 refine TB.ind (M:=fun B' ms=>∀ b,Mz ms z=some b->∃ p kd ld:Ac,valV B' (Sum.inr (S z))=some (.ref p)/\BrkAt C H p kd ld b.pats b.told b.hd b.tl/\OkB b.pats b.told) (fun b e=>by cases e) ?_ h
 rintro kv B' m ms a ⟨p,kd,ld,c1,c2⟩ e _ ih b' hb
 by_cases hz:m.1=z
 ·have e1:Mz (m::ms) z=some m.2:=by unfold Mz;rw[Oo,B7 hz];rfl
  rw[e1] at hb
  cases hb
  exact⟨p,kd,ld,by rw[UR (by rw[a,hz]),c1],c2,e⟩
 ·have e1:Mz (m::ms) z=Mz ms z:=by unfold Mz;rw[Oo,B6 hz]
  rw[e1] at hb
  rw[Ti fun q=>hz (Sc (a.symm.trans q))]
  exact ih b' hb
theorem X9 (k:Nat)(w m:List Nat)(g:List Int):Rx (QS k w m g)=true:=by
 have hi:∀ g:List Int,NL (g.map Dt.int)=true:=fun g=>by
  induction g with
  | nil=>rfl
  | cons x g ih=>simp only[Mu,NL,Rx,ih];rfl
 unfold QS
 simp only[Rx,NL,hi g];rfl
theorem gB (l1 l2:List Dt):NL (l1++l2)=(NL l1&&NL l2):=by
 induction l1 with
 | nil=>simp[NL]
 | cons x l ih=>simp[NL,ih,Bool.and_assoc]
theorem gC (ms:List (List Nat×Bp))(ls:List (List Nat)):NL (prun ms ls).ds=true:=by
 induction ls using List.reverseRec' with
 | nil=>rfl
 | snoc ls l ih =>
  rw[ZW]
  unfold Nq
  split
  ·exact ih
  ·rw[gB,ih]
   cases (prun ms ls).b with
   | none=>rfl
   | some b=>simp only[NL,X9];rfl
inductive R3 where
 | thing (k:Nat)
 | tongue (nm:List Nat)
 | told
noncomputable def due2 (ms:List (List Nat×Bp)):Bool->List (List Nat)->R3
 | _,[]=>.told
 | h,l::r=>if isAt l=true then (if (Mz ms l.tail).isSome=true then due2 ms true r else .tongue l.tail) else if h=true then due2 ms true r else .tongue []
noncomputable def due (ms:List (List Nat×Bp))(ls:List (List Nat)):R3:=match Nu ls 0 with
 | some k=>.thing k
 | none=>due2 ms false ls
theorem X_ (h:Nu ls 0=some k):due ms ls=.thing k:=by unfold due;rw[h]
theorem Ya (h:Nu ls 0=none):due ms ls=due2 ms false ls:=by unfold due;rw[h]
theorem jx:∀{ls:List (List Nat)}{k:Nat},Nu ls k=none->∀ l∈ls,Po l=true
 | [],_,_,_,h=>nomatch h
 | x::r,k,h,l,hl=>by
  simp only[Nu] at h
  split at h
  ·rename_i hx
   rcases Mo.mp hl with rfl | hl
   ·exact hx
   ·exact jx h l hl
  ·cases h
theorem TB.look0 (z:List Nat) (h:TB C H B' ms):Mz ms z=none->valV B' (Sum.inr (S z))=none:=by
 refine TB.ind (M:=fun B' ms=>Mz ms z=none->valV B' (Sum.inr (S z))=none) (fun _=>rfl) ?_ h
 rintro kv B' m ms a _ e _ ih hb
 by_cases hz:m.1=z
 ·have e1:Mz (m::ms) z=some m.2:=by unfold Mz;rw[Oo,B7 hz];rfl
  rw[e1] at hb;cases hb
 ·have e1:Mz (m::ms) z=Mz ms z:=by unfold Mz;rw[Oo,B6 hz]
  rw[e1] at hb
  rw[Ti fun q=>hz (Sc (a.symm.trans q))]
  exact ih hb
def PcOk (d:Dt):Prop:=∃(k:Nat) (w m:List Nat) (g:List Nat),d=QS k w m (g.map fun j:Nat=>(j:Int))/\k<=1000/\1<=w.length/\w.length<=100/\m.length<=1/\Rise 0 w.length g
theorem gE (h:Ni l=true):1<=l.length:=by
 unfold Ni at h
 simp only[MQ,decide_eq_true_eq] at h
 omega
def Th1 (l:List Nat):Prop:=(∀ c∈l,c < 128)/\l.length<=40
def T9 (CT NT:Ac):Sp:=fun vs H Q E=>∃(tp td:Ac) (B':List (Key×V)) (nm:List Nat),vs=[.ref tp,.str (S nm)]/\TgAt CT H tp td B'/\(∀ c∈nm,c < 128)/\nm.length<=50 /\
 ((∃ v,valV B' (Sum.inr (S nm))=some v/\Q v H)∨(valV B' (Sum.inr (S nm))=none/\refuses NT "name" (.str (S nm)) H E))
def Yb (C CT NTh NTo:Ac):Sp:=fun vs H Q E=>∃(tp td a:Ac) (B':List (Key×V)) (ms:List (List Nat×Bp)) (ls:List (List Nat)),vs=[.ref tp,.ref a]/\TgAt CT H tp td B'/\TB C H B' ms/\H a=some (.lst (ls.map fun l=>V.str (S l)))/\ls.length<=100/\(∀ l∈ls,Th1 l) /\
 (∀ k,due ms ls=.thing k->refuses NTh "place" (.int (k:Int)) H E)/\(∀ nm,due ms ls=.tongue nm->refuses NTo "name" (.str (S nm)) H E) /\
 (due ms ls=.told->∀(r:Ac) (xs:List V) (H':Hp),H r=none->H' r=some (.lst xs)->L2.IsL H' xs (prun ms ls).ds->xs.length<=ls.length->(∀ d∈(prun ms ls).ds,PcOk d)->Same H H'->Q (.ref r) H')
theorem T_ (h:isAt l=true):cutA l (some 1) none=l.tail:=by
 have:=WB l 1 (by
  cases l with
  | nil=>simp[isAt] at h
  | cons x r=>simp)
 rw[List.drop_one] at this
 exact this
theorem gF (l:List Nat):(NV l).length<=l.length:=by unfold NV;rw[MI];omega
theorem jz (T:Txt mg tk)(Z:Cs K mg ad)(O2:Ow2 K mg cO2)(F:Fun K "breaker_of" "Tongues.breaker_of" s_Tongues_breaker_of f fd)(Co:Ini P w K mg base (ad 6) 1 ["self","name"] (Pm okTs (ad 6) "name")):FnOk P w K mg base (CXx P w) 3 f fd ["self","name"] (T9 cO2 (ad 6)):=by
 refine F.okx ["self","name"] ?_
 rintro _ _ _ _ H _ _ _ hr ⟨tp,td,B',nm,rfl,hT,Ex,EK,q⟩ nd
 obtain⟨dxt,t1,t2⟩:=id hT
 refine⟨_,(LZ (Ma (PP (WV (QG hr) (pv 1) (Np (pv 0) rfl)))
   (LY (PD rfl PB (QP Z.x_NoTongue Co hr.L5 rfl Z.m_NoTongue (pa1 (pv 1)))))
   Mh)
  (LY (L6 (Tn (QG hr) (Np (pv 0) rfl) (pv 1) (fun _ _=>rfl))))),?_⟩
 walk_at "s0"
 ext
 refine i_tB (RJ ?_)
 ext
 refine Nr ?_
 ext
 refine Nt t1 O2.cl O2.n_breakers rfl ?_
 refine⟨td,_,rfl,DGet.k (k:=Sum.inr (S nm)) t2,?_⟩
 rcases q with ⟨v,hv,q⟩ | ⟨hv,qe⟩
 ·rw[hv]
  ext
  refine XY ?_
  ext
  refine Nr ?_
  ext
  refine Nt t1 O2.cl O2.n_breakers rfl ?_
  ext
  refine⟨td,_,rfl,hv▸DGet.k (k:=Sum.inr (S nm)) t2,?_⟩
  ext
  exact q
 ·rw[hv]
  ext
  refine Pn (Qh ?_)
  ext
  refine Qi ⟨_,rfl,eJ Ex EK⟩ fun x d hx hd Cy=>⟨x,ad 6,ad 0,some d,rfl,LX,Z.x_NoTongue,qe x d _ LX ?_ ?_⟩
  ·rw[L4 Cy,L4 Cy,LX]
  ·rw[OR]
   exact(L_ hd _).trans (L_ (by rw[L4 (MB Cy)];exact hx) _)
theorem gG (T:Txt mg tk)(Z:Cs K mg ad)(O:Ow K mg cO)(O2:Ow2 K mg cO2)(F:Fun K "pieces" "pieces" s_pieces f fd)(CZ:DnX P w K mg base "check_things" 5 ["text"] (X8 (ad 3)))(CP:Dn P w K mg base "mark_of" 1 ["thing"] T6)(CU:Dn P w K mg base "word_of" 2 ["thing"] T7)(Ce:DmX P w K mg base cO2 "breaker_of" 3 ["self","name"] (T9 cO2 (ad 6)))(Cp:Dm P w K mg base cO "gaps" 4 ["self","word"] (TX cO))(Co:Ini P w K mg base (ad 6) 1 ["self","name"] (Pm okTs (ad 6) "name")):FnOk P w K mg base (CXx P w) 6 f fd ["tongues","text"] (Yb cO cO2 (ad 3) (ad 6)):=by
 refine F.okx ["tongues","text","told","breaker","place","thing","word"] ?_
 rintro _ _ _ s H _ _ _ hr ⟨tp,td,a,B',ms,ls,rfl,hT,hR,ha,Ev,Gf,qk,qn,q⟩ nd
 refine⟨_,(LZ (Na (QO CZ hr.L5 rfl (Qf (fun _ _ _ z=>z)) (pa1 (pv 1))))
  (LZ (pst 2 nd (Mp pa_nil))
  (LZ (pst 3 nd Ny)
  (LZ (NE SD rfl (Tw rfl T.z_enumerate (pv 1)) (Pw rfl (M8 (pnm 4 nd) (M8 (pnm 5 nd) OT)))
   (LY (Ma (MY (MO (K:=K) NX aB aC jv (pv 5) (pa1 LU)) (fun _=>rfl))
   (LY (pst 3 nd (UU (pv 0) O2.cl Ce hr.L5 (Qf (fun _ _ _ z=>z)) (pa1 (MM (MN (K:=K)) (pv 5) (MF LV) MX)))))
   (LY (Ma (Mb o_is (pv 3) Ny (L9 _))
   (LY (PD rfl PB (QP Z.x_NoTongue Co hr.L5 rfl Z.m_NoTongue (pa1 LU))))
   (LZ (pst 6 nd (Mc CU hr.L5 rfl (pa1 (pv 5))))
  (LY (Na (MO (K:=K) Og OO OP OX (pv 2) (pa1 (Sa (LS (pv 4) (LS (pv 6) (LS (Mc CP hr.L5 rfl (pa1 (pv 5))) (pa1 (Se (pv 3) O.cl Cp hr.L5 (pa1 (pv 6))))))))))))))))))
  (LY (L6 (pv 2))))))),?_⟩
 walk_at "s0"
 rw[t_at,Ox]
 ext
 refine⟨a,ls,rfl,ha,by omega,fun l hl=>by have:=(Gf l hl).2;omega,fun Ef H1 s1=>?_,fun k hk=>qk k (X_ hk)⟩
 have Hh:=jx Ef
 have En:=Ya (ms:=ms) Ef
 rw[En] at qn q
 clear qk En
 ext
 intro r Cc
 have s2:=s1.trans (L_ Cc (.lst []))
 have er:=LX (H:=H1) (a:=r) (o:=.lst [])
 have J_:H r=none:=s1.free Cc
 generalize upd H1 r (.lst [])=H2 at s2 er ⊢
 ext
 refine TY ?_
 ext
 refine Ri (s2 _ _ ha) ?_
 refine Sb (fun i σ H'=>∃(v3:V) (v4 v5 v6:Option V) (xs:List V),σ=[some (.ref tp),some (.ref a),some (.ref r),some v3,v4,v5,v6]/\H' r=some (.lst xs)/\L2.IsL H' xs (prun ms (ls.take i)).ds/\xs.length<=i/\Same H H'/\(∀ d∈(prun ms (ls.take i)).ds,PcOk d)/\due2 ms false ls=due2 ms (prun ms (ls.take i)).b.isSome (ls.drop i) /\
   (match (prun ms (ls.take i)).b with | none=>v3=.non | some nb=>Mz ms nb.1=some nb.2/\∃ p,v3=.ref p/\valV B' (Sum.inr (S nb.1))=some (.ref p)))
  ⟨.non,none,none,none,[],rfl,er,(by simp only[List.take_zero,prun,List.foldl_nil,L2.IsL]),L' _,s2,(fun d hd=>by simp[prun] at hd),rfl,rfl⟩ (fun _ _ H' _ ⟨_,_,_,_,_,_,_,_,_,s,_⟩=>s _ _ ha) ?_ ?_
 ·rintro i v σ H3 T3 hv ⟨v3,v4,v5,v6,xs,rfl,er3,Dr,FL,s3,FP,CI,hb⟩ Hi
  rw[MC] at hv
  obtain⟨l,hl,rfl⟩:∃ l,ls[i]?=some l/\v=V.str (S l):=by
   cases e:ls[i]? with
   | none=>rw[e] at hv;cases hv
   | some l=>rw[e] at hv;cases hv;exact⟨l,rfl,rfl⟩
  have hi:=(MS.mp hl).1
  have D3:ls.take (i+1)=ls.take i++[l]:=by rw[Od,hl];rfl
  have K2:(prun ms (ls.take i)).k=i:=by rw[prun_k,MI];omega
  have J':=OB hl
  obtain⟨Hj,Cd⟩:=Gf l J'
  have D9:=Hh l J'
  rw[RL hl] at CI
  have sT:=L_ Hi (PrX T3 [.int (((0:Nat):Int)+(i:Int)),.str (S l)])
  refine QJ LX rfl (M_ (MZ (M_ (MZ (O4 ?_)))))
  have s4:=s3.trans sT
  have er4:=sT _ _ er3
  have Gg:=IsL.same sT Dr
  generalize upd H3 T3 (PrX T3 [.int (((0:Nat):Int)+(i:Int)),.str (S l)])=H4 at s4 er4 Gg ⊢
  have Ew:V.int (((0:Nat):Int)+(i:Int))=V.int (i:Int):=by congr 1;omega
  rw[Ew]
  ext
  rw[X7]
  cases Dv:isAt l with
  | true =>
   ext
   refine Pf ?_
   ext
   obtain⟨dxt,t1,t2⟩:=id (hT.same s4)
   refine Pg t1 rfl ?_
   ext
   rw[T_ Dv]
   have Eu:∀ c∈l.tail,c < 128:=fun c hc=>Hj c (List.mem_of_mem_tail hc)
   have IW:l.tail.length<=50:=by rw[aj];omega
   refine⟨tp,td,B',l.tail,rfl,hT.same s4,Eu,IW,?_⟩
   cases DB:Mz ms l.tail with
   | none =>
    refine .inr ⟨(hR.same s4).look0 _ DB,fun e d H' h1 h2 h3=>qn l.tail ?_ e d H' h1 h2 (s4.trans h3)⟩
    rw[CI]
    simp only[due2]
    rw[B9 Dv,DB];rfl
   | some b =>
    obtain⟨p,kd,ld,q1,hB,hO⟩:=(hR.same s4).look l.tail b DB
    refine .inl ⟨.ref p,q1,?_⟩
    ext
    have C5:prun ms (ls.take (i+1))=⟨some (l.tail,b),(prun ms (ls.take i)).ds,(prun ms (ls.take i)).k+1⟩:=by
     rw[D3,ZW]
     unfold Nq
     rw[B9 Dv,DB];rfl
    refine⟨.ref p,_,_,_,xs,rfl,er4,?_,by omega,s4,?_,?_,?_⟩
    ·rw[C5];exact Gg
    ·rw[C5];exact FP
    ·rw[C5,CI]
     simp only[due2]
     rw[B9 Dv,DB];rfl
    ·rw[C5]
     exact⟨DB,p,rfl,q1⟩
  | false =>
   ext
   cases Fp:(prun ms (ls.take i)).b with
   | none =>
    rw[Fp] at hb CI
    have hb:v3=.non:=hb
    subst hb
    ext
    refine Pn (Qh ?_)
    ext
    have Fu:due2 ms false ls=.tongue []:=by
     rw[CI]
     simp only[due2]
     rw[B8 (by rw[Dv];exact Mi)];rfl
    refine Qi ⟨_,rfl,eJ (fun c hc=>nomatch hc) (by decide)⟩ fun x d hx hd Cy=>⟨x,ad 6,ad 0,some d,rfl,LX,Z.x_NoTongue,qn [] Fu x d _ LX ?_ ?_⟩
    ·rw[L4 Cy,L4 Cy,LX]
    ·rw[OR]
     exact s4.trans ((L_ hd _).trans (L_ (by rw[L4 (MB Cy)];exact hx) _))
   | some nb =>
    rw[Fp] at hb CI
    obtain⟨EK,p,rfl,q1'⟩:=hb
    obtain⟨p',kd,ld,q1,hB,hO⟩:=(hR.same s4).look nb.1 nb.2 EK
    have ep:p'=p:=by rw[q1'] at q1;injection q1 with q1;injection q1 with q1;exact q1.symm
    subst ep
    ext
    refine⟨l,rfl,by omega,?_⟩
    ext
    refine⟨l,rfl,by omega,?_⟩
    ext
    refine Pf ?_
    ext
    obtain⟨dxb,ysb,kvb,b1,_⟩:=id hB
    refine Pg b1 rfl ?_
    ext
    have hz:=hO.pl
    have Hk:Ni (NV l)=true:=by
     unfold Po at D9
     rw[Dv,B8 Mi] at D9
     exact D9
    have DW:=gE Hk
    have DV:=gF l
    have G8:=X5 l
    obtain⟨g,hg,Hl⟩:=XX hO nb.2.hd nb.2.tl (w:=NV l) DW
    have C5:prun ms (ls.take (i+1))=⟨some nb,(prun ms (ls.take i)).ds++[QS i (NV l) (NU l) (g.map fun j:Nat=>(j:Int))],(prun ms (ls.take i)).k+1⟩:=by
     rw[D3,ZW]
     unfold Nq
     rw[Dv,B8 Mi,Fp,K2,<- hg];rfl
    generalize NV l=wd at DW DV Hk hg Hl C5 ⊢
    generalize NU l=m at G8 C5 ⊢
    refine⟨p',kd,ld,nb.2.pats,nb.2.told,nb.2.hd,nb.2.tl,wd,rfl,hB,hO.ps,by omega,DW,by omega,fun t H5 et s5=>?_⟩
    rw[hg] at et
    ext
    intro t6 K3
    obtain⟨H6,Gh,s6,et6⟩:=Ms K3 (.tup [.int (i:Int),.str (S wd),.str (S m),.ref t])
    rw[Gh]
    have s46:=s5.trans s6
    have et':=s6 _ _ et
    have er6:=s46 _ _ er4
    have K4:xs.length < Ae:=szn (by omega)
    ext
    have tks:Tk H6 (upd H6 r (.lst (xs++[.ref t6]))):=fun b zs e=>by
     have hb:b≠r:=fun z=>by rw[z,er6] at e;cases e
     rw[L4 hb];exact e
    have hp:Is H6 (.ref t6) (QS i wd m (g.map fun j:Nat=>(j:Int))):=by
     unfold QS
     have:=gA et'
     simp only[Is,L2.IsL] at this ⊢
     exact⟨t6,_,rfl,et6,rfl,rfl,rfl,this,trivial⟩
    refine⟨.ref p',_,_,_,xs++[.ref t6],rfl,LX,?_,by rw[Mn];show _+1<=_;omega,fun b o e=>?_,?_,?_,?_⟩
    ·rw[C5]
     refine IsL.append (IsL.tk tks (gC ms _) (IsL.same s46 Gg)) ?_
     simp only[L2.IsL]
     exact⟨Is.tk tks (X9 _ _ _ _) hp,trivial⟩
    ·have ET:b≠r:=fun z=>by rw[z,J_] at e;cases e
     rw[L4 ET];exact s46 _ _ (s4 _ _ e)
    ·rw[C5]
     intro d hd
     rcases Nv.mp hd with h | h
     ·exact FP d h
     ·have:d=QS i wd m (g.map fun j:Nat=>(j:Int)):=by simpa using h
      exact⟨i,wd,m,g,this,by omega,DW,by omega,G8,Hl⟩
    ·rw[C5,CI]
     simp only[due2,jg]
     rw[B8 (by rw[Dv];exact Mi),B9 trivial]
    ·rw[C5]
     exact⟨EK,p',rfl,q1⟩
 ·rintro σ H3 ⟨v3,v4,v5,v6,xs,rfl,er3,Dr,FL,s3,FP,CI,hb⟩
  rw[L8] at Dr FL FP CI
  rw[NO] at Dr FP CI
  rw[Su] at CI
  ext
  exact q (by rw[CI];rfl) r xs H3 J_ er3 Dr FL FP s3
noncomputable abbrev s_farthest_end:Av:=top 60
noncomputable abbrev s_pressed:Av:=top 61
theorem isTupZ {ns:List Int} (h:Is H v (.tup (ns.map Dt.int))):∃ t,v=.ref t/\H t=some (.tup (ns.map V.int)):=by
 simp only[Is] at h
 obtain⟨t,vs,rfl,e,h⟩:=h
 refine⟨t,rfl,?_⟩
 rw[e]
 congr 2
 clear e
 induction ns generalizing vs with
 | nil =>
  cases vs with
  | nil=>rfl
  | cons x r=>simp[L2.IsL] at h
 | cons n ns ih =>
  cases vs with
  | nil=>simp[L2.IsL] at h
  | cons x r =>
   simp only[Mu,L2.IsL,Is] at h
   rw[h.1,ih r h.2];rfl
noncomputable def inR (b:Nat)(room:Int)(k:Nat):Bool:=decide ((b:Int) < (k:Int))&&decide ((k:Int) < (b:Int)+room)
def spFar:Sp:=fun vs H Q _=>∃(t:Ac) (g:List Nat) (b:Nat) (room:Int),vs=[.ref t,.int (b:Int),.int room]/\H t=some (.tup (g.map fun k:Nat=>V.int (k:Int)))/\g.length<=1000 /\
 ∀(H':Hp) (e:Nat),Same H H'->((e=b/\∀ x∈g,inR b room x=false)∨(e∈g/\inR b room e=true/\∀ y∈g,inR b room y=true->y<=e))->Q (.int (e:Int)) H'
theorem isPiece {k:Nat} {w m:List Nat} {g:List Int} (h:Is H v (QS k w m g)):∃ t6 t:Ac,v=.ref t6/\H t6=some (.tup [.int (k:Int),.str (S w),.str (S m),.ref t])/\H t=some (.tup (g.map V.int)):=by
 unfold QS at h
 have h:∃ a xs,v=.ref a/\H a=some (.tup xs)/\L2.IsL H xs [.int (k:Int),.str (S w),.str (S m),.tup (g.map Dt.int)]:=by
  rw[L2.Is.eq_def] at h
  exact h
 obtain⟨t6,vs,rfl,e,h⟩:=h
 match vs,h with
 | [a,b,c,d],h =>
  simp only[L2.IsL] at h
  obtain⟨h1,h2,h3,h4,_⟩:=h
  have h1:a=.int (k:Int):=by simpa only [Is] using h1
  have h2:b=.str (S w):=by simpa only [Is] using h2
  have h3:c=.str (S m):=by simpa only [Is] using h3
  subst h1 h2 h3
  obtain⟨t,rfl,et⟩:=isTupZ h4
  exact⟨t6,t,rfl,e,et⟩
 | [],h=>simp[L2.IsL] at h
 | [_],h=>simp[L2.IsL] at h
 | [_,_],h=>simp[L2.IsL] at h
 | [_,_,_],h=>simp[L2.IsL] at h
 | _::_::_::_::_::_,h=>simp[L2.IsL] at h
theorem Yc {n:Nat}:∀{b:Nat}{g:List Nat},Rise b n g->b<=n->g.length<=n - b
 | b,[],_,_=>by simp
 | b,x::g,r,h=>by
  have:=Yc r.2.2 (ON r.2.1)
  have h1:=r.1
  have h2:=r.2.1
  simp;omega
theorem RM (l:List α) (lo hi:Option Int):(cutA l lo hi).length<=l.length:=by
 rw[dz]
 have:=Rp l.length l.length (L' _) hi
 omega
theorem Yd {n:Nat}:∀{b:Nat}{g:List Nat},Rise b n g->∀ x∈g,x < n
 | _,[],_,_,h=>nomatch h
 | b,y::g,r,x,h=>by
  rcases Mo.mp h with rfl | h
  ·exact r.2.1
  ·exact Yd r.2.2 x h
theorem gH (h:∃ W:Nat->St->Hp->Prop,(∃ m,W m σ H)/\∀ m σ H,W m σ H ->
 c σ H fun b H1=>if b=true then ∃ N:St->Hp->Prop,(∀ σ' H',N σ' H'->∃ m',m' < m/\W m' σ' H')/\tb { D with nx:=N,ct:=N,bk:=D.nx } σ H1 else D.nx σ H1):Vm c tb D σ H:=h
def Ye (C CT NTh NTo TN:Ac):Sp:=fun vs H Q E=>∃(tp td a:Ac) (B':List (Key×V)) (ms:List (List Nat×Bp)) (ls:List (List Nat)) (wd:Nat),vs=[.ref tp,.ref a,.int (wd:Int)]/\TgAt CT H tp td B'/\TB C H B' ms/\H a=some (.lst (ls.map fun l=>V.str (S l)))/\ls.length<=100/\(∀ l∈ls,Th1 l)/\1<=wd/\wd<=200 /\
 (∀ k,due ms ls=.thing k->refuses NTh "place" (.int (k:Int)) H E)/\(∀ nm,due ms ls=.tongue nm->refuses NTo "name" (.str (S nm)) H E) /\
 (due ms ls=.told->∀ k:Nat,refuses TN "place" (.int (k:Int)) H E) /\
 (due ms ls=.told->∀(r:Ac) (lns:List (List Nat)) (H':Hp),H' r=some (.lst (lns.map fun l=>V.str (S l)))->lns.length<=30001->(∀ l∈lns,l.length<=310)->Same H H'->Q (.ref r) H')
theorem Ua {x:List Nat} (h:∀ l∈lns,l.length<=310) (hx:x.length<=310):∀ l∈lns++[x],l.length<=310:=fun l hl=>(Nv.mp hl).elim (h l) fun e=>by rw[OJ.mp e];exact hx
theorem Ub :upd H r (.lst ((lns.map fun l=>V.str (S l))++[.str (S x)])) r=some (.lst ((lns++[x]).map fun l=>V.str (S l))):=by rw[LX,Mr];rfl
theorem P7:Mg "-"=S [45]:=by decide +kernel
theorem UW:Mg " "=S [32]:=by decide +kernel
theorem gI (T:Txt mg tk)(F:Fun K "farthest_end" "farthest_end" s_farthest_end f fd):FnOk P w K mg base CX0 1 f fd ["gaps","begin","room"] spFar:=by
 refine F.okk ["gaps","begin","room"] ?_
 rintro _ _ _ s H _ _ _ hr ⟨t,g,b,room,rfl,ht,D9,q⟩ nd
 refine⟨_,(LY (L6 (pe_maxD rfl rfl T.z_max (Px ["begin","room","gap"] [some 1,some 2,none] rfl (by kernel_rfl) rfl (NS (K:=K) (pv 0)) (fun _ _ _ _=>(NZ (i:=2) (show (["begin","room","gap"]:List Str).Nodup by decide +kernel) rfl (Or.inl rfl) (Or.inr rfl))) (fun _ _ _ _=>(Q5 (Vu o_lt o_lt (pv 0) (pv 2) (L7 Md (pv 0) (pv 1))))) (fun _ _ _ _=>(pv 2))) (pv 1)))),?_⟩
 walk_at "s0"
 ext
 refine i_maxD ?_
 ext
 intro r Cc
 refine XV (K:=K) (xs:=g.map fun k:Nat=>V.int (k:Int)) (fun i Ca σ H'=>∃(v:Option V),σ=[some (.int (b:Int)),some (.int room),v]/\Ca=((g.take i).filter (inR b room)).map (fun k:Nat=>V.int (k:Int))/\H' r=some (.lst Ca)/\Same H H')
  (fun i Ca σ H' _ ⟨_,_,_,_,s⟩=>SqT.of (s _ _ ht)) ⟨none,rfl,rfl,LX,L_ Cc _⟩ (fun i Ca σ H' ⟨_,_,e,e2,_⟩=>⟨e2,by
   rw[e,L8]
   exact MR (Uy _ _) (by rw[MI];omega)⟩) (szn (by rw[L8];omega)) ?_ ?_
 ·rintro i Ca σ H1 hi ⟨v,rfl,rfl,e1,s1⟩
  rw[L8] at hi
  have K5:(g.map fun k:Nat=>V.int (k:Int)).getD i .non=.int (g[i]:Int):=by
   rw[Mq,MC,Mm hi];rfl
  rw[K5]
  have D3:g.take (i+1)=g.take i++[g[i]]:=by rw[Od,Mm hi];rfl
  generalize g[i]=x at D3 ⊢
  ext
  have keep:∀ b' o,H b'=some o->b'≠r:=fun b' o e z=>by rw[z,Cc] at e;cases e
  have no:inR b room x=false->∃ v_1,[some (V.int (b:Int)),some (V.int room),some (V.int (x:Int))]=[some (V.int (b:Int)),some (V.int room),v_1]/\((g.take i).filter (inR b room)).map (fun k:Nat=>V.int (k:Int))=((g.take (i+1)).filter (inR b room)).map (fun k:Nat=>V.int (k:Int))/\H1 r=some (.lst (((g.take i).filter (inR b room)).map (fun k:Nat=>V.int (k:Int))))/\Same H H1:=fun hl =>
   ⟨_,rfl,by rw[D3,R8];simp[hl],e1,s1⟩
  by_cases c:(b:Int) < (x:Int)
  ·rw[B9 (B7 c)]
   ext
   by_cases c2:(x:Int) < (b:Int)+room
   ·rw[B9 (B7 c2)]
    ext
    have hl:inR b room x=true:=by unfold inR;rw[B7 c,B7 c2];rfl
    exact⟨e1,_,rfl,by rw[D3,R8,Mr];simp[hl],LX,fun b' o e=>by rw[L4 (keep b' o e)];exact s1 b' o e⟩
   ·rw[B8 (by rw[B6 c2];exact Mi)]
    exact no (by unfold inR;rw[B6 c2,Sv])
  ·rw[B8 (by rw[B6 c];exact Mi)]
   refine⟨false,rfl,?_⟩
   rw[B8 Mi]
   exact no (by unfold inR;rw[B6 c,QW])
 ·rintro Ca σ H1 ⟨v,rfl,rfl,e1,s1⟩
  rw[L8,NO] at e1
  ext
  have hm:((g.filter (inR b room)).map fun k:Nat=>V.int (k:Int))=((g.filter (inR b room)).map fun k:Nat=>(k:Int)).map V.int:=by rw[Ng];rfl
  rw[hm] at e1
  refine⟨r,_,rfl,e1,fun h0=>?_,fun m G8 K6=>?_⟩
  ·refine q H1 b s1 (.inl ⟨rfl,fun x hx=>?_⟩)
   have h0:g.filter (inR b room)=[]:=by simpa using h0
   have:=List.filter_eq_nil_iff.mp h0 x hx
   simpa using this
  ·obtain⟨e,he,rfl⟩:=Nw.mp G8
   obtain⟨h1,h2⟩:=U6.mp he
   refine q H1 e s1 (.inr ⟨h1,h2,fun y hy GD=>?_⟩)
   have:=K6 (y:Int) (Nw.mpr ⟨y,U6.mpr ⟨hy,GD⟩,rfl⟩)
   omega
theorem gJ (T:Txt mg tk)(Z:Cs K mg ad)(F:Fun K "pressed" "pressed" s_pressed f fd)(DM:DnX P w K mg base "pieces" 6 ["tongues","text"] (Yb cO cO2 (ad 3) (ad 6)))(C1:Dn P w K mg base "farthest_end" 1 ["gaps","begin","room"] spFar)(CG:Ini P w K mg base (ad 4) 1 ["self","place"] (Pm okTx (ad 4) "place")):FnOk P w K mg base (CXx P w) 7 f fd ["tongues","text","width"] (Ye cO cO2 (ad 3) (ad 6) (ad 4)):=by
 refine F.okx ["tongues","text","width","lines","ahead","place","word","mark","gaps","begin","end"] ?_
 rintro _ _ _ _ H _ _ _ hr ⟨tp,td,a,B',ms,ls,wd,rfl,hT,hR,ha,Ev,Gf,DW,DV,qk,qn,qw,q⟩ nd
 refine⟨_,(LZ (pst 3 nd (Mp pa_nil))
  (LZ (pst 4 nd LU)
  (LZ (NE SD rfl (NS (K:=K) (QO DM hr.L5 rfl (Qf (fun _ _ _ z=>z)) (LS (pv 0) (pa1 (pv 1))))) (Pw rfl (M8 (pnm 5 nd) (M8 (pnm 6 nd) (M8 (pnm 7 nd) (M8 (pnm 8 nd) OT)))))
   (LZ (pst 9 nd LV)
  (LZ (bm SD (Mb o_gt (pcb (MU (K:=K)) T.z_len (pa1 (L7 Md (L7 Md (pv 4) (MM (MN (K:=K)) (pv 6) (MF (pv 9)) MX)) (pv 7)))) (pv 2) (L9 _))
   (LZ (pst 10 nd (Mc C1 hr.L5 rfl (LS (pv 8) (LS (pv 9) (pa1 (L7 Q_ (pv 2) (pcb (MU (K:=K)) T.z_len (pa1 (pv 4)))))))))
  (LZ (Ma (Mb o_gt (pv 10) (pv 9) (L9 _))
   (LY (Na (MO (K:=K) Og OO OP OX (pv 3) (pa1 (L7 Md (L7 Md (pv 4) (MM (MN (K:=K)) (pv 6) (MF (pv 9)) (MF (pv 10)))) LU)))))
   (LY (Ma (Mb (o_ne hr.units) (pv 4) LU (L9 _))
   (LY (Na (MO (K:=K) Og OO OP OX (pv 3) (pa1 (MM (MN (K:=K)) (pv 4) MX (MF (QE QI LV)))))))
   (LY (PD rfl PB (QP Z.x_TooNarrow CG hr.L5 rfl Z.m_TooNarrow (pa1 (pv 5))))))))
  (LZ (pst 4 nd LU)
  (LY (pst 9 nd (pv 10)))))))
  (LY (pst 4 nd (L7 Md (L7 Md (L7 Md (pv 4) (MM (MN (K:=K)) (pv 6) (MF (pv 9)) MX)) (pv 7)) LU))))))
  (LZ (Ma (Mb (o_ne hr.units) (pv 4) LU (L9 _))
   (LY (Na (MO (K:=K) Og OO OP OX (pv 3) (pa1 (MM (MN (K:=K)) (pv 4) MX (MF (QE QI LV)))))))
   Mh)
  (LY (L6 (pv 3))))))),?_⟩
 walk_at "s0"
 rw[Ox,P7,UW]
 ext
 intro r Cc
 obtain⟨H1,EV,s1,er⟩:=Ms Cc (.lst [])
 rw[EV]
 ext
 refine⟨tp,td,a,B',ms,ls,rfl,hT.same s1,hR.same s1,s1 _ _ ha,Ev,Gf,fun k hk e d H' h1 h2 h3=>qk k hk e d H' h1 h2 (s1.trans h3),fun nm hn e d H' h1 h2 h3=>qn nm hn e d H' h1 h2 (s1.trans h3),fun FQ pr xs H2 Ka epr Dr FL FP s2=>?_⟩
 have qw:=qw FQ
 have q:=q FQ
 ext
 refine Q1 (K:=K) (xs:=xs) (fun i σ H'=>∃(la:List Nat) (v5 v6 v7 v8 v9 v10:Option V) (lns:List (List Nat)),σ=[some (.ref tp),some (.ref a),some (.int (wd:Int)),some (.ref r),some (.str (S la)),v5,v6,v7,v8,v9,v10]/\la.length<=wd+1/\H' r=some (.lst (lns.map fun l=>V.str (S l)))/\(∀ l∈lns,l.length<=310)/\lns.length<=300 * i/\∀ b o,b≠r->H2 b=some o->H' b=some o)
  ⟨[],none,none,none,none,none,none,[],rfl,by simp,s2 _ _ er,(fun l hl=>nomatch hl),L' _,fun b o _ e=>e⟩ (fun i σ H' _ ⟨_,_,_,_,_,_,_,_,_,_,_,_,_,k⟩=>SqL.of (k _ _ (fun z=>by rw[z,er] at Ka;cases Ka) epr)) ?_ ?_
 ·rintro i x σ Ha hx ⟨la,v5,v6,v7,v8,v9,v10,lns,rfl,FR,era,DB,IX,ka⟩
  have Ec:=(MS.mp hx).1
  obtain⟨x',d,E8,Fd,FJ⟩:=IsL.get Dr (i:=i) (by rw[<- Dr.length];exact Ec)
  rw[hx] at E8
  cases E8
  obtain⟨k,w',m,g,rfl,hk,K7,K8,D_,Hl⟩:=FP d (OB Fd)
  obtain⟨t6,t,rfl,e6,et⟩:=isPiece FJ
  have nr:∀ b o,H2 b=some o->(∀ zs,o≠.lst zs)->b≠r:=fun b o e h z=>by
   rw[z,s2 _ _ er] at e
   cases e
   exact h _ rfl
  have e6r:=nr _ _ e6 (fun zs z=>by cases z)
  have etr:=nr _ _ et (fun zs z=>by cases z)
  have D9:g.length<=100:=by have:=Yc Hl (ML _);omega
  refine S9 (ka _ _ e6r e6) rfl (M_ (MZ (M_ (MZ (M_ (MZ (M_ (MZ (O4 ?_)))))))))
  ext
  refine gH ⟨fun μ σ H'=>∃(la:List Nat) (b:Nat) (ve:Option V) (lns:List (List Nat)),σ=[some (.ref tp),some (.ref a),some (.int (wd:Int)),some (.ref r),some (.str (S la)),some (.int (k:Int)),some (.str (S w')),some (.str (S m)),some (.ref t),some (.int (b:Int)),ve]/\la.length<=wd+1/\b<=w'.length/\H' r=some (.lst (lns.map fun l=>V.str (S l)))/\(∀ l∈lns,l.length<=310)/\lns.length+μ<=300 * (i+1)/\μ=2 * (w'.length - b)+(if la=[] then 0 else 1)/\∀ b o,b≠r->H2 b=some o->H' b=some o,⟨_,la,0,v10,lns,rfl,FR,ML _,era,DB,?_,rfl,ka⟩,?_⟩
  ·split <;> omega
  rintro μ σ Hb ⟨la,b,ve,lns,rfl,FR,K9,erb,Gi,IY,hμ,kb⟩
  have GW:(cutA w' (some (b:Int)) none).length<=w'.length:=RM _ _ _
  have hsz:(lns.map fun l=>V.str (S l)).length < Ae:=by rw[L8];exact szn (by omega)
  ext
  refine iteB (fun cc=>?_) (fun cc=>?_)
  ·have cc:(wd:Int) < ((la++cutA w' (some (b:Int)) none++m).length:Int):=by simpa using cc
   refine⟨fun σ H'=>∃ m',m' < μ/\∃(la:List Nat) (b:Nat) (ve:Option V) (lns:List (List Nat)),σ=[some (.ref tp),some (.ref a),some (.int (wd:Int)),some (.ref r),some (.str (S la)),some (.int (k:Int)),some (.str (S w')),some (.str (S m)),some (.ref t),some (.int (b:Int)),ve]/\la.length<=wd+1/\b<=w'.length/\H' r=some (.lst (lns.map fun l=>V.str (S l)))/\(∀ l∈lns,l.length<=310)/\lns.length+m'<=300 * (i+1)/\m'=2 * (w'.length - b)+(if la=[] then 0 else 1)/\∀ b o,b≠r->H2 b=some o->H' b=some o,fun _ _ h=>h,?_⟩
   ext
   have et2:Hb t=some (.tup (g.map fun k:Nat=>V.int (k:Int))):=by
    rw[kb _ _ etr et,Ng];rfl
   refine⟨t,g,b,_,rfl,et2,by omega,fun Hc e sc Hm=>?_⟩
   have erc:=sc _ _ erb
   have kc:∀ b o,b≠r->H2 b=some o->Hc b=some o:=fun b o h1 h2=>sc _ _ (kb b o h1 h2)
   rcases Hm with ⟨rfl,DH⟩ | ⟨K_,Do,hmx⟩
   ·ext
    refine N6 (by simp) ?_
    ext
    by_cases Eo:la=[]
    ·subst Eo
     try refine N6 (by simp) ?_
     ext
     refine Pn (Qh ?_)
     ext
     refine Qi (RK (by omega)) fun x d hx hd Cy=>⟨x,ad 4,ad 0,some d,rfl,LX,Z.x_TooNarrow,qw k x d _ LX ?_ fun b o eb=>?_⟩
     ·rw[L4 Cy,L4 Cy,LX]
     ·have ET:b≠r:=fun z=>by rw[z,Cc] at eb;cases eb
      rw[OR]
      exact((L_ hd _).trans (L_ (by rw[L4 (MB Cy)];exact hx) _)) _ _ (kc _ _ ET (s2 _ _ (s1 _ _ eb)))
    ·refine O9 (by rw[B6 fun z=>Eo (S_inj (by injection z))];rfl) ?_
     ext
     refine⟨_,?_,[],e,_,_,rfl,ML _,K9,Ub,Ua Gi (by have:=RM la none (some (-1));omega),?_,rfl,fun b o h1 h2=>?_⟩
     ·rw[hμ,B9 rfl,B8 Eo];omega
     ·rw[Mn,M6,B9 rfl];rw[hμ,B8 Eo] at IY;omega
     ·rw[L4 h1];exact kc b o h1 h2
   ·have IL:=Yd Hl e K_
    have La:b < e:=by
     unfold inR at Do
     simp only[MQ,decide_eq_true_eq] at Do
     omega
    have Lb:(cutA w' (some (b:Int)) (some (e:Int))).length<=w'.length:=RM _ _ _
    ext
    refine O9 (by simp;omega) ?_
    ext
    refine⟨_,?_,[],e,_,_,rfl,ML _,by omega,Ub,Ua Gi (by rw[Mn,Mn,M6];omega),?_,rfl,fun b o h1 h2=>?_⟩
    ·rw[hμ,B9 rfl];split <;> omega
    ·rw[Mn,M6,B9 rfl];rw[hμ] at IY;split at IY <;> omega
    ·rw[L4 h1];exact kc b o h1 h2
  ·have cc:¬ (wd:Int) < ((la++cutA w' (some (b:Int)) none++m).length:Int):=by simpa using cc
   ext
   refine⟨_,_,_,_,_,_,_,lns,rfl,?_,erb,Gi,by omega,kb⟩
   rw[Mn,M6]
   omega
 ·rintro σ Ha ⟨la,v5,v6,v7,v8,v9,v10,lns,rfl,FR,era,DB,IX,ka⟩
  have hsz:(lns.map fun l=>V.str (S l)).length < Ae:=by rw[L8];exact szn (by omega)
  have fin:∀ H',(∀ b o,b≠r->H2 b=some o->H' b=some o)->Same H H':=fun H' k b o eb=>by
   have ET:b≠r:=fun z=>by rw[z,Cc] at eb;cases eb
   exact k _ _ ET (s2 _ _ (s1 _ _ eb))
  ext
  by_cases Eo:la=[]
  ·subst Eo
   try refine N6 (by simp) ?_
   ext
   exact q r lns Ha era (by omega) DB (fin Ha ka)
  ·refine O9 (by rw[B6 fun z=>Eo (S_inj (by injection z))];rfl) ?_
   ext
   exact q r _ _ Ub (by rw[Mn,M6];omega) (Ua DB (by have:=RM la none (some (-1));omega)) (fin _ fun b o h1 h2=>by rw[L4 h1];exact ka b o h1 h2)
noncomputable abbrev s_read_broken:Av:=top 19
noncomputable abbrev s_check_word:Av:=top 70
theorem gK (H:Hp)(g:List Nat):L2.IsL H (g.map fun k:Nat=>V.int (k:Int)) (g.map fun k:Nat=>Dt.int (k:Int)):=by
 have:=L2.IsL.ints H (g.map fun k:Nat=>(k:Int))
 rw[Ng,Ng] at this
 exact this
theorem Yf:∀{l:List Nat}{s t:RS},rrun l s=some t->t.w.length<=s.w.length+l.length/\t.g.length<=s.g.length+l.length
 | [],s,t,h=>by cases h;exact⟨L' _,L' _⟩
 | c::r,s,t,h=>by
  simp only[rrun] at h
  cases e:OF s c with
  | none=>rw[e] at h;cases h
  | some s1 =>
   rw[e] at h
   have ih:=Yf h
   unfold OF at e
   split at e
   ·cases e;simp at ih ⊢;omega
   ·split at e
    ·cases e;simp at ih ⊢;omega
    ·cases e
def Yg (C:Ac):Sp:=fun vs H Q E=>∃ l:List Nat,vs=[.str (S l)]/\l.length<=1000/\(∀ w g,rrun l ⟨[],[],true⟩=some ⟨w,g,false⟩->∀ v H',Is H' v (brD w g)->Same H H'->Q v H') /\
 ∀ n,Nz l ⟨[],[],true⟩ 0=some n->∀ x d H',H' x=some (XO x C (some d) false)->H' d=some (.xd [("place",.int (n:Int))])->Same H H'->E (.ref x) (some d) H'
theorem gL (T:Txt mg tk)(Z:Cs K mg ad)(F:Fun K "read_broken" "read_broken" s_read_broken f fd)(Cg:Dn P w K mg base "is_letter" 1 ["sign"] X3)(Cj:Ini P w K mg base (ad 1) 1 ["self","place"] (Pm okTx (ad 1) "place")):FnOk P w K mg base (CXx P w) 3 f fd ["text"] (Yg (ad 1)):=by
 refine F.okx ["text","word","gaps","letter_lacks","place","sign"] ?_
 rintro _ _ _ _ H _ _ E hr ⟨l,rfl,hl,q,qe⟩ nd
 refine⟨_,(LZ (pst 1 nd LU)
  (LZ (pst 2 nd (Mp pa_nil))
  (LZ (pst 3 nd Nx)
  (LZ (NE SD rfl (Rh rfl T.z_enumerate (pv 0)) (Pw rfl (M8 (pnm 4 nd) (M8 (pnm 5 nd) OT)))
   (LY (Ma (MY (Mc Cg hr.L5 rfl (pa1 (pv 5))) (fun _=>rfl))
   (LZ (pst 1 nd (L7 Md (pv 1) (pv 5)))
  (LY (pst 3 nd Nx)))
   (LY (Ma (PW.pt (Pt (Mb (o_eq hr.units) (pv 5) LU (L9 _)) (PQ (Oq (MY (pv 3) (fun _=>rfl))))))
   (LZ (Na (MO (K:=K) Og OO OP OX (pv 2) (pa1 (pcb (MU (K:=K)) T.z_len (pa1 (pv 1))))))
  (LY (pst 3 nd Nx)))
   (LY (PD rfl PB (QP Z.x_NoWord Cj hr.L5 rfl Z.m_NoWord (pa1 (pv 4))))))))))
  (LZ (Ma (MY (pv 3) (fun _=>rfl))
   (LY (PD rfl PB (QP Z.x_NoWord Cj hr.L5 rfl Z.m_NoWord (pa1 (pcb (MU (K:=K)) T.z_len (pa1 (pv 0)))))))
   Mh)
  (LY (L6 (Sa (LS (pv 1) (pa1 (pct Rb T.z_tuple (pa1 (pv 2))))))))))))),?_⟩
 walk_at "s0"
 rw[Ox,P7]
 have throw:∀(n:Nat) (H2:Hp),Nz l ⟨[],[],true⟩ 0=some n->Same H H2->∀ x d,H2 x=none->H2 d=none->d≠x ->
   ∃(x' C' W':Ac) (od:Option Ac),V.ref x=.ref x'/\(upd (upd H2 d (.xd [("place",.int (n:Int))])) x (XO x (ad 1) (some d) true)) x'=some (XO x' C' od true)/\Exc K W' C'/\E (.ref x') od (upd (upd (upd H2 d (.xd [("place",.int (n:Int))])) x (XO x (ad 1) (some d) true)) x' (XO x' C' od false)):=fun n H2 hn s2 x d hx hd Cy=>by
  refine⟨x,ad 1,ad 0,some d,rfl,LX,Z.x_NoWord,qe n hn x d _ LX ?_ ?_⟩
  ·rw[L4 Cy,L4 Cy,LX]
  ·rw[OR]
   exact(s2.trans (L_ hd _)).trans (L_ (by rw[L4 (MB Cy)];exact hx) _)
 ext
 intro a ha
 ext
 refine Sb (fun i σ H2=>∃(rs:RS) (v1 v2:Option V),rrun (l.take i) ⟨[],[],true⟩=some rs/\σ=[some (.str (S l)),some (.str (S rs.w)),some (.ref a),some (.bl rs.lacks),v1,v2]/\H2 a=some (.lst (rs.g.map fun k:Nat=>V.int (k:Int)))/\Same H H2)
  ⟨⟨[],[],true⟩,none,none,by simp[rrun],rfl,LX,L_ ha _⟩ (fun _ _ _ _ _=>trivial) ?_ ?_
 ·rintro i v σ H2 T2 hv ⟨rs,v1,v2,h1,rfl,h2,s2⟩ hT
  rw[O_] at hv
  have hi:i < l.length:=by
   have:=(MS.mp hv).1
   simpa using this
  rw[MC,Mm hi] at hv
  cases hv
  have Eb:=Yf h1
  have DV:(S rs.w).length<=1000:=by rw[Me];simp at Eb;omega
  have aT:a≠T2:=Mj h2 hT
  have h2':(upd H2 T2 (PrX T2 [.int (((0:Nat):Int)+(i:Int)),.str (S [l[i]])])) a=some (.lst (rs.g.map fun k:Nat=>V.int (k:Int))):=by rw[L4 aT];exact h2
  have s2':Same H (upd H2 T2 (PrX T2 [.int (((0:Nat):Int)+(i:Int)),.str (S [l[i]])])):=s2.trans (L_ hT _)
  have GE:∀ rs',OF rs l[i]=some rs'->rrun (l.take (i+1)) ⟨[],[],true⟩=some rs':=fun rs' e=>by
   rw[Od,Mm hi,Wv,h1,QY]
   simp only[Option.toList,rrun,e,QY]
  have Ee:OF rs l[i]=none->Nz l ⟨[],[],true⟩ 0=some i:=fun e=>dZ h1 hi e
  have Ew:V.int (((0:Nat):Int)+(i:Int))=V.int (i:Int):=by congr 1;omega
  refine QJ LX rfl (M_ (MZ (M_ (MZ (O4 ?_)))))
  ext
  refine⟨l[i],rfl,?_⟩
  ext
  unfold OF at GE Ee
  refine iteB (fun c=>?_) (fun c=>?_)
  ·rw[B9 c] at GE
   ext
   have hsz:(S rs.w).length+(S [l[i]]).length<=Ae:=szn (by rw[Me] at DV ⊢;rw[Me];simp;omega)
   refine S_ hsz ?_
   ext
   rw[Ro]
   exact⟨_,_,_,GE _ rfl,rfl,h2',s2'⟩
  ·rw[B8 (by rw[c];exact Mi)] at GE Ee
   ext
   refine iteD (fun c45=>?_) (fun c45=>?_)
   ·have c45:l[i]=45:=by
     have z:V.str (S [l[i]])=V.str (S [45]):=c45
     injection z with z
     have:=S_inj z
     injection this
    ext
    refine iteB (fun e=>?_) (fun e=>?_)
    ·have e:rs.lacks=false:=by simpa using e
     rw[B9 ⟨c45,e⟩] at GE
     ext
     refine Rk h2' (szn (by simp at Eb ⊢;omega)) ?_
     ext
     refine⟨_,_,_,GE _ rfl,rfl,?_,fun b o e=>?_⟩
     ·rw[LX,Mr];rfl
     ·have hb:b≠a:=fun z=>by rw[z,ha] at e;cases e
      rw[L4 hb];exact s2' b o e
    ·have e:rs.lacks=true:=by simpa using e
     have hf:=Ee (by rw[B8 (by rw[e];simp)])
     refine Pn (Qh ?_)
     ext
     rw[Ew] at s2' ⊢
     exact Qi (RK (by omega)) fun x d hx hd Cy=>throw i _ hf s2' x d hx hd Cy
   ·have c45:l[i]≠45:=fun z=>c45 (by rw[z])
    have hf:=Ee (by rw[B8 (fun z=>c45 z.1)])
    ext
    refine Pn (Qh ?_)
    ext
    rw[Ew] at s2' ⊢
    exact Qi (RK (by omega)) fun x d hx hd Cy=>throw i _ hf s2' x d hx hd Cy
 ·rintro σ H2 ⟨rs,v1,v2,h1,rfl,h2,s2⟩
  rw[N3,Me,NO] at h1
  have Dw:=W0 h1
  ext
  refine iteB (fun e=>?_) (fun e=>?_)
  ·rw[B9 e] at Dw
   refine Pn (Qh ?_)
   ext
   exact Qi (RK hl) fun x d hx hd Cy=>throw _ _ Dw s2 x d hx hd Cy
  ·ext
   refine Rj (M9 h2) fun t H3 ht k3=>?_
   ext
   intro r Cc
   ext
   have HU:rs=⟨rs.w,rs.g,false⟩:=by rw[<- e]
   rw[HU] at h1
   refine q rs.w rs.g h1 (.ref r) _ ?_ (fun b o e=>(L_ Cc _) b o (k3 b o (s2 b o e)))
   simp only[Is,brD,L2.IsL]
   have tr:t≠r:=Mj ht Cc
   exact⟨r,_,rfl,LX,rfl,⟨t,_,rfl,by rw[L4 tr];exact ht,gK _ _⟩,trivial⟩
noncomputable abbrev s_can_stand:Av:=top 44
noncomputable abbrev s_read_pattern:Av:=top 45
noncomputable abbrev s_shown_number:Av:=top 46
noncomputable abbrev s_shown_pattern:Av:=top 47
theorem gM (l:List Nat):aP (S l) (S [46])=decide (l.getLast?=some 46):=by
 unfold aP
 rw[Rq,Me,Me]
 cases h:l.getLast? with
 | none =>
  have:l=[]:=by simpa using h
  subst this
  rfl
 | some c =>
  obtain⟨r,rfl⟩:=iX.mp h
  simp;rfl
theorem ZX (h:xs.getLast?=some v):atI xs (-1)=some v:=by
 obtain⟨r,rfl⟩:=iX.mp h
 unfold atI ixN
 rw[B8 (by decide)]
 have e:((-1:Int)+((r++[v]).length:Nat)).toNat=r.length:=by simp;omega
 rw[B9 (by simp;omega),e]
 simp
theorem Yh:Mg "123456789"=S [49,50,51,52,53,54,55,56,57]:=by decide +kernel
theorem Uc (c:Nat):Qy (S [49,50,51,52,53,54,55,56,57]) (S [c])=Pe c:=by
 rw[dw]
 unfold Pe
 rw[decide_eq_decide]
 exact(ah (s:=49) (n:=9)).trans ⟨fun h=>⟨h.1,aw h.2⟩,fun h=>⟨h.1,ax h.2⟩⟩
theorem S_inj :V.str (S a)=V.str (S b)↔a=b:=⟨fun h=>by injection h with h;injection h with h;simpa using congrArg UL h,fun h=>by rw[h]⟩
def spCan:Sp:=fun vs H Q _=>∃(c:Nat) (sg:List Nat) (n:Int),vs=[.str (S [c]),.str (S sg),.int n]/\sg.length<=1000/\Q (.bl (canS c sg n)) H
def Yi:Sp:=fun vs H Q _=>∃ n:Int,vs=[.int n]/\n<=9/\Q (.str (S (fig n))) H
def Yj:Sp:=fun vs H Q _=>∃(v:V) (x:Pat),vs=[v]/\Is H v (patD x)/\VP x.1 x.2/\∀ H',Same H H'->Q (.str (S (ptxt x.1 x.2))) H'
noncomputable def itm (s:List Nat)(ns:List Int):Nat->List (List Nat)
 | 0=>[]
 | i+1=>itm s ns i++[fig (ns.getD i 0)++[s.getD i 0]]
theorem Ud (s:List Nat)(ns:List Int):∀ i,(itm s ns i).length=i
 | 0=>rfl
 | i+1=>by simp only[itm,Mn,Ud s ns i];rfl
theorem Yk (s:List Nat)(ns:List Int):∀ i,(itm s ns i).flatten=pre s ns i
 | 0=>rfl
 | i+1=>by simp only[itm,pre,List.flatten_append,Yk s ns i];simp
theorem Yl (s:List Nat)(ns:List Int):∀ i,∀ l∈itm s ns i,l.length<=2
 | 0,l,h=>nomatch h
 | i+1,l,h=>by
  simp only[itm] at h
  rcases Nv.mp h with h | h
  ·exact Yl s ns i l h
  ·have:l=fig (ns.getD i 0)++[s.getD i 0]:=by simpa using h
   rw[this,Mn]
   have:(fig (ns.getD i 0)).length<=1:=by unfold fig;split <;> simp
   simp only[Mv,Qu];omega
theorem gN (h1:s≠[]) (h2:s≠[46]):inV (V.str (S s)) [V.str (S []),V.str (S [46])]=false:=by
 have e1:¬ (S []=S s):=fun z=>h1 (S_inj.mp (by rw[z])).symm
 have e2:¬ (S [46]=S s):=fun z=>h2 (S_inj.mp (by rw[z])).symm
 unfold inV
 simp only[OL,List.any_nil,eqV,Zq]
 simp[e1,e2]
theorem i_zpS (h1:H a=some (.tup ys)) (h:R (Izp (chs z) ys fun H=>H a=some (.tup ys)) H):zpIt R (.str z) (.ref a) H:=⟨ys,h1,h⟩
theorem i_zip (h:ta σ H fun x H1=>tb σ H1 fun y H2=>zpIt R x y H2):iZip ta tb σ H R:=h
def Ue (C:Ac):Sp:=fun vs H Q E=>∃ l:List Nat,vs=[.str (S l)]/\l.length<=1000/\(∀ u,L2.prun l ⟨[],[],0⟩=some u->u.sg≠[]->u.sg≠[46]->∀ v H',Is H' v (patD (u.sg,u.ns++[u.n]))->Same H H'->Q v H') /\
 ∀ n,Nl l ⟨[],[],0⟩ 0=some n->∀ x d H',H' x=some (XO x C (some d) false)->H' d=some (.xd [("place",.int (n:Int))])->Same H H'->E (.ref x) (some d) H'
theorem gO (T:Txt mg tk)(F:Fun K "shown_number" "shown_number" s_shown_number f fd):FnOk P w K mg base CX0 1 f fd ["number"] Yi:=by
 refine F.okk ["number"] ?_
 rintro _ _ _ _ H _ _ _ hr ⟨n,rfl,hn,q⟩ nd
 refine⟨_,(LY (L6 (UM (Mb o_gt (pv 0) LV (L9 _)) (pct c_str T.z_str (pa1 (pv 0))) LU))),?_⟩
 walk_at "s0"
 rw[Ox]
 ext
 refine iteD (fun c=>?_) (fun c=>?_)
 ·obtain⟨d,hd,rfl⟩:∃ d:Nat,d < 10/\n=(d:Int):=⟨n.toNat,by omega,by omega⟩
  have e:fig (d:Int)=[48+d]:=by unfold fig;rw[B9 c,aU]
  rw[e] at q
  ext
  refine⟨?_,?_⟩
  ·have:∀ d:Nat,d < 10->(d:Int).natAbs.log2 < 1920:=by decide
   exact this d hd
  ·rw[eI d hd]
   exact q
 ·have e:fig n=[]:=by unfold fig;rw[B8 (by omega)]
  rw[e] at q
  ext
  exact q
theorem gP (T:Txt mg tk)(F:Fun K "can_stand" "can_stand" s_can_stand f fd)(Cg:Dn P w K mg base "is_letter" 1 ["sign"] X3):FnOk P w K mg base CX0 2 f fd ["sign","signs","number"] spCan:=by
 refine F.okk ["sign","signs","number"] ?_
 rintro _ _ _ _ H _ Q _ hr ⟨c,sg,n,rfl,hs,q⟩ nd
 refine⟨_,(LZ (Ma (PW.pt (Pt (Mb o_gt (pcb (MU (K:=K)) T.z_len (pa1 (pv 1))) LV (L9 _)) (PQ (MY (MO (K:=K) NX PySem.F.slot_str_endswith PySem.F.type_str_endswith cP (pv 1) (pa1 LU)) (fun _=>rfl)))))
   (LY (L6 Nx))
   Mh)
  (LZ (Ma (Mb o_in (pv 0) (OD (v:=.str "123456789") rfl T.m_FIGURES ⟨_,rfl⟩) (by with_unfolding_all rfl))
   (LY (L6 (MT (o_eq hr.units) (pv 2) LV (L9 _))))
   Mh)
  (LZ (Ma (Mb (o_eq hr.units) (pcb (MU (K:=K)) T.z_len (pa1 (pv 1))) (OD (v:=.int 22) rfl T.m_MOST_SIGNS ⟨_,rfl⟩) (L9 _))
   (LY (L6 Nx))
   Mh)
  (LZ (Ma (Mb (o_eq hr.units) (pv 0) LU (L9 _))
   (LY (L6 (ND (MT (o_ne hr.units) (pv 1) LU (L9 _)) (NC (SK (MT (o_ne hr.units) (pv 1) LU (L9 _)) (NC (MT (o_eq hr.units) (pv 2) LV (L9 _))))))))
   Mh)
  (LY (L6 (Mc Cg hr.L5 rfl (pa1 (pv 0))))))))),?_⟩
 walk_at "s0"
 rw[Td,Yh,Ox]
 unfold canS at q
 have tail:¬ (1 < sg.length/\sg.getLast?=some 46)->Q (.bl (if Pe c=true then decide (n=0) else if sg.length=22 then false else if c=46 then decide (sg≠[46])&&(decide (sg≠[]) || decide (n=0)) else MK c)) H:=fun z=>by rwa [B8 z] at q
 ext
 refine iteD (fun c1=>?_) (fun c1=>?_)
 ·ext
  rw[gM]
  refine iteD (fun c2=>?_) (fun c2=>?_)
  ·ext
   rw[B9 ⟨by omega,c2⟩] at q
   exact q
  ·have q2:=tail (fun z=>c2 z.2)
   ext
   rw[Uc,Sw]
   refine iteB (fun d1=>?_) (fun d1=>?_)
   ·ext
    rw[B9 d1] at q2
    have e:decide (V.int n=V.int 0)=decide (n=0):=by
     by_cases z:n=0
     ·rw[z];rfl
     ·rw[B6 z];exact B6 fun y=>z (by injection y)
    rw[e]
    exact q2
   ·rw[B8 (by rw[d1];exact Mi)] at q2
    ext
    refine iteD (fun d2=>?_) (fun d2=>?_)
    ·have d2':sg.length=22:=by injection d2 with d2;omega
     rw[B9 d2'] at q2
     ext
     exact q2
    ·have d2':¬ sg.length=22:=fun z=>d2 (by rw[z];rfl)
     rw[B8 d2'] at q2
     ext
     refine iteD (fun d3=>?_) (fun d3=>?_)
     ·have d3':c=46:=by have:=S_inj.mp d3;simpa using this
      rw[B9 d3'] at q2
      ext
      refine iteB (fun d4=>?_) (fun d4=>?_)
      ·have d4':sg≠[46]:=fun z=>by rw[z] at d4;simp at d4
       rw[B7 d4',OM] at q2
       ext
       refine iteB (fun d5=>?_) (fun d5=>?_)
       ·have d5':sg≠[]:=fun z=>by rw[z] at d5;simp at d5
        rw[B7 d5',Zr] at q2
        ext
        try rw[d5]
        exact q2
       ·have d5':sg=[]:=by
         have:decide (V.str (S sg)=V.str (S []))=true:=by simpa using d5
         exact S_inj.mp (of_decide_eq_true this)
        rw[B6 (fun z:sg≠[]=>z d5'),QX] at q2
        ext
        have e:decide (V.int n=V.int 0)=decide (n=0):=by
         by_cases z:n=0
         ·rw[z];rfl
         ·rw[B6 z];exact B6 fun y=>z (by injection y)
        rw[e]
        exact q2
      ·have d4':sg=[46]:=by
        have:decide (V.str (S sg)=V.str (S [46]))=true:=by simpa using d4
        exact S_inj.mp (of_decide_eq_true this)
       rw[B6 (fun z:sg≠[46]=>z d4'),QW] at q2
       ext
       try rw[d4]
       exact q2
     ·have d3':¬ c=46:=fun z=>d3 (by rw[z])
      rw[B8 d3'] at q2
      ext
      exact⟨c,rfl,q2⟩
 ·have q2:=tail (fun z=>c1 (by omega))
  ext
  rw[Uc,Sw]
  refine iteB (fun d1=>?_) (fun d1=>?_)
  ·ext
   rw[B9 d1] at q2
   have e:decide (V.int n=V.int 0)=decide (n=0):=by
    by_cases z:n=0
    ·rw[z];rfl
    ·rw[B6 z];exact B6 fun y=>z (by injection y)
   rw[e]
   exact q2
  ·rw[B8 (by rw[d1];exact Mi)] at q2
   ext
   refine iteD (fun d2=>?_) (fun d2=>?_)
   ·have d2':sg.length=22:=by injection d2 with d2;omega
    rw[B9 d2'] at q2
    ext
    exact q2
   ·have d2':¬ sg.length=22:=fun z=>d2 (by rw[z];rfl)
    rw[B8 d2'] at q2
    ext
    refine iteD (fun d3=>?_) (fun d3=>?_)
    ·have d3':c=46:=by have:=S_inj.mp d3;simpa using this
     rw[B9 d3'] at q2
     ext
     refine iteB (fun d4=>?_) (fun d4=>?_)
     ·have d4':sg≠[46]:=fun z=>by rw[z] at d4;simp at d4
      rw[B7 d4',OM] at q2
      ext
      refine iteB (fun d5=>?_) (fun d5=>?_)
      ·have d5':sg≠[]:=fun z=>by rw[z] at d5;simp at d5
       rw[B7 d5',Zr] at q2
       ext
       try rw[d5]
       exact q2
      ·have d5':sg=[]:=by
        have:decide (V.str (S sg)=V.str (S []))=true:=by simpa using d5
        exact S_inj.mp (of_decide_eq_true this)
       rw[B6 (fun z:sg≠[]=>z d5'),QX] at q2
       ext
       have e:decide (V.int n=V.int 0)=decide (n=0):=by
        by_cases z:n=0
        ·rw[z];rfl
        ·rw[B6 z];exact B6 fun y=>z (by injection y)
       rw[e]
       exact q2
     ·have d4':sg=[46]:=by
       have:decide (V.str (S sg)=V.str (S [46]))=true:=by simpa using d4
       exact S_inj.mp (of_decide_eq_true this)
      rw[B6 (fun z:sg≠[46]=>z d4'),QW] at q2
      ext
      try rw[d4]
      exact q2
    ·have d3':¬ c=46:=fun z=>d3 (by rw[z])
     rw[B8 d3'] at q2
     ext
     exact⟨c,rfl,q2⟩
theorem gQ (T:Txt mg tk)(F:Fun K "shown_pattern" "shown_pattern" s_shown_pattern f fd)(CA:Dn P w K mg base "shown_number" 1 ["number"] Yi):FnOk P w K mg base CX0 2 f fd ["pattern"] Yj:=by
 refine F.okk ["pattern","signs","numbers","shown"] ?_
 rintro _ _ _ _ H _ _ _ hr ⟨v,x,rfl,hv,hx,q⟩ nd
 obtain⟨a,t,rfl,ha,ht⟩:=P9 hv
 have Ff:=hx.len
 have EK:=hx.nlen
 refine⟨_,(LZ (pst 1 nd (pix K (pv 0) LV))
  (LZ (pst 2 nd (pix K (pv 0) LV))
  (LZ (ps_setC (i:=3) ["sign","number"] [none,none] rfl (by kernel_rfl) rfl nd rfl rfl (pi_zip rfl T.z_zip (pv 1) (pv 2)) (fun _ _ _ _=>(XM (K:=K) (n:=2) rfl rfl (M8 (NZ (i:=0) (show (["sign","number"]:List Str).Nodup by decide +kernel) rfl (Or.inl rfl) (Or.inr rfl)) (M8 (NZ (i:=1) (show (["sign","number"]:List Str).Nodup by decide +kernel) rfl (Or.inl rfl) (Or.inr rfl)) OT)))) (fun _ _ _ _=>Q4) (fun _ _ _ _=>(L7 Md (Mc CA hr.L5 rfl (pa1 (pv 1))) (pv 0))))
  (LY (L6 (L7 Md (MO (K:=K) NX Sz SA S4 LU (pa1 (pv 3))) (Mc CA hr.L5 rfl (pa1 (pix K (pv 2) (QE QI LV)))))))))),?_⟩
 walk_at "s0"
 rw[Ox]
 ext
 refine i_zip ?_
 ext
 refine i_zpS ht ?_
 intro r Cc
 refine eF x.1.length (by rw[N3,Me,L8];omega) (fun i Ca σ H'=>∃ v1 v2,σ=[v1,v2]/\Ca=(itm x.1 x.2 i).map (fun l=>V.str (S l))/\Same H H'/\H' r=some (.lst Ca))
  (fun i Ca σ H' _ ⟨_,_,_,_,s1,_⟩=>s1 _ _ ht) ⟨none,none,rfl,rfl,L_ Cc _,LX⟩ (fun i Ca σ H' ⟨_,_,_,e,_,e2⟩=>⟨e2,by rw[e,L8,Ud];exact L' _⟩) (szn (by omega)) ?_ ?_
 ·rintro i u v Ca σ H1 T2 hu hv' ⟨v1,v2,rfl,rfl,s1,e1⟩ hT
  rw[O_] at hu
  have hi:i < x.1.length:=by
   have:=(MS.mp hu).1
   simpa using this
  rw[MC,Mm hi] at hu
  cases hu
  rw[MC,Mm (show i < x.2.length by omega)] at hv'
  cases hv'
  have h9:=(hx.num i (by omega)).2
  have eg:x.2.getD i 0=x.2[i]:=by rw[Mq,Mm (show i < x.2.length by omega)];rfl
  have es:x.1.getD i 0=x.1[i]:=by rw[Mq,Mm hi];rfl
  rw[eg] at h9
  have rT:r≠T2:=Mj e1 hT
  have s2:=L_ hT (PrX T2 [.str (S [x.1[i]]),.int x.2[i]])
  have e2:=s2 _ _ e1
  have Ee:(fig x.2[i]).length<=1:=by unfold fig;split <;> simp
  refine QJ LX rfl (M_ (MZ (M_ (MZ (O4 ?_)))))
  ext
  refine⟨_,rfl,h9,?_⟩
  ext
  refine⟨e2,_,_,rfl,?_,fun b o e=>?_,LX⟩
  ·simp only[itm]
   rw[Mr,eg,es];rfl
  ·have ET:b≠r:=fun z=>by rw[z,Cc] at e;cases e
   rw[L4 ET];exact s2 _ _ (s1 b o e)
 ·rintro Ca σ H1 ⟨v1,v2,rfl,rfl,s1,e1⟩
  have Hd:=s1 _ _ ht
  have Hn:atI (x.2.map V.int) (-1)=some (V.int (x.2.getD x.1.length 0)):=ZX (by
   rw[List.getLast?_map,Z7,show x.2.length - 1=x.1.length by omega,Mm (show x.1.length < x.2.length by omega),Mq,Mm (show x.1.length < x.2.length by omega)];rfl)
  have h9:=(hx.num x.1.length (by omega)).2
  have Cz:=W7 x.1 x.2
  have HQ:((itm x.1 x.2 x.1.length).map fun l=>V.str (S l))=((itm x.1 x.2 x.1.length).map S).map V.str:=by rw[Ng];rfl
  rw[HQ] at e1
  have EO:=Tt x.1 x.2 x.1.length
  have Ee:(fig (x.2.getD x.1.length 0)).length<=1:=by unfold fig;split <;> simp
  ext
  refine Rl (QH e1) ?_ ?_
  ·have h1:(((itm x.1 x.2 x.1.length).map S).map (·.length)).sum<=(itm x.1 x.2 x.1.length).length * 2:=by
    have gen:∀ ls:List (List Nat),(∀ l∈ls,l.length<=2)->((ls.map S).map (·.length)).sum<=ls.length * 2:=by
     intro ls
     induction ls with
     | nil=>intro _;exact L' _
     | cons l ls ih =>
      intro h
      have a1:=ih fun z hz=>h z (MP _ hz)
      have a2:=h l MV
      simp only[Mu,Zo,Me,Mv]
      omega
    exact gen _ (Yl x.1 x.2 _)
   rw[Ud] at h1
   have h0:(S []).length=0:=by rw[Me];rfl
   rw[h0]
   omega
  have hj:SG (S []) ((itm x.1 x.2 x.1.length).map S)=S (pre x.1 x.2 x.1.length):=by rw[Wz,Wr,Yk]
  rw[hj]
  ext
  refine⟨_,rfl,h9,?_⟩
  ext
  exact q H1 s1
theorem gR (T:Txt mg tk)(Z:Cs K mg ad)(F:Fun K "read_pattern" "read_pattern" s_read_pattern f fd)(Df:Dn P w K mg base "can_stand" 2 ["sign","signs","number"] spCan)(Cv:Ini P w K mg base (ad 2) 1 ["self","place"] (Pm okTx (ad 2) "place")):FnOk P w K mg base (CXx P w) 3 f fd ["text"] (Ue (ad 2)):=by
 refine F.okx ["text","signs","numbers","place","sign"] ?_
 rintro _ _ _ _ H _ _ E hr ⟨l,rfl,hl,q,qe⟩ nd
 refine⟨_,(LZ (pst 1 nd LU)
  (LZ (pst 2 nd (Mp (pa1 LV)))
  (LZ (NE SD rfl (Rh rfl T.z_enumerate (pv 0)) (Pw rfl (M8 (pnm 3 nd) (M8 (pnm 4 nd) OT)))
   (LZ (Ma (Oq (MY (Mc Df hr.L5 rfl (LS (pv 4) (LS (pv 1) (pa1 (pix K (pv 2) (QE QI LV)))))) (fun _=>rfl)))
   (LY (PD rfl PB (QP Z.x_NoPattern Cv hr.L5 rfl Z.m_NoPattern (pa1 (pv 3)))))
   Mh)
  (LY (Ma (Mb o_in (pv 4) (OD (v:=.str "123456789") rfl T.m_FIGURES ⟨_,rfl⟩) (by with_unfolding_all rfl))
   (LY (OV (pct Qc T.z_int (pa1 (pv 4))) (OU (pv 2) (QE QI LV) OZ)))
   (LZ (pst 1 nd (L7 Md (pv 1) (pv 4)))
  (LY (Na (MO (K:=K) Og OO OP OX (pv 2) (pa1 LV)))))))))
  (LZ (Ma (Mb o_in (pv 1) (Sa (LS LU (pa1 LU))) (by with_unfolding_all rfl))
   (LY (PD rfl PB (QP Z.x_NoPattern Cv hr.L5 rfl Z.m_NoPattern (pa1 (pcb (MU (K:=K)) T.z_len (pa1 (pv 0)))))))
   Mh)
  (LY (L6 (Sa (LS (pv 1) (pa1 (pct Rb T.z_tuple (pa1 (pv 2)))))))))))),?_⟩
 walk_at "s0"
 rw[Ox,Yh,Td]
 have throw:∀(n:Nat) (H2:Hp),Nl l ⟨[],[],0⟩ 0=some n->Same H H2->∀ x d,H2 x=none->H2 d=none->d≠x ->
   ∃(x' C' W':Ac) (od:Option Ac),V.ref x=.ref x'/\(upd (upd H2 d (.xd [("place",.int (n:Int))])) x (XO x (ad 2) (some d) true)) x'=some (XO x' C' od true)/\Exc K W' C'/\E (.ref x') od (upd (upd (upd H2 d (.xd [("place",.int (n:Int))])) x (XO x (ad 2) (some d) true)) x' (XO x' C' od false)):=fun n H2 hn s2 x d hx hd Cy=>by
  refine⟨x,ad 2,ad 0,some d,rfl,LX,Z.x_NoPattern,qe n hn x d _ LX ?_ ?_⟩
  ·rw[L4 Cy,L4 Cy,LX]
  ·rw[OR]
   exact(s2.trans (L_ hd _)).trans (L_ (by rw[L4 (MB Cy)];exact hx) _)
 ext
 intro a ha
 ext
 refine Sb (fun i σ H2=>∃(u:PS3) (v1 v2:Option V),L2.prun (l.take i) ⟨[],[],0⟩=some u/\σ=[some (.str (S l)),some (.str (S u.sg)),some (.ref a),v1,v2]/\H2 a=some (.lst ((u.ns++[u.n]).map V.int))/\Same H H2)
  ⟨⟨[],[],0⟩,none,none,by simp[L2.prun],rfl,LX,L_ ha _⟩ (fun _ _ _ _ _=>trivial) ?_ ?_
 ·rintro i v σ H2 T2 hv ⟨u,v1,v2,h1,rfl,h2,s2⟩ hT
  rw[O_] at hv
  have hi:i < l.length:=by
   have:=(MS.mp hv).1
   simpa using this
  rw[MC,Mm hi] at hv
  cases hv
  have D0:∀ u',L2.Nq u l[i]=some u'->L2.prun (l.take (i+1)) ⟨[],[],0⟩=some u':=fun u' e=>ee h1 hi e
  have Ee:L2.Nq u l[i]=none->Nl l ⟨[],[],0⟩ 0=some i:=fun e=>d_ h1 hi e
  have Ew:V.int (((0:Nat):Int)+(i:Int))=V.int (i:Int):=by congr 1;omega
  have Eb:=W8 h1
  have hw3:(l.take i).length<=l.length:=by rw[MI];omega
  simp only[Qu,aA] at Eb
  have aT:a≠T2:=Mj h2 hT
  have s3:=L_ hT (PrX T2 [.int (((0:Nat):Int)+(i:Int)),.str (S [l[i]])])
  have h3:=s3 _ _ h2
  have s23:=s2.trans s3
  generalize EW:upd H2 T2 (PrX T2 [.int (((0:Nat):Int)+(i:Int)),.str (S [l[i]])])=H3 at s3 h3 s23 ⊢
  refine QJ (by rw[<- EW];exact LX) rfl (M_ (MZ (M_ (MZ (O4 ?_)))))
  have Hn:atI ((u.ns++[u.n]).map V.int) (-1)=some (V.int u.n):=ZX (by rw[Mr];simp)
  ext
  refine⟨l[i],u.sg,u.n,rfl,by omega,?_⟩
  unfold L2.Nq at D0 Ee
  cases hc:canS l[i] u.sg u.n with
  | false =>
   rw[B8 (by rw[hc];exact Mi)] at Ee
   have hf:=Ee rfl
   ext
   refine Pn (Qh ?_)
   ext
   rw[Ew]
   exact Qi (RK (by omega)) fun x d hx hd Cy=>throw i _ hf s23 x d hx hd Cy
  | true =>
   rw[B9 hc] at D0
   ext
   rw[Uc,Sw]
   cases hf:Pe l[i] with
   | true =>
    rw[B9 hf] at D0
    ext
    have hf':=of_decide_eq_true hf
    obtain⟨d,hd,ed⟩:∃ d:Nat,d < 10/\l[i]=48+d:=⟨l[i] - 48,by omega,by omega⟩
    refine⟨(d:Int),by rw[ed];exact eG d hd,by rw[Me];show 1<=640;decide,?_⟩
    have IP:ixN ((u.ns++[u.n]).map V.int).length (-1)=some u.ns.length:=by
     unfold ixN
     rw[B8 (by decide),B9 (by simp;omega)]
     congr 1
     simp;omega
    ext
    refine S' h3 IP ?_
    have eset:((u.ns++[u.n]).map V.int).set u.ns.length (V.int (d:Int))=(u.ns++[(d:Int)]).map V.int:=by
     rw[Mr,Mr,List.set_append_right _ _ (by simp)];simp
    rw[eset]
    ext
    refine⟨⟨u.sg,u.ns,(l[i]:Int) - 48⟩,_,_,D0 _ rfl,rfl,?_,fun b o e=>?_⟩
    ·rw[LX,ed,show (((48+d:Nat):Int) - 48)=(d:Int) by omega]
    ·have hb:b≠a:=fun z=>by rw[z,ha] at e;cases e
     rw[L4 hb];exact s23 b o e
   | false =>
    rw[B8 (by rw[hf];exact Mi)] at D0
    have FG:((u.ns++[u.n]).map V.int).length < Ae:=szn (by simp;omega)
    ext
    refine⟨⟨u.sg++[l[i]],u.ns++[u.n],0⟩,_,_,D0 _ rfl,rfl,?_,fun b o e=>?_⟩
    ·rw[LX,Mr (l₂:=[0])];rfl
    ·have hb:b≠a:=fun z=>by rw[z,ha] at e;cases e
     rw[L4 hb];exact s23 b o e
 ·rintro σ H2 ⟨u,v1,v2,h1,rfl,h2,s2⟩
  rw[N3,Me,NO] at h1
  have Dw:=Tu h1
  ext
  intro tp IN
  have s3:=L_ IN (.tup [.str (S []),.str (S [46])])
  refine NI (UP LX) ⟨rfl,rfl⟩ ?_
  have h3:=s3 _ _ h2
  by_cases HV:u.sg=[]∨u.sg=[46]
  ·rw[B9 HV] at Dw
   have Do:inV (V.str (S u.sg)) [V.str (S []),V.str (S [46])]=true:=by
    rcases HV with e | e
    ·rw[e];decide +kernel
    ·rw[e];decide +kernel
   dsimp only
   rw[Do]
   ext
   refine Pn (Qh ?_)
   ext
   exact Qi (RK hl) fun x d hx hd Cy=>throw _ _ Dw (s2.trans s3) x d hx hd Cy
  ·have no1:u.sg≠[]:=fun z=>HV (.inl z)
   have no2:u.sg≠[46]:=fun z=>HV (.inr z)
   have Do:inV (V.str (S u.sg)) [V.str (S []),V.str (S [46])]=false:=gN no1 no2
   dsimp only
   rw[Do]
   ext
   refine Rj (M9 h3) fun t H3 ht k3=>?_
   ext
   intro r Cc
   ext
   have s4:=L_ Cc (.tup [.str (S u.sg),.ref t])
   exact q u h1 no1 no2 (.ref r) _ (Tf (x:=(u.sg,u.ns++[u.n])) LX (s4 _ _ ht)) ((s2.trans s3).trans (fun b o e=>s4 b o (k3 b o e)))
noncomputable abbrev s_with_told:Av:=top 25
noncomputable abbrev s_shown_word:Av:=top 71
noncomputable abbrev s_with_pattern_more:Av:=top 73
noncomputable abbrev s_parted:Av:=top 72
theorem szlt (h:n < 1000000):n < Ae:=Nh h (by decide)
theorem Sk (hr:H r=none) (s:Same H H'):Same H (upd H' r o):=fun b o' e=>by
 rw[L4 (Mj e hr)];exact s b o' e
theorem Ym (told:List Pat)(z:List Nat)(ns:List Int):(putG told z ns).length<=told.length+1:=by
 unfold putG
 split
 ·rw[L8];omega
 ·rw[Mn];simp
theorem Yn (h:y∈putG told z ns):y∈told∨y=(z,ns):=by
 unfold putG at h
 split at h
 ·obtain⟨x,hx,rfl⟩:=Nw.mp h
  by_cases e:x.1=z
  ·rw[B9 e];exact .inr (by rw[e])
  ·rw[B8 e];exact .inl hx
 ·rcases Nv.mp h with h | h
  ·exact .inl h
  ·exact .inr (OJ.mp h)
theorem Uf (h:(told.map (·.1)).Nodup):((putG told z ns).map (·.1)).Nodup:=by
 unfold putG
 split
 ·have e:(told.map fun y=>if y.1=z then (y.1,ns) else y).map (·.1)=told.map (·.1):=by
   rw[Ng]
   apply UA
   intro y _
   show (if y.1=z then (y.1,ns) else y).1=y.1
   split <;> rfl
  rw[e];exact h
 ·rename_i hn
  rw[Mr]
  refine List.nodup_append.mpr ⟨h,by simp,fun a ha b hb e=>?_⟩
  obtain⟨y,hy,rfl⟩:=Nw.mp ha
  have hb:b=z:=by simpa using hb
  exact hn (UD.mpr ⟨y,hy,B7 (e.trans hb)⟩)
theorem Yo {H:Hp}:∀{B':List (Key×V)}{told:List Pat},NT H B' told->B'.length=told.length
 | [],[],_=>rfl
 | [],_::_,h=>h.elim
 | _::_,[],h=>h.elim
 | _::_,_::_,h=>by rw[Mv,Mv,Yo h.2.2]
def spWT (C:Ac):Sp:=fun vs H Q _=>∃(bp bkd bld:Ac) (v:V) (pats told:List Pat) (hd tl:Int) (x:Pat),vs=[.ref bp,v]/\BrkAt C H bp bkd bld pats told hd tl/\Is H v (patD x)/\pats.length<=1000/\told.length<=999/\(told.map (·.1)).Nodup /\
 ∀(p kd ld:Ac) (H':Hp),H p=none->H kd=none->H ld=none->BrkAt C H' p kd ld pats (putG told x.1 x.2) hd tl->Same H H'->Q (.ref p) H'
noncomputable def NM:List Nat->Nat->Option Nat
 | [],_=>none
 | c::r,k=>if MK c=true then NM r (k+1) else some k
noncomputable def wbad (l:List Nat):Option Nat:=if l=[] then some 0 else NM l 0
theorem Yp:∀{l:List Nat}{k:Nat},NM l k=none->∀ c∈l,MK c=true
 | [],_,_,c,h=>nomatch h
 | x::r,k,h,c,hc=>by
  unfold NM at h
  by_cases e:MK x=true
  ·rw[B9 e] at h
   rcases Mo.mp hc with rfl | hc
   ·exact e
   ·exact Yp h c hc
  ·rw[B8 e] at h;cases h
def Yq (C:Ac):Sp:=fun vs H Q E=>∃ l:List Nat,vs=[.str (S l)]/\l.length<=1000/\(wbad l=none->∀ H',Same H H'->Q .non H')/\∀ n:Nat,wbad l=some n->refuses C "place" (.int (n:Int)) H E
def Yr (C NW:Ac):Sp:=fun vs H Q E=>∃(p kd ld:Ac) (b:Bp) (l:List Nat),vs=[.ref p,.str (S l)]/\BrkAt C H p kd ld b.pats b.told b.hd b.tl/\OkB b.pats b.told/\l.length<=100 /\
 (wbad l=none->∀ g H',RG b.pats b.told b.hd b.tl l=g.map (fun k:Nat=>(k:Int))->Same H H'->Q (.str (S (txt l g l.length))) H')/\∀ n:Nat,wbad l=some n->refuses NW "place" (.int (n:Int)) H E
noncomputable def Ug (c:Nat)(ls:List (List Nat)):List Nat:=if ls=[] then [110,111,110,101] else M5 c ls
def Ys:Sp:=fun vs H Q _=>∃(a:Ac) (ls:List (List Nat)) (c:Nat),vs=[.ref a,.str (S [c])]/\H a=some (.lst (ls.map fun l=>V.str (S l)))/\ls.length<=30001/\(∀ l∈ls,l.length<=310)/\Q (.str (S (Ug c ls))) H
def spWPM (C NP:Ac):Sp:=fun vs H Q E=>∃(bp bkd bld:Ac) (b:Bp) (l:List Nat),vs=[.ref bp,.str (S l)]/\BrkAt C H bp bkd bld b.pats b.told b.hd b.tl/\OkB b.pats b.told/\l.length<=1000 /\
 (∀ u,L2.prun l ⟨[],[],0⟩=some u->u.sg≠[]->u.sg≠[46]->∀(p kd ld:Ac) (H':Hp),H p=none->H kd=none->H ld=none->BrkAt C H' p kd ld (b.pats++[(u.sg,u.ns++[u.n])]) b.told b.hd b.tl->Same H H'->Q (.ref p) H') /\
 ∀ n:Nat,Nl l ⟨[],[],0⟩ 0=some n->refuses NP "place" (.int (n:Int)) H E
theorem t_none:Mg "none"=S [110,111,110,101]:=by decide +kernel
theorem Yt (c:Nat):∀(w:List Nat) (r:List (List Nat)),M5 c (w::r)=w++(r.map fun x=>c::x).flatten
 | w,[]=>by simp[M5]
 | w,v::r=>by
  have ih:=Yt c v r
  have e:M5 c (w::v::r)=w++c::M5 c (v::r):=rfl
  rw[e,ih]
  simp
theorem Yu (c:Nat):∀(r:List (List Nat)) (Ca:Array Nat),((r.map S).foldl (fun Ca p=>Ca++(S [c]).cps++p.cps) Ca).toList=Ca.toList++(r.map fun x=>c::x).flatten
 | [],Ca=>by simp
 | x::r,Ca=>by
  rw[Mu,al,Yu c r]
  simp[S]
theorem Yv (c:Nat)(ws:List (List Nat)):SG (S [c]) (ws.map S)=S (M5 c ws):=by
 unfold SG PySem.Builtin.Str.glued
 cases ws with
 | nil=>rfl
 | cons w r =>
  rw[Yt]
  simp only[Mu,List.drop_succ_cons,U9,List.headD_cons]
  have:=Yu c r (S w).cps
  unfold S at this ⊢
  congr 1
  apply Array.ext'
  exact this
theorem Yw {n:Nat}:∀(ls:List (List Nat)),(∀ x∈ls,x.length<=n)->((ls.map S).map (·.length)).sum<=ls.length * n
 | [],_=>by simp
 | x::ls,h=>by
  have ih:=Yw ls fun y hy=>h y (MP _ hy)
  have:=h x MV
  simp only[Mu,Zo,Mv,ay,Me]
  omega
theorem gS (T:Txt mg tk)(O:Ow K mg cO)(F:Fun K "with_told" "with_told" s_with_told f fd)(Cf:Dk P w K mg base cO 2 ["self","patterns","told","head","tail"] (RH cO)):FnOk P w K mg base CX0 4 f fd ["breaker","broken"] (spWT cO):=by
 refine F.okk ["breaker","broken","known"] ?_
 rintro _ _ _ s H _ _ _ hr ⟨bp,bkd,bld,v,pats,told,hd,tl,x,rfl,hB,hv,Cz,Eu,EU,q⟩ nd
 obtain⟨dx0,ys0,B',e1,e2,hN,e3,Em⟩:=id hB
 obtain⟨va,vt,rfl,ha,ht⟩:=P9 hv
 have Ed:=Yo hN
 refine⟨_,(LZ (pst 2 nd (pct c_dict T.z_dict (pa1 (Np (pv 0) rfl))))
  (LZ (To (QG hr) (pv 2) (pix K (pv 1) LV) (pix K (pv 1) LV) rfl)
  (LY (L6 (Tx Cf hr.L5 rfl O.m_Breaker (LS (Np (pv 0) rfl) (LS (pct (Xe rfl) T.z_list (pa1 (S7 (K:=K) ja aE jb Xd (pv 2)))) (LS (Np (pv 0) rfl) (pa1 (Np (pv 0) rfl)))))))))),?_⟩
 walk_at "s0"
 ext
 refine Nr ?_
 ext
 refine Nt e1 O.cl O.n_told_gaps rfl ?_
 ext
 refine fG e2 fun nk Kb=>?_
 obtain⟨H1,EV,s1,enk⟩:=Ms Kb (.dK B')
 rw[EV]
 ext
 refine TV ?_
 have DK:=s1 _ _ ha
 have Hd:=s1 _ _ ht
 ext
 refine⟨nk,_,rfl,.inl ⟨B',Sum.inr (S x.1),enk,rfl,szlt (by omega),rfl⟩,?_⟩
 have Lc:=(hN.same s1).put (s:=x.1) (ns:=x.2) Hd
 have k2:∀ b o,b≠nk->H1 b=some o->(upd H1 nk (.dK (putK B' (Sum.inr (S x.1)) (.ref vt)))) b=some o:=fun b o h e=>by rw[L4 h];exact e
 have s02:Same H (upd H1 nk (.dK (putK B' (Sum.inr (S x.1)) (.ref vt)))):=Sk Kb s1
 have Hf:=Lc.tups (H':=upd H1 nk (.dK (putK B' (Sum.inr (S x.1)) (.ref vt)))) fun b zs e=>k2 b _ (fun z=>by rw[z,enk] at e;cases e) e
 have enk2:=LX (H:=H1) (a:=nk) (o:=.dK (putK B' (Sum.inr (S x.1)) (.ref vt)))
 generalize upd H1 nk (.dK (putK B' (Sum.inr (S x.1)) (.ref vt)))=H2 at s02 Hf enk2 ⊢
 ext
 refine Qb ?_
 ext
 refine Nr ?_
 ext
 refine Nt (s02 _ _ e1) O.cl O.n_patterns rfl ?_
 ext
 refine⟨Or.inr (Or.inr (Or.inl ⟨rfl,Or.inl ⟨_,enk2⟩⟩)),Xf enk2 fun v Ho=>?_⟩
 obtain⟨H3,EW,s3,ev⟩:=Ms Ho (VW v nk)
 rw[EW]
 ext
 refine Xg ev (s3 _ _ enk2) fun l Ts H4 hl el G2 GO s4=>?_
 have s04:=s02.trans (s3.trans s4)
 have He:L2.IsL H4 (Ts.map V.ref) ((putG told x.1 x.2).map patD):=T0 s4 (Hf.same s3) G2 GO
 ext
 refine Nr ?_
 ext
 refine Nt (s04 _ _ e1) O.cl O.n_head rfl ?_
 ext
 refine Nr ?_
 ext
 refine Nt (s04 _ _ e1) O.cl O.n_tail rfl ?_
 ext
 intro xo dx hx Ft Cy
 have s5:Same H4 (upd (upd H4 dx (.own xo)) xo (.ins cO dx [])):=fun b o e=>by
  rw[L4 (Mj e hx),L4 (Mj e Ft)];exact e
 have e4:=LX (H:=upd H4 dx (.own xo)) (a:=xo) (o:=.ins cO dx [])
 generalize upd (upd H4 dx (.own xo)) xo (.ins cO dx [])=H5 at s5 e4 ⊢
 have s05:=s04.trans s5
 have D9:=Ym told x.1 x.2
 refine⟨xo,bld,l,dx,ys0,Ts.map V.ref,pats,putG told x.1 x.2,hd,tl,rfl,e4,s05 _ _ e3,s5 _ _ el,IsL.same s05 Em,IsL.same s5 He,Uf EU,by omega,Cz,fun kd ld H6 Fe EG Gj off=>⟨rfl,?_⟩⟩
 ext
 exact q xo kd ld H6 (s04.free hx) (s05.free Fe) (s05.free EG) Gj fun b o e=>off b o (Mj (s04 _ _ e) hx) (s05 _ _ e)
theorem gT (T:Txt mg tk)(Z:Cs K mg ad)(F:Fun K "check_word" "check_word" s_check_word f fd)(Cg:Dn P w K mg base "is_letter" 1 ["sign"] X3)(Cj:Ini P w K mg base (ad 1) 1 ["self","place"] (Pm okTx (ad 1) "place")):FnOk P w K mg base (CXx P w) 3 f fd ["text"] (Yq (ad 1)):=by
 refine F.okx ["text","place","sign"] ?_
 rintro _ _ _ _ H _ _ _ hr ⟨l,rfl,hl,q,qe⟩ nd
 refine⟨_,(LZ (Ma (Mb (o_eq hr.units) (pv 0) LU (L9 _))
   (LY (PD rfl PB (QP Z.x_NoWord Cj hr.L5 rfl Z.m_NoWord (pa1 LV))))
   Mh)
  (LY (NE SD rfl (Rh rfl T.z_enumerate (pv 0)) (Pw rfl (M8 (pnm 1 nd) (M8 (pnm 2 nd) OT)))
   (LY (Ma (Oq (MY (Mc Cg hr.L5 rfl (pa1 (pv 2))) (fun _=>rfl)))
   (LY (PD rfl PB (QP Z.x_NoWord Cj hr.L5 rfl Z.m_NoWord (pa1 (pv 1)))))
   Mh))))),?_⟩
 walk_at "s0"
 rw[Ox]
 ext
 by_cases h0:l=[]
 ·refine Nb (by rw[h0]) ?_
  ext
  refine Pn (Qh ?_)
  ext
  refine Qi (RK (show 0<=1000 by decide)) fun x d hx hd Cy=>⟨x,ad 1,ad 0,some d,rfl,LX,Z.x_NoWord,qe 0 (by unfold wbad;rw[B9 h0]) x d _ LX ?_ ?_⟩
  ·rw[L4 Cy,L4 Cy,LX];rfl
  ·rw[OR]
   exact(L_ hd _).trans (L_ (by rw[L4 (MB Cy)];exact hx) _)
 ·refine Nc (fun z=>h0 (S_inj.mp z)) ?_
  have Kc:wbad l=NM l 0:=by unfold wbad;rw[B8 h0]
  ext
  refine Sb (fun i σ H2=>∃(v1 v2:Option V),σ=[some (.str (S l)),v1,v2]/\NM l 0=NM (l.drop i) i/\Same H H2)
   ⟨none,none,rfl,rfl,fun _ _ e=>e⟩ (fun _ _ _ _ _=>trivial) ?_ ?_
  ·rintro i v σ H2 T2 hv ⟨v1,v2,rfl,hn,s2⟩ hT
   rw[O_] at hv
   have hi:i < l.length:=by
    have:=(MS.mp hv).1
    simpa using this
   rw[MC,Mm hi] at hv
   cases hv
   rw[QV hi] at hn
   have Ew:V.int (((0:Nat):Int)+(i:Int))=V.int (i:Int):=by congr 1;omega
   refine QJ LX rfl (M_ (MZ (M_ (MZ (O4 ?_)))))
   have s3:=s2.trans (L_ hT (PrX T2 [.int (((0:Nat):Int)+(i:Int)),.str (S [l[i]])]))
   ext
   refine⟨l[i],rfl,?_⟩
   cases e:MK l[i] with
   | true =>
    have e2:NM (l[i]::l.drop (i+1)) i=NM (l.drop (i+1)) (i+1):=by simp only[NM];rw[B9 e]
    ext
    exact⟨_,_,rfl,hn.trans e2,s3⟩
   | false =>
    have e2:NM (l[i]::l.drop (i+1)) i=some i:=by simp only[NM];rw[B8 (by rw[e];exact Mi)]
    ext
    refine Pn (Qh ?_)
    ext
    rw[Ew] at s3 ⊢
    refine Qi (RK (by omega)) fun x d hx hd Cy=>⟨x,ad 1,ad 0,some d,rfl,LX,Z.x_NoWord,qe i (Kc.trans (hn.trans e2)) x d _ LX ?_ ?_⟩
    ·rw[L4 Cy,L4 Cy,LX]
    ·rw[OR]
     exact s3.trans ((L_ hd _).trans (L_ (by rw[L4 (MB Cy)];exact hx) _))
  ·rintro σ H2 ⟨v1,v2,rfl,hn,s2⟩
   rw[N3,Me,Su] at hn
   ext
   exact q (Kc.trans hn) H2 s2
theorem gU (T:Txt mg tk)(O:Ow K mg cO)(F:Fun K "shown_word" "shown_word" s_shown_word f fd)(C_:DnX P w K mg base "check_word" 3 ["text"] (Yq (ad 1)))(CM:Dm P w K mg base cO "shown" 5 ["self","word"] (XW cO)):FnOk P w K mg base (CXx P w) 6 f fd ["breaker","text"] (Yr cO (ad 1)):=by
 refine F.okx ["breaker","text"] ?_
 rintro _ _ _ _ H _ _ _ hr ⟨p,kd,ld,b,l,rfl,hB,hO,hl,q,qe⟩ nd
 refine⟨_,(LZ (Na (QO C_ hr.L5 rfl (Qf (fun _ _ _ z=>z)) (pa1 (pv 1))))
  (LY (L6 (Se (pv 0) O.cl CM hr.L5 (pa1 (pv 1)))))),?_⟩
 walk_at "s0"
 ext
 refine⟨l,rfl,by omega,fun hw H2 s2=>?_,fun n hn=>qe n hn⟩
 have F_:1<=l.length:=by
  cases l with
  | nil=>cases hw
  | cons _ _=>simp
 obtain⟨g,hg,hR⟩:=XX hO b.hd b.tl F_
 have FS:=hB.same s2
 obtain⟨dx0,ys0,B',e1,_⟩:=id FS
 ext
 refine Pf ?_
 ext
 refine Pg e1 rfl ?_
 ext
 refine⟨p,kd,ld,b.pats,b.told,b.hd,b.tl,l,g,rfl,FS,hO.ps,by have:=hO.pl;omega,F_,hl,hg,hR,fun H3 s3=>?_⟩
 exact q hw g H3 hg (s2.trans s3)
theorem gW (T:Txt mg tk)(F:Fun K "parted" "parted" s_parted f fd):FnOk P w K mg base CX0 1 f fd ["texts","sign"] Ys:=by
 refine F.okk ["texts","sign"] ?_
 rintro _ _ _ _ H _ _ _ hr ⟨a,ls,c,rfl,ha,Ev,Hg,q⟩ nd
 refine⟨_,(LY (L6 (UM (Mb (o_eq hr.units) (pcb (MU (K:=K)) T.z_len (pa1 (pv 0))) LV (L9 _)) LU (MO (K:=K) NX Sz SA S4 (pv 1) (pa1 (pv 0)))))),?_⟩
 walk_at "s0"
 rw[t_none]
 ext
 rw[L8]
 by_cases h0:ls=[]
 ·refine Nb (by rw[h0];rfl) ?_
  ext
  have e:Ug c ls=[110,111,110,101]:=by unfold Ug;rw[B9 h0]
  rw[e] at q
  exact q
 ·refine Nc (fun z=>h0 ?_) ?_
  ·injection z with z
   exact iV (by omega)
  ·have e:Ug c ls=M5 c ls:=by unfold Ug;rw[B8 h0]
   rw[e] at q
   have e2:(ls.map fun l=>V.str (S l))=(ls.map S).map V.str:=by rw[Ng];rfl
   rw[e2] at ha
   have Ff:=Yw ls Hg
   ext
   refine Rl (QH ha) ?_ ?_
   ·rw[L8,Me]
    simp only[Mv,Qu]
    omega
   ·rw[Yv]
    exact q
theorem jA (T:Txt mg tk)(O:Ow K mg cO)(F:Fun K "with_pattern_more" "with_pattern_more" s_with_pattern_more f fd)(Cq:DnX P w K mg base "read_pattern" 3 ["text"] (Ue (ad 2)))(Cn:Dn P w K mg base "with_patterns" 4 ["breaker","patterns"] (spWP cO)):FnOk P w K mg base (CXx P w) 5 f fd ["breaker","text"] (spWPM cO (ad 2)):=by
 refine F.okx ["breaker","text"] ?_
 rintro _ _ _ _ H _ _ _ hr ⟨bp,bkd,bld,b,l,rfl,hB,hO,hl,q,qe⟩ nd
 obtain⟨dx0,ys0,B',e1,e2,hN,e3,Em⟩:=id hB
 refine⟨_,(LY (L6 (Mc Cn hr.L5 rfl (LS (pv 0) (pa1 (L7 Md (Np (pv 0) rfl) (Mp (pa1 (QO Cq hr.L5 rfl (Qf (fun _ _ _ z=>z)) (pa1 (pv 1))))))))))),?_⟩
 walk_at "s0"
 ext
 refine Nr ?_
 ext
 refine Nt e1 O.cl O.n_patterns rfl ?_
 ext
 have Cz:=hO.pl
 have Eu:=hO.tl
 have FM:=Em.length
 rw[L8] at FM
 refine⟨l,rfl,hl,fun u hu h1 h2 v H2 hv s2=>?_,fun n hn=>qe n hn⟩
 ext
 intro p1 Hq
 obtain⟨H3,EW,s3,ep1⟩:=Ms Hq (.lst [v])
 rw[EW]
 have Kd:=Is.same s3 hv
 have s03:=s2.trans s3
 ext
 refine QK (s03 _ _ e3) ep1 (szn (by rw[M6];omega)) fun p2 ES=>?_
 obtain⟨H4,Fv,s4,ep2⟩:=Ms ES (.lst (ys0++[v]))
 rw[Fv]
 have Ld:=Is.same s4 Kd
 have s04:=s03.trans s4
 ext
 refine⟨bp,bkd,bld,p2,_,b.pats,b.pats++[(u.sg,u.ns++[u.n])],b.told,b.hd,b.tl,rfl,hB.same s04,ep2,?_,by rw[Mn,M6];omega,by omega,hO.nd,fun p kd ld H5 h5 h6 h7 IV s5=>?_⟩
 ·rw[Mr]
  exact IsL.append (IsL.same s04 Em) (by simp only[Mu,Oe,L2.IsL];exact⟨Ld,trivial⟩)
 ·exact q u hu h1 h2 p kd ld H5 (s04.free h5) (s04.free h6) (s04.free h7) IV (s04.trans s5)
noncomputable abbrev s_is_text:Av:=top 65
noncomputable abbrev s_is_number:Av:=top 66
noncomputable abbrev s_has_its_count:Av:=top 67
noncomputable abbrev s_is_row:Av:=top 68
noncomputable abbrev s_words_of_row:Av:=top 69
theorem UX (c:Nat):∀ l,(spl c l).length<=l.length+1
 | []=>L' _
 | x::r=>by
  have ih:=UX c r
  show (if x=c then []::spl c r else match spl c r with | []=>[[x]] | p::ps=>(x::p)::ps).length<=_
  split
  ·rw[Mv,Mv];omega
  ·split
   ·simp
   ·rename_i h
    rw[h,Mv] at ih
    rw[Mv,Mv];omega
theorem Uh {c:Nat}:∀{l p:List Nat},p∈spl c l->p.length<=l.length/\∀ x∈p,x∈l
 | [],p,h=>by
  have:p=[]:=by simpa [spl] using h
  subst this
  exact⟨L' _,fun x hx=>hx⟩
 | y::r,p,h=>by
  have h:p∈(if y=c then []::spl c r else match spl c r with | []=>[[y]] | p::ps=>(y::p)::ps):=h
  have up:∀{q:List Nat},q∈spl c r->q.length<=(y::r).length/\∀ x∈q,x∈y::r:=fun hq =>
   ⟨MR (Uh hq).1 (by simp),fun x hx=>MP _ ((Uh hq).2 x hx)⟩
  split at h
  ·rcases Mo.mp h with rfl | h
   ·exact⟨by simp,fun x hx=>nomatch hx⟩
   ·exact up h
  ·split at h
   ·have:p=[y]:=by simpa using h
    subst this
    exact⟨by simp,fun x hx=>by rw[OJ.mp hx];exact MV⟩
   ·rename_i p0 ps he
    rcases Mo.mp h with rfl | h
    ·have:=Uh (c:=c) (l:=r) (p:=p0) (by rw[he];exact MV)
     refine⟨by rw[Mv,Mv];omega,fun x hx=>?_⟩
     rcases Mo.mp hx with rfl | hx
     ·exact MV
     ·exact MP _ (this.2 x hx)
    ·exact up (by rw[he];exact MP _ h)
theorem Yx (h:p∈spl c l):p.length<=l.length:=(Uh h).1
noncomputable def tTON:List Nat:=[116,111,110,103,117,101]
noncomputable def tPAT:List Nat:=[112,97,116,116,101,114,110]
noncomputable def tTOL:List Nat:=[116,111,108,100]
noncomputable def tBRK:List Nat:=[98,114,101,97,107]
noncomputable def tPTS:List Nat:=[112,97,116,116,101,114,110,115]
noncomputable def tPAR:List Nat:=[112,97,114,101]
noncomputable def tPRS:List Nat:=[112,114,101,115,115]
theorem Oz:Mg "tongue"=S tTON:=by decide +kernel
theorem Qk:Mg "pattern"=S tPAT:=by decide +kernel
theorem Ob:Mg "told"=S tTOL:=by decide +kernel
theorem Ui:Mg "break"=S tBRK:=by decide +kernel
theorem RN:Mg "patterns"=S tPTS:=by decide +kernel
theorem t_par:Mg "pare"=S tPAR:=by decide +kernel
theorem Ql:Mg "press"=S tPRS:=by decide +kernel
theorem t_til:Mg "~"=S [126]:=by decide +kernel
noncomputable def kvsC:List (Key×V):=[(Sum.inr (S tTON),.int 4),(Sum.inr (S tPAT),.int 3),(Sum.inr (S tTOL),.int 3),(Sum.inr (S tBRK),.int 3),(Sum.inr (S tPTS),.int 2),(Sum.inr (S tPAR),.int 2),(Sum.inr (S tPRS),.int 3)]
structure Dcc (P:Ak)(w:Am)(K:L3)(mg:Str->Option Ad)(cD:Ac):Prop where
 m:mg "COUNTS"=some (.ref cD)
 d:DC P w K cD kvsC
noncomputable def cntL (l:List Nat):Option Nat:=if l=tTON then some 4 else if l=tPAT then some 3 else if l=tTOL then some 3 else if l=tBRK then some 3 else if l=tPTS then some 2 else if l=tPAR then some 2 else if l=tPRS then some 3 else none
theorem Pp {B':List (Key×V)}{z l:List Nat}{v:V}:valV ((Sum.inr (S z),v)::B') (Sum.inr (S l))=if l=z then some v else valV B' (Sum.inr (S l)):=by
 by_cases e:l=z
 ·rw[B9 e,UR (by rw[e])]
 ·rw[B8 e,Ti fun q=>e (Sc q).symm]
theorem Yy (l:List Nat):valV kvsC (Sum.inr (S l))=(cntL l).map fun n:Nat=>V.int (n:Int):=by
 unfold kvsC cntL
 rw[Pp,Pp,Pp,Pp,Pp,Pp,Pp]
 repeat' split
 all_goals rfl
noncomputable def isTx (l:List Nat):Bool:=l.all fun c=>decide (32<=c)&&decide (c<=126)&&decide (c≠37)
theorem Uj (h:isTx l=true) (hc:c∈l):c < 128:=by
 have:=On.mp h c hc
 simp only[MQ,decide_eq_true_eq] at this
 omega
noncomputable def dig (n:Nat):List Nat:=(Mg (toString (n:Int))).cps.toList
theorem RO (n:Nat):S (dig n)=Mg (toString (n:Int)):=XF _
noncomputable def M' (l:List Nat)(a b:Nat):Bool:=(Nj (b+1 - a)).any fun k=>decide (l=dig (a+k))
noncomputable def hasC (ws:List (List Nat)):Bool:=match cntL (ws.getD 0 []) with
 | none=>false
 | some n=>decide (ws.length=n) || (decide (ws.getD 0 []=tPRS)&&decide (n < ws.length))
noncomputable def Mt (ws:List (List Nat)):Bool:=hasC ws&&(if ws.getD 0 []=tPRS then M' (ws.getD 1 []) 2 200 else (if ws.getD 0 []=tTON then M' (ws.getD 2 []) 1 20&&M' (ws.getD 3 []) 1 20 else true)&&isNm (ws.getD 1 []))
def RowV (H:Hp)(v:V):Prop:=(∃ l:List Nat,v=.str (S l)/\l.length<=40/\isTx l=true)∨v=.non∨(∃ i,v=.int i)∨(∃ b,v=.bl b)∨∃ p xs,v=.ref p/\(H p=some (.lst xs)∨H p=some (.tup xs))
theorem RowV.same (s:Same H H') (h:RowV H v):RowV H' v:=by
 rcases h with h | h | h | h | ⟨p,xs,h1,h2⟩
 ·exact .inl h
 ·exact .inr (.inl h)
 ·exact .inr (.inr (.inl h))
 ·exact .inr (.inr (.inr (.inl h)))
 ·exact .inr (.inr (.inr (.inr ⟨p,xs,h1,h2.imp (s _ _) (s _ _)⟩)))
def Yz:Sp:=fun vs H Q _=>∃ v,vs=[v]/\RowV H v/\∀ H',Same H H'->((∃ l,v=.str (S l))->Q (.bl true) H')/\((∀ l,v≠.str (S l))->Q (.bl false) H')
def YA:Sp:=fun vs H Q _=>∃(l:List Nat) (a b:Nat),vs=[.str (S l),.int (a:Int),.int (b:Int)]/\a<=b/\b<=1000/\∀ H',Same H H'->Q (.bl (M' l a b)) H'
noncomputable def LW (ws:List (List Nat)):List V:=ws.map fun l=>V.str (S l)
def spHas:Sp:=fun vs H Q _=>∃(a:Ac) (ws:List (List Nat)),vs=[.ref a]/\H a=some (.lst (LW ws))/\1<=ws.length/\ws.length<=1000/\Q (.bl (hasC ws)) H
def YB:Sp:=fun vs H Q _=>∃(a:Ac) (ws:List (List Nat)),vs=[.ref a]/\H a=some (.lst (LW ws))/\1<=ws.length/\ws.length<=1000/\(∀ l∈ws,l.length<=1000)/\∀ H',Same H H'->Q (.bl (Mt ws)) H'
def YC (C:Ac)(H:Hp)(E:XK):Prop:=∀ e H',H' e=some (XO e C none false)->Same H H'->E (.ref e) none H'
def YD (NR:Ac):Sp:=fun vs H Q E=>∃ v,vs=[v]/\RowV H v/\(∀ l,v=.str (S l)->Mt (spl 32 l)=true->∀(r:Ac) (H':Hp),H r=none->H' r=some (.lst (LW (spl 32 l)))->Same H H'->Q (.ref r) H') /\
 ((∀ l,v=.str (S l)->Mt (spl 32 l)=false)->YC NR H E)
theorem Nm {i:Nat} (h:i < ws.length):atI (LW ws) (i:Int)=some (.str (S (ws.getD i []))):=QL (by omega) (by
 rw[show ((i:Int)).toNat=i by omega,LW,MC,Mm h,Mq,Mm h];rfl)
theorem gX (n:Nat)(h:n<=1000):((n:Int)).natAbs.log2 < 1920:=by
 have h2:((n:Int)).natAbs=n:=by omega
 rw[h2]
 by_cases z:n=0
 ·rw[z];decide
 ·have:=(Nat.log2_lt z).mpr (show n < 2 ^ 10 by omega)
  omega
theorem gY (T:Txt mg tk)(F:Fun K "is_text" "is_text" s_is_text f fd):FnOk P w K mg base CX0 1 f fd ["row"] Yz:=by
 refine F.okk ["row"] ?_
 rintro _ _ _ _ H _ _ _ hr ⟨v,rfl,hv,q⟩ nd
 refine⟨_,(LY (L6 (ND (pcb Ov T.z_isinstance (LS (pv 0) (pa1 (pty "str" T.z_str)))) (NC (pcb (S5 rfl) T.z_all (pa1 (Px ["sign"] [none] rfl (by kernel_rfl) rfl (NS (K:=K) (pv 0)) (fun _ _ _ _=>(NZ (i:=0) (show (["sign"]:List Str).Nodup by decide +kernel) rfl (Or.inl rfl) (Or.inr rfl))) (fun _ _ _ _=>Q4) (fun _ _ _ _=>(ND (bz o_leS o_leS LU (pv 0) LU) (NC (MT (o_ne hr.units) (pcb c_ord T.z_ord (pa1 (pv 0))) (OD (v:=.int 37) rfl T.m_PERCENT_SIGN ⟨_,rfl⟩) (L9 _)))))))))))),?_⟩
 walk_at "s0"
 rw[UW,t_til]
 ext
 rcases hv with ⟨l,rfl,hl,Gk⟩ | rfl | ⟨i,rfl⟩ | ⟨b,rfl⟩ | ⟨p,xs,rfl,hp⟩
 ·ext
  intro r Cc
  refine Rf (fun i Ca σ H'=>∃ v,σ=[v]/\Ca=(MD i true).map V.bl/\H' r=some (.lst Ca)/\Same H H')
   ⟨none,rfl,rfl,LX,L_ Cc _⟩ (fun i Ca σ H' ⟨_,_,e,e2,_⟩=>⟨e2,by rw[e];simp⟩) (szn (by rw[N3,Me];omega)) ?_ ?_
  ·rintro i Ca σ H2 hi ⟨v,rfl,rfl,e2,s2⟩
   rw[N3,Me] at hi
   rw[Rt hi]
   have hc:=On.mp Gk _ (Qt hi)
   generalize l[i]=c at hc ⊢
   simp only[MQ,decide_eq_true_eq] at hc
   obtain⟨⟨G7,Gy⟩,Gm⟩:=hc
   ext
   refine i_leS ⟨_,rfl,?_⟩
   rw[B7 G7]
   ext
   refine i_leS ⟨_,rfl,?_⟩
   rw[B7 Gy]
   ext
   refine i_ord ?_
   ext
   have Le:(!decide (V.int (c:Int)=V.int 37))=true:=by simp;omega
   rw[Le]
   refine⟨e2,_,rfl,?_,LX,Sk Cc s2⟩
   rw[ac,Mr];rfl
  ·rintro Ca σ H2 ⟨v,rfl,rfl,e2,s2⟩
   rw[N3,Me] at e2
   ext
   refine Rm (QH e2) ?_
   have EQ:((MD l.length true).all id)=true:=by rw[On];intro x hx;rw[(List.mem_replicate.mp hx).2];rfl
   simp only[EQ]
   exact(q H2 s2).1 ⟨l,rfl⟩
 ·ext
  exact(q H fun _ _ e=>e).2 fun l z=>by cases z
 ·ext
  exact(q H fun _ _ e=>e).2 fun l z=>by cases z
 ·ext
  exact(q H fun _ _ e=>e).2 fun l z=>by cases z
 ·have hq:=(q H fun _ _ e=>e).2 fun l z=>by cases z
  rcases hp with hp | hp
  ·refine Rn (t:="list") (by simp only[tyN];rw[hp]) rfl ⟨_,rfl,?_⟩
   exact hq
  ·refine Rn (t:="tuple") (by simp only[tyN];rw[hp]) rfl ⟨_,rfl,?_⟩
   exact hq
theorem gZ (T:Txt mg tk)(F:Fun K "is_number" "is_number" s_is_number f fd):FnOk P w K mg base CX0 1 f fd ["text","least","most"] YA:=by
 refine F.okk ["text","least","most"] ?_
 rintro _ _ _ _ H _ _ _ hr ⟨l,a,b,rfl,hab,hb,q⟩ nd
 refine⟨_,(LY (L6 (MT o_in (pv 0) (Px ["number"] [none] rfl (by kernel_rfl) rfl (Vp rfl T.z_range (LS (pv 1) (pa1 (L7 Md (pv 2) LV)))) (fun _ _ _ _=>(NZ (i:=0) (show (["number"]:List Str).Nodup by decide +kernel) rfl (Or.inl rfl) (Or.inr rfl))) (fun _ _ _ _=>Q4) (fun _ _ _ _=>(pct c_str T.z_str (pa1 (pv 0))))) (by with_unfolding_all rfl)))),?_⟩
 walk_at "s0"
 ext
 intro r Cc
 have hn:((b:Int)+1 - (a:Int)).toNat=b+1 - a:=by omega
 refine ZP (fun i Ca σ H'=>∃ v,σ=[v]/\Ca=LW ((Nj i).map fun k=>dig (a+k))/\H' r=some (.lst Ca)/\Same H H')
  ⟨none,rfl,rfl,LX,L_ Cc _⟩ (fun i Ca σ H' ⟨_,_,e,e2,_⟩=>⟨e2,by rw[e,LW,L8,L8,ag];exact L' _⟩) (szn (by omega)) ?_ ?_
 ·rintro i Ca σ H2 hi ⟨v,rfl,rfl,e2,s2⟩
  ext
  have Lf:(a:Int)+(i:Int)=((a+i:Nat):Int):=by omega
  rw[Lf]
  refine⟨gX _ (by omega),e2,_,rfl,?_,LX,Sk Cc s2⟩
  rw[LW,LW,UE,Mr,Mr]
  show _++[V.str _]=_++[V.str (S (dig (a+i)))]
  rw[RO]
 ·rintro Ca σ H2 ⟨v,rfl,rfl,e2,s2⟩
  rw[hn] at e2
  have Do:inV (V.str (S l)) (LW ((Nj (b+1 - a)).map fun k=>dig (a+k)))=M' l a b:=by
   unfold inV M' LW
   rw[Ng,Zp]
   congr 1
   funext k
   show eqV (V.str (S (dig (a+k)))) (V.str (S l))=decide (l=dig (a+k))
   rw[No]
   unfold eqV
   simp only[beq_iff_eq,decide_eq_true_eq]
   exact⟨fun z=>(S_inj.mp (by rw[z])).symm,fun z=>by rw[z]⟩
  refine NI (M9 e2) ⟨rfl,?_⟩ ?_
  ·unfold LW
   rw[UF,On]
   intro x _
   rfl
  ·rw[B8 (by decide),Do]
   exact q H2 s2
theorem g0 (T:Txt mg tk)(DCC:Dcc P w K mg cD)(F:Fun K "has_its_count" "has_its_count" s_has_its_count f fd):FnOk P w K mg base CX0 1 f fd ["words"] spHas:=by
 refine F.okk ["words","count"] ?_
 rintro _ _ _ _ H _ Q _ hr ⟨a,ws,rfl,ha,DW,DV,q⟩ nd
 have h0:=Nm (show 0 < ws.length by omega)
 refine⟨_,(LZ (Ma (PP (fF DCC.d rfl DCC.m (pix K (pv 0) LV)))
   (LY (L6 Nx))
   Mh)
  (LZ (pst 1 nd (pe_kget DCC.d rfl DCC.m (pix K (pv 0) LV) (fun _ _=>rfl)))
  (LY (L6 (SK (MT (o_eq hr.units) (pcb (MU (K:=K)) T.z_len (pa1 (pv 0))) (pv 1) (L9 _)) (NC (ND (MT (o_eq hr.units) (pix K (pv 0) LV) LU (L9 _)) (NC (MT o_gt (pcb (MU (K:=K)) T.z_len (pa1 (pv 0))) (pv 1) (L9 _)))))))))),?_⟩
 walk_at "s0"
 rw[Ql]
 ext
 refine i_tB (i_kin ?_)
 ext
 refine⟨Sum.inr (S (ws.getD 0 [])),rfl,_,rfl,?_⟩
 rw[Yy]
 unfold hasC at q
 cases hc:cntL (ws.getD 0 []) with
 | none =>
  rw[hc] at q
  ext
  exact q
 | some n =>
  rw[hc] at q
  ext
  refine i_kget ?_
  ext
  refine⟨Sum.inr (S (ws.getD 0 [])),.int (n:Int),rfl,by rw[Yy,hc];rfl,?_⟩
  have Ff:(LW ws).length=ws.length:=L8 ..
  ext
  rw[Ff]
  have q:Q (.bl (decide (ws.length=n) || (decide (ws.getD 0 []=tPRS)&&decide (n < ws.length)))) H:=q
  by_cases hn:ws.length=n
  ·refine Nb (by rw[hn]) ?_
   rw[B7 hn,Zr] at q
   exact q
  ·refine Nc (fun z=>hn (by injection z with z;omega)) ?_
   rw[B6 hn,QX] at q
   ext
   by_cases hp:ws.getD 0 []=tPRS
   ·refine Nb (by rw[hp]) ?_
    rw[B7 hp,OM] at q
    ext
    rw[Ff]
    have e:decide ((n:Int) < (ws.length:Int))=decide (n < ws.length):=by rw[No];simp
    rw[e]
    exact q
   ·refine Nc (fun z=>hp (S_inj.mp z)) ?_
    rw[B6 hp,QW] at q
    exact q
theorem g9 (T:Txt mg tk)(F:Fun K "is_row" "is_row" s_is_row f fd)(CN:Dn P w K mg base "has_its_count" 1 ["words"] spHas)(CK:Dn P w K mg base "is_number" 1 ["text","least","most"] YA)(CS:Dn P w K mg base "is_name" 3 ["text"] T8):FnOk P w K mg base CX0 4 f fd ["words"] YB:=by
 refine F.okk ["words"] ?_
 rintro _ _ _ _ H _ _ _ hr ⟨a,ws,rfl,ha,DW,DV,Eb,q⟩ nd
 have h0:=Nm (show 0 < ws.length by omega)
 have D9:∀ i,(ws.getD i []).length<=1000:=fun i=>by
  rw[Mq]
  cases e:ws[i]? with
  | none=>exact ML _
  | some x=>exact Eb x (OB e)
 refine⟨_,(LZ (Ma (Oq (MY (Mc CN hr.L5 rfl (pa1 (pv 0))) (fun _=>rfl)))
   (LY (L6 Nx))
   Mh)
  (LZ (Ma (Mb (o_eq hr.units) (pix K (pv 0) LV) LU (L9 _))
   (LY (L6 (Mc CK hr.L5 rfl (LS (pix K (pv 0) LV) (LS LV (pa1 LV))))))
   Mh)
  (LZ (Ma (PW.pt (Pt (Mb (o_eq hr.units) (pix K (pv 0) LV) LU (L9 _)) (PQ (Oq (PW.pt (Pt (MY (Mc CK hr.L5 rfl (LS (pix K (pv 0) LV) (LS LV (pa1 LV)))) (fun _=>rfl)) (PQ (MY (Mc CK hr.L5 rfl (LS (pix K (pv 0) LV) (LS LV (pa1 LV)))) (fun _=>rfl)))))))))
   (LY (L6 Nx))
   Mh)
  (LY (L6 (Mc CS hr.L5 rfl (pa1 (pix K (pv 0) LV)))))))),?_⟩
 walk_at "s0"
 rw[Ql,Oz]
 ext
 refine⟨a,ws,rfl,ha,DW,DV,?_⟩
 unfold Mt at q
 cases hh:hasC ws with
 | false =>
  rw[hh] at q
  ext
  exact q H fun _ _ e=>e
 | true =>
  rw[hh] at q
  have Cd:2<=ws.length/\(ws.getD 0 []=tTON->4<=ws.length):=by
   unfold hasC at hh
   cases hc:cntL (ws.getD 0 []) with
   | none=>rw[hc] at hh;cases hh
   | some n =>
    rw[hc] at hh
    have hn:n<=ws.length:=by
     simp only[au,MQ,decide_eq_true_eq] at hh
     omega
    have h2:2<=n:=by
     unfold cntL at hc
     repeat' split at hc
     all_goals first | (cases hc;done) | (injection hc with hc;omega)
    refine⟨by omega,fun e=>?_⟩
    unfold cntL at hc
    rw[B9 e] at hc
    injection hc with hc
    omega
  have h1:=Nm (show 1 < ws.length by omega)
  ext
  by_cases hp:ws.getD 0 []=tPRS
  ·refine Nb (by rw[hp]) ?_
   rw[B9 hp] at q
   ext
   refine⟨ws.getD 1 [],2,200,rfl,by decide,by decide,fun H2 s2=>q H2 s2⟩
  ·refine Nc (fun z=>hp (S_inj.mp z)) ?_
   rw[B8 hp] at q
   ext
   by_cases ht:ws.getD 0 []=tTON
   ·have h2:=Nm (show 2 < ws.length by have:=Cd.2 ht;omega)
    have h3:=Nm (show 3 < ws.length by have:=Cd.2 ht;omega)
    rw[B9 ht] at q
    refine Nb (by rw[ht]) ?_
    ext
    refine⟨ws.getD 2 [],1,20,rfl,by decide,by decide,fun H2 s2=>?_⟩
    have DG:=s2 _ _ ha
    cases Er:M' (ws.getD 2 []) 1 20 with
    | false =>
     rw[Er] at q
     ext
     exact q H2 s2
    | true =>
     rw[Er] at q
     ext
     refine⟨ws.getD 3 [],1,20,rfl,by decide,by decide,fun H3 s3=>?_⟩
     have HW:=s3 _ _ DG
     cases GF:M' (ws.getD 3 []) 1 20 with
     | false =>
      rw[GF] at q
      ext
      exact q H3 (s2.trans s3)
     | true =>
      rw[GF] at q
      ext
      exact⟨ws.getD 1 [],rfl,D9 1,fun H4 s4=>q H4 (s2.trans (s3.trans s4))⟩
   ·refine Nc (fun z=>ht (S_inj.mp z)) ?_
    rw[B8 ht] at q
    ext
    exact⟨ws.getD 1 [],rfl,D9 1,fun H4 s4=>q H4 s4⟩
theorem g_ (T:Txt mg tk)(Z:Cs K mg ad)(F:Fun K "words_of_row" "words_of_row" s_words_of_row f fd)(Dx:Dn P w K mg base "is_text" 1 ["row"] Yz)(DN:Dn P w K mg base "is_row" 4 ["words"] YB):FnOk P w K mg base (CXx P w) 5 f fd ["row"] (YD (ad 7)):=by
 refine F.okx ["row","words"] ?_
 rintro _ _ _ _ H _ _ E hr ⟨v,rfl,hv,q,qe⟩ nd
 have throw:∀(H2:Hp),(∀ l,v=.str (S l)->Mt (spl 32 l)=false)->Same H H2->∀ x,H2 x=none ->
   ∃(x' C' W':Ac) (od:Option Ac),V.ref x=.ref x'/\(upd H2 x (XO x (ad 7) none true)) x'=some (XO x' C' od true)/\Exc K W' C'/\E (.ref x') od (upd (upd H2 x (XO x (ad 7) none true)) x' (XO x' C' od false)):=fun H2 hn s2 x hx=>by
  refine⟨x,ad 7,ad 0,none,rfl,LX,Z.x_NoRow,qe hn x _ LX ?_⟩
  rw[OR]
  exact s2.trans (L_ hx _)
 refine⟨_,(LZ (Ma (Oq (MY (Mc Dx hr.L5 rfl (pa1 (pv 0))) (fun _=>rfl)))
   (LY (PD rfl PB (Xn Z.x_NoRow Z.i_NoRow rfl Z.m_NoRow (pa1 LU))))
   Mh)
  (LZ (pst 1 nd (MO (K:=K) NX Vb Vc XA (pv 0) (pa1 LU)))
  (LZ (Ma (Oq (MY (Mc DN hr.L5 rfl (pa1 (pv 1))) (fun _=>rfl)))
   (LY (PD rfl PB (Xn Z.x_NoRow Z.i_NoRow rfl Z.m_NoRow (pa1 (Pl (OI LU (OI (pe_fr (pv 0)) Pk)))))))
   Mh)
  (LY (L6 (pv 1)))))),?_⟩
 walk_at "s0"
 rw[UW]
 ext
 refine⟨v,rfl,hv,fun H2 s2=>⟨fun⟨l,hl⟩=>?_,fun DH=>?_⟩⟩
 ·subst hl
  obtain⟨Ev,Gk⟩:l.length<=40/\isTx l=true:=by
   rcases hv with ⟨l',e,h1,h2⟩ | e | ⟨i,e⟩ | ⟨b,e⟩ | ⟨p,xs,e,_⟩
   ·cases S_inj.mp e;exact⟨h1,h2⟩
   ·cases e
   ·cases e
   ·cases e
   ·cases e
  have Ff:=UX 32 l
  have Fc:1<=(spl 32 l).length:=by
   have:=Qj 32 l
   cases h:spl 32 l with
   | nil=>exact absurd h this
   | cons _ _=>simp
  have DS:((spl 32 l).map S).map V.str=LW (spl 32 l):=by rw[Ng];rfl
  ext
  refine Xy rfl (szn (by rw[Me];omega)) (szn (by rw[QQ,L8];omega)) fun r Cc=>?_
  rw[QQ,DS]
  obtain⟨H3,EW,s3,er⟩:=Ms Cc (.lst (LW (spl 32 l)))
  rw[EW]
  have s03:=s2.trans s3
  ext
  refine⟨r,spl 32 l,rfl,er,Fc,by omega,fun x hx=>by have:=Yx hx;omega,fun H4 s4=>?_⟩
  cases Ck:Mt (spl 32 l) with
  | true =>
   ext
   exact q l rfl Ck r H4 (s2.free Cc) (s4 _ _ er) (s03.trans s4)
  | false =>
   ext
   refine Pn (Xu ?_)
   ext
   refine Xt (by decide) ⟨_,rfl,eJ (fun c hc=>Uj Gk hc) (by omega)⟩ rfl fun z=>?_
   ext
   exact throw H4 (fun l' e=>by cases S_inj.mp e;exact Ck) (s03.trans s4)
 ·ext
  refine Pn (Xu ?_)
  ext
  exact throw H2 (fun l e=>absurd e (DH l)) s2
structure Ow3 (K:L3)(mg:Str->Option Ad)(cO:Ac):Prop where
 m_Desk:mg "Desk"=some (.ref cO)
 cl:Cls K cO
 n_tongues:NoAttr K cO "tongues"
noncomputable abbrev s_Desk_init:Av:=Ot (top 75) 0
noncomputable abbrev s_Desk_say:Av:=Ot (top 75) 1
noncomputable abbrev s_Desk_keep:Av:=Ot (top 75) 2
noncomputable abbrev s_Desk_pare:Av:=Ot (top 75) 3
theorem sc_Desk_pare:FnScope ["self","name","breaker","left"] ["self","name","breaker"] (NF s_Desk_pare):=by walk_at "f"
def DeskAt (CD CT:Ac)(H:Hp)(d tp td:Ac)(B':List (Key×V)):Prop:=(∃ dd,H d=some (.ins CD dd [(("tongues":Str),.ref tp)]))/\TgAt CT H tp td B'
theorem DeskAt.same (s:Same H H') (h:DeskAt CD CT H d tp td B'):DeskAt CD CT H' d tp td B':=by
 obtain⟨⟨dd,h1⟩,h2⟩:=h
 exact⟨⟨dd,s _ _ h1⟩,h2.same s⟩
def spDkI (CD CT:Ac):Sp:=fun vs H Q _=>∃(p dx:Ac),vs=[.ref p]/\H p=some (.ins CD dx [])/\∀(tp td:Ac) (H':Hp),H td=none->DeskAt CD CT H' p tp td []->(∀ b o,b≠p->H b=some o->H' b=some o)->Q .non H'
noncomputable def tOK:List Nat:=[111,107]
theorem t_ok:Mg "ok"=S tOK:=by decide +kernel
def YE (CD C CT:Ac):Sp:=fun vs H Q _=>∃(d tp td bp bkd bld:Ac) (B':List (Key×V)) (nm:List Nat) (pats told:List Pat) (hd tl:Int),vs=[.ref d,.str (S nm),.ref bp]/\DeskAt CD CT H d tp td B'/\BrkAt C H bp bkd bld pats told hd tl/\pats.length<=1000/\told.length<=1000/\(told.map (·.1)).Nodup/\B'.length<=1000 /\
 ∀(p kd ld:Ac) (H':Hp),H p=none->H kd=none->H ld=none->BrkAt C H' p kd ld pats told hd tl->H' td=some (.dK (putK B' (Sum.inr (S nm)) (.ref p)))->(∀ b o,b≠td->H b=some o->H' b=some o)->Q (.str (S tOK)) H'
def YF:Sp:=fun _ _ _ _=>False
structure OkN (n:Nat)(b:Bp):Prop where
 ok:OkB b.pats b.told
 pn:b.pats.length<=n
 tn:b.told.length<=n
 vp:∀ x∈b.pats,VP x.1 x.2
theorem OkN.mono (h:OkN n b) (hm:n<=m):OkN m b:=⟨h.ok,MR h.pn hm,MR h.tn hm,h.vp⟩
noncomputable def brkF (b:Bp)(l:List Nat):List Nat:=txt l ((RG b.pats b.told b.hd b.tl l).map Int.toNat) l.length
noncomputable def ptsF (b:Bp):List Nat:=Ug 32 (b.pats.map fun x=>ptxt x.1 x.2)
def keeps (C:Ac)(D:List Ac)(td:Ac)(ms:List (List Nat×Bp))(n:Nat)(nm:List Nat)(H:Hp)(Q:VK):Prop:=∀(b:Bp) (kvs':List (Key×V)) (H':Hp),OkN (n+1) b->TB C (offH H' D) kvs' (putM ms nm b)->H' td=some (.dK kvs')->(∀ b o,b≠td->H b=some o->H' b=some o)->Q (.str (S tOK)) H'
noncomputable def outR (th na to pa wo:V->Prop)(kp tl:List Nat->Prop)(ms:List (List Nat×Bp))(ws:List (List Nat)):Prop :=
 (ws.getD 0 []=tPRS->(∀ k:Nat,due ms (ws.drop 2)=.thing k->th (.int (k:Int)))/\(∀ nm,due ms (ws.drop 2)=.tongue nm->to (.str (S nm)))/\(due ms (ws.drop 2)=.told->(∀ k:Nat,na (.int (k:Int)))/\∀ t,tl t)) /\
 (ws.getD 0 []=tTON->kp (ws.getD 1 [])) /\
 (ws.getD 0 []≠tPRS->ws.getD 0 []≠tTON->Mz ms (ws.getD 1 [])=none->to (.str (S (ws.getD 1 [])))) /\
 ∀ b,Mz ms (ws.getD 1 [])=some b->ws.getD 0 []≠tPAR /\
  (ws.getD 0 []=tPAT->(∀ k:Nat,Nl (ws.getD 2 []) ⟨[],[],0⟩ 0=some k->pa (.int (k:Int)))/\(Nl (ws.getD 2 []) ⟨[],[],0⟩ 0=none->kp (ws.getD 1 []))) /\
  (ws.getD 0 []=tTOL->(∀ k:Nat,Nz (ws.getD 2 []) ⟨[],[],true⟩ 0=some k->wo (.int (k:Int)))/\(Nz (ws.getD 2 []) ⟨[],[],true⟩ 0=none->kp (ws.getD 1 []))) /\
  (ws.getD 0 []=tBRK->(∀ k:Nat,wbad (ws.getD 2 [])=some k->wo (.int (k:Int)))/\(wbad (ws.getD 2 [])=none->tl (brkF b (ws.getD 2 [])))) /\
  (ws.getD 0 []=tPTS->tl (ptsF b))
theorem outR.imp (h1:∀ y,th y->th' y) (h2:∀ y,na y->na' y) (h3:∀ y,to y->to' y) (h4:∀ y,pa y->pa' y) (h5:∀ y,wo y->wo' y) (h6:∀ z,kp z->kp' z) (h7:∀ z,tl z->tl' z) (h:outR th na to pa wo kp tl ms ws):outR th' na' to' pa' wo' kp' tl' ms ws :=
 ⟨fun e=>⟨fun k hk=>h1 _ ((h.1 e).1 k hk),fun nm hn=>h3 _ ((h.1 e).2.1 nm hn),fun ht=>⟨fun k=>h2 _ (((h.1 e).2.2 ht).1 k),fun t=>h7 _ (((h.1 e).2.2 ht).2 t)⟩⟩,
  fun e=>h6 _ (h.2.1 e),fun a b c=>h3 _ (h.2.2.1 a b c),fun b hb=>⟨(h.2.2.2 b hb).1,fun e=>⟨fun k hk=>h4 _ (((h.2.2.2 b hb).2.1 e).1 k hk),fun z=>h6 _ (((h.2.2.2 b hb).2.1 e).2 z)⟩,
   fun e=>⟨fun k hk=>h5 _ (((h.2.2.2 b hb).2.2.1 e).1 k hk),fun z=>h6 _ (((h.2.2.2 b hb).2.2.1 e).2 z)⟩,fun e=>⟨fun k hk=>h5 _ (((h.2.2.2 b hb).2.2.2.1 e).1 k hk),fun z=>h7 _ (((h.2.2.2 b hb).2.2.2.1 e).2 z)⟩,fun e=>h7 _ ((h.2.2.2 b hb).2.2.2.2 e)⟩⟩
noncomputable def sayR (C NW NP NTh TN NTo:Ac)(D:List Ac)(td:Ac)(ms:List (List Nat×Bp))(n:Nat)(ws:List (List Nat))(H:Hp)(Q:VK)(E:XK):Prop :=
 outR (fun y=>refuses NTh "place" y H E) (fun y=>refuses TN "place" y H E) (fun y=>refuses NTo "name" y H E) (fun y=>refuses NP "place" y H E) (fun y=>refuses NW "place" y H E) (fun z=>keeps C D td ms n z H Q) (fun t=>∀ H',Same H H'->Q (.str (S t)) H') ms ws
structure DkS (CD C CT:Ac)(H:Hp)(d tp td:Ac)(B':List (Key×V))(ms:List (List Nat×Bp))(D:List Ac)(n:Nat):Prop where
 dk:DeskAt CD CT H d tp td B'
 td:td∈D
 nt:∀ b∈D,∃ o,H b=some o/\∀ zs,o≠.tup zs
 tb:TB C (offH H D) B' ms
 ml:ms.length<=90
 nl:n<=90
 ok:∀ m∈ms,OkN n m.2
theorem DkS.same {CD C CT:Ac}{H H':Hp}{d tp td:Ac}{B':List (Key×V)}{ms:List (List Nat×Bp)}{D:List Ac}{n:Nat}(h:DkS CD C CT H d tp td B' ms D n)(s:Same H H'):DkS CD C CT H' d tp td B' ms D n :=
 ⟨h.dk.same s,h.td,fun b hb=>let ⟨o,ho,hz⟩:=h.nt b hb;⟨o,s _ _ ho,hz⟩,h.tb.same (ZV fun b o hb e=>⟨hb,s _ _ e⟩),h.ml,h.nl,h.ok⟩
def RP (CD C CT NW NP NTh TN NTo NR:Ac):Sp:=fun vs H Q E=>∃(d tp td:Ac) (v:V) (B':List (Key×V)) (ms:List (List Nat×Bp)) (D:List Ac) (n:Nat),vs=[.ref d,v]/\RowV H v/\DkS CD C CT H d tp td B' ms D n /\
 ((∀ l,v=.str (S l)->Mt (spl 32 l)=false)->YC NR H E)/\∀ l,v=.str (S l)->Mt (spl 32 l)=true->sayR C NW NP NTh TN NTo D td ms n (spl 32 l) H Q E
theorem hC (T:Txt mg tk)(O2:Ow2 K mg cO2)(O3:Ow3 K mg cO3)(F:Fun K "__init__" "Desk.__init__" s_Desk_init f fd)(C2:Dk P w K mg base cO2 1 ["self"] (spTgI cO2)):FnOk P w K mg base CX0 3 f fd ["self"] (spDkI cO3 cO2):=by
 refine F.okk ["self"] ?_
 rintro _ _ _ _ H _ _ _ hr ⟨p,dx,rfl,hp,q⟩ nd
 refine⟨_,(LY (OW (pv 0) (Xv C2 hr.L5 rfl O2.m_Tongues) rfl)),?_⟩
 walk_at "s0"
 ext
 refine Ph ?_
 ext
 refine Qb ?_
 ext
 intro x dx1 hx Ft Cy
 have s1:Same H (upd (upd H dx1 (.own x)) x (.ins cO2 dx1 [])):=fun b o e=>by
  rw[L4 (Mj e hx),L4 (Mj e Ft)];exact e
 have e1:=LX (H:=upd H dx1 (.own x)) (a:=x) (o:=.ins cO2 dx1 [])
 generalize upd (upd H dx1 (.own x)) x (.ins cO2 dx1 [])=H1 at s1 e1 ⊢
 refine⟨x,dx1,rfl,e1,fun td H2 DQ hT off=>⟨rfl,?_⟩⟩
 have px:p≠x:=Mj hp hx
 have ES:=off _ _ px (s1 _ _ hp)
 ext
 refine Pi ES O3.cl O3.n_tongues (by decide) ?_
 ext
 obtain⟨dxt,t1,t2⟩:=hT
 have tpn:td≠p:=fun z=>by rw[z,s1 _ _ hp] at DQ;cases DQ
 exact q x td _ (s1.free DQ) ⟨⟨dx,LX⟩,dxt,by rw[L4 (MB px)];exact t1,by rw[L4 tpn];exact t2⟩ fun b o hb e=>by
  rw[L4 hb];exact off _ _ (Mj e hx) (s1 _ _ e)
theorem hV (T:Txt mg tk)(O2:Ow2 K mg cO2)(O3:Ow3 K mg cO3)(F:Fun K "keep" "Desk.keep" s_Desk_keep f fd)(C8:Dm P w K mg base cO2 "put" 5 ["self","name","breaker"] (spPut cO cO2)):FnOk P w K mg base CX0 6 f fd ["self","name","breaker"] (YE cO3 cO cO2):=by
 refine F.okk ["self","name","breaker"] ?_
 rintro _ _ _ _ H _ _ _ hr ⟨d,tp,td,bp,bkd,bld,B',nm,pats,told,hd,tl,rfl,⟨⟨dd,FT⟩,hT⟩,hB,Cz,Eu,EU,Ed,q⟩ nd
 obtain⟨dxt,t1,t2⟩:=id hT
 refine⟨_,(LZ (Na (Se (Np (pv 0) rfl) O2.cl C8 hr.L5 (LS (pv 1) (pa1 (pv 2)))))
  (LY (L6 LU))),?_⟩
 walk_at "s0"
 rw[t_ok]
 ext
 refine Pf ?_
 ext
 refine Nr ?_
 ext
 refine Nt FT O3.cl O3.n_tongues rfl ?_
 refine Pg t1 rfl ?_
 ext
 refine⟨tp,td,bp,bkd,bld,B',nm,pats,told,hd,tl,rfl,hT,hB,Cz,Eu,EU,Ed,fun p kd ld H1 h1 h2 h3 FO e1 off=>?_⟩
 ext
 exact q p kd ld H1 h1 h2 h3 FO e1 off
theorem hZ (F:Fun K "pare" "Desk.pare" s_Desk_pare f fd):FnOk P w K mg base CX0 1 f fd ["self","name","breaker"] YF:=by
 refine F.ok sc_Desk_pare (fun vs H Q E h=>h.elim) (fun cdv A outer s H vs Q E hr h=>h.elim)
theorem Uk (hk:keeps C D td ms n nm H Q) (hT:TB C (offH H D) B' ms) (DQ:td∈D) (hD:∀ b∈D,∃ o,H b=some o/\∀ zs,o≠.tup zs) (s:Same H H1) (h1:H1 p=none) (h2:H1 kd=none) (h3:H1 ld=none) (hB:BrkAt C H' p kd ld b.pats b.told b.hd b.tl) (e:H' td=some (.dK (putK B' (Sum.inr (S nm)) (.ref p)))) (off:∀ b o,b≠td->H1 b=some o->H' b=some o) (hO:OkN (n+1) b):Q (.str (S tOK)) H':=by
 have off2:∀ b o,b≠td->H b=some o->H' b=some o:=fun b o hb eb=>off b o hb (s _ _ eb)
 have nin:∀ a,H1 a=none->a∉D:=fun a ha hm=>by
  obtain⟨o,ho,_⟩:=hD a hm
  rw[s.free ha] at ho;cases ho
 refine hk b _ H' hO (TB.put (hT.same (ZV fun b o hb eb=>⟨hb,off2 b o (fun z=>hb (z▸DQ)) eb⟩)) (hB.offD (fun a ha zs ea=>?_) (nin p h1) (nin kd h2) (nin ld h3)) hO.ok) e off2
 obtain⟨o,ho,hz⟩:=hD a ha
 by_cases z:a=td
 ·rw[z,e] at ea;cases ea
 ·rw[off2 a o z ho] at ea
  injection ea with ea
  exact hz zs ea
theorem ia (w g:List Nat):brD w g=patD (w,g.map fun k:Nat=>(k:Int)):=by
 unfold brD patD
 rw[Ng];rfl
theorem ib:∀ k:Fin 201,SH (Mg (toString ((k.1:Nat):Int)))=some ((k.1:Nat):Int):=by decide +kernel
theorem Ul (h:M' l a b=true) (hb:b<=200):∃ k:Nat,l=dig k/\a<=k/\k<=b/\SH (S l)=some (k:Int):=by
 unfold M' at h
 obtain⟨k,hk,e⟩:=UD.mp h
 have e:l=dig (a+k):=of_decide_eq_true e
 have hk:=PL.mp hk
 refine⟨a+k,e,by omega,by omega,?_⟩
 rw[e,RO]
 exact ib ⟨a+k,by omega⟩
theorem YG (h:hasC ws=true):∃ n,cntL (ws.getD 0 [])=some n/\(ws.length=n∨(ws.getD 0 []=tPRS/\n < ws.length)):=by
 unfold hasC at h
 cases hc:cntL (ws.getD 0 []) with
 | none=>rw[hc] at h;cases h
 | some n =>
  rw[hc] at h
  refine⟨n,rfl,?_⟩
  simp only[au,MQ,decide_eq_true_eq] at h
  exact h
theorem Nn (ws:List (List Nat)):(LW ws).length=ws.length:=L8 ..
theorem YH (ws:List (List Nat))(h:2<=ws.length):cutV (LW ws) (some 2) none=LW (ws.drop 2):=by
 rw[Ru,LW,Rw]
 have:=WB ws 2 h
 rw[show cutA ws (some 2) none=ws.drop 2 from this];rfl
theorem refuses.mono {C:Ac}{f:Str}{y:V}{H H':Hp}{E:XK}(h:refuses C f y H E)(s:Same H H'):refuses C f y H' E:=fun e d H2 h1 h2 h3=>h e d H2 h1 h2 (s.trans h3)
theorem Um (h:cntL l=some n):2<=n/\(l≠tPTS->l≠tPAR->3<=n)/\(l=tTON->n=4):=by
 unfold cntL at h
 by_cases h1:l=tTON
 ·rw[B9 h1] at h;injection h with h
  exact⟨by omega,fun _ _=>by omega,fun _=>h.symm⟩
 rw[B8 h1] at h
 refine⟨?_,fun a b=>?_,fun z=>absurd z h1⟩
 ·repeat' split at h
  all_goals first | (cases h;done) | (injection h with h;omega)
 ·rw[B8 a,B8 b] at h
  repeat' split at h
  all_goals first | (cases h;done) | (injection h with h;omega)
theorem t_bar:Mg "|"=S [124]:=by decide +kernel
theorem ic {w g:List Nat}{c:Nat}(h:c∈w):c∈txt w g w.length:=by
 obtain⟨k,hk,rfl⟩:=Zi.mp h
 unfold txt
 refine Zm.mpr ⟨k,PL.mpr hk,?_⟩
 unfold bit
 refine Nv.mpr (.inr ?_)
 rw[Mq,Mm hk]
 exact OJ.mpr rfl
theorem OkN.told {n:Nat} (h:OkN n b) (hn:n<=90) {w g:List Nat} (hc:∀ c∈w,c < 128) (hR:Rise 0 w.length g):OkN (n+1) ⟨b.pats,putG b.told w (g.map fun k:Nat=>(k:Int)),b.hd,b.tl⟩:=by
 have hl:=Ym b.told w (g.map fun k:Nat=>(k:Int))
 have h1:=h.pn
 have h2:=h.tn
 refine⟨⟨h.ok.ps,h.ok.pl,by show (putG _ _ _).length<=100;omega,Uf h.ok.nd,h.ok.pc,fun x hx=>?_,fun x hx=>?_⟩,by show b.pats.length<=n+1;omega,by show (putG _ _ _).length<=n+1;omega,h.vp⟩
 ·rcases Yn hx with hx | rfl
  ·exact h.ok.tc x hx
  ·exact hc
 ·rcases Yn hx with hx | rfl
  ·exact h.ok.tg x hx
  ·exact⟨g,rfl,hR⟩
theorem YI (h:VP s ns):∀ c∈s,c < 128:=fun c hc=>by
 obtain⟨k,hk,rfl⟩:=Zi.mp hc
 have e:s.getD k 0=s[k]:=by rw[Mq,Mm hk];rfl
 rcases h.let_ k hk with ⟨h1,_⟩ | h1
 ·rw[e] at h1;omega
 ·rw[e] at h1
  have:97<=s[k]/\s[k]<=122:=of_decide_eq_true h1
  omega
theorem OkN.pat (h:OkN n b) (hn:n<=90) (hx:VP x.1 x.2):OkN (n+1) ⟨b.pats++[x],b.told,b.hd,b.tl⟩:=by
 have h1:=h.pn
 have h2:=h.tn
 have hl:(b.pats++[x]).length=b.pats.length+1:=by rw[Mn];rfl
 have hm:∀ y∈b.pats++[x],y∈b.pats∨y=x:=fun y hy=>(Nv.mp hy).imp id OJ.mp
 refine⟨⟨fun y hy=>?_,by show (b.pats++[x]).length<=100;omega,h.ok.tl,h.ok.nd,fun y hy=>?_,h.ok.tc,h.ok.tg⟩,by show (b.pats++[x]).length<=n+1;omega,by show b.told.length<=n+1;omega,fun y hy=>?_⟩
 ·rcases hm y hy with hy | rfl
  ·exact h.ok.ps y hy
  ·have:=hx.len
   have:=hx.pos
   have:=hx.nlen
   omega
 ·rcases hm y hy with hy | rfl
  ·exact h.ok.pc y hy
  ·exact YI hx
 ·rcases hm y hy with hy | rfl
  ·exact h.vp y hy
  ·exact hx
theorem okN_nil (n:Nat)(hd tl:Int):OkN n ⟨[],[],hd,tl⟩ :=
 ⟨⟨(fun x hx=>nomatch hx),ML _,ML _,List.nodup_nil,(fun x hx=>nomatch hx),(fun x hx=>nomatch hx),fun x hx=>nomatch hx⟩,ML _,ML _,fun x hx=>nomatch hx⟩
theorem ie (h:Mz ms z=some b):∃ m∈ms,m.2=b:=by
 unfold Mz at h
 obtain⟨m,hm,rfl⟩:=jf.mp h
 exact⟨m,iW hm,rfl⟩
theorem ig (T:Txt mg tk)(O:Ow K mg cO)(O2:Ow2 K mg cO2)(O3:Ow3 K mg cO3)(F:Fun K "say" "Desk.say" s_Desk_say f fd)(C3:DnX P w K mg base "words_of_row" 5 ["row"] (YD (ad 7)))(Dy:DnX P w K mg base "pressed" 7 ["tongues","text","width"] (Ye cO cO2 (ad 3) (ad 6) (ad 4)))(Ds:Dn P w K mg base "parted" 1 ["texts","sign"] Ys)(Cf:Dk P w K mg base cO 2 ["self","patterns","told","head","tail"] (RH cO))(Ce:DmX P w K mg base cO2 "breaker_of" 3 ["self","name"] (T9 cO2 (ad 6)))(Cw:DnX P w K mg base "with_pattern_more" 5 ["breaker","text"] (spWPM cO (ad 2)))(Dg:Dn P w K mg base "with_told" 4 ["breaker","broken"] (spWT cO))(C9:DnX P w K mg base "read_broken" 3 ["text"] (Yg (ad 1)))(Da:DnX P w K mg base "shown_word" 6 ["breaker","text"] (Yr cO (ad 1)))(CO:Dn P w K mg base "shown_pattern" 2 ["pattern"] Yj)(CL:Dm P w K mg base cO3 "keep" 6 ["self","name","breaker"] (YE cO3 cO cO2))(Dh:Dm P w K mg base cO3 "pare" 1 ["self","name","breaker"] YF) :
  FnOk P w K mg base (CXx P w) 8 f fd ["self","row"] (RP cO3 cO cO2 (ad 1) (ad 2) (ad 3) (ad 4) (ad 6) (ad 7)):=by
 refine F.okx ["self","row","words","name","breaker"] ?_
 rintro _ _ _ s H _ _ _ hr ⟨d,tp,td,v,B',ms,D,n,rfl,hv,⟨Gn,DQ,hD,Ea,D_,hn,hok⟩,q0,q1⟩ nd
 refine⟨_,(LZ (pst 2 nd (QO C3 hr.L5 rfl (Qf (fun _ _ _ z=>z)) (pa1 (pv 1))))
  (LZ (Ma (Mb (o_eq hr.units) (pix K (pv 2) LV) LU (L9 _))
   (LY (L6 (Mc Ds hr.L5 rfl (LS (QO Dy hr.L5 rfl (Qf (fun _ _ _ z=>z)) (LS (Np (pv 0) rfl) (LS (MM (MN (K:=K)) (pv 2) (MF LV) MX) (pa1 (pct Qc T.z_int (pa1 (pix K (pv 2) LV))))))) (pa1 LU)))))
   Mh)
  (LZ (pst 3 nd (pix K (pv 2) LV))
  (LZ (Ma (Mb (o_eq hr.units) (pix K (pv 2) LV) LU (L9 _))
   (LY (L6 (Se (pv 0) O3.cl CL hr.L5 (LS (pv 3) (pa1 (Tx Cf hr.L5 rfl O.m_Breaker (LS (Mp pa_nil) (LS (Mp pa_nil) (LS (pct Qc T.z_int (pa1 (pix K (pv 2) LV))) (pa1 (pct Qc T.z_int (pa1 (pix K (pv 2) LV)))))))))))))
   Mh)
  (LZ (pst 4 nd (UU (Np (pv 0) rfl) O2.cl Ce hr.L5 (Qf (fun _ _ _ z=>z)) (pa1 (pv 3))))
  (LZ (Ma (Mb (o_eq hr.units) (pix K (pv 2) LV) LU (L9 _))
   (LY (L6 (Se (pv 0) O3.cl CL hr.L5 (LS (pv 3) (pa1 (QO Cw hr.L5 rfl (Qf (fun _ _ _ z=>z)) (LS (pv 4) (pa1 (pix K (pv 2) LV)))))))))
   Mh)
  (LZ (Ma (Mb (o_eq hr.units) (pix K (pv 2) LV) LU (L9 _))
   (LY (L6 (Se (pv 0) O3.cl CL hr.L5 (LS (pv 3) (pa1 (Mc Dg hr.L5 rfl (LS (pv 4) (pa1 (QO C9 hr.L5 rfl (Qf (fun _ _ _ z=>z)) (pa1 (pix K (pv 2) LV)))))))))))
   Mh)
  (LZ (Ma (Mb (o_eq hr.units) (pix K (pv 2) LV) LU (L9 _))
   (LY (L6 (QO Da hr.L5 rfl (Qf (fun _ _ _ z=>z)) (LS (pv 4) (pa1 (pix K (pv 2) LV))))))
   Mh)
  (LZ (Ma (Mb (o_eq hr.units) (pix K (pv 2) LV) LU (L9 _))
   (LY (L6 (Mc Ds hr.L5 rfl (LS (Px ["pattern"] [none] rfl (by kernel_rfl) rfl (NS (K:=K) (Np (pv 4) rfl)) (fun _ _ _ _=>(NZ (i:=0) (show (["pattern"]:List Str).Nodup by decide +kernel) rfl (Or.inl rfl) (Or.inr rfl))) (fun _ _ _ _=>Q4) (fun _ _ _ _=>(Mc CO hr.L5 rfl (pa1 (pv 0))))) (pa1 LU)))))
   Mh)
  (LY (L6 (Se (pv 0) O3.cl Dh hr.L5 (LS (pv 3) (pa1 (pv 4))))))))))))))),?_⟩
 walk_at "s0"
 rw[Ql,Oz,Qk,Ob,Ui,RN,t_bar,UW]
 ext
 refine⟨v,rfl,hv,fun l hl Ck r H1 Cc er s1=>?_,q0⟩
 obtain⟨qp,qt,qn,qb⟩:=q1 l hl Ck
 subst hl
 obtain⟨Ev,Gk⟩:l.length<=40/\isTx l=true:=by
  rcases hv with ⟨l',e,h1,h2⟩ | e | ⟨i,e⟩ | ⟨b,e⟩ | ⟨p,xs,e,_⟩
  ·cases S_inj.mp e;exact⟨h1,h2⟩
  ·cases e
  ·cases e
  ·cases e
  ·cases e
 have DY:∀ x∈spl 32 l,x.length<=40/\∀ c∈x,c < 128:=fun x hx=>⟨by have:=(Uh hx).1;omega,fun c hc=>Uj Gk ((Uh hx).2 c hc)⟩
 have Eb:=UX 32 l
 generalize spl 32 l=ws at Ck er qp qt qn qb DY Eb
 unfold Mt at Ck
 rw[MQ] at Ck
 obtain⟨hh,Ck⟩:=Ck
 obtain⟨cn,DU,Cd⟩:=YG hh
 have EF:∀ i,(ws.getD i []).length<=40/\∀ c∈ws.getD i [],c < 128:=fun i=>by
  rw[Mq]
  cases e:ws[i]? with
  | none=>exact⟨ML _,fun c hc=>nomatch hc⟩
  | some x=>exact DY x (OB e)
 have IZ:=Gn.same s1
 obtain⟨⟨dd,ed⟩,hT⟩:=id IZ
 have h0:=Nm (show 0 < ws.length by
  cases ws with
  | nil=>cases DU
  | cons _ _=>simp)
 ext
 by_cases hP:ws.getD 0 []=tPRS
 ·refine Nb (by rw[hP]) ?_
  rw[B9 hP] at Ck
  obtain⟨wd,Hk,DV,Ke,Lg⟩:=Ul Ck (by decide)
  have Gc:3<=ws.length:=by
   rw[hP] at DU
   cases DU
   omega
  have h1:=Nm (show 1 < ws.length by omega)
  obtain⟨qp1,qp2,qp3⟩:=qp hP
  ext
  refine Nr ?_
  ext
  refine Nt ed O3.cl O3.n_tongues rfl ?_
  ext
  refine Py (SqL.of er) fun a2 DG=>?_
  rw[YH ws (by omega)]
  obtain⟨H2,Fw,s2,ea2⟩:=Ms DG (.lst (LW (ws.drop 2)))
  rw[Fw]
  have er2:=s2 _ _ er
  have s12:=s1.trans s2
  ext
  refine⟨(wd:Int),Lg,by rw[Me];have:=(EF 1).1;omega,?_⟩
  ext
  refine⟨tp,td,a2,B',ms,ws.drop 2,wd,rfl,hT.same s2,(Ea.same (X2 _ _)).same s12,ea2,by rw[NN];omega,fun x hx=>⟨(DY x (So hx)).2,(DY x (So hx)).1⟩,by omega,by omega,fun k hk=>(qp1 k hk).mono s12,fun nm Ex=>(qp2 nm Ex).mono s12,fun ht k=>((qp3 ht).1 k).mono s12,fun ht r3 lns H3 e3 Gc Hg s3=>?_⟩
  ext
  refine⟨r3,lns,124,rfl,e3,Gc,Hg,?_⟩
  exact(qp3 ht).2 _ H3 (s12.trans s3)
 ·refine Nc (fun z=>hP (S_inj.mp z)) ?_
  rw[B8 hP] at Ck
  have Cd:ws.length=cn:=Cd.resolve_right fun z=>hP z.1
  obtain⟨Gy,Gm,HX⟩:=Um DU
  have h1:=Nm (show 1 < ws.length by omega)
  ext
  by_cases E_:ws.getD 0 []=tTON
  ·refine Nb (by rw[E_]) ?_
   rw[B9 E_,MQ,MQ] at Ck
   obtain⟨⟨Er,GF⟩,_⟩:=Ck
   have hl4:=HX E_
   have h2:=Nm (show 2 < ws.length by omega)
   have h3:=Nm (show 3 < ws.length by omega)
   obtain⟨hd,_,_,_,Lh⟩:=Ul Er (by decide)
   obtain⟨tl,_,_,_,tli⟩:=Ul GF (by decide)
   ext
   refine Pf ?_
   ext
   refine Pg ed rfl ?_
   ext
   refine Qb ?_
   ext
   intro la FR
   obtain⟨H2,Fw,s2,ela⟩:=Ms FR (.lst [])
   rw[Fw]
   ext
   intro lb Hr
   obtain⟨H3,EW,s3,elb⟩:=Ms Hr (.lst [])
   rw[EW]
   have s23:=s2.trans s3
   have er3:=s23 _ _ er
   ext
   refine⟨(hd:Int),Lh,by rw[Me];have:=(EF 2).1;omega,?_⟩
   ext
   refine⟨(tl:Int),tli,by rw[Me];have:=(EF 3).1;omega,?_⟩
   ext
   intro xo dx hx Ft Cy
   have s4:Same H3 (upd (upd H3 dx (.own xo)) xo (.ins cO dx [])):=fun b o e=>by
    rw[L4 (Mj e hx),L4 (Mj e Ft)];exact e
   have e4:=LX (H:=upd H3 dx (.own xo)) (a:=xo) (o:=.ins cO dx [])
   generalize upd (upd H3 dx (.own xo)) xo (.ins cO dx [])=H4 at s4 e4 ⊢
   refine⟨xo,la,lb,dx,[],[],[],[],(hd:Int),(tl:Int),rfl,e4,s4 _ _ (s3 _ _ ela),s4 _ _ elb,by simp only[Oe,L2.IsL],by simp only[Oe,L2.IsL],by simp,by simp,by simp,fun kd ld H5 Fe EG hB off=>⟨rfl,?_⟩⟩
   have s35:Same H3 H5:=fun b o e=>off b o (Mj e hx) (s4 _ _ e)
   have s05:=s1.trans (s23.trans s35)
   ext
   have Ed:=Ea.len
   refine⟨d,tp,td,xo,kd,ld,B',ws.getD 1 [],[],[],(hd:Int),(tl:Int),rfl,Gn.same s05,hB,by simp,by simp,by simp,by omega,fun p kd' ld' H6 g1 g2 g3 Gj e6 off6=>?_⟩
   exact Uk (b:=⟨[],[],(hd:Int),(tl:Int)⟩) (qt E_) Ea DQ hD s05 g1 g2 g3 Gj e6 off6 (okN_nil _ _ _)
  ·refine Nc (fun z=>E_ (S_inj.mp z)) ?_
   obtain⟨dxt,t1,t2⟩:=id hT
   ext
   refine Pf ?_
   ext
   refine Nr ?_
   ext
   refine Nt ed O3.cl O3.n_tongues rfl ?_
   refine Pg t1 rfl ?_
   ext
   refine⟨tp,td,B',ws.getD 1 [],rfl,hT,(EF 1).2,by have:=(EF 1).1;omega,?_⟩
   have Hs:=(Ea.same (X2 _ _)).same s1
   cases DB:Mz ms (ws.getD 1 []) with
   | none=>exact .inr ⟨Hs.look0 _ DB,(qn hP E_ DB).mono s1⟩
   | some b =>
    obtain⟨bp,bkd,bld,EE,hB,hO⟩:=Hs.look _ b DB
    obtain⟨qb0,qb1,qb2,qb3,qb4⟩:=qb b DB
    have Ed:=Ea.len
    have Fg:OkN n b:=by
     obtain⟨m,hm,rfl⟩:=ie DB
     exact hok m hm
    refine .inl ⟨.ref bp,EE,?_⟩
    obtain⟨dx0,ys0,kvs0,b1,b2,b3,b4,b5⟩:=id hB
    ext
    by_cases EH:ws.getD 0 []=tPAT
    ·refine Nb (by rw[EH]) ?_
     have Gc:3<=ws.length:=by
      have:=Gm (by rw[EH];decide) (by rw[EH];decide)
      omega
     have h2:=Nm (show 2 < ws.length by omega)
     obtain⟨qx,qk⟩:=qb1 EH
     ext
     refine Pf ?_
     ext
     refine Pg ed rfl ?_
     ext
     refine⟨bp,bkd,bld,b,ws.getD 2 [],rfl,hB,hO,by have:=(EF 2).1;omega,fun u hu u1 u2 p kd ld H2 g1 g2 g3 FS s2=>?_,fun k hk=>(qx k hk).mono s1⟩
     have EY:Nl (ws.getD 2 []) ⟨[],[],0⟩ 0=none:=by
      rw[Tu hu,B8 fun z=>z.elim u1 u2]
     have Li:=((PinP.start.run hu).vp u1 u2).1
     have Go:=Fg.pat hn (x:=(u.sg,u.ns++[u.n])) Li
     have s02:=s1.trans s2
     ext
     have Cz:=Go.pn
     have Eu:=Go.tn
     refine⟨d,tp,td,p,kd,ld,B',ws.getD 1 [],b.pats++[(u.sg,u.ns++[u.n])],b.told,b.hd,b.tl,rfl,Gn.same s02,FS,by have:(b.pats++[(u.sg,u.ns++[u.n])]).length<=n+1:=Cz;omega,by have:b.told.length<=n+1:=Eu;omega,Fg.ok.nd,by omega,fun p' kd' ld' H6 k1 k2 k3 Gj e6 off6=>?_⟩
     exact Uk (b:=⟨b.pats++[(u.sg,u.ns++[u.n])],b.told,b.hd,b.tl⟩) (qk EY) Ea DQ hD s02 k1 k2 k3 Gj e6 off6 Go
    ·refine Nc (fun z=>EH (S_inj.mp z)) ?_
     ext
     by_cases GG:ws.getD 0 []=tTOL
     ·refine Nb (by rw[GG]) ?_
      have Gc:3<=ws.length:=by
       have:=Gm (by rw[GG];decide) (by rw[GG];decide)
       omega
      have h2:=Nm (show 2 < ws.length by omega)
      obtain⟨qx,qk⟩:=qb2 GG
      ext
      refine Pf ?_
      ext
      refine Pg ed rfl ?_
      ext
      refine⟨ws.getD 2 [],rfl,by have:=(EF 2).1;omega,fun w' g Kf v H2 Ho s2=>?_,fun k hk=>(qx k hk).mono s1⟩
      obtain⟨I_,hR,DW⟩:=d8 Kf
      have EY:Nz (ws.getD 2 []) ⟨[],[],true⟩ 0=none:=by
       rw[W0 Kf];rfl
      have Lj:∀ c∈w',c < 128:=fun c hc=>(EF 2).2 c (by rw[<- I_];exact ic hc)
      have Go:=Fg.told hn Lj hR
      rw[ia] at Ho
      have s02:=s1.trans s2
      have Cz:=Go.pn
      have Eu:=Go.tn
      have Ll:=Fg.pn
      have htn:=Fg.tn
      ext
      refine⟨bp,bkd,bld,v,b.pats,b.told,b.hd,b.tl,_,rfl,hB.same s2,Ho,by omega,by omega,Fg.ok.nd,fun p kd ld H3 g1 g2 g3 Lm s3=>?_⟩
      have s03:=s02.trans s3
      ext
      refine⟨d,tp,td,p,kd,ld,B',ws.getD 1 [],b.pats,putG b.told w' (g.map fun k:Nat=>(k:Int)),b.hd,b.tl,rfl,Gn.same s03,Lm,by omega,by have:(putG b.told w' (g.map fun k:Nat=>(k:Int))).length<=n+1:=Eu;omega,Uf Fg.ok.nd,by omega,fun p' kd' ld' H6 k1 k2 k3 Gj e6 off6=>?_⟩
      exact Uk (b:=⟨b.pats,putG b.told w' (g.map fun k:Nat=>(k:Int)),b.hd,b.tl⟩) (qk EY) Ea DQ hD s03 k1 k2 k3 Gj e6 off6 Go
     ·refine Nc (fun z=>GG (S_inj.mp z)) ?_
      ext
      by_cases GH:ws.getD 0 []=tBRK
      ·refine Nb (by rw[GH]) ?_
       have Gc:3<=ws.length:=by
        have:=Gm (by rw[GH];decide) (by rw[GH];decide)
        omega
       have h2:=Nm (show 2 < ws.length by omega)
       obtain⟨qx,qk⟩:=qb3 GH
       ext
       refine⟨bp,bkd,bld,b,ws.getD 2 [],rfl,hB,hO,by have:=(EF 2).1;omega,fun hw g H2 hg s2=>?_,fun k hk=>(qx k hk).mono s1⟩
       have e:brkF b (ws.getD 2 [])=txt (ws.getD 2 []) g (ws.getD 2 []).length:=by
        unfold brkF
        rw[hg,Ng]
        congr 1
        conv=>rhs;rw[<- List.map_id g]
        apply UA
        intro k _
        simp
       rw[<- e]
       exact qk hw H2 (s1.trans s2)
      ·refine Nc (fun z=>GH (S_inj.mp z)) ?_
       ext
       by_cases Ja:ws.getD 0 []=tPTS
       ·refine Nb (by rw[Ja]) ?_
        rw[<- RN]
        ext
        refine Nr ?_
        ext
        refine Nt b1 O.cl O.n_patterns rfl ?_
        refine O7 (SqL.of b4) ?_
        intro r2 El
        have FM:=b5.length
        rw[L8] at FM
        have Ll:=Fg.pn
        refine We (K:=K) (xs:=ys0) (fun i Ca σ H'=>∃ x,σ=[x]/\Ca=LW ((b.pats.take i).map fun x=>ptxt x.1 x.2)/\H' r2=some (.lst Ca)/\Same H1 H') (fun i Ca σ H' _ ⟨_,_,_,_,s⟩=>SqL.of (s _ _ b4))
         ⟨none,rfl,rfl,LX,L_ El _⟩ (fun i Ca σ H' ⟨_,_,e,e2,_⟩=>⟨e2,by rw[e,LW,L8,L8,MI];omega⟩) (szn (by omega)) ?_ ?_
        ·rintro i Ca σ H2 hi ⟨x,rfl,rfl,e2,s2⟩
         rw[FM] at hi
         obtain⟨y,dy,hy,DR,hI⟩:=IsL.get (IsL.same s2 b5) (show i < (b.pats.map patD).length by simpa using hi)
         rw[MC,Mm hi] at DR
         cases DR
         rw[Mq,hy,Option.getD_some]
         ext
         refine⟨y,b.pats[i],rfl,hI,Fg.vp _ (Qt hi),fun H3 s3=>?_⟩
         refine⟨s3 _ _ e2,_,rfl,?_,LX,Sk El (s2.trans s3)⟩
         rw[Od,Mm hi,LW,LW,Mr,Mr];rfl
        ·rintro Ca σ H2 ⟨x,rfl,rfl,e2,s2⟩
         rw[FM,NO] at e2
         ext
         refine⟨r2,(b.pats.map fun x:Pat=>ptxt x.1 x.2),32,rfl,e2,by rw[L8];omega,fun x hx=>?_,?_⟩
         ·obtain⟨y,hy,rfl⟩:=Nw.mp hx
          have:=W7 y.1 y.2
          have:=(Fg.vp y hy).len
          omega
         ·exact qb4 Ja H2 (s1.trans s2)
       ·exfalso
        unfold cntL at DU
        rw[B8 E_,B8 EH,B8 GG,B8 GH,B8 Ja,B8 qb0,B8 hP] at DU
        cases DU
noncomputable abbrev s_law_said:Av:=top 80
noncomputable def tROW:List Nat:=[114,111,119]
noncomputable def tWRD:List Nat:=[119,111,114,100]
noncomputable def tTHI:List Nat:=[116,104,105,110,103]
noncomputable def tNAR:List Nat:=[110,97,114,114,111,119]
theorem t_row:Mg "row"=S tROW:=by decide +kernel
theorem t_wrd:Mg "word"=S tWRD:=by decide +kernel
theorem t_thi:Mg "thing"=S tTHI:=by decide +kernel
theorem t_nar:Mg "narrow"=S tNAR:=by decide +kernel
def ans (k:List Nat)(y:V)(H:Hp)(Q:VK):Prop:=∀(r:Ac) (H':Hp),H r=none->H' r=some (.lst [.str (S k),y])->Same H H'->Q (.ref r) H'
theorem ans.mono (h:ans k y H Q) (s:Same H H'):ans k y H' Q:=fun r H2 h1 h2 h3=>h r H2 (s.free h1) h2 (s.trans h3)
noncomputable def RQ (C:Ac)(D:List Ac)(td:Ac)(ms:List (List Nat×Bp))(n:Nat)(ws:List (List Nat))(H:Hp)(Q:VK):Prop :=
 outR (fun y=>ans tTHI y H Q) (fun y=>ans tNAR y H Q) (fun y=>ans tTON y H Q) (fun y=>ans tPAT y H Q) (fun y=>ans tWRD y H Q) (fun z=>keeps C D td ms n z H fun v H1=>ans tTOL v H1 Q) (fun t=>ans tTOL (.str (S t)) H Q) ms ws
def RR (CD C CT:Ac):Sp:=fun vs H Q _=>∃(d tp td:Ac) (v:V) (B':List (Key×V)) (ms:List (List Nat×Bp)) (D:List Ac) (n:Nat),vs=[.ref d,v]/\RowV H v/\DkS CD C CT H d tp td B' ms D n /\
 ((∀ l,v=.str (S l)->Mt (spl 32 l)=false)->ans tROW .non H Q)/\∀ l,v=.str (S l)->Mt (spl 32 l)=true->RQ C D td ms n (spl 32 l) H Q
noncomputable def kc (j:Nat):Nat:=[7,6,2,1,3,4].getD j 0
noncomputable def kw (j:Nat):List Nat:=[tROW,tTON,tPAT,tWRD,tTHI,tNAR].getD j []
theorem Uo:∀ j:Fin 6,kc j.1 < 8/\kc j.1≠0/\kc j.1≠5:=by decide
theorem kw_ton:∀ j:Fin 6,decide (kw j.1=tTON)=decide (j.1=1):=by decide
theorem kw_row:∀ j:Fin 6,decide (kw j.1=tROW)=decide (j.1=0):=by decide
noncomputable def Qm (c:Nat):List Bool:=[decide (7=c),decide (6=c),decide (2=c),decide (1=c),decide (3=c),decide (4=c)]
theorem ii:∀ j:Fin 6,(Qm (kc j.1)).count true=1/\(Qm (kc j.1))[j.1]?=some true/\∀ i:Fin 6,i.1 < j.1->(Qm (kc j.1))[i.1]?≠some true:=by decide
theorem Cs.ne (Z:Cs K mg ad)(i j:Nat)(hi:i < 8)(hj:j < 8)(h:i≠j):ad i≠ad j:=fun e=>by
 have nd:=Z.nd
 have h1:∀ k,k < 8->([ad 0,ad 1,ad 2,ad 3,ad 4,ad 5,ad 6,ad 7]:List Ac)[k]?=some (ad k):=fun k hk=>by
  match k,hk with
  | 0,_=>rfl
  | 1,_=>rfl
  | 2,_=>rfl
  | 3,_=>rfl
  | 4,_=>rfl
  | 5,_=>rfl
  | 6,_=>rfl
  | 7,_=>rfl
 exact h ((List.getElem?_inj (by show i < 8;exact hi) nd).mp (by rw[h1 i hi,h1 j hj,e]))
theorem Cs.x (Z:Cs K mg ad)(i:Nat)(h:i < 8)(h0:i≠0):Exc K (ad 0) (ad i):=by
 match i,h,h0 with
 | 1,_,_=>exact Z.x_NoWord
 | 2,_,_=>exact Z.x_NoPattern
 | 3,_,_=>exact Z.x_NoThing
 | 4,_,_=>exact Z.x_TooNarrow
 | 5,_,_=>exact Z.x_Twice
 | 6,_,_=>exact Z.x_NoTongue
 | 7,_,_=>exact Z.x_NoRow
theorem Cs.kit (Z:Cs K mg ad) (hc:c < 8) (DI:c≠0) (hi:i < 8) (Ht:i≠0):Qr K (.ref (ad c)) (.ref (ad i))=some (decide (i=c)):=by
 by_cases e:i=c
 ·rw[e,B7 rfl];exact fk (Z.x c hc DI)
 ·rw[B6 e];exact fm (Z.x c hc DI) (Z.x i hi Ht) (Z.ne c i hc hi fun z=>e z.symm) (Z.ne i 0 hi (by decide) Ht)
theorem Cs.fld (Z:Cs K mg ad) (h:j < 6) (h0:j≠0):NoAttr K (ad (kc j)) (if j=1 then "name" else "place"):=by
 match j,h,h0 with
 | 1,_,_=>exact Z.n_NoTongue
 | 2,_,_=>exact Z.n_NoPattern
 | 3,_,_=>exact Z.n_NoWord
 | 4,_,_=>exact Z.n_NoThing
 | 5,_,_=>exact Z.n_TooNarrow
theorem ij (T:Txt mg tk)(Z:Cs K mg ad)(O3:Ow3 K mg cO3)(F:Fun K "_law_said" "_law_said" s_law_said f fd)(Cu:DmX P w K mg base cO3 "say" 8 ["self","row"] (RP cO3 cO cO2 (ad 1) (ad 2) (ad 3) (ad 4) (ad 6) (ad 7))):FnOk P w K mg base CX0 9 f fd ["_law_desk","_law_row"] (RR cO3 cO cO2):=by
 refine F.okk ["_law_desk","_law_row","_law_told","e","_law_kinds","_law_word"] ?_
 rintro _ _ _ _ H _ Q _ hr ⟨d,tp,td,v,B',ms,D,n,rfl,hv,hK,q0,q1⟩ nd
 obtain⟨EXC,hX⟩:∃ EXC:XK,EXC=fun v od H'=>∃(e:Ac) (j:Nat) (y:V),v=.ref e/\j < 6/\H' e=some (XO e (ad (kc j)) od false)/\((j=0/\od=none/\y=.non)∨(j≠0/\∃ d,od=some d/\H' d=some (.xd [((if j=1 then "name" else "place":Str),y)])))/\ans (kw j) y H' Q:=⟨_,rfl⟩
 have Gp:∀ x od H',EXC (.ref x) od H'->∃ C,H' x=some (XO x C od false)/\Exc K (ad 0) C:=fun x od H' h=>by
  rw[hX] at h
  obtain⟨e,j,y,e1,hj,h1,_⟩:=h
  cases e1
  exact⟨_,h1,Z.x _ (Uo ⟨j,hj⟩).1 (Uo ⟨j,hj⟩).2.1⟩
 refine⟨_,(LZ (pst 2 nd (Mp (LS LU (pa1 Ny))))
  (LZ (ps_try (i:=3) (EX:=EXC) rfl rfl nd rfl rfl rfl Z.m_WordError Z.w_WordError Gp (fun pn xe Jb=>(LY (pst 2 nd (Mp (LS LU (pa1 (UU (pv 0) O3.cl Cu hr.L5 Jb (pa1 (pv 1)))))))))
   (fun xx=>(LZ (pst 4 nd (Mp (LS (pcb (Sg (K:=K)) T.z_isinstance (LS (pv 3) (pa1 (OD (v:=.ref _) rfl Z.m_NoRow rfl)))) (LS (pcb (Sg (K:=K)) T.z_isinstance (LS (pv 3) (pa1 (OD (v:=.ref _) rfl Z.m_NoTongue rfl)))) (LS (pcb (Sg (K:=K)) T.z_isinstance (LS (pv 3) (pa1 (OD (v:=.ref _) rfl Z.m_NoPattern rfl)))) (pa1 (pcb (Sg (K:=K)) T.z_isinstance (LS (pv 3) (pa1 (OD (v:=.ref _) rfl Z.m_NoWord rfl))))))))))
  (LZ (pst 4 nd (L7 Md (pv 4) (Mp (LS (pcb (Sg (K:=K)) T.z_isinstance (LS (pv 3) (pa1 (OD (v:=.ref _) rfl Z.m_NoThing rfl)))) (pa1 (pcb (Sg (K:=K)) T.z_isinstance (LS (pv 3) (pa1 (OD (v:=.ref _) rfl Z.m_TooNarrow rfl)))))))))
  (LY (Ma (PW.pt (Pt (Mb (o_eq hr.units) (MO (K:=K) Og i_ PySem.F.type_list_count fz (pv 4) (pa1 Nx)) LV (L9 _)) (Pt (Oq (MY (pcb (Sg (K:=K)) T.z_isinstance (LS (pv 3) (pa1 (OD (v:=.ref _) rfl Z.m_Twice rfl)))) (fun _=>rfl))) (PQ (MY (pcb (Sg (K:=K)) T.z_isinstance (LS (pv 3) (pa1 (pty "ValueError" T.z_ValueError)))) (fun _=>rfl))))))
   (LZ (pst 5 nd (pix K (Mp (LS LU (LS LU (LS LU (LS LU (LS LU (pa1 LU))))))) (MO (K:=K) Og PySem.F.slot_list_index PySem.F.type_list_index m_idxB (pv 4) (pa1 Nx))))
  (LZ (pst 2 nd (Mp (LS (pv 5) (pa1 Ny))))
  (LY (Ma (Mb (o_eq hr.units) (pv 5) LU (L9 _))
   (LY (OV (TL (K:=K) (pv 3) rfl) (OU (pv 2) LV OZ)))
   (LY (Ma (Mb (o_ne hr.units) (pv 5) LU (L9 _))
   (LY (OV (TL (K:=K) (pv 3) rfl) (OU (pv 2) LV OZ)))
   Mh))))))
   Mh))))))
  (LY (L6 (pv 2))))),?_⟩
 walk_at "s0"
 rw[t_row,Oz,Qk,t_wrd,t_thi,t_nar,Ob]
 ext
 intro t0 FI
 obtain⟨H1,EV,s1,et0⟩:=Ms FI (.lst [.str (Mg "other"),.non])
 rw[EV]
 ext
 have thr:∀(j:Nat),j < 6->j≠0->∀ y,ans (kw j) y H Q->∀ e d H2,H2 e=some (XO e (ad (kc j)) (some d) false)->H2 d=some (.xd [((if j=1 then "name" else "place":Str),y)])->Same H1 H2->EXC (.ref e) (some d) H2:=fun j hj HY y hy e d H2 g1 g2 s2=>by
  rw[hX];exact⟨e,j,y,rfl,hj,g1,.inr ⟨HY,d,rfl,g2⟩,hy.mono (s1.trans s2)⟩
 refine i_try ?_ ?_
 ·obtain⟨⟨dd,ed⟩,_⟩:=(hK.same s1).dk
  ext
  refine Pf ?_
  ext
  refine Pg ed rfl ?_
  ext
  refine⟨d,tp,td,v,B',ms,D,n,rfl,hv.same s1,hK.same s1,fun DH e H2 h1 s2=>?_,fun l hl Ck=>(q1 l hl Ck).imp (fun y hy=>thr 4 (by decide) (by decide) y hy) (fun y hy=>thr 5 (by decide) (by decide) y hy) (fun y hy=>thr 1 (by decide) (by decide) y hy) (fun y hy=>thr 2 (by decide) (by decide) y hy) (fun y hy=>thr 3 (by decide) (by decide) y hy) (fun z hz b kvs' H2 a1 a2 a3 a4=>?_) fun t ht H2 s2=>?_⟩
  ·rw[hX];exact⟨e,0,.non,rfl,by decide,h1,.inl ⟨rfl,rfl,rfl⟩,(q0 DH).mono (s1.trans s2)⟩
  ·have hz:=hz b kvs' H2 a1 a2 a3 fun b o hb e=>a4 b o hb (s1 _ _ e)
   ext
   intro r Cc
   ext
   exact hz r _ Cc LX (L_ Cc _)
  ·ext
   intro r Cc
   ext
   exact(ht.mono (s1.trans s2)) r _ Cc LX (L_ Cc _)
 ·intro σ' v' e od H' hσ hE ev
  subst ev
  rw[hX] at hE
  obtain⟨e',j,y,e1,hj,h1,hc,ha⟩:=hE
  cases e1
  match σ',hσ with
  | [a0,a1,a2,a3,a4,a5],_ =>
   obtain⟨FU,DI,Ln⟩:=Uo ⟨j,hj⟩
   obtain⟨HM,E9,Lo⟩:=ii ⟨j,hj⟩
   have hM:=Z.x _ FU DI
   have hD:∀ d,od=some d->∃ fs,H' d=some (.xd fs):=fun d hd=>by
    rcases hc with ⟨_,h,_⟩ | ⟨_,d',h,h2⟩
    ·rw[h] at hd;cases hd
    ·rw[h] at hd;cases hd;exact⟨_,h2⟩
   ext
   refine Sh h1 hD hM (fun u h=>h) (Z.kit FU DI (i:=7) (by decide) (by decide)) ?_
   ext
   refine Sh h1 hD hM (fun u h=>h) (Z.kit FU DI (i:=6) (by decide) (by decide)) ?_
   ext
   refine Sh h1 hD hM (fun u h=>h) (Z.kit FU DI (i:=2) (by decide) (by decide)) ?_
   ext
   refine Sh h1 hD hM (fun u h=>h) (Z.kit FU DI (i:=1) (by decide) (by decide)) ?_
   ext
   intro p1 Hq
   have s2:=L_ Hq (.lst [.bl (decide (7=kc j)),.bl (decide (6=kc j)),.bl (decide (2=kc j)),.bl (decide (1=kc j))])
   have ep1:=LX (H:=H') (a:=p1) (o:=.lst [.bl (decide (7=kc j)),.bl (decide (6=kc j)),.bl (decide (2=kc j)),.bl (decide (1=kc j))])
   have g1:=s2 _ _ h1
   have gD:∀ d,od=some d->∃ fs,(upd H' p1 (.lst [.bl (decide (7=kc j)),.bl (decide (6=kc j)),.bl (decide (2=kc j)),.bl (decide (1=kc j))])) d=some (.xd fs):=fun d hd=>(hD d hd).imp fun fs h=>s2 _ _ h
   generalize upd H' p1 (.lst [.bl (decide (7=kc j)),.bl (decide (6=kc j)),.bl (decide (2=kc j)),.bl (decide (1=kc j))])=H2 at s2 ep1 g1 gD ⊢
   ext
   refine Sh g1 gD hM (fun u h=>h) (Z.kit FU DI (i:=3) (by decide) (by decide)) ?_
   ext
   refine Sh g1 gD hM (fun u h=>h) (Z.kit FU DI (i:=4) (by decide) (by decide)) ?_
   ext
   intro p2 ES
   obtain⟨H3,EW,s3,ep2⟩:=Ms ES (.lst [.bl (decide (3=kc j)),.bl (decide (4=kc j))])
   rw[EW]
   have ep13:=s3 _ _ ep1
   have s23:=s2.trans s3
   ext
   refine QK ep13 ep2 (szn (show 6<=1000000 by decide)) fun p3 Jc=>?_
   have Ed:([.bl (decide (7=kc j)),.bl (decide (6=kc j)),.bl (decide (2=kc j)),.bl (decide (1=kc j))]++[.bl (decide (3=kc j)),.bl (decide (4=kc j))]:List V)=(Qm (kc j)).map V.bl:=rfl
   rw[Ed]
   obtain⟨H4,Fv,s4,ep3⟩:=Ms Jc (.lst ((Qm (kc j)).map V.bl))
   rw[Fv]
   have s24:=s23.trans s4
   have f1:=s24 _ _ h1
   have fD:∀ d,od=some d->∃ fs,H4 d=some (.xd fs):=fun d hd=>(hD d hd).imp fun fs h=>s24 _ _ h
   clear g1 gD ep1 ep2 ep13 Ed s2 s3 s23
   ext
   refine fw ep3 ?_
   rw[HM]
   ext
   refine Sh f1 fD hM (fun u h=>h) (Z.kit FU DI (i:=5) (by decide) (by decide)) ?_
   rw[B6 (MB Ln)]
   ext
   refine Sh f1 fD hM (fun u h=>h) (kit_ve hM) ?_
   ext
   intro p4 Lp
   have s5:=L_ Lp (.lst (LW [tROW,tTON,tPAT,tWRD,tTHI,tNAR]))
   have ep4:(upd H4 p4 (.lst [.str (S tROW),.str (S tTON),.str (S tPAT),.str (S tWRD),.str (S tTHI),.str (S tNAR)])) p4=some (.lst (LW [tROW,tTON,tPAT,tWRD,tTHI,tNAR])):=LX
   have s5:Same H4 (upd H4 p4 (.lst [.str (S tROW),.str (S tTON),.str (S tPAT),.str (S tWRD),.str (S tTHI),.str (S tNAR)])):=s5
   generalize upd H4 p4 (.lst [.str (S tROW),.str (S tTON),.str (S tPAT),.str (S tWRD),.str (S tTHI),.str (S tNAR)])=H5 at s5 ep4 ⊢
   have ep35:=s5 _ _ ep3
   ext
   refine fE (j:=j) ep35 E9 (fun i hi=>Lo ⟨i,by omega⟩ hi) ?_
   ext
   refine N5 (v:=.str (S (kw j))) (M9 ep4) (Nm (ws:=[tROW,tTON,tPAT,tWRD,tTHI,tNAR]) hj) ?_
   ext
   intro r Cc
   obtain⟨H6,Gh,s6,er⟩:=Ms Cc (.lst [.str (S (kw j)),.non])
   rw[Gh]
   have GB:H' r=none:=(s24.trans s5).free Cc
   have s06:=(s24.trans s5).trans s6
   have e1:=kw_ton ⟨j,hj⟩
   have e0:=kw_row ⟨j,hj⟩
   have hS:∀ z:List Nat,decide (V.str (S (kw j))=V.str (S z))=decide (kw j=z):=fun z=>by
    rw[No,decide_eq_true_eq,decide_eq_true_eq];exact S_inj
   have k1:=s06 _ _ h1
   ext
   rw[hS,e1]
   rcases hc with ⟨rfl,rfl,rfl⟩ | ⟨HY,d0,rfl,FT⟩
   ·ext
    exact ha r H6 GB er s06
   ·have kd:=s06 _ _ FT
    have Ee:=Z.fld hj HY
    have fin:∀ H7,H7=upd H6 r (.lst [.str (S (kw j)),y])->Q (.ref r) H7:=fun H7 e=>by
     subst e
     exact ha r _ GB LX (Sk GB s06)
    by_cases HZ:j=1
    ·rw[B7 HZ]
     rw[B9 HZ] at kd Ee
     ext
     refine TQ ?_
     ext
     refine⟨e,_,ad 0,d0,false,_,y,rfl,k1,kd,hM,Ee,rfl,?_⟩
     ext
     exact fin _ rfl
    ·rw[B6 HZ]
     rw[B8 HZ] at kd Ee
     ext
     rw[hS,e0,B6 HY]
     ext
     refine TQ ?_
     ext
     refine⟨e,_,ad 0,d0,false,_,y,rfl,k1,kd,hM,Ee,rfl,?_⟩
     ext
     exact fin _ rfl
noncomputable abbrev s_law_is_word:Av:=top 81
noncomputable abbrev s_law_is_number:Av:=top 82
noncomputable abbrev s_law_pattern_due:Av:=top 83
noncomputable abbrev s_law_word_due:Av:=top 84
theorem Up:∀ k:Fin 1000,SH (Mg (toString ((k.1:Nat):Int)))=some ((k.1:Nat):Int):=by decide +kernel
theorem ik:∀ a:Fin 10,a.1≠0->dig a.1=[48+a.1]:=by decide +kernel
theorem dig_two:∀ a b:Fin 10,a.1≠0->dig (10 * a.1+b.1)=[48+a.1,48+b.1]:=by decide +kernel
theorem il:∀ a b c:Fin 10,a.1≠0->dig (100 * a.1+10 * b.1+c.1)=[48+a.1,48+b.1,48+c.1]:=by decide +kernel
noncomputable def isDg (c:Nat):Bool:=decide (48<=c/\c<=57)
theorem im:∀ k:Fin 201,k.1≠0->dig k.1≠[]/\(dig k.1).length<=3/\(dig k.1).getD 0 0≠48/\(dig k.1).all isDg=true:=by decide +kernel
theorem dig_num (h0:l≠[]) (h3:l.length<=3) (h1:l.getD 0 0≠48) (hd:l.all isDg=true):∃ k:Nat,l=dig k/\1<=k/\k<=999/\SH (S l)=some (k:Int):=by
 have hD:∀ c∈l,48<=c/\c<=57:=fun c hc=>of_decide_eq_true (On.mp hd c hc)
 have fin:∀ k:Nat,k<=999->l=dig k->SH (S l)=some (k:Int):=fun k hk e=>by
  rw[e,RO];exact Up ⟨k,by omega⟩
 match l,h0,h3 with
 | [a],_,_ =>
  have ha:=hD a (by simp)
  have h1:a≠48:=h1
  have e:[a]=dig (a - 48):=by
   have:=ik ⟨a - 48,by omega⟩ (by show a - 48≠0;omega)
   rw[this]
   show [a]=[48+(a - 48)]
   rw[show 48+(a - 48)=a by omega]
  exact⟨a - 48,e,by omega,by omega,fin _ (by omega) e⟩
 | [a,b],_,_ =>
  have ha:=hD a (by simp)
  have hb:=hD b (by simp)
  have h1:a≠48:=h1
  have e:[a,b]=dig (10 * (a - 48)+(b - 48)):=by
   have:=dig_two ⟨a - 48,by omega⟩ ⟨b - 48,by omega⟩ (by show a - 48≠0;omega)
   rw[this]
   show [a,b]=[48+(a - 48),48+(b - 48)]
   rw[show 48+(a - 48)=a by omega,show 48+(b - 48)=b by omega]
  exact⟨_,e,by omega,by omega,fin _ (by omega) e⟩
 | [a,b,c],_,_ =>
  have ha:=hD a (by simp)
  have hb:=hD b (by simp)
  have hc:=hD c (by simp)
  have h1:a≠48:=h1
  have e:[a,b,c]=dig (100 * (a - 48)+10 * (b - 48)+(c - 48)):=by
   have:=il ⟨a - 48,by omega⟩ ⟨b - 48,by omega⟩ ⟨c - 48,by omega⟩ (by show a - 48≠0;omega)
   rw[this]
   show [a,b,c]=[48+(a - 48),48+(b - 48),48+(c - 48)]
   rw[show 48+(a - 48)=a by omega,show 48+(b - 48)=b by omega,show 48+(c - 48)=c by omega]
  exact⟨_,e,by omega,by omega,fin _ (by omega) e⟩
theorem io (h1:1<=k) (hk:k<=999) (hb:b<=200):M' (dig k) 1 b=decide (k<=b):=by
 rw[No,decide_eq_true_eq]
 unfold M'
 rw[UD]
 constructor
 ·rintro⟨j,hj,e⟩
  have hj:=PL.mp hj
  have e:dig k=dig (1+j):=of_decide_eq_true e
  have a:=Up ⟨k,by omega⟩
  have c:=Up ⟨1+j,by omega⟩
  rw[<- RO] at a c
  simp only at a c
  rw[e,c] at a
  injection a with a
  omega
 ·intro h
  exact⟨k - 1,PL.mpr (by omega),B7 (by rw[show 1+(k - 1)=k by omega])⟩
theorem ip (hb:b<=200) (h:l=[]∨3 < l.length∨l.getD 0 0=48∨l.all isDg=false):M' l 1 b=false:=by
 rw[aq]
 intro z
 unfold M' at z
 obtain⟨j,hj,e⟩:=UD.mp z
 have hj:=PL.mp hj
 have e:l=dig (1+j):=of_decide_eq_true e
 obtain⟨a1,a2,a3,a4⟩:=im ⟨1+j,by omega⟩ (by show 1+j≠0;omega)
 simp only at a1 a2 a3 a4
 rw[<- e] at a1 a2 a3 a4
 rcases h with h | h | h | h
 ·exact a1 h
 ·omega
 ·exact a3 h
 ·rw[h] at a4;cases a4
def YJ:Sp:=fun vs H Q _=>∃(l:List Nat) (b:Nat),vs=[.str (S l),.int (b:Int)]/\l.length<=1000/\b<=200/\∀ H',Same H H'->Q (.bl (M' l 1 b)) H'
def YK:Sp:=fun vs H Q _=>∃ l:List Nat,vs=[.str (S l)]/\l.length<=1000/\(∀ k:Nat,Nl l ⟨[],[],0⟩ 0=some k->ans tPAT (.int (k:Int)) H Q)/\(Nl l ⟨[],[],0⟩ 0=none->ans tTOL .non H Q)
noncomputable def wdue (t:Bool)(l:List Nat):Option Nat:=if t=true then ldue l true 0 else wbad l
def YL:Sp:=fun vs H Q _=>∃(l:List Nat) (t:Bool),vs=[.str (S l),.bl t]/\l.length<=1000/\(∀ k:Nat,wdue t l=some k->ans tWRD (.int (k:Int)) H Q)/\(wdue t l=none->ans tTOL .non H Q)
theorem t_figd:Mg "0123456789"=S [48,49,50,51,52,53,54,55,56,57]:=by decide +kernel
theorem t_zero:Mg "0"=S [48]:=by decide +kernel
theorem figd_in (c:Nat):Qy (S [48,49,50,51,52,53,54,55,56,57]) (S [c])=isDg c:=by
 rw[dw]
 unfold isDg
 rw[decide_eq_decide]
 exact(ah (s:=48) (n:=10)).trans ⟨fun h=>⟨h.1,aw h.2⟩,fun h=>⟨h.1,ax h.2⟩⟩
theorem iq (T:Txt mg tk)(F:Fun K "_law_is_word" "_law_is_word" s_law_is_word f fd):FnOk P w K mg base CX0 1 f fd ["_law_text"] T5:=by
 refine F.okk ["_law_text"] ?_
 rintro _ _ _ _ H _ _ _ hr ⟨l,rfl,hl,q⟩ nd
 refine⟨_,(LY (L6 (ND (MT (o_ne hr.units) (pv 0) LU (L9 _)) (NC (MT Ra Nx (Px ["_law_sign"] [none] rfl (by kernel_rfl) rfl (NS (K:=K) (pv 0)) (fun _ _ _ _=>(NZ (i:=0) (show (["_law_sign"]:List Str).Nodup by decide +kernel) rfl (Or.inl rfl) (Or.inr rfl))) (fun _ _ _ _=>Q4) (fun _ _ _ _=>(MT o_in (pv 0) LU (by with_unfolding_all rfl)))) (by with_unfolding_all rfl)))))),?_⟩
 walk_at "s0"
 rw[t_let,Ox]
 have Ev:(S l).length<=Ae:=szn (by rw[Me];omega)
 ext
 by_cases c:l=[]
 ·have e:Ni l=false:=by rw[c];rfl
  refine N6 (by rw[c];simp) ?_
  ext
  have:=q H (fun _ _ e=>e)
  rw[e] at this
  exact this
 ·refine O9 (by rw[B6 fun z=>c (S_inj.mp z)];rfl) ?_
  have F_:1<=l.length:=by
   cases l with
   | nil=>exact absurd rfl c
   | cons x r=>simp
  ext
  intro r Cc
  refine Rf (fun i Ca σ H'=>∃ v,σ=[v]/\Ca=((l.take i).map MK).map V.bl/\Same H H'/\H' r=some (.lst Ca))
   ⟨none,rfl,rfl,L_ Cc _,LX⟩ (fun i Ca σ H' ⟨_,_,e,_,e2⟩=>⟨e2,by rw[e];simp;omega⟩) (szn (by rw[N3,Me];omega)) ?_ ?_
  ·rintro i Ca σ H' hi ⟨v,rfl,rfl,s1,e1⟩
   rw[N3,Me] at hi
   rw[Rt hi]
   ext
   rw[WC,Sw]
   refine⟨e1,_,rfl,?_,fun c o e=>?_,LX⟩
   ·rw[Od,Mm hi,Mr,Mr];rfl
   ·have Gd:c≠r:=fun z=>by rw[z,Cc] at e;cases e
    rw[L4 Gd];exact s1 _ _ e
  ·rintro Ca σ H' ⟨v,rfl,rfl,s1,e1⟩
   refine NI (M9 e1) ⟨rfl,WE _⟩ ?_
   rw[WD,N3,Me,NO]
   ext
   have e:(l.map MK).all id=Ni l:=by
    unfold Ni
    rw[B7 (by omega),OM,UF];rfl
   rw[B9 rfl,Bool.not_not,e]
   exact q H' s1
theorem ir (T:Txt mg tk)(F:Fun K "_law_is_number" "_law_is_number" s_law_is_number f fd):FnOk P w K mg base CX0 1 f fd ["_law_word","_law_most"] YJ:=by
 refine F.okk ["_law_word","_law_most"] ?_
 rintro _ _ _ s H _ Q _ hr ⟨l,b,rfl,hl,hb,q⟩ nd
 have no:∀ H',Same H H'->(l=[]∨3 < l.length∨l.getD 0 0=48∨l.all isDg=false)->Q (.bl false) H':=fun H' s hh=>by
  have:=q H' s
  rwa [ip hb hh] at this
 refine⟨_,(LZ (Ma (PW.pt (Pu (Mb (o_eq hr.units) (pv 0) LU (L9 _)) (Pu (Mb o_gt (pcb (MU (K:=K)) T.z_len (pa1 (pv 0))) LV (L9 _)) (Pu (Mb (o_eq hr.units) (pix K (pv 0) LV) LU (L9 _)) (QD (Mb o_in Nx (Px ["_law_sign"] [none] rfl (by kernel_rfl) rfl (NS (K:=K) (pv 0)) (fun _ _ _ _=>(NZ (i:=0) (show (["_law_sign"]:List Str).Nodup by decide +kernel) rfl (Or.inl rfl) (Or.inr rfl))) (fun _ _ _ _=>Q4) (fun _ _ _ _=>(MT o_in (pv 0) LU (by with_unfolding_all rfl)))) (by with_unfolding_all rfl)))))))
   (LY (L6 Nx))
   Mh)
  (LY (L6 (MT o_le (pct Qc T.z_int (pa1 (pv 0))) (pv 1) (L9 _))))),?_⟩
 walk_at "s0"
 rw[Ox,t_zero,t_figd]
 have Ev:(S l).length<=Ae:=szn (by rw[Me];omega)
 ext
 by_cases h0:l=[]
 ·refine Nb (by rw[h0]) ?_
  ext
  exact no H (fun _ _ e=>e) (.inl h0)
 ·refine Nc (fun z=>h0 (S_inj.mp z)) ?_
  ext
  by_cases h3:l.length<=3
  ·refine Nc (by omega) ?_
   have Jd:0 < l.length:=by
    cases l with
    | nil=>exact absurd rfl h0
    | cons _ _=>simp
   have Dv:atI l 0=some (l.getD 0 0):=QL (by decide) (by rw[Mq,show ((0:Int)).toNat=0 from rfl,Mm Jd];rfl)
   ext
   refine Rv (by omega) Dv ?_
   ext
   by_cases H_:l.getD 0 0=48
   ·refine Nb (by rw[H_]) ?_
    ext
    exact no H (fun _ _ e=>e) (.inr (.inr (.inl H_)))
   ·refine Nc (fun z=>H_ (by have:=S_inj.mp z;injection this)) ?_
    ext
    intro r Cc
    refine Rf (fun i Ca σ H'=>∃ v,σ=[v]/\Ca=((l.take i).map isDg).map V.bl/\Same H H'/\H' r=some (.lst Ca))
     ⟨none,rfl,rfl,L_ Cc _,LX⟩ (fun i Ca σ H' ⟨_,_,e,_,e2⟩=>⟨e2,by rw[e];simp;omega⟩) (szn (by rw[N3,Me];omega)) ?_ ?_
    ·rintro i Ca σ H' hi ⟨v,rfl,rfl,s1,e1⟩
     rw[N3,Me] at hi
     rw[Rt hi]
     ext
     rw[figd_in,Sw]
     refine⟨e1,_,rfl,?_,Sk Cc s1,LX⟩
     rw[Od,Mm hi,Mr,Mr];rfl
    ·rintro Ca σ H' ⟨v,rfl,rfl,s1,e1⟩
     refine NI (M9 e1) ⟨rfl,WE _⟩ ?_
     rw[WD,N3,Me,NO]
     have e:(l.map isDg).all id=l.all isDg:=by rw[UF];rfl
     rw[B8 (by decide),e]
     cases hd:l.all isDg with
     | false =>
      ext
      exact no H' s1 (.inr (.inr (.inr hd)))
     | true =>
      obtain⟨k,hk,HM,Lq,Lr⟩:=dig_num h0 h3 H_ hd
      ext
      refine⟨(k:Int),Lr,by rw[Me];omega,?_⟩
      ext
      have:=q H' s1
      rw[hk,io HM Lq hb] at this
      have e2:decide ((k:Int)<=(b:Int))=decide (k<=b):=by rw[No];simp
      rw[e2]
      exact this
  ·refine Nb (by omega) ?_
   ext
   exact no H (fun _ _ e=>e) (.inr (.inl (by omega)))
theorem jB (T:Txt mg tk)(Z:Cs K mg ad)(F:Fun K "_law_pattern_due" "_law_pattern_due" s_law_pattern_due f fd)(Cq:DnX P w K mg base "read_pattern" 3 ["text"] (Ue (ad 2))):FnOk P w K mg base CX0 4 f fd ["_law_text"] YK:=by
 refine F.okk ["_law_text","_law_place","e"] ?_
 rintro _ _ _ _ H _ _ _ hr ⟨l,rfl,hl,qx,qt⟩ nd
 obtain⟨EXC,hX⟩:∃ EXC:XK,EXC=fun v od H'=>∃(e d:Ac) (k:Nat),v=.ref e/\od=some d/\Nl l ⟨[],[],0⟩ 0=some k/\H' e=some (XO e (ad 2) (some d) false)/\H' d=some (.xd [("place",.int (k:Int))])/\Same H H':=⟨_,rfl⟩
 have Gp:∀ x od H',EXC (.ref x) od H'->H' x=some (XO x (ad 2) od false):=fun x od H' h=>by
  rw[hX] at h
  obtain⟨e,d,k,e1,rfl,_,h1,_⟩:=h
  cases e1
  exact h1
 refine⟨_,(LZ (pst 1 nd Ny)
  (LZ (fJ (i:=2) (EX:=EXC) rfl rfl nd rfl rfl rfl Z.m_NoPattern Z.x_NoPattern Gp (fun pn xe Jb=>(LY (Na (QO Cq hr.L5 rfl Jb (pa1 (pv 0))))))
   (fun xx=>(LY (pst 1 nd (TL (K:=K) (pv 2) rfl)))))
  (LY (L6 (UM (Mb o_is (pv 1) Ny (L9 _)) (Mp (LS LU (pa1 Ny))) (Mp (LS LU (pa1 (pv 1))))))))),?_⟩
 walk_at "s0"
 rw[Ob,Qk]
 ext
 refine i_try ?_ ?_
 ·ext
  refine⟨l,rfl,hl,fun u hu h1 h2 v H2 hv s2=>?_,fun k hk x d H2 h1 h2 s2=>by rw[hX];exact⟨x,d,k,rfl,rfl,hk,h1,h2,s2⟩⟩
  have hn:Nl l ⟨[],[],0⟩ 0=none:=by rw[Tu hu,B8 fun z=>z.elim h1 h2]
  ext
  intro r Cc
  ext
  exact((qt hn).mono s2) r _ Cc LX (L_ Cc _)
 ·intro σ' v' e od H' hσ hE ev
  subst ev
  rw[hX] at hE
  obtain⟨e',d,k,e1,rfl,hk,h1,h2,s2⟩:=hE
  cases e1
  match σ',hσ with
  | [a0,a1,a2],_ =>
   ext
   refine TQ ?_
   ext
   refine⟨e,ad 2,ad 0,d,false,_,.int (k:Int),rfl,h1,h2,Z.x_NoPattern,Z.n_NoPattern,rfl,?_⟩
   ext
   intro r Cc
   ext
   exact((qx k hk).mono s2) r _ Cc LX (L_ Cc _)
noncomputable abbrev s_law_things_due:Av:=top 85
noncomputable abbrev s_law_due:Av:=top 86
theorem YM (h1:∀ R:VK,R (.bl a) H->ta σ H R) (h2:a=true->∀ R:VK,R (.bl b) H->tb σ H R) (q:Q (.bl (a&&b)) H):SJ ta tb σ H Q:=by
 refine h1 _ ⟨a,rfl,?_⟩
 cases a with
 | true=>rw[B9 rfl];exact h2 rfl _ q
 | false=>rw[B8 Mi];exact q
theorem ifV_eq {tb:TE}{σ:St}{H:Hp}{Q:VK}{a b:Bool}(h2:a=true->∀ R:VK,R (.bl b) H->tb σ H R)(q:Q (.bl (a&&b)) H):if a=true then tb σ H Q else Q (.bl false) H:=by
 cases a with
 | true=>rw[B9 rfl];exact h2 rfl _ q
 | false=>rw[B8 Mi];exact q
noncomputable def lk (l:List Nat)(i:Nat):Bool:=decide (i=0) || decide (l.getD (i - 1) 0=45)
theorem lk_succ (h:i < l.length):lk l (i+1)=decide (l[i]=45):=by
 unfold lk
 rw[B6 (Nat.succ_ne_zero i),QX,av,Mq,Mm h];rfl
theorem iu (c:Nat):Ni [c]=MK c:=by
 unfold Ni;simp
theorem iw (T:Txt mg tk)(F:Fun K "_law_word_due" "_law_word_due" s_law_word_due f fd)(Ch:Dn P w K mg base "_law_is_word" 1 ["_law_text"] T5):FnOk P w K mg base CX0 2 f fd ["_law_text","_law_told"] YL:=by
 refine F.okk ["_law_text","_law_told","_law_place","_law_sign","_law_broken"] ?_
 rintro _ _ _ _ H _ _ _ hr ⟨l,t,rfl,hl,qx,qt⟩ nd
 have Ev:(S l).length<=Ae:=szn (by rw[Me];omega)
 refine⟨_,(LZ (NE OQ rfl (Rh rfl T.z_enumerate (pv 0)) (Pw rfl (M8 (pnm 2 nd) (M8 (pnm 3 nd) OT)))
   (LZ (pst 4 nd (ND (pv 1) (ND (MT (o_eq hr.units) (pv 3) LU (L9 _)) (ND (MT o_gt (pv 2) LV (L9 _)) (NC (MT (o_ne hr.units) (pix K (pv 0) (L7 Q_ (pv 2) LV)) LU (L9 _)))))))
  (LY (Ma (PW.pt (Pt (Oq (MY (pv 4) (fun _=>rfl))) (PQ (Oq (MY (Mc Ch hr.L5 rfl (pa1 (pv 3))) (fun _=>rfl))))))
   (LY (L6 (Mp (LS LU (pa1 (pv 2))))))
   Mh))))
  (LZ (Ma (PW.pt (Pu (Mb (o_eq hr.units) (pv 0) LU (L9 _)) (QD (Mb (o_eq hr.units) (pix K (pv 0) (QE QI LV)) LU (L9 _)))))
   (LY (L6 (Mp (LS LU (pa1 (pcb (MU (K:=K)) T.z_len (pa1 (pv 0))))))))
   Mh)
  (LY (L6 (Mp (LS LU (pa1 Ny))))))),?_⟩
 walk_at "s0"
 rw[P7,t_wrd,Ob,Ox]
 ext
 refine Sb (fun i σ H2=>∃(v1 v2 v3:Option V),σ=[some (.str (S l)),some (.bl t),v1,v2,v3]/\(t=true->ldue l true 0=ldue (l.drop i) (lk l i) i)/\(t=false->NM l 0=NM (l.drop i) i)/\Same H H2)
  ⟨none,none,none,rfl,fun _=>rfl,fun _=>rfl,fun _ _ e=>e⟩ (fun _ _ _ _ _=>trivial) ?_ ?_
 ·rintro i v σ H2 T2 hv ⟨v1,v2,v3,rfl,DR,CI,s2⟩ hT
  rw[O_] at hv
  have hi:i < l.length:=by
   have:=(MS.mp hv).1
   simpa using this
  rw[MC,Mm hi] at hv
  cases hv
  rw[QV hi] at DR CI
  have DB:=lk_succ hi
  generalize hc:l[i]=c at DR CI DB
  have Ew:V.int (((0:Nat):Int)+(i:Int))=V.int (i:Int):=by congr 1;omega
  refine QJ LX rfl (M_ (MZ (M_ (MZ (O4 ?_)))))
  have s3:=s2.trans (L_ hT (PrX T2 [.int (((0:Nat):Int)+(i:Int)),.str (S [c])]))
  generalize upd H2 T2 (PrX T2 [.int (((0:Nat):Int)+(i:Int)),.str (S [c])])=H3 at s3 ⊢
  rw[Ew]
  ext
  refine ifV_eq (a:=t) (b:=decide (c=45)&&(decide (0 < i)&&!decide (l.getD (i - 1) 0=45))) ?_ ?_
  ·intro _ R q
   refine YM (a:=decide (c=45)) (b:=decide (0 < i)&&!decide (l.getD (i - 1) 0=45)) ?_ ?_ q
   ·intro R q
    ext
    have e:decide (V.str (S [c])=V.str (S [45]))=decide (c=45):=by
     rw[No,decide_eq_true_eq,decide_eq_true_eq]
     exact⟨fun z=>by have:=S_inj.mp z;injection this,fun z=>by rw[z]⟩
    rw[e]
    exact q
   ·intro _ R q
    refine YM (a:=decide (0 < i)) (b:=!decide (l.getD (i - 1) 0=45)) ?_ ?_ q
    ·intro R q
     ext
     have e:decide ((0:Int) < (i:Int))=decide (0 < i):=by rw[No];simp
     rw[e]
     exact q
    ·intro Ht R q
     have Ht:0 < i:=of_decide_eq_true Ht
     ext
     refine Rv (by omega) (c:=l.getD (i - 1) 0) (QL (by omega) (by rw[show ((i:Int) - 1).toNat=i - 1 by omega,Mq,Mm (show i - 1 < l.length by omega)];rfl)) ?_
     ext
     have e:decide (V.str (S [l.getD (i - 1) 0])=V.str (S [45]))=decide (l.getD (i - 1) 0=45):=by
      rw[No,decide_eq_true_eq,decide_eq_true_eq]
      exact⟨fun z=>by have:=S_inj.mp z;injection this,fun z=>by rw[z]⟩
     rw[e]
     exact q
  ·have HP:(decide (0 < i)&&!decide (l.getD (i - 1) 0=45))=!lk l i:=by
    unfold lk
    by_cases h0:i=0
    ·rw[h0];rfl
    ·rw[B7 (show 0 < i by omega),B6 h0,OM,QX]
   rw[HP]
   have qn:MK c=false->¬ (t=true/\c=45/\lk l i=false)->wdue t l=some i:=fun DI DH=>by
    unfold wdue
    cases t with
    | false =>
     rw[B8 Mi]
     unfold wbad
     rw[B8 (by intro z;rw[z] at hi;cases hi),CI rfl]
     simp only[NM]
     rw[B8 (by rw[DI];exact Mi)]
    | true =>
     rw[B9 rfl,DR rfl]
     simp only[ldue]
     by_cases Fh:c=45/\lk l i=true
     ·rw[B9 Fh]
     ·rw[B8 Fh,B8 ?_]
      rintro(z | z)
      ·exact DH ⟨rfl,z,by cases hh:lk l i with | false=>rfl | true=>exact absurd ⟨z,hh⟩ Fh⟩
      ·rw[DI] at z;cases z
   have qy:MK c=true∨(t=true/\c=45/\lk l i=false)->(t=true->ldue l true 0=ldue (l.drop (i+1)) (lk l (i+1)) (i+1))/\(t=false->NM l 0=NM (l.drop (i+1)) (i+1)):=fun hy=>by
    refine⟨fun ht=>?_,fun ht=>?_⟩
    ·rw[DR ht,DB]
     simp only[ldue]
     have Fh:¬ (c=45/\lk l i=true):=fun z=>by
      rcases hy with h | ⟨_,_,h⟩
      ·rw[z.1] at h;exact absurd h (by decide)
      ·rw[z.2] at h;cases h
     rw[B8 Fh,B9 (hy.elim .inr fun z=>.inl z.2.1)]
    ·rw[CI ht]
     simp only[NM]
     rw[B9 (hy.elim id fun z=>by rw[ht] at z;cases z.1)]
   cases hβ:(t&&(decide (c=45)&&!lk l i)) with
   | true =>
    simp only[MQ,decide_eq_true_eq,Bool.not_eq_true'] at hβ
    obtain⟨y1,y2⟩:=qy (.inr ⟨hβ.1,hβ.2.1,hβ.2.2⟩)
    ext
    exact⟨_,_,_,rfl,y1,y2,s3⟩
   | false =>
    have DH:¬ (t=true/\c=45/\lk l i=false):=fun z=>by
     rw[z.1,B7 z.2.1,z.2.2] at hβ;cases hβ
    ext
    refine⟨[c],rfl,by simp,fun H4 s4=>?_⟩
    rw[iu]
    cases Eh:MK c with
    | true =>
     obtain⟨y1,y2⟩:=qy (.inl Eh)
     ext
     exact⟨_,_,_,rfl,y1,y2,s3.trans s4⟩
    | false =>
     ext
     intro r Cc
     ext
     exact((qx i (qn Eh DH)).mono (s3.trans s4)) r _ Cc LX (L_ Cc _)
 ·rintro σ H2 ⟨v1,v2,v3,rfl,DR,CI,s2⟩
  rw[N3,Me,Su] at DR CI
  have Dw:wdue t l=if lk l l.length=true then some l.length else none:=by
   unfold wdue
   cases t with
   | true=>rw[B9 rfl,DR rfl];rfl
   | false =>
    rw[B8 Mi]
    unfold wbad
    have DH:NM l 0=none:=CI rfl
    by_cases h0:l=[]
    ·rw[B9 h0,h0];rfl
    ·rw[B8 h0,DH,B8]
     intro z
     have Jd:0 < l.length:=by
      cases l with
      | nil=>exact absurd rfl h0
      | cons _ _=>simp
     unfold lk at z
     rw[B6 (by omega),QX,decide_eq_true_eq] at z
     have hm:=Yp DH (l.getD (l.length - 1) 0) (by
      rw[Mq,Mm (show l.length - 1 < l.length by omega)]
      exact Qt _)
     rw[z] at hm
     exact absurd hm (by decide)
  ext
  by_cases h0:l=[]
  ·refine Nb (by rw[h0]) ?_
   have hk:wdue t l=some l.length:=by rw[Dw,B9 (by rw[h0];rfl)]
   ext
   intro r Cc
   ext
   exact((qx _ hk).mono s2) r _ Cc LX (L_ Cc _)
  ·refine Nc (fun z=>h0 (S_inj.mp z)) ?_
   have Jd:0 < l.length:=by
    cases l with
    | nil=>exact absurd rfl h0
    | cons _ _=>simp
   have Dv:atI l (-1)=some (l.getD (l.length - 1) 0):=ZX (by rw[Z7,Mq,Mm (show l.length - 1 < l.length by omega)];rfl)
   have DB:lk l l.length=decide (l.getD (l.length - 1) 0=45):=by
    unfold lk
    rw[B6 (by omega),QX]
   ext
   refine Rv (by omega) Dv ?_
   ext
   by_cases Fh:l.getD (l.length - 1) 0=45
   ·refine Nb (by rw[Fh]) ?_
    have hk:wdue t l=some l.length:=by rw[Dw,DB,B9 (B7 Fh)]
    ext
    intro r Cc
    ext
    exact((qx _ hk).mono s2) r _ Cc LX (L_ Cc _)
   ·refine Nc (fun z=>Fh (by have:=S_inj.mp z;injection this)) ?_
    have hk:wdue t l=none:=by rw[Dw,DB,B8 (by rw[B6 Fh];exact Mi)]
    ext
    intro r Cc
    ext
    exact((qt hk).mono s2) r _ Cc LX (L_ Cc _)
theorem YN (w:List Nat)(c:Nat):QR (w++[c])=[c]:=by
 unfold QR
 rw[Mn,M6,av,List.drop_left]
theorem iy (h:Sj c=true):NV (y++[c])=y:=by
 unfold NV NU
 rw[YN,B9 (by simp[h]),Mn,M6,av,List.take_left]
theorem iz (h:Sj c=false):NV (y++[c])=y++[c]:=by
 unfold NV NU
 rw[YN,B8 (by simp[h])]
 exact NO
theorem t_mks:Mg ",.;:!?"=S [44,46,59,58,33,63]:=by decide +kernel
theorem mks_in (c:Nat):Qy (S [44,46,59,58,33,63]) (S [c])=Sj c:=by
 rw[dw]
 unfold Sj
 rw[No,decide_eq_true_eq,List.contains_iff_mem]
theorem Qn :cutA l none (some 1)=l.take 1:=by
 cases l with
 | nil=>rfl
 | cons x r=>exact RI (x::r) 1 (by simp)
theorem Qo (l:List Nat):decide (V.str (S (l.take 1))=V.str (S [64]))=isAt l:=by
 rw[No,decide_eq_true_eq,S_inj]
 unfold isAt
 cases l with
 | nil=>simp
 | cons x r=>simp
theorem iA (y:List Nat)(c:Nat):cutA (y++[c]) none (some (-1))=y:=by
 unfold cutA
 have h1:sx (y++[c]).length 0 none=0:=rfl
 have h2:sx (y++[c]).length (y++[c]).length (some (-1))=y.length:=by
  simp only[sx]
  rw[B9 (by decide),Mn,M6]
  omega
 rw[h1,h2,U9,Zv,List.take_left]
theorem YO (z:List Nat)(ws:List (List Nat)):inV (.str (S z)) (LW ws)=decide (z∈ws):=by
 unfold inV LW
 rw[Zp,No,decide_eq_true_eq,UD]
 constructor
 ·rintro⟨x,hx,e⟩
  have e:eqV (V.str (S x)) (V.str (S z))=true:=e
  unfold eqV at e
  simp only[beq_iff_eq] at e
  rw[<- S_inj.mp (show V.str (S x)=V.str (S z) by rw[e])]
  exact hx
 ·intro h
  exact⟨z,h,by show eqV (V.str (S z)) (V.str (S z))=true;unfold eqV;simp⟩
theorem YQ (ws:List (List Nat)):(LW ws).all OE=true:=by
 unfold LW
 rw[UF,On]
 intro x _
 rfl
theorem RT (ms:List (List Nat×Bp))(z:List Nat):(Mz ms z).isSome=decide (z∈ms.map (·.1)):=by
 unfold Mz
 rw[ZC,No,decide_eq_true_eq,List.find?_isSome,Nw]
 constructor
 ·rintro⟨m,hm,e⟩
  exact⟨m,hm,of_decide_eq_true e⟩
 ·rintro⟨m,hm,e⟩
  exact⟨m,hm,B7 e⟩
def YR:Sp:=fun vs H Q _=>∃(a na:Ac) (ms:List (List Nat×Bp)) (ls:List (List Nat)),vs=[.ref a,.ref na]/\H a=some (.lst (LW ls))/\H na=some (.lst (LW (ms.map (·.1))))/\[]∉ms.map (·.1)/\ls.length<=100/\ms.length<=100/\(∀ l∈ls,l.length<=40) /\
 (∀ k:Nat,due ms ls=.thing k->ans tTHI (.int (k:Int)) H Q)/\(∀ nm,due ms ls=.tongue nm->ans tTON (.str (S nm)) H Q)/\(due ms ls=.told->ans tTOL .non H Q)
theorem iB (T:Txt mg tk)(F:Fun K "_law_things_due" "_law_things_due" s_law_things_due f fd)(Ch:Dn P w K mg base "_law_is_word" 1 ["_law_text"] T5):FnOk P w K mg base CX0 2 f fd ["_law_things","_law_names"] YR:=by
 refine F.okk ["_law_things","_law_names","_law_place","_law_thing","_law_word","_law_name"] ?_
 rintro _ _ _ s H _ Q _ hr ⟨a,na,ms,ls,rfl,ha,Dz,DH,Ev,D_,Gf,qk,qn,qt⟩ nd
 refine⟨_,(LZ (NE OQ rfl (Tw rfl T.z_enumerate (pv 0)) (Pw rfl (M8 (pnm 2 nd) (M8 (pnm 3 nd) OT)))
   (LZ (pst 4 nd (pv 3))
  (LZ (Ma (Mb (o_eq hr.units) (MM (MN (K:=K)) (pv 3) MX (MF LV)) LU (L9 _))
   (LY (pst 4 nd (MM (MN (K:=K)) (pv 3) (MF LV) MX)))
   (LY (Ma (PW.pt (Pt (Mb (o_ne hr.units) (pv 3) LU (L9 _)) (PQ (Mb o_in (pix K (pv 3) (QE QI LV)) LU (by with_unfolding_all rfl)))))
   (LY (pst 4 nd (MM (MN (K:=K)) (pv 3) MX (MF (QE QI LV)))))
   Mh)))
  (LY (Ma (PW.pt (Pu (Oq (MY (Mc Ch hr.L5 rfl (pa1 (pv 4))) (fun _=>rfl))) (QD (PW.pt (Pt (Mb (o_eq hr.units) (MM (MN (K:=K)) (pv 3) MX (MF LV)) LU (L9 _)) (PQ (Mb o_gt (pcb (MU (K:=K)) T.z_len (pa1 (pv 4))) LV (L9 _))))))))
   (LY (L6 (Mp (LS LU (pa1 (pv 2))))))
   Mh)))))
  (LZ (pst 5 nd LU)
  (LZ (NE OQ rfl (NS (K:=K) (pv 0)) (pnm 3 nd)
   (LZ (Ma (Mb (o_eq hr.units) (MM (MN (K:=K)) (pv 3) MX (MF LV)) LU (L9 _))
   (LY (pst 5 nd (MM (MN (K:=K)) (pv 3) (MF LV) MX)))
   Mh)
  (LY (Ma (Mb Ra (pv 5) (pv 1) (by with_unfolding_all rfl))
   (LY (L6 (Mp (LS LU (pa1 (pv 5))))))
   Mh))))
  (LY (L6 (Mp (LS LU (pa1 Ny)))))))),?_⟩
 walk_at "s0"
 rw[t_at,Ox,t_mks,t_thi,Oz,Ob]
 ext
 refine TY ?_
 ext
 refine Ri ha ?_
 refine Sb (fun i σ H'=>∃(v1 v2 v3:Option V),σ=[some (.ref a),some (.ref na),v1,v2,v3,none]/\Nu ls 0=Nu (ls.drop i) i/\Same H H')
  ⟨none,none,none,rfl,rfl,fun _ _ e=>e⟩ (fun _ _ H' _ ⟨_,_,_,_,_,s⟩=>s _ _ ha) ?_ ?_
 ·rintro i v σ H2 T2 hv ⟨v1,v2,v3,rfl,Ef,s2⟩ hT
  rw[LW,MC] at hv
  obtain⟨l,hl,rfl⟩:∃ l,ls[i]?=some l/\v=V.str (S l):=by
   cases e:ls[i]? with
   | none=>rw[e] at hv;cases hv
   | some l=>rw[e] at hv;cases hv;exact⟨l,rfl,rfl⟩
  have hi:=(MS.mp hl).1
  rw[RL hl] at Ef
  have Cd:=Gf l (OB hl)
  have hsz:(S l).length<=Ae:=szn (by rw[Me];omega)
  have Ew:V.int (((0:Nat):Int)+(i:Int))=V.int (i:Int):=by congr 1;omega
  refine QJ LX rfl (M_ (MZ (M_ (MZ (O4 ?_)))))
  have s3:=s2.trans (L_ hT (PrX T2 [.int (((0:Nat):Int)+(i:Int)),.str (S l)]))
  generalize upd H2 T2 (PrX T2 [.int (((0:Nat):Int)+(i:Int)),.str (S l)])=H3 at s3 ⊢
  rw[Ew]
  have good:Po l=true->Nu ls 0=Nu (ls.drop (i+1)) (i+1):=fun e=>Ef.trans (by simp only[Nu];rw[B9 e])
  have bad:Po l=false->∀ H',Same H3 H'->∀ r,H' r=none->Q (.ref r) (upd H' r (.lst [.str (S tTHI),.int (i:Int)])):=fun e H' s r Cc=>by
   refine((qk i ?_).mono (s3.trans s)) r _ Cc LX (L_ Cc _)
   rw[X_ (Ef.trans (by simp only[Nu];rw[B8 (by rw[e];exact Mi)]))]
  ext
  rw[Qn,Qo]
  cases Dv:isAt l with
  | true =>
   have DD:Po l=(Ni l.tail&&decide (l.tail.length<=8)):=by unfold Po isNm;rw[B9 Dv]
   have Eu:l.tail.length<=40:=by rw[aj];omega
   have Ls:(S l.tail).length<=Ae:=szn (by rw[Me];omega)
   ext
   rw[T_ Dv]
   refine⟨l.tail,rfl,by omega,fun H4 s4=>?_⟩
   cases hw:Ni l.tail with
   | false =>
    ext
    intro r Cc
    ext
    exact bad (by rw[DD,hw];rfl) H4 s4 r Cc
   | true =>
    rw[hw,OM] at DD
    ext
    rw[Qn,Qo,Dv]
    ext
    by_cases h8:l.tail.length<=8
    ·refine Nc (by omega) ?_
     ext
     exact⟨_,_,_,rfl,good (by rw[DD,B7 h8]),s3.trans s4⟩
    ·refine Nb (by omega) ?_
     ext
     intro r Cc
     ext
     exact bad (by rw[DD,B6 h8]) H4 s4 r Cc
  | false =>
   have DD:Po l=Ni (NV l):=by unfold Po;rw[Dv,B8 Mi]
   ext
   rcases List.eq_nil_or_concat l with rfl | ⟨y,c,rfl⟩
   ·refine N6 (by simp) ?_
    ext
    refine⟨[],rfl,by decide,fun H4 s4=>?_⟩
    ext
    intro r Cc
    ext
    exact bad rfl H4 s4 r Cc
   ·rw[List.concat_eq_append] at Cd hsz Dv DD good bad ⊢
    have FM:y.length+1<=40:=by rw[Mn,M6] at Cd;exact Cd
    refine O9 (by rw[B6 fun z=>by have:=S_inj.mp z;simp at this];rfl) ?_
    ext
    refine Rv (by omega) (c:=c) (ZX (by simp)) ?_
    ext
    rw[mks_in,Sw]
    cases hm:Sj c with
    | true =>
     rw[iy hm] at DD
     ext
     rw[iA]
     refine⟨y,rfl,by omega,fun H4 s4=>?_⟩
     cases hw:Ni y with
     | false =>
      ext
      intro r Cc
      ext
      exact bad (by rw[DD,hw]) H4 s4 r Cc
     | true =>
      ext
      rw[Qn,Qo,Dv]
      ext
      exact⟨_,_,_,rfl,good (by rw[DD,hw]),s3.trans s4⟩
    | false =>
     rw[iz hm] at DD
     ext
     refine⟨y++[c],rfl,by omega,fun H4 s4=>?_⟩
     cases hw:Ni (y++[c]) with
     | false =>
      ext
      intro r Cc
      ext
      exact bad (by rw[DD,hw]) H4 s4 r Cc
     | true =>
      ext
      rw[Qn,Qo,Dv]
      ext
      exact⟨_,_,_,rfl,good (by rw[DD,hw]),s3.trans s4⟩
 ·rintro σ H2 ⟨v1,v2,v3,rfl,Ef,s2⟩
  rw[Nn,Su] at Ef
  have En:=Ya (ms:=ms) Ef
  ext
  refine O7 (SqL.of (s2 _ _ ha)) ?_
  refine Q1 (K:=K) (xs:=LW ls) (fun i σ H'=>∃(v1 v2 v3:Option V) (nm:List Nat) (h:Bool),σ=[some (.ref a),some (.ref na),v1,v2,v3,some (.str (S nm))]/\due2 ms false ls=due2 ms h (ls.drop i)/\(h=true->nm∈ms.map (·.1))/\(h=false->nm=[])/\Same H H')
   ⟨v1,v2,v3,[],false,rfl,rfl,(fun z=>nomatch z),fun _=>rfl,s2⟩ (fun i σ H' _ ⟨_,_,_,_,_,_,_,_,_,s⟩=>SqL.of (s _ _ ha)) ?_ ?_
  ·rintro i x σ H3 hx ⟨v1,v2,v3,nm,h,rfl,CI,Je,Kg,s3⟩
   rw[LW,MC] at hx
   obtain⟨l,hl,rfl⟩:∃ l,ls[i]?=some l/\x=V.str (S l):=by
    cases e:ls[i]? with
    | none=>rw[e] at hx;cases hx
    | some l=>rw[e] at hx;cases hx;exact⟨l,rfl,rfl⟩
   have Cd:=Gf l (OB hl)
   rw[RL hl] at CI
   simp only[due2] at CI
   have Hu:=s3 _ _ Dz
   have no:∀ z,due2 ms false ls=.tongue z->∀ r,H3 r=none->Q (.ref r) (upd H3 r (.lst [.str (S tTON),.str (S z)])):=fun z e r Cc =>
    ((qn z (En.trans e)).mono s3) r _ Cc LX (L_ Cc _)
   ext
   rw[Qn,Qo]
   cases Dv:isAt l with
   | true =>
    rw[B9 Dv,RT] at CI
    ext
    rw[T_ Dv]
    refine NI (M9 Hu) ⟨rfl,YQ _⟩ ?_
    rw[YO,B9 rfl]
    by_cases Do:l.tail∈ms.map (·.1)
    ·rw[B7 Do] at CI ⊢
     rw[B9 rfl] at CI
     ext
     exact⟨_,_,_,l.tail,true,rfl,CI,fun _=>Do,(fun z=>nomatch z),s3⟩
    ·rw[B6 Do] at CI ⊢
     rw[B8 Mi] at CI
     ext
     intro r Cc
     ext
     exact no _ CI r Cc
   | false =>
    rw[Dv,B8 Mi] at CI
    ext
    refine NI (M9 Hu) ⟨rfl,YQ _⟩ ?_
    rw[YO,B9 rfl]
    cases h with
    | true =>
     rw[B9 rfl] at CI
     rw[B7 (Je rfl)]
     ext
     exact⟨_,_,_,nm,true,rfl,CI,Je,(fun z=>nomatch z),s3⟩
    | false =>
     rw[B8 Mi] at CI
     have e:=Kg rfl
     subst e
     rw[B6 DH]
     ext
     intro r Cc
     ext
     exact no _ CI r Cc
  ·rintro σ H3 ⟨v1,v2,v3,nm,h,rfl,CI,Je,Kg,s3⟩
   rw[Nn,Su] at CI
   ext
   intro r Cc
   ext
   exact((qt (En.trans CI)).mono s3) r _ Cc LX (L_ Cc _)
inductive Du where
 | told
 | tongue (nm:List Nat)
 | pattern (k:Nat)
 | word (k:Nat)
 | thing (k:Nat)
noncomputable def duK:Du->List Nat
 | .told=>tTOL
 | .tongue _=>tTON
 | .pattern _=>tPAT
 | .word _=>tWRD
 | .thing _=>tTHI
noncomputable def duV:Du->V
 | .told=>.non
 | .tongue nm=>.str (S nm)
 | .pattern k=>.int (k:Int)
 | .word k=>.int (k:Int)
 | .thing k=>.int (k:Int)
noncomputable def Nd (ms:List (List Nat×Bp))(ws:List (List Nat)):Du :=
 if ws.getD 0 []=tPRS then (match due ms (ws.drop 2) with | .thing k=>.thing k | .tongue nm=>.tongue nm | .told=>.told)
 else if ws.getD 0 []=tTON then .told
 else if (Mz ms (ws.getD 1 [])).isSome=false then .tongue (ws.getD 1 [])
 else if ws.getD 0 []=tPAT then (match Nl (ws.getD 2 []) ⟨[],[],0⟩ 0 with | some k=>.pattern k | none=>.told)
 else if ws.getD 0 []=tTOL then (match Nz (ws.getD 2 []) ⟨[],[],true⟩ 0 with | some k=>.word k | none=>.told)
 else if ws.getD 0 []=tBRK then (match wbad (ws.getD 2 []) with | some k=>.word k | none=>.told)
 else .told
theorem RU {A:List Nat->V->Prop}{kp tl:List Nat->Prop}{ms:List (List Nat×Bp)}{ws:List (List Nat)}(hr:Nd ms ws≠.told->A (duK (Nd ms ws)) (duV (Nd ms ws)))
  (hp:Nd ms ws=.told->ws.getD 0 []≠tPAR) (hn:Nd ms ws=.told->ws.getD 0 []=tPRS->∀ k:Nat,A tNAR (.int (k:Int))) (hk:Nd ms ws=.told->(ws.getD 0 []=tTON∨ws.getD 0 []=tPAT∨ws.getD 0 []=tTOL)->kp (ws.getD 1 [])) (ht:Nd ms ws=.told->∀ t,(ws.getD 0 []=tPRS∨∃ b,Mz ms (ws.getD 1 [])=some b/\(ws.getD 0 []=tBRK/\t=brkF b (ws.getD 2 [])∨ws.getD 0 []=tPTS/\t=ptsF b))->tl t) :
  outR (A tTHI) (A tNAR) (A tTON) (A tPAT) (A tWRD) kp tl ms ws:=by
 unfold Nd at hr hp hn hk ht
 refine⟨fun e=>?_,fun e=>?_,fun e1 e2 e3=>?_,fun b hb=>?_⟩
 ·rw[B9 e] at hr hn ht
  refine⟨fun k hd=>?_,fun nm hd=>?_,fun hd=>⟨fun k=>?_,fun t=>?_⟩⟩
  ·rw[hd] at hr;exact hr (by simp)
  ·rw[hd] at hr;exact hr (by simp)
  ·rw[hd] at hn;exact hn rfl e k
  ·rw[hd] at ht;exact ht rfl t (.inl e)
 ·have e1:ws.getD 0 []≠tPRS:=by rw[e];decide
  rw[B8 e1,B9 e] at hk
  exact hk rfl (.inl e)
 ·rw[B8 e1,B8 e2,e3,B9 (by rfl)] at hr
  exact hr (by simp)
 ·by_cases e1:ws.getD 0 []=tPRS
  ·rw[e1]
   exact⟨by decide,fun z=>absurd z (by decide),fun z=>absurd z (by decide),fun z=>absurd z (by decide),fun z=>absurd z (by decide)⟩
  by_cases e2:ws.getD 0 []=tTON
  ·rw[e2]
   exact⟨by decide,fun z=>absurd z (by decide),fun z=>absurd z (by decide),fun z=>absurd z (by decide),fun z=>absurd z (by decide)⟩
  rw[B8 e1,B8 e2,hb,B8 (by simp)] at hr hp hk ht
  refine⟨fun z=>hp (by rw[z];rfl) z,fun z=>⟨fun k hx=>?_,fun hx=>?_⟩,fun z=>⟨fun k hx=>?_,fun hx=>?_⟩,fun z=>⟨fun k hx=>?_,fun hx=>?_⟩,fun z=>?_⟩
  ·rw[B9 z,hx] at hr;exact hr (by simp)
  ·rw[B9 z,hx] at hk;exact hk rfl (.inr (.inl z))
  ·have n1:ws.getD 0 []≠tPAT:=by rw[z];decide
   rw[B8 n1,B9 z,hx] at hr;exact hr (by simp)
  ·have n1:ws.getD 0 []≠tPAT:=by rw[z];decide
   rw[B8 n1,B9 z,hx] at hk;exact hk rfl (.inr (.inr z))
  ·have n1:ws.getD 0 []≠tPAT:=by rw[z];decide
   have n2:ws.getD 0 []≠tTOL:=by rw[z];decide
   rw[B8 n1,B8 n2,B9 z,hx] at hr;exact hr (by simp)
  ·have n1:ws.getD 0 []≠tPAT:=by rw[z];decide
   have n2:ws.getD 0 []≠tTOL:=by rw[z];decide
   rw[B8 n1,B8 n2,B9 z,hx] at ht;exact ht rfl _ (.inr ⟨b,rfl,.inl ⟨z,rfl⟩⟩)
  ·have n1:ws.getD 0 []≠tPAT:=by rw[z];decide
   have n2:ws.getD 0 []≠tTOL:=by rw[z];decide
   have n3:ws.getD 0 []≠tBRK:=by rw[z];decide
   rw[B8 n1,B8 n2,B8 n3] at ht;exact ht rfl _ (.inr ⟨b,rfl,.inr ⟨z,rfl⟩⟩)
def spDue:Sp:=fun vs H Q _=>∃(v:V) (na:Ac) (ms:List (List Nat×Bp)),vs=[v,.ref na]/\RowV H v/\H na=some (.lst (LW (ms.map (·.1))))/\[]∉ms.map (·.1)/\ms.length<=100 /\
 ((∀ l,v=.str (S l)->Mt (spl 32 l)=false)->ans tROW .non H Q)/\∀ l,v=.str (S l)->Mt (spl 32 l)=true->ans (duK (Nd ms (spl 32 l))) (duV (Nd ms (spl 32 l))) H Q
noncomputable def kvsD:List (Key×V):=[(Sum.inr (S tTON),.int 4),(Sum.inr (S tPAT),.int 3),(Sum.inr (S tTOL),.int 3),(Sum.inr (S tBRK),.int 3),(Sum.inr (S tPTS),.int 2),(Sum.inr (S tPAR),.int 2)]
theorem RV (l:List Nat):valV kvsD (Sum.inr (S l))=if l=tPRS then none else (cntL l).map fun n:Nat=>V.int (n:Int):=by
 by_cases e:l=tPRS
 ·rw[B9 e,e];decide +kernel
 ·rw[B8 e]
  unfold kvsD cntL
  rw[Pp,Pp,Pp,Pp,Pp,Pp]
  by_cases h1:l=tTON
  ·rw[B9 h1,B9 h1];rfl
  rw[B8 h1,B8 h1]
  by_cases h2:l=tPAT
  ·rw[B9 h2,B9 h2];rfl
  rw[B8 h2,B8 h2]
  by_cases h3:l=tTOL
  ·rw[B9 h3,B9 h3];rfl
  rw[B8 h3,B8 h3]
  by_cases h4:l=tBRK
  ·rw[B9 h4,B9 h4];rfl
  rw[B8 h4,B8 h4]
  by_cases h5:l=tPTS
  ·rw[B9 h5,B9 h5];rfl
  rw[B8 h5,B8 h5]
  by_cases h6:l=tPAR
  ·rw[B9 h6,B9 h6];rfl
  rw[B8 h6,B8 h6,B8 e];rfl
theorem iC (l:List Nat):M' l 2 200=(M' l 1 200&&!decide (l=dig 1)):=by
 have h1:M' l 1 200=(decide (l=dig 1) || M' l 2 200):=by
  unfold M'
  rw[show 200+1 - 1=199+1 from rfl,iZ,OL,Zp]
  congr 1
 rw[h1]
 by_cases e:l=dig 1
 ·rw[B7 e,e]
  have:M' (dig 1) 2 200=false:=by decide +kernel
  rw[this];rfl
 ·rw[B6 e];simp
theorem mrgD:Pd [] kvsD=kvsD:=by rfl
theorem iD (hP:ws.getD 0 []≠tPRS) (hc:cntL (ws.getD 0 [])=some n):hasC ws=decide (ws.length=n):=by
 unfold hasC
 rw[hc]
 show (decide (ws.length=n) || _)=_
 rw[B6 hP,QW,Zq]
theorem t_one:Mg "1"=S (dig 1):=by decide +kernel
theorem iE (T:Txt mg tk)(F:Fun K "_law_due" "_law_due" s_law_due f fd)(Cr:Dn P w K mg base "_law_is_number" 1 ["_law_word","_law_most"] YJ)(CH:Dn P w K mg base "_law_things_due" 2 ["_law_things","_law_names"] YR)(Ch:Dn P w K mg base "_law_is_word" 1 ["_law_text"] T5)(CB:Dn P w K mg base "_law_pattern_due" 4 ["_law_text"] YK)(C4:Dn P w K mg base "_law_word_due" 2 ["_law_text","_law_told"] YL):FnOk P w K mg base CX0 5 f fd ["_law_row","_law_names"] spDue:=by
 refine F.okk ["_law_row","_law_names","_law_words","_law_counts","_law_fine"] ?_
 rintro _ _ _ s H _ Q _ hr ⟨v,na,ms,rfl,hv,Dz,DH,D_,q0,q1⟩ nd
 refine⟨_,(LZ (pst 2 nd (UM (MY (pcb Ov T.z_isinstance (LS (pv 0) (pa1 (pty "str" T.z_str)))) (fun _=>rfl)) (MO (K:=K) NX Vb Vc XA (pv 0) (pa1 LU)) (Mp (pa1 LU))))
  (LZ (pst 3 nd (dX (US LU LV (US LU LV (US LU LV (US LU LV (US LU LV (US LU LV pps_nil)))))) rfl rfl (by simp) (by decide)))
  (LZ (Ma (PW.pt (Pt (Mb (o_eq hr.units) (pix K (pv 2) LV) LU (L9 _)) (PQ (Mb o_gt (pcb (MU (K:=K)) T.z_len (pa1 (pv 2))) LV (L9 _)))))
   (LZ (Ma (PW.pt (Pu (Oq (MY (Mc Cr hr.L5 rfl (LS (pix K (pv 2) LV) (pa1 LV))) (fun _=>rfl))) (QD (Mb (o_eq hr.units) (pix K (pv 2) LV) LU (L9 _)))))
   (LY (L6 (Mp (LS LU (pa1 Ny)))))
   Mh)
  (LY (L6 (Mc CH hr.L5 rfl (LS (MM (MN (K:=K)) (pv 2) (MF LV) MX) (pa1 (pv 1)))))))
   Mh)
  (LZ (Ma (PW.pt (Pu (PP (WV (QG hr) (pix K (pv 2) LV) (pv 3))) (QD (Mb (o_ne hr.units) (pcb (MU (K:=K)) T.z_len (pa1 (pv 2))) (Tn (QG hr) (pv 3) (pix K (pv 2) LV) (fun _ _=>rfl)) (L9 _)))))
   (LY (L6 (Mp (LS LU (pa1 Ny)))))
   Mh)
  (LZ (Ma (PW.pt (Pu (Oq (MY (Mc Ch hr.L5 rfl (pa1 (pix K (pv 2) LV))) (fun _=>rfl))) (QD (Mb o_gt (pcb (MU (K:=K)) T.z_len (pa1 (pix K (pv 2) LV))) LV (L9 _)))))
   (LY (L6 (Mp (LS LU (pa1 Ny)))))
   Mh)
  (LZ (Ma (Mb (o_eq hr.units) (pix K (pv 2) LV) LU (L9 _))
   (LZ (pst 4 nd (ND (Mc Cr hr.L5 rfl (LS (pix K (pv 2) LV) (pa1 LV))) (NC (Mc Cr hr.L5 rfl (LS (pix K (pv 2) LV) (pa1 LV))))))
  (LY (L6 (UM (MY (pv 4) (fun _=>rfl)) (Mp (LS LU (pa1 Ny))) (Mp (LS LU (pa1 Ny)))))))
   Mh)
  (LZ (Ma (Mb Ra (pix K (pv 2) LV) (pv 1) (by with_unfolding_all rfl))
   (LY (L6 (Mp (LS LU (pa1 (pix K (pv 2) LV))))))
   Mh)
  (LZ (Ma (Mb (o_eq hr.units) (pix K (pv 2) LV) LU (L9 _))
   (LY (L6 (Mc CB hr.L5 rfl (pa1 (pix K (pv 2) LV)))))
   Mh)
  (LZ (Ma (Mb o_in (pix K (pv 2) LV) (Mp (LS LU (pa1 LU))) (by with_unfolding_all rfl))
   (LY (L6 (Mc C4 hr.L5 rfl (LS (pix K (pv 2) LV) (pa1 (MT (o_eq hr.units) (pix K (pv 2) LV) LU (L9 _)))))))
   Mh)
  (LY (L6 (Mp (LS LU (pa1 Ny)))))))))))))),?_⟩
 walk_at "s0"
 rw[Ox,UW,Ql,t_row,Oz,Ob,Qk,Ui,RN,t_par,t_one]
 by_cases hs:∃ l,v=.str (S l)
 ·obtain⟨l,rfl⟩:=hs
  obtain⟨Ev,Gk⟩:l.length<=40/\isTx l=true:=by
   rcases hv with ⟨l',e,h1,h2⟩ | e | ⟨i,e⟩ | ⟨b,e⟩ | ⟨p,xs,e,_⟩
   ·cases S_inj.mp e;exact⟨h1,h2⟩
   ·cases e
   ·cases e
   ·cases e
   ·cases e
  have q0:Mt (spl 32 l)=false->ans tROW .non H Q:=fun e=>q0 fun l' e'=>by cases S_inj.mp e';exact e
  have q1:=q1 l rfl
  have Ff:=UX 32 l
  have Fc:1<=(spl 32 l).length:=by
   have:=Qj 32 l
   cases h:spl 32 l with
   | nil=>exact absurd h this
   | cons _ _=>simp
  have DS:((spl 32 l).map S).map V.str=LW (spl 32 l):=by rw[Ng];rfl
  have Eb:∀ x∈spl 32 l,x.length<=40:=fun x hx=>by have:=Yx hx;omega
  ext
  refine Xy rfl (szn (by rw[Me];omega)) (szn (by rw[QQ,L8];omega)) fun wa EZ=>?_
  rw[QQ,DS]
  obtain⟨H1,EV,s1,ewa⟩:=Ms EZ (.lst (LW (spl 32 l)))
  rw[EV]
  generalize spl 32 l=ws at q0 q1 Ff Fc Eb ewa
  clear DS
  have D9:∀ i,(ws.getD i []).length<=40:=fun i=>by
   rw[Mq]
   cases e:ws[i]? with
   | none=>exact ML _
   | some x=>exact Eb x (OB e)
  have Ia:(LW ws).length=ws.length:=L8 ..
  have Gq:=s1 _ _ Dz
  ext
  intro dc Ib
  refine⟨LX,kvsD,rfl,by decide,?_⟩
  rw[mrgD,OR]
  obtain⟨H2,Fw,s2,edc⟩:=Ms Ib (.dK kvsD)
  rw[Fw]
  have ew:=s2 _ _ ewa
  have Er:=s2 _ _ Gq
  have s02:=s1.trans s2
  clear ewa Gq s1 s2 Ib EZ Dz
  have row:Mt ws=false->∀ H',Same H2 H'->∀ r,H' r=none->Q (.ref r) (upd H' r (.lst [.str (S tROW),.non])):=fun e H' s r Cc=>((q0 e).mono (s02.trans s)) r _ Cc LX (L_ Cc _)
  have h0:=Nm (show 0 < ws.length by omega)
  ext
  by_cases hP:ws.getD 0 []=tPRS
  ·refine Nb (by rw[hP]) ?_
   ext
   rw[Ia]
   have DU:cntL (ws.getD 0 [])=some 3:=by rw[hP];rfl
   by_cases h2:2 < ws.length
   ·refine Nb (by omega) ?_
    have h1:=Nm (show 1 < ws.length by omega)
    have E1:hasC ws=true:=by
     unfold hasC
     rw[DU]
     show (decide (ws.length=3) || (decide (ws.getD 0 []=tPRS)&&decide (3 < ws.length)))=true
     rw[B7 hP,OM]
     by_cases e:ws.length=3
     ·rw[B7 e];rfl
     ·rw[B7 (show 3 < ws.length by omega),Zs]
    have Ck:Mt ws=(M' (ws.getD 1 []) 1 200&&!decide (ws.getD 1 []=dig 1)):=by
     unfold Mt
     rw[E1,B9 hP,iC];rfl
    ext
    refine⟨ws.getD 1 [],200,rfl,by have:=D9 1;omega,by decide,fun H3 s3=>?_⟩
    have ew3:=s3 _ _ ew
    cases Hv:M' (ws.getD 1 []) 1 200 with
    | false =>
     rw[Hv] at Ck
     ext
     intro r Cc
     ext
     exact row Ck H3 s3 r Cc
    | true =>
     rw[Hv,OM] at Ck
     ext
     by_cases Ic:ws.getD 1 []=dig 1
     ·refine Nb (by rw[Ic]) ?_
      rw[B7 Ic] at Ck
      ext
      intro r Cc
      ext
      exact row Ck H3 s3 r Cc
     ·refine Nc (fun z=>Ic (S_inj.mp z)) ?_
      rw[B6 Ic] at Ck
      have q1:=q1 Ck
      ext
      refine Py (SqL.of ew3) fun a2 DG=>?_
      rw[YH ws (by omega)]
      obtain⟨H4,Fv,s4,ea2⟩:=Ms DG (.lst (LW (ws.drop 2)))
      rw[Fv]
      have s34:=s3.trans s4
      unfold Nd at q1
      rw[B9 hP] at q1
      ext
      refine⟨a2,na,ms,ws.drop 2,rfl,ea2,s34 _ _ Er,DH,by rw[NN];omega,D_,fun x hx=>Eb x (So hx),fun k hk=>?_,fun nm hk=>?_,fun hk=>?_⟩
      ·rw[hk] at q1;exact q1.mono (s02.trans s34)
      ·rw[hk] at q1;exact q1.mono (s02.trans s34)
      ·rw[hk] at q1;exact q1.mono (s02.trans s34)
   ·refine Nc (by omega) ?_
    have Ck:Mt ws=false:=by
     unfold Mt hasC
     rw[DU]
     show ((decide (ws.length=3) || (decide (ws.getD 0 []=tPRS)&&decide (3 < ws.length)))&&_)=false
     rw[B6 (show ¬ ws.length=3 by omega),B6 (show ¬ 3 < ws.length by omega),Sv];rfl
    ext
    refine i_tB (RJ ?_)
    ext
    refine⟨dc,_,rfl,DGet.k (k:=Sum.inr (S (ws.getD 0 []))) edc,?_⟩
    rw[RV,B9 hP]
    ext
    intro r Cc
    ext
    exact row Ck H2 (fun _ _ e=>e) r Cc
  ·refine Nc (fun z=>hP (S_inj.mp z)) ?_
   ext
   refine i_tB (RJ ?_)
   ext
   refine⟨dc,_,rfl,DGet.k (k:=Sum.inr (S (ws.getD 0 []))) edc,?_⟩
   rw[RV,B8 hP]
   cases DU:cntL (ws.getD 0 []) with
   | none =>
    have Ck:Mt ws=false:=by
     unfold Mt hasC
     rw[DU];rfl
    ext
    intro r Cc
    ext
    exact row Ck H2 (fun _ _ e=>e) r Cc
   | some n =>
    obtain⟨Gy,Gm,HX⟩:=Um DU
    have E1:=iD hP DU
    ext
    refine XY ?_
    ext
    refine⟨dc,.int (n:Int),rfl,.inl ⟨kvsD,Sum.inr (S (ws.getD 0 [])),.inl edc,rfl,by rw[RV,B8 hP,DU];rfl⟩,?_⟩
    ext
    rw[Ia]
    by_cases hl:ws.length=n
    ·have Hr:(!decide (V.int (ws.length:Int)=V.int (n:Int)))=false:=by rw[hl];simp
     rw[Hr]
     rw[B7 hl] at E1
     have h1:=Nm (show 1 < ws.length by omega)
     have Ck:Mt ws=((if ws.getD 0 []=tTON then M' (ws.getD 2 []) 1 20&&M' (ws.getD 3 []) 1 20 else true)&&isNm (ws.getD 1 [])):=by
      unfold Mt
      rw[E1,B8 hP];rfl
     have Lu:(S (ws.getD 1 [])).length<=Ae:=szn (by rw[Me];have:=D9 1;omega)
     ext
     refine⟨ws.getD 1 [],rfl,by have:=D9 1;omega,fun H3 s3=>?_⟩
     have ew3:=s3 _ _ ew
     have GF:=s3 _ _ Er
     cases hw:Ni (ws.getD 1 []) with
     | false =>
      have E2:Mt ws=false:=by rw[Ck,isNm,hw,QW,Sv]
      ext
      intro r Cc
      ext
      exact row E2 H3 s3 r Cc
     | true =>
      ext
      by_cases h8:(ws.getD 1 []).length<=8
      ·refine Nc (by rw[Me];omega) ?_
       have Ex:isNm (ws.getD 1 [])=true:=by rw[isNm,hw,B7 h8];rfl
       rw[Ex,Bool.and_true] at Ck
       ext
       by_cases hT:ws.getD 0 []=tTON
       ·refine Nb (by rw[hT]) ?_
        rw[B9 hT] at Ck
        have h2:=Nm (show 2 < ws.length by have:=HX hT;omega)
        have h3:=Nm (show 3 < ws.length by have:=HX hT;omega)
        have En:Mt ws=true->∀ H',Same H2 H'->∀ r,H' r=none->Q (.ref r) (upd H' r (.lst [.str (S tTOL),.non])):=fun e H' s r Cc=>by
         have q1:=q1 e
         unfold Nd at q1
         rw[B8 hP,B9 hT] at q1
         exact(q1.mono (s02.trans s)) r _ Cc LX (L_ Cc _)
        ext
        refine⟨ws.getD 2 [],20,rfl,by have:=D9 2;omega,by decide,fun H4 s4=>?_⟩
        have ew4:=s4 _ _ ew3
        have s34:=s3.trans s4
        cases Fd:M' (ws.getD 2 []) 1 20 with
        | false =>
         rw[Fd] at Ck
         ext
         intro r Cc
         ext
         exact row Ck H4 s34 r Cc
        | true =>
         rw[Fd,OM] at Ck
         ext
         refine⟨ws.getD 3 [],20,rfl,by have:=D9 3;omega,by decide,fun H5 s5=>?_⟩
         have s35:=s34.trans s5
         cases FJ:M' (ws.getD 3 []) 1 20 with
         | false =>
          rw[FJ] at Ck
          ext
          intro r Cc
          ext
          exact row Ck H5 s35 r Cc
         | true =>
          rw[FJ] at Ck
          ext
          intro r Cc
          ext
          exact En Ck H5 s35 r Cc
       ·refine Nc (fun z=>hT (S_inj.mp z)) ?_
        rw[B8 hT] at Ck
        have q1:=(q1 Ck).mono (s02.trans s3)
        unfold Nd at q1
        rw[B8 hP,B8 hT,RT] at q1
        ext
        refine NI (M9 GF) ⟨rfl,YQ _⟩ ?_
        rw[YO,B9 rfl]
        by_cases Do:ws.getD 1 []∈ms.map (·.1)
        ·rw[B7 Do] at q1 ⊢
         rw[B8 (by simp)] at q1
         ext
         by_cases EH:ws.getD 0 []=tPAT
         ·refine Nb (by rw[EH]) ?_
          rw[B9 EH] at q1
          have h2:=Nm (show 2 < ws.length by have:=Gm (by rw[EH];decide) (by rw[EH];decide);omega)
          ext
          refine⟨ws.getD 2 [],rfl,by have:=D9 2;omega,fun k hk=>?_,fun hk=>?_⟩
          ·rw[hk] at q1;exact q1
          ·rw[hk] at q1;exact q1
         ·refine Nc (fun z=>EH (S_inj.mp z)) ?_
          rw[B8 EH] at q1
          ext
          intro tb Lv
          have s4:=L_ Lv (.lst (LW [tTOL,tBRK]))
          have etb:(upd H3 tb (.lst [.str (S tTOL),.str (S tBRK)])) tb=some (.lst (LW [tTOL,tBRK])):=LX
          have s4:Same H3 (upd H3 tb (.lst [.str (S tTOL),.str (S tBRK)])):=s4
          generalize upd H3 tb (.lst [.str (S tTOL),.str (S tBRK)])=H4 at s4 etb ⊢
          have ew4:=s4 _ _ ew3
          refine NI (M9 etb) ⟨rfl,YQ _⟩ ?_
          rw[YO,B8 (by decide)]
          by_cases Ea:ws.getD 0 []∈[tTOL,tBRK]
          ·rw[B7 Ea]
           have Cy:ws.getD 0 []≠tPTS/\ws.getD 0 []≠tPAR:=by
            simp only[Mo,Oc,or_false] at Ea
            rcases Ea with e | e <;> rw[e] <;> decide
           have h2:=Nm (show 2 < ws.length by have:=Gm Cy.1 Cy.2;omega)
           have hd:decide (V.str (S (ws.getD 0 []))=V.str (S tTOL))=decide (ws.getD 0 []=tTOL):=by
            rw[No,decide_eq_true_eq,decide_eq_true_eq];exact S_inj
           have Hk:(match wdue (decide (ws.getD 0 []=tTOL)) (ws.getD 2 []) with | some k=>Du.word k | none=>Du.told)=(if ws.getD 0 []=tTOL then (match Nz (ws.getD 2 []) ⟨[],[],true⟩ 0 with | some k=>Du.word k | none=>Du.told) else if ws.getD 0 []=tBRK then (match wbad (ws.getD 2 []) with | some k=>Du.word k | none=>Du.told) else .told):=by
            unfold wdue
            by_cases e:ws.getD 0 []=tTOL
            ·rw[B7 e,B9 rfl,B9 e,Tr]
            ·rw[B6 e,B8 Mi,B8 e,B9]
             simp only[Mo,Oc,or_false] at Ea
             exact Ea.resolve_left e
           rw[<- Hk] at q1
           ext
           rw[hd]
           refine⟨ws.getD 2 [],_,rfl,by have:=D9 2;omega,fun k hk=>?_,fun hk=>?_⟩
           ·rw[hk] at q1;exact q1.mono s4
           ·rw[hk] at q1;exact q1.mono s4
          ·rw[B6 Ea]
           simp only[Mo,Oc,or_false,not_or] at Ea
           rw[B8 Ea.1,B8 Ea.2] at q1
           ext
           intro r Cc
           ext
           exact(q1.mono s4) r _ Cc LX (L_ Cc _)
        ·rw[B6 Do] at q1 ⊢
         rw[B9 rfl] at q1
         ext
         intro r Cc
         ext
         exact q1 r _ Cc LX (L_ Cc _)
      ·refine Nb (by rw[Me];omega) ?_
       have E2:Mt ws=false:=by rw[Ck,isNm,B6 h8,Sv,Sv]
       ext
       intro r Cc
       ext
       exact row E2 H3 s3 r Cc
    ·have Hr:(!decide (V.int (ws.length:Int)=V.int (n:Int)))=true:=by
      simp only[Bool.not_eq_true',decide_eq_false_iff_not]
      intro z;injection z with z;omega
     rw[Hr]
     have Ck:Mt ws=false:=by
      unfold Mt
      rw[E1,B6 hl];rfl
     ext
     intro r Cc
     ext
     exact row Ck H2 (fun _ _ e=>e) r Cc
 ·have hn:∀ l,v≠.str (S l):=fun l e=>hs ⟨l,e⟩
  obtain⟨t,ht,Eg⟩:∃ t,tyN H v=some t/\subB t "str"=false:=by
   rcases hv with ⟨l',e,_⟩ | rfl | ⟨i,rfl⟩ | ⟨b,rfl⟩ | ⟨p,xs,rfl,hp⟩
   ·exact absurd e (hn l')
   ·exact⟨_,rfl,rfl⟩
   ·exact⟨_,rfl,rfl⟩
   ·exact⟨_,rfl,rfl⟩
   ·rcases hp with hp | hp
    ·exact⟨"list",by simp only[tyN];rw[hp],rfl⟩
    ·exact⟨"tuple",by simp only[tyN];rw[hp],rfl⟩
  have q0:=q0 fun l e=>absurd e (hn l)
  ext
  refine Rn ht rfl ?_
  rw[Eg]
  ext
  intro wa EZ
  obtain⟨H1,EV,s1,ewa⟩:=Ms EZ (.lst [.str (S [])])
  rw[EV]
  ext
  intro dc Ib
  refine⟨LX,kvsD,rfl,by decide,?_⟩
  rw[mrgD,OR]
  obtain⟨H2,Fw,s2,edc⟩:=Ms Ib (.dK kvsD)
  rw[Fw]
  have ew:=s2 _ _ ewa
  have s02:=s1.trans s2
  ext
  try refine Nc (fun z=>absurd (S_inj.mp z) (by decide)) ?_
  ext
  refine i_tB (RJ ?_)
  ext
  refine⟨dc,_,rfl,DGet.k (k:=Sum.inr (S [])) edc,?_⟩
  rw[RV,B8 (by decide)]
  ext
  intro r Cc
  ext
  exact(q0.mono s02) r _ Cc LX (L_ Cc _)
noncomputable abbrev s_law_row_by:Av:=top 87
noncomputable abbrev s_law_spoilt:Av:=top 88
def Tk2 (l:List Nat)(m:Nat):Prop:=isTx l=true/\l.length<=m
noncomputable instance (l:List Nat)(m:Nat):Decidable (Tk2 l m):=inferInstanceAs (Decidable (_/\_))
theorem YS (a b:List Nat):isTx (a++b)=(isTx a&&isTx b):=by unfold isTx;rw[List.all_append]
theorem Tk2.app (h1:Tk2 a m) (h2:Tk2 b n) (hk:m+n<=k):Tk2 (a++b) k:=⟨by rw[YS,h1.1,h2.1];rfl,by rw[Mn];have:=h1.2;have:=h2.2;omega⟩
theorem Tk2.up (h:Tk2 a m) (hm:m<=n):Tk2 a n:=⟨h.1,MR h.2 hm⟩
theorem NA (ha:Tk2 a m) (hb:Tk2 b n) (hk:m+n<=1000) (h:∀ c,Tk2 c (m+n)->Q (.str (S c)) H):fAdd (.str (S a)) (.str (S b)) H Q :=
 QM (by have:=ha.2;have:=hb.2;omega) (h _ (ha.app hb (L' _)))
theorem Sl (hw:∀ x∈ws,Tk2 x m) (h0:0<=d) (h1:d < (ws.length:Int)):∃ x,Tk2 x m/\atI (LW ws) d=some (.str (S x)):=by
 have hl:d.toNat < ws.length:=by omega
 refine⟨ws[d.toNat],hw _ (Qt hl),QL h0 ?_⟩
 rw[LW,MC,Mm hl];rfl
theorem Qp {H:Hp}:∀{ls:List (List Nat)}{vs:List V},L2.IsL H vs (ls.map fun l=>Dt.str (S l))->vs=LW ls
 | [],[],_=>rfl
 | [],_::_,h=>by simp only[Oe,L2.IsL] at h
 | _::_,[],h=>by simp only[Mu,L2.IsL] at h
 | l::ls,v::vs,h=>by
  simp only[Mu,L2.IsL,Is] at h
  rw[h.1,Qp h.2];rfl
noncomputable def wNAM:List (List Nat):=[[97,97],[97],[97,97],[97],[98],[122,122]]
noncomputable def wNUM:List (List Nat):=[[49],[50],[50,48],[57],[50,49],[48]]
noncomputable def wTXT:List (List Nat):=[[97,49,98],[46,97],[50,97,46],[97,45,98],[97,98],[45,97],[97,45],[97,45,45,98],[49],[],[97,49,48],[46,46],[97,46,98],[65,98]]
noncomputable def wTHI:List (List Nat):=[[97,98],[97,98,44],[64,97],[64,98],[97,45,98],[64],[44],[98,97,33],[97,49],[]]
noncomputable def wWID:List (List Nat):=[[50,48],[50],[50,48,48],[49],[50,48,49]]
theorem cNAM:[V.str "aa",V.str "a",V.str "aa",V.str "a",V.str "b",V.str "zz"]=LW wNAM:=by decide +kernel
theorem cNUM:[V.str "1",V.str "2",V.str "20",V.str "9",V.str "21",V.str "0"]=LW wNUM:=by decide +kernel
theorem cWID:[V.str "20",V.str "2",V.str "200",V.str "1",V.str "201"]=LW wWID:=by decide +kernel
theorem cTXT:[Dt.str "a1b",Dt.str ".a",Dt.str "2a.",Dt.str "a-b",Dt.str "ab",Dt.str "-a",Dt.str "a-",Dt.str "a--b",Dt.str "1",Dt.str "",Dt.str "a10",Dt.str "..",Dt.str "a.b",Dt.str "Ab"]=wTXT.map fun l=>Dt.str (S l):=by rfl
theorem cTHI:[Dt.str "ab",Dt.str "ab,",Dt.str "@a",Dt.str "@b",Dt.str "a-b",Dt.str "@",Dt.str ",",Dt.str "ba!",Dt.str "a1",Dt.str ""]=wTHI.map fun l=>Dt.str (S l):=by rfl
theorem Uq:Mg "tongue "=S (tTON++[32]):=by decide +kernel
theorem t_sp:Mg " "=S [32]:=by decide +kernel
theorem t_sp1:Mg " 1"=S [32,49]:=by decide +kernel
theorem YT:Mg "pattern "=S (tPAT++[32]):=by decide +kernel
theorem YU:Mg "told "=S (tTOL++[32]):=by decide +kernel
theorem YV:Mg "break "=S (tBRK++[32]):=by decide +kernel
theorem YW:Mg "patterns "=S (tPTS++[32]):=by decide +kernel
theorem YX:Mg "pare "=S (tPAR++[32]):=by decide +kernel
theorem YY:Mg "press "=S (tPRS++[32]):=by decide +kernel
theorem t_saa:Mg " @aa "=S [32,64,97,97,32]:=by decide +kernel
theorem t_prs3:Mg "press 30 "=S (tPRS++[32,51,48,32]):=by decide +kernel
theorem t_sab:Mg " ab"=S [32,97,98]:=by decide +kernel
def YZ:Sp:=fun vs H Q _=>∃(p:Ac) (n:Nat),vs=[.ref p]/\FeedAt H p n/\n+10 < Rr/\∀(l:List Nat) (H':Hp),Tk2 l 17->FeedAt H' p (n+10)->Kept p H H'->Q (.str (S l)) H'
theorem iF (T:Txt mg tk)(F:Fun K "_law_row_by" "_law_row_by" s_law_row_by f fd)(Cb:Dn P w K mg base "_law_next" 1 ["_law_feed_here","_law_many"] Rs):FnOk P w K mg base CX0 2 f fd ["_law_feed_here"] YZ:=by
 refine F.okk ["_law_feed_here","_law_name","_law_number","_law_text","_law_thing","_law_rows"] ?_
 rintro _ _ _ _ H _ _ _ hr ⟨p,n,rfl,hf,hn,q⟩ nd
 refine⟨_,(LZ (pst 1 nd (pix K (Mp (LS LU (LS LU (LS LU (LS LU (LS LU (pa1 LU))))))) (Mc Cb hr.L5 rfl (LS (pv 0) (pa1 LV)))))
  (LZ (pst 2 nd (pix K (Mp (LS LU (LS LU (LS LU (LS LU (LS LU (pa1 LU))))))) (Mc Cb hr.L5 rfl (LS (pv 0) (pa1 LV)))))
  (LZ (pst 3 nd (pix K (RE [.str "a1b",.str ".a",.str "2a.",.str "a-b",.str "ab",.str "-a",.str "a-",.str "a--b",.str "1",.str "",.str "a10",.str "..",.str "a.b",.str "Ab"]) (Mc Cb hr.L5 rfl (LS (pv 0) (pa1 LV)))))
  (LZ (pst 4 nd (pix K (RE [.str "ab",.str "ab,",.str "@a",.str "@b",.str "a-b",.str "@",.str ",",.str "ba!",.str "a1",.str ""]) (Mc Cb hr.L5 rfl (LS (pv 0) (pa1 LV)))))
  (LZ (pst 5 nd (Mp (LS (L7 Md (L7 Md (L7 Md (L7 Md LU (pv 1)) LU) (pv 2)) LU) (LS (L7 Md (L7 Md (L7 Md LU (pv 1)) LU) (pv 3)) (pa1 (L7 Md (L7 Md (L7 Md LU (pv 1)) LU) (pv 3)))))))
  (LZ (pst 5 nd (L7 Md (pv 5) (Mp (LS (L7 Md (L7 Md (L7 Md LU (pv 1)) LU) (pv 3)) (LS (L7 Md LU (pv 1)) (pa1 (L7 Md LU (pv 1))))))))
  (LZ (Na (MO (K:=K) Og OO OP OX (pv 5) (pa1 (L7 Md (L7 Md (L7 Md LU (pix K (Mp (LS LU (LS LU (LS LU (LS LU (pa1 LU)))))) (Mc Cb hr.L5 rfl (LS (pv 0) (pa1 LV))))) LU) (pv 4)))))
  (LZ (Na (MO (K:=K) Og OO OP OX (pv 5) (pa1 (L7 Md (L7 Md LU (pv 4)) LU))))
  (LY (L6 (pix K (pv 5) (Mc Cb hr.L5 rfl (LS (pv 0) (pa1 LV)))))))))))))),?_⟩
 walk_at "s0"
 rw[Uq,t_sp,t_sp1,YT,YU,YV,YW,YX,YY,t_saa,t_prs3,t_sab]
 have k0:=Kept.refl p H
 ext
 intro a1 DK
 rw[cNAM]
 have Ej:a1≠p:=fun z=>by obtain⟨o,e⟩:=hf.some;rw[z,e] at DK;cases DK
 have ea1:=LX (H:=H) (a:=a1) (o:=.lst (LW wNAM))
 have k1:=k0.new DK (.lst (LW wNAM))
 have f1:=hf.new (o:=.lst (LW wNAM)) DK
 generalize upd H a1 (.lst (LW wNAM))=H1 at ea1 k1 f1 ⊢
 ext
 refine⟨p,6,n,rfl,f1,by omega,by decide,by decide,fun d1 H2 d10 d11 f2 oa1=>?_⟩
 obtain⟨x1,t1,ata1⟩:=Sl (ws:=wNAM) (m:=2) (by decide) d10 d11
 have k2:=k1.off oa1
 refine N5 (v:=.str (S x1)) (M9 ((oa1 _ Ej).trans ea1)) ata1 ?_
 ext
 intro a2 DG
 rw[cNUM]
 have Ge:a2≠p:=fun z=>by obtain⟨o,e⟩:=f2.some;rw[z,e] at DG;cases DG
 have ea2:=LX (H:=H2) (a:=a2) (o:=.lst (LW wNUM))
 have k3:=k2.new DG (.lst (LW wNUM))
 have f3:=f2.new (o:=.lst (LW wNUM)) DG
 generalize upd H2 a2 (.lst (LW wNUM))=H3 at ea2 k3 f3 ⊢
 ext
 refine⟨p,6,n+1,rfl,f3,by omega,by decide,by decide,fun d2 H4 d20 d21 f4 oa2=>?_⟩
 obtain⟨x2,t2,ata2⟩:=Sl (ws:=wNUM) (m:=2) (by decide) d20 d21
 have k4:=k3.off oa2
 refine N5 (v:=.str (S x2)) (M9 ((oa2 _ Ge).trans ea2)) ata2 ?_
 ext
 intro ova3 H5 E3 sva3
 rw[cTXT] at E3
 simp only[Is] at E3
 obtain⟨a3,ovsa3,rfl,ea3,Jf⟩:=E3
 obtain rfl:=Qp Jf
 have G':a3≠p:=fun z=>by obtain⟨_,_,_,e,_⟩:=f4.same sva3;rw[z,e] at ea3;cases ea3
 have k5:=k4.same sva3
 have f5:=f4.same sva3
 ext
 refine⟨p,14,n+1+1,rfl,f5,by omega,by decide,by decide,fun d3 H6 d30 d31 f6 oa3=>?_⟩
 obtain⟨x3,t3,ata3⟩:=Sl (ws:=wTXT) (m:=4) (by decide) d30 d31
 have k6:=k5.off oa3
 refine N5 (v:=.str (S x3)) (M9 ((oa3 _ G').trans ea3)) ata3 ?_
 ext
 intro ova4 H7 E4 sva4
 rw[cTHI] at E4
 simp only[Is] at E4
 obtain⟨a4,ovsa4,rfl,ea4,Jg⟩:=E4
 obtain rfl:=Qp Jg
 have Jh:a4≠p:=fun z=>by obtain⟨_,_,_,e,_⟩:=f6.same sva4;rw[z,e] at ea4;cases ea4
 have k7:=k6.same sva4
 have f7:=f6.same sva4
 ext
 refine⟨p,10,n+1+1+1,rfl,f7,by omega,by decide,by decide,fun d4 H8 d40 d41 f8 oa4=>?_⟩
 obtain⟨x4,t4,ata4⟩:=Sl (ws:=wTHI) (m:=3) (by decide) d40 d41
 have k8:=k7.off oa4
 refine N5 (v:=.str (S x4)) (M9 ((oa4 _ Jh).trans ea4)) ata4 ?_
 have c1:Tk2 (tTON++[32]) 7:=by decide
 have c2:Tk2 [32] 1:=by decide
 have c3:Tk2 [32,49] 2:=by decide
 have c4:Tk2 (tPAT++[32]) 8:=by decide
 have c5:Tk2 (tTOL++[32]) 5:=by decide
 have c6:Tk2 (tBRK++[32]) 6:=by decide
 have c7:Tk2 (tPTS++[32]) 9:=by decide
 have c8:Tk2 (tPAR++[32]) 5:=by decide
 have c9:Tk2 (tPRS++[32]) 6:=by decide
 have cA:Tk2 [32,64,97,97,32] 5:=by decide
 have cB:Tk2 (tPRS++[32,51,48,32]) 9:=by decide
 have cC:Tk2 [32,97,98] 3:=by decide
 ext
 refine NA (by assumption) (by assumption) (by decide) fun u1 G9=>?_
 ext
 refine NA (by assumption) (by assumption) (by decide) fun u2 hu2=>?_
 ext
 refine NA (by assumption) (by assumption) (by decide) fun u3 hu3=>?_
 ext
 refine NA (by assumption) (by assumption) (by decide) fun y1 Ie=>?_
 ext
 refine NA (by assumption) (by assumption) (by decide) fun u4 hu4=>?_
 ext
 refine NA (by assumption) (by assumption) (by decide) fun u5 hu5=>?_
 ext
 refine NA (by assumption) (by assumption) (by decide) fun y2 GD=>?_
 ext
 refine NA (by assumption) (by assumption) (by decide) fun u6 hu6=>?_
 ext
 refine NA (by assumption) (by assumption) (by decide) fun u7 hu7=>?_
 ext
 refine NA (by assumption) (by assumption) (by decide) fun y3 Ig=>?_
 ext
 intro a5 Ey
 have hp5:a5≠p:=fun z=>by obtain⟨o,e⟩:=f8.some;rw[z,e] at Ey;cases Ey
 have e5:(upd H8 a5 (.lst [.str (S y1),.str (S y2),.str (S y3)])) a5=some (.lst (LW [y1,y2,y3])):=LX
 have k9:=k8.new Ey (.lst [.str (S y1),.str (S y2),.str (S y3)])
 have f9:=f8.new (o:=.lst [.str (S y1),.str (S y2),.str (S y3)]) Ey
 generalize upd H8 a5 (.lst [.str (S y1),.str (S y2),.str (S y3)])=H9 at e5 k9 f9 ⊢
 ext
 refine NA (by assumption) (by assumption) (by decide) fun u8 hu8=>?_
 ext
 refine NA (by assumption) (by assumption) (by decide) fun u9 hu9=>?_
 ext
 refine NA (by assumption) (by assumption) (by decide) fun y4 Ih=>?_
 ext
 refine NA (by assumption) (by assumption) (by decide) fun y5 Lw=>?_
 ext
 refine NA (by assumption) (by assumption) (by decide) fun y6 Lx=>?_
 ext
 intro a6 Gr
 have s10:=L_ Gr (.lst (LW [y4,y5,y6]))
 have e6:(upd H9 a6 (.lst [.str (S y4),.str (S y5),.str (S y6)])) a6=some (.lst (LW [y4,y5,y6])):=LX
 have s10:Same H9 (upd H9 a6 (.lst [.str (S y4),.str (S y5),.str (S y6)])):=s10
 have k10:=k9.same s10
 have f10:=f9.same s10
 have e56:=s10 _ _ e5
 generalize upd H9 a6 (.lst [.str (S y4),.str (S y5),.str (S y6)])=H10 at e6 k10 f10 e56 s10 ⊢
 ext
 refine QK e56 e6 (szn (show 6<=1000000 by decide)) fun a7 GI=>?_
 have Hw:a7≠p:=fun z=>by obtain⟨o,e⟩:=f10.some;rw[z,e] at GI;cases GI
 have e7:(upd H10 a7 (.lst (LW [y1,y2,y3]++LW [y4,y5,y6]))) a7=some (.lst (LW [y1,y2,y3,y4,y5,y6])):=LX
 have k11:=k10.new GI (.lst (LW [y1,y2,y3]++LW [y4,y5,y6]))
 have f11:=f10.new (o:=.lst (LW [y1,y2,y3]++LW [y4,y5,y6])) GI
 generalize upd H10 a7 (.lst (LW [y1,y2,y3]++LW [y4,y5,y6]))=H11 at e7 k11 f11 ⊢
 ext
 intro a8 Ji
 rw[cWID]
 have Ly:a8≠p:=fun z=>by obtain⟨o,e⟩:=f11.some;rw[z,e] at Ji;cases Ji
 obtain⟨H12,DX,s12,e8⟩:=Ms Ji (.lst (LW wWID))
 rw[DX]
 have k12:=k11.same s12
 have f12:=f11.same s12
 have e78:=s12 _ _ e7
 ext
 refine⟨p,5,n+1+1+1+1,rfl,f12,by omega,by decide,by decide,fun d5 H13 d50 d51 f13 o13=>?_⟩
 obtain⟨x5,t5,at5⟩:=Sl (ws:=wWID) (m:=3) (by decide) d50 d51
 have k13:=k12.off o13
 refine N5 (v:=.str (S x5)) (M9 ((o13 _ Ly).trans e8)) at5 ?_
 ext
 refine NA (by assumption) (by assumption) (by decide) fun v1 G_=>?_
 ext
 refine NA (by assumption) (by assumption) (by decide) fun v2 Ho=>?_
 ext
 refine NA (by assumption) (by assumption) (by decide) fun y7 Lz=>?_
 have e713:=(o13 _ Hw).trans e78
 ext
 refine Rk e713 (szlt (show 6 < 1000000 by decide)) ?_
 have e714:(upd H13 a7 (.lst (LW [y1,y2,y3,y4,y5,y6]++[.str (S y7)]))) a7=some (.lst (LW [y1,y2,y3,y4,y5,y6,y7])):=LX
 have f14:FeedAt (upd H13 a7 (.lst (LW [y1,y2,y3,y4,y5,y6]++[.str (S y7)]))) p (n+1+1+1+1+1):=f13.off (L4 (MB Hw))
 have h7:H a7=none:=by
  cases e:H a7 with
  | none=>rfl
  | some o=>rw[k10 _ _ Hw e] at GI;cases GI
 have k14:Kept p H (upd H13 a7 (.lst (LW [y1,y2,y3,y4,y5,y6]++[.str (S y7)]))):=fun b o hb e=>by
  rw[L4 (Mj e h7)];exact k13 b o hb e
 generalize upd H13 a7 (.lst (LW [y1,y2,y3,y4,y5,y6]++[.str (S y7)]))=H14 at e714 f14 k14 ⊢
 ext
 refine NA (by assumption) (by assumption) (by decide) fun v3 Kd=>?_
 ext
 refine NA (by assumption) (by assumption) (by decide) fun y8 LA=>?_
 ext
 refine Rk e714 (szlt (show 7 < 1000000 by decide)) ?_
 have e715:(upd H14 a7 (.lst (LW [y1,y2,y3,y4,y5,y6,y7]++[.str (S y8)]))) a7=some (.lst (LW [y1,y2,y3,y4,y5,y6,y7,y8])):=LX
 have f15:FeedAt (upd H14 a7 (.lst (LW [y1,y2,y3,y4,y5,y6,y7]++[.str (S y8)]))) p (n+1+1+1+1+1):=f14.off (L4 (MB Hw))
 have k15:Kept p H (upd H14 a7 (.lst (LW [y1,y2,y3,y4,y5,y6,y7]++[.str (S y8)]))):=fun b o hb e=>by
  rw[L4 (Mj e h7)];exact k14 b o hb e
 generalize upd H14 a7 (.lst (LW [y1,y2,y3,y4,y5,y6,y7]++[.str (S y8)]))=H15 at e715 f15 k15 ⊢
 ext
 refine⟨p,8,n+1+1+1+1+1,rfl,f15,by omega,by decide,by decide,fun d6 H16 d60 d61 f16 o16=>?_⟩
 obtain⟨x6,t6,at6⟩:=Sl (ws:=[y1,y2,y3,y4,y5,y6,y7,y8]) (m:=17) (fun x hx=>by
  simp only[Mo,Oc,or_false] at hx
  rcases hx with rfl | rfl | rfl | rfl | rfl | rfl | rfl | rfl
  ·exact Ie.up (by decide)
  ·exact GD.up (by decide)
  ·exact Ig.up (by decide)
  ·exact Ih.up (by decide)
  ·exact Lw.up (by decide)
  ·exact Lx.up (by decide)
  ·exact Lz.up (by decide)
  ·exact LA.up (by decide)) d60 d61
 refine N5 (v:=.str (S x6)) (M9 ((o16 _ Hw).trans e715)) at6 ?_
 ext
 exact q x6 H16 t6 (f16.mono (by omega)) (k15.off o16)
theorem Y0 (l:List Nat):SF (S l)=S (l.flatMap QZ):=by
 unfold SF placed S
 congr 1
 apply Array.toList_inj.mp
 rw[Array.toList_flatten,List.flatMap_def]
 congr 1
 simp only[Array.toList_mapIdx]
 rw[List.mapIdx_eq_zipIdx_map]
 simp
 have e:(UL∘fun x:Nat×Nat=>(QZ x.1).toArray)=QZ∘Prod.fst:=by funext x;simp
 rw[e,<- Ng,List.zipIdx_map_fst]
theorem up_ok:∀ c:Fin 127,32<=c.1->c.1≠37->(QZ c.1).length=1/\isTx (QZ c.1)=true:=by decide +kernel
theorem up_tx:∀{l:List Nat},isTx l=true->isTx (l.flatMap QZ)=true/\(l.flatMap QZ).length=l.length
 | [],_=>⟨rfl,rfl⟩
 | c::r,h=>by
  have h:(isTx [c]&&isTx r)=true:=by rw[<- YS];exact h
  rw[MQ] at h
  obtain⟨h1,h2⟩:=up_tx h.2
  have hc:(32<=c/\c<=126)/\c≠37:=by
   have:=h.1
   unfold isTx at this
   simpa using this
  obtain⟨u1,u2⟩:=up_ok ⟨c,by omega⟩ hc.1.1 hc.2
  simp only at u1 u2
  rw[Ss]
  exact⟨by rw[YS,u2,h1];rfl,by rw[Mn,u1,h2,Mv];omega⟩
noncomputable def tot (ws:List (List Nat)):Nat:=(ws.map fun x=>x.length+1).sum
theorem Ur (a b:List (List Nat)):tot (a++b)=tot a+tot b:=by unfold tot;rw[Mr,List.sum_append]
theorem Y1 (ws:List (List Nat))(k:Nat):tot (ws.take k)+tot (ws.drop k)=tot ws:=by rw[<- Ur,Zg]
theorem Y2 (c:Nat):∀ l,tot (spl c l)=l.length+1
 | []=>rfl
 | x::r=>by
  have ih:=Y2 c r
  show tot (if x=c then []::spl c r else match spl c r with | []=>[[x]] | p::ps=>(x::p)::ps)=_
  split
  ·show (0+1)+tot (spl c r)=_
   rw[ih,Mv];omega
  ·split
   ·rename_i h
    exact absurd h (Qj c r)
   ·rename_i p ps h
    rw[h] at ih
    have e1:tot (p::ps)=(p.length+1)+tot ps:=rfl
    have e2:tot ((x::p)::ps)=((x::p).length+1)+tot ps:=rfl
    rw[e2,Mv,Mv]
    omega
theorem Y3 (ws:List (List Nat))(h:∀ x∈ws,isTx x=true):isTx (M5 32 ws)=true/\(M5 32 ws).length<=tot ws:=by
 match ws,h with
 | [],_=>exact⟨rfl,ML _⟩
 | [p],h=>exact⟨h p MV,by show p.length<=p.length+1+0;omega⟩
 | p::v::r,h =>
  obtain⟨h1,h2⟩:=Y3 (v::r) fun x hx=>h x (MP _ hx)
  have e:M5 32 (p::v::r)=p++32::M5 32 (v::r):=rfl
  have e2:tot (p::v::r)=(p.length+1)+tot (v::r):=rfl
  refine⟨?_,?_⟩
  ·rw[e,YS,h p MV,OM]
   show isTx ([32]++M5 32 (v::r))=true
   rw[YS,h1];rfl
  ·rw[e,e2,Mn,Mv];omega
theorem iG (h:isTx l=true) (hx:∀ c∈x,c∈l):isTx x=true:=On.mpr fun c hc=>On.mp h c (hx c hc)
noncomputable def wOD1:List (List Nat):=[tTON,tPAT,tTOL,tBRK,tPTS,tPAR,tPRS,[80,114,101,115,115],[116,111,110,103,117,101,115],[],[97],[97,97],[122,122]]
noncomputable def wOD2:List (List Nat):=[[97,98,99,100,101,102,103,104,105],[65],[97,49],[49],[48,50],[45,49],[50,48,49],[64,97],[64,122,122],[97,98],[46]]
theorem cOD1:[Dt.str "tongue",Dt.str "pattern",Dt.str "told",Dt.str "break",Dt.str "patterns",Dt.str "pare",Dt.str "press",Dt.str "Press",Dt.str "tongues",Dt.str "",Dt.str "a",Dt.str "aa",Dt.str "zz"]=wOD1.map fun l=>Dt.str (S l):=by rfl
theorem cOD2:[Dt.str "abcdefghi",Dt.str "A",Dt.str "a1",Dt.str "1",Dt.str "02",Dt.str "-1",Dt.str "201",Dt.str "@a",Dt.str "@zz",Dt.str "ab",Dt.str "."]=wOD2.map fun l=>Dt.str (S l):=by rfl
def Y4:Sp:=fun vs H Q _=>∃(p:Ac) (n:Nat) (l:List Nat),vs=[.ref p,.str (S l)]/\Tk2 l 17/\FeedAt H p n/\n+10 < Rr/\∀(v:V) (H':Hp),RowV H' v->FeedAt H' p (n+10)->Kept p H H'->Q v H'
theorem UY (h:Tk2 l m) (hm:m<=40):RowV H (.str (S l)):=.inl ⟨l,rfl,MR h.2 hm,h.1⟩
theorem t_two:Mg "  ab"=S [32,32,97,98]:=by decide +kernel
theorem Qq {k:Nat} (h:k<=ws.length):cutV (LW ws) none (some (k:Int))=LW (ws.take k):=by
 rw[Ru,LW,Rw,RI ws k h];rfl
theorem RW {k:Nat} (h:k<=ws.length):cutV (LW ws) (some (k:Int)) none=LW (ws.drop k):=by
 rw[Ru,LW,Rw,WB ws k h];rfl
theorem iH (T:Txt mg tk)(F:Fun K "_law_spoilt" "_law_spoilt" s_law_spoilt f fd)(Cb:Dn P w K mg base "_law_next" 1 ["_law_feed_here","_law_many"] Rs):FnOk P w K mg base CX0 2 f fd ["_law_feed_here","_law_row"] Y4:=by
 refine F.okk ["_law_feed_here","_law_row","_law_words","_law_odd","_law_word","_law_at","_law_way"] ?_
 rintro _ _ _ s H _ Q _ hr ⟨p,n,l,rfl,hl,hf,hn,q⟩ nd
 have LB:=hl.2
 have Ff:=UX 32 l
 have Jj:=Y2 32 l
 have Fc:1<=(spl 32 l).length:=by
  have:=Qj 32 l
  cases h:spl 32 l with
  | nil=>exact absurd h this
  | cons _ _=>simp
 have DS:((spl 32 l).map S).map V.str=LW (spl 32 l):=by rw[Ng];rfl
 have Fx:∀ x∈spl 32 l,isTx x=true:=fun x hx=>iG hl.1 (Uh hx).2
 refine⟨_,(LZ (pst 2 nd (MO (K:=K) NX Vb Vc XA (pv 1) (pa1 LU)))
  (LZ (pst 3 nd (RE [.str "tongue",.str "pattern",.str "told",.str "break",.str "patterns",.str "pare",.str "press",.str "Press",.str "tongues",.str "",.str "a",.str "aa",.str "zz"]))
  (LZ (pst 3 nd (L7 Md (pv 3) (RE [.str "abcdefghi",.str "A",.str "a1",.str "1",.str "02",.str "-1",.str "201",.str "@a",.str "@zz",.str "ab",.str "."])))
  (LZ (pst 4 nd (pix K (pv 3) (Mc Cb hr.L5 rfl (LS (pv 0) (pa1 LV)))))
  (LZ (pst 5 nd (Mc Cb hr.L5 rfl (LS (pv 0) (pa1 (pcb (MU (K:=K)) T.z_len (pa1 (pv 2)))))))
  (LZ (pst 6 nd (Mc Cb hr.L5 rfl (LS (pv 0) (pa1 LV))))
  (LZ (Ma (Mb (o_eq hr.units) (pv 6) LV (L9 _))
   (LY (L6 (MO (K:=K) NX Sz SA S4 LU (pa1 (L7 Md (MM (MN (K:=K)) (pv 2) MX (MF (pv 5))) (MM (MN (K:=K)) (pv 2) (MF (L7 Md (pv 5) LV)) MX))))))
   Mh)
  (LZ (Ma (Mb (o_eq hr.units) (pv 6) LV (L9 _))
   (LY (L6 (MO (K:=K) NX Sz SA S4 LU (pa1 (L7 Md (MM (MN (K:=K)) (pv 2) MX (MF (L7 Md (pv 5) LV))) (MM (MN (K:=K)) (pv 2) (MF (pv 5)) MX))))))
   Mh)
  (LZ (Ma (Mb (o_eq hr.units) (pv 6) LV (L9 _))
   (LY (L6 (MO (K:=K) NX Sz SA S4 LU (pa1 (L7 Md (L7 Md (MM (MN (K:=K)) (pv 2) MX (MF (pv 5))) (Mp (pa1 (pv 4)))) (MM (MN (K:=K)) (pv 2) (MF (pv 5)) MX))))))
   Mh)
  (LZ (Ma (Mb (o_eq hr.units) (pv 6) LV (L9 _))
   (LY (L6 (pix K (Mp (LS (L7 Md (pv 1) LU) (LS (L7 Md LU (pv 1)) (LS (S7 (K:=K) NX PySem.F.slot_str_upper PySem.F.type_str_upper fB (pv 1)) (pa1 (L7 Md (pv 1) LU)))))) (Mc Cb hr.L5 rfl (LS (pv 0) (pa1 LV))))))
   Mh)
  (LZ (Ma (Mb (o_eq hr.units) (pv 6) LV (L9 _))
   (LY (L6 (pix K (Mp (LS Ny (LS LV (LS Nx (LS (Mp (pa1 (pv 1))) (LS (Sa (pa1 (pv 1))) (pa1 LU))))))) (Mc Cb hr.L5 rfl (LS (pv 0) (pa1 LV))))))
   Mh)
  (LY (L6 (MO (K:=K) NX Sz SA S4 LU (pa1 (L7 Md (L7 Md (MM (MN (K:=K)) (pv 2) MX (MF (pv 5))) (Mp (pa1 (pv 4)))) (MM (MN (K:=K)) (pv 2) (MF (L7 Md (pv 5) LV)) MX))))))))))))))))),?_⟩
 walk_at "s0"
 rw[cOD1,cOD2,UW,t_two,Ox]
 ext
 refine Xy rfl (szn (by rw[Me];omega)) (szn (by rw[QQ,L8];omega)) fun wa EZ=>?_
 rw[QQ,DS]
 have Jk:wa≠p:=fun z=>by obtain⟨o,e⟩:=hf.some;rw[z,e] at EZ;cases EZ
 have k1:=(Kept.refl p H).new EZ (.lst (LW (spl 32 l)))
 have f1:=hf.new (o:=.lst (LW (spl 32 l))) EZ
 have ewa:=LX (H:=H) (a:=wa) (o:=.lst (LW (spl 32 l)))
 generalize upd H wa (.lst (LW (spl 32 l)))=H1 at k1 f1 ewa ⊢
 generalize spl 32 l=ws at Ff Jj Fc Fx ewa
 clear DS
 ext
 intro ov1 H2 Hx s2
 simp only[Is] at Hx
 obtain⟨b1,vs1,rfl,eb1,Kh⟩:=Hx
 obtain rfl:=Qp Kh
 have k2:=k1.same s2
 have f2:=f1.same s2
 have ew2:=s2 _ _ ewa
 ext
 intro ov2 H3 Hy s3
 simp only[Is] at Hy
 obtain⟨b2,vs2,rfl,eb2,Ki⟩:=Hy
 obtain rfl:=Qp Ki
 have k3:=k2.same s3
 have f3:=f2.same s3
 have ew3:=s3 _ _ ew2
 have eb13:=s3 _ _ eb1
 ext
 refine QK eb13 eb2 (szn (show 24<=1000000 by decide)) fun b3 Ii=>?_
 have e3:(upd H3 b3 (.lst (LW wOD1++LW wOD2))) b3=some (.lst (LW (wOD1++wOD2))):=LX
 have Jc:b3≠p:=fun z=>by obtain⟨o,e⟩:=f3.some;rw[z,e] at Ii;cases Ii
 have s4:=L_ Ii (.lst (LW wOD1++LW wOD2))
 have k4:=k3.same s4
 have f4:=f3.same s4
 have ew4:=s4 _ _ ew3
 generalize upd H3 b3 (.lst (LW wOD1++LW wOD2))=H4 at e3 s4 k4 f4 ew4 ⊢
 clear k1 f1 ewa k2 f2 ew2 k3 f3 ew3 eb13 eb1 eb2 Kh Ki s2 s3 s4 Ii
 ext
 refine⟨p,24,n,rfl,f4,by omega,by decide,by decide,fun d1 H5 d10 d11 f5 o5=>?_⟩
 obtain⟨x1,t1,at1⟩:=Sl (ws:=wOD1++wOD2) (m:=9) (by decide) d10 d11
 have k5:=k4.off o5
 have ew5:=(o5 _ Jk).trans ew4
 refine N5 (v:=.str (S x1)) (M9 ((o5 _ Jc).trans e3)) at1 ?_
 have Ia:=Nn ws
 ext
 rw[Ia]
 refine⟨p,(ws.length:Int),n+1,rfl,f5,by omega,by omega,by omega,fun d2 H6 d20 d21 f6 o6=>?_⟩
 have k6:=k5.off o6
 have ew6:=(o6 _ Jk).trans ew5
 obtain⟨at_,rfl⟩:∃ k:Nat,d2=(k:Int):=⟨d2.toNat,by omega⟩
 have Dv:at_ < ws.length:=by omega
 ext
 refine⟨p,7,n+1+1,rfl,f6,by omega,by decide,by decide,fun d3 H7 d30 d31 f7 o7=>?_⟩
 have k7:=k6.off o7
 have ew7:=(o7 _ Jk).trans ew6
 have fin:∀(v:V) (H':Hp),RowV H' v->Same H7 H'->Q v H':=fun v H' hv s=>q v H' hv ((f7.same s).mono (by omega)) (k7.same s)
 have c1:=Y1 ws at_
 have c2:=Y1 ws (at_+1)
 have c3:tot (ws.drop (at_+1))<=tot (ws.drop at_):=by
  rw[QV Dv]
  show _<=(ws[at_].length+1)+tot (ws.drop (at_+1))
  omega
 have fj:∀(zs:List (List Nat)) (a:Ac) (H':Hp),(∀ x∈zs,isTx x=true)->tot zs<=40->zs.length<=100->H' a=some (.lst (LW zs))->Same H7 H'->∀ R:VK,(∀ v,RowV H' v->R v H')->Rc (.str (S [32])) [.ref a] H' R:=fun zs a H' h1 h2 h3 e s R hR=>by
  obtain⟨j1,j2⟩:=Y3 zs h1
  have e2:LW zs=(zs.map S).map V.str:=by rw[Ng];rfl
  rw[e2] at e
  have LC:((zs.map S).map (·.length)).sum<=tot zs:=by
   clear e e2 h1 j1 j2 h2 h3
   unfold tot
   induction zs with
   | nil=>exact L' _
   | cons z zs ih=>simp only[Mu,Zo,Me];omega
  refine Rl (QH e) ?_ ?_
  ·rw[L8,Me,M6];omega
  ·rw[Yv]
   exact hR _ (UY (m:=40) ⟨j1,by omega⟩ (L' _))
 have l1:=t1.2
 ext
 refine iteD (fun w0=>?_) (fun w0=>?_)
 ·clear w0
  ext
  refine Py (SqL.of ew7) fun a1 DK=>?_
  rw[Qq (by omega)]
  obtain⟨H8,Fy,s8,ea1⟩:=Ms DK (.lst (LW (ws.take (at_))))
  rw[Fy]
  ext
  rw[show (at_:Int)+1=((at_+1:Nat):Int) by omega]
  refine Py (SqL.of (s8 _ _ ew7)) fun a2 DG=>?_
  rw[RW (by omega)]
  obtain⟨H11,Ep,s11,ea2⟩:=Ms DG (.lst (LW (ws.drop (at_+1))))
  rw[Ep]
  ext
  refine QK (s11 _ _ ea1) ea2 (szn (by rw[Nn,Nn];simp only[Mn,MI,NN,M6];omega)) fun a5 Ey=>?_
  have DO:LW (ws.take (at_))++LW (ws.drop (at_+1))=LW (ws.take (at_)++ws.drop (at_+1)):=by unfold LW;rw[Mr (l₁:=(ws.take (at_)))]
  rw[DO]
  obtain⟨H12,DX,s12,ea5⟩:=Ms Ey (.lst (LW (ws.take (at_)++ws.drop (at_+1))))
  rw[DX]
  have t12:=(s8.trans s11).trans s12
  ext
  refine fj (ws.take (at_)++ws.drop (at_+1)) a5 H12 (fun x hx=>?_) (by rw[Ur];omega) (by simp only[Mn,MI,NN,M6];omega) ea5 t12 _ fun v hv=>fin v H12 hv t12
  rcases Nv.mp hx with hx | hx
  ·exact Fx x (Zj hx)
  ·exact Fx x (So hx)
 ext
 refine iteD (fun w1=>?_) (fun w1=>?_)
 ·clear w1
  ext
  rw[show (at_:Int)+1=((at_+1:Nat):Int) by omega]
  refine Py (SqL.of ew7) fun a1 DK=>?_
  rw[Qq (by omega)]
  obtain⟨H8,Fy,s8,ea1⟩:=Ms DK (.lst (LW (ws.take (at_+1))))
  rw[Fy]
  ext
  refine Py (SqL.of (s8 _ _ ew7)) fun a2 DG=>?_
  rw[RW (by omega)]
  obtain⟨H11,Ep,s11,ea2⟩:=Ms DG (.lst (LW (ws.drop (at_))))
  rw[Ep]
  ext
  refine QK (s11 _ _ ea1) ea2 (szn (by rw[Nn,Nn];simp only[Mn,MI,NN,M6];omega)) fun a5 Ey=>?_
  have DO:LW (ws.take (at_+1))++LW (ws.drop (at_))=LW (ws.take (at_+1)++ws.drop (at_)):=by unfold LW;rw[Mr (l₁:=(ws.take (at_+1)))]
  rw[DO]
  obtain⟨H12,DX,s12,ea5⟩:=Ms Ey (.lst (LW (ws.take (at_+1)++ws.drop (at_))))
  rw[DX]
  have t12:=(s8.trans s11).trans s12
  ext
  refine fj (ws.take (at_+1)++ws.drop (at_)) a5 H12 (fun x hx=>?_) (by rw[Ur];omega) (by simp only[Mn,MI,NN,M6];omega) ea5 t12 _ fun v hv=>fin v H12 hv t12
  rcases Nv.mp hx with hx | hx
  ·exact Fx x (Zj hx)
  ·exact Fx x (So hx)
 ext
 refine iteD (fun w2=>?_) (fun w2=>?_)
 ·clear w2
  ext
  refine Py (SqL.of ew7) fun a1 DK=>?_
  rw[Qq (by omega)]
  obtain⟨H8,Fy,s8,ea1⟩:=Ms DK (.lst (LW (ws.take (at_))))
  rw[Fy]
  ext
  intro a3 HW
  have s9:=L_ HW (.lst (LW [x1]))
  have ea3:(upd H8 a3 (.lst [.str (S x1)])) a3=some (.lst (LW [x1])):=LX
  have s9:Same H8 (upd H8 a3 (.lst [.str (S x1)])):=s9
  generalize upd H8 a3 (.lst [.str (S x1)])=H9 at s9 ea3 ⊢
  ext
  refine QK (s9 _ _ ea1) ea3 (szn (by rw[Nn,Nn,MI,M6];omega)) fun a4 GJ=>?_
  have Gs:LW (ws.take (at_))++LW [x1]=LW (ws.take (at_)++[x1]):=by unfold LW;rw[Mr]
  rw[Gs]
  obtain⟨H10,E5,s10,ea4⟩:=Ms GJ (.lst (LW (ws.take (at_)++[x1])))
  rw[E5]
  have t10:=s8.trans (s9.trans s10)
  ext
  refine Py (SqL.of (t10 _ _ ew7)) fun a2 DG=>?_
  rw[RW (by omega)]
  obtain⟨H11,Ep,s11,ea2⟩:=Ms DG (.lst (LW (ws.drop (at_))))
  rw[Ep]
  ext
  refine QK (s11 _ _ ea4) ea2 (szn (by rw[Nn,Nn];simp only[Mn,MI,NN,M6];omega)) fun a5 Ey=>?_
  have DO:LW ((ws.take (at_)++[x1]))++LW (ws.drop (at_))=LW ((ws.take (at_)++[x1])++ws.drop (at_)):=by unfold LW;rw[Mr (l₁:=(ws.take (at_)++[x1]))]
  rw[DO]
  obtain⟨H12,DX,s12,ea5⟩:=Ms Ey (.lst (LW ((ws.take (at_)++[x1])++ws.drop (at_))))
  rw[DX]
  have t12:=(t10.trans s11).trans s12
  ext
  refine fj ((ws.take (at_)++[x1])++ws.drop (at_)) a5 H12 (fun x hx=>?_) (by rw[Ur,Ur,show tot [x1]=x1.length+1+0 from rfl];omega) (by simp only[Mn,MI,NN,M6];omega) ea5 t12 _ fun v hv=>fin v H12 hv t12
  rcases Nv.mp hx with hx | hx
  ·rcases Nv.mp hx with hx | hx
   ·exact Fx x (Zj hx)
   ·rw[OJ.mp hx];exact t1.1
  ·exact Fx x (So hx)
 ext
 refine iteD (fun w3=>?_) (fun w3=>?_)
 ·clear w3
  have b1:Tk2 [32] 1:=by decide
  have b2:Tk2 [32,32,97,98] 4:=by decide
  have Jl:=up_tx hl.1
  ext
  refine i_upper (by rw[Y0,Me,Jl.2];exact B6 (by have:Ae=16777216:=rfl;omega)) ?_
  rw[Y0]
  have Ie:=hl.app b1 (L' _)
  have GD:=b1.app hl (L' _)
  have Ig:Tk2 (l.flatMap QZ) 17:=⟨Jl.1,by rw[Jl.2];exact hl.2⟩
  have Ih:=hl.app b2 (L' _)
  ext
  generalize l.flatMap QZ=y3 at Ig
  generalize l++[32]=y1 at Ie
  generalize [32]++l=y2 at GD
  generalize l++[32,32,97,98]=y4 at Ih
  intro a1 DK
  have Hq:a1≠p:=fun z=>by obtain⟨o,e⟩:=f7.some;rw[z,e] at DK;cases DK
  have ea1:(upd H7 a1 (.lst [.str (S y1),.str (S y2),.str (S y3),.str (S y4)])) a1=some (.lst (LW [y1,y2,y3,y4])):=LX
  have k8:=k7.new DK (.lst [.str (S y1),.str (S y2),.str (S y3),.str (S y4)])
  have f8:=f7.new (o:=.lst [.str (S y1),.str (S y2),.str (S y3),.str (S y4)]) DK
  generalize upd H7 a1 (.lst [.str (S y1),.str (S y2),.str (S y3),.str (S y4)])=H8 at ea1 k8 f8 ⊢
  ext
  refine⟨p,4,n+1+1+1,rfl,f8,by omega,by decide,by decide,fun d4 H9 d40 d41 f9 o9=>?_⟩
  obtain⟨x4,t4,at4⟩:=Sl (ws:=[y1,y2,y3,y4]) (m:=21) (fun x hx=>by
   simp only[Mo,Oc,or_false] at hx
   rcases hx with rfl | rfl | rfl | rfl
   ·exact Ie.up (by decide)
   ·exact GD.up (by decide)
   ·exact Ig.up (by decide)
   ·exact Ih.up (by decide)) d40 d41
  refine N5 (v:=.str (S x4)) (M9 ((o9 _ Hq).trans ea1)) at4 ?_
  ext
  exact q _ H9 (UY t4 (by decide)) (f9.mono (by omega)) (k8.off o9)
 ext
 refine iteD (fun w4=>?_) (fun w4=>?_)
 ·clear w4
  ext
  intro pL Kj
  obtain⟨H8,Fy,s8,epL⟩:=Ms Kj (.lst [.str (S l)])
  rw[Fy]
  ext
  intro pT LD
  obtain⟨H9,LF,s9,epT⟩:=Ms LD (.tup [.str (S l)])
  rw[LF]
  have epL9:=s9 _ _ epL
  ext
  intro a1 DK
  obtain⟨H10,E5,s10,ea1⟩:=Ms DK (.lst [.non,.int 7,.bl true,.ref pL,.ref pT,.str (S [])])
  rw[E5]
  have epL10:=s10 _ _ epL9
  have epT10:=s10 _ _ epT
  have s710:=(s8.trans s9).trans s10
  have f10:=f7.same s710
  have nl:∀ a xs,H10 a=some (.lst xs)->H7 a=none->a≠p:=fun a xs _ hh z=>by obtain⟨o,e⟩:=f7.some;rw[z,e] at hh;cases hh
  have np:a1≠p:=nl _ _ ea1 ((s8.trans s9).free DK)
  have npL:pL≠p:=nl _ _ epL10 Kj
  have npT:pT≠p:=fun z=>by obtain⟨_,_,_,e,_⟩:=f10;rw[z,e] at epT10;cases epT10
  ext
  refine⟨p,6,n+1+1+1,rfl,f10,by omega,by decide,by decide,fun d4 H11 d40 d41 f11 o11=>?_⟩
  have kk:Kept p H H11:=(k7.same s710).off o11
  have ff:=f11.mono (m:=n+10) (by omega)
  obtain⟨v,hv,hR⟩:∃ v,atI [V.non,.int 7,.bl true,.ref pL,.ref pT,.str (S [])] d4=some v/\RowV H11 v:=by
   rcases (show d4=0∨d4=1∨d4=2∨d4=3∨d4=4∨d4=5 by omega) with rfl | rfl | rfl | rfl | rfl | rfl
   ·exact⟨_,rfl,.inr (.inl rfl)⟩
   ·exact⟨_,rfl,.inr (.inr (.inl ⟨_,rfl⟩))⟩
   ·exact⟨_,rfl,.inr (.inr (.inr (.inl ⟨_,rfl⟩)))⟩
   ·exact⟨_,rfl,.inr (.inr (.inr (.inr ⟨_,_,rfl,.inl ((o11 _ npL).trans epL10)⟩)))⟩
   ·exact⟨_,rfl,.inr (.inr (.inr (.inr ⟨_,_,rfl,.inr ((o11 _ npT).trans epT10)⟩)))⟩
   ·exact⟨_,rfl,.inl ⟨[],rfl,by decide,rfl⟩⟩
  refine N5 (M9 ((o11 _ np).trans ea1)) hv ?_
  ext
  exact q v H11 hR ff kk
 clear w4
 ext
 refine Py (SqL.of ew7) fun a1 DK=>?_
 rw[Qq (by omega)]
 obtain⟨H8,Fy,s8,ea1⟩:=Ms DK (.lst (LW (ws.take (at_))))
 rw[Fy]
 ext
 intro a3 HW
 have s9:=L_ HW (.lst (LW [x1]))
 have ea3:(upd H8 a3 (.lst [.str (S x1)])) a3=some (.lst (LW [x1])):=LX
 have s9:Same H8 (upd H8 a3 (.lst [.str (S x1)])):=s9
 generalize upd H8 a3 (.lst [.str (S x1)])=H9 at s9 ea3 ⊢
 ext
 refine QK (s9 _ _ ea1) ea3 (szn (by rw[Nn,Nn,MI,M6];omega)) fun a4 GJ=>?_
 have Gs:LW (ws.take (at_))++LW [x1]=LW (ws.take (at_)++[x1]):=by unfold LW;rw[Mr]
 rw[Gs]
 obtain⟨H10,E5,s10,ea4⟩:=Ms GJ (.lst (LW (ws.take (at_)++[x1])))
 rw[E5]
 have t10:=s8.trans (s9.trans s10)
 ext
 rw[show (at_:Int)+1=((at_+1:Nat):Int) by omega]
 refine Py (SqL.of (t10 _ _ ew7)) fun a2 DG=>?_
 rw[RW (by omega)]
 obtain⟨H11,Ep,s11,ea2⟩:=Ms DG (.lst (LW (ws.drop (at_+1))))
 rw[Ep]
 ext
 refine QK (s11 _ _ ea4) ea2 (szn (by rw[Nn,Nn];simp only[Mn,MI,NN,M6];omega)) fun a5 Ey=>?_
 have DO:LW ((ws.take (at_)++[x1]))++LW (ws.drop (at_+1))=LW ((ws.take (at_)++[x1])++ws.drop (at_+1)):=by unfold LW;rw[Mr (l₁:=(ws.take (at_)++[x1]))]
 rw[DO]
 obtain⟨H12,DX,s12,ea5⟩:=Ms Ey (.lst (LW ((ws.take (at_)++[x1])++ws.drop (at_+1))))
 rw[DX]
 have t12:=(t10.trans s11).trans s12
 ext
 refine fj ((ws.take (at_)++[x1])++ws.drop (at_+1)) a5 H12 (fun x hx=>?_) (by rw[Ur,Ur,show tot [x1]=x1.length+1+0 from rfl];omega) (by simp only[Mn,MI,NN,M6];omega) ea5 t12 _ fun v hv=>fin v H12 hv t12
 rcases Nv.mp hx with hx | hx
 ·rcases Nv.mp hx with hx | hx
  ·exact Fx x (Zj hx)
  ·rw[OJ.mp hx];exact t1.1
 ·exact Fx x (So hx)
noncomputable abbrev s_law_look:Av:=top 89
def AtL (H:Hp)(r:Ac):List Ac->List (List Nat)->Prop
 | [],[]=>True
 | a::as,t::ts=>(a≠r/\H a=some (.lst [.str (S tTOL),.str (S t)]))/\AtL H r as ts
 | _,_=>False
theorem AtL.mono {H H':Hp}{r:Ac}(k:∀ b o,b≠r->H b=some o->H' b=some o):∀{as:List Ac}{ts:List (List Nat)},AtL H r as ts->AtL H' r as ts
 | [],[],_=>trivial
 | [],_::_,h=>h.elim
 | _::_,[],h=>h.elim
 | _::_,_::_,h=>⟨⟨h.1.1,k _ _ h.1.1 h.1.2⟩,AtL.mono k h.2⟩
theorem AtL.snoc {H:Hp}{r a:Ac}{t:List Nat}(ha:a≠r)(e:H a=some (.lst [.str (S tTOL),.str (S t)])):∀{as:List Ac}{ts:List (List Nat)},AtL H r as ts->AtL H r (as++[a]) (ts++[t])
 | [],[],_=>⟨⟨ha,e⟩,trivial⟩
 | [],_::_,h=>h.elim
 | _::_,[],h=>h.elim
 | _::_,_::_,h=>⟨h.1,AtL.snoc ha e h.2⟩
theorem AtL.len {H:Hp}{r:Ac}:∀{as:List Ac}{ts:List (List Nat)},AtL H r as ts->as.length=ts.length
 | [],[],_=>rfl
 | [],_::_,h=>h.elim
 | _::_,[],h=>h.elim
 | _::_,_::_,h=>by rw[Mv,Mv,AtL.len h.2]
theorem RX (h:H a=some (.lst ys)) (hi:L2.IsL H ys ds):Is H (.ref a) (.lst ds):=by
 simp only[Is];exact⟨a,ys,rfl,h,hi⟩
noncomputable def Us (t:List Nat):Dt:=.lst [.str (S tTOL),.str (S t)]
theorem AtL.is {H:Hp}{r:Ac}:∀{as:List Ac}{ts:List (List Nat)},AtL H r as ts->L2.IsL H (as.map V.ref) (ts.map Us)
 | [],[],_=>by simp only[Oe,L2.IsL]
 | [],_::_,h=>h.elim
 | _::_,[],h=>h.elim
 | a::_,t::_,h=>by
  simp only[Mu,L2.IsL]
  exact⟨RX h.1.2 (by simp[L2.IsL,Is]),AtL.is h.2⟩
noncomputable def wLOK:List (List Nat):=[[97],[97,98],[97,98,97,98],[98,97,97,98],[97,97,98,98,97]]
theorem cLOK:[V.str "a",V.str "ab",V.str "abab",V.str "baab",V.str "aabba"]=LW wLOK:=by decide +kernel
noncomputable def lookT (ms:List (List Nat×Bp)):List (List Nat):=ms.flatMap fun m=>ptsF m.2::wLOK.map fun x=>brkF m.2 x
structure NmG (ms:List (List Nat×Bp)):Prop where
 nm:∀ m∈ms,isNm m.1=true
 nd:(ms.map (·.1)).Nodup
theorem RY (h:isNm z=true):(∀ c∈z,MK c=true)/\z.length<=8/\1<=z.length:=by
 unfold isNm Ni at h
 simp only[MQ,decide_eq_true_eq,On] at h
 exact⟨h.1.2,h.2,by omega⟩
theorem low_tx (h:∀ c∈z,MK c=true):isTx z=true:=On.mpr fun c hc=>by
 have:97<=c/\c<=122:=of_decide_eq_true (h c hc)
 simp only[MQ,decide_eq_true_eq]
 omega
theorem Y5 {z:List Nat}(h:∀ c∈z,MK c=true):32∉z:=fun hc=>absurd (h 32 hc) (by decide)
theorem NmG.look (h:(ms.map (·.1)).Nodup) (hm:m∈ms):Mz ms m.1=some m.2:=by
 unfold Mz
 induction ms with
 | nil=>cases hm
 | cons x ms ih =>
  rw[Mu,U7] at h
  rw[Oo]
  rcases Mo.mp hm with rfl | hm
  ·rw[B7 rfl];rfl
  ·rw[B6 fun e=>h.1 (by rw[e];exact Nw.mpr ⟨m,hm,rfl⟩)]
   exact ih h.2 hm
theorem NmG.no (h:NmG ms):[]∉ms.map (·.1):=fun hc=>by
 obtain⟨m,hm,e⟩:=Nw.mp hc
 have:=(RY (h.nm m hm)).2.2
 rw[e] at this;cases this
theorem row_two (h:isNm z=true):spl 32 (tPTS++[32]++z)=[tPTS,z]/\Mt [tPTS,z]=true:=by
 refine⟨?_,?_⟩
 ·rw[Pq,Z_,UV z (by decide),RF (Y5 (RY h).1)]
 ·unfold Mt
  show (hasC [tPTS,z]&&(if tPTS=tPRS then _ else (if tPTS=tTON then _ else true)&&isNm z))=true
  rw[B8 (by decide),B8 (by decide),h];rfl
theorem iI (h:isNm z=true) (hx:32∉x):spl 32 (tBRK++[32]++z++[32]++x)=[tBRK,z,x]/\Mt [tBRK,z,x]=true:=by
 refine⟨?_,?_⟩
 ·rw[Pq,Pq,Pq,Z_,UV _ (by decide),Z_,UV x (Y5 (RY h).1),RF hx]
 ·unfold Mt
  show (hasC [tBRK,z,x]&&(if tBRK=tPRS then _ else (if tBRK=tTON then _ else true)&&isNm z))=true
  rw[B8 (by decide),B8 (by decide),h];rfl
def Y6 (CD C CT:Ac):Sp:=fun vs H Q _=>∃(d tp td na:Ac) (B':List (Key×V)) (ms:List (List Nat×Bp)) (D:List Ac) (n:Nat),vs=[.ref d,.ref na]/\DkS CD C CT H d tp td B' ms D n/\H na=some (.lst (LW (ms.map (·.1))))/\NmG ms /\
 ∀(r:Ac) (H':Hp),H r=none->Is H' (.ref r) (.lst ((lookT ms).map Us))->Same H H'->Q (.ref r) H'
theorem due_pts (h:Mz ms z=some b):Nd ms [tPTS,z]=.told:=by
 show (if tPTS=tPRS then _ else if tPTS=tTON then _ else if (Mz ms z).isSome=false then _ else if tPTS=tPAT then _ else if tPTS=tTOL then _ else if tPTS=tBRK then _ else Du.told)=Du.told
 rw[B8 (by decide),B8 (by decide),h,B8 (by simp),B8 (by decide),B8 (by decide),B8 (by decide)]
theorem due_brk (h:Mz ms z=some b) (hx:wbad x=none):Nd ms [tBRK,z,x]=.told:=by
 show (if tBRK=tPRS then _ else if tBRK=tTON then _ else if (Mz ms z).isSome=false then _ else if tBRK=tPAT then _ else if tBRK=tTOL then _ else if tBRK=tBRK then (match wbad x with | some k=>Du.word k | none=>Du.told) else Du.told)=Du.told
 rw[B8 (by decide),B8 (by decide),h,B8 (by simp),B8 (by decide),B8 (by decide),B9 rfl,hx]
theorem ask_pts (h:Mz ms z=some b) (q:ans tTOL (.str (S (ptsF b))) H Q):RQ C D td ms n [tPTS,z] H Q :=
 RU (A:=fun k y=>ans k y H Q) (fun e=>absurd (due_pts h) e) (fun _=>by show tPTS≠tPAR;decide) (fun _ e=>absurd (show tPTS=tPRS from e) (by decide))
  (fun _ e=>by rcases e with e | e | e <;> exact absurd (show tPTS=_ from e) (by decide)) fun _ t ht=>by
   rcases ht with e | ⟨b',hb,⟨e,_⟩ | ⟨_,rfl⟩⟩
   ·exact absurd (show tPTS=tPRS from e) (by decide)
   ·exact absurd (show tPTS=tBRK from e) (by decide)
   ·have hb:Mz ms z=some b':=hb
    rw[h] at hb;cases hb;exact q
theorem ask_brk (h:Mz ms z=some b) (hx:wbad x=none) (q:ans tTOL (.str (S (brkF b x))) H Q):RQ C D td ms n [tBRK,z,x] H Q :=
 RU (A:=fun k y=>ans k y H Q) (fun e=>absurd (due_brk h hx) e) (fun _=>by show tBRK≠tPAR;decide) (fun _ e=>absurd (show tBRK=tPRS from e) (by decide))
  (fun _ e=>by rcases e with e | e | e <;> exact absurd (show tBRK=_ from e) (by decide)) fun _ t ht=>by
   rcases ht with e | ⟨b',hb,⟨_,rfl⟩ | ⟨e,_⟩⟩
   ·exact absurd (show tBRK=tPRS from e) (by decide)
   ·have hb:Mz ms z=some b':=hb
    rw[h] at hb;cases hb;exact q
   ·exact absurd (show tBRK=tPTS from e) (by decide)
theorem RZ (ha:Tk2 a m) (hb:Tk2 b n) (hk:m+n<=1000) (h:Q (.str (S (a++b))) H):fAdd (.str (S a)) (.str (S b)) H Q :=
 QM (by have:=ha.2;have:=hb.2;omega) h
theorem wl_ok:∀ x∈wLOK,32∉x/\wbad x=none/\Tk2 x 5:=by decide
theorem iJ {H:Hp}{a b:Ac}{o:HO}(h:H a=none)(e:H b=some o):a≠b:=fun z=>by rw[z,e] at h;cases h
theorem iK (T:Txt mg tk)(F:Fun K "_law_look" "_law_look" s_law_look f fd)(Cm:Dn P w K mg base "_law_said" 9 ["_law_desk","_law_row"] (RR cO3 cO cO2)):FnOk P w K mg base CX0 10 f fd ["_law_desk","_law_names"] (Y6 cO3 cO cO2):=by
 refine F.okk ["_law_desk","_law_names","_law_told","_law_name","_law_word"] ?_
 rintro _ _ _ s H _ _ _ hr ⟨d,tp,td,na,B',ms,D,n,rfl,hK,Dz,hg,q⟩ nd
 have D_:=hK.ml
 refine⟨_,(LZ (pst 2 nd (Mp pa_nil))
  (LZ (NE OQ rfl (NS (K:=K) (pv 1)) (pnm 3 nd)
   (LZ (Na (MO (K:=K) Og OO OP OX (pv 2) (pa1 (Mc Cm hr.L5 rfl (LS (pv 0) (pa1 (L7 Md LU (pv 3))))))))
  (LY (NE OQ rfl (NS (K:=K) (Mp (LS LU (LS LU (LS LU (LS LU (pa1 LU))))))) (pnm 4 nd)
   (LY (Na (MO (K:=K) Og OO OP OX (pv 2) (pa1 (Mc Cm hr.L5 rfl (LS (pv 0) (pa1 (L7 Md (L7 Md (L7 Md LU (pv 3)) LU) (pv 4)))))))))))))
  (LY (L6 (pv 2))))),?_⟩
 walk_at "s0"
 rw[YW,YV,t_sp]
 ext
 intro r Cc
 obtain⟨H1,EV,s1,e1⟩:=Ms Cc (.lst [])
 rw[EV]
 have Gq:=s1 _ _ Dz
 ext
 refine Q1 (K:=K) (xs:=LW (ms.map (·.1))) (fun i σ H'=>∃(v3 v4:Option V) (as:List Ac),σ=[some (.ref d),some (.ref na),some (.ref r),v3,v4]/\H' r=some (.lst (as.map V.ref))/\AtL H' r as (lookT (ms.take i))/\Same H H')
  ⟨none,none,[],rfl,e1,trivial,s1⟩ (fun i σ H' _ ⟨_,_,_,_,_,_,s⟩=>SqL.of (s _ _ Dz)) ?_ ?_
 ·rintro i x σ H2 hx ⟨v3,v4,as,rfl,e2,DG,s2⟩
  have hi:i < ms.length:=by have:=(MS.mp hx).1;rwa [Nn,L8] at this
  rw[LW,MC,MC,Mm hi] at hx
  obtain rfl:x=V.str (S ms[i].1):=(Option.some.inj hx).symm
  have hm:=Qt hi
  have D3:ms.take (i+1)=ms.take i++[ms[i]]:=by rw[Od,Mm hi];rfl
  rw[D3]
  generalize ms[i]=m at hm ⊢
  have Ex:=hg.nm m hm
  obtain⟨Eh,LG,F_⟩:=RY Ex
  have DB:=NmG.look hg.nd hm
  have FG:=DG.len
  have EL:Tk2 (tPTS++[32]) 9:=by decide
  have GK:Tk2 m.1 8:=⟨low_tx Eh,LG⟩
  have FV:=EL.app GK (L' _)
  have El:=row_two Ex
  have Ev:(lookT (ms.take i)).length<=6 * 90:=by
   have:∀ l:List (List Nat×Bp),(lookT l).length=6 * l.length:=fun l=>by
    unfold lookT
    induction l with
    | nil=>rfl
    | cons x l ih=>rw[Ss,Mn,ih,Mv,Mv];show 5+1+_=_;omega
   rw[this,MI];omega
  ext
  try refine RZ EL GK (by decide) ?_
  ext
  refine⟨d,tp,td,_,B',ms,D,n,rfl,UY FV (by decide),hK.same s2,fun DH=>absurd (DH _ rfl) (by rw[El.1,El.2];decide),fun l hl _=>?_⟩
  cases S_inj.mp hl
  rw[El.1]
  refine ask_pts DB fun ra H3 FW era s3=>?_
  have nra:ra≠r:=iJ FW e2
  ext
  refine Rk (s3 _ _ e2) (szlt (by rw[L8];omega)) ?_
  have k4:∀ b o,b≠r->H2 b=some o->(upd H3 r (.lst (as.map V.ref++[.ref ra]))) b=some o:=fun b o hb e=>by rw[L4 hb];exact s3 _ _ e
  have GJ:=(DG.mono k4).snoc nra (by rw[L4 nra];exact era)
  have e4:(upd H3 r (.lst (as.map V.ref++[.ref ra]))) r=some (.lst ((as++[ra]).map V.ref)):=by rw[LX,Mr];rfl
  have s4:Same H (upd H3 r (.lst (as.map V.ref++[.ref ra]))):=Sk Cc (s2.trans s3)
  generalize upd H3 r (.lst (as.map V.ref++[.ref ra]))=H4 at GJ e4 s4 ⊢
  ext
  intro la FR
  rw[cLOK]
  obtain⟨H5,Jm,s5,ela⟩:=Ms FR (.lst (LW wLOK))
  rw[Jm]
  have e5:=s5 _ _ e4
  have Ey:=GJ.mono fun b o _ e=>s5 b o e
  have s05:=s4.trans s5
  have nla:la≠r:=iJ FR e4
  ext
  refine Q1 (K:=K) (xs:=LW wLOK) (fun j σ H'=>∃(v4:Option V) (bs:List Ac),σ=[some (.ref d),some (.ref na),some (.ref r),some (.str (S m.1)),v4]/\H' r=some (.lst (bs.map V.ref))/\AtL H' r bs (lookT (ms.take i)++[ptsF m.2]++(wLOK.take j).map fun x=>brkF m.2 x)/\Same H H'/\H' la=some (.lst (LW wLOK)))
   ⟨_,_,rfl,e5,by simpa using Ey,s05,ela⟩ (fun j σ H' _ ⟨_,_,_,_,_,_,e⟩=>SqL.of e) ?_ ?_
  ·rintro j x σ H6 hx ⟨v4,bs,rfl,e6,Gr,s6,el6⟩
   have hj:j < wLOK.length:=by have:=(MS.mp hx).1;rwa [Nn] at this
   rw[LW,MC,Mm hj] at hx
   obtain rfl:x=V.str (S wLOK[j]):=(Option.some.inj hx).symm
   obtain⟨Hz,Kk,Jn⟩:=wl_ok _ (Qt hj)
   have D3:wLOK.take (j+1)=wLOK.take j++[wLOK[j]]:=by rw[Od,Mm hj];rfl
   rw[D3,Mr,<- Pq]
   have J9:=Gr.len
   rw[Mn,Mn,L8,MI,M6] at J9
   have h5:wLOK.length=5:=rfl
   generalize wLOK[j]=xw at Hz Kk Jn ⊢
   have FO:Tk2 (tBRK++[32]) 6:=by decide
   have FS:Tk2 [32] 1:=by decide
   have hB:=((FO.app GK (L' _)).app FS (L' _)).app Jn (L' _)
   have GC:=iI Ex Hz
   have LH:=hB.2
   simp only[Mn] at LH
   ext
   try refine RZ FO GK (by decide) ?_
   ext
   try refine RZ (FO.app GK (L' _)) FS (by decide) ?_
   ext
   try refine RZ ((FO.app GK (L' _)).app FS (L' _)) Jn (by decide) ?_
   ext
   refine⟨d,tp,td,_,B',ms,D,n,rfl,UY hB (by decide),hK.same s6,fun DH=>absurd (DH _ rfl) (by rw[GC.1,GC.2];decide),fun l hl _=>?_⟩
   cases S_inj.mp hl
   rw[GC.1]
   refine ask_brk DB Kk fun ra H7 FW era s7=>?_
   have nra:ra≠r:=iJ FW e6
   ext
   refine Rk (s7 _ _ e6) (szlt (by rw[L8];omega)) ?_
   have k8:∀ b o,b≠r->H6 b=some o->(upd H7 r (.lst (bs.map V.ref++[.ref ra]))) b=some o:=fun b o hb e=>by rw[L4 hb];exact s7 _ _ e
   ext
   exact⟨_,bs++[ra],rfl,by rw[LX,Mr];rfl,(Gr.mono k8).snoc nra (by rw[L4 nra];exact era),Sk Cc (s6.trans s7),k8 _ _ nla el6⟩
  ·rintro σ H6 ⟨v4,bs,rfl,e6,Gr,s6,el6⟩
   rw[Nn,NO] at Gr
   have e:lookT (ms.take i++[m])=lookT (ms.take i)++[ptsF m.2]++wLOK.map fun x=>brkF m.2 x:=by
    unfold lookT
    rw[Zl,List.flatMap_singleton,Pq];rfl
   exact⟨_,_,bs,rfl,e6,by rw[e];exact Gr,s6⟩
 ·rintro σ H2 ⟨v3,v4,as,rfl,e2,DG,s2⟩
  rw[Nn,L8,NO] at DG
  ext
  exact q r H2 Cc (RX e2 DG.is) s2
noncomputable abbrev s_law_right:Av:=top 90
theorem Y7 (c:Nat):∀ l,M5 c (spl c l)=l
 | []=>rfl
 | x::r=>by
  have ih:=Y7 c r
  show M5 c (if x=c then []::spl c r else match spl c r with | []=>[[x]] | p::ps=>(x::p)::ps)=_
  cases h:spl c r with
  | nil=>exact absurd h (Qj c r)
  | cons p ps =>
   rw[h] at ih
   split
   ·rename_i e
    show []++c::M5 c (p::ps)=_
    rw[ih,e];rfl
   ·cases ps with
    | nil=>show x::p=_;rw[show p=r from ih]
    | cons v ps =>
     show (x::p)++c::M5 c (v::ps)=_
     rw[<- ih];rfl
theorem Ut (hz:32∉z) (h2:2<=(spl 32 l).length):decide (V.str (S (l.take (z.length+1)))=V.str (S (z++[32])))=decide ((spl 32 l).getD 0 []=z):=by
 rw[No,decide_eq_true_eq,decide_eq_true_eq,S_inj]
 constructor
 ·intro e
  have:l=z++32::l.drop (z.length+1):=by
   conv=>lhs;rw[<- Zg (z.length+1) l,e]
   simp
  rw[this,UV _ hz];rfl
 ·intro e
  have hj:=Y7 32 l
  match h:spl 32 l,h2 with
  | p::v::r,_ =>
   rw[h] at e hj
   have e:p=z:=e
   have hj:p++32::M5 32 (v::r)=l:=hj
   rw[<- hj,<- e]
   simp[List.take_append]
   exact U4 (by omega)
theorem Uu (l:List α) (k:Nat):cutA l none (some (k:Int))=l.take k:=by
 by_cases h:k<=l.length
 ·exact RI l k h
 ·unfold cutA
  have h1:sx l.length 0 none=0:=rfl
  have h2:sx l.length l.length (some (k:Int))=l.length:=by simp only[sx];rw[B8 (by omega)];omega
  rw[h1,h2,U9,Zv,NO,U4 (by omega)]
theorem iL (ms:List (List Nat×Bp))(z:List Nat)(b:Bp):(putM ms z b).map (·.1)=if z∈ms.map (·.1) then ms.map (·.1) else ms.map (·.1)++[z]:=by
 unfold putM
 have e:(ms.any fun m=>decide (m.1=z))=decide (z∈ms.map (·.1)):=by
  rw[No,decide_eq_true_eq,UD,Nw]
  exact⟨fun⟨m,hm,e⟩=>⟨m,hm,of_decide_eq_true e⟩,fun⟨m,hm,e⟩=>⟨m,hm,B7 e⟩⟩
 rw[e]
 by_cases h:z∈ms.map (·.1)
 ·rw[B7 h,B9 rfl,B9 h,Ng]
  apply UA
  intro m _
  show (if m.1=z then (m.1,b) else m).1=m.1
  split <;> rfl
 ·rw[B6 h,B8 Mi,B8 h,Mr];rfl
theorem Y8 (h:m∈putM ms z b):m∈ms∨m=(z,b):=by
 unfold putM at h
 split at h
 ·obtain⟨x,hx,rfl⟩:=Nw.mp h
  by_cases e:x.1=z
  ·rw[B9 e];exact .inr (by rw[e])
  ·rw[B8 e];exact .inl hx
 ·rcases Nv.mp h with h | h
  ·exact .inl h
  ·exact .inr (OJ.mp h)
theorem NmG.put (h:NmG ms) (hz:isNm z=true):NmG (putM ms z b):=by
 refine⟨fun m hm=>?_,?_⟩
 ·rcases Y8 hm with hm | rfl
  ·exact h.nm m hm
  ·exact hz
 ·rw[iL]
  split
  ·exact h.nd
  ·rename_i hn
   refine List.nodup_append.mpr ⟨h.nd,by simp,fun a ha c hc e=>?_⟩
   have hc:c=z:=by simpa using hc
   exact hn (hc▸e▸ha)
theorem DkS.up {CD C CT:Ac}{H:Hp}{d tp td:Ac}{B':List (Key×V)}{ms:List (List Nat×Bp)}{D:List Ac}{n:Nat}(h:DkS CD C CT H d tp td B' ms D n)(hn:n<=89):DkS CD C CT H d tp td B' ms D (n+1) :=
 ⟨h.dk,h.td,h.nt,h.tb,h.ml,by omega,fun m hm=>(h.ok m hm).mono (by omega)⟩
theorem DkS.keep {CD C CT:Ac}{H H':Hp}{d tp td:Ac}{B' kvs':List (Key×V)}{ms:List (List Nat×Bp)}{D:List Ac}{n:Nat}{z:List Nat}{b:Bp}(h:DkS CD C CT H d tp td B' ms D n)(hn:n<=89)(hm:ms.length<=89)(hb:OkN (n+1) b)(ht:TB C (offH H' D) kvs' (putM ms z b))(e:H' td=some (.dK kvs'))(off:∀ b o,b≠td->H b=some o->H' b=some o):DkS CD C CT H' d tp td kvs' (putM ms z b) D (n+1):=by
 obtain⟨⟨dd,e1⟩,dxt,t1,t2⟩:=h.dk
 have n1:d≠td:=fun z=>by rw[z,t2] at e1;cases e1
 have n2:tp≠td:=fun z=>by rw[z,t2] at t1;cases t1
 refine⟨⟨⟨dd,off _ _ n1 e1⟩,dxt,off _ _ n2 t1,e⟩,h.td,fun a ha=>?_,ht,by have:=XZ ms z b;omega,by omega,fun m hm'=>?_⟩
 ·obtain⟨o,ho,hz⟩:=h.nt a ha
  by_cases za:a=td
  ·exact⟨_,by rw[za];exact e,fun zs q=>by cases q⟩
  ·exact⟨o,off _ _ za ho,hz⟩
 ·rcases Y8 hm' with hm' | rfl
  ·exact(h.ok m hm').mono (by omega)
  ·exact hb
theorem DkS.names {CD C CT:Ac}{H:Hp}{d tp td na:Ac}{B':List (Key×V)}{ms:List (List Nat×Bp)}{D:List Ac}{n:Nat}{xs ys:List V}(h:DkS CD C CT H d tp td B' ms D n)(Dz:na∈D)(e:H na=some (.lst xs)):DkS CD C CT (upd H na (.lst ys)) d tp td B' ms D n:=by
 obtain⟨⟨dd,e1⟩,dxt,t1,t2⟩:=h.dk
 have n1:d≠na:=fun z=>by rw[z,e] at e1;cases e1
 have n2:tp≠na:=fun z=>by rw[z,e] at t1;cases t1
 have n3:td≠na:=fun z=>by rw[z,e] at t2;cases t2
 refine⟨⟨⟨dd,by rw[L4 n1];exact e1⟩,dxt,by rw[L4 n2];exact t1,by rw[L4 n3];exact t2⟩,h.td,fun a ha=>?_,h.tb.same (ZV fun b o hb eb=>⟨hb,by rw[L4 (show b≠na from fun z=>hb (by rw[z];exact Dz))];exact eb⟩),h.ml,h.nl,h.ok⟩
 by_cases za:a=na
 ·exact⟨_,by rw[za];exact LX,fun zs q=>by cases q⟩
 ·obtain⟨o,ho,hz⟩:=h.nt a ha
  exact⟨o,by rw[L4 za];exact ho,hz⟩
def RefOk (v:V)(ms:List (List Nat×Bp))(k:List Nat)(y:V):Prop:=(k=tROW/\y=.non/\∀ l,v=.str (S l)->Mt (spl 32 l)=false)∨∃ l,v=.str (S l)/\Mt (spl 32 l)=true/\Nd ms (spl 32 l)≠.told/\k=duK (Nd ms (spl 32 l))/\y=duV (Nd ms (spl 32 l))
theorem pairQ (ref:∀ k y,RefOk v ms k y->ans k y H Q) (told:∀ l,v=.str (S l)->Mt (spl 32 l)=true->Nd ms (spl 32 l)=.told->ans tTOL .non H Q):
  ((∀ l,v=.str (S l)->Mt (spl 32 l)=false)->ans tROW .non H Q)/\∀ l,v=.str (S l)->Mt (spl 32 l)=true->ans (duK (Nd ms (spl 32 l))) (duV (Nd ms (spl 32 l))) H Q:=by
 refine⟨fun h=>ref _ _ (.inl ⟨rfl,rfl,h⟩),fun l hl hr=>?_⟩
 by_cases e:Nd ms (spl 32 l)=.told
 ·rw[e];exact told l hl hr e
 ·exact ref _ _ (.inr ⟨l,hl,hr,e,rfl,rfl⟩)
theorem RefOk.said (h:RefOk v ms k y) (q:ans k y H Q):
  ((∀ l,v=.str (S l)->Mt (spl 32 l)=false)->ans tROW .non H Q)/\∀ l,v=.str (S l)->Mt (spl 32 l)=true->RQ C D td ms n (spl 32 l) H Q:=by
 rcases h with ⟨rfl,rfl,hn⟩ | ⟨l,hl,hr,hd,rfl,rfl⟩
 ·exact⟨fun _=>q,fun l hl hr=>by rw[hn l hl] at hr;cases hr⟩
 ·refine⟨(fun hn=>by rw[hn l hl] at hr;cases hr),fun l' hl' _=>?_⟩
  rw[hl] at hl'
  cases S_inj.mp hl'
  exact RU (A:=fun k y=>ans k y H Q) (fun _=>q) (fun e=>absurd e hd) (fun e=>absurd e hd) (fun e=>absurd e hd) fun e=>absurd e hd
theorem RefOk.dat (h:RefOk v ms k y):k≠tTOL/\∃ dy:Dt,(∀ H,Is H y dy)/\dep (.lst [.str (S k),dy]) < 6/\wid (.lst [.str (S k),dy])<=100000:=by
 rcases h with ⟨rfl,rfl,_⟩ | ⟨l,_,_,hd,rfl,rfl⟩
 ·exact⟨by decide,.non,fun H=>by simp[Is],by decide,by decide⟩
 ·cases he:Nd ms (spl 32 l) with
  | told=>exact absurd he hd
  | tongue nm=>exact⟨by show tTON≠tTOL;decide,.str (S nm),fun H=>by simp[Is,duV],by show dep (.lst [.str (S tTON),.str (S nm)]) < 6;simp[dep,depL],by show wid (.lst [.str (S tTON),.str (S nm)])<=_;simp[wid,widL]⟩
  | pattern k=>exact⟨by show tPAT≠tTOL;decide,.int (k:Int),fun H=>by simp[Is,duV],by show dep (.lst [.str (S tPAT),.int (k:Int)]) < 6;simp[dep,depL],by show wid (.lst [.str (S tPAT),.int (k:Int)])<=_;simp[wid,widL]⟩
  | word k=>exact⟨by show tWRD≠tTOL;decide,.int (k:Int),fun H=>by simp[Is,duV],by show dep (.lst [.str (S tWRD),.int (k:Int)]) < 6;simp[dep,depL],by show wid (.lst [.str (S tWRD),.int (k:Int)])<=_;simp[wid,widL]⟩
  | thing k=>exact⟨by show tTHI≠tTOL;decide,.int (k:Int),fun H=>by simp[Is,duV],by show dep (.lst [.str (S tTHI),.int (k:Int)]) < 6;simp[dep,depL],by show wid (.lst [.str (S tTHI),.int (k:Int)])<=_;simp[wid,widL]⟩
def Y9 (CD C CT:Ac):Sp:=fun vs H Q _=>∃(d tp td na:Ac) (v:V) (B':List (Key×V)) (ms:List (List Nat×Bp)) (D:List Ac) (n:Nat),vs=[.ref d,v,.ref na]/\RowV H v/\DkS CD C CT H d tp td B' ms D n/\na∈D/\H na=some (.lst (LW (ms.map (·.1))))/\NmG ms/\n<=89/\ms.length<=89 /\
 ∀(kvs':List (Key×V)) (ms':List (List Nat×Bp)) (H':Hp),DkS CD C CT H' d tp td kvs' ms' D (n+1)->H' na=some (.lst (LW (ms'.map (·.1))))->NmG ms'->ms'.length<=ms.length+1->(∀ b o,b≠td->b≠na->H b=some o->H' b=some o)->Q (.bl true) H'
theorem txt_lt {w g:List Nat}(h:∀ c∈w,c < 128)(n:Nat):∀ c∈txt w g n,c < 128:=fun c hc=>by
 unfold txt at hc
 obtain⟨k,_,hc⟩:=Zm.mp hc
 unfold bit at hc
 rcases Nv.mp hc with hc | hc
 ·split at hc
  ·rw[OJ.mp hc];decide
  ·cases hc
 ·rw[OJ.mp hc,Mq]
  cases e:w[k]? with
  | none=>decide
  | some x=>exact h x (OB e)
theorem Y_ (h:n<=9):∀ c∈fig n,c < 128:=fun c hc=>by
 unfold fig at hc
 split at hc
 ·rw[OJ.mp hc];omega
 ·cases hc
theorem Y' (h:VP s ns) (j:Nat):ns.getD j 0<=9:=by
 by_cases hj:j < ns.length
 ·exact(h.num j hj).2
 ·rw[Mq,List.getElem?_eq_none (by omega)];decide
theorem iM (h:VP s ns):∀ c∈ptxt s ns,c < 128:=by
 have hs:=YI h
 have hp:∀ i,∀ c∈pre s ns i,c < 128:=fun i=>by
  induction i with
  | zero=>intro c hc;simp[pre] at hc
  | succ i ih =>
   intro c hc
   unfold pre at hc
   simp only[Nv,OJ] at hc
   rcases hc with hc | hc | hc
   ·exact ih c hc
   ·exact Y_ (Y' h i) c hc
   ·rw[hc,Mq]
    cases e:s[i]? with
    | none=>decide
    | some x=>exact hs x (OB e)
 intro c hc
 unfold ptxt at hc
 rcases Nv.mp hc with hc | hc
 ·exact hp _ c hc
 ·exact Y_ (Y' h _) c hc
theorem Za:∀{ls:List (List Nat)},(∀ l∈ls,∀ c∈l,c < 128)->∀ c∈M5 32 ls,c < 128
 | [],_,c,hc=>nomatch hc
 | [p],h,c,hc=>h p MV c hc
 | p::v::r,h,c,hc=>by
  have hc:c∈p++32::M5 32 (v::r):=hc
  rcases Nv.mp hc with hc | hc
  ·exact h p MV c hc
  ·rcases Mo.mp hc with rfl | hc
   ·decide
   ·exact Za (fun l hl=>h l (MP _ hl)) c hc
theorem look_ok (h:∀ m∈ms,∀ x∈m.2.pats,VP x.1 x.2):okD (.lst ((lookT ms).map Us)):=by
 refine(Lay.lst (n:=1) fun dd hd=>?_).ok (by decide)
 obtain⟨t,ht,rfl⟩:=Nw.mp hd
 refine Lay.lst (n:=0) fun d2 CI=>?_
 simp only[Mo,Oc,or_false] at CI
 rcases CI with rfl | rfl
 ·exact Lay.str (by decide)
 ·refine Lay.str ?_
  unfold lookT at ht
  obtain⟨m,hm,ht⟩:=Zm.mp ht
  rcases Mo.mp ht with rfl | ht
  ·unfold ptsF Ug
   split
   ·decide
   ·refine Za fun x hx=>?_
    obtain⟨y,hy,rfl⟩:=Nw.mp hx
    exact iM (h m hm y hy)
  ·obtain⟨x,hx,rfl⟩:=Nw.mp ht
   exact txt_lt (fun c hc=>Uj (wl_ok x hx).2.2.1 hc) _
theorem iN (T:Txt mg tk)(F:Fun K "_law_right" "_law_right" s_law_right f fd)(DA:Dn P w K mg base "_law_due" 5 ["_law_row","_law_names"] spDue)(Db:Dn P w K mg base "_law_look" 10 ["_law_desk","_law_names"] (Y6 cO3 cO cO2))(Cm:Dn P w K mg base "_law_said" 9 ["_law_desk","_law_row"] (RR cO3 cO cO2))(CJ:Dn P w K mg base "_law_alike" 6 ["_law_found","_law_due_here"] (P6 6)):FnOk P w K mg base CX0 11 f fd ["_law_desk","_law_row","_law_names"] (Y9 cO3 cO cO2):=by
 refine F.okk ["_law_desk","_law_row","_law_names","_law_due_here","_law_before","_law_found"] ?_
 rintro _ A _ _ H _ _ _ hr ⟨d,tp,td,na,v,B',ms,D,n,rfl,hv,hK,Jo,Dz,hg,hn,hm,q⟩ nd
 have Gu:=look_ok fun m hm=>(hK.ok m hm).vp
 refine⟨_,(LZ (pst 3 nd (Mc DA hr.L5 rfl (LS (pv 1) (pa1 (pv 2)))))
  (LZ (Ma (PW.pt (Pt (Mb (o_eq hr.units) (pix K (pv 3) LV) LU (L9 _)) (PQ (Mb (o_eq hr.units) (MM (MN (K:=K)) (pv 1) MX (MF LV)) LU (L9 _)))))
   (LY (L6 Nx))
   Mh)
  (LZ (pst 4 nd (Mc Db hr.L5 rfl (LS (pv 0) (pa1 (pv 2)))))
  (LZ (pst 5 nd (Mc Cm hr.L5 rfl (LS (pv 0) (pa1 (pv 1)))))
  (LZ (Ma (Mb (o_eq hr.units) (pix K (pv 3) LV) LU (L9 _))
   (LZ (Ma (PW.pt (Pt (Mb (o_eq hr.units) (MM (MN (K:=K)) (pv 1) MX (MF LV)) LU (L9 _)) (PQ (Mb Ra (pix K (MO (K:=K) NX Vb Vc XA (pv 1) (pa1 LU)) LV) (pv 2) (by with_unfolding_all rfl)))))
   (LY (Na (MO (K:=K) Og OO OP OX (pv 2) (pa1 (pix K (MO (K:=K) NX Vb Vc XA (pv 1) (pa1 LU)) LV)))))
   Mh)
  (LY (L6 (SK (ND (MT (o_eq hr.units) (pix K (pv 5) LV) LU (L9 _)) (NC (pcb Ov T.z_isinstance (LS (pix K (pv 5) LV) (pa1 (pty "str" T.z_str)))))) (NC (ND (MT (o_eq hr.units) (MM (MN (K:=K)) (pv 1) MX (MF LV)) LU (L9 _)) (NC (MT (o_eq hr.units) (pix K (pv 5) LV) LU (L9 _)))))))))
   Mh)
  (LY (L6 (ND (Mc CJ hr.L5 rfl (LS (pv 5) (pa1 (pv 3)))) (NC (MT (o_eq hr.units) (Mc Db hr.L5 rfl (LS (pv 0) (pa1 (pv 2)))) (pv 4) (L9 _))))))))))),?_⟩
 walk_at "s0"
 rw[YX,Uq,YY,Ob,t_nar,t_sp]
 ext
 refine⟨v,na,ms,rfl,hv,Dz,hg.no,by omega,?_⟩
 refine pairQ (fun k y hr r0 H1 Cc er0 s1=>?_) (fun l hl Ck Fu r0 H1 Cc er0 s1=>?_)
 ·obtain⟨hk,dy,LI,Jp,Jq⟩:=hr.dat
  have Kl:decide (V.str (S k)=V.str (S tTOL))=false:=B6 fun z=>hk (S_inj.mp z)
  have FT:∀{H':Hp}{r:Ac},H' r=some (.lst [.str (S k),y])->Is H' (.ref r) (.lst [.str (S k),dy]):=fun{H'}{r} e=>RX e (by simp only[L2.IsL];exact⟨by simp[Is],LI H',trivial⟩)
  ext
  try rw[Kl]
  ext
  refine⟨d,tp,td,na,B',ms,D,n,rfl,hK.same s1,s1 _ _ Dz,hg,fun rb H2 LJ Km s2=>?_⟩
  have s02:=s1.trans s2
  ext
  refine⟨d,tp,td,v,B',ms,D,n,rfl,hv.same s02,hK.same s02,hr.said fun rf H3 HA erf s3=>?_⟩
  have s03:=s02.trans s3
  have er3:=s3 _ _ (s2 _ _ er0)
  have Jr:=Is.same s3 Km
  ext
  try rw[Kl]
  ext
  refine⟨.ref rf,.ref r0,_,rfl,FT erf,FT er3,Jp,Jq,fun H4 s4=>?_⟩
  have s04:=s03.trans s4
  ext
  refine⟨d,tp,td,na,B',ms,D,n,rfl,hK.same s04,s04 _ _ Dz,hg,fun rc H5 hrc LK s5=>?_⟩
  have s05:=s04.trans s5
  ext
  refine i_eqD LK (Is.same (s4.trans s5) Jr) Gu Gu ?_
  rw[V7 Gu]
  exact q B' ms H5 ((hK.same s05).up hn) (s05 _ _ Dz) hg (by omega) fun b o _ _ e=>s05 _ _ e
 ·subst hl
  obtain⟨Ev,Gk⟩:l.length<=40/\isTx l=true:=by
   rcases hv with ⟨l',e,h1,h2⟩ | e | ⟨i,e⟩ | ⟨b,e⟩ | ⟨p,xs,e,_⟩
   ·cases S_inj.mp e;exact⟨h1,h2⟩
   ·cases e
   ·cases e
   ·cases e
   ·cases e
  have hR:=Ck
  unfold Mt at hR
  rw[MQ] at hR
  obtain⟨cn,DU,Cd⟩:=YG hR.1
  have Js:2<=(spl 32 l).length:=by
   have:=(Um DU).1
   rcases Cd with h | ⟨_,h⟩ <;> omega
  have p5:=Ut (l:=l) (z:=tPAR) (by decide) Js
  have p7:=Ut (l:=l) (z:=tTON) (by decide) Js
  have p6:=Ut (l:=l) (z:=tPRS) (by decide) Js
  have c5:cutA l none (some 5)=l.take 5:=Uu l 5
  have c7:cutA l none (some 7)=l.take 7:=Uu l 7
  have c6:cutA l none (some 6)=l.take 6:=Uu l 6
  have p5:decide (V.str (S (l.take 5))=V.str (S (tPAR++[32])))=_:=p5
  have p7:decide (V.str (S (l.take 7))=V.str (S (tTON++[32])))=_:=p7
  have p6:decide (V.str (S (l.take 6))=V.str (S (tPRS++[32])))=_:=p6
  have hsz:(S l).length<=Ae:=szn (by rw[Me];omega)
  ext
  try refine Oy (l:=l) (by omega) ?_
  rw[c5]
  ext
  rw[p5]
  by_cases Jt:(spl 32 l).getD 0 []=tPAR
  ·rw[B7 Jt]
   ext
   exact q B' ms H1 ((hK.same s1).up hn) (s1 _ _ Dz) hg (by omega) fun b o _ _ e=>s1 _ _ e
  ·rw[B6 Jt]
   ext
   refine⟨d,tp,td,na,B',ms,D,n,rfl,hK.same s1,s1 _ _ Dz,hg,fun rb H2 LJ Km s2=>?_⟩
   have s02:=s1.trans s2
   have er2:=s2 _ _ er0
   ext
   refine⟨d,tp,td,_,B',ms,D,n,rfl,hv.same s02,hK.same s02,(fun DH=>by rw[DH l rfl] at Ck;cases Ck),fun l' hl' _=>?_⟩
   cases S_inj.mp hl'
   refine RU (A:=fun k y=>ans k y H2 _) (fun e=>absurd Fu e) (fun _=>Jt) (fun _ eP k rf H3 HA erf s3=>?_) (fun _ eK b kvs' H3 hb ht etd off rf H4 HA erf s4=>?_) (fun _ t hw rf H3 HA erf s3=>?_)
   ·have er3:=s3 _ _ er2
    have s03:=s02.trans s3
    have nT:(spl 32 l).getD 0 []≠tTON:=by rw[eP];decide
    ext
    try refine Oy (l:=l) (by omega) ?_
    rw[c7]
    ext
    rw[p7,B6 nT]
    ext
    try refine Oy (l:=l) (by omega) ?_
    rw[c6]
    ext
    rw[p6,B7 eP]
    ext
    exact q B' ms H3 ((hK.same s03).up hn) (s03 _ _ Dz) hg (by omega) fun b o _ _ e=>s03 _ _ e
   ·have Fz:=hK.same s02
    obtain⟨_,_,_,t2⟩:=Fz.dk
    have nP:(spl 32 l).getD 0 []≠tPRS:=by rcases eK with e | e | e <;> rw[e] <;> decide
    have Ex:isNm ((spl 32 l).getD 1 [])=true:=by
     have:=hR.2
     rw[B8 nP,MQ] at this
     exact this.2
    have nr:r0≠td:=fun z=>by rw[z,t2] at er2;cases er2
    have nn:na≠td:=fun z=>by have:=s02 _ _ Dz;rw[z,t2] at this;cases this
    have er4:=s4 _ _ (off _ _ nr er2)
    have GT:=s4 _ _ (off _ _ nn (s02 _ _ Dz))
    have Fi:=(Fz.keep hn hm hb ht etd off).same s4
    have Ju:=hg.put (b:=b) Ex
    have D_:=XZ ms ((spl 32 l).getD 1 []) b
    have o4:∀ x o,x≠td->x≠na->H x=some o->H4 x=some o:=fun x o h1 _ e=>s4 _ _ (off _ _ h1 (s02 _ _ e))
    have EI:=iL ms ((spl 32 l).getD 1 []) b
    by_cases hT:(spl 32 l).getD 0 []=tTON
    ·have Ff:=UX 32 l
     have DS:((spl 32 l).map S).map V.str=LW (spl 32 l):=by rw[Ng];rfl
     have h1:=Nm (ws:=spl 32 l) (show 1 < (spl 32 l).length by omega)
     ext
     try refine Oy (l:=l) (by omega) ?_
     rw[c7]
     ext
     rw[p7,B7 hT]
     ext
     refine Xy rfl hsz (szn (by rw[QQ,L8];omega)) fun wa EZ=>?_
     rw[QQ,DS]
     obtain⟨H5,Jm,s5,ewa⟩:=Ms EZ (.lst (LW (spl 32 l)))
     rw[Jm]
     have Jv:=s5 _ _ GT
     have erf5:=s5 _ _ erf
     have EM:=Fi.same s5
     ext
     refine NI (M9 Jv) ⟨rfl,YQ _⟩ ?_
     rw[YO,B9 rfl]
     by_cases Do:(spl 32 l).getD 1 []∈ms.map (·.1)
     ·rw[B9 Do] at EI
      rw[B7 Do]
      ext
      exact q kvs' _ H5 EM (by rw[EI];exact Jv) Ju D_ fun x o h1 h2 e=>s5 _ _ (o4 x o h1 h2 e)
     ·rw[B8 Do] at EI
      rw[B6 Do]
      ext
      refine Xy rfl hsz (szn (by rw[QQ,L8];omega)) fun wb LL=>?_
      rw[QQ,DS]
      obtain⟨H6,Gh,s6,ewb⟩:=Ms LL (.lst (LW (spl 32 l)))
      rw[Gh]
      have Kn:=s6 _ _ Jv
      have erf6:=s6 _ _ erf5
      have FX:=EM.same s6
      ext
      refine Rk Kn (szlt (by rw[Nn,L8];omega)) ?_
      have nrf:rf≠na:=fun z=>by rw[z,GT] at erf;injection erf with erf;injection erf with erf;have:=congrArg R9 erf;rw[z,(off _ _ nn (s02 _ _ Dz))] at HA;cases HA
      have erf7:(upd H6 na (.lst (LW (ms.map (·.1))++[.str (S ((spl 32 l).getD 1 []))]))) rf=some (.lst [.str (S tTOL),.str (S tOK)]):=by rw[L4 nrf];exact erf6
      have Ko:=FX.names (ys:=LW (ms.map (·.1))++[.str (S ((spl 32 l).getD 1 []))]) Jo Kn
      have Kp:(upd H6 na (.lst (LW (ms.map (·.1))++[.str (S ((spl 32 l).getD 1 []))]))) na=some (.lst (LW ((putM ms ((spl 32 l).getD 1 []) b).map (·.1)))):=by
       rw[LX,EI,LW,LW,Mr (l₂:=[_])];rfl
      have o7:∀ x o,x≠td->x≠na->H x=some o->(upd H6 na (.lst (LW (ms.map (·.1))++[.str (S ((spl 32 l).getD 1 []))]))) x=some o:=fun x o h1 h2 e=>by rw[L4 h2];exact s6 _ _ (s5 _ _ (o4 x o h1 h2 e))
      generalize upd H6 na (.lst (LW (ms.map (·.1))++[.str (S ((spl 32 l).getD 1 []))]))=H7 at erf7 Ko Kp o7 ⊢
      ext
      exact q kvs' _ H7 Ko Kp Ju D_ o7
    ·have Do:(spl 32 l).getD 1 []∈ms.map (·.1):=by
      have hd:=Fu
      unfold Nd at hd
      rw[B8 nP,B8 hT,RT] at hd
      by_cases hc:(spl 32 l).getD 1 []∈ms.map (·.1)
      ·exact hc
      ·rw[B6 hc,B9 rfl] at hd;cases hd
     rw[B9 Do] at EI
     ext
     try refine Oy (l:=l) (by omega) ?_
     rw[c7]
     ext
     rw[p7,B6 hT]
     ext
     exact q kvs' _ H4 Fi (by rw[EI];exact GT) Ju D_ o4
   ·have er3:=s3 _ _ er2
    have s03:=s02.trans s3
    have nT:(spl 32 l).getD 0 []≠tTON:=by
     rcases hw with e | ⟨_,_,⟨e,_⟩ | ⟨e,_⟩⟩ <;> rw[e] <;> decide
    ext
    try refine Oy (l:=l) (by omega) ?_
    rw[c7]
    ext
    rw[p7,B6 nT]
    ext
    exact q B' ms H3 ((hK.same s03).up hn) (s03 _ _ Dz) hg (by omega) fun b o _ _ e=>s03 _ _ e
noncomputable abbrev s_law:Av:=top 91
theorem Uv :Os (CXx X.prog X.w) X (fun _ _ _=>False):=fun _ _ _ _ _ _ _ h=>by
 obtain⟨_,_,_,_,_,_,_,_,_,_,_,_,_,_,h⟩:=h
 exact h.elim
theorem DkS.kept {CD C CT:Ac}{H H':Hp}{d tp td p:Ac}{B':List (Key×V)}{ms:List (List Nat×Bp)}{D:List Ac}{n:Nat}{xs ys:List V}(h:DkS CD C CT H d tp td B' ms D n)(hp:p∈D)(e:H p=some (.lst xs))(e':H' p=some (.lst ys))(k:Kept p H H'):DkS CD C CT H' d tp td B' ms D n:=by
 obtain⟨⟨dd,e1⟩,dxt,t1,t2⟩:=h.dk
 have n1:d≠p:=fun z=>by rw[z,e] at e1;cases e1
 have n2:tp≠p:=fun z=>by rw[z,e] at t1;cases t1
 have n3:td≠p:=fun z=>by rw[z,e] at t2;cases t2
 refine⟨⟨⟨dd,k _ _ n1 e1⟩,dxt,k _ _ n2 t1,k _ _ n3 t2⟩,h.td,fun a ha=>?_,h.tb.same (ZV fun b o hb eb=>⟨hb,k _ _ (fun z=>hb (by rw[z];exact hp)) eb⟩),h.ml,h.nl,h.ok⟩
 by_cases za:a=p
 ·exact⟨_,by rw[za];exact e',fun zs q=>by cases q⟩
 ·obtain⟨o,ho,hz⟩:=h.nt a ha
  exact⟨o,k _ _ za ho,hz⟩
def KpR (ms:List (List Nat×Bp))(ws:List (List Nat)):Prop:=Mt ws=true/\isNm (ws.getD 1 [])=true/\(ws.getD 0 []=tTON∨((ws.getD 0 []=tPAT/\Nl (ws.getD 2 []) ⟨[],[],0⟩ 0=none)∨ws.getD 0 []=tTOL/\Nz (ws.getD 2 []) ⟨[],[],true⟩ 0=none)/\ws.getD 1 []∈ms.map (·.1))
theorem KpR.out (h:KpR ms ws) (q:kp (ws.getD 1 [])):outR th na to pa wo kp tl ms ws:=by
 obtain⟨_,_,h⟩:=h
 rcases h with h | ⟨h,hm⟩
 ·exact⟨(fun e=>by rw[h] at e;exact absurd e (by decide)),fun _=>q,fun _ e _=>absurd h e,fun b _=>⟨by rw[h];decide,(fun e=>by rw[h] at e;exact absurd e (by decide)),(fun e=>by rw[h] at e;exact absurd e (by decide)),(fun e=>by rw[h] at e;exact absurd e (by decide)),fun e=>by rw[h] at e;exact absurd e (by decide)⟩⟩
 ·have hl:Mz ms (ws.getD 1 [])≠none:=fun z=>by
   have:=RT ms (ws.getD 1 [])
   rw[z,B7 hm] at this
   cases this
  rcases h with ⟨h,hf⟩ | ⟨h,hf⟩
  ·exact⟨(fun e=>by rw[h] at e;exact absurd e (by decide)),(fun e=>by rw[h] at e;exact absurd e (by decide)),fun _ _ e=>absurd e hl,fun b _=>⟨by rw[h];decide,fun _=>⟨fun k hk=>(by rw[hf] at hk;cases hk),fun _=>q⟩,(fun e=>by rw[h] at e;exact absurd e (by decide)),(fun e=>by rw[h] at e;exact absurd e (by decide)),fun e=>by rw[h] at e;exact absurd e (by decide)⟩⟩
  ·exact⟨(fun e=>by rw[h] at e;exact absurd e (by decide)),(fun e=>by rw[h] at e;exact absurd e (by decide)),fun _ _ e=>absurd e hl,fun b _=>⟨by rw[h];decide,(fun e=>by rw[h] at e;exact absurd e (by decide)),fun _=>⟨fun k hk=>(by rw[hf] at hk;cases hk),fun _=>q⟩,(fun e=>by rw[h] at e;exact absurd e (by decide)),fun e=>by rw[h] at e;exact absurd e (by decide)⟩⟩
theorem Uw (hK:DkS CD C CT H d tp td B' ms D n) (hl:Tk2 l 40) (hr:KpR ms (spl 32 l)) (hg:NmG ms) (hn:n<=89) (hm:ms.length<=89) (q:∀(kvs':List (Key×V)) (ms':List (List Nat×Bp)) (H':Hp),DkS CD C CT H' d tp td kvs' ms' D (n+1)->ms'.map (·.1)=(if (spl 32 l).getD 1 []∈ms.map (·.1) then ms.map (·.1) else ms.map (·.1)++[(spl 32 l).getD 1 []])->NmG ms'->(∀ b o,b≠td->H b=some o->H' b=some o)->Q (.str (S tOK)) H'):RP CD C CT NW NP NTh TN NTo NR [.ref d,.str (S l)] H Q E:=by
 refine⟨d,tp,td,_,B',ms,D,n,rfl,UY hl (by decide),hK,(fun h=>by have:=h l rfl;rw[hr.1] at this;cases this),fun l' e _=>?_⟩
 cases S_inj.mp e
 refine hr.out fun b kvs' H' hb ht e off=>?_
 exact q kvs' _ H' (hK.keep hn hm hb ht e off) (iL _ _ _) (hg.put hr.2.1) off
theorem R0 (e:H r=some (.lst [.str (S u),.str (S v)])):Is H (.ref r) (.lst [.str (S u),.str (S v)]):=RX e (by simp only[L2.IsL];exact⟨by simp[Is],by simp[Is],trivial⟩)
theorem Zb (hu:∀ c∈u,c < 128) (hv:∀ c∈v,c < 128):okD (.lst [.str (S u),.str (S v)]):=by
 refine(Lay.lst (n:=0) fun dd hd=>?_).ok (by decide)
 simp only[Mo,Oc,or_false] at hd
 rcases hd with rfl | rfl
 ·exact Lay.str hu
 ·exact Lay.str hv
theorem dcc_mk (hm:mg "COUNTS"=some (.ref cD)) (hl:K.lookup cD=some ⟨.type "dict",none,.dict #[⟨OC w.params "tongue",.str "tongue" t0,.int 4 u0⟩,⟨OC w.params "pattern",.str "pattern" t1,.int 3 u1⟩,⟨OC w.params "told",.str "told" t2,.int 3 u2⟩,⟨OC w.params "break",.str "break" t3,.int 3 u3⟩,⟨OC w.params "patterns",.str "patterns" t4,.int 2 u4⟩,⟨OC w.params "pare",.str "pare" t5,.int 2 u5⟩,⟨OC w.params "press",.str "press" t6,.int 3 u6⟩] 7,#[]⟩) (hs:(cD == AH)=false):Dcc P w K mg cD:=by
 rw[Oz,Qk,Ob,Ui,RN,t_par,Ql] at hl
 refine⟨hm,_,[(Sum.inr (S tTON),.int 4 u0),(Sum.inr (S tPAT),.int 3 u1),(Sum.inr (S tTOL),.int 3 u2),(Sum.inr (S tBRK),.int 3 u3),(Sum.inr (S tPTS),.int 2 u4),(Sum.inr (S tPAR),.int 2 u5),(Sum.inr (S tPRS),.int 3 u6)],hl,⟨_,_,⟨rfl,rfl,rfl⟩,rfl,fun e he=>?_,(Pairs.cons (by simp[M7,Op,Qx]) rfl (Pairs.cons (by simp[M7,Op,Qx]) rfl (Pairs.cons (by simp[M7,Op,Qx]) rfl (Pairs.cons (by simp[M7,Op,Qx]) rfl (Pairs.cons (by simp[M7,Op,Qx]) rfl (Pairs.cons (by simp[M7,Op,Qx]) rfl (Pairs.cons (by simp[M7,Op,Qx]) rfl Pairs.nil))))))),?_⟩,.cons ⟨rfl,_,rfl⟩ (.cons ⟨rfl,_,rfl⟩ (.cons ⟨rfl,_,rfl⟩ (.cons ⟨rfl,_,rfl⟩ (.cons ⟨rfl,_,rfl⟩ (.cons ⟨rfl,_,rfl⟩ (.cons ⟨rfl,_,rfl⟩ (.nil))))))),hs⟩
 ·simp only[List.mem_toArray,Mo,Oc,or_false] at he
  rcases he with rfl | rfl | rfl | rfl | rfl | rfl | rfl
  all_goals exact⟨Sum.inr _,by simp[M7,Op,Qx],rfl⟩
 ·show ([tTON,tPAT,tTOL,tBRK,tPTS,tPAR,tPRS].map fun l=>(Sum.inr (S l):Key)).Nodup
  exact List.pairwise_map.mpr (List.Pairwise.imp (fun h e=>h (S_inj.mp (congrArg V.str (Sum.inr.inj e)))) (show [tTON,tPAT,tTOL,tBRK,tPTS,tPAR,tPRS].Nodup by decide))
def R1 (K:L3):Sp:=fun vs H Q _=>∃(a:Ac) (ns:List Int),vs=[.ref a]/\SqL K H a (ns.map V.int)/\ns.length<=63/\∀ H',Q (.bl true) H'
noncomputable def nmL (i:Nat):List Nat:=[[97],[97,97]].getD i []
noncomputable def ptL (i:Nat):List Nat:=[[97,49,98],[98,51,97],[46,97,50,98],[49,98,97,46]].getD i []
theorem r_ton:∀ i:Fin 2,Tk2 (tTON++[32]++nmL i.1++[32,49,32,49]) 40/\Mt (spl 32 (tTON++[32]++nmL i.1++[32,49,32,49]))=true/\isNm (nmL i.1)=true/\(spl 32 (tTON++[32]++nmL i.1++[32,49,32,49])).getD 0 []=tTON/\(spl 32 (tTON++[32]++nmL i.1++[32,49,32,49])).getD 1 []=nmL i.1:=by decide +kernel
theorem r_pat:∀(i:Fin 2) (j:Fin 4),Tk2 (tPAT++[32]++nmL i.1++[32]++ptL j.1) 40/\Mt (spl 32 (tPAT++[32]++nmL i.1++[32]++ptL j.1))=true/\(spl 32 (tPAT++[32]++nmL i.1++[32]++ptL j.1)).getD 0 []=tPAT/\(spl 32 (tPAT++[32]++nmL i.1++[32]++ptL j.1)).getD 1 []=nmL i.1/\Nl ((spl 32 (tPAT++[32]++nmL i.1++[32]++ptL j.1)).getD 2 []) ⟨[],[],0⟩ 0=none:=by decide +kernel
theorem r_tol:∀ i:Fin 2,Tk2 (tTOL++[32]++nmL i.1++[32,97,97,45,98,98,97]) 40/\Mt (spl 32 (tTOL++[32]++nmL i.1++[32,97,97,45,98,98,97]))=true/\(spl 32 (tTOL++[32]++nmL i.1++[32,97,97,45,98,98,97])).getD 0 []=tTOL/\(spl 32 (tTOL++[32]++nmL i.1++[32,97,97,45,98,98,97])).getD 1 []=nmL i.1/\Nz ((spl 32 (tTOL++[32]++nmL i.1++[32,97,97,45,98,98,97])).getD 2 []) ⟨[],[],true⟩ 0=none:=by decide +kernel
theorem t_s11:Mg " 1 1"=S [32,49,32,49]:=by decide +kernel
theorem t_saab:Mg " aa-bba"=S [32,97,97,45,98,98,97]:=by decide +kernel
theorem t_p9a:Mg "press 9 a"=S (tPRS++[32,57,32,97]):=by decide +kernel
theorem t_ptsa:Mg "patterns a"=S (tPTS++[32,97]):=by decide +kernel
theorem t_a:Mg "a"=S [97]:=by decide +kernel
theorem t_aa:Mg "aa"=S [97,97]:=by decide +kernel
theorem t_nil:Mg ""=S []:=by decide +kernel
theorem ok_law (T:Txt mg tk)(O3:Ow3 K mg cO3)(F:Fun K "law" "law" s_law f fd)(Di:Dk P w K mg base cO3 3 ["self"] (spDkI cO3 cO2))(Cu:DmX P w K mg base cO3 "say" 8 ["self","row"] (RP cO3 cO cO2 (ad 1) (ad 2) (ad 3) (ad 4) (ad 6) (ad 7)))(Cm:Dn P w K mg base "_law_said" 9 ["_law_desk","_law_row"] (RR cO3 cO cO2))(Dc:Dn P w K mg base "_law_feed" 1 ["_law_script","_law_k"] (Wy K))(Cb:Dn P w K mg base "_law_next" 1 ["_law_feed_here","_law_many"] Rs)(Dd:Dn P w K mg base "_law_row_by" 2 ["_law_feed_here"] YZ)(De:Dn P w K mg base "_law_spoilt" 2 ["_law_feed_here","_law_row"] Y4)(Dj:Dn P w K mg base "_law_right" 11 ["_law_desk","_law_row","_law_names"] (Y9 cO3 cO cO2)):FnOk P w K mg base CX0 12 f fd ["_law_script"] (R1 K):=by
 refine F.okk ["_law_script","_law_desk","_law_feed_here","_law_names","_law_name","_law_text","_law_k","_law_own","_law_row"] ?_
 rintro _ _ _ _ H _ _ _ hr ⟨a,ns,rfl,hS,Cd,q⟩ nd
 refine⟨_,(LZ (pst 1 nd (Xv Di hr.L5 rfl O3.m_Desk))
  (LZ (Ma (PW.pt (Pu (Mb (o_ne hr.units) (Mc Cm hr.L5 rfl (LS (pv 1) (pa1 LU))) (Mp (LS LU (pa1 LU))) (L9 _)) (QD (Mb (o_ne hr.units) (Mc Cm hr.L5 rfl (LS (pv 1) (pa1 LU))) (Mp (LS LU (pa1 LU))) (L9 _)))))
   (LY (L6 Nx))
   Mh)
  (LZ (pst 2 nd (Mc Dc hr.L5 rfl (LS (pv 0) (pa1 LV))))
  (LZ (pst 3 nd (Mp (LS LU (pa1 LU))))
  (LZ (NE OQ rfl (NS (K:=K) (pv 3)) (pnm 4 nd)
   (LZ (Na (UU (pv 1) O3.cl Cu hr.L5 Uv (pa1 (L7 Md (L7 Md LU (pv 4)) LU))))
  (LZ (NE OQ rfl (NS (K:=K) (MM (MN (K:=K)) (Mp (LS LU (LS LU (LS LU (pa1 LU))))) MX (MF (Mc Cb hr.L5 rfl (LS (pv 2) (pa1 LV)))))) (pnm 5 nd)
   (LY (Na (UU (pv 1) O3.cl Cu hr.L5 Uv (pa1 (L7 Md (L7 Md (L7 Md LU (pv 4)) LU) (pv 5)))))))
  (LY (Ma (Mb (o_eq hr.units) (Mc Cb hr.L5 rfl (LS (pv 2) (pa1 LV))) LV (L9 _))
   (LY (Na (UU (pv 1) O3.cl Cu hr.L5 Uv (pa1 (L7 Md (L7 Md LU (pv 4)) LU)))))
   Mh)))))
  (LZ (NE OQ rfl (Vp rfl T.z_range (LS LV (pa1 (pcb (c_max rfl) T.z_max (LS LV (pa1 (pcb (c_min rfl) T.z_min (LS LV (pa1 (pcb (MU (K:=K)) T.z_len (pa1 (pv 0)))))))))))) (pnm 6 nd)
   (LZ (pst 7 nd (Mc Dc hr.L5 rfl (LS (pv 0) (pa1 (pv 6)))))
  (LZ (pst 8 nd (Mc Dd hr.L5 rfl (pa1 (pv 7))))
  (LZ (Ma (Mb o_gt (Mc Cb hr.L5 rfl (LS (pv 7) (pa1 LV))) LV (L9 _))
   (LY (pst 8 nd (Mc De hr.L5 rfl (LS (pv 7) (pa1 (pv 8))))))
   Mh)
  (LY (Ma (Oq (MY (Mc Dj hr.L5 rfl (LS (pv 1) (LS (pv 8) (pa1 (pv 3))))) (fun _=>rfl)))
   (LY (L6 Nx))
   Mh))))))
  (LY (L6 Nx)))))))),?_⟩
 walk_at "s0"
 ext
 refine Qb ?_
 ext
 intro d dx hx Ft Cy
 have s1:Same H (upd (upd H dx (.own d)) d (.ins cO3 dx [])):=fun b o e=>by
  rw[L4 (Mj e hx),L4 (Mj e Ft)];exact e
 have e1:=LX (H:=upd H dx (.own d)) (a:=d) (o:=.ins cO3 dx [])
 generalize upd (upd H dx (.own d)) d (.ins cO3 dx [])=H1 at s1 e1 ⊢
 refine⟨d,dx,rfl,e1,fun tp td H2 DQ hD off=>⟨rfl,?_⟩⟩
 have s02:Same H H2:=fun b o e=>off b o (Mj e hx) (s1 b o e)
 have DQ:=s1.free DQ
 rw[t_p9a,t_ptsa]
 have Fz:DkS cO3 cO cO2 H2 d tp td [] [] [td] 0:=⟨hD,by simp,(fun b hb=>by
  rw[OJ.mp hb]
  obtain⟨_,_,_,t2⟩:=hD
  exact⟨_,t2,fun zs z=>nomatch z⟩),trivial,by simp,by decide,fun m hm=>nomatch hm⟩
 ext
 rw[Oz,t_nil]
 refine⟨d,tp,td,_,[],[],[td],0,rfl,.inl ⟨_,rfl,by decide,by decide⟩,Fz,(fun h=>absurd (h _ rfl) (by decide +kernel)),fun l hl _=>?_⟩
 cases S_inj.mp hl
 have DY:spl 32 (tPRS++[32,57,32,97])=[tPRS,[57],[97]]:=by decide +kernel
 have Fu:due [] [[97]]=.tongue []:=by rfl
 rw[DY]
 refine⟨fun _=>⟨fun k hk=>(by have:=Fu.symm.trans hk;cases this),fun nm Ex r H3 Cc er s3=>?_,fun h=>(by have:=Fu.symm.trans h;cases this)⟩,fun e=>absurd e (by decide),fun e=>absurd rfl e,fun b hb=>nomatch hb⟩
 cases Fu.symm.trans Ex
 have HB:=Fz.same s3
 ext
 intro r2 El
 obtain⟨H4,Fv,s4,er2⟩:=Ms El (.lst [.str (S tTON),.str (S [])])
 rw[Fv]
 have er4:=s4 _ _ er
 have Fi:=HB.same s4
 have s04:=(s02.trans s3).trans s4
 refine i_neD (R0 er4) (R0 er2) (Zb (by decide) (by decide)) ?_
 ext
 rw[t_a]
 refine⟨d,tp,td,_,[],[],[td],0,rfl,.inl ⟨_,rfl,by decide,by decide⟩,Fi,(fun h=>absurd (h _ rfl) (by decide +kernel)),fun l hl _=>?_⟩
 cases S_inj.mp hl
 have HC:spl 32 (tPTS++[32,97])=[tPTS,[97]]:=by decide +kernel
 rw[HC]
 refine⟨fun e=>absurd e (by decide),fun e=>absurd e (by decide),fun _ _ _ r3 H5 GC er3 s5=>?_,fun b hb=>nomatch hb⟩
 ext
 intro r5 HR
 obtain⟨H6,Gh,s6,er5⟩:=Ms HR (.lst [.str (S tTON),.str (S [97])])
 rw[Gh]
 have er6:=s6 _ _ er3
 have FX:=(Fi.same s5).same s6
 have s06:=(s04.trans s5).trans s6
 refine i_neD (R0 er6) (R0 er5) (Zb (by decide) (by decide)) ?_
 ext
 have Gn:=FX.dk
 have Kq:=s06.seq hS
 clear er5 er6 FX s6 er3 s5 GC HC HR Fi s04 er4 er2 s4 HB er s3 Cc Ex Fu DY Fz off e1 s1 El hl
 refine⟨a,ns,0,rfl,Kq,by decide,by decide,fun p H7 Jw Jx o7=>?_⟩
 ext
 rw[t_aa]
 have s67:Same H6 H7:=fun b u e=>(o7 b (Mj e Jw)).trans e
 have s07:=s06.trans s67
 obtain⟨z1,z2,z3,ezp,_⟩:=id Jx
 intro na Dz
 have HD:=s07.free Dz
 have Kr:=s06.free Jw
 have npna:p≠na:=fun z=>by rw[<- z,ezp] at Dz;cases Dz
 have s8:=L_ Dz (.lst [.str (S [97]),.str (S [97,97])])
 have ena:(upd H7 na (.lst [.str (S [97]),.str (S [97,97])])) na=some (.lst (LW [[97],[97,97]])):=LX
 have ezp8:=s8 _ _ ezp
 have Ij:=FeedAt.same Jx s8
 have Ik:=(Gn.same s67).same s8
 have s08:=s07.trans s8
 generalize upd H7 na (.lst [.str (S [97]),.str (S [97,97])])=H8 at s8 ena ezp8 Ij Ik s08 ⊢
 have Jy:DkS cO3 cO cO2 H8 d tp td [] [] [td,na,p] 0:=⟨Ik,by simp,(fun b hb=>by
  simp only[Mo,Oc,or_false] at hb
  rcases hb with rfl | rfl | rfl
  ·obtain⟨_,_,_,t2⟩:=Ik
   exact⟨_,t2,fun zs z=>nomatch z⟩
  ·exact⟨_,ena,fun zs z=>nomatch z⟩
  ·exact⟨_,ezp8,fun zs z=>nomatch z⟩),trivial,by simp,by decide,fun m hm=>nomatch hm⟩
 have LM:NmG []:=⟨(fun m hm=>nomatch hm),List.nodup_nil⟩
 clear Ik ezp8 s8 Dz Gn s67 s07 o7 Jx ezp Jw Kq s06 s02
 ext
 try refine O7 (SqL.of ena) ?_
 refine Q1 (K:=K) (xs:=LW [[97],[97,97]]) (fun i σ H'=>∃(v4 v5 v6 v7 v8:Option V) (B':List (Key×V)) (ms:List (List Nat×Bp)) (n:Nat),σ=[some (.ref a),some (.ref d),some (.ref p),some (.ref na),v4,v5,v6,v7,v8]/\DkS cO3 cO cO2 H' d tp td B' ms [td,na,p] n/\ms.map (·.1)=[[97],[97,97]].take i/\NmG ms/\n<=6 * i/\FeedAt H' p (2 * i)/\H' na=some (.lst (LW [[97],[97,97]]))/\Same H H')
  ⟨none,none,none,none,none,[],[],0,rfl,Jy,rfl,LM,L' _,Ij,ena,s08⟩ (fun i σ H' _ ⟨_,_,_,_,_,_,_,_,_,_,_,_,_,_,e,_⟩=>SqL.of e) ?_ ?_
 ·clear Jy Ij ena s08
  rintro i x σ Ha hx ⟨v4,v5,v6,v7,v8,B',ms,n,rfl,FY,DZ,hg,hn,Gv,ena,sa⟩
  have hi:i < 2:=(MS.mp hx).1
  obtain rfl:x=.str (S (nmL i)):=by
   match i,hi with
   | 0,_=>exact(Option.some.inj hx).symm
   | 1,_=>exact(Option.some.inj hx).symm
  have D_:ms.length<=2:=by
   have:=congrArg R9 DZ
   rw[L8,MI] at this
   omega
  obtain⟨EL,FV,Hi,Fq,E6⟩:=r_ton ⟨i,hi⟩
  have EK:(nmL i).length<=2:=by
   match i,hi with
   | 0,_=>decide
   | 1,_=>decide
  obtain⟨⟨dd,ed⟩,_⟩:=FY.dk
  rw[Uq,t_s11]
  ext
  refine Pf ?_
  ext
  refine Pg ed rfl ?_
  ext
  have l1:(tTON++[32]).length=7:=rfl
  have l2:([32,49,32,49]:List Nat).length=4:=rfl
  refine QM (by omega) ?_
  ext
  refine QM (by rw[Mn];omega) ?_
  ext
  refine Uw FY EL ⟨FV,by rw[E6];exact Hi,.inl Fq⟩ hg (by omega) (by omega) fun kvs1 ms1 H1 GL DE Fs off1=>?_
  rw[E6,DZ] at DE
  have DE:ms1.map (·.1)=[[97],[97,97]].take (i+1):=by
   rw[DE]
   match i,hi with
   | 0,_=>rfl
   | 1,_=>rfl
  obtain⟨y1,y2,y3,eza,_⟩:=id Gv
  have nptd:p≠td:=fun z=>by
   obtain⟨_,_,_,t2⟩:=FY.dk
   rw[<- z,eza] at t2;cases t2
  have nntd:na≠td:=fun z=>by
   obtain⟨_,_,_,t2⟩:=FY.dk
   rw[<- z,ena] at t2;cases t2
  have ena1:=off1 _ _ nntd ena
  have ez1:=off1 _ _ nptd eza
  have FE:FeedAt H1 p (2 * i):=Gv.off (ez1.trans eza.symm)
  have s1:Same H H1:=fun b o e=>off1 b o (Mj e DQ) (sa b o e)
  clear FY DZ hg Gv ena sa eza off1 ed EL FV Fq E6 l1 l2 D_
  ext
  intro ra FW
  have cp:[V.str "a1b",V.str "b3a",V.str ".a2b",V.str "1ba."]=LW [[97,49,98],[98,51,97],[46,97,50,98],[49,98,97,46]]:=by decide +kernel
  rw[cp]
  obtain⟨H2,Fw,s2,era⟩:=Ms FW (.lst (LW [[97,49,98],[98,51,97],[46,97,50,98],[49,98,97,46]]))
  rw[Fw]
  have ena2:=s2 _ _ ena1
  have ez2:=s2 _ _ ez1
  have FF:=FeedAt.same FE s2
  have Fz:=GL.same s2
  have s02:=s1.trans s2
  have nrp:ra≠p:=fun z=>by rw[z,ez1] at FW;cases FW
  clear GL ena1 ez1 FE s1 s2 FW cp
  ext
  refine⟨p,5,2 * i,rfl,FF,R_ (show _<=50000 by omega) (by decide),by decide,by decide,fun c H3 DI G7 EJ o3=>?_⟩
  obtain⟨k,rfl⟩:∃ k:Nat,c=k:=⟨c.toNat,by omega⟩
  have hk:k<=4:=by omega
  obtain⟨y4,y5,y6,ez3,_⟩:=id EJ
  have HB:=Fz.kept (p:=p) (by simp) ez2 ez3 o3.kept
  have era3:=(o3 _ nrp).trans era
  have ena3:=(o3 _ (MB npna)).trans ena2
  have s03:Same H H3:=fun b o e=>(o3 _ (Mj e Kr)).trans (s02 b o e)
  clear Fz era ena2 ez2 FF s02 o3
  refine⟨(k:Int),rfl,?_⟩
  refine Py (SqL.of era3) fun rs HU=>?_
  rw[Qq (show k<=[[97,49,98],[98,51,97],[46,97,50,98],[49,98,97,46]].length from hk)]
  obtain⟨pts,Gw,Cz⟩:∃ pts:List (List Nat),pts=[[97,49,98],[98,51,97],[46,97,50,98],[49,98,97,46]].take k/\pts.length<=4:=⟨_,rfl,by rw[MI];exact Nat.min_le_right _ _⟩
  rw[<- Gw]
  obtain⟨H4,Fv,s4,ers⟩:=Ms HU (.lst (LW pts))
  rw[Fv]
  have ena4:=s4 _ _ ena3
  have Il:=FeedAt.same EJ s4
  have Fi:=HB.same s4
  have s04:=s03.trans s4
  clear HB ena3 EJ ez3 s03 s4 HU era3
  ext
  try refine O7 (SqL.of ers) ?_
  refine Q1 (K:=K) (xs:=LW pts) (fun j σ H'=>∃(v5:Option V) (B':List (Key×V)) (ms:List (List Nat×Bp)) (n:Nat),σ=[some (.ref a),some (.ref d),some (.ref p),some (.ref na),some (.str (S (nmL i))),v5,v6,v7,v8]/\DkS cO3 cO cO2 H' d tp td B' ms [td,na,p] n/\ms.map (·.1)=[[97],[97,97]].take (i+1)/\NmG ms/\n<=6 * i+1+j/\FeedAt H' p (2 * i+1)/\H' na=some (.lst (LW [[97],[97,97]]))/\H' rs=some (.lst (LW pts))/\Same H H')
   ⟨v5,kvs1,ms1,n+1,rfl,Fi,DE,Fs,by omega,Il,ena4,ers,s04⟩ (fun j σ H' _ ⟨_,_,_,_,_,_,_,_,_,_,_,e,_⟩=>SqL.of e) ?_ ?_
  ·clear Fi DE Fs Il ena4 ers s04 hn
   rintro j x σ H5 hx ⟨v5,B',ms,n,rfl,EM,DZ,hg,hn,HE,ena5,ers5,s5⟩
   have hj:j < pts.length:=by
    have:=(MS.mp hx).1
    rwa [Nn] at this
   have Jz:j < 4:=by omega
   obtain rfl:x=.str (S (ptL j)):=by
    rw[Gw,LW,MC,ae,B9 (by have:=congrArg R9 Gw;rw[MI] at this;omega)] at hx
    match j,Jz with
    | 0,_=>exact(Option.some.inj hx).symm
    | 1,_=>exact(Option.some.inj hx).symm
    | 2,_=>exact(Option.some.inj hx).symm
    | 3,_=>exact(Option.some.inj hx).symm
   have D_:ms.length<=2:=by
    have:=congrArg R9 DZ
    rw[L8,MI] at this
    have e:([[97],[97,97]]:List (List Nat)).length=2:=rfl
    omega
   have Do:nmL i∈ms.map (·.1):=by
    rw[DZ]
    match i,hi with
    | 0,_=>decide
    | 1,_=>decide
   have hpj:(ptL j).length<=4:=by
    match j,Jz with
    | 0,_=>decide
    | 1,_=>decide
    | 2,_=>decide
    | 3,_=>decide
   obtain⟨EL,FV,Fq,E6,JA⟩:=r_pat ⟨i,hi⟩ ⟨j,Jz⟩
   obtain⟨⟨dd,ed⟩,_⟩:=EM.dk
   rw[YT,t_sp]
   ext
   refine Pf ?_
   ext
   refine Pg ed rfl ?_
   ext
   have l1:(tPAT++[32]).length=8:=rfl
   have l2:([32]:List Nat).length=1:=rfl
   refine QM (by omega) ?_
   ext
   refine QM (by rw[Mn];omega) ?_
   ext
   refine QM (by rw[Mn,Mn];omega) ?_
   ext
   refine Uw EM EL ⟨FV,by rw[E6];exact Hi,.inr ⟨.inl ⟨Fq,JA⟩,by rw[E6];exact Do⟩⟩ hg (by omega) (by omega) fun kvs1 ms1 H1 GL DE Fs off1=>?_
   rw[E6,B9 Do] at DE
   obtain⟨y1,y2,y3,eza,_⟩:=id HE
   have nstd:rs≠td:=fun z=>by
    obtain⟨_,_,_,t2⟩:=EM.dk
    rw[<- z,ers5] at t2;cases t2
   ext
   exact⟨_,kvs1,ms1,n+1,rfl,GL,DE.trans DZ,Fs,by omega,HE.off ((off1 _ _ nptd eza).trans eza.symm),off1 _ _ nntd ena5,off1 _ _ nstd ers5,fun b o e=>off1 b o (Mj e DQ) (s5 b o e)⟩
  ·clear Fi DE Fs Il ena4 ers s04 hn
   rintro σ H5 ⟨v5,B',ms,n,rfl,EM,DZ,hg,hn,HE,ena5,_,s5⟩
   rw[Nn] at hn
   have D_:ms.length<=2:=by
    have:=congrArg R9 DZ
    rw[L8,MI] at this
    have e:([[97],[97,97]]:List (List Nat)).length=2:=rfl
    omega
   have Do:nmL i∈ms.map (·.1):=by
    rw[DZ]
    match i,hi with
    | 0,_=>decide
    | 1,_=>decide
   ext
   refine⟨p,2,2 * i+1,rfl,HE,R_ (show _<=50000 by omega) (by decide),by decide,by decide,fun c H6 DI G7 JB o6=>?_⟩
   obtain⟨y1,y2,y3,ez5,_⟩:=id HE
   obtain⟨y4,y5,y6,ez6,_⟩:=id JB
   have FX:=EM.kept (p:=p) (by simp) ez5 ez6 o6.kept
   have ena6:=(o6 _ (MB npna)).trans ena5
   have s6:Same H H6:=fun b o e=>(o6 _ (Mj e Kr)).trans (s5 b o e)
   ext
   refine iteD (fun c=>?_) (fun c=>?_)
   ·obtain⟨EL,FV,Fq,E6,JA⟩:=r_tol ⟨i,hi⟩
    obtain⟨⟨dd,ed⟩,_⟩:=FX.dk
    rw[YU,t_saab]
    ext
    refine Pf ?_
    ext
    refine Pg ed rfl ?_
    ext
    have l1:(tTOL++[32]).length=5:=rfl
    have l2:([32,97,97,45,98,98,97]:List Nat).length=7:=rfl
    refine QM (by omega) ?_
    ext
    refine QM (by rw[Mn];omega) ?_
    ext
    refine Uw FX EL ⟨FV,by rw[E6];exact Hi,.inr ⟨.inr ⟨Fq,JA⟩,by rw[E6];exact Do⟩⟩ hg (by omega) (by omega) fun kvs1 ms1 H1 GL DE Fs off1=>?_
    rw[E6,B9 Do] at DE
    ext
    exact⟨_,_,_,_,_,kvs1,ms1,n+1,rfl,GL,DE.trans DZ,Fs,by omega,JB.off ((off1 _ _ nptd ez6).trans ez6.symm),off1 _ _ nntd ena6,fun b o e=>off1 b o (Mj e DQ) (s6 b o e)⟩
   ·ext
    exact⟨_,_,_,_,_,B',ms,n,rfl,FX,DZ,hg,by omega,JB,ena6,s6⟩
 ·clear Jy Ij ena s08
  rintro σ Ha ⟨v4,v5,v6,v7,v8,B',ms,n,rfl,FY,DZ,hg,hn,Gv,ena,sa⟩
  have hn:n<=12:=hn
  have DZ:ms.map (·.1)=[[97],[97,97]]:=DZ
  have D_:ms.length<=2:=by
   have:=congrArg R9 DZ
   rw[L8] at this
   exact Zu this
  rw[<- DZ] at ena
  have LN:=sa.seq hS
  ext
  try rw[L8]
  obtain⟨mm,LO,LP⟩:∃ mm:Int,mm=(if (if ((ns.length:Nat):Int) < 61 then ((ns.length:Nat):Int) else 61) > 2 then (if ((ns.length:Nat):Int) < 61 then ((ns.length:Nat):Int) else 61) else 2)/\mm<=61:=⟨_,rfl,by split <;> split <;> omega⟩
  rw[<- LO]
  ext
  refine bv (fun i σ H'=>∃(v2 v4 v5 v6 v7 v8:Option V) (B':List (Key×V)) (ms:List (List Nat×Bp)) (n:Nat),σ=[some (.ref a),some (.ref d),v2,some (.ref na),v4,v5,v6,v7,v8]/\DkS cO3 cO cO2 H' d tp td B' ms [td,na,p] n/\NmG ms/\n<=12+i/\ms.length<=2+i/\H' na=some (.lst (LW (ms.map (·.1))))/\Same H H')
   ⟨_,_,_,_,_,_,B',ms,n,rfl,FY,hg,hn,D_,ena,sa⟩ ?_ ?_
  ·clear FY DZ hg Gv ena sa LN hn D_
   rintro i σ Hb hi ⟨v2,v4,v5,v6,v7,v8,B',ms,n,rfl,hK,hg,hn,D_,ena,sb⟩
   have LQ:i < 60:=by omega
   have LR:=sb.seq hS
   ext
   refine⟨a,ns,_,rfl,LR,by omega,by omega,fun p2 H1 hp FE o1=>?_⟩
   have sab:∀ H',Kept p2 H1 H'->Same Hb H':=fun H' k b u e=>k b u (Mj e hp) ((o1 b (Mj e hp)).trans e)
   ext
   refine⟨p2,0,rfl,FE,by decide,fun l H2 hl FF k2=>?_⟩
   ext
   refine⟨p2,3,0+10,rfl,FF,by decide,by decide,by decide,fun c H3 DI G7 EJ o3=>?_⟩
   have k13:=k2.off o3
   ext
   refine iteD (fun c=>?_) (fun c=>?_)
   ·ext
    refine⟨p2,0+10+1,l,rfl,hl,EJ,by decide,fun v H4 hv Il k4=>?_⟩
    have s4:=sab _ (k13.trans k4)
    ext
    refine⟨d,tp,td,na,v,B',ms,[td,na,p],n,rfl,hv,hK.same s4,by simp,s4 _ _ ena,hg,by omega,by omega,fun kvs' ms' H5 EM ena5 JC JD off5=>?_⟩
    ext
    exact⟨_,_,_,_,_,_,kvs',ms',n+1,rfl,EM,JC,by omega,by omega,ena5,fun b o e=>off5 b o (Mj e DQ) (Mj e HD) (s4 _ _ (sb _ _ e))⟩
   ·have s4:=sab _ k13
    ext
    refine⟨d,tp,td,na,.str (S l),B',ms,[td,na,p],n,rfl,UY hl (by decide),hK.same s4,by simp,s4 _ _ ena,hg,by omega,by omega,fun kvs' ms' H5 EM ena5 JC JD off5=>?_⟩
    ext
    exact⟨_,_,_,_,_,_,kvs',ms',n+1,rfl,EM,JC,by omega,by omega,ena5,fun b o e=>off5 b o (Mj e DQ) (Mj e HD) (s4 _ _ (sb _ _ e))⟩
  ·rintro σ Hb ⟨v2,v4,v5,v6,v7,v8,B',ms,n,rfl,_⟩
   ext
   exact q _
def GfE (K:L3)(x:Str)(st:Av):Prop:=∃ f fd,Mx K Ai x=some (some (.ref f))/\Fun K x x st f fd
def MtE (K:L3)(c:Ac)(x q:Str)(st:Av):Prop:=∃ f fd,Mw K (.ref c) x=some (some (.ref f))/\Sn K (.ref f)=true/\Fun K x q st f fd
structure EvE (P:Ak)(w:Am)(K:L3)(mg:Str->Option Ad)(base:Ap):Prop where
 at_:∃ h:Ap,K.In h/\h.Ns Ai mg
section
variable {P:Ak}{w:Am}{K:L3}{mg:Str->Option Ad}{base:Ap}{x q:Str}{c:Ac}{st:Av}{k:Nat}{ps:List Str}{sp:Sp}
theorem EvE.dn (E:EvE P w K mg base)(F:GfE K x st)(o:∀{f fd},Fun K x x st f fd->FnOk P w K mg base CX0 k f fd ps sp)(b:∀{f fd},Fun K x x st f fd->Binds K fd ps []:=by walk_at "b"):Dn P w K mg base x k ps sp:=by
 obtain⟨h,X,G⟩:=E.at_
 obtain⟨f,fd,a,F⟩:=F
 exact⟨f,fd,Nf X G a,F.kp,b F,o F⟩
theorem EvE.dx (E:EvE P w K mg base)(F:GfE K x st)(o:∀{f fd},Fun K x x st f fd->FnOk P w K mg base (CXx P w) k f fd ps sp)(b:∀{f fd},Fun K x x st f fd->Binds K fd ps []:=by walk_at "b"):DnX P w K mg base x k ps sp:=by
 obtain⟨h,X,G⟩:=E.at_
 obtain⟨f,fd,a,F⟩:=F
 exact⟨f,fd,Nf X G a,F.kp,b F,o F⟩
theorem EvE.di (E:EvE P w K mg base)(F:MtE K c "__init__" q st)(o:∀{f fd},Fun K "__init__" q st f fd->FnOk P w K mg base CX0 k f fd ps sp)(b:∀{f fd},Fun K "__init__" q st f fd->Binds K fd ps []:=by walk_at "b"):Ini P w K mg base c k ps sp:=by
 obtain⟨f,fd,a,i,F⟩:=F
 exact⟨f,fd,a,i,b F,o F⟩
theorem EvE.dm (E:EvE P w K mg base)(F:MtE K c x q st)(o:∀{f fd},Fun K x q st f fd->FnOk P w K mg base CX0 k f fd ps sp)(b:∀{f fd},Fun K x q st f fd->Binds K fd ps []:=by walk_at "b"):Dm P w K mg base c x k ps sp:=by
 obtain⟨f,fd,a,i,F⟩:=F
 exact⟨f,fd,⟨a,i,F.kp⟩,b F,o F⟩
theorem EvE.dk (E:EvE P w K mg base)(m:Ux K c=true)(p:OA K (.ref c)=true)(F:MtE K c "__init__" q st)(o:∀{f fd},Fun K "__init__" q st f fd->FnOk P w K mg base CX0 k f fd ps sp)(b:∀{f fd},Fun K "__init__" q st f fd->Binds K fd ps []:=by walk_at "b"):Dk P w K mg base c k ps sp:=by
 obtain⟨f,fd,a,i,F⟩:=F
 exact⟨f,fd,⟨m,a,i,p⟩,b F,o F⟩
theorem EvE.dy (E:EvE P w K mg base)(F:MtE K c x q st)(o:∀{f fd},Fun K x q st f fd->FnOk P w K mg base (CXx P w) k f fd ps sp)(b:∀{f fd},Fun K x q st f fd->Binds K fd ps []:=by walk_at "b"):DmX P w K mg base c x k ps sp:=by
 obtain⟨f,fd,a,i,F⟩:=F
 exact⟨f,fd,⟨a,i,F.kp⟩,b F,o F⟩
end
theorem bn1 {α:Type}{P:List α->Prop}(h:∀ a,P [a]):∀ us:List α,us.length=1->P us
 | [a],_=>h a
theorem bn2 {α:Type}{P:List α->Prop}(h:∀ a b,P [a,b]):∀ us:List α,us.length=2->P us
 | [a,b],_=>h a b
theorem bn3 {α:Type}{P:List α->Prop}(h:∀ a b c,P [a,b,c]):∀ us:List α,us.length=3->P us
 | [a,b,c],_=>h a b c
theorem bn5 {α:Type}{P:List α->Prop}(h:∀ a b c d e,P [a,b,c,d,e]):∀ us:List α,us.length=5->P us
 | [a,b,c,d,e],_=>h a b c d e
local macro_rules | `(tactic| walk_at "b")=>`(tactic| first | (exact fun F=>F.binds fun _ _ _ _ _ _=>bn1 fun _=>rfl) | (exact fun F=>F.binds fun _ _ _ _ _ _=>bn2 fun _ _=>rfl) | (exact fun F=>F.binds fun _ _ _ _ _ _=>bn3 fun _ _ _=>rfl) | (exact fun F=>F.binds fun _ _ _ _ _ _=>bn5 fun _ _ _ _ _=>rfl))
theorem exc_mk (o:K.lookup c=some (At nm q c N bs (.ref c0::vBM) true sn sub ab col dd ua ub uc ud ue xNew)) (p:Mw K (.ref c) "__getattribute__"=some (some (.builtin xGa))) (r:Mw K (.ref c) "__getattr__"=some none) (s:Mw K (.ref c) "__setattr__"=some (some (.builtin "object.__setattr__"))) (k:OA K (.ref c)=true) (l:Mw K (.ref c) "__class__"=some (some (.builtin "object.__class__"))):Exc K c0 c:=⟨⟨_,_,_,_,_,_,_,_,_,_,_,_,_,_,o⟩,p,r,s,k,l⟩
theorem all_mk {l:Z2}{w:Am}{K:L3}{h:Ap}{mg:Str->Option Ad}{fa f61:Ac}(X:K.In h)(G:h.Ns Ai mg)(Gv:mg "law"=some (.ref fa))
  {c0:Ac}{nm0 q0:Str}{N0:Ac}{bs0 sub0:List Ad}{FT ab0:Bool}{sn0:List Str}{col0:Option Bool}{dd0:Option Ac}{u0a u0b u0c u0d u0e:Option Ad}{nw0:String}
  (aC0:Mx K Ai "WordError"=some (some (.ref c0))) (oC0:K.lookup c0=some (At nm0 q0 c0 N0 bs0 vBM FT sn0 sub0 ab0 col0 dd0 u0a u0b u0c u0d u0e nw0)) (rC0:PySem.W.readsIn K c0 (.type "type")=true) (gC0:U2 K (.ref c0) "__getattribute__"=some (some (.builtin "type.__getattribute__"))) (iC0:PySem.W.findCls K (.ref c0) (.type "type") "__init__"=some (.val (.builtin xIni)))
  {c1:Ac} (aC1:Mx K Ai "NoWord"=some (some (.ref c1))) (xC1:Exc K c0 c1)
  (nC1:Mw K (.ref c1) "place"=some none)
  {c2:Ac} (aC2:Mx K Ai "NoPattern"=some (some (.ref c2))) (xC2:Exc K c0 c2)
  (nC2:Mw K (.ref c2) "place"=some none)
  {c3:Ac} (aC3:Mx K Ai "NoThing"=some (some (.ref c3))) (xC3:Exc K c0 c3)
  (nC3:Mw K (.ref c3) "place"=some none)
  {c4:Ac} (aC4:Mx K Ai "TooNarrow"=some (some (.ref c4))) (xC4:Exc K c0 c4)
  (nC4:Mw K (.ref c4) "place"=some none)
  {c5:Ac} (aC5:Mx K Ai "Twice"=some (some (.ref c5))) (xC5:Exc K c0 c5)
  (nC5:Mw K (.ref c5) "word"=some none)
  {c6:Ac} (aC6:Mx K Ai "NoTongue"=some (some (.ref c6))) (xC6:Exc K c0 c6)
  (nC6:Mw K (.ref c6) "name"=some none)
  {c7:Ac} (aC7:Mx K Ai "NoRow"=some (some (.ref c7))) (xC7:Exc K c0 c7)
  (iC7:Mw K (.ref c7) "__init__"=some (some (.builtin xIni)))
  (ndC:([c0,c1,c2,c3,c4,c5,c6,c7]:List Ac).Nodup)
  {cO:Ac} (aO:Mx K Ai "Breaker"=some (some (.ref cO))) (pO:Sm K cO Va=true) (dO:R4 K cO=true) (vO:U1 K cO=true) (sO:Mw K (.ref cO) "__setattr__"=some (some (.builtin "object.__setattr__"))) (mO:Ux K cO=true) (kO:OA K (.ref cO)=true)
  (n_told_gaps:Mw K (.ref cO) "told_gaps"=some none)
  (n_patterns:Mw K (.ref cO) "patterns"=some none)
  (n_head:Mw K (.ref cO) "head"=some none)
  (n_tail:Mw K (.ref cO) "tail"=some none)
  {cO2:Ac} (aO2:Mx K Ai "Tongues"=some (some (.ref cO2))) (pO2:Sm K cO2 Va=true) (dO2:R4 K cO2=true) (vO2:U1 K cO2=true) (sO2:Mw K (.ref cO2) "__setattr__"=some (some (.builtin "object.__setattr__"))) (mO2:Ux K cO2=true) (kO2:OA K (.ref cO2)=true)
  (n2_breakers:Mw K (.ref cO2) "breakers"=some none)
  {cO3:Ac} (aO3:Mx K Ai "Desk"=some (some (.ref cO3))) (pO3:Sm K cO3 Va=true) (dO3:R4 K cO3=true) (vO3:U1 K cO3=true) (sO3:Mw K (.ref cO3) "__setattr__"=some (some (.builtin "object.__setattr__"))) (mO3:Ux K cO3=true) (kO3:OA K (.ref cO3)=true)
  (n3_tongues:Mw K (.ref cO3) "tongues"=some none)
  (M0:MtE K c1 "__init__" "NoWord.__init__" s_NoWord_init)
  (M1:MtE K c2 "__init__" "NoPattern.__init__" s_NoPattern_init)
  (M2:MtE K c3 "__init__" "NoThing.__init__" s_NoThing_init)
  (M3:MtE K c4 "__init__" "TooNarrow.__init__" s_TooNarrow_init)
  (M4:MtE K c6 "__init__" "NoTongue.__init__" s_NoTongue_init)
  (F5:GfE K "_law_feed" s_law_feed)
  (F6:GfE K "_law_next" s_law_next)
  (F7:GfE K "_law_alike" s_law_alike)
  (F8:GfE K "fitting_places" s_fitting_places)
  (F9:GfE K "values_by_fits" s_values_by_fits)
  (F10:GfE K "values" s_values)
  (F11:GfE K "breaks" s_breaks)
  (F12:GfE K "gaps_by_word" s_gaps_by_word)
  (F13:GfE K "shown_broken" s_shown_broken)
  (M14:MtE K cO "__init__" "Breaker.__init__" s_Breaker_init)
  (M15:MtE K cO "gaps" "Breaker.gaps" s_Breaker_gaps)
  (M16:MtE K cO "shown" "Breaker.shown" s_Breaker_shown)
  (F17:GfE K "with_patterns" s_with_patterns)
  (M18:MtE K cO2 "__init__" "Tongues.__init__" s_Tongues_init)
  (M19:MtE K cO2 "put" "Tongues.put" s_Tongues_put)
  (F20:GfE K "is_letter" s_is_letter)
  (F21:GfE K "is_word" s_is_word)
  (F22:GfE K "mark_of" s_mark_of)
  (F23:GfE K "word_of" s_word_of)
  (F24:GfE K "is_name" s_is_name)
  (F25:GfE K "is_thing" s_is_thing)
  (F26:GfE K "check_things" s_check_things)
  (M27:MtE K cO2 "breaker_of" "Tongues.breaker_of" s_Tongues_breaker_of)
  (F28:GfE K "pieces" s_pieces)
  (F29:GfE K "farthest_end" s_farthest_end)
  (F30:GfE K "pressed" s_pressed)
  (F31:GfE K "read_broken" s_read_broken)
  (F32:GfE K "shown_number" s_shown_number)
  (F33:GfE K "can_stand" s_can_stand)
  (F34:GfE K "shown_pattern" s_shown_pattern)
  (F35:GfE K "read_pattern" s_read_pattern)
  (F36:GfE K "with_told" s_with_told)
  (F37:GfE K "check_word" s_check_word)
  (F38:GfE K "shown_word" s_shown_word)
  (F39:GfE K "parted" s_parted)
  (F40:GfE K "with_pattern_more" s_with_pattern_more)
  (F41:GfE K "is_text" s_is_text)
  (F42:GfE K "is_number" s_is_number)
  (F43:GfE K "has_its_count" s_has_its_count)
  (F44:GfE K "is_row" s_is_row)
  (F45:GfE K "words_of_row" s_words_of_row)
  (M46:MtE K cO3 "__init__" "Desk.__init__" s_Desk_init)
  (M47:MtE K cO3 "keep" "Desk.keep" s_Desk_keep)
  (M48:MtE K cO3 "pare" "Desk.pare" s_Desk_pare)
  (M49:MtE K cO3 "say" "Desk.say" s_Desk_say)
  (F50:GfE K "_law_said" s_law_said)
  (F51:GfE K "_law_is_word" s_law_is_word)
  (F52:GfE K "_law_is_number" s_law_is_number)
  (F53:GfE K "_law_pattern_due" s_law_pattern_due)
  (F54:GfE K "_law_word_due" s_law_word_due)
  (F55:GfE K "_law_things_due" s_law_things_due)
  (F56:GfE K "_law_due" s_law_due)
  (F57:GfE K "_law_row_by" s_law_row_by)
  (F58:GfE K "_law_spoilt" s_law_spoilt)
  (F59:GfE K "_law_look" s_law_look)
  (F60:GfE K "_law_right" s_law_right)
  {od61 an61:Option Ac}{sl61:Array (Option Ad)}{oc61 kV61 dc61 pm61 cd61 ct61:Ad}
  (a61:Mx K Ai "law"=some (some (.ref f61))) (l61:K.lookup f61=some ⟨oc61,od61,.func (R6 "law" "law" (UN s_law) (QF s_law) (NF s_law) .none kV61 dc61 pm61 an61 cd61 ct61),sl61⟩) (c_61:Ze K cd61 "law"=true) (k61:OA K (.ref f61)=true)
  {mkT:Ac}{odT:Option Ac}{slT:Array (Option Ad)}{nT tT0 tT1 tT2 tT3 tT4 tT5:Nat} (aT:Mx K Ai "MARKS"=some (some (.ref mkT))) (lT:K.lookup mkT=some ⟨.type "tuple",odT,.seq #[.str "," tT0,.str "." tT1,.str ";" tT2,.str ":" tT3,.str "!" tT4,.str "?" tT5] nT,slT⟩)
  {cD:Ac}{tD0 uD0 tD1 uD1 tD2 uD2 tD3 uD3 tD4 uD4 tD5 uD5 tD6 uD6:Tok} (aD:Mx K Ai "COUNTS"=some (some (.ref cD))) (lD:K.lookup cD=some ⟨.type "dict",none,.dict #[⟨OC w.params "tongue",.str "tongue" tD0,.int 4 uD0⟩,⟨OC w.params "pattern",.str "pattern" tD1,.int 3 uD1⟩,⟨OC w.params "told",.str "told" tD2,.int 3 uD2⟩,⟨OC w.params "break",.str "break" tD3,.int 3 uD3⟩,⟨OC w.params "patterns",.str "patterns" tD4,.int 2 uD4⟩,⟨OC w.params "pare",.str "pare" tD5,.int 2 uD5⟩,⟨OC w.params "press",.str "press" tD6,.int 3 uD6⟩] 7,#[]⟩) (sD:(cD == AH)=false)
  {tkLETTERS:Tok} (gLETTERS:Mx K Ai "LETTERS"=some (some (.str "abcdefghijklmnopqrstuvwxyz" tkLETTERS)))
  {tkMOST_LETTERS:Tok} (gMOST_LETTERS:Mx K Ai "MOST_LETTERS"=some (some (.int 8 tkMOST_LETTERS)))
  {tkFIGURES:Tok} (gFIGURES:Mx K Ai "FIGURES"=some (some (.str "123456789" tkFIGURES)))
  {tkMOST_SIGNS:Tok} (gMOST_SIGNS:Mx K Ai "MOST_SIGNS"=some (some (.int 22 tkMOST_SIGNS)))
  {tkPERCENT_SIGN:Tok} (gPERCENT_SIGN:Mx K Ai "PERCENT_SIGN"=some (some (.int 37 tkPERCENT_SIGN)))
  (z_len:Mx K Ai "len"=some none)
  (z_abs:Mx K Ai "abs"=some none)
  (z_all:Mx K Ai "all"=some none)
  (z_any:Mx K Ai "any"=some none)
  (z_range:Mx K Ai "range"=some none)
  (z_enumerate:Mx K Ai "enumerate"=some none)
  (z_isinstance:Mx K Ai "isinstance"=some none)
  (z_tuple:Mx K Ai "tuple"=some none)
  (z_list:Mx K Ai "list"=some none)
  (z_dict:Mx K Ai "dict"=some none)
  (z_bool:Mx K Ai "bool"=some none)
  (z_str:Mx K Ai "str"=some none)
  (z_int:Mx K Ai "int"=some none)
  (z_min:Mx K Ai "min"=some none)
  (z_max:Mx K Ai "max"=some none)
  (z_zip:Mx K Ai "zip"=some none)
  (z_ord:Mx K Ai "ord"=some none)
  (z_sorted:Mx K Ai "sorted"=some none)
  (z_ValueError:Mx K Ai "ValueError"=some none)
  : ∃ fd:Ay,(∀(s:Af) (v:Ad),BQ s fd ⟨[v],[]⟩ [("_law_script",v)])/\∀ base:Ap,K.In base->base.Ns Ai mg->FnOk l.prog w K mg base CX0 12 fa fd ["_law_script"] (R1 K):=by
 have e:=Gv.symm.trans (Nf X G a61)
 cases e
 have T:Txt mg (fun i=>([tkLETTERS,tkMOST_LETTERS,tkFIGURES,tkMOST_SIGNS,tkPERCENT_SIGN]:List Tok).getD i 0):=⟨NB X G z_len,NB X G z_abs,NB X G z_all,NB X G z_any,NB X G z_range,NB X G z_enumerate,NB X G z_isinstance,NB X G z_tuple,NB X G z_list,NB X G z_dict,NB X G z_bool,NB X G z_str,NB X G z_int,NB X G z_min,NB X G z_max,NB X G z_zip,NB X G z_ord,NB X G z_sorted,NB X G z_ValueError,Nf X G gLETTERS,Nf X G gMOST_LETTERS,Nf X G gFIGURES,Nf X G gMOST_SIGNS,Nf X G gPERCENT_SIGN⟩
 have TC:Tc K mg mkT:=⟨Nf X G aT,fun H=>.inr ⟨_,_,_,lT,rfl,rfl,by show 6<=Ae;decide,.cons ⟨_,rfl⟩ (.cons ⟨_,rfl⟩ (.cons ⟨_,rfl⟩ (.cons ⟨_,rfl⟩ (.cons ⟨_,rfl⟩ (.cons ⟨_,rfl⟩ (.nil))))))⟩⟩
 have DCC:Dcc l.prog w K mg cD:=dcc_mk (Nf X G aD) lD sD
 have Z:Cs K mg (fun i=>([c0,c1,c2,c3,c4,c5,c6,c7]:List Ac).getD i 0):=⟨Nf X G aC0,⟨rC0,gC0,iC0⟩,⟨_,_,_,_,_,_,_,_,_,_,_,_,_,_,_,_,oC0⟩,Nf X G aC1,xC1,nC1,Nf X G aC2,xC2,nC2,Nf X G aC3,xC3,nC3,Nf X G aC4,xC4,nC4,Nf X G aC5,xC5,nC5,Nf X G aC6,xC6,nC6,Nf X G aC7,xC7,iC7,ndC⟩
 have O:Ow K mg cO:=⟨Nf X G aO,⟨pO,dO,vO,sO⟩,n_told_gaps,n_patterns,n_head,n_tail⟩
 have O2:Ow2 K mg cO2:=⟨Nf X G aO2,⟨pO2,dO2,vO2,sO2⟩,n2_breakers⟩
 have O3:Ow3 K mg cO3:=⟨Nf X G aO3,⟨pO3,dO3,vO3,sO3⟩,n3_tongues⟩
 have HF:=SU (st:=s_law) l61 c_61 k61
 refine⟨R6 "law" "law" (UN s_law) (QF s_law) (NF s_law) .none kV61 dc61 pm61 an61 cd61 ct61,fun s v=>.of_eq rfl,fun base _ _=>?_⟩
 have E:EvE l.prog w K mg base:=⟨h,X,G⟩
 have Cj:=E.di M0 fun F=>fK Z F
 have Cv:=E.di M1 fun F=>fL Z F
 have CY:=E.di M2 fun F=>fM Z F
 have CG:=E.di M3 fun F=>fN Z F
 have Co:=E.di M4 fun F=>fO Z F
 have Dc:=E.dn F5 fun F=>fP T F
 have Cb:=E.dn F6 fun F=>fQ F
 have CJ:Dn l.prog w K mg base "_law_alike" 6 ["_law_found","_law_due_here"] (P6 6):=by
  obtain⟨f,fd,a,F⟩:=F7
  have b_law_alike:=F.binds (ps:=["_law_found","_law_due_here"]) fun _ _ _ _ _ _=>bn2 fun _ _=>rfl
  have m_law_alike:=Nf X G a
  exact⟨_,_,m_law_alike,F.kp,b_law_alike,XH T F b_law_alike m_law_alike 6⟩
 have CC:=E.dn F8 fun F=>jy T F
 have CF:=E.dn F9 fun F=>fU T F
 have DJ:=E.dn F10 fun F=>fV T F CC CF
 have DL:=E.dn F11 fun F=>f' T F DJ
 have CV:=E.dn F12 fun F=>gc T F
 have CW:=E.dn F13 fun F=>gd T F
 have Cf:=E.dk mO kO M14 fun F=>gf T O F CV
 have Cp:=E.dm M15 fun F=>gg T O F DL
 have CM:=E.dm M16 fun F=>gh T O F CW Cp
 have Cn:=E.dn F17 fun F=>gl T O F Cf
 have C2:=E.dk mO2 kO2 M18 fun F=>gm T O2 F
 have C8:=E.dm M19 fun F=>gn T O O2 F Cn
 have Cg:=E.dn F20 fun F=>gp T F
 have CQ:=E.dn F21 fun F=>gq T F Cg
 have CP:=E.dn F22 fun F=>gv T TC F
 have CU:=E.dn F23 fun F=>gw T F CP
 have CS:=E.dn F24 fun F=>gx T F CQ
 have Dp:=E.dn F25 fun F=>gy T F CQ CS CU
 have CZ:=E.dx F26 fun F=>gz T Z F Dp CY
 have Ce:=E.dy M27 fun F=>jz T Z O2 F Co
 have DM:=E.dx F28 fun F=>gG T Z O O2 F CZ CP CU Ce Cp Co
 have C1:=E.dn F29 fun F=>gI T F
 have Dy:=E.dx F30 fun F=>gJ T Z F DM C1 CG
 have C9:=E.dx F31 fun F=>gL T Z F Cg Cj
 have CA:=E.dn F32 fun F=>gO T F
 have Df:=E.dn F33 fun F=>gP T F Cg
 have CO:=E.dn F34 fun F=>gQ T F CA
 have Cq:=E.dx F35 fun F=>gR T Z F Df Cv
 have Dg:=E.dn F36 fun F=>gS T O F Cf
 have C_:=E.dx F37 fun F=>gT T Z F Cg Cj
 have Da:=E.dx F38 fun F=>gU (ad:=fun i=>([c0,c1,c2,c3,c4,c5,c6,c7]:List Ac).getD i 0) T O F C_ CM
 have Ds:=E.dn F39 fun F=>gW T F
 have Cw:=E.dx F40 fun F=>jA (ad:=fun i=>([c0,c1,c2,c3,c4,c5,c6,c7]:List Ac).getD i 0) T O F Cq Cn
 have Dx:=E.dn F41 fun F=>gY T F
 have CK:=E.dn F42 fun F=>gZ T F
 have CN:=E.dn F43 fun F=>g0 T DCC F
 have DN:=E.dn F44 fun F=>g9 T F CN CK CS
 have C3:=E.dx F45 fun F=>g_ T Z F Dx DN
 have Di:=E.dk mO3 kO3 M46 fun F=>hC T O2 O3 F C2
 have CL:=E.dm M47 fun F=>hV T O2 O3 F C8
 have Dh:=E.dm M48 fun F=>hZ F
 have Cu:=E.dy M49 fun F=>ig (ad:=fun i=>([c0,c1,c2,c3,c4,c5,c6,c7]:List Ac).getD i 0) T O O2 O3 F C3 Dy Ds Cf Ce Cw Dg C9 Da CO CL Dh
 have Cm:=E.dn F50 fun F=>ij T Z O3 F Cu
 have Ch:=E.dn F51 fun F=>iq T F
 have Cr:=E.dn F52 fun F=>ir T F
 have CB:=E.dn F53 fun F=>jB T Z F Cq
 have C4:=E.dn F54 fun F=>iw T F Ch
 have CH:=E.dn F55 fun F=>iB T F Ch
 have DA:=E.dn F56 fun F=>iE T F Cr CH Ch CB C4
 have Dd:=E.dn F57 fun F=>iF T F Cb
 have De:=E.dn F58 fun F=>iH T F Cb
 have Db:=E.dn F59 fun F=>iK T F Cm
 have Dj:=E.dn F60 fun F=>iN T F DA Db Cm CJ
 exact ok_law (ad:=fun i=>([c0,c1,c2,c3,c4,c5,c6,c7]:List Ac).getD i 0) T O3 HF Di Cu Cm Dc Cb Dd De Dj
theorem walk {l:Z2}{q:Ak}{loose:List Str}{XP:(Str->Option Ad)->Ap->Prop}{YP:Am->Ap->Prop}{d:DefRec}{K:Params->L3}(hn:l.most=some 63)(GQ:d.params.defaults=[])
  (hY:∀(w:Am) (h:Ap),YP w h->(K w.params).In h)
  (F:∀(w:Am) (mg:Str->Option Ad) (fa:Ac) (h:Ap),(K w.params).In h->h.Ns Ai mg->mg d.name=some (.ref fa) ->
   ∃ fd:Ay,(∀(s:Af) (u:Ad),BQ s fd ⟨[u],[]⟩ [("_law_script",u)])/\∀ base:Ap,(K w.params).In base->base.Ns Ai mg->FnOk l.prog w (K w.params) mg base CX0 12 fa fd ["_law_script"] (R1 (K w.params))) :
  PySem.W.WalkO q loose XP YP l.row.toRowW d [] (fun f vs=>PySem.call f vs) :=
 L2.V3 (n:=63) (k:=12) (x:="_law_script") (CX:=fun _=>CX0) (sp:=fun w=>R1 (K w.params)) hn (by decide) GQ ⟨rfl,by decide,by decide⟩ hY F (fun _ _ a ns hl _ hS=>⟨a,ns,rfl,hS,hl,fun _=>rfl⟩) fun _ _ _ _ _ z=>z
end K81
local macro_rules | `(tactic| walk_at "w")=>`(tactic| (refine' ⟨_,_,?a,L2.SU ?l ?c ?k⟩;(case a=>k_is);(case l=>k_is);(case c=>k_is);(case k=>k_is)))
local macro_rules | `(tactic| walk_at "v")=>`(tactic| (refine' ⟨_,_,?a,?b,L2.SU ?l ?c ?k⟩;(case a=>k_is);(case b=>k_is);(case l=>k_is);(case c=>k_is);(case k=>k_is)))
local macro_rules | `(tactic| walk_at "x")=>`(tactic| (refine' K81.exc_mk ?o ?p ?r ?s ?k ?l;(case o=>k_is);(case p=>k_is);(case r=>k_is);(case s=>k_is);(case k=>k_is);(case l=>k_is)))
open PySem PySem.W PyProof.Rows
set_option maxRecDepth 100000 in
set_option maxHeartbeats 0 in
theorem PySem.Challenge.cw_breakwords_k81_rows_refused_holds : PySem.Challenge.rw_breakwords_k81_rows_refused.Holds := by
 w_on;o_law;k_head;(case hw=>w_witness2)
 k_fill
 refine K81.walk (l:=PySem.Challenge.rw_breakwords_k81_rows_refused) rfl rfl (fun w h Y=>PySem.W.kIn_of Y) ?F
 case F =>
  intro w mg fa h KX G F2
  refine' K81.all_mk KX G F2 ?aC0 ?oC0 ?rC0 ?gC0 ?iC0 ?aC1 ?xC1 ?nC1 ?aC2 ?xC2 ?nC2 ?aC3 ?xC3 ?nC3 ?aC4 ?xC4 ?nC4 ?aC5 ?xC5 ?nC5 ?aC6 ?xC6 ?nC6 ?aC7 ?xC7 ?iC7 ?ndC ?aO ?pO ?dO ?vO ?sO ?mO ?kO ?n_told_gaps ?n_patterns ?n_head ?n_tail ?aO2 ?pO2 ?dO2 ?vO2 ?sO2 ?mO2 ?kO2 ?n2_breakers ?aO3 ?pO3 ?dO3 ?vO3 ?sO3 ?mO3 ?kO3 ?n3_tongues ?M0 ?M1 ?M2 ?M3 ?M4 ?F5 ?F6 ?F7 ?F8 ?F9 ?F10 ?F11 ?F12 ?F13 ?M14 ?M15 ?M16 ?F17 ?M18 ?M19 ?F20 ?F21 ?F22 ?F23 ?F24 ?F25 ?F26 ?M27 ?F28 ?F29 ?F30 ?F31 ?F32 ?F33 ?F34 ?F35 ?F36 ?F37 ?F38 ?F39 ?F40 ?F41 ?F42 ?F43 ?F44 ?F45 ?M46 ?M47 ?M48 ?M49 ?F50 ?F51 ?F52 ?F53 ?F54 ?F55 ?F56 ?F57 ?F58 ?F59 ?F60 ?a61 ?l61 ?c_61 ?k61 ?aT ?lT ?aD ?lD ?sD ?gLETTERS ?gMOST_LETTERS ?gFIGURES ?gMOST_SIGNS ?gPERCENT_SIGN ?z_len ?z_abs ?z_all ?z_any ?z_range ?z_enumerate ?z_isinstance ?z_tuple ?z_list ?z_dict ?z_bool ?z_str ?z_int ?z_min ?z_max ?z_zip ?z_ord ?z_sorted ?z_ValueError
  case aC0 | oC0 | rC0 | gC0 | iC0 | aC1=>k_is
  case xC1=>walk_at "x"
  case nC1 | aC2=>k_is
  case xC2=>walk_at "x"
  case nC2 | aC3=>k_is
  case xC3=>walk_at "x"
  case nC3 | aC4=>k_is
  case xC4=>walk_at "x"
  case nC4 | aC5=>k_is
  case xC5=>walk_at "x"
  case nC5 | aC6=>k_is
  case xC6=>walk_at "x"
  case nC6 | aC7=>k_is
  case xC7=>walk_at "x"
  case iC7=>k_is
  case ndC=>decide
  case aO | pO | dO | vO | sO | mO | kO | n_told_gaps | n_patterns | n_head | n_tail | aO2 | pO2 | dO2 | vO2 | sO2 | mO2 | kO2 | n2_breakers | aO3 | pO3 | dO3 | vO3 | sO3 | mO3 | kO3 | n3_tongues=>k_is
  case M0 | M1 | M2 | M3 | M4=>walk_at "v"
  case F5 | F6 | F7 | F8 | F9 | F10 | F11 | F12 | F13=>walk_at "w"
  case M14 | M15 | M16=>walk_at "v"
  case F17=>walk_at "w"
  case M18 | M19=>walk_at "v"
  case F20 | F21 | F22 | F23 | F24 | F25 | F26=>walk_at "w"
  case M27=>walk_at "v"
  case F28 | F29 | F30 | F31 | F32 | F33 | F34 | F35 | F36 | F37 | F38 | F39 | F40 | F41 | F42 | F43 | F44 | F45=>walk_at "w"
  case M46 | M47 | M48 | M49=>walk_at "v"
  case F50 | F51 | F52 | F53 | F54 | F55 | F56 | F57 | F58 | F59 | F60=>walk_at "w"
  case a61 | l61 | c_61 | k61 | aT | lT | aD | lD=>k_is
  case sD=>decide
  case gLETTERS | gMOST_LETTERS | gFIGURES | gMOST_SIGNS | gPERCENT_SIGN | z_len | z_abs | z_all | z_any | z_range | z_enumerate | z_isinstance | z_tuple | z_list | z_dict | z_bool | z_str | z_int | z_min | z_max | z_zip | z_ord | z_sorted | z_ValueError=>k_is
#print axioms PySem.Challenge.cw_breakwords_k81_rows_refused_holds
namespace K81
end K81
