import PyProof.Rows.All
import Wide.All
import OpenK.AllK
import Wide.FinOn
import Lean
import PyProof.EqAt
import PyProof.EqKinds
import PyProof.TupleCall
import PyProof.CompFree
import PyProof.P3Eq
import PyProof.Draws
import PyProof.EnumMake
import PyProof.WalksMore
import PyProof.StrLawsIn
import KE.KDictOf
import PyProof.ZipIter
import PyProof.WalkInts
import PyProof.SeqI3
import KE.KIntText
import PyProof.AutoListH
import PyProof.CollectIter
import PyProof.TupleOfGen
import PyProof.ListRange
import KE.KRevIter
import PyProof.CollectWalk
import PyProof.ListNew
import PyProof.Rows.SortShellK
import PyProof.Rows.SortStr
import KE.KDictSum
import KE.KItemsList
import KE.KDictList
import PyProof.DictTruth
import PyProof.DictWalks
import PyProof.Rows.StrMeet
import PyProof.StrLawsRepr
import PyProof.ExcClass2
import PyProof.ExcBaseAll.ValueError
import PyProof.InstStore
import PyProof.InstStoreFacts
import PyProof.StationsW
import PyProof.ExcArgsOwn
import PyProof.ExcAttrAll.ValueError
import PyProof.FString
import PyProof.FitsInt
import PyProof.PureStr
import PyProof.Rows.FactsFmt
import OpenK.KRaise
import PyProof.RulesAs
import PyProof.RulesDel
import KE.KMinKey
import PyProof.Rows.CallKwBuiltin
import PyProof.StrCalls6
import PyProof.StrReplace2
import PyProof.Rows.StrJoin2
import PyProof.StrLawsWords
import PyProof.MeetsStr2
import PyProof.StrCalls2
import PyProof.Rows.TupDisplay
import PySem.Challenge.RW_breakwords_k75_whole_fewest_lines
local macro_rules | `(tactic| omega)=>`(tactic| lia)
namespace PySem.W.Fast
def tw13191054254348693643:=0
def tw14146991016820392606:=0
def tw7567631085640556131:=0
def tw2710760023179622943:=0
def tw9151870772392861155:=0
def tw858059317368761859:=0
def tw9573288560948967916:=0
def tw985505907312550817:=0
def tw13203151347024942790:=0
def tw15892201425394033282:=0
def tw6738132497993831230:=0
def tw15565777104034061581:=0
def tw4877546516490214478:=0
def tw12357252465782671751:=0
def tw15716362892558748792:=0
def tw15092910238829384200:=0
def tw16564785814370070221:=0
def tw11596398994516365714:=0
def tw16566357448602118074:=0
def tw12466456754737888106:=0
def tw7305424189693551655:=0
def tw10049570218058575284:=0
def tw3522171739490696768:=0
def tw6990227130554774321:=0
def tw11078791489451691691:=0
def tw18319884965485667999:=0
def tw2157663795694105346:=0
def tw14716915812871612749:=0
def tw4079655129590438540:=0
def tw7711212436601998300:=0
def tw16287812084435679795:=0
def tw17506030677282579242:=0
def tw11517535628978081456:=0
def tw17914567662275561721:=0
def tw1642559069947540824:=0
def tw1731373125541948198:=0
def tw1569533021192479890:=0
def tw10536589416804771003:=0
def tw10093561969963324905:=0
def tw15479863327640536460:=0
def tw14684435937952558331:=0
def tw10817527914144448757:=0
def tw10395041756160027815:=0
def tw7258531995554612278:=0
def tw9740887393769906273:=0
def tw9366199099391227442:=0
def tw12347076360900877861:=0
def tw17628832209948166005:=0
def tw6139889087190275241:=0
def tw2666601772579653035:=0
def tw11634587153043352526:=0
def tw772929144590424140:=0
def tw1582601588527231285:=0
def tw11073987952065009166:=0
def tw9651179673382327848:=0
def tw10921501807715899730:=0
def tw10844318214444113767:=0
def tw14548605967837251731:=0
def tw16367389739394454848:=0
def tw1300549344103336764:=0
def tw17831801125751383484:=0
def tw791136372267353301:=0
def tw1973777526461088165:=0
def tw12829986536546917198:=0
def tw5243436322145134529:=0
def tw5591333404054049640:=0
def tw17279082944592875667:=0
def tw10328925450973580688:=0
def tw4757230005805469486:=0
def tw289096389225488922:=0
def tw17099688125204416187:=0
def tw421375301080193032:=0
def tw5257269690496008003:=0
def tw11569152706607723545:=0
def tw9940293583808950793:=0
def tw526804842869475027:=0
def tw11878965729011213131:=0
def tw5582021186472861533:=0
def tw15240746851045668551:=0
def tw9176682288454810421:=0
def tw8017014190067959087:=0
def tw3713216516765434464:=0
def tw14236452513012002646:=0
def tw8262863561872614506:=0
def tw7357412949824422724:=0
def tw2890652904777428161:=0
def tw17607347932824103630:=0
def tw3975113721668364100:=0
def tw3907293957616934907:=0
def tw8737598832500567658:=0
def tw526108606207443507:=0
def tw3998175497246314730:=0
def tw12344240378513468657:=0
def tw352713830968831916:=0
def tw9717060849508780395:=0
def tw15450180002849853876:=0
def tw6154770239636723627:=0
def tw3392428784245812531:=0
def tw10071599819325498689:=0
def tw14152346100095922660:=0
def tw406716913825434080:=0
def tw10337554045815659546:=0
def tw12223730059543853447:=0
def tw12973421532827009814:=0
def tw14538395039851046381:=0
def tw15594486262560205605:=0
def tw3673112722973772408:=0
def tw12817885711794219104:=0
def tw8875382900673362210:=0
def tw8943348920846291636:=0
def tw13654828646281625425:=0
def tw9679142526075844726:=0
def tw2659556120070967985:=0
def tw4098816373701980842:=0
def tw10798389244510460995:=0
def tw11693016804401915022:=0
def tw2944520305929193985:=0
def tw17784080667832093707:=0
def tw6427681488581638195:=0
def tw272090733009920211:=0
def tw17795840940348294811:=0
def tw9539195709815499321:=0
def tw6142189021786432542:=0
def tw504672787209375967:=0
def tw3533608897636801709:=0
def tw14815558446847103293:=0
def tw15173495107564841943:=0
def tw17306519533560051246:=0
def tw10721640183420415539:=0
def tw15124376012790485452:=0
def tw6210474934039096288:=0
def tw10328183596074139354:=0
def tw9735626678295919810:=0
def tw14079685783363647392:=0
def tw5578143904039728171:=0
def tw5032563650356262117:=0
def tw17478488644153691439:=0
def tw15512284285897776930:=0
def tw16451926922053924938:=0
def tw1941004126810724147:=0
def tw14252165674590183907:=0
def tw15208997477440177185:=0
def tw1523619620338171447:=0
def tw6103445692895669561:=0
def tw1657387201542139702:=0
def tw8098330646767132500:=0
def tw12142995899283568901:=0
def tw6811799547525516094:=0
def tw10303931774621701308:=0
def tw8132422960268498722:=0
def tw9467979403116859988:=0
def tw6539326550350264486:=0
def tw14061443676800154469:=0
def tw10842712471541518001:=0
def tw4126126315166022852:=0
def tw12711826955119336645:=0
def tw1759553652025251438:=0
def tw14477296699857550151:=0
def tw11489939984896806470:=0
def tw2786954465291282922:=0
def tw17235613096753020724:=0
def tw3666904199428596957:=0
def tw13754943258156784175:=0
def tw18010041380391079858:=0
def tw15058397775521393133:=0
def tw5333054831724707561:=0
def tw17902971259139002522:=0
def tw1442986382521065183:=0
def tw1229001338023614994:=0
def tw11025001758792971651:=0
def tw13454110637874840309:=0
def tw9917322958864506840:=0
def tw8658449402288490696:=0
def tw2198797855731686912:=0
def tw17059232243962765518:=0
def tw13824824044339422438:=0
def tw11788982224597212549:=0
def tw10445820970844011424:=0
def tw11781402429577946749:=0
def tw11639868940167054358:=0
def tw234726177352623066:=0
def tw3290494504433444140:=0
def tw12713214520897959508:=0
def tw17235584521196105759:=0
def tw6797935563992361813:=0
def tw3603560660846629727:=0
def tw11782088397804970799:=0
def tw17289794516391933632:=0
def tw4692973212957047439:=0
def tw13322698223480031354:=0
def tw6911373952643234994:=0
def tw2776701627919199932:=0
def tw14292921034168881437:=0
def tw6266146161799801576:=0
def tw18114272128451319691:=0
def tw15842665935758404351:=0
def tw9889659193653443589:=0
def tw9110795622962997645:=0
def tw1048103983466704476:=0
def tw7764980017830595859:=0
def tw6706964908142236786:=0
def tw1182870317472756571:=0
def tw11059539547784980842:=0
def tw11920487023725961708:=0
def tw7710777509928650071:=0
def tw18127439508890523434:=0
end PySem.W.Fast
set_option Elab.async false
set_option linter.all false
set_option maxRecDepth 100000
open List renaming getElem?_eq_getElem→pa_,length_map→pc_,length_append→pd_,getD_eq_getElem?_getD→pe_,map_append→pi_,map_cons→pj_,getElem?_eq_some_iff→pl_,getElem?_map→pm_,size_toArray→pp_,length_cons→pr_,length_singleton→ps_,mem_cons_of_mem→pt_,replicate→pv_,getElem_mem→pw_,length_drop→px_,append_nil→py_,mem_cons→pz_,mem_append→p0_,length_nil→p1_,length_take→p2_,mem_cons_self→p5_,map_nil→p8_,take_succ→qb_,take_length→qc_,filter_append→qf_,mem_map→qj_,mem_append_right→qm_,map_map→qn_,filter_cons→qp_,find?_cons→qq_,mem_of_getElem?→qs_,lookup_cons→qt_,mem_filter→qu_,any_cons→qv_,append_assoc→qw_,length_filter_le→q2_,cons_append→q3_,flatten_cons→q4_,mem_append_left→q5_,range→q7_,drop_zero→rd_,range'→rg_,mem_of_getLast?→rh_,take_of_length_le→rj_,drop_eq_getElem_cons→rm_,mem_iff_getElem?→rn_,mem_filterMap→ro_,pairwise_append→rr_,Pairwise→rs_,sum_cons→ru_,replicate_succ→ry_,map_congr_left→rz_,all_eq_true→r5_,range'_succ→r6_,lookup→r9_,extract_eq_drop_take→sc_,getLast?_eq_none_iff→sd_,mem_of_mem_drop→se_,forIn_cons→si_,range_succ→sj_,length→sm_,getElem?_set_self→sq_,filter_eq_nil_iff→sr_,contains_cons→st_,take_append_drop→s1_,getElem?_set_ne→s7_,mem_of_mem_take→ta_,getElem?_append_left→tb_,filterMap_cons→tf_,length_pos_iff→th_,contains_eq_any_beq→ti_,sum_nil→tj_,nodup_cons→tn_,foldl_cons→to_,find?_eq_none→tr_,filter_nil→ts_,sum_append→tt_,any_eq_false→tv_,foldl_append→tx_,drop_drop→t2_,length_replicate→t4_,getElem?_eq_none→t7_,getElem_map→t9_,getLast?_append→wb_,dropLast_concat_getLast→wf_,nil_append→wi_,drop_succ_cons→wl_,getElem?_append_right→wo_,getElem?_take→wr_,zip_cons_cons→wt_,mem_range→wv_,getLast?_eq_some_iff→wy_,take_zero→wz_,pairwise_iff_getElem→w0_,getElem?_replicate→w7_,pairwise_singleton→kf_,any_eq_true→ki_,not_mem_nil→kj_,drop_eq_nil_of_le→kn_,of_mem_zip→ks_,getElem?_reverse→k1_,filterMap_append→k4_,mem_iff_getElem→k7_,range_eq_range'→k8_,getElem?_of_mem→lb_,nodup_nil→le_,take_left→lf_,tail_cons→lg_,drop_one→lv_,foldl→lx_,any_nil→l5_
open PySem.W renaming Frag→pb_,nsIn→pk_,mg_of→pn_,findIn→po_,mg_none_of→ql_,isFn→qx_,keepIn→q9_,emptyDict→rb_,kitOne→rc_,hasDictIn→rw_,instObj→rx_,plainGet→sp_,fnOf→sw_,specialIn→s4_,looks_findIn→s8_,callWith_K→tm_,plainOver→tw_,InstAt→t0_,methodCall_KW→t3_,mroIn→wd_,plainGet_of→wg_,makesIn→wh_,lookIn→ww_,codeIn→wx_,methodObj→w1_,cellsFrom_some→kk_,takerIn→kr_,OpenLaw→kt_,hideAll_none→k6_,typeIn→lc_,hideAll_get→lh_,findObj_own→li_,of_hideAll→lp_,Looks→lq_,clsIn→lt_
open PySem.Heap renaming get?_push_of_some→pf_,get?_push_size→pq_,lt_size→pu_,get?_update_other→qo_,get?_update_self→q1_,size_push→ra_,SameBut→rv_
open Nat renaming le_refl→pg_,ne_of_lt→p3_,lt_of_lt_of_le→p4_,zero_le→qe_,le_trans→qg_,eq_zero_or_pos→qh_,le_of_lt→q6_,lt_succ_self→ri_,lt_of_le_of_lt→rp_,add_sub_cancel_left→rt_,lt_or_ge→r7_,le_succ→sv_,lt_irrefl→s3_,succ_ne_self→t8_,min_eq_left→wm_,sub_zero→ws_,eq_or_lt_of_le→wu_,lt_succ_of_lt→w6_,ne_of_gt→kq_,strongRecOn→k0_,le_of_eq→l0_,mul_zero→l3_,sub_self→l4_
open Bool renaming false_ne_true→ph_,and_eq_true→qi_,false_and→r8_,true_and→so_,false_eq_true→ss_,and_false→td_,eq_iff_iff→tl_,or_false→w9_,and_true→ls_
open PySem.PassesOwn renaming never→p6_,leaving→lz_
open PySem.F renaming plainAttrs_list→p7_,slot_list_append→p9_,type_list_append→qa_,plainAttrs_str→qk_,called_enumerate→qr_,plain_max_loop→q8_,slot_str_startswith→r1_,type_str_startswith→r2_,slot_tuple_iterator_next→r4_,entry_enumerate_new→sy_,slot_str_join→sz_,type_str_join→s0_,entry_object_init→tg_,entry_max_loop→tu_,slot_dict_get→t6_,args_tuple_iterator_next_1→we_,entry_tuple_iterator_next→wj_,args_tuple_add_2→w3_,entry_tuple_add→w8_,args_dict_get_3→ka_,plainAttrs_dict→kb_,slot_dict_items→kc_,attr_ValueError→ke_,slot_tuple_add→kl_,entry_dict_get→km_,slot_str_find→k2_,type_str_find→k3_
open PySem.Str renaming ofString→qd_
open PySem.Calls renaming spliced_cons→qy_,spliced_nil→rl_,callWith_builtin→r3_,evalArgs_plain→s9_,Constant_str→tk_,Name_function_global→wn_
open PySem.Builtin.SmallTypes renaming fitsIndex→qz_,nextOf→sb_
open PySem.SeqAt renaming EqAt→q0_
open PyProof.Rows renaming callWith_type1→re_,slot_tuple_getitem→sf_,callWith_builtin1→t5_
open Option renaming map_some→rf_,isSome_iff_exists→w2_,isSome_map→w4_,bind_some→kh_
open False renaming elim→rk_
open Ne renaming symm→rq_
open List.cons renaming injEq→r0_
open PySem.Builtin.Slice renaming slicePlaces→sa_,sliceAdjust→tc_,sliceApplied→wp_
open PySem.Builtin.Tuple renaming tupleExact→sg_
open PySem.Builtin.List renaming listTooLong→sh_
open Array renaming length_toList→sk_,getElem?_eq_some_iff→s6_,getElem?_setIfInBounds_ne→tz_,size_setIfInBounds→w5_,toList→kp_,getElem?_toList→kv_,toArray_toList→k9_
open PySem.Builtin.Str renaming occurrences→sl_
open PySem renaming mem_of_lookup→sn_,Within→ko_
open Int renaming emod_lt_of_pos→su_,emod_nonneg→s2_,le_refl→kg_
open PySem.Txt renaming contains→sx_,join→te_,startswith3→ku_,startswith→ld_,replace→lm_,slice→lr_
open Option.some renaming injEq→s5_
open PySem.Obj renaming data_mapFields→tp_,mapFields→kd_,isFreed_of_fields→kw_,mapSeq→k5_
open PySem.StrLaws renaming occBody→tq_,found_one→ly_
open PySem.PyData renaming canLayAll0→ty_,canLay0→t1_,depth→kx_,depthAll→ky_
open PySem.Around renaming under_plainId→wa_,under→l1_
open PySem.Paired renaming length→wc_
open PySem.Builtin.Builtins renaming bindParams→wk_
open PySem.Code renaming quiet_builtin→wq_,isFrame→l2_
open PySem.Unicode renaming isSpace→kz_
open List.Pairwise renaming filter→la_
open PySem.Heap.SameBut renaming update→lj_
open PySem.Shared renaming heap→lk_
open PySem.EntryCells renaming newEntry→ll_
open PySem.SeqAt.EqAt renaming int_str→ln_,str_int→lo_
open Function renaming comp→lu_
open PySem.Heap.Ns1 renaming of_empty→lw_
namespace L2
open PySem PySem.Spec PyProof.Rows
abbrev Key:=Sum Int Str
def jbp_:Key->Value->Bool
 | .inl k,v=>Value.isInt k v
 | .inr x,v=>Value.isStrOf x v
def keyH (w:World):Key->Int
 | .inl k=>hashInt k
 | .inr x=>hashStr w x
theorem zb_:∀{k:Key} {v:Value},jbp_ k v=true->(∃ i t,k=Sum.inl i/\v=Value.int i t)∨(∃ x t,k=Sum.inr x/\v=Value.str x t)
 | .inl i,v,h=>by
  obtain⟨t,e⟩:=Value.isInt_shape (k:=i) (v:=v) h
  exact .inl ⟨i,t,rfl,e⟩
 | .inr x,v,h=>by
  obtain⟨t,e⟩:=Value.isStrOf_shape (x:=x) (v:=v) h
  exact .inr ⟨x,t,rfl,e⟩
theorem jpf_ (i:Int) (t:Tok):jbp_ (.inl i) (.int i t)=true:=by simp[jbp_,Value.isInt]
theorem jql_ (x:Str) (t:Tok):jbp_ (.inr x) (.str x t)=true:=by simp[jbp_,Value.isStrOf]
theorem jzw_ (a b:Int):decide ((Sum.inl a:Key)=Sum.inl b)=(a == b):=by
 by_cases e:a=b
 ·subst e;simp
 ·have h:¬ (Sum.inl a:Key)=Sum.inl b:=fun q=>e (Sum.inl.inj q)
  rw[decide_eq_false h]
  exact(beq_eq_false_iff_ne.mpr e).symm
theorem key_rr (a b:Str):decide ((Sum.inr a:Key)=Sum.inr b)=decide (a=b):=by
 by_cases e:a=b
 ·subst e;simp
 ·have h:¬ (Sum.inr a:Key)=Sum.inr b:=fun q=>e (Sum.inr.inj q)
  rw[decide_eq_false h,decide_eq_false e]
theorem key_lr (a:Int) (b:Str):decide ((Sum.inl a:Key)=Sum.inr b)=false:=decide_eq_false (fun q=>nomatch q)
theorem key_rl (a:Str) (b:Int):decide ((Sum.inr a:Key)=Sum.inl b)=false:=decide_eq_false (fun q=>nomatch q)
def j9_ (prog:Program) (w:World):PySem.KeyKind prog w Key where
 is:=jbp_
 hash:=keyH w
 inj:=fun v a b ha hb=>by
  rcases zb_ ha with ⟨i,t,rfl,rfl⟩ | ⟨x,t,rfl,rfl⟩
  ·rcases zb_ hb with ⟨j,u,rfl,e⟩ | ⟨y,u,rfl,e⟩
   ·injection e with e1 _;rw[e1]
   ·exact nomatch e
  ·rcases zb_ hb with ⟨j,u,rfl,e⟩ | ⟨y,u,rfl,e⟩
   ·exact nomatch e
   ·injection e with e1 _;rw[e1]
 byValue:=fun k v h=>by
  rcases zb_ h with ⟨i,t,rfl,rfl⟩ | ⟨x,t,rfl,rfl⟩ <;> rfl
 pyHash:=fun hv h=>by
  rcases zb_ hv with ⟨i,t,rfl,rfl⟩ | ⟨x,t,rfl,rfl⟩
  ·exact wpAny_pyHash_int h
  ·exact wpAny_pyHash_str h
 eqBool:=fun hu hv h=>by
  rcases zb_ hu with ⟨i,t,rfl,rfl⟩ | ⟨x,t,rfl,rfl⟩
  ·rcases zb_ hv with ⟨j,u,rfl,rfl⟩ | ⟨y,u,rfl,rfl⟩
   ·rw[jzw_] at h;exact wpAny_eqBool_int h
   ·rw[key_lr] at h;exact ln_ i t y u _ _ _ _ h
  ·rcases zb_ hv with ⟨j,u,rfl,rfl⟩ | ⟨y,u,rfl,rfl⟩
   ·rw[key_rl] at h;exact lo_ x t j u _ _ _ _ h
   ·rw[key_rr] at h;exact wpAny_eqBool_str h
 «strs»:=fun k x t v h=>by
  rcases zb_ h with ⟨i,u,rfl,e⟩ | ⟨y,u,rfl,e⟩
  ·exact nomatch e
  ·injection e with e1 _
   subst e1
   cases v <;> rfl
theorem jiq_ (prog:Program) (w:World) (i:Int) (t:Tok):(j9_ prog w).is (.inl i) (.int i t)=true:=jpf_ i t
theorem jix_ (prog:Program) (w:World) (x:Str) (t:Tok):(j9_ prog w).is (.inr x) (.str x t)=true:=jql_ x t
end L2
namespace L2
open PySem PySem.Spec PyProof.Rows
inductive V where
 | non | bl (b:Bool) | int (i:Int) | str (x:Str) | byt (b:Array UInt8) | flt (b:UInt64) | ref (a:Addr) | ty (n:String)
 deriving DecidableEq
def RelV:V->Value->Prop
 | .non,u=>u=Value.none
 | .bl b,u=>u=Value.bool b
 | .int i,u=>∃ t,u=Value.int i t
 | .str x,u=>∃ t,u=Value.str x t
 | .byt b,u=>∃ t,u=Value.bytes b t
 | .flt b,u=>∃ t,u=Value.float b t
 | .ref a,u=>u=Value.ref a
 | .ty n,u=>u=Value.type n
abbrev Vals:List V->List Value->Prop:=Paired RelV
theorem Vals.length {xs:List V} {us:List Value} (r:Vals xs us):xs.length=us.length:=wc_ r
theorem Vals.get:∀{xs:List V} {us:List Value} {i:Nat} {x:V},Vals xs us->xs[i]?=some x->∃ u,us[i]?=some u/\RelV x u
 | _,_,_,_,.nil,e=>by simp at e
 | _,_,0,_,.cons r _,e=>by simp at e;subst e;exact⟨_,rfl,r⟩
 | _,_,i+1,x,.cons _ t,e=>by
  obtain⟨u,h1,h2⟩:=Vals.get (i:=i) (x:=x) t (by simpa using e)
  exact⟨u,by simpa using h1,h2⟩
theorem Vals.set {x:V} {u:Value} (r:RelV x u):∀{xs:List V} {us:List Value} (i:Nat),Vals xs us->Vals (xs.set i x) (us.set i u)
 | _,_,_,.nil=>.nil
 | _,_,0,.cons _ t=>.cons r t
 | _,_,i+1,.cons q t=>.cons q (Vals.set r i t)
theorem Vals.append:∀{xs ys:List V} {us ws:List Value},Vals xs us->Vals ys ws->Vals (xs++ys) (us++ws)
 | _,_,_,_,.nil,s=>s
 | _,_,_,_,.cons r t,s=>.cons r (Vals.append t s)
theorem Vals.take:∀{xs:List V} {us:List Value} (n:Nat),Vals xs us->Vals (xs.take n) (us.take n)
 | _,_,0,_=>.nil
 | _,_,_+1,.nil=>.nil
 | _,_,n+1,.cons r t=>.cons r (Vals.take n t)
theorem Vals.drop:∀{xs:List V} {us:List Value} (n:Nat),Vals xs us->Vals (xs.drop n) (us.drop n)
 | _,_,0,r=>r
 | _,_,_+1,.nil=>.nil
 | _,_,n+1,.cons _ t=>Vals.drop n t
def RelO:Option V->Option Value->Prop
 | some v,some u=>RelV v u
 | none,none=>True
 | _,_=>False
def KV {κ:Type}:List (κ×V)->List (κ×Value)->Prop:=Paired fun(p:κ×V) (q:κ×Value)=>p.1=q.1/\RelV p.2 q.2
def kV:Key->V
 | .inl i=>.int i
 | .inr x=>.str x
inductive HO where
 | lst (xs:List V)
 | tup (xs:List V)
 | dK (kvs:List (Key×V)) | dT (kvs:List (List Key×V))
 | set (S:Int->Bool) (n:Nat)
 | ins (C dx:Addr) (fs:List (Str×V))
 | own (x:Addr)
 | xd (fs:List (Str×V))
 | met (f x:Addr)
 | rng (lo hi:Int)
 | frz (o:Obj) (u:HO)
 | tbl (ps:Array Value)
 | ext (φ:Heap->Prop)
abbrev Hp:=Addr->Option HO
def upd (H:Hp) (a:Addr) (o:HO):Hp:=fun b=>if b=a then some o else H b
theorem jb_ {H:Hp} {a:Addr} {o:HO}:upd H a o a=some o:=by unfold upd;rw[if_pos rfl]
theorem jf_ {H:Hp} {a b:Addr} {o:HO} (h:b≠a):upd H a o b=H b:=by unfold upd;rw[if_neg h]
theorem jnx_ {H:Hp} {a:Addr} {o u:HO}:upd (upd H a o) a u=upd H a u:=by
 funext b;unfold upd;split <;> rfl
theorem yh_ {H:Hp} {a b:Addr} {o u:HO} (h:H a=some o) (h':H b=some u) (d:o≠u):a≠b:=by
 intro e;subst e;rw[h] at h';exact d (Option.some.inj h')
theorem jg_ {H:Hp} {a b:Addr} {o:HO} (h:H a=some o) (h':H b=none):a≠b:=by
 intro e;subst e;rw[h] at h';cases h'
section
variable (P:Program) (w:World)
def ObjOk (H:Hp) (h:Heap) (a:Addr):HO->Prop
 | .lst xs=>xs.length<=sizeLine/\∃(its:List Value) (n:Nat),Vals xs its/\h.get? a=some { cls:=.type "list",data:=.seq its.toArray n }
 | .tup xs=>xs.length<=sizeLine/\∃ its:List Value,Vals xs its/\IsTup h a its.toArray
 | .dK kvs=>kvs.length<=sizeLine/\(a == sysModules)=false/\∃ vs,KV kvs vs/\h.DictOf (j9_ P w) a vs
 | .dT kvs=>kvs.length<=sizeLine/\(a == sysModules)=false/\∃ xs:List (List Key×Addr×Value),
   Paired (fun(p:List Key×V) (q:List Key×Addr×Value)=>p.1=q.1/\H q.2.1=some (.tup (p.1.map kV))/\RelV p.2 q.2.2) kvs xs /\
   ∃ o es ep,h.get? a=some o/\o.ExactDict/\o.data=.dict es ep/\es.toList=xs.map (entryOfKey (tupleKind (j9_ P w)))/\(xs.map (·.1)).Nodup
 | .set S n=>h.SetOf (intKind P w) a S n
 | .ins C dx fs=>H dx=some (.own a)/\fs.length<=1000/\dx≠a/\h.get? a=some (rx_ C dx) /\
   ∃ mA,h.Ns1 dx mA/\(∀ f,RelO (fs.lookup f) (mA f))/\ko_ mA (fs.map (·.1))
 | .own _=>∃ o,h.get? a=some o
 | .xd fs=>∃ mA,h.Ns1 a mA/\∀ f,RelO (fs.lookup f) (mA f)
 | .rng lo hi=>∃ t u v,h.get? a=some { cls:=.type "range",data:=.fields #[.int lo t,.int hi u,.int 1 v] }
 | .frz o u=>h.get? a=some o/\ObjOk H h a u
 | .tbl ps=>h.get? a=some { cls:=.none,data:=.fields ps }
 | .met f x=>h.get? a=some (w1_ (.ref f) (.ref x))
 | .ext φ=>φ h/\(∃ o,h.get? a=some o)/\∀ h1 h2:Heap,φ h1->(∀ o,h1.get? a=some o->h2.get? a=some o)->φ h2
def HOk (H:Hp) (h:Heap):Prop:=∀ a o,H a=some o->ObjOk P w H h a o
end
section
variable {P:Program} {w:World} {H H':Hp} {h h':Heap} {a:Addr} {o:HO}
theorem ObjOk.lt (x:ObjOk P w H h a o):a < h.objs.size:=by
 cases o with
 | lst xs=>obtain⟨_,_,_,_,e⟩:=x;exact pu_ e
 | tup xs=>obtain⟨_,_,_,p⟩:=x;exact p.lt
 | dK kvs=>obtain⟨_,_,_,_,o,_,_,e,_⟩:=x;exact pu_ e
 | dT kvs=>obtain⟨_,_,_,_,o,_,_,e,_⟩:=x;exact pu_ e
 | set S n=>obtain⟨o,_,_,_,e,_⟩:=x;exact pu_ e
 | ins C dx fs=>obtain⟨_,_,_,e,_⟩:=x;exact pu_ e
 | own y=>obtain⟨_,e⟩:=x;exact pu_ e
 | xd fs=>obtain⟨_,⟨_,_,_,e,_⟩,_⟩:=x;exact pu_ e
 | rng lo hi=>obtain⟨_,_,_,e⟩:=x;exact pu_ e
 | frz ob u=>obtain⟨e,_⟩:=x;exact pu_ e
 | tbl ps=>exact pu_ (show h.get? a=some _ from x)
 | met f y=>exact pu_ (show h.get? a=some _ from x)
 | ext φ=>obtain⟨_,⟨_,e⟩,_⟩:=x;exact pu_ e
theorem Paired.mapP {α β:Type} {F G:α->β->Prop}:∀{l₁:List α} {l₂:List β},Paired F l₁ l₂->(∀ a b,F a b->G a b)->Paired G l₁ l₂
 | _,_,.nil,_=>.nil
 | _,_,.cons r t,f=>.cons (f _ _ r) (Paired.mapP t f)
theorem ObjOk.stay (x:ObjOk P w H h a o) (k:∀ b u,(b=a∨H b=some (.own a))->h.get? b=some u->h'.get? b=some u)
  (ho:∀ b,H b=some (.own a)->H' b=some (.own a)) (ht:∀ b xs,H b=some (.tup xs)->H' b=some (.tup xs)):ObjOk P w H' h' a o:=by
 induction o with
 | lst xs=>obtain⟨z,its,n,r,e⟩:=x;exact⟨z,its,n,r,k _ _ (.inl rfl) e⟩
 | tup xs=>obtain⟨z,its,r,ob,e,c⟩:=x;exact⟨z,its,r,ob,k _ _ (.inl rfl) e,c⟩
 | dK kvs=>obtain⟨z,y,vs,r,ob,es,ep,e,c⟩:=x;exact⟨z,y,vs,r,ob,es,ep,k _ _ (.inl rfl) e,c⟩
 | dT kvs =>
  obtain⟨z,y,xs,r,ob,es,ep,e,c⟩:=x
  exact⟨z,y,xs,Paired.mapP r fun p q z=>⟨z.1,ht _ _ z.2.1,z.2.2⟩,ob,es,ep,k _ _ (.inl rfl) e,c⟩
 | set S n=>obtain⟨ob,es,ep,t,e,c⟩:=x;exact⟨ob,es,ep,t,k _ _ (.inl rfl) e,c⟩
 | ins C dx fs =>
  obtain⟨d,z,ne,e,mA,⟨od,es,ep,e2,c⟩,r⟩:=x
  exact⟨ho _ d,z,ne,k _ _ (.inl rfl) e,mA,⟨od,es,ep,k _ _ (.inr d) e2,c⟩,r⟩
 | own y=>obtain⟨ob,e⟩:=x;exact⟨ob,k _ _ (.inl rfl) e⟩
 | xd fs=>obtain⟨mA,⟨od,es,ep,e,c⟩,r⟩:=x;exact⟨mA,⟨od,es,ep,k _ _ (.inl rfl) e,c⟩,r⟩
 | rng lo hi=>obtain⟨t,u,v,e⟩:=x;exact⟨t,u,v,k _ _ (.inl rfl) e⟩
 | frz ob u ih=>obtain⟨e,q⟩:=x;exact⟨k _ _ (.inl rfl) e,ih q⟩
 | tbl ps =>
  have e:h.get? a=some { cls:=.none,data:=.fields ps }:=x
  show h'.get? a=some { cls:=.none,data:=.fields ps }
  exact k a _ (.inl rfl) e
 | met f y =>
  have e:h.get? a=some (w1_ (.ref f) (.ref y)):=x
  show h'.get? a=some (w1_ (.ref f) (.ref y))
  exact k a _ (.inl rfl) e
 | ext φ=>obtain⟨p,⟨o,e⟩,st⟩:=x;exact⟨st _ _ p fun o q=>k _ _ (.inl rfl) q,⟨o,k _ _ (.inl rfl) e⟩,st⟩
theorem HOk.lt (x:HOk P w H h) (e:H a=some o):a < h.objs.size:=(x a o e).lt
theorem HOk.fresh (x:HOk P w H h) (e:h.objs.size<=a):H a=none:=by
 cases q:H a with
 | none=>rfl
 | some u=>exact absurd (p4_ (x.lt q) e) (s3_ _)
theorem HOk.kept (x:HOk P w H h) (k:∀ b u,h.get? b=some u->h'.get? b=some u):HOk P w H h':=fun a o e =>
 (x a o e).stay (fun b u _ q=>k b u q) (fun _ q=>q) fun _ _ q=>q
theorem HOk.laid (x:HOk P w H h) (k:∀ b u,h.get? b=some u->h'.get? b=some u) (hp:h.objs.size<=a) (new:ObjOk P w (upd H a o) h' a o):HOk P w (upd H a o) h':=fun b u e=>by
 have hn:=x.fresh hp
 by_cases hb:b=a
 ·subst hb;rw[jb_] at e;cases e;exact new
 ·rw[jf_ hb] at e
  exact(x b u e).stay (fun c v _ q=>k c v q) (fun c q=>by rw[jf_ (jg_ q hn)];exact q) fun c xs q=>by rw[jf_ (jg_ q hn)];exact q
end
def Rd (H:Hp) (a:Addr) (u:HO):Prop:=H a=some u∨∃ o,H a=some (.frz o u)
theorem Rd.ok {P:Program} {w:World} {H:Hp} {h:Heap} {a:Addr} {u:HO} (r:Rd H a u) (x:HOk P w H h):ObjOk P w H h a u:=by
 rcases r with r | ⟨o,r⟩
 ·exact x a u r
 ·obtain⟨_,q⟩:=x a _ r
  exact q
def Mut:Option HO->Prop
 | some (.lst _)=>True
 | some (.dK _)=>True
 | some (.dT _)=>True
 | some (.set _ _)=>True
 | some (.ins _ _ _)=>True
 | some (.ext _)=>True
 | _=>False
section
variable {P:Program} {w:World} {H:Hp} {h h':Heap} {x e:Addr} {o':HO}
theorem HOk.write (ok:HOk P w H h) (mu:Mut (H x)) (he:e=x∨H e=some (.own x)) (k:∀ b u,b≠e->h.get? b=some u->h'.get? b=some u) (heo:∃ u,h'.get? e=some u)
  (new:ObjOk P w (upd H x o') h' x o'):HOk P w (upd H x o') h':=fun b u q=>by
 have nown:∀ c y,H c=some (.own y)->c≠x:=fun c y r z=>by subst z;rw[r] at mu;exact mu
 have ntup:∀ c xs,H c=some (.tup xs)->c≠x:=fun c xs r z=>by subst z;rw[r] at mu;exact mu
 by_cases hb:b=x
 ·subst hb;rw[jb_] at q;cases q;exact new
 ·rw[jf_ hb] at q
  by_cases hbe:b=e
  ·have q':H b=some (.own x):=by
    rcases he with z | z
    ·exact absurd (hbe.trans z) hb
    ·rw[hbe];exact z
   rw[q] at q';cases q'
   obtain⟨v,hv⟩:=heo
   exact⟨v,by rw[hbe];exact hv⟩
  ·refine(ok b u q).stay (fun c v hc r=>k c v ?_ r) (fun c r=>by rw[jf_ (nown c b r)];exact r) fun c xs r=>by rw[jf_ (ntup c xs r)];exact r
   rcases hc with rfl | hc
   ·exact hbe
   ·rintro rfl
    rcases he with z | z
    ·exact nown c b hc z
    ·rw[hc] at z;cases z;exact hb rfl
end
structure Un (fs ex:List Addr) (H H':Hp) (h h':Heap):Prop where
 keep:∀ b o,h.get? b=some o->H b=none->b∉fs->b∉ex->h'.get? b=some o
 slot:∀ b o,h.get? b=some o->H b=none->b∈fs->b∉ex->∃ sl,h'.get? b=some { o with slots:=sl }
 free:∀ b o,h.get? b=some o->H b=none->b∉ex->H' b=none
 there:∀ b o,h.get? b=some o->b∉ex->∃ o',h'.get? b=some o'
 tups:∀ b xs,H b=some (.tup xs)->H' b=some (.tup xs)
 frzs:∀ b o u,H b=some (.frz o u)->H' b=some (.frz o u)
 tbls:∀ b ps,H b=some (.tbl ps)->∃ more,H' b=some (.tbl (ps++more))
section
variable {fs fs' ex ex':List Addr} {H H1 H2:Hp} {h h1 h2 h':Heap} {a x e:Addr} {o:HO}
theorem Un.any (u:Un fs ex H H1 h h1) {b:Addr} {ob:Obj} (q:h.get? b=some ob) (n:H b=none) (hx:b∉ex):∃ sl,h1.get? b=some { ob with slots:=sl }:=by
 by_cases hb:b∈fs
 ·exact u.slot b ob q n hb hx
 ·exact⟨ob.slots,u.keep b ob q n hb hx⟩
theorem Un.kept (k:∀ b u,h.get? b=some u->h'.get? b=some u):Un fs ex H H h h' :=
 ⟨fun b ob q _ _ _=>k b ob q,fun b ob q _ _ _=>⟨ob.slots,k b ob q⟩,fun _ _ _ n _=>n,fun b ob q _=>⟨ob,k b ob q⟩,fun _ _ q=>q,fun _ _ _ q=>q,fun _ ps q=>⟨#[],by rw[q];simp⟩⟩
theorem Un.refl:Un fs ex H H h h:=Un.kept fun _ _ q=>q
theorem Un.laid (k:∀ b u,h.get? b=some u->h'.get? b=some u) (hp:h.objs.size<=a) (hn:H a=none):Un fs ex H (upd H a o) h h' where
 keep:=fun b u q _ _ _=>k b u q
 slot:=fun b u q _ _ _=>⟨u.slots,k b u q⟩
 free:=fun b u q n _=>by rw[jf_ (p3_ (p4_ (pu_ q) hp))];exact n
 there:=fun b u q _=>⟨u,k b u q⟩
 tups:=fun b xs q=>by rw[jf_ (jg_ q hn)];exact q
 frzs:=fun b u xs q=>by rw[jf_ (jg_ q hn)];exact q
 tbls:=fun b ps q=>⟨#[],by rw[jf_ (jg_ q hn),q];simp⟩
theorem Un.write (mu:Mut (H x)) (he:e=x∨H e=some (.own x)) (k:∀ b u,b≠e->h.get? b=some u->h'.get? b=some u) (heo:∃ u,h'.get? e=some u):Un fs ex H (upd H x o) h h':=by
 have hx:∀ b,H b=none->b≠x:=fun b n z=>by subst z;rw[n] at mu;exact mu
 have hb:∀ b,H b=none->b≠e:=fun b n z=>by
  subst z
  rcases he with r | r
  ·exact hx b n r
  ·rw[n] at r;cases r
 have hm:∀ b u,H b=some u->¬ Mut (some u)->b≠x:=fun b u q nm z=>by subst z;rw[q] at mu;exact nm mu
 refine⟨fun b u q n _ _=>k b u (hb b n) q,fun b u q n _ _=>⟨u.slots,k b u (hb b n) q⟩,fun b u q n _=>by rw[jf_ (hx b n)];exact n,fun b u q _=>?_,
  fun b xs q=>by rw[jf_ (hm b _ q fun z=>z)];exact q,fun b u xs q=>by rw[jf_ (hm b _ q fun z=>z)];exact q,fun b ps q=>⟨#[],by rw[jf_ (hm b _ q fun z=>z),q];simp⟩⟩
 by_cases hbe:b=e
 ·subst hbe;exact heo
 ·exact⟨u,k b u hbe q⟩
end
def trk (h:Heap) (H:Hp):List Addr:=(q7_ h.objs.size).filter fun a=>(H a).isSome
def hidT (h:Heap) (H:Hp):Heap:=PySem.W.hideAll h (trk h H)
theorem jpw_ (h:Heap) (H:Hp):(hidT h H).objs.size=h.objs.size:=PySem.W.hideAll_size _ _
theorem jro_ {h:Heap} {H:Hp} {b:Addr} {o:Obj} (e:h.get? b=some o) (n:H b=none):(hidT h H).get? b=some o :=
 lh_ _ e fun hm=>by
  have q:(H b).isSome=true:=(qu_.mp hm).2
  rw[n] at q;simp at q
theorem jxb_ {h:Heap} {H:Hp} {b:Addr} {o:Obj} (e:(hidT h H).get? b=some o):h.get? b=some o/\H b=none:=by
 have e':h.get? b=some o:=lp_ (trk h H) e
 refine⟨e',?_⟩
 cases q:H b with
 | none=>rfl
 | some x =>
  have hm:b∈trk h H:=qu_.mpr ⟨wv_.mpr (pu_ e'),by simp[q]⟩
  have z:(hidT h H).get? b=none:=k6_ (trk h H) hm
  rw[z] at e;cases e
end L2
namespace L2
open PySem PySem.Spec PyProof.Rows
structure Mod (K:pb_) (mg:Str->Option Value) (base:Heap):Prop where
 kin:K.In base
 glob:base.Ns mainGlobals mg
 blt:∃ mb,base.Ns builtinsNs mb/\∀ x:Str,x≠"__name__"->mb x=bootBuiltins x
 nolimit:base.NoLimit
structure Cx where
 prog:Program
 w:World
 K:pb_
 mg:Str->Option Value
 base:Heap
 A:Around
 N:List Str
 s₀:Shared
 H₀:Hp
 env:Env
 outer:List Env
 stack:List Env
 ex:List Addr
 fn:Str->Bool
 calm:Bool
 pn:List (Addr×Obj)
 xe:Value->Shared->Prop
def frs (l:List Env):List Addr:=l.filterMap (·.frame)
abbrev Cx.fs (X:Cx):List Addr:=frs X.outer
def Vis (sc:Scope) (x:Str):Prop:=sc.names.lookup x=some .local∨sc.names.lookup x=some .cell∨sc.names.lookup x=some .free
def Loc (sc:Scope) (x:Str):Prop:=sc.names.lookup x=some .local∨sc.names.lookup x=some .cell
def Look (env:Env) (h:Heap) (m:Str->Option Value) (x:Str) (u:Value):Prop :=
 (env.kindOf x=some .local/\m x=some u)∨((env.kindOf x=some .cell∨env.kindOf x=some .free)/\∃ c,env.cells.lookup x=some c/\h.IsCell c (some u))
structure Cx.Ok (X:Cx):Prop where
 mod:Mod X.K X.mg X.base
 kind:X.env.scope.kind=.function
 glob:X.env.globals=mainGlobals
 blt:X.env.builtins=builtinsNs
 above:X.s₀.heap.objs.size<=X.env.locals
 inj:∀ x y c,X.env.cells.lookup x=some c->X.env.cells.lookup y=some c->x=y
 has:∀ x,(X.env.kindOf x=some .cell∨X.env.kindOf x=some .free)->∃ c,X.env.cells.lookup x=some c
 cab:∀ x c,X.fn x=true->X.env.cells.lookup x=some c->X.s₀.heap.objs.size<=c
 hd:X.calm=true->X.A.handled=none
 frames:X.A.frames=some X.stack
 stk:X.stack=X.outer∨(X.stack=X.env::X.outer/\X.env.frame=some X.env.locals)
 exf:∀ b∈X.ex,b≠X.env.locals/\∀ x c,X.env.cells.lookup x=some c->c≠b
 bs:∀ b o,X.base.get? b=some o->X.s₀.heap.get? b=some o/\X.H₀ b=none
 bsz:X.base.objs.size<=X.s₀.heap.objs.size
 noex:∀ b o,X.base.get? b=some o->b∉X.ex
 exfs:∀ b∈X.ex,b∉X.fs
 funs:X.s₀.heap.FunFrames X.base X.outer
 frf:∀ b∈X.fs,X.H₀ b=none
structure Inv (X:Cx) (pins:List (Addr×Obj)) (σ:List (Option V)) (H:Hp) (s:Shared):Prop where
 ok:X.Ok
 os:s.os=X.s₀.os
 bare:AllBare s.gens
 base:Un X.fs X.ex X.H₀ H X.s₀.heap s.heap
 loc:∃ m,s.heap.Ns X.env.locals m/\∀(i:Nat) (x:Str) (v:V),X.N[i]?=some x->σ[i]?=some (some v)->Vis X.env.scope x->∃ u,RelV v u/\Look X.env s.heap m x u
 cell:∀ x c,X.env.cells.lookup x=some c->∃ v,s.heap.IsCell c v
 free:H X.env.locals=none
 freeC:∀ x c,X.env.cells.lookup x=some c->H c=none
 pin:∀ p∈X.pn++pins,s.heap.get? p.1=some p.2/\H p.1=none/\p.1≠X.env.locals/\p.1∉X.fs/\∀ v,p.2.data≠.cell v
 hok:HOk X.prog X.w H s.heap
 len:σ.length=X.N.length
section
variable {X:Cx} {pins:List (Addr×Obj)} {σ:List (Option V)} {H H':Hp} {s:Shared} {h':Heap}
theorem Cx.Ok.nofr (ok:X.Ok) {b:Addr} {o:Obj} (e:X.base.get? b=some o):b∉X.fs:=fun hb=>by
 have:=(ok.funs.mem hb).1
 rw[e] at this;cases this
theorem Inv.bs (I:Inv X pins σ H s):∀ b o,X.base.get? b=some o->s.heap.get? b=some o/\H b=none:=fun b o e =>
 ⟨I.base.keep b o (I.ok.bs b o e).1 (I.ok.bs b o e).2 (I.ok.nofr e) (I.ok.noex b o e),I.base.free b o (I.ok.bs b o e).1 (I.ok.bs b o e).2 (I.ok.noex b o e)⟩
theorem Inv.bk (I:Inv X pins σ H s):∀ b o,X.base.get? b=some o->s.heap.get? b=some o:=fun b o e=>(I.bs b o e).1
theorem Inv.mod (I:Inv X pins σ H s):Mod X.K X.mg X.base:=I.ok.mod
theorem Inv.kIn (I:Inv X pins σ H s):X.K.In s.heap:=I.ok.mod.kin.keeps I.bk
theorem Inv.lt (I:Inv X pins σ H s):X.env.locals < s.heap.objs.size:=let ⟨_,hn,_⟩:=I.loc;hn.lt
theorem Inv.sz (I:Inv X pins σ H s):X.s₀.heap.objs.size<=s.heap.objs.size:=qg_ I.ok.above (q6_ I.lt)
theorem Inv.nofs (I:Inv X pins σ H s) {a:Addr} (h:s.heap.objs.size<=a):a∉X.fs:=fun hb=>by
 obtain⟨_,o,ho,_⟩:=I.ok.funs.mem hb
 exact absurd (p4_ (pu_ ho) (qg_ I.sz h)) (s3_ _)
theorem Inv.cne (I:Inv X pins σ H s):∀ x c,X.env.cells.lookup x=some c->c≠X.env.locals:=fun x c e z=>by
 obtain⟨v,o,ho,hd⟩:=I.cell x c e
 obtain⟨m,⟨o',es,ep,ho',hd',_⟩,_⟩:=I.loc
 rw[z,ho'] at ho;cases ho;rw[hd'] at hd;cases hd
theorem Inv.funs (I:Inv X pins σ H s):s.heap.FunFrames X.base X.outer:=by
 have all:∀(l:List Env),(∀ b∈frs l,b∈X.fs)->X.s₀.heap.FunFrames X.base l->s.heap.FunFrames X.base l:=by
  intro l
  induction l with
  | nil=>intro _ _;trivial
  | cons env r ih =>
   intro hs hl
   obtain⟨hk,⟨L,o,hf,hn,ho,hd⟩,hr⟩:=hl
   have hL:L∈X.fs:=hs L (by unfold frs;rw[tf_,hf];exact p5_)
   obtain⟨sl,e⟩:=I.base.slot L o ho (I.ok.frf L hL) hL fun z=>I.ok.exfs L z hL
   exact⟨hk,⟨L,_,hf,hn,e,hd⟩,ih (fun b hb=>hs b (by unfold frs;rw[tf_,hf];exact pt_ _ hb)) hr⟩
 exact all X.outer (fun _ hb=>hb) I.ok.funs
theorem Inv.stack (I:Inv X pins σ H s):s.heap.FunFrames X.base X.stack:=by
 rcases I.ok.stk with e | ⟨e,hf⟩
 ·rw[e];exact I.funs
 ·rw[e]
  obtain⟨m,hn,_⟩:=I.loc
  refine .cons (by rw[I.ok.kind];decide) hf hn ?_ I.funs
  exact Heap.get?_none_of_le (qg_ I.ok.bsz I.ok.above)
theorem Inv.stkSub (I:Inv X pins σ H s):∀ b∈frs X.stack,b∈X.env.locals::X.fs:=fun b hb=>by
 rcases I.ok.stk with e | ⟨e,hf⟩
 ·rw[e] at hb;exact pt_ _ hb
 ·rw[e] at hb
  unfold frs at hb
  rw[tf_,hf] at hb
  exact hb
theorem Inv.stkFree (I:Inv X pins σ H s):∀ b∈frs X.stack,H b=none:=fun b hb=>by
 rcases pz_.mp (I.stkSub b hb) with e | hb
 ·rw[e];exact I.free
 ·obtain⟨_,o,ho,_⟩:=I.ok.funs.mem hb
  exact I.base.free b o ho (I.ok.frf b hb) fun z=>I.ok.exfs b z hb
theorem Inv.step {g':Array GenState} {t':Nat} {d':Drawn} {ch:List Addr} (I:Inv X pins σ H s)
  (hch:∀ b∈ch,(b∈X.ex∨X.s₀.heap.objs.size<=b)/\b≠X.env.locals/\(∀ x c,X.env.cells.lookup x=some c->c≠b)/\∀ p∈X.pn++pins,p.1≠b)
  (keep:∀ b o,b≠X.env.locals->b∉X.fs->b∉ch->s.heap.get? b=some o->H b=none->h'.get? b=some o)
  (slot:∀ b o,b≠X.env.locals->b∈X.fs->b∉ch->s.heap.get? b=some o->H b=none->∃ sl,h'.get? b=some { o with slots:=sl }) (free:∀ b o,b∉ch->s.heap.get? b=some o->H b=none->H' b=none)
  (there:∀ b o,b∉ch->s.heap.get? b=some o->∃ o',h'.get? b=some o')
  (tups:∀ b xs,H b=some (.tup xs)->H' b=some (.tup xs)) (frzs:∀ b o u,H b=some (.frz o u)->H' b=some (.frz o u)) (tbls:∀ b ps,H b=some (.tbl ps)->∃ more,H' b=some (.tbl (ps++more)))
  (ns:∀ m,s.heap.Ns X.env.locals m->h'.Ns X.env.locals m) (hok:HOk X.prog X.w H' h') (hg:AllBare g') :
  Inv X pins σ H' { s with heap:=h',gens:=g',drawn:=d',toks:=t' }:=by
 have neL:∀ b o,X.s₀.heap.get? b=some o->b≠X.env.locals:=fun b o e=>p3_ (p4_ (pu_ e) I.ok.above)
 have neC:∀ b o,X.s₀.heap.get? b=some o->b∉X.ex->b∉ch:=fun b o e hx hb=>by
  rcases (hch b hb).1 with z | z
  ·exact hx z
  ·exact absurd (p4_ (pu_ e) z) (s3_ _)
 have cellK:∀ x c,X.env.cells.lookup x=some c->∀ v,s.heap.IsCell c v->h'.IsCell c v:=fun x c e v ⟨o,ho,hd⟩=>by
  have nch:c∉ch:=fun z=>(hch c z).2.2.1 x c e rfl
  by_cases hc:c∈X.fs
  ·obtain⟨sl,q⟩:=slot c o (I.cne x c e) hc nch ho (I.freeC x c e)
   exact⟨_,q,hd⟩
  ·exact⟨o,keep c o (I.cne x c e) hc nch ho (I.freeC x c e),hd⟩
 refine⟨I.ok,I.os,hg,⟨fun b o e n hb hx=>?_,fun b o e n hb hx=>?_,fun b o e n hx=>?_,fun b o e hx=>?_,fun b xs e=>tups b xs (I.base.tups b xs e),fun b o xs e=>frzs b o xs (I.base.frzs b o xs e),fun b ps e=>?_⟩,?_,fun x c e=>?_,?_,fun x c e=>?_,fun p hp=>?_,hok,I.len⟩
 ·exact keep b o (neL b o e) hb (neC b o e hx) (I.base.keep b o e n hb hx) (I.base.free b o e n hx)
 ·obtain⟨sl,e1⟩:=I.base.slot b o e n hb hx
  obtain⟨sl',e2⟩:=slot b _ (neL b o e) hb (neC b o e hx) e1 (I.base.free b o e n hx)
  exact⟨sl',e2⟩
 ·obtain⟨o',e1⟩:=I.base.there b o e hx
  exact free b o' (neC b o e hx) e1 (I.base.free b o e n hx)
 ·obtain⟨o',e1⟩:=I.base.there b o e hx
  exact there b o' (neC b o e hx) e1
 ·obtain⟨m1,e1⟩:=I.base.tbls b ps e
  obtain⟨m2,e2⟩:=tbls b _ e1
  exact⟨m1++m2,by rw[e2,Array.append_assoc]⟩
 ·obtain⟨m,hn,hl⟩:=I.loc
  refine⟨m,ns m hn,fun i x v e1 e2 e3=>?_⟩
  obtain⟨u,r,l⟩:=hl i x v e1 e2 e3
  refine⟨u,r,?_⟩
  rcases l with l | ⟨k,c,e,z⟩
  ·exact .inl l
  ·exact .inr ⟨k,c,e,cellK x c e _ z⟩
 ·obtain⟨v,z⟩:=I.cell x c e
  exact⟨v,cellK x c e v z⟩
 ·obtain⟨m,⟨o,_,_,ho,_⟩,_⟩:=I.loc
  exact free _ o (fun z=>(hch _ z).2.1 rfl) ho I.free
 ·obtain⟨v,o,ho,hd⟩:=I.cell x c e
  exact free c o (fun z=>(hch c z).2.2.1 x c e rfl) ho (I.freeC x c e)
 ·obtain⟨e,n,ne,nf,d⟩:=I.pin p hp
  have nch:p.1∉ch:=fun z=>(hch p.1 z).2.2.2 p hp rfl
  exact⟨keep p.1 p.2 ne nf nch e n,free p.1 p.2 nch e n,ne,nf,d⟩
theorem Inv.un {t':Nat} (I:Inv X pins σ H s) (u:Un X.fs [] H H' s.heap h') (hok:HOk X.prog X.w H' h'):Inv X pins σ H' { s with heap:=h',toks:=t' }:=by
 obtain⟨m,⟨o,es,ep,ho,r⟩,_⟩:=id I.loc
 obtain⟨sl,hL⟩:=u.any ho I.free (by simp)
 exact I.step (g':=s.gens) (d':=s.drawn) (ch:=[]) (fun _ z=>nomatch z) (fun b o _ hb _ e n=>u.keep b o e n hb (by simp)) (fun b o _ hb _ e n=>u.slot b o e n hb (by simp)) (fun b o _ e n=>u.free b o e n (by simp)) (fun b o _ e=>u.there b o e (by simp)) u.tups u.frzs u.tbls (fun m' hm=>by
  obtain⟨o',es',ep',ho',r'⟩:=hm
  rw[ho] at ho';cases ho'
  exact⟨_,es',ep',hL,r'⟩) hok I.bare
theorem Inv.call {g':Array GenState} {t':Nat} {d':Drawn} {ch:List Addr} (I:Inv X pins σ H s) (u:Un (frs X.stack) ch H H' s.heap h') (hok:HOk X.prog X.w H' h') (hg:AllBare g')
  (hch:∀ b∈ch,(b∈X.ex∨X.s₀.heap.objs.size<=b)/\b≠X.env.locals/\(∀ x c,X.env.cells.lookup x=some c->c≠b)/\∀ p∈X.pn++pins,p.1≠b) :
  Inv X pins σ H' { s with heap:=h',gens:=g',drawn:=d',toks:=t' }:=by
 obtain⟨m,⟨o,es,ep,ho,r⟩,_⟩:=id I.loc
 obtain⟨sl,hL⟩:=u.any ho I.free fun z=>(hch _ z).2.1 rfl
 exact I.step (ch:=ch) hch (fun b o hL hb hc e n=>u.keep b o e n (fun z=>(pz_.mp (I.stkSub b z)).elim hL hb) hc) (fun b o _ _ hc e n=>u.any e n hc) (fun b o hc e n=>u.free b o e n hc) (fun b o hc e=>u.there b o e hc) u.tups u.frzs u.tbls (fun m' hm=>by
  obtain⟨o',es',ep',ho',r'⟩:=hm
  rw[ho] at ho';cases ho'
  exact⟨_,es',ep',hL,r'⟩) hok hg
theorem Inv.turned {t':Nat} {it:Addr} (I:Inv X pins σ H s) (k:∀ b o,b≠it->s.heap.get? b=some o->h'.get? b=some o) (hn:H it=none) (hL:it≠X.env.locals)
  (h1:it∈X.ex∨X.s₀.heap.objs.size<=it) (h2:∀ x c,X.env.cells.lookup x=some c->c≠it) (h3:∀ p∈X.pn++pins,p.1≠it):Inv X pins σ H { s with heap:=h',toks:=t' }:=by
 have nit:∀ b u,H b=some u->b≠it:=fun b u e z=>by rw[z,hn] at e;cases e
 refine I.step (g':=s.gens) (d':=s.drawn) (ch:=[it]) (fun b hb=>?_) (fun b o _ _ hc e _=>k b o (fun z=>hc (by simp[z])) e) (fun b o _ _ hc e _=>⟨o.slots,k b o (fun z=>hc (by simp[z])) e⟩) (fun _ _ _ _ n=>n)
  (fun b o hc e=>⟨o,k b o (fun z=>hc (by simp[z])) e⟩) (fun _ _ e=>e) (fun _ _ _ e=>e) (fun b ps e=>⟨#[],by rw[e];simp⟩) (fun m hm=>?_) (fun b u e=>?_) I.bare
 ·have e:b=it:=by simpa using hb
  subst e
  exact⟨h1,hL,h2,h3⟩
 ·obtain⟨o,es,ep,ho,r⟩:=hm
  exact⟨o,es,ep,k _ o (rq_ hL) ho,r⟩
 ·refine(I.hok b u e).stay (fun c v hc q=>k c v ?_ q) (fun _ q=>q) fun _ _ q=>q
  rcases hc with z | z
  ·rw[z];exact nit b u e
  ·exact nit c _ z
theorem Inv.tok (I:Inv X pins σ H s) (t:Nat):Inv X pins σ H { s with toks:=t }:=I.un (h':=s.heap) (t':=t) Un.refl I.hok
theorem Inv.kept {t':Nat} (I:Inv X pins σ H s) (k:∀ b u,s.heap.get? b=some u->h'.get? b=some u):Inv X pins σ H { s with heap:=h',toks:=t' }:=I.un (Un.kept k) (I.hok.kept k)
theorem Inv.laid {a:Addr} {o:HO} {t':Nat} (I:Inv X pins σ H s) (k:∀ b u,s.heap.get? b=some u->h'.get? b=some u) (hp:s.heap.objs.size<=a) (new:ObjOk X.prog X.w (upd H a o) h' a o) :
  Inv X pins σ (upd H a o) { s with heap:=h',toks:=t' }:=I.un (Un.laid k hp (I.hok.fresh hp)) (I.hok.laid k hp new)
theorem Inv.write {x e:Addr} {o:HO} {t':Nat} (I:Inv X pins σ H s) (mu:Mut (H x)) (he:e=x∨H e=some (.own x)) (k:∀ b u,b≠e->s.heap.get? b=some u->h'.get? b=some u) (heo:∃ u,h'.get? e=some u)
  (new:ObjOk X.prog X.w (upd H x o) h' x o):Inv X pins σ (upd H x o) { s with heap:=h',toks:=t' }:=I.un (Un.write mu he k heo) (I.hok.write mu he k heo new)
theorem Inv.pins_of {pins':List (Addr×Obj)} (I:Inv X pins σ H s) (h:∀ p∈pins',s.heap.get? p.1=some p.2/\H p.1=none/\p.1≠X.env.locals/\p.1∉X.fs/\∀ v,p.2.data≠.cell v):Inv X pins' σ H s :=
 ⟨I.ok,I.os,I.bare,I.base,I.loc,I.cell,I.free,I.freeC,fun p hp=>(p0_.mp hp).elim (fun z=>I.pin p (q5_ _ z)) (h p),I.hok,I.len⟩
theorem jdp_ {N:List Str} (hN:N.Nodup) {i j:Nat} {x:Str} (a:N[i]?=some x) (b:N[j]?=some x):i=j:=by
 obtain⟨h1,e1⟩:=pl_.mp a
 obtain⟨h2,e2⟩:=pl_.mp b
 exact(List.getElem_inj hN).mp (e1.trans e2.symm)
theorem jff_ {M:Model} {A:Around} {E:Value->Shared->Prop} {i:Nat} {x:Str} {v:V} {u:Value} {Q:Unit->Shared->Prop} (I:Inv X pins σ H s) (hN:X.N.Nodup) (hi:X.N[i]?=some x) (hx:Loc X.env.scope x) (r:RelV v u)
  (h:∀ s',Inv X pins (σ.set i (some v)) H s'->(∃ a,rv_ a s.heap s'.heap/\(a=X.env.locals∨X.env.cells.lookup x=some a))->Q () s') (hf:X.fn x=true∨X.env.scope.names.lookup x=some .local:=by first | exact .inl rfl | exact .inr rfl | assumption):wpAny M A (storeName X.env x u) Q E s:=by
 obtain⟨m,hn,hl⟩:=id I.loc
 have hcls:(X.env.scope.kind == .class || (X.env.scope.kind == .module&&X.env.locals != X.env.globals))=false:=by rw[I.ok.kind];rfl
 have hiσ:i < σ.length:=by rw[I.len];exact(pl_.mp hi).1
 have cne:=I.cne
 have tracked:∀{a:Addr} {h':Heap},(∃ o,s.heap.get? a=some o/\H a=none)->rv_ a s.heap h'->HOk X.prog X.w H h':=fun{a h'} ha hs b ob e=>by
  obtain⟨_,_,hfree⟩:=ha
  refine(I.hok b ob e).stay (fun c w' hc q=>(hs.2 c ?_).trans q) (fun _ q=>q) fun _ _ q=>q
  rintro rfl
  rcases hc with rfl | hc
  ·rw[hfree] at e;cases e
  ·rw[hfree] at hc;cases hc
 rcases hx with hk | hk
 ·refine wpAny_storeName_local hk hn (fun h' hn' hs=>?_) hcls
  obtain⟨oL,_,_,hoL,_⟩:=id hn
  refine h _ ⟨I.ok,I.os,I.bare,⟨fun b o e n hb hx=>?_,fun b o e n hb hx=>?_,I.base.free,fun b o e hx=>?_,I.base.tups,I.base.frzs,I.base.tbls⟩,⟨_,hn',fun j y v' e1 e2 e3=>?_⟩,fun y c e=>?_,I.free,I.freeC,fun p hp=>?_,tracked ⟨oL,hoL,I.free⟩ hs,by simpa using I.len⟩ ⟨_,hs,.inl rfl⟩
  ·exact(hs.2 b (p3_ (p4_ (pu_ e) I.ok.above))).trans (I.base.keep b o e n hb hx)
  ·obtain⟨sl,e1⟩:=I.base.slot b o e n hb hx
   exact⟨sl,(hs.2 b (p3_ (p4_ (pu_ e) I.ok.above))).trans e1⟩
  ·obtain⟨o',e1⟩:=I.base.there b o e hx
   exact⟨o',(hs.2 b (p3_ (p4_ (pu_ e) I.ok.above))).trans e1⟩
  ·by_cases hj:j=i
   ·subst hj
    rw[hi] at e1;cases e1
    rw[sq_ hiσ] at e2
    cases e2
    exact⟨u,r,.inl ⟨hk,by simp⟩⟩
   ·rw[s7_ (rq_ hj)] at e2
    obtain⟨u',r',q⟩:=hl j y v' e1 e2 e3
    refine⟨u',r',?_⟩
    rcases q with ⟨k,e⟩ | ⟨k,c,e,z⟩
    ·refine .inl ⟨k,?_⟩
     have:y≠x:=fun e=>hj (jdp_ hN e1 (e▸hi))
     simp[this,e]
    ·exact .inr ⟨k,c,e,z.sameBut hs (cne y c e)⟩
  ·obtain⟨w',z⟩:=I.cell y c e
   exact⟨w',z.sameBut hs (cne y c e)⟩
  ·obtain⟨e,n,ne,nf,d⟩:=I.pin p hp
   exact⟨(hs.2 p.1 ne).trans e,n,ne,nf,d⟩
 ·have hfn:X.fn x=true:=by
   rcases hf with z | z
   ·exact z
   ·rw[z] at hk;cases hk
  obtain⟨c,hc⟩:=I.ok.has x (.inl hk)
  obtain⟨w',z⟩:=I.cell x c hc
  refine wpAny_storeName_cell I.ok.kind hk hc z (fun h' hc' hs=>?_)
  obtain⟨oc,hoc,hocd⟩:=id z
  refine h { s with heap:=h' } ⟨I.ok,I.os,I.bare,⟨fun b o e n hb hx=>?_,fun b o e n hb hx=>?_,I.base.free,fun b o e hx=>?_,I.base.tups,I.base.frzs,I.base.tbls⟩,⟨m,hn.sameBut hs (rq_ (cne x c hc)),fun j y v' e1 e2 e3=>?_⟩,fun y c' e=>?_,I.free,I.freeC,fun p hp=>?_,tracked ⟨oc,hoc,I.freeC x c hc⟩ hs,by simpa using I.len⟩ ⟨c,hs,.inr hc⟩
  ·exact(hs.2 b (p3_ (p4_ (pu_ e) (I.ok.cab x c hfn hc)))).trans (I.base.keep b o e n hb hx)
  ·obtain⟨sl,e1⟩:=I.base.slot b o e n hb hx
   exact⟨sl,(hs.2 b (p3_ (p4_ (pu_ e) (I.ok.cab x c hfn hc)))).trans e1⟩
  ·obtain⟨o',e1⟩:=I.base.there b o e hx
   exact⟨o',(hs.2 b (p3_ (p4_ (pu_ e) (I.ok.cab x c hfn hc)))).trans e1⟩
  ·by_cases hj:j=i
   ·subst hj
    rw[hi] at e1;cases e1
    rw[sq_ hiσ] at e2
    cases e2
    exact⟨u,r,.inr ⟨.inl hk,c,hc,hc'⟩⟩
   ·rw[s7_ (rq_ hj)] at e2
    obtain⟨u',r',q⟩:=hl j y v' e1 e2 e3
    refine⟨u',r',?_⟩
    rcases q with q | ⟨k,c',e,z'⟩
    ·exact .inl q
    ·refine .inr ⟨k,c',e,z'.sameBut hs ?_⟩
     rintro rfl
     exact hj (jdp_ hN e1 (I.ok.inj _ _ _ e hc▸hi))
  ·by_cases hcc:c'=c
   ·subst hcc;exact⟨_,hc'⟩
   ·obtain⟨w2,z2⟩:=I.cell y c' e
    exact⟨w2,z2.sameBut hs hcc⟩
  ·obtain⟨e,n,ne,nf,d⟩:=I.pin p hp
   refine⟨(hs.2 p.1 ?_).trans e,n,ne,nf,d⟩
   intro q
   rw[q,hoc] at e
   have q':oc=p.2:=Option.some.inj e
   exact d w' (by rw[<- q'];exact hocd)
theorem u9_ {M:Model} {A:Around} {E:Value->Shared->Prop} {i:Nat} {x:Str} {v:V} {u:Value} {Q:Unit->Shared->Prop} (I:Inv X pins σ H s) (hN:X.N.Nodup) (hi:X.N[i]?=some x) (hx:Loc X.env.scope x) (r:RelV v u)
  (h:∀ s',Inv X pins (σ.set i (some v)) H s'->Q () s') (hf:X.fn x=true∨X.env.scope.names.lookup x=some .local:=by first | exact .inl rfl | exact .inr rfl | assumption):wpAny M A (storeName X.env x u) Q E s :=
 jff_ I hN hi hx r (fun s' I' _=>h s' I') hf
theorem Inv.call' {s':Shared} {ch:List Addr} (I:Inv X pins σ H s) (ho:s'.os=s.os) (u:Un (frs X.stack) ch H H' s.heap s'.heap) (hok:HOk X.prog X.w H' s'.heap) (hg:AllBare s'.gens)
  (hch:∀ b∈ch,(b∈X.ex∨X.s₀.heap.objs.size<=b)/\b≠X.env.locals/\(∀ x c,X.env.cells.lookup x=some c->c≠b)/\∀ p∈X.pn++pins,p.1≠b):Inv X pins σ H' s':=by
 obtain⟨h',g',d',t',o'⟩:=s'
 have e:o'=s.os:=ho
 subst e
 exact I.call (g':=g') (t':=t') (d':=d') u hok hg hch
end
abbrev XK:=Value->Option Addr->Hp->Prop
abbrev St:=List (Option V)
abbrev VK:=V->Hp->Prop
abbrev TE:=St->Hp->VK->Prop
abbrev TT:=St->Hp->(Bool->Hp->Prop)->Prop
abbrev TA:=St->Hp->(List V->Hp->Prop)->Prop
structure Ends where
 nx:St->Hp->Prop
 rt:VK
 bk:St->Hp->Prop:=fun _ _=>False
 ct:St->Hp->Prop:=fun _ _=>False
abbrev TS:=Ends->St->Hp->Prop
def EP (X:Cx) (pins:List (Addr×Obj)) (σ:St) (Q:VK) (u:Value) (s':Shared):Prop:=∃ v H',Inv X pins σ H' s'/\RelV v u/\Q v H'
def TP (X:Cx) (pins:List (Addr×Obj)) (σ:St) (Q:Bool->Hp->Prop) (b:Bool) (s':Shared):Prop:=∃ H',Inv X pins σ H' s'/\Q b H'
def AP (X:Cx) (pins:List (Addr×Obj)) (σ:St) (Q:List V->Hp->Prop) (us:List Value) (s':Shared):Prop:=∃ vs H',Inv X pins σ H' s'/\Vals vs us/\Q vs H'
def SP (X:Cx) (pins:List (Addr×Obj)) (D:Ends) (f:Flow) (s':Shared):Prop :=
 match f with
 | .next=>∃ σ' H',Inv X pins σ' H' s'/\D.nx σ' H'
 | .brk=>∃ σ' H',Inv X pins σ' H' s'/\D.bk σ' H'
 | .cont=>∃ σ' H',Inv X pins σ' H' s'/\D.ct σ' H'
 | .ret u=>∃ v σ' H',Inv X pins σ' H' s'/\RelV v u/\D.rt v H'
def PE (X:Cx) (e:Expr) (t:TE):Prop :=
 ∀(pins:List (Addr×Obj)) (s:Shared) (σ:St) (H:Hp) (Q:VK),Inv X pins σ H s->t σ H Q->wpAny (model X.prog X.w) X.A (eval e X.env) (EP X pins σ Q) X.xe s
def PT (X:Cx) (e:Expr) (t:TT):Prop :=
 ∀(pins:List (Addr×Obj)) (s:Shared) (σ:St) (H:Hp) (Q:Bool->Hp->Prop),Inv X pins σ H s->t σ H Q->wpAny (model X.prog X.w) X.A (isTrue e X.env (eval e X.env)) (TP X pins σ Q) X.xe s
def PW (X:Cx) (e:Expr) (t:TT):Prop :=
 ∀(whole:Sem Value) (pins:List (Addr×Obj)) (s:Shared) (σ:St) (H:Hp) (Q:Bool->Hp->Prop),Inv X pins σ H s->t σ H Q->wpAny (model X.prog X.w) X.A (isTrue e X.env whole) (TP X pins σ Q) X.xe s
theorem PW.pt {X:Cx} {e:Expr} {t:TT} (h:PW X e t):PT X e t:=h _
def PA (X:Cx) (es:List Expr) (t:TA):Prop :=
 ∀(pos:Pos) (pins:List (Addr×Obj)) (s:Shared) (σ:St) (H:Hp) (Q:List V->Hp->Prop),Inv X pins σ H s->t σ H Q->wpAny (model X.prog X.w) X.A (spliced (backTo pos (starEach es X.env))) (AP X pins σ Q) X.xe s
def PS (X:Cx) (st:Stmt) (t:TS):Prop :=
 ∀(pins:List (Addr×Obj)) (s:Shared) (σ:St) (H:Hp) (D:Ends),Inv X pins σ H s->t D σ H->wpAny (model X.prog X.w) X.A (exec st X.env) (SP X pins D) X.xe s
def PSs (X:Cx) (st:List Stmt) (t:TS):Prop :=
 ∀(pins:List (Addr×Obj)) (s:Shared) (σ:St) (H:Hp) (D:Ends),Inv X pins σ H s->t D σ H->wpAny (model X.prog X.w) X.A (execs st X.env) (SP X pins D) X.xe s
theorem thn {α:Type} {t:Sem α} {Q Q':α->Shared->Prop} {M:Model} {A:Around} {E:Value->Shared->Prop} {s:Shared} (h:wpAny M A t Q E s) (hQ:∀ a s,Q a s->Q' a s):wpAny M A t Q' E s:=wpAny_mono h hQ fun _ _ x=>x
end L2
namespace L2
open PySem PySem.Spec PyProof.Rows
section
variable {X:Cx}
theorem bin {a b:Expr} {ta tb:TE} (ha:PE X a ta) (hb:PE X b tb) {pins:List (Addr×Obj)} {s:Shared} {σ:St} {H:Hp} {R:V->V->Hp->Prop} (I:Inv X pins σ H s) (h:ta σ H fun x H1=>tb σ H1 fun y H2=>R x y H2)
  {α:Type} {Q:α->Shared->Prop} {f:Value->Value->Sem α}
  (hf:∀ v u s2 x y H2,Inv X pins σ H2 s2->RelV x v->RelV y u->R x y H2->wpAny (model X.prog X.w) X.A (f v u) Q X.xe s2) :
  wpAny (model X.prog X.w) X.A (eval a X.env) (fun v s₁=>wpAny (model X.prog X.w) X.A (eval b X.env) (fun u s₂=>wpAny (model X.prog X.w) X.A (f v u) Q X.xe s₂) X.xe s₁) X.xe s:=by
 refine thn (ha pins s σ H _ I h) fun v s1 ⟨x,H1,I1,r1,q1⟩=>?_
 refine thn (hb pins s1 σ H1 _ I1 q1) fun u s2 ⟨y,H2,I2,r2,q2⟩=>?_
 exact hf v u s2 x y H2 I2 r1 r2 q2
def tVar (i:Nat):TE:=fun σ H Q=>∃ v,σ[i]?=some (some v)/\Q v H
def tC (v:V):TE:=fun _ H Q=>Q v H
theorem pe_var {i:Nat} {x:Str} {pos:Pos} (hN:X.N[i]?=some x) (hv:Vis X.env.scope x) (hd:(x == ("__debug__":Str))=false:=by decide) (hcd:(x == ("__classdict__":Str))=false:=by decide):PE X (.Name x pos) (tVar i):=by
 intro pins s σ H Q I h
 obtain⟨v,e,h⟩:=h
 obtain⟨m,hn,hl⟩:=I.loc
 obtain⟨u,r,l⟩:=hl i x v hN e hv
 have fin:EP X pins σ Q u s:=⟨v,H,I,r,h⟩
 rcases l with ⟨hk,hm⟩ | ⟨hk,c,hc,hcell⟩
 ·exact wpAny_Name (wpAny_loadName_local I.ok.kind hk hn hm fin) hd
 ·rcases hk with hk | hk
  ·exact wpAny_Name (wpAny_loadName_cell I.ok.kind hk hc hcell fin) hd
  ·exact wpAny_Name (wpAny_loadName_free I.ok.kind hk hc hcell fin hcd) hd
theorem jd_ {i j pos}:PE X (.Constant (.int i) j pos) (tC (.int i)):=fun _ _ _ H _ I h=>wpAny_Constant_int ⟨.int i,H,I.tok _,⟨_,rfl⟩,h⟩
theorem jnu_ {b j pos}:PE X (.Constant (.bool b) j pos) (tC (.bl b)):=fun _ _ _ H _ I h=>Constant_bool ⟨.bl b,H,I,rfl,h⟩
theorem jaw_ {j pos}:PE X (.Constant .none j pos) (tC .non):=fun _ _ _ H _ I h=>Constant_none ⟨.non,H,I,rfl,h⟩
theorem j1_ {x j pos}:PE X (.Constant (.str x) j pos) (tC (.str x)):=fun _ _ _ H _ I h=>tk_ ⟨.str x,H,I.tok _,⟨_,rfl⟩,h⟩
def Gl (X:Cx) (x:Str):Prop:=X.env.kindOf x=some .globalImplicit
theorem x9_ {E:Value->Shared->Prop} {pins:List (Addr×Obj)} {s:Shared} {σ:St} {H:Hp} {x:Str} {u:Value} {pos:Pos} {Q:Value->Shared->Prop} (I:Inv X pins σ H s) (hg:Gl X x) (hm:X.mg x=some u) (h:Q u s)
  (hd:(x == ("__debug__":Str))=false:=by decide):wpAny (model X.prog X.w) X.A (eval (.Name x pos) X.env) Q E s :=
 wn_ I.ok.kind hg (Calls.loadGlobal_global (by rw[I.ok.glob];exact I.mod.glob.keeps I.bk) hm h) hd
theorem xs_ {E:Value->Shared->Prop} {pins:List (Addr×Obj)} {s:Shared} {σ:St} {H:Hp} {x:Str} {u:Value} {pos:Pos} {Q:Value->Shared->Prop} (I:Inv X pins σ H s) (hg:Gl X x) (hm:X.mg x=none) (hv:bootBuiltins x=some u) (h:Q u s)
  (hn:x≠"__name__":=by decide) (hd:(x == ("__debug__":Str))=false:=by decide):wpAny (model X.prog X.w) X.A (eval (.Name x pos) X.env) Q E s:=by
 obtain⟨mb,h1,h2⟩:=I.mod.blt
 exact wn_ I.ok.kind hg (Calls.loadGlobal_builtin (by rw[I.ok.glob];exact I.mod.glob.keeps I.bk) hm (by rw[I.ok.blt];exact h1.keeps I.bk) ((h2 x hn).trans hv) h) hd
theorem yp_ {x:Str} {v:V} {u:Value} {pos:Pos} (hg:Gl X x) (hm:X.mg x=some u) (r:RelV v u) (hd:(x == ("__debug__":Str))=false:=by decide):PE X (.Name x pos) (tC v) :=
 fun _ _ _ H _ I h=>x9_ I hg hm ⟨v,H,I,r,h⟩ hd
theorem jxr_ {x:Str} {v:V} {u:Value} {pos:Pos} (hg:Gl X x) (hm:X.mg x=none) (hv:bootBuiltins x=some u) (r:RelV v u) (hn:x≠"__name__":=by decide) (hd:(x == ("__debug__":Str))=false:=by decide):PE X (.Name x pos) (tC v) :=
 fun _ _ _ H _ I h=>xs_ I hg hm hv ⟨v,H,I,r,h⟩ hn hd
variable {a b:Expr} {ta tb:TE} {pos:Pos}
def PC (X:Cx) (op:CmpOp) (a b:Expr) (t:TE):Prop :=
 ∀(pins:List (Addr×Obj)) (s:Shared) (σ:St) (H:Hp) (Q:VK),Inv X pins σ H s->t σ H Q ->
  wpAny (model X.prog X.w) X.A (eval a X.env) (fun v s₁=>wpAny (model X.prog X.w) X.A (eval b X.env) (fun u s₂=>wpAny (model X.prog X.w) X.A (compareOp op v u) (EP X pins σ Q) X.xe s₂) X.xe s₁) X.xe s
def tB (t:TE):TT:=fun σ H Q=>t σ H fun x H1=>∃ c,x=.bl c/\Q c H1
theorem jmg_ {op:CmpOp} {t:TE} (h:PC X op a b t) (h1:behindInMarks op b=false:=by first | exact nobehind _ (by decide) (by decide) | rfl):PT X (.Compare a [op] [b] pos) (tB t):=by
 intro pins s σ H Q I hw
 refine wpAny_isTrue_Compare1 (thn (h pins s σ H _ I hw) fun v s1 h1=>thn h1 fun u s2 h2=>thn h2 fun c s3 ⟨x,H1,I1,r1,q1⟩=>?_) h1
 obtain⟨d,rfl,q⟩:=q1
 cases r1
 exact wpAny_truthy_bool ⟨H1,I1,q⟩
variable {tA tB':TT} {rest:List Expr}
def tAnd (t u:TT):TT:=fun σ H Q=>t σ H fun c H1=>if c=true then u σ H1 Q else Q false H1
def tOr (t u:TT):TT:=fun σ H Q=>t σ H fun c H1=>if c=true then Q true H1 else u σ H1 Q
def tNot (t:TT):TT:=fun σ H Q=>t σ H fun c H1=>Q (!c) H1
theorem jbx_ (ha:PT X a tA):PW X (.BoolOp .And [a] pos) tA:=by
 intro wh pins s σ H Q I h
 refine isTrue_and (thn (ha pins s σ H Q I h) fun c s1 e=>?_)
 cases c with
 | true=>exact isTrue_and_nil e
 | false=>exact e
theorem jhf_ (ha:PT X a tA):PW X (.BoolOp .Or [a] pos) tA:=by
 intro wh pins s σ H Q I h
 refine isTrue_or (thn (ha pins s σ H Q I h) fun c s1 e=>?_)
 cases c with
 | false=>exact isTrue_or_nil e
 | true=>exact e
theorem jaq_ (ha:PT X a tA) (hb:PW X (.BoolOp .And (b::rest) pos) tB'):PW X (.BoolOp .And (a::b::rest) pos) (tAnd tA tB'):=by
 intro wh pins s σ H Q I h
 refine isTrue_and (thn (ha pins s σ H _ I h) fun c s1 ⟨H1,I1,q1⟩=>?_)
 cases c with
 | true=>exact hb wh pins s1 σ H1 Q I1 q1
 | false=>exact⟨H1,I1,q1⟩
theorem jnj_ (ha:PT X a tA) (hb:PW X (.BoolOp .Or (b::rest) pos) tB'):PW X (.BoolOp .Or (a::b::rest) pos) (tOr tA tB'):=by
 intro wh pins s σ H Q I h
 refine isTrue_or (thn (ha pins s σ H _ I h) fun c s1 ⟨H1,I1,q1⟩=>?_)
 cases c with
 | true=>exact⟨H1,I1,q1⟩
 | false=>exact hb wh pins s1 σ H1 Q I1 q1
theorem jlp_ (ha:PT X a tA):PT X (.UnaryOp .Not a pos) (tNot tA):=by
 intro pins s σ H Q I h
 exact isTrue_not (ha pins s σ H (fun c H1=>Q (!c) H1) I h)
def jzj_ (ta tb:TE):TE:=fun σ H Q=>ta σ H fun x H1=>∃ c,x=.bl c/\if c=true then tb σ H1 Q else Q (.bl false) H1
theorem jvi_ {op} {t:TE} (h:PE X a t):PE X (.BoolOp op [a] pos) t:=fun pins s σ H Q I hw=>BoolOp_one (h pins s σ H Q I hw)
theorem jtb_ (ha:PE X a ta) (hb:PE X (.BoolOp .And (b::rest) pos) tb):PE X (.BoolOp .And (a::b::rest) pos) (jzj_ ta tb):=by
 intro pins s σ H Q I h
 refine BoolOp_and (thn (ha pins s σ H _ I h) fun v s1 ⟨x,H1,I1,r1,q1⟩=>?_)
 obtain⟨c,rfl,q1⟩:=q1
 cases r1
 refine wpAny_truthy_bool ?_
 cases c with
 | true=>exact hb pins s1 σ H1 Q I1 q1
 | false=>exact⟨.bl false,H1,I1,rfl,q1⟩
def tIf (t:TT) (ta tb:TE):TE:=fun σ H Q=>t σ H fun c H1=>if c=true then ta σ H1 Q else tb σ H1 Q
theorem jiv_ {c:Expr} (hc:PT X c tA) (ha:PE X a ta) (hb:PE X b tb):PE X (.IfExp c a b pos) (tIf tA ta tb):=by
 intro pins s σ H Q I h
 refine wpAny_IfExp (thn (hc pins s σ H _ I h) fun d s1 ⟨H1,I1,q1⟩=>?_)
 cases d with
 | true=>exact ha pins s1 σ H1 Q I1 q1
 | false=>exact hb pins s1 σ H1 Q I1 q1
end
end L2
namespace L2
open PySem PySem.Spec PyProof.Rows
def SqL (K:pb_) (H:Hp) (a:Addr) (xs:List V):Prop :=
 Rd H a (.lst xs) ∨
  ∃(o:Obj) (its:Array Value) (n:Nat),K.lookup a=some o/\o.cls=.type "list"/\o.dict=none/\o.data=.seq its n/\its.size<=sizeLine/\Vals xs its.toList
def SqT (K:pb_) (H:Hp) (a:Addr) (xs:List V):Prop :=
 Rd H a (.tup xs) ∨
  ∃(o:Obj) (its:Array Value) (n:Nat),K.lookup a=some o/\o.cls=.type "tuple"/\o.data=.seq its n/\its.size<=sizeLine/\Vals xs its.toList
def absV:Value->Option V
 | .none=>some .non
 | .bool b=>some (.bl b)
 | .int i _=>some (.int i)
 | .str x _=>some (.str x)
 | .bytes b _=>some (.byt b)
 | .float b _=>some (.flt b)
 | .ref a=>some (.ref a)
 | .type n=>some (.ty n)
 | _=>none
theorem RelV.abs {x:V} {u:Value} (r:RelV x u):absV u=some x:=by
 cases x with
 | non=>cases r;rfl
 | bl _=>cases r;rfl
 | int _=>obtain⟨t,rfl⟩:=r;rfl
 | str _=>obtain⟨t,rfl⟩:=r;rfl
 | byt _=>obtain⟨t,rfl⟩:=r;rfl
 | flt _=>obtain⟨t,rfl⟩:=r;rfl
 | ref _=>cases r;rfl
 | ty _=>cases r;rfl
theorem RelV.inj {x y:V} {u:Value} (r:RelV x u) (q:RelV y u):x=y:=Option.some.inj (r.abs.symm.trans q.abs)
theorem Vals.inj:∀{xs ys:List V} {us:List Value},Vals xs us->Vals ys us->xs=ys
 | _,_,_,.nil,.nil=>rfl
 | _,_,_,.cons r t,.cons r' t'=>by rw[r.inj r',Vals.inj t t']
section
variable {X:Cx} {pins:List (Addr×Obj)} {σ:St} {H:Hp} {s:Shared} {a:Addr} {xs ys:List V}
theorem SqL.of {K:pb_} (h:H a=some (.lst xs)):SqL K H a xs:=.inl (.inl h)
theorem SqT.of {K:pb_} (h:H a=some (.tup xs)):SqT K H a xs:=.inl (.inl h)
theorem Inv.list (I:Inv X pins σ H s) (h:SqL X.K H a xs):∃ its:List Value,Vals xs its/\PlainL s.heap a its.toArray/\xs.length<=sizeLine:=by
 rcases h with h | ⟨o,its,n,hk,hc,hd,hs,hz,r⟩
 ·obtain⟨z,its,n,r,e⟩:=h.ok I.hok
  exact⟨its,r,⟨_,n,e,rfl,rfl,rfl⟩,z⟩
 ·refine⟨its.toList,r,⟨o,n,I.kIn a o hk,hc,hd,by simpa using hs⟩,?_⟩
  have e:=r.length
  simp only[sk_] at e
  omega
theorem Inv.tuple (I:Inv X pins σ H s) (h:SqT X.K H a xs):∃ its:List Value,Vals xs its/\IsTup s.heap a its.toArray/\xs.length<=sizeLine:=by
 rcases h with h | ⟨o,its,n,hk,hc,hs,hz,r⟩
 ·obtain⟨z,its,r,p⟩:=h.ok I.hok
  exact⟨its,r,p,z⟩
 ·refine⟨its.toList,r,⟨o,I.kIn a o hk,hc,n,by simpa using hs⟩,?_⟩
  have e:=r.length
  simp only[sk_] at e
  omega
theorem Inv.list_inj (I:Inv X pins σ H s) (h:SqL X.K H a xs) (h':SqL X.K H a ys):xs=ys:=by
 obtain⟨its,r,⟨o,n,e,_,_,d⟩,_⟩:=I.list h
 obtain⟨its',r',⟨o',n',e',_,_,d'⟩,_⟩:=I.list h'
 rw[e] at e';cases e'
 rw[d] at d'
 injection d' with d1 _
 have:its=its':=by simpa using congrArg kp_ d1
 subst this
 exact r.inj r'
theorem Inv.tuple_inj (I:Inv X pins σ H s) (h:SqT X.K H a xs) (h':SqT X.K H a ys):xs=ys:=by
 obtain⟨its,r,⟨o,e,_,n,d⟩,_⟩:=I.tuple h
 obtain⟨its',r',⟨o',e',_,n',d'⟩,_⟩:=I.tuple h'
 rw[e] at e';cases e'
 rw[d] at d'
 injection d' with d1 _
 have:its=its':=by simpa using congrArg kp_ d1
 subst this
 exact r.inj r'
end
abbrev Cx.wish (X:Cx) (E:Value->Shared->Prop):Cx:={ X with xe:=E }
abbrev Cx.nox (X:Cx):Cx:=X.wish fun _ _=>False
theorem Cx.Ok.wish {X:Cx} (ok:X.Ok) (E:Value->Shared->Prop):(X.wish E).Ok :=
 ⟨ok.mod,ok.kind,ok.glob,ok.blt,ok.above,ok.inj,ok.has,ok.cab,ok.hd,ok.frames,ok.stk,ok.exf,ok.bs,ok.bsz,ok.noex,ok.exfs,ok.funs,ok.frf⟩
theorem Cx.Ok.unwish {X:Cx} {E:Value->Shared->Prop} (ok:(X.wish E).Ok):X.Ok :=
 ⟨ok.mod,ok.kind,ok.glob,ok.blt,ok.above,ok.inj,ok.has,ok.cab,ok.hd,ok.frames,ok.stk,ok.exf,ok.bs,ok.bsz,ok.noex,ok.exfs,ok.funs,ok.frf⟩
section
variable {X:Cx} {pins:List (Addr×Obj)} {σ:St} {H:Hp} {s:Shared} {E:Value->Shared->Prop}
theorem Inv.wish (I:Inv X pins σ H s) (E:Value->Shared->Prop):Inv (X.wish E) pins σ H s:=⟨I.ok.wish E,I.os,I.bare,I.base,I.loc,I.cell,I.free,I.freeC,I.pin,I.hok,I.len⟩
theorem Inv.unwish (I:Inv (X.wish E) pins σ H s):Inv X pins σ H s:=⟨I.ok.unwish,I.os,I.bare,I.base,I.loc,I.cell,I.free,I.freeC,I.pin,I.hok,I.len⟩
theorem SP.unwish {D:Ends} {f:Flow} {s':Shared} (h:SP (X.wish E) pins D f s'):SP X pins D f s':=by
 cases f with
 | next=>obtain⟨σ',H',I,q⟩:=h;exact⟨σ',H',I.unwish,q⟩
 | brk=>obtain⟨σ',H',I,q⟩:=h;exact⟨σ',H',I.unwish,q⟩
 | cont=>obtain⟨σ',H',I,q⟩:=h;exact⟨σ',H',I.unwish,q⟩
 | ret u=>obtain⟨v,σ',H',I,r,q⟩:=h;exact⟨v,σ',H',I.unwish,r,q⟩
theorem PSs.nox {st:List Stmt} {t:TS} (h:PSs X.nox st t):PSs X st t:=fun pins s σ H D I hw =>
 wpAny_mono (h pins s σ H D (I.wish _) hw) (fun _ _ q=>q.unwish) fun _ _ z=>rk_ z
end
section
variable {X:Cx} {st:Stmt} {rest:List Stmt} {t u:TS} {e:Expr} {te:TE} {pos:Pos}
def jzi_:TS:=fun D σ H=>D.nx σ H
def tSeq (t u:TS):TS:=fun D σ H=>t { D with nx:=u D } σ H
theorem j2_:PSs X [] jzi_:=fun _ _ σ H _ I h=>wpAny_execs_nil ⟨σ,H,I,h⟩
theorem je_ (h1:PS X st t) (h2:PSs X rest u):PSs X (st::rest) (tSeq t u):=by
 intro pins s σ H D I h
 refine wpAny_execs_cons (thn (h1 pins s σ H { D with nx:=u D } I h) fun f s1 q=>?_)
 cases f with
 | next =>
  obtain⟨σ',H',I',q⟩:=q
  exact h2 pins s1 σ' H' D I' q
 | ret v=>exact q
 | brk=>exact q
 | cont=>exact q
theorem jh_ (h1:PS X st t):PSs X [st] t:=by
 intro pins s σ H D I h
 refine wpAny_execs_cons (thn (h1 pins s σ H D I h) fun f s1 q=>?_)
 cases f with
 | next=>exact wpAny_execs_nil q
 | ret v=>exact q
 | brk=>exact q
 | cont=>exact q
theorem Inv.quiet {pins:List (Addr×Obj)} {σ:St} {H:Hp} {s:Shared} (I:Inv X pins σ H s):interactive X.env=false:=by simp[interactive,I.ok.kind]
def jzl_ (te:TE):TS:=fun D σ H=>te σ H fun _ H1=>D.nx σ H1
theorem zq_ (he:PE X e te) (hs:swapsWith e none pos.line X.env=pure false:=by rfl):PS X (.Expr e pos) (jzl_ te):=by
 intro pins s σ H D I h
 exact wpAny_Expr_any (thn (he pins s σ H _ I h) fun v s1 ⟨x,H1,I1,r1,q1⟩=>⟨σ,H1,I1,q1⟩) I.quiet hs
def tRet (te:TE):TS:=fun D σ H=>te σ H D.rt
theorem jr_ (he:PE X e te):PS X (.Return (some e) pos) (tRet te):=by
 intro pins s σ H D I h
 exact wpAny_Return_some (thn (he pins s σ H _ I h) fun v s1 ⟨x,H1,I1,r1,q1⟩=>⟨x,σ,H1,I1,r1,q1⟩)
def tIfS (c:TT) (t u:TS):TS:=fun D σ H=>c σ H fun b H1=>if b=true then t D σ H1 else u D σ H1
theorem ze_ {c:Expr} {a b:List Stmt} {tc:TT} (hc:PT X c tc) (ha:PSs X a t) (hb:PSs X b u):PS X (.If c a b pos) (tIfS tc t u):=by
 intro pins s σ H D I h
 refine wpAny_If (thn (hc pins s σ H _ I h) fun d s1 ⟨H1,I1,q1⟩=>?_)
 cases d with
 | true=>exact ha pins s1 σ H1 D I1 q1
 | false=>exact hb pins s1 σ H1 D I1 q1
def tNever:TS:=fun _ _ _=>False
theorem u0_:PS X st tNever:=fun _ _ _ _ _ _ h=>h.elim
end
abbrev TG:=V->St->Hp->(St->Hp->Prop)->Prop
abbrev TGs:=List V->St->Hp->(St->Hp->Prop)->Prop
def PG (X:Cx) (target:Expr) (t:TG):Prop :=
 ∀(pins:List (Addr×Obj)) (s:Shared) (σ:St) (H:Hp) (v:V) (u:Value) (Q:St->Hp->Prop),Inv X pins σ H s->RelV v u->t v σ H Q ->
  wpAny (model X.prog X.w) X.A (assign target X.env u) (fun _ s'=>∃ σ' H',Inv X pins σ' H' s'/\Q σ' H') X.xe s
def PGs (X:Cx) (ts:List Expr) (t:TGs):Prop :=
 ∀(pins:List (Addr×Obj)) (s:Shared) (σ:St) (H:Hp) (vs:List V) (us:List Value) (Q:St->Hp->Prop),Inv X pins σ H s->Vals vs us->t vs σ H Q ->
  wpAny (model X.prog X.w) X.A (assignInOrder ((assignEach ts X.env).map (·.2)) us) (fun _ s'=>∃ σ' H',Inv X pins σ' H' s'/\Q σ' H') X.xe s
abbrev TSet:=V->V->V->Hp->(Hp->Prop)->Prop
def PSet (X:Cx) (t:TSet):Prop :=
 ∀(pins:List (Addr×Obj)) (s:Shared) (σ:St) (H:Hp) (o i v:V) (ov iv u:Value) (Q:Hp->Prop),Inv X pins σ H s->RelV o ov->RelV i iv->RelV v u->t o i v H Q ->
  wpAny (model X.prog X.w) X.A (setItem ov iv u) (fun _ s'=>∃ H',Inv X pins σ H' s'/\Q H') X.xe s
section
variable {X:Cx} {pos:Pos}
def jnk_ (i:Nat):TG:=fun v σ H Q=>Q (σ.set i (some v)) H
theorem jm_ {i:Nat} {x:Str} (hN:X.N.Nodup) (hi:X.N[i]?=some x) (hx:Loc X.env.scope x) (hf:X.fn x=true∨X.env.scope.names.lookup x=some .local:=by first | exact .inl rfl | exact .inr rfl | assumption):PG X (.Name x pos) (jnk_ i):=by
 intro pins s σ H v u Q I r h
 exact wpAny_assign_Name (u9_ I hN hi hx r (fun s' I'=>⟨_,H,I',h⟩) hf)
def gNil:TGs:=fun vs σ H Q=>vs=[]/\Q σ H
def jyz_ (t:TG) (u:TGs):TGs:=fun vs σ H Q=>∃ v r,vs=v::r/\t v σ H fun σ' H'=>u r σ' H' Q
theorem z7_:PGs X [] gNil:=by
 intro pins s σ H vs us Q I r h
 obtain⟨e,h⟩:=h
 subst e
 cases r
 exact assignInOrder_nil ⟨σ,H,I,h⟩
theorem jy_ {e:Expr} {es:List Expr} {t:TG} {u:TGs} (h1:PG X e t) (h2:PGs X es u)
  (hs:(assignEach (e::es) X.env).map (·.2)=assign e X.env::(assignEach es X.env).map (·.2):=by rfl):PGs X (e::es) (jyz_ t u):=by
 intro pins s σ H vs us Q I r h
 obtain⟨v,vr,e1,h⟩:=h
 subst e1
 cases r with
 | cons r rr =>
  rw[hs]
  refine assignInOrder_cons (thn (h1 pins s σ H _ _ _ I r h) fun _ s1 ⟨σ1,H1,I1,q1⟩=>?_)
  exact h2 pins s1 σ1 H1 _ _ Q I1 rr q1
def gTup (K:pb_) (n:Nat) (t:TGs):TG:=fun v σ H Q=>∃ a xs,v=.ref a/\SqT K H a xs/\xs.length=n/\t xs σ H Q
theorem yu_ {es:List Expr} {k:Nat} {t:TGs} {n:Nat} (hc:X.calm=true) (h:PGs X es t)
  (hn:(assignEach es X.env).length=n:=by rfl) (hst:(assignEach es X.env).findIdx? (·.1)=none:=by rfl):PG X (.Tuple es k pos) (gTup X.K n t):=by
 intro pins s σ H v u Q I r hw
 obtain⟨a,xs,e1,hq,hl,hw⟩:=hw
 subst e1
 cases r
 obtain⟨its,rv,ht,hz⟩:=I.tuple hq
 refine assign_Tuple_tuple (I.ok.hd hc) ht (by simp[hn,<- hl,rv.length]) hst fun h' hx=>?_
 have I1:Inv X pins σ H { s with heap:=h' }:=I.kept (t':=s.toks) fun b o e=>hx b o (p3_ (pu_ e)) e
 exact h pins _ σ H xs _ Q I1 (by simpa using rv) hw
def gSub (to ti:TE) (t:TSet):TG:=fun v σ H Q=>to σ H fun o H1=>ti σ H1 fun i H2=>t o i v H2 fun H3=>Q σ H3
theorem jgp_ {o i:Expr} {to ti:TE} {t:TSet} (ho:PE X o to) (hi:PE X i ti) (hs:PSet X t)
  (ha:∀ v,assign (.Subscript o i pos) X.env v=(do
   let ov <- holding [v] (eval o X.env)
   let iv <- holding [v,ov] (eval i X.env)
   standAt pos
   holding [v,ov,iv] (setItem ov iv v)
   release [v,ov,iv] []):=by intro _;rfl):PG X (.Subscript o i pos) (gSub to ti t):=by
 intro pins s σ H v u Q I r h
 rw[ha]
 refine wpAny_bind (wpAny_holding (thn (ho pins s σ H _ I h) fun ov s1 ⟨x,H1,I1,r1,q1⟩=>?_))
 refine wpAny_bind (wpAny_holding (thn (hi pins s1 σ H1 _ I1 q1) fun iv s2 ⟨y,H2,I2,r2,q2⟩=>?_))
 refine wpAny_bind (wpAny_standAt (wpAny_bind (wpAny_holding (thn (hs pins s2 σ H2 x y v ov iv u _ I2 r1 r2 r q2) fun _ s3 ⟨H3,I3,q3⟩=>?_))))
 exact wpAny_release ⟨σ,H3,I3,q3⟩
def tAsg (te:TE) (g:TG):TS:=fun D σ H=>te σ H fun x H1=>g x σ H1 D.nx
theorem jdc_ {tg e:Expr} {te:TE} {g:TG} (he:PE X e te) (hg:PG X tg g) (hs:swapsWithSole [tg] e pos.line X.env=pure false:=by rfl) (hw:swappedStores [tg] e X.env=pure none:=by rfl)
  (h1:(assignEach [tg] X.env).map (·.2)=[assign tg X.env]:=by rfl):PS X (.Assign [tg] e pos) (tAsg te g):=by
 intro pins s σ H D I h
 refine wpAny_Assign_stores (thn (he pins s σ H _ I h) fun v s1 ⟨x,H1,I1,r1,q1⟩=>?_) hs hw
 rw[h1]
 exact thn (hg pins s1 σ H1 x v _ I1 r1 q1) fun _ s2 q=>q
theorem jk_ {i:Nat} {x:Str} {e:Expr} {te:TE} {pos':Pos} (hN:X.N.Nodup) (hi:X.N[i]?=some x) (hx:Loc X.env.scope x) (he:PE X e te) (hs:swapsWith e (some (.Name x pos')) pos.line X.env=pure false:=by rfl) (hf:X.fn x=true∨X.env.scope.names.lookup x=some .local:=by first | exact .inl rfl | exact .inr rfl | assumption) :
  PS X (.Assign [.Name x pos'] e pos) (tAsg te (jnk_ i)):=by
 intro pins s σ H D I h
 refine wpAny_Assign_Name (thn (he pins s σ H _ I h) fun v s1 ⟨y,H1,I1,r1,q1⟩=>?_) hs
 exact u9_ I1 hN hi hx r1 (fun s2 I2=>⟨_,H1,I2,q1⟩) hf
end
section
variable {X:Cx} {pos:Pos}
def jse_ (c:TT) (tb:TS):TS:=fun D σ H=>∃ W:Nat->St->Hp->Prop,(∃ m,W m σ H)/\∀ m σ H,W m σ H ->
 c σ H fun b H1=>if b=true then ∃ N:St->Hp->Prop,(∀ σ' H',N σ' H'->∃ m',m' < m/\W m' σ' H')/\tb { D with nx:=N,ct:=N,bk:=D.nx } σ H1 else D.nx σ H1
theorem jdo_ {c:Expr} {body:List Stmt} {tc:TT} {tb:TS} (hp:PassesOwn (model X.prog X.w) X.A X.env X.xe) (hc:PT X c tc) (hb:PSs X body tb):PS X (.While c body [] pos) (jse_ tc tb):=by
 intro pins s σ H D I h
 obtain⟨W,⟨m0,w0⟩,turn⟩:=h
 refine wpAny_While (codeAny_whileLoop (fun n s'=>∃ σ' H',Inv X pins σ' H' s'/\W n σ' H') ?_ m0 ⟨σ,H,I,w0⟩)
 rintro n s1 ⟨σ1,H1,I1,w1⟩
 refine wpAny_passesOwn hp (thn (hc pins s1 σ1 H1 _ I1 (turn n σ1 H1 w1)) fun b s2 ⟨H2,I2,q2⟩=>?_)
 cases b with
 | true =>
  obtain⟨N,hN,q2⟩:=q2
  rw[if_pos rfl]
  refine wpAny_passesOwn hp (thn (hb pins s2 σ1 H2 _ I2 q2) fun f s3 q3=>?_)
  cases f with
  | next =>
   obtain⟨σ3,H3,I3,n3⟩:=q3
   obtain⟨m',hm,w3⟩:=hN σ3 H3 n3
   exact⟨m',hm,σ3,H3,I3,w3⟩
  | cont =>
   obtain⟨σ3,H3,I3,n3⟩:=q3
   obtain⟨m',hm,w3⟩:=hN σ3 H3 n3
   exact⟨m',hm,σ3,H3,I3,w3⟩
  | brk=>exact q3
  | ret v=>exact q3
 | false =>
  rw[if_neg ph_]
  exact wpAny_execs_nil ⟨σ1,H2,I2,q2⟩
end
structure It where
 go:Nat->Hp->Prop
 yld:Nat->Hp->V->Hp->Prop
 stop:Nat->Hp->Prop
def FpOk (X:Cx) (pins:List (Addr×Obj)) (H:Hp) (b:Addr):Prop :=
 H b=none/\b≠X.env.locals/\b∉X.fs/\(b∈X.ex∨X.s₀.heap.objs.size<=b)/\(∀ x c,X.env.cells.lookup x=some c->c≠b)/\∀ p∈X.pn++pins,p.1≠b
theorem Inv.fpOk {X:Cx} {pins:List (Addr×Obj)} {σ:St} {H H':Hp} {s:Shared} {b:Addr} (I:Inv X pins σ H s) (hb:s.heap.objs.size<=b) (hn:H' b=none):FpOk X pins H' b:=by
 refine⟨hn,kq_ (p4_ I.lt hb),I.nofs hb,.inr (qg_ I.sz hb),fun x c e z=>?_,fun p hp z=>?_⟩
 ·obtain⟨v,q⟩:=I.cell x c e
  exact absurd (p4_ q.lt (by rw[z];exact hb)) (s3_ _)
 ·exact absurd (p4_ (pu_ (I.pin p hp).1) (by rw[z];exact hb)) (s3_ _)
structure Turn (P:Program) (w:World) (K:pb_) (tg:Expr) (J:It) (fp:List Addr) (it:Addr) (tn:Nat->Heap->Prop):Prop where
 mem:it∈fp
 obj:∀ i h,tn i h->∀ b∈fp,∃ o,h.get? b=some o/\∀ v,o.data≠.cell v
 keep:∀ i h h',tn i h->(∀ b∈fp,∀ o,h.get? b=some o->h'.get? b=some o)->tn i h'
 item:∀(X:Cx),X.prog=P->X.w=w->X.K=K->X.calm=true->∀(i:Nat) (pins:List (Addr×Obj)) (s:Shared) (σ:St) (H:Hp) (E:Value->Shared->Prop),Inv X pins σ H s->(∀ b∈fp,FpOk X pins H b)->tn i s.heap->J.go i H ->
  wpAny (model P w) X.A (pyNext (.ref it)) (fun r s1=>∃ u,r=some u /\
   wpAny (model P w) X.A (letOwnedTupleGo tg (.ref it) u) (fun _ s2=>∃ x H',Inv X pins σ H' s2/\RelV x u/\J.yld i H x H'/\tn (i+1) s2.heap/\∀ b∈fp,H' b=none) E s1) E s
 done:∀(X:Cx),X.prog=P->X.w=w->X.K=K->X.calm=true->∀(i:Nat) (pins:List (Addr×Obj)) (s:Shared) (σ:St) (H:Hp) (E:Value->Shared->Prop),Inv X pins σ H s->(∀ b∈fp,FpOk X pins H b)->tn i s.heap->J.stop i H ->
  wpAny (model P w) X.A (pyNext (.ref it)) (fun r s1=>r=none/\Inv X pins σ H s1) E s
 self:∀(A:Around) (i:Nat) (s:Shared) (Q:Value->Shared->Prop) (E:Value->Shared->Prop),tn i s.heap->Q (.ref it) s->wpAny (model P w) A (pyIter (.ref it)) Q E s
abbrev TI:=St->Hp->(It->Hp->Prop)->Prop
def PIE (X:Cx) (pins:List (Addr×Obj)) (σ:St) (tg:Expr) (R:It->Hp->Prop) (itv:Value) (s2:Shared):Prop :=
 ∃(it:Addr) (fp:List Addr) (tn:Nat->Heap->Prop) (J:It) (H':Hp),itv=.ref it/\Inv X pins σ H' s2/\Turn X.prog X.w X.K tg J fp it tn/\tn 0 s2.heap/\(∀ b∈fp,FpOk X pins H' b)/\R J H'
def PI (X:Cx) (tg iter:Expr) (wi:TI):Prop :=
 ∀(pins:List (Addr×Obj)) (s:Shared) (σ:St) (H:Hp) (R:It->Hp->Prop),Inv X pins σ H s->wi σ H R ->
  wpAny (model X.prog X.w) X.A (eval iter X.env) (fun v s1=>wpAny (model X.prog X.w) X.A (pyIter v) (PIE X pins σ tg R) X.xe s1) X.xe s
theorem jfn_ {M:Model} {A:Around} {E:Value->Shared->Prop} {s:Shared} {tg:Expr} {it:Addr} {u:Value} {o:Obj} {n:String} {vs:Array Value} {Q:Unit->Shared->Prop} (ho:s.heap.get? it=some o) (hc:o.cls=.type n) (hd:o.data=.fields vs)
  (hn:["enumerate","zip","dict_itemiterator","dict_reverseitemiterator","odict_iterator","itertools.zip_longest","itertools.pairwise"].contains n=false) (hQ:Q () s):wpAny M A (letOwnedTupleGo tg (.ref it) u) Q E s:=by
 unfold letOwnedTupleGo
 cases tg <;> first
  | exact wpAny_pure hQ
  | (cases u <;> first
    | exact wpAny_pure hQ
    | (refine wpAny_bind (wpAny_load ho ?_)
       rw[hc,hd]
       show wpAny M A (if (["enumerate","zip","dict_itemiterator","dict_reverseitemiterator","odict_iterator","itertools.zip_longest","itertools.pairwise"].contains n&&vs[0]? == some (rawInt _))=true then _ else _) Q E s
       rw[if_neg (by intro h;rw[hn,r8_] at h;cases h)]
       exact wpAny_pure hQ))
def Itl (K:pb_) (a:Addr):It :=
 ⟨fun i H=>∃ xs x,SqL K H a xs/\xs[i]?=some x,fun i H x H'=>H'=H/\∀ xs,SqL K H a xs->xs[i]?=some x,fun i H=>∃ xs,SqL K H a xs/\xs.length<=i⟩
def Itt (K:pb_) (a:Addr):It :=
 ⟨fun i H=>∃ xs x,SqT K H a xs/\xs[i]?=some x,fun i H x H'=>H'=H/\∀ xs,SqT K H a xs->xs[i]?=some x,fun i H=>∃ xs,SqT K H a xs/\xs.length<=i⟩
def Itr (lo:Int) (n:Nat):It:=⟨fun i _=>i < n,fun i H x H'=>H'=H/\x=.int (lo+i),fun i _=>n<=i⟩
theorem jpm_ {P:Program} {w:World} {K:pb_} {tg:Expr} (a it:Addr):Turn P w K tg (Itl K a) [it] it (fun i h=>h.IsListIter it a i) where
 mem:=by simp
 obj:=fun i h st b hb=>by
  have e:b=it:=by simpa using hb
  subst e
  obtain⟨o,e,c,d⟩:=st
  exact⟨o,e,fun v z=>by rw[d] at z;cases z⟩
 keep:=fun i h h' st k=>st.at fun o e=>k it (by simp) o e
 item:=by
  intro X hP hw hK hc i pins s σ H E I hf st hg
  subst hP hw hK
  obtain⟨xs,x,hq,hx⟩:=hg
  obtain⟨its,rv,p,hz⟩:=I.list hq
  obtain⟨u,hu,ru⟩:=rv.get hx
  obtain⟨f0,f1,f2,f3,f4,f5⟩:=hf it (by simp)
  refine wpAny_pyNext_list_item st p.isList (x:=u) (by simpa using hu) fun h' st' sb=>?_
  have I1:Inv X pins σ H { s with heap:=h' }:=I.turned (t':=s.toks) (fun b o hb e=>(sb.2 b hb).trans e) f0 f1 f3 f4 f5
  obtain⟨o,e,c,d⟩:=id st'
  exact⟨u,rfl,jfn_ (s:={ s with heap:=h' }) e c d (by decide) ⟨x,H,I1,ru,⟨rfl,fun ys hy=>by rw[I.list_inj hy hq];exact hx⟩,st',fun b hb=>(hf b hb).1⟩⟩
 done:=by
  intro X hP hw hK hc i pins s σ H E I hf st hg
  subst hP hw hK
  obtain⟨xs,hq,hx⟩:=hg
  obtain⟨its,rv,p,hz⟩:=I.list hq
  obtain⟨f0,f1,f2,f3,f4,f5⟩:=hf it (by simp)
  have hl:=rv.length
  exact wpAny_pyNext_list_end (I.ok.hd hc) st p.isList (by simp;omega) fun h' eb=>⟨rfl,I.turned (t':=s.toks) (fun b o hb e=>eb b o hb e) f0 f1 f3 f4 f5⟩
 self:=fun _ _ _ _ _ st h=>wpAny_pyIter_listiter st h
theorem jma_ {P:Program} {w:World} {K:pb_} {tg:Expr} (a it:Addr):Turn P w K tg (Itt K a) [it] it (fun i h=>h.IsTupleIter it a i) where
 mem:=by simp
 obj:=fun i h st b hb=>by
  have e:b=it:=by simpa using hb
  subst e
  obtain⟨o,e,c,d⟩:=st
  exact⟨o,e,fun v z=>by rw[d] at z;cases z⟩
 keep:=fun i h h' st k=>st.at fun o e=>k it (by simp) o e
 item:=by
  intro X hP hw hK hc i pins s σ H E I hf st hg
  subst hP hw hK
  obtain⟨xs,x,hq,hx⟩:=hg
  obtain⟨its,rv,p,hz⟩:=I.tuple hq
  obtain⟨u,hu,ru⟩:=rv.get hx
  obtain⟨f0,f1,f2,f3,f4,f5⟩:=hf it (by simp)
  refine wpAny_pyNext_tuple_item st (show s.heap.IsTuple a its.toArray from p) (x:=u) (by simpa using hu) fun h' st' sb=>?_
  have I1:Inv X pins σ H { s with heap:=h' }:=I.turned (t':=s.toks) (fun b o hb e=>(sb.2 b hb).trans e) f0 f1 f3 f4 f5
  obtain⟨o,e,c,d⟩:=id st'
  exact⟨u,rfl,jfn_ (s:={ s with heap:=h' }) e c d (by decide) ⟨x,H,I1,ru,⟨rfl,fun ys hy=>by rw[I.tuple_inj hy hq];exact hx⟩,st',fun b hb=>(hf b hb).1⟩⟩
 done:=by
  intro X hP hw hK hc i pins s σ H E I hf st hg
  subst hP hw hK
  obtain⟨xs,hq,hx⟩:=hg
  obtain⟨its,rv,p,hz⟩:=I.tuple hq
  obtain⟨f0,f1,f2,f3,f4,f5⟩:=hf it (by simp)
  have hl:=rv.length
  exact wpAny_pyNext_tuple_end (I.ok.hd hc) st (show s.heap.IsTuple a its.toArray from p) (by simp;omega) fun h' eb=>⟨rfl,I.turned (t':=s.toks) (fun b o hb e=>eb b o hb e) f0 f1 f3 f4 f5⟩
 self:=fun _ _ _ _ _ st h=>wpAny_pyIter_tupleiter st h
theorem jmt_ {P:Program} {w:World} {K:pb_} {tg:Expr} (it:Addr) (lo:Int) (n:Nat):Turn P w K tg (Itr lo n) [it] it (fun i h=>IsRangeIter h it (lo+(i:Nat) * 1) ((n:Int) - (i:Nat)) 1) where
 mem:=by simp
 obj:=fun i h st b hb=>by
  have e:b=it:=by simpa using hb
  subst e
  exact⟨_,st,fun v z=>by
   have z':Data.fields _=Data.cell v:=z
   cases z'⟩
 keep:=fun i h h' st k=>k it (by simp) _ st
 item:=by
  intro X hP hw hK hc i pins s σ H E I hf st hg
  subst hP hw hK
  obtain⟨f0,f1,f2,f3,f4,f5⟩:=hf it (by simp)
  have W:=Walks.range (prog:=X.prog) (w:=X.w) (I.ok.hd hc) it lo 1 n
  refine W.item i s _ _ hg st fun v h' tk hv st' kk=>?_
  obtain⟨t,rfl⟩:=hv
  have I1:Inv X pins σ H { s with heap:=h',toks:=tk }:=I.turned (fun b o hb e=>kk b o (by simpa using hb) e) f0 f1 f3 f4 f5
  refine⟨_,rfl,jfn_ (s:={ s with heap:=h',toks:=tk }) (n:="range_iterator") st' rfl rfl (by decide) ⟨.int (lo+i),H,I1,⟨t,?_⟩,⟨rfl,rfl⟩,st',fun b hb=>(hf b hb).1⟩⟩
  rw[Int.mul_one]
 done:=by
  intro X hP hw hK hc i pins s σ H E I hf st hg
  subst hP hw hK
  obtain⟨f0,f1,f2,f3,f4,f5⟩:=hf it (by simp)
  exact wpAny_pyNext_range_end (I.ok.hd hc) st (by have:n<=i:=hg;omega) fun h' eb=>⟨rfl,I.turned (t':=s.toks) (fun b o hb e=>eb b o hb e) f0 f1 f3 f4 f5⟩
 self:=fun _ _ _ _ _ st h=>wpAny_pyIter_rangeiter st h
end L2
namespace L2
open PySem PySem.Spec PyProof.Rows
section
variable {X:Cx} {tg:Expr}
theorem jkf_ {pins:List (Addr×Obj)} {σ:St} {H:Hp} {s:Shared} {R:It->Hp->Prop} {E:Value->Shared->Prop} {lo hi:Int} {t u v:Tok} {tk:Nat} (I:Inv X pins σ H s) (h1:-(2 ^ 62)<=lo) (h2:lo < 2 ^ 62) (h3:-(2 ^ 62)<=hi) (h4:hi < 2 ^ 62)
  (q:R (Itr lo (hi - lo).toNat) H):wpAny (model X.prog X.w) X.A (pyIter (.ref s.heap.objs.size)) (PIE X pins σ tg R) E { s with heap:=s.heap.push { cls:=.type "range",data:=.fields #[.int lo t,.int hi u,.int 1 v] },toks:=tk }:=by
 refine wpAny_pyIter_range (IsRange.new ..) (small_one h1 h2 h3 h4) ?_
 have I1:Inv X pins σ H { s with heap:=s.heap.push { cls:=.type "range",data:=.fields #[.int lo t,.int hi u,.int 1 v] },toks:=tk }:=I.kept fun b o e=>pf_ _ e
 refine⟨(s.heap.push { cls:=.type "range",data:=.fields #[.int lo t,.int hi u,.int 1 v] }).objs.size,[(s.heap.push { cls:=.type "range",data:=.fields #[.int lo t,.int hi u,.int 1 v] }).objs.size],_,_,H,rfl,
  I1.kept (t':=tk) fun b o e=>pf_ _ e,jmt_ _ lo (hi - lo).toNat,?_,fun b hb=>?_,q⟩
 ·have e1:lo+((0:Nat):Int) * 1=lo:=by simp
  have e2:(((hi - lo).toNat:Nat):Int) - ((0:Nat):Int)=Builtin.Range.rangeSize lo hi 1:=by rw[rangeSize_one];split <;> omega
  show IsRangeIter _ _ (lo+((0:Nat):Int) * 1) ((((hi - lo).toNat:Nat):Int) - ((0:Nat):Int)) 1
  rw[e1,e2]
  exact pq_ _ rfl
 ·have e:b=(s.heap.push { cls:=.type "range",data:=.fields #[.int lo t,.int hi u,.int 1 v] }).objs.size:=by simpa using hb
  subst e
  exact I1.fpOk (pg_ _) (I1.hok.fresh (pg_ _))
def jyr_ (ta:TA):TI:=fun σ H R=>ta σ H fun vs H1=>∃ j:Int,vs=[.int j]/\-(2 ^ 62)<=j/\j < 2 ^ 62/\R (Itr 0 j.toNat) H1
def jyl_ (ta:TA):TI:=fun σ H R=>ta σ H fun vs H1=>∃ i j:Int,vs=[.int i,.int j]/\(-(2 ^ 62)<=i/\i < 2 ^ 62/\-(2 ^ 62)<=j/\j < 2 ^ 62)/\R (Itr i (j - i).toNat) H1
theorem z0_ {a:Expr} {ta:TA} {p pos:Pos} (hg:Gl X "range") (hm:X.mg "range"=none) (ha:PA X [a] ta) (hs:starEach [a] X.env=[(false,eval a X.env)]:=by rfl):PI X tg (.Call (.Name "range" p) [a] [] pos) (jyr_ ta):=by
 intro pins s σ H R I h
 refine Call_ (xs_ I hg hm boot_range (re_ (thn (ha pos pins s σ H _ I h) fun us s1 ⟨vs,H1,I1,r1,q1⟩=>?_) hs rfl))
 obtain⟨j,e,q1,q2,q⟩:=q1
 subst e
 cases r1 with
 | cons r rr =>
  cases rr
  obtain⟨t,rfl⟩:=r
  exact call_range_1 (jkf_ I1 (by omega) (by omega) q1 q2 (by simpa using q))
theorem jad_ {a b:Expr} {ta:TA} {p pos:Pos} (hg:Gl X "range") (hm:X.mg "range"=none) (ha:PA X [a,b] ta) (hs:starEach [a,b] X.env=[(false,eval a X.env),(false,eval b X.env)]:=by rfl) (hs2:starEach [b] X.env=[(false,eval b X.env)]:=by rfl) :
  PI X tg (.Call (.Name "range" p) [a,b] [] pos) (jyl_ ta):=by
 intro pins s σ H R I h
 refine Call_ (xs_ I hg hm boot_range (re_ (thn (ha pos pins s σ H _ I h) fun us s1 ⟨vs,H1,I1,r1,q1⟩=>?_) (by rw[hs,hs2]) (by rw[hs2];rfl)))
 obtain⟨i,j,e,⟨q1,q2,q3,q4⟩,q⟩:=q1
 subst e
 cases r1 with
 | cons r rr =>
  cases rr with
  | cons r' rr =>
   cases rr
   obtain⟨t,rfl⟩:=r
   obtain⟨t',rfl⟩:=r'
   exact call_range_2 (jkf_ I1 q1 q2 q3 q4 q)
def tFor (wi:TI) (g:TG) (tb:TS):TS:=fun D σ H=>wi σ H fun J H1=>∃ W:Nat->Nat->St->Hp->Prop,(∃ m,W 0 m σ H1)/\∀ i m σ H,W i m σ H ->
 (J.stop i H/\D.nx σ H)∨(J.go i H/\∃ N:St->Hp->Prop,(∀ σ' H',N σ' H'->∃ m',m' < m/\W (i+1) m' σ' H')/\∀ x H',J.yld i H x H'->g x σ H' fun σ2 H2=>tb { D with nx:=N,ct:=N,bk:=D.nx } σ2 H2)
def jcl_ (fp:List Addr) (h:Heap):List (Addr×Obj):=fp.filterMap fun b=>(h.get? b).map fun o=>(b,o)
theorem x7_ {fp:List Addr} {h:Heap} {b:Addr} {o:Obj} (hb:b∈fp) (e:h.get? b=some o):(b,o)∈jcl_ fp h:=ro_.mpr ⟨b,hb,by rw[e];rfl⟩
theorem jpg_ {fp:List Addr} {h:Heap} {p:Addr×Obj} (hp:p∈jcl_ fp h):p.1∈fp/\h.get? p.1=some p.2:=by
 obtain⟨b,hb,e⟩:=ro_.mp hp
 cases q:h.get? b with
 | none=>rw[q] at e;cases e
 | some o =>
  rw[q] at e
  have e':(b,o)=p:=Option.some.inj e
  subst e'
  exact⟨hb,q⟩
theorem Inv.pinned {pins:List (Addr×Obj)} {σ:St} {H:Hp} {s:Shared} {fp:List Addr} (I:Inv X pins σ H s) (hf:∀ b∈fp,FpOk X pins H b) (ho:∀ b∈fp,∃ o,s.heap.get? b=some o/\∀ v,o.data≠.cell v):Inv X (pins++jcl_ fp s.heap) σ H s :=
 I.pins_of fun p hp=>(p0_.mp hp).elim (fun z=>I.pin p (qm_ _ z)) fun z=>by
  obtain⟨hb,e⟩:=jpg_ z
  obtain⟨f0,f1,f2,_⟩:=hf p.1 hb
  obtain⟨o,e',d⟩:=ho p.1 hb
  rw[e] at e';cases e'
  exact⟨e,f0,f1,f2,d⟩
theorem Inv.unpinned {pins pl:List (Addr×Obj)} {σ:St} {H:Hp} {s:Shared} (I:Inv X (pins++pl) σ H s):Inv X pins σ H s:=I.pins_of fun p hp=>I.pin p (qm_ _ (q5_ _ hp))
theorem zm_ {iter:Expr} {body:List Stmt} {wi:TI} {g:TG} {tb:TS} {pos:Pos} (hp:PassesOwn (model X.prog X.w) X.A X.env X.xe) (hc:X.calm=true) (hi:PI X tg iter wi) (hg:PG X tg g) (hb:PSs X body tb)
  (hs:∀ x,foldedSetIterable iter X.env x=pure x:=by intro _;rfl):PS X (.For tg iter body [] pos) (tFor wi g tb):=by
 intro pins s σ H D I h
 refine wpAny_For (thn (hi pins s σ H _ I h) fun v s1 h1=>thn h1 fun itv s2 h2=>?_) hs
 obtain⟨it,fp,tn,J,H2,e,I2,T,st2,f2,W,⟨m0,w0⟩,turn⟩:=h2
 subst e
 -- what stays true of the iterator's objects through the loop
 have stat:∀{H':Hp},(∀ b∈fp,H' b=none)->∀ b∈fp,FpOk X pins H' b:=fun hn b hb=>⟨hn b hb,(f2 b hb).2⟩
 refine codeAny_forLoop_any (fun n s'=>∃ i σ' H',Inv X pins σ' H' s'/\tn i s'.heap/\(∀ b∈fp,H' b=none)/\W i n σ' H') ?_ m0 ⟨0,σ,H2,I2,st2,fun b hb=>(f2 b hb).1,w0⟩
 rintro n s3 ⟨i,σ3,H3,I3,st3,fr3,w3⟩
 rcases turn i n σ3 H3 w3 with ⟨stop,qn⟩ | ⟨go,N,hN,step⟩
 ·refine wpAny_passesOwn hp (thn (T.done X rfl rfl rfl hc i pins s3 σ3 H3 X.xe I3 (stat fr3) st3 stop) fun r s4 ⟨hr,I4⟩=>?_)
  subst hr
  exact wpAny_execs_nil ⟨σ3,H3,I4,qn⟩
 ·refine wpAny_passesOwn hp (thn (T.item X rfl rfl rfl hc i pins s3 σ3 H3 X.xe I3 (stat fr3) st3 go) fun r s4 ⟨u,hr,h4⟩=>?_)
  subst hr
  refine wpAny_passesOwn hp (thn h4 fun _ s5 ⟨x,H5,I5,r5,y5,st5,fr5⟩=>?_)
  have I5':=I5.pinned (stat fr5) (T.obj _ _ st5)
  refine wpAny_passesOwn hp (thn (hg _ s5 σ3 H5 x u _ I5' r5 (step x H5 y5)) fun _ s6 ⟨σ6,H6,I6,q6⟩=>?_)
  refine wpAny_passesOwn hp (thn (hb _ s6 σ6 H6 _ I6 q6) fun f s7 q7=>?_)
  have again:∀{σ7:St} {H7:Hp},Inv X (pins++jcl_ fp s5.heap) σ7 H7 s7->N σ7 H7->∃ m,m < n/\∃ i σ' H',Inv X pins σ' H' s7/\tn i s7.heap/\(∀ b∈fp,H' b=none)/\W i m σ' H':=fun{σ7 H7} I7 n7=>by
   obtain⟨m',hm,w7⟩:=hN σ7 H7 n7
   refine⟨m',hm,i+1,σ7,H7,I7.unpinned,T.keep _ _ _ st5 fun b hb o e=>(I7.pin (b,o) (qm_ _ (qm_ _ (x7_ hb e)))).1,fun b hb=>?_,w7⟩
   obtain⟨o,e,d⟩:=T.obj _ _ st5 b hb
   exact(I7.pin (b,o) (qm_ _ (qm_ _ (x7_ hb e)))).2.1
  cases f with
  | next=>obtain⟨σ7,H7,I7,n7⟩:=q7;exact again I7 n7
  | cont=>obtain⟨σ7,H7,I7,n7⟩:=q7;exact again I7 n7
  | brk=>obtain⟨σ7,H7,I7,q7⟩:=q7;exact⟨σ7,H7,I7.unpinned,q7⟩
  | ret v=>obtain⟨x7,σ7,H7,I7,r7,q7⟩:=q7;exact⟨x7,σ7,H7,I7.unpinned,r7,q7⟩
end
theorem yr_ {K:pb_} {a:Addr} {xs:List V} {g:TG} {tb:TS} {D:Ends} {σ:St} {H:Hp} (Pv:Nat->St->Hp->Prop) (h0:Pv 0 σ H) (hl:∀ i σ H,i<=xs.length->Pv i σ H->SqL K H a xs)
  (hs:∀ i x σ H,xs[i]?=some x->Pv i σ H->g x σ H fun σ2 H2=>tb { D with nx:=Pv (i+1),ct:=Pv (i+1),bk:=D.nx } σ2 H2) (hd:∀ σ H,Pv xs.length σ H->D.nx σ H) :
  ∃ W:Nat->Nat->St->Hp->Prop,(∃ m,W 0 m σ H)/\∀ i m σ H,W i m σ H ->
   ((Itl K a).stop i H/\D.nx σ H)∨((Itl K a).go i H/\∃ N:St->Hp->Prop,(∀ σ' H',N σ' H'->∃ m',m' < m/\W (i+1) m' σ' H')/\∀ x H',(Itl K a).yld i H x H'->g x σ H' fun σ2 H2=>tb { D with nx:=N,ct:=N,bk:=D.nx } σ2 H2):=by
 refine⟨fun i m σ H=>m=xs.length - i/\i<=xs.length/\Pv i σ H,⟨xs.length,by simp,qe_ _,h0⟩,?_⟩
 rintro i m σ H ⟨rfl,hi,p⟩
 have q:=hl i σ H hi p
 by_cases hlt:i < xs.length
 ·refine .inr ⟨⟨xs,xs[i],q,by simp[hlt]⟩,Pv (i+1),fun σ' H' p'=>⟨xs.length - (i+1),by omega,rfl,hlt,p'⟩,fun x H' y=>?_⟩
  obtain⟨e,y⟩:=y
  subst e
  exact hs i x σ _ (y xs q) p
 ·have e:i=xs.length:=by omega
  subst e
  exact .inl ⟨⟨xs,q,pg_ _⟩,hd σ H p⟩
theorem z9_ {lo:Int} {n:Nat} {g:TG} {tb:TS} {D:Ends} {σ:St} {H:Hp} (Pv:Nat->St->Hp->Prop) (h0:Pv 0 σ H)
  (hs:∀ i σ H,i < n->Pv i σ H->g (.int (lo+i)) σ H fun σ2 H2=>tb { D with nx:=Pv (i+1),ct:=Pv (i+1),bk:=D.nx } σ2 H2) (hd:∀ σ H,Pv n σ H->D.nx σ H) :
  ∃ W:Nat->Nat->St->Hp->Prop,(∃ m,W 0 m σ H)/\∀ i m σ H,W i m σ H ->
   ((Itr lo n).stop i H/\D.nx σ H)∨((Itr lo n).go i H/\∃ N:St->Hp->Prop,(∀ σ' H',N σ' H'->∃ m',m' < m/\W (i+1) m' σ' H')/\∀ x H',(Itr lo n).yld i H x H'->g x σ H' fun σ2 H2=>tb { D with nx:=N,ct:=N,bk:=D.nx } σ2 H2):=by
 refine⟨fun i m σ H=>m=n - i/\i<=n/\Pv i σ H,⟨n,by simp,qe_ _,h0⟩,?_⟩
 rintro i m σ H ⟨rfl,hi,p⟩
 by_cases hlt:i < n
 ·refine .inr ⟨hlt,Pv (i+1),fun σ' H' p'=>⟨n - (i+1),by omega,rfl,hlt,p'⟩,fun x H' y=>?_⟩
  obtain⟨e,y⟩:=y
  subst e y
  exact hs i σ _ hlt p
 ·have e:i=n:=by omega
  subst e
  exact .inl ⟨pg_ _,hd σ H p⟩
end L2
namespace L2
open PySem PySem.Spec PyProof.Rows
abbrev R2:=V->V->Hp->VK->Prop
def OpR (X:Cx) (f:Value->Value->Sem Value) (r:R2):Prop :=
 ∀(pins:List (Addr×Obj)) (s:Shared) (σ:St) (H:Hp) (x y:V) (v u:Value) (Q:VK),Inv X pins σ H s->RelV x v->RelV y u->r x y H Q ->
  wpAny (model X.prog X.w) X.A (f v u) (EP X pins σ Q) X.xe s
def UnR (X:Cx) (f:Value->Sem Value) (r:V->Hp->VK->Prop):Prop :=
 ∀(pins:List (Addr×Obj)) (s:Shared) (σ:St) (H:Hp) (x:V) (v:Value) (Q:VK),Inv X pins σ H s->RelV x v->r x H Q ->
  wpAny (model X.prog X.w) X.A (f v) (EP X pins σ Q) X.xe s
def CallR (X:Cx) (f:Value) (r:List V->Hp->VK->Prop):Prop :=
 ∀(pins:List (Addr×Obj)) (s:Shared) (σ:St) (H:Hp) (xs:List V) (us:List Value) (Q:VK),Inv X pins σ H s->Vals xs us->r xs H Q ->
  wpAny (model X.prog X.w) X.A (call f us) (EP X pins σ Q) X.xe s
def TruR (X:Cx) (r:V->Hp->(Bool->Hp->Prop)->Prop):Prop :=
 ∀(pins:List (Addr×Obj)) (s:Shared) (σ:St) (H:Hp) (x:V) (v:Value) (Q:Bool->Hp->Prop),Inv X pins σ H s->RelV x v->r x H Q ->
  wpAny (model X.prog X.w) X.A (truthy v) (TP X pins σ Q) X.xe s
def tOp (r:R2) (ta tb:TE):TE:=fun σ H Q=>ta σ H fun x H1=>tb σ H1 fun y H2=>r x y H2 Q
def tUn (r:V->Hp->VK->Prop) (ta:TE):TE:=fun σ H Q=>ta σ H fun x H1=>r x H1 Q
def rI (C:Int->Int->Prop) (g:Int->Int->V):R2:=fun x y H Q=>∃ i j,x=.int i/\y=.int j/\C i j/\Q (g i j) H
def rI0 (g:Int->Int->V):R2:=fun x y H Q=>∃ i j,x=.int i/\y=.int j/\Q (g i j) H
def rU (g:Int->V):V->Hp->VK->Prop:=fun x H Q=>∃ i,x=.int i/\Q (g i) H
section
variable {X:Cx} {a b c:Expr} {ta tb tc:TE} {pos:Pos}
theorem binT (ha:PE X a ta) (hb:PE X b tb) {pins:List (Addr×Obj)} {s:Shared} {σ:St} {H:Hp} {R:V->V->Hp->Prop} (I:Inv X pins σ H s)
  (h:ta σ H fun x H1=>tb σ H1 fun y H2=>R x y H2) {Q:Value->Shared->Prop} {f:Value->Value->Sem Value}
  (hf:∀ v u s2 x y H2,Inv X pins σ H2 s2->RelV x v->RelV y u->R x y H2->wpAny (model X.prog X.w) X.A (f v u) Q X.xe s2) :
  wpAny (model X.prog X.w) X.A (eval a X.env) (fun v s₁=>wpAny (model X.prog X.w) X.A (eval b X.env) (fun u s₂=>wpAny (model X.prog X.w) X.A (f v u) Q X.xe s₂) X.xe s₁) X.xe s:=by
 refine thn (ha pins s σ H _ I h) fun v s1 ⟨x,H1,I1,r1,q1⟩=>?_
 refine thn (hb pins s1 σ H1 _ I1 q1) fun u s2 ⟨y,H2,I2,r2,q2⟩=>?_
 exact hf v u s2 x y H2 I2 r1 r2 q2
theorem jn_ {op:Operator} {r:R2} (ho:OpR X (binaryOp op) r) (ha:PE X a ta) (hb:PE X b tb):PE X (.BinOp a op b pos) (tOp r ta tb):=by
 intro pins s σ H Q I h
 exact wpAny_BinOp (binT ha hb I h fun v u s2 x y H2 I2 rx ry q=>ho pins s2 σ H2 x y v u Q I2 rx ry q)
theorem u3_ {op:UnaryOp} {r:V->Hp->VK->Prop} (ho:UnR X (unaryOp op) r) (ha:PE X a ta):PE X (.UnaryOp op a pos) (tUn r ta):=by
 intro pins s σ H Q I h
 exact UnaryOp_ (thn (ha pins s σ H _ I h) fun v s1 ⟨x,H1,I1,r1,q1⟩=>ho pins s1 σ H1 x v Q I1 r1 q1)
theorem opI {f:Value->Value->Sem Value} {C:Int->Int->Prop} {g:Int->Int->Int}
  (rule:∀(i j:Int) (t u:Tok) (s:Shared) (Q:Value->Shared->Prop) (E:Value->Shared->Prop),C i j->Q (.int (g i j) s.toks) { s with toks:=s.toks+1 }->wpAny (model X.prog X.w) X.A (f (.int i t) (.int j u)) Q E s) :
  OpR X f (rI C fun i j=>.int (g i j)):=by
 intro pins s σ H x y v u Q I rx ry h
 obtain⟨i,j,rfl,rfl,hc,q⟩:=h
 obtain⟨t,rfl⟩:=rx
 obtain⟨t',rfl⟩:=ry
 exact rule i j t t' s _ _ hc ⟨.int (g i j),H,I.tok _,⟨_,rfl⟩,q⟩
theorem opI0 {f:Value->Value->Sem Value} {g:Int->Int->Int}
  (rule:∀(i j:Int) (t u:Tok) (s:Shared) (Q:Value->Shared->Prop) (E:Value->Shared->Prop),Q (.int (g i j) s.toks) { s with toks:=s.toks+1 }->wpAny (model X.prog X.w) X.A (f (.int i t) (.int j u)) Q E s) :
  OpR X f (rI0 fun i j=>.int (g i j)):=by
 intro pins s σ H x y v u Q I rx ry h
 obtain⟨i,j,rfl,rfl,q⟩:=h
 obtain⟨t,rfl⟩:=rx
 obtain⟨t',rfl⟩:=ry
 exact rule i j t t' s _ _ ⟨.int (g i j),H,I.tok _,⟨_,rfl⟩,q⟩
theorem opB0 {f:Value->Value->Sem Value} {g:Int->Int->Bool}
  (rule:∀(i j:Int) (t u:Tok) (s:Shared) (Q:Value->Shared->Prop) (E:Value->Shared->Prop),Q (.bool (g i j)) s->wpAny (model X.prog X.w) X.A (f (.int i t) (.int j u)) Q E s) :
  OpR X f (rI0 fun i j=>.bl (g i j)):=by
 intro pins s σ H x y v u Q I rx ry h
 obtain⟨i,j,rfl,rfl,q⟩:=h
 obtain⟨t,rfl⟩:=rx
 obtain⟨t',rfl⟩:=ry
 exact rule i j t t' s _ _ ⟨.bl (g i j),H,I,rfl,q⟩
def CDiv (i j:Int):Prop:=0 < j/\j < 1073741824
def CPow (i j:Int):Prop:=0<=j/\j<=1000000/\i.natAbs < 2 ^ 64
def CMul (i j:Int):Prop:=(-(2 ^ 64) < i/\i < 2 ^ 64)∨(-(2 ^ 64) < j/\j < 2 ^ 64)
theorem CMul.ok {i j:Int} (h:CMul i j):IntMulOk i j:=by
 rcases h with ⟨h1,h2⟩ | ⟨h1,h2⟩
 ·exact .of_left (intBits_le_64 h1 h2)
 ·exact .of_right (intBits_le_64 h1 h2)
theorem op_add:OpR X (binaryOp .Add) (rI0 fun i j=>.int (i+j)):=opI0 fun _ _ _ _ _ _ _ q=>add_int q
theorem op_sub:OpR X (binaryOp .Sub) (rI0 fun i j=>.int (i - j)):=opI0 fun _ _ _ _ _ _ _ q=>sub_int q
theorem op_mul:OpR X (binaryOp .Mult) (rI CMul fun i j=>.int (i * j)):=opI fun _ _ _ _ _ _ _ hc q=>mul_int q hc.ok
theorem op_fdiv:OpR X (binaryOp .FloorDiv) (rI CDiv fun i j=>.int (i / j)):=opI fun i j _ _ _ _ _ hc q=>by
 have h1:(0:Int) < j:=hc.1
 have h2:j < 1073741824:=hc.2
 exact floordiv_int (by omega) (by rw[Int.fdiv_eq_ediv_of_nonneg i (by omega)];exact q) (.inl (PyProof.noPylong_small (by omega)))
theorem op_mod:OpR X (binaryOp .Mod) (rI (fun _ j=>0 < j) fun i j=>.int (i % j)):=opI fun i j _ _ _ _ _ hc q=>by
 have h1:(0:Int) < j:=hc
 exact mod_int' (by omega) (by rw[Int.fmod_eq_emod_of_nonneg i (by omega)];exact q)
theorem op_pow:OpR X (binaryOp .Pow) (rI CPow fun i j=>.int (i ^ j.toNat)):=opI fun _ _ _ _ _ _ _ hc q=>pow_int_small hc.1 hc.2.1 hc.2.2 q
theorem unI {f:Value->Sem Value} {g:Int->Int}
  (rule:∀(i:Int) (t:Tok) (s:Shared) (Q:Value->Shared->Prop) (E:Value->Shared->Prop),Q (.int (g i) s.toks) { s with toks:=s.toks+1 }->wpAny (model X.prog X.w) X.A (f (.int i t)) Q E s) :
  UnR X f (rU fun i=>.int (g i)):=by
 intro pins s σ H x v Q I rx h
 obtain⟨i,rfl,q⟩:=h
 obtain⟨t,rfl⟩:=rx
 exact rule i t s _ _ ⟨.int (g i),H,I.tok _,⟨_,rfl⟩,q⟩
theorem zae_:UnR X (unaryOp .USub) (rU fun i=>.int (-i)):=unI fun _ _ _ _ _ q=>neg_int q
end
def scal:V->V->Bool
 | .non,.non=>true | .non,.int _=>true | .int _,.non=>true | .non,.bl _=>true | .bl _,.non=>true | .non,.str _=>true | .str _,.non=>true
 | .int _,.int _=>true | .bl _,.bl _=>true | .str _,.str _=>true | .byt _,.byt _=>true
 | .int _,.str _=>true | .str _,.int _=>true | .bl _,.str _=>true | .str _,.bl _=>true
 | _,_=>false
def rEq:R2:=fun x y H Q=>scal x y=true/\Q (.bl (decide (x=y))) H
def rNe:R2:=fun x y H Q=>scal x y=true/\Q (.bl (!decide (x=y))) H
theorem jnz_ {i j:Int}:decide (V.int i=V.int j)=(i == j):=by
 rw[tl_]
 simp
theorem juz_ {i j:Bool}:decide (V.bl i=V.bl j)=(i == j):=by
 rw[tl_]
 simp
theorem jon_ {i j:Str}:decide (V.str i=V.str j)=(i == j):=by
 rw[tl_]
 simp
theorem jna_ {i j:Array UInt8}:decide (V.byt i=V.byt j)=(i.toList == j.toList):=by
 rw[tl_]
 cases i
 cases j
 simp
section
variable {X:Cx} {a b c:Expr} {ta tb tc:TE} {pos:Pos}
theorem j6_ {pins:List (Addr×Obj)} {σ:St} {H:Hp} {s:Shared} {Q:VK} {k k':Bool} (I:Inv X pins σ H s) (q:Q (.bl k) H) (e:k=k'):EP X pins σ Q (.bool k') s:=by
 subst e
 exact⟨.bl k,H,I,rfl,q⟩
theorem op_eq:OpR X (compareOp .Eq) rEq:=by
 intro pins s σ H x y v u Q I rx ry h
 obtain⟨hs,q⟩:=h
 cases x with
 | non =>
  cases rx
  cases y with
  | non=>cases ry;exact PySem.EqNone.eq_none_none (j6_ I q (by simp))
  | bl j=>cases ry;exact PySem.EqNone.eq_none_bool (j6_ I q (by simp))
  | int j=>obtain⟨t',rfl⟩:=ry;exact PySem.EqNone.eq_none_int (j6_ I q (by simp))
  | str j=>obtain⟨t',rfl⟩:=ry;exact PySem.EqNone.eq_none_str (j6_ I q (by simp))
  | _=>exact absurd (show false=true from hs) ph_
 | bl i =>
  cases rx
  cases y with
  | non=>cases ry;exact PySem.EqNone.eq_bool_none (j6_ I q (by simp))
  | bl j=>cases ry;exact eq_bool (j6_ I q juz_)
  | str j=>obtain⟨t',rfl⟩:=ry;exact PySem.EqMixed.eq_bool_str (j6_ I q (by simp))
  | _=>exact absurd (show false=true from hs) ph_
 | int i =>
  obtain⟨t,rfl⟩:=rx
  cases y with
  | non=>cases ry;exact PySem.EqNone.eq_int_none (j6_ I q (by simp))
  | int j=>obtain⟨t',rfl⟩:=ry;exact eq_int (j6_ I q jnz_)
  | str j=>obtain⟨t',rfl⟩:=ry;exact PySem.EqMixed.eq_int_str (j6_ I q (by simp))
  | _=>exact absurd (show false=true from hs) ph_
 | str i =>
  obtain⟨t,rfl⟩:=rx
  cases y with
  | non=>cases ry;exact PySem.EqNone.eq_str_none (j6_ I q (by simp))
  | bl j=>cases ry;exact PySem.EqMixed.eq_str_bool (j6_ I q (by simp))
  | int j=>obtain⟨t',rfl⟩:=ry;exact PySem.EqMixed.eq_str_int (j6_ I q (by simp))
  | str j=>obtain⟨t',rfl⟩:=ry;exact eq_str (j6_ I q jon_)
  | _=>exact absurd (show false=true from hs) ph_
 | byt i =>
  obtain⟨t,rfl⟩:=rx
  cases y with
  | byt j=>obtain⟨t',rfl⟩:=ry;exact PySem.W.eq_bytes (j6_ I q jna_)
  | _=>exact absurd (show false=true from hs) ph_
 | _=>cases y <;> exact absurd (show false=true from hs) ph_
theorem op_ne:OpR X (compareOp .NotEq) rNe:=by
 intro pins s σ H x y v u Q I rx ry h
 obtain⟨hs,q⟩:=h
 cases x with
 | non =>
  cases rx
  cases y with
  | non=>cases ry;exact PySem.EqNone.ne_none_none (j6_ I q (by simp))
  | bl j=>cases ry;exact PySem.EqNone.ne_none_bool (j6_ I q (by simp))
  | int j=>obtain⟨t',rfl⟩:=ry;exact PySem.EqNone.ne_none_int (j6_ I q (by simp))
  | str j=>obtain⟨t',rfl⟩:=ry;exact PySem.EqNone.ne_none_str (j6_ I q (by simp))
  | _=>exact absurd (show false=true from hs) ph_
 | bl i =>
  cases rx
  cases y with
  | non=>cases ry;exact PySem.EqNone.ne_bool_none (j6_ I q (by simp))
  | bl j=>cases ry;exact ne_bool (j6_ I q (congrArg not juz_))
  | str j=>obtain⟨t',rfl⟩:=ry;exact PySem.EqMixed.ne_bool_str (j6_ I q (by simp))
  | _=>exact absurd (show false=true from hs) ph_
 | int i =>
  obtain⟨t,rfl⟩:=rx
  cases y with
  | non=>cases ry;exact PySem.EqNone.ne_int_none (j6_ I q (by simp))
  | int j=>obtain⟨t',rfl⟩:=ry;exact ne_int (j6_ I q (congrArg not jnz_))
  | str j=>obtain⟨t',rfl⟩:=ry;exact PySem.EqMixed.ne_int_str (j6_ I q (by simp))
  | _=>exact absurd (show false=true from hs) ph_
 | str i =>
  obtain⟨t,rfl⟩:=rx
  cases y with
  | non=>cases ry;exact PySem.EqNone.ne_str_none (j6_ I q (by simp))
  | bl j=>cases ry;exact PySem.EqMixed.ne_str_bool (j6_ I q (by simp))
  | int j=>obtain⟨t',rfl⟩:=ry;exact PySem.EqMixed.ne_str_int (j6_ I q (by simp))
  | str j=>obtain⟨t',rfl⟩:=ry;exact ne_str (j6_ I q (congrArg not jon_))
  | _=>exact absurd (show false=true from hs) ph_
 | byt i =>
  obtain⟨t,rfl⟩:=rx
  cases y with
  | byt j=>obtain⟨t',rfl⟩:=ry;exact PySem.W.ne_bytes (j6_ I q (congrArg not jna_))
  | _=>exact absurd (show false=true from hs) ph_
 | _=>cases y <;> exact absurd (show false=true from hs) ph_
theorem op_lt:OpR X (compareOp .Lt) (rI0 fun i j=>.bl (decide (i < j))):=opB0 fun _ _ _ _ _ _ _ q=>lt_int q
theorem op_le:OpR X (compareOp .LtE) (rI0 fun i j=>.bl (decide (i<=j))):=opB0 fun _ _ _ _ _ _ _ q=>le_int q
theorem op_gt:OpR X (compareOp .Gt) (rI0 fun i j=>.bl (decide (j < i))):=opB0 fun _ _ _ _ _ _ _ q=>gt_int q
theorem op_ge:OpR X (compareOp .GtE) (rI0 fun i j=>.bl (decide (j<=i))):=opB0 fun _ _ _ _ _ _ _ q=>ge_int q
theorem jpc_:OpR X (compareOp .In) (fun x y H Q=>∃ i j,x=.str i/\y=.str j/\Q (.bl (!(sl_ j i 0 j.length 1).isEmpty)) H):=by
 intro pins s σ H x y v u Q I rx ry h
 obtain⟨i,j,rfl,rfl,q⟩:=h
 obtain⟨t,rfl⟩:=rx
 obtain⟨t',rfl⟩:=ry
 exact in_str (j6_ I q rfl)
theorem op_isN:OpR X (compareOp .Is) (fun x y H Q=>y=.non/\Q (.bl (decide (x=.non))) H):=by
 intro pins s σ H x y v u Q I rx ry h
 obtain⟨rfl,q⟩:=h
 cases ry
 refine is_none_gen (j6_ I q ?_)
 cases x <;> first
  | (cases rx;rfl)
  | (obtain⟨t,rfl⟩:=rx;rfl)
theorem jws_:OpR X (compareOp .IsNot) (fun x y H Q=>y=.non/\Q (.bl (!decide (x=.non))) H):=by
 intro pins s σ H x y v u Q I rx ry h
 obtain⟨rfl,q⟩:=h
 cases ry
 refine isnot_none_gen (j6_ I q ?_)
 cases x <;> first
  | (cases rx;rfl)
  | (obtain⟨t,rfl⟩:=rx;rfl)
theorem jgu_:OpR X (compareOp .NotIn) (fun x y H Q=>∃ i j,x=.str i/\y=.str j/\Q (.bl (!(!(sl_ j i 0 j.length 1).isEmpty))) H):=by
 intro pins s σ H x y v u Q I rx ry h
 obtain⟨i,j,rfl,rfl,q⟩:=h
 obtain⟨t,rfl⟩:=rx
 obtain⟨t',rfl⟩:=ry
 exact notIn_str (j6_ I q rfl)
theorem jv_ (b:Expr) {op:CmpOp} (h:op≠.In:=by decide) (h2:op≠.NotIn:=by decide):behindInMarks op b=false:=by
 have e1:(op == CmpOp.In)=false:=by cases op <;> first | rfl | exact absurd rfl h
 have e2:(op == CmpOp.NotIn)=false:=by cases op <;> first | rfl | exact absurd rfl h2
 cases b <;> simp[behindInMarks,e1,e2]
theorem uk_ {op:CmpOp} {r:R2} (ho:OpR X (compareOp op) r) (ha:PE X a ta) (hb:PE X b tb) (hm:behindInMarks op b=false):PE X (.Compare a [op] [b] pos) (tOp r ta tb):=by
 intro pins s σ H Q I h
 exact wpAny_Compare1 (binT ha hb I h fun v u s2 x y H2 I2 rx ry q=>ho pins s2 σ H2 x y v u Q I2 rx ry q) hm
def jsz_ (t:TE):TT:=fun σ H Q=>t σ H fun x H'=>∃ k,x=.bl k/\Q k H'
theorem jq_ {op:CmpOp} {r:R2} (ho:OpR X (compareOp op) r) (ha:PE X a ta) (hb:PE X b tb) (hm:behindInMarks op b=false):PT X (.Compare a [op] [b] pos) (jsz_ (tOp r ta tb)):=by
 intro pins s σ H Q I h
 refine wpAny_isTrue_Compare1 (thn (ha pins s σ H _ I h) fun v s1 ⟨x,H1,I1,r1,q1⟩=>thn (hb pins s1 σ H1 _ I1 q1) fun u s2 ⟨y,H2,I2,r2,q2⟩ =>
  thn (ho pins s2 σ H2 x y v u _ I2 r1 r2 q2) fun c s3 ⟨z,H3,I3,r3,k,e,q3⟩=>?_) hm
 subst e
 cases r3
 exact wpAny_truthy_bool ⟨H3,I3,q3⟩
def jus_ (r r':R2) (ta tb tc:TE):TE:=fun σ H Q=>ta σ H fun x H1=>tb σ H1 fun y H2=>r x y H2 fun z H3=>∃ k,z=.bl k /\
 (if k=true then tc σ H3 fun w' H4=>r' y w' H4 Q else Q (.bl false) H3)
theorem jcp_ {op op':CmpOp} {r r':R2} (ho:OpR X (compareOp op) r) (ho':OpR X (compareOp op') r') (ha:PE X a ta) (hb:PE X b tb) (hc:PE X c tc)
  (hm:lastMarks [op,op'] [b,c]=false:=by with_unfolding_all rfl):PT X (.Compare a [op,op'] [b,c] pos) (jsz_ (jus_ r r' ta tb tc)):=by
 intro pins s σ H Q I h
 refine isTrue_chain (thn (ha pins s σ H _ I h) fun v s1 ⟨x,H1,I1,r1,q1⟩=>test_link (thn (hb pins s1 σ H1 _ I1 q1) fun u s2 ⟨y,H2,I2,r2,q2⟩ =>
  thn (ho pins s2 σ H2 x y v u _ I2 r1 r2 q2) fun d s3 ⟨z,H3,I3,r3,k,e,q3⟩=>?_)) hm
 subst e
 cases r3
 refine wpAny_truthy_bool ?_
 cases k with
 | false =>
  obtain⟨k',e',q'⟩:=q3
  cases e'
  exact ite_ff ⟨H3,I3,q'⟩
 | true =>
  refine ite_tt (test_last (thn (hc pins s3 σ H3 _ I3 q3) fun w' s4 ⟨z',H4,I4,r4,q4⟩=>thn (ho' pins s4 σ H4 y z' u w' _ I4 r2 r4 q4) fun d' s5 ⟨z2,H5,I5,r5,k2,e2,q5⟩=>?_))
  subst e2
  cases r5
  exact wpAny_truthy_bool ⟨H5,I5,q5⟩
def TruV (K:pb_) (x:V) (H:Hp) (k:Bool):Prop :=
 match x with
 | .non=>k=false
 | .bl b=>k=b
 | .int i=>k=(i != 0)
 | .str y=>y.length<=sizeLine/\k=((y.length:Int) != 0)
 | .byt y=>y.size<=sizeLine/\k=((y.size:Int) != 0)
 | .ref p=>(∃ xs,SqL K H p xs/\k=!xs.isEmpty)∨(∃ xs,SqT K H p xs/\k=!xs.isEmpty)∨∃ kvs,H p=some (.dK kvs)/\k=!kvs.isEmpty
 | _=>False
theorem jlg_ {κ:Type} {kvs:List (κ×V)} {vs:List (κ×Value)} (r:KV kvs vs):(!vs.isEmpty)=!kvs.isEmpty:=by
 cases r <;> rfl
theorem jcn_ {xs:List V} {its:List Value} (r:Vals xs its):(!its.toArray.isEmpty)=!xs.isEmpty:=by
 cases r <;> simp
theorem v9_:(sizeLine:Nat) < 2 ^ 63:=by rw[sizeLine_eq];decide
theorem tru_ok:TruR X (fun x H Q=>∃ k,TruV X.K x H k/\Q k H):=by
 intro pins s σ H x v Q I rx h
 obtain⟨k,e,q⟩:=h
 have hl:=v9_
 have hs:sizeLine=16777216:=sizeLine_eq
 cases x with
 | non =>
  cases rx
  have e':k=false:=e
  subst e'
  exact truthy_none ⟨H,I,q⟩
 | bl b =>
  cases rx
  have e':k=b:=e
  subst e'
  exact wpAny_truthy_bool ⟨H,I,q⟩
 | int i =>
  obtain⟨t,rfl⟩:=rx
  have e':k=(i != 0):=e
  subst e'
  exact PySem.P.truthy_int ⟨H,I,q⟩
 | str y =>
  obtain⟨t,rfl⟩:=rx
  obtain⟨hy,e'⟩:y.length<=sizeLine/\k=((y.length:Int) != 0):=e
  subst e'
  exact PySem.P.truthy_str (by omega) ⟨H,I.tok _,q⟩
 | byt y =>
  obtain⟨t,rfl⟩:=rx
  obtain⟨hy,e'⟩:y.size<=sizeLine/\k=((y.size:Int) != 0):=e
  subst e'
  exact PySem.W.truthy_bytes (by omega) ⟨H,I.tok _,q⟩
 | ref p =>
  cases rx
  have e':(∃ xs,SqL X.K H p xs/\k=!xs.isEmpty)∨(∃ xs,SqT X.K H p xs/\k=!xs.isEmpty)∨∃ kvs,H p=some (.dK kvs)/\k=!kvs.isEmpty:=e
  rcases e' with ⟨xs,hx,e'⟩ | ⟨xs,hx,e'⟩ | ⟨kvs,hx,e'⟩
  ·subst e'
   obtain⟨its,r,pl,hz⟩:=I.list hx
   have hlen:=r.length
   exact wpAny_truthy_list pl.isList (by simp only[pp_];omega) ⟨H,I.tok _,by rw[jcn_ r];exact q⟩
  ·subst e'
   obtain⟨its,r,pl,hz⟩:=I.tuple hx
   have hlen:=r.length
   exact truthy_tuple pl (by simp only[pp_];omega) ⟨H,I.tok _,by rw[jcn_ r];exact q⟩
  ·subst e'
   obtain⟨hz,hS,vs,r,m⟩:kvs.length<=sizeLine/\(p == sysModules)=false/\∃ vs,KV kvs vs/\s.heap.DictOf (j9_ X.prog X.w) p vs:=I.hok p _ hx
   have hlen:kvs.length=vs.length:=wc_ r
   exact wpAny_truthy_dict hS m (by omega) ⟨H,I.tok _,by rw[jlg_ r];exact q⟩
 | _=>exact(show False from e).elim
theorem jmj_:OpR X (binaryOp .Add) (fun x y H Q=>∃ i j,x=.str i/\y=.str j/\i.length+j.length<=sizeLine/\Q (.str (i++j)) H):=by
 intro pins s σ H x y v u Q I rx ry h
 obtain⟨i,j,rfl,rfl,hz,q⟩:=h
 obtain⟨t,rfl⟩:=rx
 obtain⟨t',rfl⟩:=ry
 exact add_str (fun t' tk=>⟨.str (i++j),H,I.tok _,⟨_,rfl⟩,q⟩) hz
theorem ve_ {x:V} {us:List Value} (r:Vals [x] us):∃ u,us=[u]/\RelV x u:=by
 cases r with
 | cons r1 r2=>cases r2;exact⟨_,rfl,r1⟩
theorem jrp_ {x y:V} {us:List Value} (r:Vals [x,y] us):∃ u w',us=[u,w']/\RelV x u/\RelV y w':=by
 cases r with
 | cons r1 r2 =>
  cases r2 with
  | cons r3 r4=>cases r4;exact⟨_,_,rfl,r1,r3⟩
theorem call_abs:CallR X (.builtin "abs") (fun xs H Q=>∃ i,xs=[.int i]/\Q (.int (if i < 0 then -i else i)) H):=by
 intro pins s σ H xs us Q I r h
 obtain⟨i,rfl,q⟩:=h
 obtain⟨u,rfl,t,rfl⟩:=ve_ r
 exact call_abs_int fun u tk=>⟨.int (if i < 0 then -i else i),H,I.tok _,⟨_,rfl⟩,q⟩
theorem jpp_ (hc:X.calm=true):CallR X (.builtin "max") (fun xs H Q=>∃ i j,xs=[.int i,.int j]/\Q (.int (if j > i then j else i)) H):=by
 intro pins s σ H xs us Q I r h
 obtain⟨i,j,rfl,q⟩:=h
 obtain⟨u,w',rfl,⟨t,rfl⟩,⟨t',rfl⟩⟩:=jrp_ r
 refine max_two_ints (I.ok.hd hc) fun h' tk k=>⟨_,H,I.kept k,?_,q⟩
 by_cases hj:j > i
 ·rw[if_pos hj,if_pos hj];exact⟨_,rfl⟩
 ·rw[if_neg hj,if_neg hj];exact⟨_,rfl⟩
end
end L2
namespace L2
open PySem PySem.Spec PyProof.Rows
structure ObjM (h:Heap) (x dx C:Addr) (mA:Str->Option Value):Prop where
 obj:h.get? x=some (rx_ C dx)
 ns:h.Ns1 dx mA
 ne:dx≠x
theorem jes_ {h:Heap} {dx:Addr} {mA:Str->Option Value} (n:h.Ns1 dx mA):∃ od,h.get? dx=some od/\∀ name,ww_ name od=some (mA name):=by
 obtain⟨o,es,ep,ho,hd,hk,_,hm⟩:=n
 refine⟨o,ho,fun name=>?_⟩
 have e:=hm name
 unfold nsFind findBy at e
 rw[<- Array.find?_toList] at e
 unfold ww_
 rw[hd]
 dsimp only
 split
 ·rename_i y q
  rw[q] at e
  exact congrArg some e
 ·rename_i q
  rw[q] at e
  have a:es.toList.any (·.refKey)=false:=by
   rw[tv_]
   intro y hy
   obtain⟨z,t,hkey⟩:=hk y (Array.mem_toList_iff.mp hy)
   simp[DictEntry.refKey,hkey]
  have a':¬ es.toList.any (·.refKey)=true:=by rw[a];exact ph_
  rw[if_neg a']
  exact congrArg some e
theorem ObjM.look {h:Heap} {x dx C:Addr} {mA:Str->Option Value} (I:ObjM h x dx C mA):∃ od,t0_ h x (rx_ C dx) C (some od)/\∀ name,ww_ name od=some (mA name) :=
 let ⟨od,ho,hl⟩:=jes_ I.ns
 ⟨od,⟨I.obj,rfl,rfl,ho⟩,hl⟩
section
variable {prog:Program} {w:World} {A:Around} {E:Value->Shared->Prop} {s:Shared} {K:pb_} {x dx C f:Addr} {mA:Str->Option Value} {name:Str} {v:Value}
theorem jxk_ {expr:Bool} {Q:Value->Shared->Prop} (X:K.In s.heap) (I:ObjM s.heap x dx C mA) (hg:sp_ K C name=true) (hh:rw_ K C=true)
  (ha:po_ K (.ref C) name=some none) (hv:mA name=some v) (hv':PySem.W.handedIn v=true) (h:Q v { s with toks:=s.toks+1 }) :
  wpAny (model prog w) A (getAttr (.ref x) name expr) Q E s:=by
 obtain⟨od,J,hl⟩:=I.look
 exact PySem.W.get_value X J (wg_ hg).1 (li_ hh ha rfl (by rw[hl,hv])) hv' h
theorem jvk_ {pl:Sem Bool} {Q:Value×List Value->Shared->Prop} (X:K.In s.heap) (I:ObjM s.heap x dx C mA) (hg:sp_ K C name=true)
  (hf:po_ K (.ref C) name=some (some (.ref f))) (ht:qx_ K (.ref f)=true) (hv:mA name=none) (h:Q (.ref f,[.ref x]) s) :
  wpAny (model prog w) A (getMethod (.ref x) name pl) Q E s:=by
 obtain⟨od,J,hl⟩:=I.look
 exact PySem.W.method_fn X J (wg_ hg).1 (wg_ hg).2 hf (beq_iff_eq.mp ht) (by show (ww_ name od).map (·.isSome)=some false;rw[hl,hv];rfl) h
theorem jyg_ {ns:List Str} {Q:Unit->Shared->Prop} (X:K.In s.heap) (I:ObjM s.heap x dx C mA)
  (hs:po_ K (.ref C) "__setattr__"=some (some (.builtin "object.__setattr__"))) (hp:tw_ K C=true) (ht:kr_ K C name=some none) (hh:rw_ K C=true)
  (hw:ko_ mA ns) (hsz:ns.length<=sizeLine)
  (h:∀ h',ObjM h' x dx C (fun y=>if y=name then some v else mA y)->rv_ dx s.heap h'->Q () { s with heap:=h',toks:=s.toks+2 }) :
  wpAny (model prog w) A (setAttr (.ref x) name v) Q E s:=by
 obtain⟨od,J,hl⟩:=I.look
 refine PySem.W.set_plain X J hs (PySem.W.osa_open (s:={ s with toks:=s.toks+1 }) (r:=none) X J hp ht fun b=>?_)
 obtain⟨cd,hc,hd'⟩:=PySem.W.any_some hh
 have hx:s.heap.get? x=some ⟨.ref C,some dx,.plain,#[]⟩:=I.obj
 refine wpAny_bind (wpAny_pure (wpAny_bind (wpAny_bind (wpAny_loadPart hx (wpAny_bind (lq_.here (s:={ s with toks:=s.toks+1 }) (PySem.W.looks_clsIn X hc) ?_))))))
 rw[hd']
 refine wpAny_pure (a:=some dx) (wpAny_bind (wpAny_pure (wpAny_bind ?_)))
 refine wpAny_nsSet1 (s:={ s with toks:=s.toks+1 }) I.ns fun h' hn2 hs2=>?_
 obtain⟨oD,esD,epD,hoD,hdD,hcD⟩:=hn2.count (ko_.cons name v hw)
 refine wpAny_bind (wpAny_lookBehind hoD (by rw[hdD];exact pastItsLine_dict (qg_ hcD (by rw[pr_];omega))) ?_)
 exact wpAny_pure (h _ ⟨(hs2.2 _ (rq_ I.ne)).trans I.obj,hn2,I.ne⟩ hs2)
theorem jui_ {R:Result->Shared->Prop} {vs:List Value} {kw:List (Str×Value)} (X:K.In s.heap) (hm:wh_ K C=true)
  (hi:po_ K (.ref C) "__init__"=some (some (.ref f))) (hf:lc_ K (.ref f)=some (.type "function"))
  (h:codeAny (model prog w) (A.under (.builtin "type.__call__" ⟨.ref C::vs,kw⟩)) (.call (.ref f) ⟨.ref (s.heap.objs.size+1)::vs,kw⟩) (PySem.W.InitBack (s.heap.objs.size+1) R)
   { s with heap:=(s.heap.push rb_).push (rx_ C s.heap.objs.size) }) :
  codeAny (model prog w) A (.call (.ref C) ⟨vs,kw⟩) R s:=by
 obtain⟨hh,g,d,t,os⟩:=s
 exact PySem.W.make_core (PySem.W.makes_of X hm) (s8_ X hi) (fun self=>PySem.W.bind_fn X self hf) (.inl rfl) h
end
def putF (f:Str) (v:V):List (Str×V)->List (Str×V)
 | []=>[(f,v)]
 | (g,x)::r=>if g=f then (g,v)::r else (g,x)::putF f v r
theorem jbh_ (f g:Str) (v:V):∀ fs:List (Str×V),(putF f v fs).lookup g=if g=f then some v else fs.lookup g
 | []=>by
  show r9_ g [(f,v)]=_
  by_cases h:g=f
  ·have hb:(g == f)=true:=beq_iff_eq.mpr h
   simp only[r9_,hb,if_pos h]
  ·have hb:(g == f)=false:=beq_eq_false_iff_ne.mpr h
   simp only[r9_,hb,if_neg h]
 | (k,x)::r=>by
  have ih:=jbh_ f g v r
  rw[show putF f v ((k,x)::r)=(if k=f then (k,v)::r else (k,x)::putF f v r) from rfl]
  by_cases hk:k=f
  ·rw[if_pos hk]
   by_cases h:g=k
   ·have hb:(g == k)=true:=beq_iff_eq.mpr h
    simp only[r9_,hb,if_pos (h.trans hk)]
   ·have hb:(g == k)=false:=beq_eq_false_iff_ne.mpr h
    simp only[r9_,hb,if_neg (fun e:g=f=>h (e.trans hk.symm))]
  ·rw[if_neg hk]
   by_cases h:g=k
   ·have hb:(g == k)=true:=beq_iff_eq.mpr h
    simp only[r9_,hb,if_neg (fun e:g=f=>hk (h.symm.trans e))]
   ·have hb:(g == k)=false:=beq_eq_false_iff_ne.mpr h
    simp only[r9_,hb]
    exact ih
theorem jau_ (f:Str) (v:V):∀ fs:List (Str×V),f∈(putF f v fs).map (·.1)/\∀ g,g∈fs.map (·.1)->g∈(putF f v fs).map (·.1)
 | []=>⟨by simp[putF],fun g h=>by simp at h⟩
 | (k,x)::r=>by
  obtain⟨i1,i2⟩:=jau_ f v r
  rw[show putF f v ((k,x)::r)=(if k=f then (k,v)::r else (k,x)::putF f v r) from rfl]
  by_cases hk:k=f
  ·rw[if_pos hk]
   subst hk
   exact⟨by simp,fun g h=>by simpa using h⟩
  ·rw[if_neg hk]
   refine⟨?_,fun g h=>?_⟩
   ·rw[pj_]
    exact pt_ _ i1
   ·rw[pj_] at h ⊢
    rcases pz_.mp h with e | e
    ·exact pz_.mpr (.inl e)
    ·exact pt_ _ (i2 g e)
theorem jbo_ (f:Str) (v:V):∀ fs:List (Str×V),(putF f v fs).length<=fs.length+1
 | []=>by simp[putF]
 | (k,x)::r=>by
  have ih:=jbo_ f v r
  rw[show putF f v ((k,x)::r)=(if k=f then (k,v)::r else (k,x)::putF f v r) from rfl]
  by_cases hk:k=f
  ·rw[if_pos hk,pr_,pr_];omega
  ·rw[if_neg hk,pr_,pr_];omega
theorem RelO.some_of {v:V} {o:Option Value} (r:RelO (some v) o):∃ u,o=some u/\RelV v u:=by
 cases o with
 | none=>exact(show False from r).elim
 | some u=>exact⟨u,rfl,r⟩
theorem RelO.none_of {o:Option Value} (r:RelO none o):o=none:=by
 cases o with
 | none=>rfl
 | some u=>exact(show False from r).elim
theorem jfx_ {v:V} {u:Value} (r:RelV v u):PySem.W.handedIn u=true:=by
 cases v with
 | non=>cases (show u=Value.none from r);rfl
 | bl b=>cases (show u=Value.bool b from r);rfl
 | int i=>obtain⟨t,e⟩:=(show ∃ t,u=Value.int i t from r);cases e;rfl
 | str x=>obtain⟨t,e⟩:=(show ∃ t,u=Value.str x t from r);cases e;rfl
 | byt b=>obtain⟨t,e⟩:=(show ∃ t,u=Value.bytes b t from r);cases e;rfl
 | flt b=>obtain⟨t,e⟩:=(show ∃ t,u=Value.float b t from r);cases e;rfl
 | ref a=>cases (show u=Value.ref a from r);rfl
 | ty n=>cases (show u=Value.type n from r);rfl
section
variable {P:Program} {w:World} {H H':Hp} {h h':Heap} {a C dx:Addr} {fs fs':List (Str×V)}
theorem jhq_ (hok:HOk P w H h) (e:H a=some (.ins C dx fs)):∃ mA,ObjM h a dx C mA/\(∀ f,RelO (fs.lookup f) (mA f))/\ko_ mA (fs.map (·.1))/\fs.length<=1000/\H dx=some (.own a):=by
 obtain⟨d,z,ne,ob,mA,n,r,q⟩:=(show ObjOk P w H h a (.ins C dx fs) from hok a _ e)
 exact⟨mA,⟨ob,n,ne⟩,r,q,z,d⟩
end
structure Cls (K:pb_) (C:Addr):Prop where
 pg:sp_ K C Str.empty=true
 hd:rw_ K C=true
 po:tw_ K C=true
 sa:po_ K (.ref C) "__setattr__"=some (some (.builtin "object.__setattr__"))
theorem Cls.get {K:pb_} {C:Addr} (c:Cls K C) (f:Str):sp_ K C f=true:=c.pg
def NoAttr (K:pb_) (C:Addr) (f:Str):Prop:=po_ K (.ref C) f=some none
theorem NoAttr.taker {K:pb_} {C:Addr} {f:Str} (n:NoAttr K C f):kr_ K C f=some none:=by
 unfold kr_
 rw[show po_ K (.ref C) f=some none from n]
 rfl
structure Con (K:pb_) (C:Addr) (f:Str) (v:V) (u:Value):Prop where
 at_:po_ K (.ref C) f=some (some u)
 rel:RelV v u
 get:s4_ K u "__get__"=some none
 cp:PySem.W.copiedNames.contains f=false
structure Meth (K:pb_) (C:Addr) (m:Str) (f:Addr):Prop where
 at_:po_ K (.ref C) m=some (some (.ref f))
 fn:qx_ K (.ref f)=true
 kp:q9_ K (.ref f)=true
section
variable {X:Cx} {pins:List (Addr×Obj)} {σ:St} {H:Hp} {s:Shared} {a C dx:Addr} {fs:List (Str×V)} {f:Str} {v:V} {A:Around} {E:Value->Shared->Prop}
theorem jlr_ {b:Bool} {Q:Value->Shared->Prop} (I:Inv X pins σ H s) (e:H a=some (.ins C dx fs)) (c:Cls X.K C) (n:NoAttr X.K C f) (l:fs.lookup f=some v)
  (h:∀ u s',Inv X pins σ H s'->RelV v u->Q u s'):wpAny (model X.prog X.w) A (getAttr (.ref a) f b) Q E s:=by
 obtain⟨mA,O,r,_,_,_⟩:=jhq_ I.hok e
 obtain⟨u,hu,ru⟩:=RelO.some_of (v:=v) (o:=mA f) (by rw[<- l];exact r f)
 exact jxk_ I.kIn O (c.get f) c.hd n hu (jfx_ ru) (h u _ (I.tok _) ru)
theorem jcg_ {m:Str} {g:Addr} {pl:Sem Bool} {Q:Value×List Value->Shared->Prop} (I:Inv X pins σ H s) (e:H a=some (.ins C dx fs)) (c:Cls X.K C) (k:Meth X.K C m g) (l:fs.lookup m=none)
  (h:Q (.ref g,[.ref a]) s):wpAny (model X.prog X.w) A (getMethod (.ref a) m pl) Q E s:=by
 obtain⟨mA,O,r,_,_,_⟩:=jhq_ I.hok e
 have hn:mA m=none:=RelO.none_of (by rw[<- l];exact r m)
 exact jvk_ I.kIn O (c.get m) k.at_ k.fn hn h
theorem jkt_ {y:V} {u:Value} {Q:Unit->Shared->Prop} (I:Inv X pins σ H s) (e:H a=some (.ins C dx fs)) (c:Cls X.K C) (n:NoAttr X.K C f) (hl:fs.length < 1000) (ry:RelV y u)
  (h:∀ s',Inv X pins σ (upd H a (.ins C dx (putF f y fs))) s'->Q () s'):wpAny (model X.prog X.w) A (setAttr (.ref a) f u) Q E s:=by
 obtain⟨mA,O,r,wi,_,ho⟩:=jhq_ I.hok e
 have hz:(fs.map (·.1)).length<=sizeLine:=by rw[pc_,sizeLine_eq];omega
 refine jyg_ I.kIn O c.sa c.po n.taker c.hd wi hz fun h' O' sb=>h _ ?_
 have hd:∃ o,h'.get? dx=some o:=let ⟨o,_,_,e',_⟩:=O'.ns;⟨o,e'⟩
 refine I.write (x:=a) (e:=dx) (by rw[e];exact True.intro) (.inr ho) (fun b q hb z=>(sb.2 b hb).trans z) hd ?_
 refine⟨by rw[jf_ O.ne];exact ho,?_,O.ne,O'.obj,_,O'.ns,fun g=>?_,fun g hg=>?_⟩
 ·have:=jbo_ f y fs;omega
 ·show RelO ((putF f y fs).lookup g) (if g=f then some u else mA g)
  rw[jbh_]
  by_cases q:g=f
  ·rw[if_pos q,if_pos q];exact ry
  ·rw[if_neg q,if_neg q];exact r g
 ·by_cases q:g=f
  ·rw[q];exact(jau_ f y fs).1
  ·refine(jau_ f y fs).2 g (wi g fun z=>hg ?_)
   show (if g=f then some u else mA g)=none
   rw[if_neg q];exact z
theorem Inv.made (I:Inv X pins σ H s):Inv X pins σ (upd (upd H s.heap.objs.size (.own (s.heap.objs.size+1))) (s.heap.objs.size+1) (.ins C s.heap.objs.size []))
  { s with heap:=(s.heap.push rb_).push (rx_ C s.heap.objs.size) }:=by
 have e1:(s.heap.push rb_).get? s.heap.objs.size=some rb_:=pq_ s.heap rfl
 have e2:((s.heap.push rb_).push (rx_ C s.heap.objs.size)).get? (s.heap.objs.size+1)=some (rx_ C s.heap.objs.size):=by
  have:=pq_ (s.heap.push rb_) (o:=rx_ C s.heap.objs.size) rfl
  rwa [ra_] at this
 have e3:(s.heap.push rb_).Ns s.heap.objs.size (fun _=>none):=⟨rb_,#[],_,e1,rfl,(fun e he=>absurd he (by simp)),fun _=>rfl⟩
 have I1:=I.laid (a:=s.heap.objs.size) (o:=.own (s.heap.objs.size+1)) (h':=s.heap.push rb_) (t':=s.toks) (fun b u q=>pf_ _ q) (pg_ _) ⟨_,e1⟩
 refine I1.laid (a:=s.heap.objs.size+1) (o:=.ins C s.heap.objs.size []) (t':=s.toks) (fun b u q=>pf_ _ q) (l0_ (ra_ _ _)) ?_
 have ne:s.heap.objs.size≠s.heap.objs.size+1:=p3_ (ri_ _)
 refine⟨by rw[jf_ ne,jb_],qe_ _,ne,e2,fun _=>none,(lw_ e3).at fun o q=>pf_ _ q,fun _=>True.intro,fun y hy=>absurd rfl hy⟩
theorem jnf_ {prog:Program} {w:World} {env:Env} {e:Expr} {f:Str} {pos:Pos} {s:Shared} {Q:Value->Shared->Prop} (hb:attributeBase e f env (eval e env)=eval e env)
  (h:wpAny (model prog w) A (eval e env) (fun o s₁=>wpAny (model prog w) A (getAttr o f true) Q E s₁) E s):wpAny (model prog w) A (eval (.Attribute e f pos) env) Q E s :=
 Attribute_any_ h (by rw[arm_eval_Attribute,hb])
end
def tFld (K:pb_) (ta:TE) (f:Str):TE:=fun σ H Q=>ta σ H fun x H1=>∃ a C dx fs v,x=.ref a/\H1 a=some (.ins C dx fs)/\Cls K C/\NoAttr K C f/\fs.lookup f=some v/\Q v H1
def sFld (K:pb_) (ta tv:TE) (f:Str):TS:=fun D σ H=>tv σ H fun y H1=>ta σ H1 fun x H2=>∃ a C dx fs,x=.ref a/\H2 a=some (.ins C dx fs)/\Cls K C/\NoAttr K C f/\fs.length < 1000 /\
 D.nx σ (upd H2 a (.ins C dx (putF f y fs)))
section
variable {X:Cx} {o e value:Expr} {f:Str} {pos pos' tpos:Pos} {ta tv:TE}
theorem yv_ (he:PE X e ta) (hb:attributeBase e f X.env (eval e X.env)=eval e X.env):PE X (.Attribute e f pos) (tFld X.K ta f):=by
 intro pins s σ H Q I h
 refine jnf_ hb (thn (he pins s σ H _ I h) fun u s1 ⟨x,H1,I1,rx,a,C,dx,fs,v,ex,ea,c,n,l,q⟩=>?_)
 subst ex
 obtain rfl:u=Value.ref a:=rx
 exact jlr_ I1 ea c n l fun u' s2 I2 ru=>⟨v,H1,I2,ru,q⟩
theorem jde_ (ha:PE X o ta) (hv:PE X value tv) (hs:swapsWith value (some (.Attribute o f pos')) pos.line X.env=pure false):PS X (.Assign [.Attribute o f pos'] value pos) (sFld X.K ta tv f):=by
 intro pins s σ H D I h
 refine plainObj_wpAny_Assign_Attribute (thn (hv pins s σ H _ I h) fun u s1 ⟨y,H1,I1,ry,q⟩=>thn (ha pins s1 σ H1 _ I1 q) fun ov s2 ⟨x,H2,I2,rx,a,C,dx,fs,ex,ea,c,n,l,q2⟩=>?_) hs
 subst ex
 obtain rfl:ov=Value.ref a:=rx
 exact jkt_ I2 ea c n l ry fun s3 I3=>⟨σ,_,I3,q2⟩
theorem jyy_ {pl:Sem Bool} {m:Str} {apos:Pos} {args:List Expr} {pins:List (Addr×Obj)} {s:Shared} {σ:St} {H:Hp} {Q:Value->Shared->Prop} {te:TE} (he:PE X e te) (I:Inv X pins σ H s)
  (h:te σ H fun x H1=>∃ a C dx fs g,x=.ref a/\H1 a=some (.ins C dx fs)/\Cls X.K C/\Meth X.K C m g/\fs.lookup m=none /\
   ∀ s1,Inv X pins σ H1 s1->wpAny (model X.prog X.w) X.A (callWith pos (.ref g) [.ref a] (backTo pos (starEach args X.env)) (backToKw pos (keywordEach [] X.env))) Q X.xe s1)
  (ht:eval (.Call (.Attribute e m apos) args [] pos) X.env=(do
   let ov <- eval e X.env
   standAt apos.atName
   let (f,first) <- holding [ov] (getMethod ov m pl)
   callWith pos f first (backTo pos (starEach args X.env)) (backToKw pos (keywordEach [] X.env)))) :
  wpAny (model X.prog X.w) X.A (eval (.Call (.Attribute e m apos) args [] pos) X.env) Q X.xe s:=by
 refine t3_ (pl:=pl) (thn (he pins s σ H _ I h) fun u s1 ⟨x,H1,I1,rx,a,C,dx,fs,g,ex,ea,c,k,l,q⟩=>?_) ht
 subst ex
 obtain rfl:u=Value.ref a:=rx
 exact jcg_ I1 ea c k l (q s1 I1)
end
section
variable {X:Cx} {pins:List (Addr×Obj)} {σ:St} {H:Hp} {s:Shared} {A:Around} {E:Value->Shared->Prop} {Q:Value->Shared->Prop} {c:Value} {b:Bool}
inductive TyOf (K:pb_) (H:Hp):V->Value->Prop where
 | non:TyOf K H .non (.type "NoneType")
 | bl (x:Bool):TyOf K H (.bl x) (.type "bool")
 | int (i:Int):TyOf K H (.int i) (.type "int")
 | str (x:Str):TyOf K H (.str x) (.type "str")
 | flt (x:UInt64):TyOf K H (.flt x) (.type "float")
 | lst {a:Addr} {xs:List V} (e:H a=some (.lst xs)):TyOf K H (.ref a) (.type "list")
 | frz {a:Addr} {o:Obj} {xs:List V} (e:H a=some (.frz o (.lst xs))):TyOf K H (.ref a) (.type "list")
 | tup {a:Addr} {xs:List V} (e:H a=some (.tup xs)):TyOf K H (.ref a) (.type "tuple")
 | dK {a:Addr} {kvs:List (Key×V)} (e:H a=some (.dK kvs)):TyOf K H (.ref a) (.type "dict")
 | dT {a:Addr} {kvs:List (List Key×V)} (e:H a=some (.dT kvs)):TyOf K H (.ref a) (.type "dict")
 | ins {a C dx:Addr} {fs:List (Str×V)} (e:H a=some (.ins C dx fs)) (cl:Cls K C) (ha:po_ K (.ref C) "__class__"=some (some (.builtin "object.__class__")))
   (hn:s4_ K (.builtin "object.__class__") "__get__"=some (some (.builtin "getset_descriptor.__get__"))) (htk:PySem.W.takesIn K (.builtin "object.__class__")=some true)
   (hm:wd_ K C (.type "object")=some true):TyOf K H (.ref a) (.ref C)
end
end L2
namespace L2
open PySem PySem.Spec PyProof.Rows
structure Room (k:Nat) (A:Around):Prop where
 hd:A.handled=none
 dp:A.depth+3 * k+5 < recursionLimit
 un:A.units+16 * k+200 < cLine
theorem Room.mono {j k:Nat} {A:Around} (r:Room k A) (h:j<=k):Room j A:=⟨r.hd,by have:=r.dp;omega,by have:=r.un;omega⟩
theorem Room.deeper {k:Nat} {A:Around} (r:Room (k+1) A) (env:Env):Room k (A.deeper env) :=
 ⟨r.hd,by have:=r.dp;show A.depth+1+3 * k+5 < _;omega,by have:=r.un;show A.units+3+16 * k+200 < _;omega⟩
theorem jmn_ {A:Around} {C:Addr} {us:List Value} {kw:List (Str×Value)}:(A.under (.builtin "type.__call__" ⟨.ref C::us,kw⟩)).depth=A.depth+1:=by
 first | rfl | simp[l1_,Code.weight,Code.isCreation,Code.isGuard,Code.isCaller,Code.frames,l2_,guardIds]
theorem jla_ {A:Around} {C:Addr} {us:List Value} {kw:List (Str×Value)}:(A.under (.builtin "type.__call__" ⟨.ref C::us,kw⟩)).units=A.units+1:=by
 first | rfl | simp[l1_,Code.cUnits,Code.frames,l2_]
theorem Room.make {k:Nat} {A:Around} (r:Room (k+1) A) (C:Addr) (us:List Value) (kw:List (Str×Value)):Room k (A.under (.builtin "type.__call__" ⟨.ref C::us,kw⟩)) :=
 ⟨r.hd,by have:=r.dp;rw[jmn_];omega,by have:=r.un;rw[jla_];omega⟩
theorem Room.depth {k:Nat} {A:Around} (r:Room k A):A.depth < recursionLimit:=by have:=r.dp;omega
theorem Room.units {k:Nat} {A:Around} (r:Room k A):A.units+64 < cLine:=by have:=r.un;omega
def tNil:TA:=fun _ H Q=>Q [] H
def jnt_ (ta:TE) (tr:TA):TA:=fun σ H Q=>ta σ H fun x H1=>tr σ H1 fun xs H2=>Q (x::xs) H2
section
variable {X:Cx} {e:Expr} {es:List Expr} {te:TE} {t:TA} {pos:Pos}
theorem jc_:PA X [] tNil:=fun _ _ _ _ H Q I h=>rl_ ⟨[],H,I,.nil,h⟩
theorem ja_ (ha:PE X e te) (hr:PA X es t) (hs:starEach (e::es) X.env=(false,eval e X.env)::starEach es X.env:=by rfl):PA X (e::es) (jnt_ te t):=by
 intro pos pins s σ H Q I h
 rw[hs]
 show wpAny _ _ (spliced ((false,eval e X.env)::backTo pos (starEach es X.env))) _ _ s
 refine qy_ (thn (ha pins s σ H _ I h) fun u s1 ⟨x,H1,I1,r1,q1⟩=>?_)
 exact thn (hr pos pins s1 σ H1 _ I1 q1) fun us s2 ⟨xs,H2,I2,r2,q2⟩=>⟨x::xs,H2,I2,.cons r1 r2,q2⟩
def tTup (t:TA):TE:=fun σ H Q=>t σ H fun xs H1=>xs.length<=sizeLine/\∀ p,H1 p=none->Q (.ref p) (upd H1 p (.tup xs))
def tLst (t:TA):TE:=fun σ H Q=>t σ H fun xs H1=>xs.length<=sizeLine/\∀ p,H1 p=none->Q (.ref p) (upd H1 p (.lst xs))
theorem z4_ {x1} (h:PA X es t):PE X (.Tuple es x1 pos) (tTup t):=by
 intro pins s σ H Q I hq
 refine wpAny_Tuple_spliced (thn (h pos pins s σ H _ I hq) fun us s1 ⟨xs,H1,I1,r,z,q⟩=>⟨by rw[<- r.length];exact z,?_⟩)
 have hf:H1 s1.heap.objs.size=none:=I1.hok.fresh (pg_ _)
 refine⟨.ref s1.heap.objs.size,upd H1 s1.heap.objs.size (.tup xs),I1.laid (t':=s1.toks) (fun b u e=>pf_ _ e) (pg_ _) ?_,rfl,q _ hf⟩
 exact⟨z,us,r,⟨_,pq_ _ rfl,rfl,_,rfl⟩⟩
theorem j5_ (h:PA X es t):PE X (.List es pos) (tLst t):=by
 intro pins s σ H Q I hq
 refine wpAny_List_spliced (thn (h pos pins s σ H _ I hq) fun us s1 ⟨xs,H1,I1,r,z,q⟩=>⟨by rw[<- r.length];exact z,?_⟩)
 have hf:H1 s1.heap.objs.size=none:=I1.hok.fresh (pg_ _)
 refine⟨.ref s1.heap.objs.size,upd H1 s1.heap.objs.size (.lst xs),I1.laid (t':=s1.toks) (fun b u e=>pf_ _ e) (pg_ _) ?_,rfl,q _ hf⟩
 exact⟨z,us,0,r,pq_ _ rfl⟩
end
abbrev Sp:=List V->Hp->VK->XK->Prop
abbrev CXT:=List Env->Hp->Shared->XK->Value->Shared->Prop
structure Env0 (P:Program) (w:World) (K:pb_) (mg:Str->Option Value) (base:Heap) (A:Around) (outer:List Env) (s:Shared) (H:Hp):Prop where
 frames:A.frames=some outer
 mod:Mod K mg base
 bs:∀ b o,base.get? b=some o->s.heap.get? b=some o/\H b=none
 bsz:base.objs.size<=s.heap.objs.size
 funs:s.heap.FunFrames base outer
 frf:∀ b∈frs outer,H b=none
 hok:HOk P w H s.heap
 bare:AllBare s.gens
def CE (outer:List Env) (P:Program) (w:World) (H:Hp) (s:Shared) (Q:VK) (u:Value) (s':Shared):Prop :=
 ∃ v H',s'.os=s.os/\AllBare s'.gens/\Un (frs outer) [] H H' s.heap s'.heap/\HOk P w H' s'.heap/\RelV v u/\Q v H'
def CR (CX:CXT) (outer:List Env) (P:Program) (w:World) (H:Hp) (s:Shared) (Q:VK) (E:XK) (r:Result) (s':Shared):Prop :=
 match r with
 | .ok (.ret u)=>CE outer P w H s Q u s'
 | .ok _=>False
 | .error e=>CX outer H s E e s'
structure FnOk (P:Program) (w:World) (K:pb_) (mg:Str->Option Value) (base:Heap) (CX:CXT) (k:Nat) (f:Addr) (fd:FuncData) (ps:List Str) (sp:Sp):Prop where
 len:∀ vs H Q E,sp vs H Q E->vs.length=ps.length
 run:∀(A:Around) (outer:List Env) (s:Shared) (H:Hp) (args:Args) (us:List Value) (vs:List V) (Q:VK) (E:XK),Room k A->Env0 P w K mg base A outer s H->BindsTo s fd args (ps.zip us)->Vals vs us->sp vs H Q E ->
  codeAny (model P w) A (.call (.ref f) args) (CR CX outer P w H s Q E) s
theorem Env0.make {P:Program} {w:World} {K:pb_} {mg:Str->Option Value} {base:Heap} {A:Around} {outer:List Env} {s:Shared} {H:Hp} (e:Env0 P w K mg base A outer s H) (C:Addr) (us:List Value) (kw:List (Str×Value)) :
  Env0 P w K mg base (A.under (.builtin "type.__call__" ⟨.ref C::us,kw⟩)) outer s H:=⟨by first | exact e.frames | (simpa [l1_,Code.envs,l2_,pushEnvs] using e.frames),e.mod,e.bs,e.bsz,e.funs,e.frf,e.hok,e.bare⟩
section
variable {X:Cx} {pins:List (Addr×Obj)} {σ:St} {H:Hp} {s s':Shared}
theorem Inv.env0 (I:Inv X pins σ H s):Env0 X.prog X.w X.K X.mg X.base X.A X.stack s H :=
 ⟨I.ok.frames,I.ok.mod,I.bs,qg_ I.ok.bsz I.sz,I.stack,I.stkFree,I.hok,I.bare⟩
theorem Inv.after {Q:VK} {u:Value} (I:Inv X pins σ H s) (h:CE X.stack X.prog X.w H s Q u s'):EP X pins σ Q u s':=by
 obtain⟨v,H',os,bare,un,hok,r,q⟩:=h
 obtain⟨hh,g,d,t,os'⟩:=s'
 obtain rfl:os'=s.os:=os
 exact⟨v,H',I.call (h':=hh) (g':=g) (d':=d) (t':=t) (ch:=[]) un hok bare (fun b z=>absurd z (by simp)),r,q⟩
end
def jnn_ (sp:Sp) (dvs:List V) (E:XK) (t:TA):TE:=fun σ H Q=>t σ H fun vs H1=>sp (vs++dvs) H1 Q E
def jtg_ (C:Addr) (m:Str) (sp:Sp) (dvs:List V) (E:XK) (ta:TE) (t:TA):TE:=fun σ H Q=>ta σ H fun x H1=>∃ a dx fs,x=.ref a/\H1 a=some (.ins C dx fs)/\fs.lookup m=none /\
 t σ H1 fun vs H2=>sp (x::(vs++dvs)) H2 Q E
def jiy_ (C:Addr) (sp:Sp) (dvs:List V) (E:XK) (t:TA):TE:=fun σ H Q=>t σ H fun vs H1=>∀ x dx,H1 x=none->H1 dx=none->dx≠x ->
 sp (.ref x::(vs++dvs)) (upd (upd H1 dx (.own x)) x (.ins C dx [])) (fun v H2=>v=.non/\Q (.ref x) H2) E
def Binds (K:pb_) (fd:FuncData) (ps:List Str) (ds:List Value):Prop :=
 ∀(s:Shared) (us:List Value),K.In s.heap->(us++ds).length=ps.length->BindsTo s fd ⟨us,[]⟩ (ps.zip (us++ds))
theorem Binds.all {K:pb_} {fd:FuncData} {ps:List Str} (h:∀ us:List Value,us.length=ps.length->bindArgs fd ⟨us,[]⟩=pure (ps.zip us)):Binds K fd ps []:=fun s us _ hl=>by
 rw[py_] at hl ⊢
 exact .of_eq (h us hl)
def y8_ (CX:CXT) (X:Cx) (E:XK):Prop:=∀(pins:List (Addr×Obj)) (σ:St) (H:Hp) (s:Shared) (e:Value) (s':Shared),Inv X pins σ H s->CX X.stack H s E e s'->X.xe e s'
section
variable {X:Cx} {CX:CXT} {k:Nat} {f C:Addr} {fd:FuncData} {ps:List Str} {sp:Sp} {dvs:List V} {ds:List Value} {E:XK} {x m:Str} {p pos apos:Pos} {e o:Expr} {es:List Expr} {ta:TE} {t:TA}
theorem juu_ {pins:List (Addr×Obj)} {σ:St} {H:Hp} {s:Shared} {Q:VK} {us:List Value} {vs:List V} (F:FnOk X.prog X.w X.K X.mg X.base CX k f fd ps sp) (hr:Room k X.A) (hb:Binds X.K fd ps ds) (hd:Vals dvs ds) (hx:y8_ CX X E)
  (I:Inv X pins σ H s) (r:Vals vs us) (h:sp (vs++dvs) H Q E):wpAny (model X.prog X.w) X.A (call (.ref f) us) (EP X pins σ Q) X.xe s:=by
 have r2:Vals (vs++dvs) (us++ds):=r.append hd
 have hl:(us++ds).length=ps.length:=by rw[<- r2.length];exact F.len _ _ _ _ h
 refine wpAny_call (codeAny_mono (F.run X.A X.stack s H ⟨us,[]⟩ (us++ds) (vs++dvs) Q E hr I.env0 (hb s us I.kIn hl) r2 h) fun r s' hq=>?_)
 cases r with
 | error e=>exact hx pins σ H s e s' I hq
 | ok fl =>
  cases fl with
  | ret u=>exact I.after hq
  | next=>exact rk_ hq
  | brk=>exact rk_ hq
  | cont=>exact rk_ hq
theorem joh_ (F:FnOk X.prog X.w X.K X.mg X.base CX k f fd ps sp) (hr:Room k X.A) (hg:Gl X x) (hm:X.mg x=some (.ref f)) (hk:q9_ X.K (.ref f)=true) (hb:Binds X.K fd ps ds) (hd:Vals dvs ds) (hx:y8_ CX X E)
  (ha:PA X (e::es) t) (hdb:(x == ("__debug__":Str))=false:=by decide) (he:starEach (e::es) X.env=(false,eval e X.env)::starEach es X.env:=by rfl) (hpl:(backTo pos (starEach es X.env)).any (·.1)=false:=by rfl) :
  PE X (.Call (.Name x p) (e::es) [] pos) (jnn_ sp dvs E t):=by
 intro pins s σ H Q I h
 refine wpAny_Call_Name_kw (x9_ I hg hm ?_ hdb)
 refine tm_ (h₀:=X.base) I.ok.mod.kin hk (thn (ha pos pins s σ H _ I h) fun us s1 ⟨vs,H1,I1,r,q⟩=>⟨I1.kIn,?_⟩) he hpl
 exact juu_ F hr hb hd hx I1 r q
theorem jvz_ {pl:Sem Bool} (he:PE X o ta) (c:Cls X.K C) (hm:Meth X.K C m f) (F:FnOk X.prog X.w X.K X.mg X.base CX k f fd ps sp) (hr:Room k X.A) (hb:Binds X.K fd ps ds) (hd:Vals dvs ds) (hx:y8_ CX X E) (ha:PA X (e::es) t)
  (hst:starEach (e::es) X.env=(false,eval e X.env)::starEach es X.env:=by rfl) (hpl:(backTo pos (starEach es X.env)).any (·.1)=false:=by rfl)
  (ht:eval (.Call (.Attribute o m apos) (e::es) [] pos) X.env=(do
   let ov <- eval o X.env
   standAt apos.atName
   let (f,first) <- holding [ov] (getMethod ov m pl)
   callWith pos f first (backTo pos (starEach (e::es) X.env)) (backToKw pos (keywordEach [] X.env))):=by rfl) :
  PE X (.Call (.Attribute o m apos) (e::es) [] pos) (jtg_ C m sp dvs E ta t):=by
 intro pins s σ H Q I h
 refine t3_ (pl:=pl) (thn (he pins s σ H _ I h) fun u s1 ⟨x,H1,I1,rx,a,dx,fs,ex,ea,l,q⟩=>?_) ht
 subst ex
 obtain rfl:u=Value.ref a:=rx
 refine jcg_ I1 ea c hm l ?_
 refine tm_ (first:=[.ref a]) (h₀:=X.base) I.ok.mod.kin hm.kp (thn (ha pos pins s1 σ H1 _ I1 q) fun us s2 ⟨vs,H2,I2,r,q2⟩=>⟨I2.kIn,?_⟩) hst hpl
 exact juu_ (us:=.ref a::us) (vs:=.ref a::vs) F hr hb hd hx I2 (.cons rfl r) q2
structure Mk (K:pb_) (C f:Addr):Prop where
 makes:wh_ K C=true
 init:po_ K (.ref C) "__init__"=some (some (.ref f))
 fn:qx_ K (.ref f)=true
 kp:q9_ K (.ref C)=true
theorem jis_ {pins:List (Addr×Obj)} {σ:St} {H:Hp} {s:Shared} {Q:VK} {us:List Value} {vs:List V} (M:Mk X.K C f) (F:FnOk X.prog X.w X.K X.mg X.base CX k f fd ps sp) (hr:Room (k+1) X.A) (hb:Binds X.K fd ps ds) (hd:Vals dvs ds)
  (hx:y8_ CX X E) (I:Inv X pins σ H s) (r:Vals vs us)
  (h:∀ x dx,H x=none->H dx=none->dx≠x->sp (.ref x::(vs++dvs)) (upd (upd H dx (.own x)) x (.ins C dx [])) (fun v H2=>v=.non/\Q (.ref x) H2) E) :
  wpAny (model X.prog X.w) X.A (call (.ref C) us) (EP X pins σ Q) X.xe s:=by
 have hq:=h (s.heap.objs.size+1) s.heap.objs.size (I.hok.fresh (sv_ _)) (I.hok.fresh (pg_ _)) (p3_ (ri_ _))
 have I2:=Inv.made (C:=C) I
 have r2:Vals (V.ref (s.heap.objs.size+1)::(vs++dvs)) (Value.ref (s.heap.objs.size+1)::(us++ds)):=.cons rfl (r.append hd)
 have hl:(Value.ref (s.heap.objs.size+1)::us++ds).length=ps.length:=by
  have e:=r2.length
  rw[F.len _ _ _ _ hq] at e
  exact e.symm
 refine wpAny_call (jui_ (f:=f) I.kIn M.makes M.init (beq_iff_eq.mp M.fn) (codeAny_mono (F.run _ X.stack _ _ ⟨Value.ref (s.heap.objs.size+1)::us,[]⟩ (Value.ref (s.heap.objs.size+1)::(us++ds)) _ _ E (hr.make C us [])
  (I2.env0.make C us []) (hb _ (Value.ref (s.heap.objs.size+1)::us) I2.kIn hl) r2 hq) fun r s' hq'=>?_))
 cases r with
 | error e=>exact hx pins σ _ _ e s' I2 hq'
 | ok fl =>
  cases fl with
  | ret u =>
   obtain⟨v,H',I3,rv,ev,q3⟩:=I2.after hq'
   subst ev
   exact⟨rv,⟨V.ref (s.heap.objs.size+1),H',I3,rfl,q3⟩⟩
  | next=>exact rk_ hq'
  | brk=>exact rk_ hq'
  | cont=>exact rk_ hq'
theorem jwg_ (M:Mk X.K C f) (F:FnOk X.prog X.w X.K X.mg X.base CX k f fd ps sp) (hr:Room (k+1) X.A) (hg:Gl X x) (hm:X.mg x=some (.ref C)) (hb:Binds X.K fd ps ds) (hd:Vals dvs ds) (hx:y8_ CX X E)
  (ha:PA X (e::es) t) (hdb:(x == ("__debug__":Str))=false:=by decide) (he:starEach (e::es) X.env=(false,eval e X.env)::starEach es X.env:=by rfl) (hpl:(backTo pos (starEach es X.env)).any (·.1)=false:=by rfl) :
  PE X (.Call (.Name x p) (e::es) [] pos) (jiy_ C sp dvs E t):=by
 intro pins s σ H Q I h
 refine wpAny_Call_Name_kw (x9_ I hg hm ?_ hdb)
 refine tm_ (h₀:=X.base) I.ok.mod.kin M.kp (thn (ha pos pins s σ H _ I h) fun us s1 ⟨vs,H1,I1,r,q⟩=>⟨I1.kIn,?_⟩) he hpl
 exact jis_ M F hr hb hd hx I1 r q
theorem jrh_ (M:Mk X.K C f) (F:FnOk X.prog X.w X.K X.mg X.base CX k f fd ps sp) (hr:Room (k+1) X.A) (hg:Gl X x) (hm:X.mg x=some (.ref C)) (hb:Binds X.K fd ps ds) (hd:Vals dvs ds) (hx:y8_ CX X E)
  (hdb:(x == ("__debug__":Str))=false:=by decide):PE X (.Call (.Name x p) [] [] pos) (jiy_ C sp dvs E tNil):=by
 intro pins s σ H Q I h
 refine wpAny_Call_Name_kw (x9_ I hg hm ?_ hdb)
 exact PySem.W.callWith_K0 I.kIn M.kp (jis_ (us:=[]) M F hr hb hd hx I .nil h)
end
section
variable {X:Cx} {CX:CXT} {k:Nat} {f C:Addr} {fd:FuncData} {ps ks:List Str} {sp:Sp} {E:XK} {x m:Str} {p pos apos kpos:Pos} {e o:Expr} {es:List Expr} {kws:List Keyword} {te ta:TE} {t tk:TA} {nm:Option Str}
structure KBinds (K:pb_) (fd:FuncData) (ps ks:List Str) (g:List Value->List Value->List Value) (gV:List V->List V->List V):Prop where
 to:∀(s:Shared) (us ws:List Value),K.In s.heap->(g us ws).length=ps.length->BindsTo s fd ⟨us,ks.zip ws⟩ (ps.zip (g us ws))
 rel:∀{vs:List V} {us:List Value} {zs:List V} {ws:List Value},Vals vs us->Vals zs ws->Vals (gV vs zs) (g us ws)
variable {g:List Value->List Value->List Value} {gV:List V->List V->List V}
end
structure FnScope (N P:List Str) (sc:Scope):Prop where
 kind:sc.kind=.function
 co:sc.isCoroutine=false
 gen:sc.isGenerator=false
 nd:N.Nodup
 pre:N.take P.length=P
 par:∀ x∈P,sc.names.lookup x=some .local∨sc.names.lookup x=some .cell
 nofree:∀ y∈sc.names,y.2≠.free
theorem jfd_ {kindOf:Str->Option NameKind} {x:Str}:∀{binds:List (Str×Value)} {m:Str->Option Value},(∀ v,(x,v)∉binds)->bindL kindOf binds m x=m x
 | [],_,_=>rfl
 | (n,v)::r,m,h=>by
  unfold bindL
  rw[jfd_ fun w hw=>h w (pt_ _ hw)]
  split
  ·have:x≠n:=by rintro rfl;exact h v p5_
   simp[this]
  ·rfl
theorem jfe_ {kindOf:Str->Option NameKind} {x:Str}:∀{binds:List (Str×Value)} {m:Str->Option Value},(∀ v,(x,v)∉binds)->bindC kindOf binds m x=m x
 | [],_,_=>rfl
 | (n,v)::r,m,h=>by
  unfold bindC
  rw[jfe_ fun w hw=>h w (pt_ _ hw)]
  split
  ·rfl
  ·have:x≠n:=by rintro rfl;exact h v p5_
   simp[this]
theorem jey_ {kindOf:Str->Option NameKind} {x:Str} {v:Value}:∀{P:List Str} {vs:List Value} {i:Nat} {m:Str->Option Value},P.Nodup->P[i]?=some x->vs[i]?=some v->kindOf x=some .local ->
  bindL kindOf (P.zip vs) m x=some v
 | [],_,_,_,_,h,_,_=>by simp at h
 | _::_,[],_,_,_,_,h,_=>by simp at h
 | p::P,w::vs,0,m,nd,h1,h2,hk=>by
  simp at h1 h2;subst h1;subst h2
  show bindL kindOf ((p,w)::P.zip vs) m p=_
  unfold bindL
  rw[jfd_ fun v hv=>(tn_.mp nd).1 (ks_ hv).1,if_pos hk]
  simp
 | p::P,w::vs,i+1,m,nd,h1,h2,hk=>by
  show bindL kindOf ((p,w)::P.zip vs) m x=_
  unfold bindL
  exact jey_ (i:=i) (tn_.mp nd).2 (by simpa using h1) (by simpa using h2) hk
theorem jer_ {kindOf:Str->Option NameKind} {x:Str} {v:Value}:∀{P:List Str} {vs:List Value} {i:Nat} {m:Str->Option Value},P.Nodup->P[i]?=some x->vs[i]?=some v->kindOf x≠some .local ->
  bindC kindOf (P.zip vs) m x=some v
 | [],_,_,_,_,h,_,_=>by simp at h
 | _::_,[],_,_,_,_,h,_=>by simp at h
 | p::P,w::vs,0,m,nd,h1,h2,hk=>by
  simp at h1 h2;subst h1;subst h2
  show bindC kindOf ((p,w)::P.zip vs) m p=_
  unfold bindC
  rw[jfe_ fun v hv=>(tn_.mp nd).1 (ks_ hv).1,if_neg hk]
  simp
 | p::P,w::vs,i+1,m,nd,h1,h2,hk=>by
  show bindC kindOf ((p,w)::P.zip vs) m x=_
  unfold bindC
  exact jer_ (i:=i) (tn_.mp nd).2 (by simpa using h1) (by simpa using h2) hk
def start (N:List Str) (vs:List V):St:=vs.map some++pv_ (N.length - vs.length) none
def cxOf (CX:CXT) (P:Program) (w:World) (K:pb_) (mg:Str->Option Value) (base:Heap) (N:List Str) (qual:Str) (scope:Scope) (f:Addr) (cd:Value) (A:Around) (outer:List Env) (s:Shared) (H:Hp) (E:XK):Cx where
 prog:=P
 w:=w
 K:=K
 mg:=mg
 base:=base
 A:=A.deeper (envOfC qual scope s.heap.objs.size f cd)
 N:=N
 s₀:=s
 H₀:=H
 env:=envOfC qual scope s.heap.objs.size f cd
 outer:=outer
 stack:=envOfC qual scope s.heap.objs.size f cd::outer
 ex:=[]
 calm:=true
 fn:=fun _=>true
 pn:=[]
 xe:=fun e s'=>wpAny (model P w) (A.deeper (envOfC qual scope s.heap.objs.size f cd)) (leaving (envOfC qual scope s.heap.objs.size f cd) e) (fun _ s''=>CX outer H s E e s'') (fun e' s''=>CX outer H s E e' s'') s'
theorem jjj_ {sc:Scope} {n:Nat} {x:Str} (h:sc.names.lookup x=some .cell):∃ c,(cellsFrom n sc.names []).lookup x=some c:=by
 have q:=kk_ sc.names n [] (.inl h)
 exact w2_.mp q
theorem jqn_ {CX:CXT} {P:Program} {w:World} {K:pb_} {mg:Str->Option Value} {base:Heap} {N ps:List Str} {qual:Str} {scope:Scope} {f:Addr} {cd:Value} {A:Around} {outer:List Env} {s s1:Shared} {H:Hp} {E:XK} {us:List Value} {vs:List V}
  (S:FnScope N ps scope) (hd:A.handled=none) (e0:Env0 P w K mg base A outer s H) (hl:vs.length=ps.length) (r:Vals vs us)
  (x:InCallC s s.heap.objs.size (bindL (envOfC qual scope s.heap.objs.size f cd).kindOf (ps.zip us) fun _=>none) (cellsFrom (s.heap.objs.size+1) scope.names []) (bindC (envOfC qual scope s.heap.objs.size f cd).kindOf (ps.zip us) fun _=>none) s1) :
  Inv (cxOf CX P w K mg base N qual scope f cd A outer s H E) [] (start N vs) H s1:=by
 have hpl:ps.length<=N.length:=by have:=congrArg sm_ S.pre;rw[p2_] at this;omega
 obtain⟨h1,tk,rfl,hk⟩:=x.done
 have noA:∀ b:Addr,b∉(cxOf CX P w K mg base N qual scope f cd A outer s H E).ex:=fun b z=>absurd (show b∈([]:List Addr) from z) (by simp)
 refine⟨⟨e0.mod,S.kind,rfl,rfl,pg_ _,fun y z c h1 h2=>?_,fun y hy=>?_,fun y c _ h=>?_,fun _=>hd,Around.frames_deeper e0.frames,.inr ⟨rfl,rfl⟩,fun b z=>absurd z (noA b),e0.bs,e0.bsz,fun b _ _=>noA b,fun b z=>absurd z (noA b),e0.funs,e0.frf⟩,
  rfl,e0.bare,Un.kept hk,⟨_,x.toInCall.ns,fun i y v h1 h2 h3=>?_⟩,fun y c h=>⟨_,x.cell y c h⟩,e0.hok.fresh (pg_ _),fun y c h=>?_,fun p hp=>absurd (show p∈([]:List (Addr×Obj)) from hp) (by simp),e0.hok.kept hk,?_⟩
 ·exact name_of_addr x.apart (sn_ h1) (sn_ h2)
 ·have hy:scope.names.lookup y=some .cell∨scope.names.lookup y=some .free:=hy
  rcases hy with hy | hy
  ·exact jjj_ hy
  ·exact absurd rfl (S.nofree _ (sn_ hy))
 ·exact q6_ (x.above y c (sn_ h))
 ·have hi:i < vs.length:=by
   unfold start at h2
   by_cases hi:i < vs.length
   ·exact hi
   ·rw[wo_ (by simpa using hi)] at h2
    rw[w7_] at h2
    split at h2 <;> cases h2
  have ha:vs[i]?=some v:=by
   unfold start at h2
   rw[tb_ (by simpa using hi),pm_] at h2
   cases e:vs[i]? with
   | none=>rw[e] at h2;cases h2
   | some a=>rw[e] at h2;cases h2;rfl
  obtain⟨u,hu,rv⟩:=r.get ha
  have hp:ps[i]?=some y:=by
   rw[<- S.pre,List.getElem?_take_of_lt (by omega)];exact h1
  have ndP:ps.Nodup:=by rw[<- S.pre];exact S.nd.sublist (List.take_sublist _ _)
  refine⟨u,rv,?_⟩
  rcases S.par y (qs_ hp) with k | k
  ·exact .inl ⟨k,jey_ ndP hp hu k⟩
  ·obtain⟨c,e⟩:=jjj_ (n:=s.heap.objs.size+1) k
   refine .inr ⟨.inl k,c,e,?_⟩
   have q:=x.cell y c e
   rw[jer_ ndP hp hu (by show scope.names.lookup y≠_;rw[k];decide)] at q
   exact q
 ·exact e0.hok.fresh (q6_ (x.above y c (sn_ h)))
 ·unfold start
  show _=N.length
  rw[pd_,pc_,t4_]
  omega
theorem jzm_ {CX:CXT} {P:Program} {w:World} {K:pb_} {mg:Str->Option Value} {base:Heap} {k:Nat} {f:Addr} {name qual:Str} {params:Arguments} {body:List Stmt} {scope:Scope} {dV kV doc pm cdv ct oc:Value} {an od:Option Addr}
  {osl:Array (Option Value)} {N ps:List Str} {sp:Sp} (lk:K.lookup f=some ⟨oc,od,.func (sw_ name qual params body scope dV kV doc pm an cdv ct),osl⟩) (hcd:wx_ K cdv qual=true) (S:FnScope N ps scope)
  (len:∀ vs H Q E,sp vs H Q E->vs.length=ps.length)
  (hbody:∀(A:Around) (outer:List Env) (s:Shared) (H:Hp) (vs:List V) (Q:VK) (E:XK),Room k (A.deeper (envOfC qual scope s.heap.objs.size f cdv))->sp vs H Q E ->
   ∃ t,PSs (cxOf CX P w K mg base N qual scope f cdv A outer s H E) body t/\t { nx:=fun _ H'=>Q .non H',rt:=Q } (start N vs) H) :
  FnOk P w K mg base CX (k+1) f (sw_ name qual params body scope dV kV doc pm an cdv ct) ps sp:=by
 refine⟨len,fun A outer s H args us vs Q E hr e0 hb r hsp=>?_⟩
 have hl:=len _ _ _ _ hsp
 have KX:K.In s.heap:=e0.mod.kin.keeps fun b o e=>(e0.bs b o e).1
 have lim:s.heap.NoLimit:=e0.mod.nolimit.keeps fun b o e=>(e0.bs b o e).1
 have hkind:∀ y∈ps.zip us,scope.names.lookup y.1=some .local∨(scope.names.lookup y.1=some .cell/\((cellsFrom (s.heap.objs.size+1) scope.names []).lookup y.1).isSome=true):=fun⟨n,v⟩ hy=>by
  rcases S.par n (ks_ hy).1 with q | q
  ·exact .inl q
  ·exact .inr ⟨q,kk_ _ _ _ (.inl q)⟩
 refine codeAny_call_function hr.depth (KX _ _ lk) rfl S.co S.gen rfl (PySem.W.codeRec_of KX hcd) (hb _ _ _ _ ?_)
 refine wpAny_newFunctionEnv_cells S.kind hkind fun env he s1 x=>?_
 subst he
 refine⟨lim.keeps x.toInCall.keep,codeAny_func ?_⟩
 obtain⟨t,ht,hq⟩:=hbody A outer s H vs Q E (hr.deeper _) hsp
 have I:Inv (cxOf CX P w K mg base N qual scope f cdv A outer s H E) [] (start N vs) H s1:=jqn_ S hr.hd e0 hl r x
 refine wpAny_mono (ht [] s1 (start N vs) H _ I hq) (fun fl s' hs=>?_) fun e s' hs=>hs
 have fin:∀{σ':St} {H':Hp} {v:V} {u:Value},Inv (cxOf CX P w K mg base N qual scope f cdv A outer s H E) [] σ' H' s'->RelV v u->Q v H'->CE outer P w H s Q u s' :=
  fun{σ' H' v u} J rv q=>⟨v,H',J.os,J.bare,J.base,J.hok,rv,q⟩
 cases fl with
 | ret u =>
  obtain⟨v,σ',H',J,rv,q⟩:=hs
  exact fin J rv q
 | next =>
  obtain⟨σ',H',J,q⟩:=hs
  exact fin (v:=V.non) (u:=Value.none) J rfl q
 | brk =>
  obtain⟨_,_,_,q⟩:=hs
  exact rk_ q
 | cont =>
  obtain⟨_,_,_,q⟩:=hs
  exact rk_ q
end L2
namespace L2
open PySem PySem.Spec PyProof.Rows
section
variable {X:Cx} {x:Str} {p pos:Pos} {e:Expr} {es:List Expr} {t:TA} {id T:String} {r:List V->Hp->VK->Prop}
def tCB (r:List V->Hp->VK->Prop) (t:TA):TE:=fun σ H Q=>t σ H fun vs H1=>r vs H1 Q
theorem jp_ (hc:CallR X (.builtin id) r) (hg:Gl X x) (hm:X.mg x=none) (hv:bootBuiltins x=some (.builtin id)) (ha:PA X (e::es) t) (hn:x≠"__name__":=by decide) (hdb:(x == ("__debug__":Str))=false:=by decide)
  (he:starEach (e::es) X.env=(false,eval e X.env)::starEach es X.env:=by rfl) (hpl:(backTo pos (starEach es X.env)).any (·.1)=false:=by rfl):PE X (.Call (.Name x p) (e::es) [] pos) (tCB r t):=by
 intro pins s σ H Q I h
 refine wpAny_Call_Name_kw (xs_ I hg hm hv ?_ hn hdb)
 exact t5_ (thn (ha pos pins s σ H _ I h) fun us s1 ⟨vs,H1,I1,r1,q1⟩=>hc pins s1 σ H1 vs us Q I1 r1 q1) he hpl
theorem yb_ (hc:CallR X (.type T) r) (hg:Gl X x) (hm:X.mg x=none) (hv:bootBuiltins x=some (.type T)) (ha:PA X (e::es) t) (hn:x≠"__name__":=by decide) (hdb:(x == ("__debug__":Str))=false:=by decide)
  (he:starEach (e::es) X.env=(false,eval e X.env)::starEach es X.env:=by rfl) (hpl:(backTo pos (starEach es X.env)).any (·.1)=false:=by rfl):PE X (.Call (.Name x p) (e::es) [] pos) (tCB r t):=by
 intro pins s σ H Q I h
 refine wpAny_Call_Name_kw (xs_ I hg hm hv ?_ hn hdb)
 exact re_ (thn (ha pos pins s σ H _ I h) fun us s1 ⟨vs,H1,I1,r1,q1⟩=>hc pins s1 σ H1 vs us Q I1 r1 q1) he hpl
end
end L2
namespace HT
open PySem PyProof.Rows
section
open PySem.SeqAt
open PySem.AutoSeq1 (wpAny_loadPart')
open PySem.MeetsSeq PySem.MeetsSeq2 PySem.MeetsSeq3
end
section
variable {prog:Program} {w:World} {A:Around} {E:Value->Shared->Prop} {s:Shared}
theorem cat_tup {t b:Addr} {vs ws:List Value} {Q:Value->Shared->Prop} (ht:IsTup s.heap t vs.toArray) (hb:IsTup s.heap b ws.toArray) (hv:vs≠[])
  (h1:ws=[]->Q (.ref t) s) (h2:ws≠[]->Q (.ref s.heap.objs.size) { s with heap:=s.heap.push { cls:=.type "tuple",data:=.seq (vs++ws).toArray } })
  (hsz:vs.length+ws.length<=sizeLine):wpAny (model prog w) A (binaryOp .Add (.ref t) (.ref b)) Q E s:=by
 obtain⟨⟨cls,dd,data,sl⟩,ho,hc,n,hd⟩:=id ht
 obtain⟨⟨cls2,dd2,data2,sl2⟩,ho2,hc2,n2,hd2⟩:=id hb
 simp only at hc hd hc2 hd2
 subst hc hd hc2 hd2
 have e:vs.toArray++ws.toArray=(vs++ws).toArray:=by simp
 by_cases hw:ws=[]
 ·exact concat_meets ⟨_,ho,rfl⟩ ⟨_,ho2,rfl⟩ noFill_tuple_add seq_tuple_add kl_ w8_ (w3_ _ _)
   (tuple_addW1 t b vs.toArray ws.toArray n n2 dd dd2 sl sl2 (by simpa using hv) (by simp[hw])) ⟨ho,ho2,h1 hw⟩
 ·refine concat_meets ⟨_,ho,rfl⟩ ⟨_,ho2,rfl⟩ noFill_tuple_add seq_tuple_add kl_ w8_ (w3_ _ _)
   (tuple_addW2 t b vs.toArray ws.toArray n n2 dd dd2 sl sl2 (by simpa using hv) (by simpa using hw) (by rw[pp_,pp_];exact hsz)) ⟨ho,ho2,?_⟩
  rw[e]
  exact h2 hw
def sIx (n d:Nat):Option Int->Nat
 | none=>d
 | some v=>if v < 0 then (v+(n:Int)).toNat else min v.toNat n
theorem sIx_le (n d:Nat) (hd:d<=n) (o:Option Int):sIx n d o<=n:=by
 cases o with
 | none=>exact hd
 | some v =>
  show (if v < 0 then (v+(n:Int)).toNat else min v.toNat n)<=n
  by_cases hv:v < 0
  ·rw[if_pos hv];omega
  ·rw[if_neg hv];exact Nat.min_le_right _ _
theorem jnl_ (v:Int) (n d:Nat):(if v < 0 then max (v+(n:Int)) 0 else min v (n:Int))=((sIx n d (some v):Nat):Int):=by
 show (if v < 0 then max (v+(n:Int)) 0 else min v (n:Int))=(((if v < 0 then (v+(n:Int)).toNat else min v.toNat n):Nat):Int)
 by_cases hv:v < 0
 ·simp only[if_pos hv];omega
 ·simp only[if_neg hv];omega
theorem jly_ (lo hi:Option Int) (n:Nat):tc_ lo hi 1 (n:Int)=(((sIx n 0 lo:Nat):Int),((sIx n n hi:Nat):Int)):=by
 have h1:¬ ((1:Int) < 0):=by omega
 unfold tc_
 simp only[h1,if_false]
 refine Prod.ext ?_ ?_
 ·cases lo with
  | none=>rfl
  | some v=>exact jnl_ v n 0
 ·cases hi with
  | none=>rfl
  | some v=>exact jnl_ v n n
theorem jll_ (i j:Nat):sa_ (i:Int) (j:Int) 1=j - i:=by
 unfold sa_
 have h1:(1:Int) > 0:=by omega
 simp only[h1,if_true,Int.ediv_one]
 split <;> omega
theorem jdz_ {v:Value} {o:Option Int} {Q:Option Int->Shared->Prop} (p:IsPart v o) (h:Q o s):wpAny (model prog w) A (Builtin.Slice.slicePartIndex v) Q E s:=by
 cases p with
 | none=>exact slicePart_none h
 | int i t=>exact slicePart_int h
theorem jaa_ {sl:Addr} {vl vu:Value} {lo hi:Option Int} {n:Nat} {Q:Int×Int×Nat->Shared->Prop} (hs:s.heap.IsSliceOf sl vl vu .none) (pl:IsPart vl lo) (pu:IsPart vu hi)
  (h:Q (((sIx n 0 lo:Nat):Int),1,sIx n n hi - sIx n 0 lo) s):wpAny (model prog w) A (wp_ (.ref sl) (pure (n:Int))) Q E s:=by
 obtain⟨os,hos,hcs,hds⟩:=id hs
 unfold wp_ Builtin.Slice.sliceFields
 refine wpAny_bind (wpAny_bind (wpAny_field hos hds (x:=vl) rfl (wpAny_bind (wpAny_field hos hds (x:=vu) rfl (wpAny_bind (wpAny_field hos hds (x:=.none) rfl (wpAny_pure ?_)))))))
 refine wpAny_bind (slicePart_none ?_)
 show wpAny _ _ (if ((1:Int) == 0)=true then _ else _) _ _ s
 rw[if_neg (by decide)]
 refine wpAny_bind (jdz_ pl (wpAny_bind (jdz_ pu (wpAny_bind (wpAny_pure ?_)))))
 show wpAny _ _ (match tc_ lo hi 1 (n:Int) with | (lo,hi)=>pure (lo,(1:Int),sa_ lo hi 1)) _ _ s
 rw[jly_ lo hi n]
 show wpAny _ _ (pure (((sIx n 0 lo:Nat):Int),(1:Int),sa_ ((sIx n 0 lo:Nat):Int) ((sIx n n hi:Nat):Int) 1)) _ _ s
 rw[jll_]
 exact wpAny_pure h
theorem jte_ (xs:Array Value) (i k:Nat):((q7_ k).filterMap fun(m:Nat)=>xs[((i:Int)+(m:Int) * 1).toNat]?).toArray=((xs.toList.drop i).take k).toArray:=by
 have e:(fun(m:Nat)=>xs[((i:Int)+(m:Int) * 1).toNat]?)=fun m=>xs[i+m]?:=by
  funext m
  have:((i:Int)+(m:Int) * 1).toNat=i+m:=by omega
  rw[this]
 rw[e]
 have:=pick_run xs i k
 rw[List.filterMap_map] at this
 have e2:((fun x=>xs[x]?)∘fun x=>i+x)=fun m=>xs[i+m]?:=rfl
 rw[e2] at this
 rw[this]
theorem getItem_tuple_cut {t sl:Addr} {items:Array Value} {vl vu:Value} {lo hi:Option Int} {Q:Value->Shared->Prop} (ht:IsTup s.heap t items) (hs:s.heap.IsSliceOf sl vl vu .none) (pl:IsPart vl lo) (pu:IsPart vu hi)
  (hw:¬ (sIx items.size 0 lo=0/\sIx items.size items.size hi=items.size))
  (h:Q (.ref s.heap.objs.size) { s with heap:=s.heap.push { cls:=.type "tuple",data:=.seq ((items.toList.drop (sIx items.size 0 lo)).take (sIx items.size items.size hi - sIx items.size 0 lo)).toArray } })
  (hsz:items.size<=sizeLine):wpAny (model prog w) A (getItem (.ref t) (.ref sl)) Q E s:=by
 have htake:sizeOk (.seq ((items.toList.drop (sIx items.size 0 lo)).take (sIx items.size items.size hi - sIx items.size 0 lo)).toArray):=by
  show ((items.toList.drop (sIx items.size 0 lo)).take (sIx items.size items.size hi - sIx items.size 0 lo)).toArray.size<=sizeLine
  rw[pp_,p2_,px_,sk_]
  omega
 have hj:sIx items.size items.size hi<=items.size:=sIx_le _ _ (pg_ _) hi
 obtain⟨os,hos,hcs,hds⟩:=id hs
 have hTs:s.TypeIs (.ref sl) "slice":=⟨os,hos,hcs⟩
 unfold getItem
 try with_reducible refine wpAny_holding ?_
 first | refine wpAny_bind (wpAny_pure ?_) | skip
 refine wpAny_bind (wpAny_sequenceKey ht.typeIs (by decide) ?_)
 refine wpAny_bind (wpAny_callSpecial?_slot (name:=qd_ "__getitem__") ht.typeIs sf_
  (wpAny_call_entry sf_ ht.typeIs entry_tuple_getitem ?_ (args_tuple_getitem _ _)))
 show wpAny _ _ (Builtin.Tuple.tupleItemsOf (.ref t) >>= _) _ _ s
 refine wpAny_bind (tupleItemsOf_ ht ?_)
 refine wpAny_bind (wpAny_typeOf hTs ?_)
 rw[if_pos (by decide)]
 refine wpAny_bind (jaa_ hs pl pu ?_)
 have hno:¬ ((((sIx items.size 0 lo:Nat):Int) == 0&&(1:Int) == 1&&(sIx items.size items.size hi - sIx items.size 0 lo) == items.size)=true):=by
  intro q
  rw[qi_,qi_] at q
  have q1:((sIx items.size 0 lo:Nat):Int)=0:=eq_of_beq q.1.1
  have q2:sIx items.size items.size hi - sIx items.size 0 lo=items.size:=eq_of_beq q.2
  exact hw ⟨by omega,by omega⟩
 show wpAny _ _ (if (((sIx items.size 0 lo:Nat):Int) == 0&&(1:Int) == 1&&(sIx items.size items.size hi - sIx items.size 0 lo) == items.size)=true then _ else _) _ _ s
 rw[if_neg hno,jte_]
 first
  | exact wpAny_bind (m:=sg_ _) (wpAny_newObj_type (wpAny_pure ⟨_,rfl,wpAny_pure h⟩) htake)
  | exact wpAny_bind (m:=sg_ _) (wpAny_newObj_type (wpAny_bind (wpAny_pure (wpAny_pure ⟨_,rfl,wpAny_pure h⟩))) htake)
  | exact wpAny_bind (wpAny_bind (m:=sg_ _) (wpAny_newObj_type (wpAny_pure (wpAny_pure ⟨_,rfl,wpAny_pure h⟩)) htake))
  | exact wpAny_bind (wpAny_bind (m:=sg_ _) (wpAny_newObj_type (wpAny_pure ⟨_,rfl,wpAny_pure h⟩) htake))
end
end HT
namespace L2
open PySem PySem.Spec PyProof.Rows
abbrev TO:=St->Hp->(Option Int->Hp->Prop)->Prop
def PO (X:Cx) (e:Option Expr) (t:TO):Prop :=
 ∀(pins:List (Addr×Obj)) (s:Shared) (σ:St) (H:Hp) (Q:Option Int->Hp->Prop),Inv X pins σ H s->t σ H Q ->
  wpAny (model X.prog X.w) X.A (evalPart e X.env) (fun u s'=>∃ o H',Inv X pins σ H' s'/\IsPart u o/\Q o H') X.xe s
def jnb_:TO:=fun _ H Q=>Q none H
def jyp_ (t:TE):TO:=fun σ H Q=>t σ H fun x H1=>∃ i,x=.int i/\Q (some i) H1
section
variable {X:Cx} {e:Expr} {te:TE} {lo hi:Option Expr} {tl th:TO} {pos p2:Pos}
theorem zj_:PO X none jnb_:=by
 intro pins s σ H Q I h
 rw[evalPart_none]
 exact wpAny_pure ⟨none,H,I,.none,h⟩
theorem jz_ (h:PE X e te):PO X (some e) (jyp_ te):=by
 intro pins s σ H Q I hw
 rw[evalPart_some]
 refine thn (h pins s σ H _ I hw) fun u s1 ⟨x,H1,I1,r1,q1⟩=>?_
 obtain⟨i,rfl,q⟩:=q1
 obtain⟨t,rfl⟩:=r1
 exact⟨some i,H1,I1,.int i t,q⟩
def SlR (X:Cx) (r:V->Option Int->Option Int->Hp->VK->Prop):Prop :=
 ∀(pins:List (Addr×Obj)) (s:Shared) (σ:St) (H:Hp) (x:V) (v vl vu:Value) (lo hi:Option Int) (sl:Addr) (Q:VK),Inv X pins σ H s->RelV x v->s.heap.IsSliceOf sl vl vu .none->IsPart vl lo->IsPart vu hi->r x lo hi H Q ->
  ∃ T id,typeLookup (.type T) "__getitem__"=pure (some (.builtin id))/\s.TypeIs v T/\wpAny (model X.prog X.w) X.A (getItem v (.ref sl)) (EP X pins σ Q) X.xe s
def tSl (r:V->Option Int->Option Int->Hp->VK->Prop) (te:TE) (tl th:TO):TE:=fun σ H Q=>te σ H fun x H1=>tl σ H1 fun l H2=>th σ H2 fun u H3=>r x l u H3 Q
theorem j0_ {r:V->Option Int->Option Int->Hp->VK->Prop} (hr:SlR X r) (he:PE X e te) (hl:PO X lo tl) (hu:PO X hi th):PE X (.Subscript e (.Slice lo hi none p2) pos) (tSl r te tl th):=by
 intro pins s σ H Q I h
 refine Subscript_ (thn (he pins s σ H _ I h) fun v s1 ⟨x,H1,I1,r1,q1⟩=>?_)
 refine wpAny_Slice (thn (hl pins s1 σ H1 _ I1 q1) fun vl s2 ⟨l,H2,I2,pl,q2⟩=>thn (hu pins s2 σ H2 _ I2 q2) fun vu s3 ⟨u,H3,I3,pu,q3⟩=>?_)
 rw[evalPart_none]
 refine wpAny_pure ?_
 have I4:Inv X pins σ H3 { s3 with heap:=s3.heap.push { cls:=.type "slice",data:=.fields #[vl,vu,.none] } }:=I3.kept (t':=s3.toks) fun b ob q=>pf_ _ q
 obtain⟨T,id,hT,ht,hg⟩:=hr pins { s3 with heap:=s3.heap.push { cls:=.type "slice",data:=.fields #[vl,vu,.none] } } σ H3 x v vl vu l u s3.heap.objs.size Q I4 r1 (Heap.IsSliceOf.new ..) pl pu q3
 show wpAny (model X.prog X.w) X.A (subscriptTail e (.Slice lo hi none p2) v (.ref s3.heap.objs.size)) (EP X pins σ Q) X.xe { s3 with heap:=s3.heap.push { cls:=.type "slice",data:=.fields #[vl,vu,.none] } }
 exact tail_any (ops:=[.ref s3.heap.objs.size,v]) ht hT hg (by with_unfolding_all rfl)
def cutV (xs:List V) (lo hi:Option Int):List V:=(xs.drop (HT.sIx xs.length 0 lo)).take (HT.sIx xs.length xs.length hi - HT.sIx xs.length 0 lo)
theorem jbj_ (xs:List V) (lo hi:Option Int):(cutV xs lo hi).length<=xs.length:=by
 unfold cutV
 rw[p2_,px_]
 omega
def rSlT (K:pb_):V->Option Int->Option Int->Hp->VK->Prop:=fun x lo hi H Q=>∃ a xs,x=.ref a/\SqT K H a xs /\
 ¬ (HT.sIx xs.length 0 lo=0/\HT.sIx xs.length xs.length hi=xs.length)/\∀ p,H p=none->Q (.ref p) (upd H p (.tup (cutV xs lo hi)))
theorem sl_tup:SlR X (rSlT X.K):=by
 intro pins s σ H x v vl vu lo hi sl Q I rx hs pl pu h
 obtain⟨a,xs,rfl,hx,hw,q⟩:=h
 cases rx
 obtain⟨its,r,ht,hz⟩:=I.tuple hx
 have hlen:its.toArray.size=xs.length:=by rw[pp_];exact r.length.symm
 refine⟨"tuple",_,sf_.lookup,ht.typeIs,?_⟩
 refine HT.getItem_tuple_cut ht hs pl pu (by rw[hlen];exact hw) ?_ (by rw[hlen];exact hz)
 rw[hlen]
 refine⟨.ref s.heap.objs.size,_,I.laid (t':=s.toks) (o:=.tup (cutV xs lo hi)) (fun b ob q=>pf_ _ q) (pg_ _) ?_,rfl,q _ (I.hok.fresh (pg_ _))⟩
 exact⟨qg_ (jbj_ xs lo hi) hz,_,(r.drop (HT.sIx xs.length 0 lo)).take (HT.sIx xs.length xs.length hi - HT.sIx xs.length 0 lo),IsTup.new _ _⟩
def rCatT (K:pb_):R2:=fun x y H Q=>∃ a b xs ys,x=.ref a/\y=.ref b/\SqT K H a xs/\SqT K H b ys/\xs≠[]/\xs.length+ys.length<=sizeLine /\
 (ys=[]->Q (.ref a) H)/\(ys≠[]->∀ p,H p=none->Q (.ref p) (upd H p (.tup (xs++ys))))
theorem Vals.nil_iff {xs:List V} {us:List Value} (r:Vals xs us):us=[]↔xs=[]:=by
 cases r with
 | nil=>simp
 | cons _ _=>simp
theorem jwz_:OpR X (binaryOp .Add) (rCatT X.K):=by
 intro pins s σ H x y v u Q I rx ry h
 obtain⟨a,b,xs,ys,rfl,rfl,ha,hb,hx,hz,q1,q2⟩:=h
 cases rx
 cases ry
 obtain⟨its,r1,p1,_⟩:=I.tuple ha
 obtain⟨its2,r2,p2,_⟩:=I.tuple hb
 refine HT.cat_tup p1 p2 (fun z=>hx (r1.nil_iff.mp z)) (fun z=>⟨.ref a,H,I,rfl,q1 (r2.nil_iff.mp z)⟩) (fun z=>?_) (by rw[<- r1.length,<- r2.length];exact hz)
 refine⟨.ref s.heap.objs.size,_,I.laid (t':=s.toks) (o:=.tup (xs++ys)) (fun b ob q=>pf_ _ q) (pg_ _) ?_,rfl,q2 (fun w=>z (r2.nil_iff.mpr w)) _ (I.hok.fresh (pg_ _))⟩
 exact⟨by rw[pd_];exact hz,_,r1.append r2,IsTup.new _ _⟩
end
end L2
namespace L2
open PySem PySem.Spec PyProof.Rows
def ixN (n:Nat) (i:Int):Option Nat:=if 0<=i then (if i < n then some i.toNat else none) else if -(n:Int)<=i then some (i+n).toNat else none
def atI {α:Type} (xs:List α) (i:Int):Option α:=(ixN xs.length i).bind fun j=>xs[j]?
theorem jou_ {n:Nat} {i:Int} {j:Nat} (h:ixN n i=some j):seqIndex? i n=some j/\j < n/\-(n:Int)<=i/\i < n:=by
 unfold ixN at h
 by_cases h0:0<=i
 ·rw[if_pos h0] at h
  by_cases h1:i < n
  ·rw[if_pos h1] at h
   have e:i.toNat=j:=Option.some.inj h
   exact⟨by rw[seqIndex_of h0 h1,e],by omega,by omega,h1⟩
  ·rw[if_neg h1] at h;cases h
 ·rw[if_neg h0] at h
  by_cases h1:-(n:Int)<=i
  ·rw[if_pos h1] at h
   have e:(i+n).toNat=j:=Option.some.inj h
   exact⟨by rw[seqIndex_neg (by omega) h1,e],by omega,h1,by omega⟩
  ·rw[if_neg h1] at h;cases h
theorem jgn_ {α:Type} {xs:List α} {i:Int} {v:α} (h:atI xs i=some v):∃ j,seqIndex? i xs.length=some j/\xs[j]?=some v/\j < xs.length/\-(xs.length:Int)<=i/\i < xs.length:=by
 unfold atI at h
 cases e:ixN xs.length i with
 | none=>rw[e] at h;cases h
 | some j =>
  rw[e] at h
  obtain⟨h1,h2,h3,h4⟩:=jou_ e
  exact⟨j,h1,h,h2,h3,h4⟩
theorem xc_ {α:Type} {xs:List α} {j:Nat} {v:α} (h:xs[j]?=some v):atI xs (j:Int)=some v:=by
 have hj:j < xs.length:=(pl_.mp h).1
 have e:ixN xs.length (j:Int)=some j:=by
  unfold ixN
  rw[if_pos (by omega),if_pos (by omega)];simp
 unfold atI;rw[e];exact h
def jvp_ (b:Expr):Prop:=∀ o i,subscripted b false o i=operate [o,i] (getItem o i)
def IxR (X:Cx) (r:R2):Prop :=
 ∀(value slice:Expr) (pins:List (Addr×Obj)) (s:Shared) (σ:St) (H:Hp) (x y:V) (v u:Value) (Q:VK),Inv X pins σ H s->RelV x v->RelV y u->r x y H Q ->
  subscripted slice false v u=operate [v,u] (getItem v u)->wpAny (model X.prog X.w) X.A (subscriptTail value slice v u) (EP X pins σ Q) X.xe s
def MtR (X:Cx) (id:String) (r:V->List V->Hp->VK->Prop):Prop :=
 ∀(pins:List (Addr×Obj)) (s:Shared) (σ:St) (H:Hp) (x:V) (xs:List V) (v:Value) (us:List Value) (Q:VK),Inv X pins σ H s->RelV x v->Vals xs us->r x xs H Q ->
  wpAny (model X.prog X.w) X.A (call (.builtin id) (v::us)) (EP X pins σ Q) X.xe s
section
variable {X:Cx} {a b:Expr} {ta tb:TE} {pos:Pos}
theorem jt_ {r:R2} (hr:IxR X r) (ha:PE X a ta) (hb:PE X b tb) (hs:jvp_ b):PE X (.Subscript a b pos) (tOp r ta tb):=by
 intro pins s σ H Q I h
 exact Subscript_ (binT ha hb I h fun v u s2 x y H2 I2 rx ry q=>hr a b pins s2 σ H2 x y v u Q I2 rx ry q (hs _ _))
def rIxL (K:pb_):R2:=fun x y H Q=>∃ p xs i v,x=.ref p/\y=.int i/\SqL K H p xs/\atI xs i=some v/\Q v H
def rIxT (K:pb_):R2:=fun x y H Q=>∃ p xs i v,x=.ref p/\y=.int i/\SqT K H p xs/\atI xs i=some v/\Q v H
def rIxS:R2:=fun x y H Q=>∃ z i c,x=.str z/\y=.int i/\z.length<=sizeLine/\atI z.cps.toList i=some c/\Q (.str ⟨#[c]⟩) H
theorem jwm_:IxR X (rIxL X.K):=by
 intro value slice pins s σ H x y v u Q I rx ry h hs
 obtain⟨p,xs,i,z,rfl,rfl,hq,he,q⟩:=h
 cases rx
 obtain⟨t,rfl⟩:=ry
 obtain⟨its,r,pl,hz⟩:=I.list hq
 obtain⟨j,h1,h2,h3,h4,h5⟩:=jgn_ he
 obtain⟨w,ew,rw'⟩:=r.get h2
 have hl:=r.length
 have hn:=v9_
 have fin:EP X pins σ Q w s:=⟨z,H,I,rw',q⟩
 by_cases h0:0<=i
 ·have hj:i.toNat=j:=by
   rw[seqIndex_of h0 h5] at h1
   exact Option.some.inj h1
  exact item_listR pl.isList h0 (by omega) (by rw[hj];simpa using ew) fin hs
 ·have hj:(i+(its.toArray.size:Int)).toNat=j:=by
   rw[seqIndex_neg (by omega) h4] at h1
   rw[pp_,<- hl]
   exact Option.some.inj h1
  exact subscriptTail_builtinR (x:=w) pl.isList.typeIs slot_list_getitem.lookup
   (wpAny_getItem_list_neg (Q:=fun r s'=>r=w/\EP X pins σ Q r s') pl.isList (by omega) (by rw[pp_] <;> omega) (by omega) (by rw[hj];simpa using ew) ⟨rfl,fin⟩) hs
theorem ix_tup:IxR X (rIxT X.K):=by
 intro value slice pins s σ H x y v u Q I rx ry h hs
 obtain⟨p,xs,i,z,rfl,rfl,hq,he,q⟩:=h
 cases rx
 obtain⟨t,rfl⟩:=ry
 obtain⟨its,r,pl,hz⟩:=I.tuple hq
 obtain⟨j,h1,h2,h3,h4,h5⟩:=jgn_ he
 obtain⟨w,ew,rw'⟩:=r.get h2
 have hl:=r.length
 have hn:=v9_
 have fin:EP X pins σ Q w s:=⟨z,H,I,rw',q⟩
 exact subscriptTail_builtinR (x:=w) pl.typeIs slot_tuple_getitem.lookup
  (getItem_tuple (j:=j) (Q:=fun r s'=>r=w/\EP X pins σ Q r s') pl (by omega) (by omega) (by rw[pp_,<- hl];exact h1) (by simpa using ew) ⟨rfl,fin⟩) hs
theorem ix_str:IxR X rIxS:=by
 intro value slice pins s σ H x y v u Q I rx ry h hs
 obtain⟨z,i,c,rfl,rfl,hz,he,q⟩:=h
 obtain⟨t,rfl⟩:=rx
 obtain⟨t',rfl⟩:=ry
 obtain⟨j,h1,h2,h3,h4,h5⟩:=jgn_ he
 have hl:z.cps.toList.length=z.length:=by simp[Str.length]
 rw[hl] at h1 h4 h5
 have hn:=v9_
 exact tail_any (typeIs_str s z t) slot_str_getitem.lookup (getItem_str (c:=c) (by
  have e1:decide (i < -(2 ^ 63:Int))=false:=decide_eq_false (by omega)
  have e2:decide (i≥2 ^ 63)=false:=decide_eq_false (by omega)
  rw[e1,e2,w9_]) (by rw[h1];simpa using h2) ⟨.str ⟨#[c]⟩,H,I.tok _,⟨_,rfl⟩,q⟩) hs
theorem jmm_ (its:List Value) (n j:Nat) (u:Value):k5_ (·.setIfInBounds j u) { cls:=.type "list",data:=.seq its.toArray n }={ cls:=.type "list",data:=.seq (its.set j u).toArray n }:=by
 simp[k5_]
theorem Inv.lst {pins:List (Addr×Obj)} {σ:St} {H:Hp} {s:Shared} {p:Addr} {xs:List V} (I:Inv X pins σ H s) (h:H p=some (.lst xs)) :
  ∃(its:List Value) (n:Nat),Vals xs its/\s.heap.get? p=some { cls:=.type "list",data:=.seq its.toArray n }/\xs.length<=sizeLine:=by
 obtain⟨z,its,n,r,e⟩:=I.hok p _ h
 exact⟨its,n,r,e,z⟩
theorem Inv.lstUpd {pins:List (Addr×Obj)} {σ:St} {H:Hp} {s:Shared} {p:Addr} {xs ys:List V} {its its':List Value} {n n':Nat} {f:Obj->Obj} (I:Inv X pins σ H s) (h:H p=some (.lst xs))
  (ho:s.heap.get? p=some { cls:=.type "list",data:=.seq its.toArray n }) (hf:f { cls:=.type "list",data:=.seq its.toArray n }={ cls:=.type "list",data:=.seq its'.toArray n' }) (r:Vals ys its') (hz:ys.length<=sizeLine) (t:Nat) :
  Inv X pins σ (upd H p (.lst ys)) { s with heap:=s.heap.update p f,toks:=t }:=by
 have e:(s.heap.update p f).get? p=some { cls:=.type "list",data:=.seq its'.toArray n' }:=by
  rw[q1_ f ho (by rw[hf] <;> rfl),hf]
 refine I.write (x:=p) (e:=p) (by rw[h];trivial) (.inl rfl) (fun b u hb q=>(qo_ _ _ (rq_ hb)).trans q) ⟨_,e⟩ ?_
 exact⟨hz,its',n',r,e⟩
def rSetL:V->V->V->Hp->(Hp->Prop)->Prop:=fun o i v H Q=>∃ p xs k j,o=.ref p/\i=.int k/\H p=some (.lst xs)/\ixN xs.length k=some j/\Q (upd H p (.lst (xs.set j v)))
theorem jsu_:PSet X rSetL:=by
 intro pins s σ H o i v ov iv u Q I ro ri rv h
 obtain⟨p,xs,k,j,rfl,rfl,hp,hj,q⟩:=h
 cases ro
 obtain⟨t,rfl⟩:=ri
 obtain⟨its,n,r,ho,hz⟩:=I.lst hp
 obtain⟨h1,h2,h3,h4⟩:=jou_ hj
 have hl:=r.length
 have hn:=v9_
 have I':Inv X pins σ (upd H p (.lst (xs.set j v))) { s with heap:=s.heap.update p (k5_ (·.setIfInBounds j u)) } :=
  I.lstUpd hp ho (jmm_ its n j u) (r.set rv j) (by rw[List.length_set];exact hz) s.toks
 by_cases h0:0<=k
 ·have hk:k.toNat=j:=by
   rw[seqIndex_of h0 h4] at h1
   exact Option.some.inj h1
  exact PySem.W.ki_setAt ho h0 (by omega) (by rw[pp_,<- hl];exact h4) (by rw[hk];exact⟨_,I',q⟩)
 ·have hk:(k+(its.toArray.size:Int)).toNat=j:=by
   rw[seqIndex_neg (by omega) h3] at h1
   rw[pp_,<- hl]
   exact Option.some.inj h1
  exact PySem.W.ki_setBack ho (by omega) (by rw[pp_,<- hl];exact h3) (by omega) (by rw[hk];exact⟨_,I',q⟩)
theorem jgo_ (lo hi:Option Int) (n:Nat):(sliceBounds lo hi none n).1=((HT.sIx n 0 lo:Nat):Int)/\(sliceBounds lo hi none n).2.1=((HT.sIx n n hi:Nat):Int)/\(sliceBounds lo hi none n).2.2=1:=by
 refine⟨?_,?_,rfl⟩
 ·cases lo with
  | none=>simp[sliceBounds,HT.sIx]
  | some i =>
   simp only[sliceBounds,HT.sIx,Option.getD_none,show (1:Int) > 0 by decide,if_true]
   by_cases h:i < 0
   ·simp only[h,if_true] <;> omega
   ·simp only[h,if_false] <;> omega
 ·cases hi with
  | none=>simp[sliceBounds,HT.sIx]
  | some i =>
   simp only[sliceBounds,HT.sIx,Option.getD_none,show (1:Int) > 0 by decide,if_true]
   by_cases h:i < 0
   ·simp only[h,if_true] <;> omega
   ·simp only[h,if_false] <;> omega
theorem jei_ (its:List Value) (lo hi:Option Int):slicePick its.toArray lo hi none=((its.drop (HT.sIx its.length 0 lo)).take (HT.sIx its.length its.length hi - HT.sIx its.length 0 lo)).toArray:=by
 obtain⟨h1,h2,h3⟩:=jgo_ lo hi its.toArray.size
 unfold slicePick
 rw[h1,h2,h3]
 simp only[sliceRange_one,pick_run,pp_] <;> rfl
def rSlL (K:pb_):V->Option Int->Option Int->Hp->VK->Prop:=fun x lo hi H Q=>∃ a xs,x=.ref a/\SqL K H a xs/\∀ p,H p=none->Q (.ref p) (upd H p (.lst (cutV xs lo hi)))
theorem jwf_:SlR X (rSlL X.K):=by
 intro pins s σ H x v vl vu lo hi sl Q I rx hs pl pu h
 obtain⟨a,xs,rfl,hx,q⟩:=h
 cases rx
 obtain⟨its,r,ht,hz⟩:=I.list hx
 have hlen:=r.length
 refine⟨"list",_,slot_list_getitem.lookup,ht.isList.typeIs,?_⟩
 refine wpAny_getItem_list_slice ht.isList hs pl pu .none (by simp) ?_ (by rw[pp_] <;> omega)
 rw[jei_,<- hlen]
 refine⟨.ref s.heap.objs.size,_,I.laid (t':=s.toks) (o:=.lst (cutV xs lo hi)) (fun b ob q=>pf_ _ q) (pg_ _) ?_,rfl,q _ (I.hok.fresh (pg_ _))⟩
 exact⟨qg_ (jbj_ xs lo hi) hz,_,0,(r.drop (HT.sIx xs.length 0 lo)).take (HT.sIx xs.length xs.length hi - HT.sIx xs.length 0 lo),pq_ _ rfl⟩
def xr_:V->Bool
 | .non=>true
 | .bl _=>true
 | .int _=>true
 | .str _=>true
 | _=>false
def eqV:V->V->Bool
 | .non,.non=>true
 | .bl a,.bl b=>a == b
 | .bl a,.int b=>(if a then 1 else 0) == b
 | .int a,.bl b=>a == (if b then 1 else 0)
 | .int a,.int b=>a == b
 | .str a,.str b=>a == b
 | _,_=>false
theorem eqAt_V {A:Around} {s:Shared} {y x:V} {u v:Value} (ry:RelV y u) (rx:RelV x v) (fy:xr_ y=true) (fx:xr_ x=true):q0_ A s u v (eqV y x):=by
 cases y with
 | non =>
  cases ry
  cases x with
  | non=>cases rx;exact q0_.same _
  | bl b=>cases rx;exact q0_.none_bool b
  | int b=>obtain⟨t,rfl⟩:=rx;exact q0_.none_int b t
  | str b=>obtain⟨t,rfl⟩:=rx;exact q0_.none_str b t
  | _=>exact absurd (show false=true from fx) ph_
 | bl a =>
  cases ry
  cases x with
  | non=>cases rx;exact q0_.bool_none a
  | bl b=>cases rx;exact q0_.bool_bool a b
  | int b=>obtain⟨t,rfl⟩:=rx;exact q0_.bool_int a b t
  | str b=>obtain⟨t,rfl⟩:=rx;exact q0_.bool_str a b t
  | _=>exact absurd (show false=true from fx) ph_
 | int a =>
  obtain⟨t',rfl⟩:=ry
  cases x with
  | non=>cases rx;exact q0_.int_none a t'
  | bl b=>cases rx;exact q0_.int_bool a t' b
  | int b=>obtain⟨t,rfl⟩:=rx;exact q0_.int_int a t' b t
  | str b=>obtain⟨t,rfl⟩:=rx;exact ln_ a t' b t
  | _=>exact absurd (show false=true from fx) ph_
 | str a =>
  obtain⟨t',rfl⟩:=ry
  cases x with
  | non=>cases rx;exact q0_.str_none a t'
  | bl b=>cases rx;exact q0_.str_bool a t' b
  | int b=>obtain⟨t,rfl⟩:=rx;exact lo_ a t' b t
  | str b=>obtain⟨t,rfl⟩:=rx;exact q0_.str_str a t' b t
  | _=>exact absurd (show false=true from fx) ph_
 | _=>exact absurd (show false=true from fy) ph_
def eqU (x:V) (u:Value):Bool:=match u with
 | .none=>eqV .non x
 | .bool b=>eqV (.bl b) x
 | .int i _=>eqV (.int i) x
 | .str z _=>eqV (.str z) x
 | _=>false
theorem jru_ {x y:V} {u:Value} (r:RelV y u) (f:xr_ y=true):eqU x u=eqV y x:=by
 cases y with
 | non=>cases r;rfl
 | bl b=>cases r;rfl
 | int i=>obtain⟨t,rfl⟩:=r;rfl
 | str z=>obtain⟨t,rfl⟩:=r;rfl
 | _=>exact absurd (show false=true from f) ph_
theorem up_ {x:V}:∀{xs:List V} {us:List Value},Vals xs us->xs.all xr_=true->us.any (eqU x)=xs.any fun y=>eqV y x
 | _,_,.nil,_=>rfl
 | y::xs,u::us,.cons r t,f=>by
  rw[List.all_cons,qi_] at f
  rw[qv_,qv_,jru_ r f.1,up_ t f.2]
theorem vs_ {A:Around} {s:Shared} {x:V} {v:Value} (rx:RelV x v) (fx:xr_ x=true):∀{xs:List V} {us:List Value},Vals xs us->xs.all xr_=true->∀ u∈us,q0_ A s u v (eqU x u)
 | _,_,.nil,_=>fun u hu=>by cases hu
 | y::xs,u::us,.cons r t,f=>fun u' hu=>by
  rw[List.all_cons,qi_] at f
  rcases pz_.mp hu with rfl | hu
  ·rw[jru_ r f.1];exact eqAt_V r rx f.1 fx
  ·exact vs_ rx fx t f.2 u' hu
def inV (x:V) (xs:List V):Bool:=xs.any fun y=>eqV y x
def rIn (K:pb_) (neg:Bool):R2:=fun x y H Q=>∃ p xs,y=.ref p/\(SqL K H p xs∨SqT K H p xs)/\xr_ x=true/\xs.all xr_=true/\Q (.bl (if neg then !inV x xs else inV x xs)) H
theorem jet_:OpR X (compareOp .In) (rIn X.K false):=by
 intro pins s σ H x y v u Q I rx ry h
 obtain⟨p,xs,rfl,hq,fx,fs,q⟩:=h
 cases ry
 rcases hq with hq | hq
 ·obtain⟨its,r,pl,hz⟩:=I.list hq
  refine SeqAt.in_listAt (eqU x) pl.isList (fun w hw=>vs_ rx fx r fs w (by simpa using hw)) ⟨.bl _,H,I,rfl,?_⟩
  rw[show its.toArray.any (eqU x)=its.any (eqU x) by simp,up_ r fs]
  exact q
 ·obtain⟨its,r,pl,hz⟩:=I.tuple hq
  refine SeqAt.in_tupleAt (eqU x) pl (fun w hw=>vs_ rx fx r fs w (by simpa using hw)) ⟨.bl _,H,I,rfl,?_⟩
  rw[show its.toArray.any (eqU x)=its.any (eqU x) by simp,up_ r fs]
  exact q
theorem jhl_:OpR X (compareOp .NotIn) (rIn X.K true):=by
 intro pins s σ H x y v u Q I rx ry h
 obtain⟨p,xs,rfl,hq,fx,fs,q⟩:=h
 cases ry
 rcases hq with hq | hq
 ·obtain⟨its,r,pl,hz⟩:=I.list hq
  refine SeqAt.notIn_listAt (eqU x) pl.isList (fun w hw=>vs_ rx fx r fs w (by simpa using hw)) ⟨.bl _,H,I,rfl,?_⟩
  rw[show its.toArray.any (eqU x)=its.any (eqU x) by simp,up_ r fs]
  exact q
 ·obtain⟨its,r,pl,hz⟩:=I.tuple hq
  refine SeqAt.notIn_tupleAt (eqU x) pl (fun w hw=>vs_ rx fx r fs w (by simpa using hw)) ⟨.bl _,H,I,rfl,?_⟩
  rw[show its.toArray.any (eqU x)=its.any (eqU x) by simp,up_ r fs]
  exact q
theorem jhw_:CallR X (.builtin "len") (fun xs H Q=>∃ p ys,xs=[.ref p]/\(SqL X.K H p ys∨SqT X.K H p ys)/\Q (.int ys.length) H):=by
 intro pins s σ H xs us Q I r h
 obtain⟨p,ys,rfl,hq,q⟩:=h
 obtain⟨u,rfl,rx⟩:=ve_ r
 cases rx
 have hn:=v9_
 rcases hq with hq | hq
 ·obtain⟨its,r',pl,hz⟩:=I.list hq
  have hlen:=r'.length
  exact Calls.call_len_list pl.isList (by simp only[pp_] <;> omega) ⟨.int ys.length,H,I.tok _,⟨s.toks+1,by rw[pp_,hlen]⟩,q⟩
 ·obtain⟨its,r',pl,hz⟩:=I.tuple hq
  have hlen:=r'.length
  exact len_tuple pl (by simp only[pp_] <;> omega) ⟨.int ys.length,H,I.tok _,⟨s.toks+1,by rw[pp_,hlen]⟩,q⟩
theorem jia_:CallR X (.builtin "len") (fun xs H Q=>∃ z,xs=[.str z]/\z.length<=sizeLine/\Q (.int z.length) H):=by
 intro pins s σ H xs us Q I r h
 obtain⟨z,rfl,hz,q⟩:=h
 obtain⟨u,rfl,t,rfl⟩:=ve_ r
 have hn:=v9_
 exact len_str (by omega) ⟨.int z.length,H,I.tok _,⟨_,rfl⟩,q⟩
theorem call_list_of:CallR X (.type "list") (fun xs H Q=>∃ p ys,xs=[.ref p]/\(SqL X.K H p ys∨SqT X.K H p ys)/\∀ l,H l=none->Q (.ref l) (upd H l (.lst ys))):=by
 intro pins s σ H xs us Q I r h
 obtain⟨p,ys,rfl,hq,q⟩:=h
 obtain⟨u,rfl,rx⟩:=ve_ r
 cases rx
 have fin:∀(its:List Value),Vals ys its->ys.length<=sizeLine->∀(h':Heap) (c':Nat),(∀ b o',s.heap.get? b=some o'->h'.get? b=some o') ->
   h'.get? s.heap.objs.size=some { cls:=.type "list",dict:=none,data:=.seq its.toArray c',slots:=#[] }->EP X pins σ Q (.ref s.heap.objs.size) { s with heap:=h' }:=fun its r' hz h' c' kp e =>
  ⟨.ref s.heap.objs.size,_,I.laid (t':=s.toks) kp (pg_ _) (show ObjOk X.prog X.w _ h' _ (.lst ys) from ⟨hz,its,c',r',e⟩),rfl,q _ (I.hok.fresh (pg_ _))⟩
 rcases hq with hq | hq
 ·obtain⟨its,r',pl,hz⟩:=I.list hq
  have hlen:=r'.length
  obtain⟨o,ho,hc,n,hd⟩:=pl.isList
  exact call_list_seq p (.inl rfl) ho hc hd (fun h' c' kp e=>fin its r' hz h' c' kp e) (by simp only[pp_] <;> omega)
 ·obtain⟨its,r',pl,hz⟩:=I.tuple hq
  have hlen:=r'.length
  obtain⟨o,ho,hc,n,hd⟩:=pl
  exact call_list_seq p (.inr rfl) ho hc hd (fun h' c' kp e=>fin its r' hz h' c' kp e) (by simp only[pp_] <;> omega)
theorem call_tuple_of:CallR X (.type "tuple") (fun xs H Q=>∃ p ys,xs=[.ref p]/\((SqL X.K H p ys/\∀ l,H l=none->Q (.ref l) (upd H l (.tup ys)))∨(SqT X.K H p ys/\Q (.ref p) H))):=by
 intro pins s σ H xs us Q I r h
 obtain⟨p,ys,rfl,h⟩:=h
 obtain⟨u,rfl,rx⟩:=ve_ r
 cases rx
 rcases h with ⟨hq,q⟩ | ⟨hq,q⟩
 ·obtain⟨its,r',pl,hz⟩:=I.list hq
  have hlen:=r'.length
  refine call_tuple_list pl.isList (fun h' kp=>?_) (by simp only[pp_] <;> omega)
  have I1:Inv X pins σ H { s with heap:=h' }:=I.kept (t':=s.toks) kp
  have I2:Inv X pins σ (upd H h'.objs.size (.tup ys)) { s with heap:=h'.push { cls:=.type "tuple",data:=.seq its.toArray } } :=
   I1.laid (t':=s.toks) (fun b o e=>pf_ _ e) (pg_ _) (show ObjOk X.prog X.w _ _ _ (.tup ys) from ⟨hz,its,r',IsTup.new _ _⟩)
  exact⟨.ref h'.objs.size,_,I2,rfl,q _ (I1.hok.fresh (pg_ _))⟩
 ·obtain⟨its,r',pl,hz⟩:=I.tuple hq
  exact call_tuple_same pl ⟨.ref p,H,I,rfl,q⟩
def tyV (K:pb_) (T:String) (x:V) (H:Hp):Prop:=match x with
 | .str _=>T="str"
 | .int _=>T="int"
 | .ref p=>(T="list"/\∃ xs,SqL K H p xs)∨(T="tuple"/\∃ o,K.lookup p=some o/\o.cls=.type "tuple"/\o.dict=none) ∨
   (T="dict"/\((∃ kvs,H p=some (.dK kvs))∨∃ kvs,H p=some (.dT kvs)))∨(T="set"/\∃ S n,H p=some (.set S n))
 | _=>False
theorem jtz_ {pins:List (Addr×Obj)} {σ:St} {H:Hp} {s:Shared} {T:String} {x:V} {v:Value} (I:Inv X pins σ H s) (r:RelV x v) (ty:tyV X.K T x H) :
  s.TypeIs v T/\∀ a,v=.ref a->∃ ob,s.heap.get? a=some ob/\ob.dict=none:=by
 cases x with
 | str z =>
  obtain⟨t,rfl⟩:=r
  cases (show T="str" from ty)
  exact⟨typeIs_str s z t,fun _ e=>nomatch e⟩
 | int i =>
  obtain⟨t,rfl⟩:=r
  cases (show T="int" from ty)
  exact⟨typeIs_int s i t,fun _ e=>nomatch e⟩
 | ref p =>
  cases r
  rcases ty with ⟨rfl,xs,hq⟩ | ⟨rfl,o,hk,hc,hd⟩ | ⟨rfl,hk⟩ | ⟨rfl,S,n,hk⟩
  ·obtain⟨its,_,pl,_⟩:=I.list hq
   refine⟨pl.isList.typeIs,fun a e=>?_⟩
   cases e
   obtain⟨o,n,e,c,hd,_⟩:=pl
   exact⟨o,e,hd⟩
  ·refine⟨⟨o,I.kIn p o hk,hc⟩,fun a e=>?_⟩
   cases e
   exact⟨o,I.kIn _ o hk,hd⟩
  ·have z:∃ o,s.heap.get? p=some o/\o.ExactDict:=by
    rcases hk with ⟨kvs,hk⟩ | ⟨kvs,hk⟩
    ·obtain⟨_,_,_,_,o,_,_,e,ex,_⟩:=I.hok p _ hk
     exact⟨o,e,ex⟩
    ·obtain⟨_,_,_,_,o,_,_,e,ex,_⟩:=I.hok p _ hk
     exact⟨o,e,ex⟩
   obtain⟨o,e,ex⟩:=z
   refine⟨⟨o,e,ex.1⟩,fun a e2=>?_⟩
   cases e2
   exact⟨o,e,ex.2.1⟩
  ·obtain⟨o,_,_,_,e,ex,_⟩:=I.hok p _ hk
   refine⟨⟨o,e,ex.1⟩,fun a e2=>?_⟩
   cases e2
   exact⟨o,e,ex.2.1⟩
 | _=>exact rk_ ty
def tBM0 (K:pb_) (T:String) (r:V->List V->Hp->VK->Prop) (to:TE):TE:=fun σ H Q=>to σ H fun x H1=>tyV K T x H1/\r x [] H1 Q
def tBM (K:pb_) (T:String) (r:V->List V->Hp->VK->Prop) (to:TE) (t:TA):TE:=fun σ H Q=>to σ H fun x H1=>tyV K T x H1/\t σ H1 fun xs H2=>r x xs H2 Q
variable {o e:Expr} {es:List Expr} {to:TE} {t:TA} {name:Str} {apos cpos:Pos} {T id:String} {r:V->List V->Hp->VK->Prop}
theorem pe_bm0 (pa:PlainAttrs T) (slot:Slot T name id) (hty:typeOf (.builtin id)=pure (.type "method_descriptor")) (hm:MtR X id r) (ho:PE X o to)
  (hbase:attributeBase o name X.env (eval o X.env)=eval o X.env:=by rfl) (hline:(apos.endLine == cpos.line)=true:=by rfl):PE X (.Call (.Attribute o name apos) [] [] cpos) (tBM0 X.K T r to):=by
 intro pins s σ H Q I h
 refine wpAny_Call_method0_late hbase hline (thn (ho pins s σ H _ I h) fun v s1 ⟨x,H1,I1,r1,ty,q1⟩=>?_)
 obtain⟨h1,h2⟩:=jtz_ I1 r1 ty
 exact⟨T,id,pa,slot,hty,h1,h2,r3_ rfl (PySem.evalArgs_none (hm pins s1 σ H1 x [] v [] Q I1 r1 .nil q1))⟩
theorem pe_bm (pa:PlainAttrs T) (slot:Slot T name id) (hty:typeOf (.builtin id)=pure (.type "method_descriptor")) (hm:MtR X id r) (ho:PE X o to) (ha:PA X (e::es) t)
  (hbase:attributeBase o name X.env (eval o X.env)=eval o X.env:=by rfl)
  (hfew:((backTo cpos (starEach (e::es) X.env)).all (fun x=>!x.1)&&(backToKw cpos (keywordEach [] X.env)).all (fun x=>x.1.isSome)
   && decide ((e::es).length+([]:List Keyword).length+(if ([]:List Keyword).isEmpty then 0 else 1) < 30))=true:=by rfl)
  (hline:(apos.endLine == cpos.line)=true:=by rfl) (hs:starEach (e::es) X.env=(false,eval e X.env)::starEach es X.env:=by rfl) (hplain:(backTo cpos (starEach es X.env)).any (·.1)=false:=by rfl) :
  PE X (.Call (.Attribute o name apos) (e::es) [] cpos) (tBM X.K T r to t):=by
 intro pins s σ H Q I h
 refine wpAny_Call_method_late hbase hfew hline rfl (thn (ho pins s σ H _ I h) fun v s1 ⟨x,H1,I1,r1,ty,q1⟩=>?_)
 obtain⟨h1,h2⟩:=jtz_ I1 r1 ty
 refine⟨T,id,pa,slot,hty,h1,h2,?_⟩
 have hA:=ha cpos pins s1 σ H1 _ I1 q1
 rw[hs] at hA ⊢
 refine r3_ (by show (false || (backTo cpos (starEach es X.env)).any (·.1))=false;rw[hplain] <;> rfl) (s9_ ?_)
 exact thn hA fun us s2 ⟨vs,H2,I2,r2,q2⟩=>hm pins s2 σ H2 x vs v us Q I2 r1 r2 q2
/- xs.append(e),list.index on a module's tuple .. are MtR facts of 06m -/
end
end L2
namespace L2
open PySem PySem.Spec PyProof.Rows
def MtM (X:Cx) (id:String) (r:V->List V->Hp->VK->Prop):Prop :=
 ∀(pins:List (Addr×Obj)) (s:Shared) (σ:St) (H:Hp) (x:V) (xs:List V) (v:Value) (us:List Value) (Q:VK),Inv X pins σ H s->RelV x v->Vals xs us->r x xs H Q ->
  wpAny (model X.prog X.w) X.A (call (.builtin id) (v::us)) (EP X pins σ Q) X.xe s
theorem Vals.one:∀{x:V} {us:List Value},Vals [x] us->∃ u,us=[u]/\RelV x u
 | _,_,.cons r .nil=>⟨_,rfl,r⟩
theorem Vals.rep {xs:List V} {us:List Value} (h:Vals xs us):∀ k:Nat,Vals (pv_ k xs).flatten (pv_ k us).flatten
 | 0=>.nil
 | k+1=>by
  rw[ry_,ry_,q4_,q4_]
  exact Vals.append h (Vals.rep h k)
theorem jgi_ (its:List Value):∀(k:Nat) (acc:List Value),
  lx_ (fun x1 x2=>x1++x2) acc.toArray (pv_ k its.toArray)=(acc++(pv_ k its).flatten).toArray
 | 0,acc=>by simp
 | k+1,acc=>by
  have e:acc.toArray++its.toArray=(acc++its).toArray:=by simp
  have e2:(acc++its)++(pv_ k its).flatten=acc++(pv_ (k+1) its).flatten:=by
   rw[ry_,q4_,qw_]
  rw[<- e2,<- jgi_ its k (acc++its),<- e,ry_,to_]
section
variable {X:Cx} {pins:List (Addr×Obj)} {σ:St} {H:Hp} {s:Shared} {l b:Addr} {xs ys zs:List V}
theorem Inv.lset {its its':List Value} {n:Nat} {f:Array Value->Array Value} {t':Nat} (I:Inv X pins σ H s) (hH:H l=some (.lst xs))
  (e:s.heap.get? l=some { cls:=.type "list",data:=.seq its.toArray n }) (hf:f its.toArray=its'.toArray) (hv:Vals ys its') (hz:ys.length<=sizeLine) :
  Inv X pins σ (upd H l (.lst ys)) { s with heap:=s.heap.update l (k5_ f),toks:=t' }:=by
 have q:=PySem.IsL.update e f
 rw[hf] at q
 refine I.write (x:=l) (e:=l) (by rw[hH];exact trivial) (.inl rfl) (fun b' u hb hu=>(qo_ s.heap (k5_ f) (rq_ hb)).trans hu) ⟨_,q⟩ ?_
 exact⟨hz,its',_,hv,q⟩
theorem Inv.lnew {its:List Value} {t':Nat} (I:Inv X pins σ H s) (hv:Vals ys its) (hz:ys.length<=sizeLine) :
  Inv X pins σ (upd H s.heap.objs.size (.lst ys)) { s with heap:=s.heap.push { cls:=.type "list",data:=.seq its.toArray },toks:=t' } :=
 I.laid (fun _ _ q=>pf_ _ q) (pg_ _) ⟨hz,its,0,hv,pq_ _ rfl⟩
theorem Inv.fresh (I:Inv X pins σ H s):H s.heap.objs.size=none:=I.hok.fresh (pg_ _)
theorem Inv.lstM (I:Inv X pins σ H s) (hH:H l=some (.lst xs)):xs.length<=sizeLine/\∃(its:List Value) (n:Nat),Vals xs its/\xs.length=its.length/\s.heap.get? l=some { cls:=.type "list",data:=.seq its.toArray n }:=by
 obtain⟨z,its,n,r,e⟩:=I.hok l _ hH
 exact⟨z,its,n,r,r.length,e⟩
theorem jjx_ {n:Nat} (h:n<=sizeLine):sh_ n=false:=by
 unfold sh_
 exact decide_eq_false (by omega)
end
section
variable {X:Cx}
def jxe_:V->List V->Hp->VK->Prop:=fun x vs H Q=>∃ l xs y,x=.ref l/\vs=[y]/\H l=some (.lst xs)/\xs.length < sizeLine/\Q .non (upd H l (.lst (xs++[y])))
theorem jfj_:MtM X "list.append" jxe_:=by
 intro pins s σ H x vs v us Q I rx rv h
 obtain⟨l,xs,y,rfl,rfl,hH,hz,q⟩:=h
 cases rx
 obtain⟨u,rfl,ru⟩:=rv.one
 obtain⟨z,its,n,r,hl,e⟩:=I.lstM hH
 refine call_meets F.slot_list_append ⟨_,e,rfl⟩ F.entry_list_append (F.args_list_append_2 _ _) (PySem.list_append l its.toArray n u (by rw[pp_];omega)) ⟨e,?_⟩
 refine⟨.non,_,I.lset (its':=its++[u]) hH e (by simp) (r.append (.cons ru .nil)) ?_,rfl,q⟩
 rw[pd_,ps_]
 omega
def jwx_:V->List V->Hp->VK->Prop:=fun x vs H Q=>∃ l b xs zs,x=.ref l/\vs=[.ref b]/\H l=some (.lst xs)/\H b=some (.lst zs)/\xs.length+zs.length<=sizeLine/\Q .non (upd H l (.lst (xs++zs)))
theorem jpy_:MtM X "list.extend" jwx_:=by
 intro pins s σ H x vs v us Q I rx rv h
 obtain⟨l,b,xs,zs,rfl,rfl,hH,hB,hz,q⟩:=h
 cases rx
 obtain⟨u,rfl,ru⟩:=rv.one
 cases ru
 obtain⟨z,its,n,r,hl,e⟩:=I.lstM hH
 obtain⟨z2,its2,n2,r2,hl2,e2⟩:=I.lstM hB
 have hsz:its.toArray.size+its2.toArray.size<=sizeLine:=by rw[pp_,pp_];omega
 have hlong:¬ (!its.toArray.isEmpty&&sh_ (its.toArray.size+its2.toArray.size))=true:=by
  rw[jjx_ hsz,td_]
  exact ph_
 refine call_meets F.slot_list_extend ⟨_,e,rfl⟩ F.entry_list_extend (F.args_list_extend_2 _ _)
  (AutoSeq1.list_extend_list_list_0 l its.toArray n b its2.toArray n2 hlong (by rw[pp_];omega) (by omega)) ⟨e,e2,?_⟩
 refine⟨.non,_,I.lset (its':=its++its2) hH e (by simp) (r.append r2) ?_,rfl,q⟩
 rw[pd_]
 omega
def rCat:R2:=fun x y H Q=>∃ l b xs zs,x=.ref l/\y=.ref b/\H l=some (.lst xs)/\H b=some (.lst zs)/\xs.length+zs.length<=sizeLine/\∀ p,H p=none->Q (.ref p) (upd H p (.lst (xs++zs)))
theorem zaf_:OpR X (binaryOp .Add) rCat:=by
 intro pins s σ H x y v u Q I rx ry h
 obtain⟨l,b,xs,zs,rfl,rfl,hH,hB,hz,q⟩:=h
 cases rx
 cases ry
 obtain⟨z,its,n,r,hl,e⟩:=I.lstM hH
 obtain⟨z2,its2,n2,r2,hl2,e2⟩:=I.lstM hB
 refine PySem.P.add_list e e2 ?_ (by rw[pp_,pp_];omega)
 have ea:its.toArray++its2.toArray=(its++its2).toArray:=by simp
 rw[ea]
 exact⟨.ref _,_,I.lnew (t':=s.toks) (r.append r2) (by rw[pd_];omega),rfl,q _ I.fresh⟩
def rRep:R2:=fun x y H Q=>∃ l k xs,x=.ref l/\y=.int k/\H l=some (.lst xs)/\-(2 ^ 63)<=k/\k < 2 ^ 63/\xs.length * k.toNat<=sizeLine /\
 ∀ p,H p=none->Q (.ref p) (upd H p (.lst (pv_ k.toNat xs).flatten))
theorem jvt_ {α:Type} (xs:List α) (k:Nat):(pv_ k xs).flatten.length=k * xs.length:=by
 induction k with
 | zero=>simp
 | succ k ih=>rw[ry_,q4_,pd_,ih,Nat.succ_mul,Nat.add_comm]
theorem zag_:OpR X (binaryOp .Mult) rRep:=by
 intro pins s σ H x y v u Q I rx ry h
 obtain⟨l,k,xs,rfl,rfl,hH,h1,h2,hz,q⟩:=h
 cases rx
 obtain⟨t,rfl⟩:=ry
 obtain⟨z,its,n,r,hl,e⟩:=I.lstM hH
 have hlen:its.toArray.size * k.toNat<=sizeLine:=by rw[pp_,<- hl];exact hz
 have hcap:¬ its.toArray.size * k.toNat > (2 ^ 63 - 1) / 8:=by
  have:(sizeLine:Nat)<=(2 ^ 63 - 1) / 8:=by decide
  omega
 have hfit:¬ (!Builtin.List.listFitsIndex k)=true:=by
  rw[fitsIndex_both h1 h2]
  exact ph_
 have hlong:¬ sh_ (its.toArray.size * k.toNat)=true:=by
  rw[jjx_ hlen]
  exact ph_
 have hnew:lx_ (fun x1 x2=>x1++x2) #[] (pv_ (if its.toArray.isEmpty=true then 0 else k.toNat) its.toArray)=(pv_ k.toNat its).flatten.toArray:=by
  have f0:∀ m:Nat,lx_ (fun x1 x2=>x1++x2) #[] (pv_ m its.toArray)=(pv_ m its).flatten.toArray:=fun m=>by
   have:=jgi_ its m []
   rw[wi_] at this
   exact this
  rw[f0]
  cases its with
  | nil=>simp
  | cons a r'=>rw[if_neg (by simp)]
 refine wpAny_binaryOp_repeat_ref (T:="list") (U:="int") (by decide) ⟨_,e,rfl⟩ (fun s'=>typeIs_int s' k t) noFill_list_mul F.fills_int_mul F.slot_int_rmul repeat_list F.slot_int_index.lookup
  (call_meets F.slot_int_rmul (typeIs_int s k t) F.entry_int_rmul (F.args_int_rmul_2 _ _) (int___rmul___int_list k t l its.toArray n)
   ⟨e,rfl,⟨_,e,rfl⟩,call_meets F.slot_list_mul ⟨_,e,rfl⟩ F.entry_list_mul (F.args_list_mul_2 _ _) (AutoListH.list___mul___list_int_3 l its.toArray n k t hfit hcap hlong) ⟨e,?_⟩⟩)
 rw[hnew]
 exact⟨.ref _,_,I.lnew (t':=s.toks) (r.rep k.toNat) (by rw[jvt_,Nat.mul_comm];exact hz),rfl,q _ I.fresh⟩
end
section
variable {prog:Program} {w:World} {A:Around} {E:Value->Shared->Prop} {s:Shared}
set_option maxRecDepth 100000 in
end
section
variable {X:Cx}
end
end L2
namespace Att
open PySem PySem.W PySem.Calls PyProof.Rows
theorem jbw_ {P:Params} {h:Heap}:∀(ns:List Int) (vs:List Value),WellAll P h vs (ns.map WData.int)->IntsAre vs ns:=by
 intro ns
 induction ns with
 | nil =>
  intro vs w
  rw[p8_] at w
  cases w
  exact .nil
 | cons n ns ih =>
  intro vs w
  rw[pj_] at w
  cases w with
  | cons a b =>
   cases a
   exact .cons _ _ (ih _ b)
theorem jqm_ {l:OpenLaw} {n:Nat} (hn:l.most=some n) {P:Params} {h:Heap} {args:List WData} {vals:List Value}
  (hpre:l.row.toRowW.claim.pre args=true) (hwl:WellAll P h vals args) :
  ∃ a vs ns,vals=[Value.ref a]/\args=[WData.list (ns.map WData.int)]/\h.get? a=some { cls:=.type "list",data:=.seq vs.toArray }/\IntsAre vs ns/\ns.length<=n:=by
 have hsh:WShape.hasAll [] args [.list .int]=true:=(pre_splitW hpre).1
 have hc:l.pre.holds [] { args:=args }=true:=(pre_splitW hpre).2
 obtain⟨d,r,rfl,h1,h2⟩:=hasAllW_cons hsh
 obtain rfl:=hasAllW_nil h2
 obtain⟨xs,rfl,h3⟩:=hasW_list h1
 obtain⟨ns,rfl⟩:=items_int h3
 have hlen:ns.length<=n:=by
  unfold OpenLaw.pre at hc
  have h4:(WTm.not (.lt (.lit (.int (n:Int))) (.len (.arg 0)))).holds [] { args:=[.list (ns.map .int)] }=true:=by
   have h4:=(holds_andW hc).1
   rw[hn] at h4
   exact h4
  have h5:=condW_of h4 (w_not (w_lt w_lit (w_len_list (w_arg rfl))))
  rw[pc_] at h5
  refine Nat.le_of_not_lt fun q=>?_
  have q':(n:Int) < ((ns.length:Nat):Int):=by omega
  first
   | (rw[decide_eq_true q'] at h5;exact absurd h5 (by decide))
   | (simp at h5;omega)
 cases hwl with
 | cons w1 w2 =>
  cases w2
  cases w1 with
  | list ho hall=>exact⟨_,_,ns,rfl,rfl,ho,jbw_ ns _ hall,hlen⟩
theorem jqi_ (l:OpenLaw) (args:List WData):l.row.toRowW.claim.post args (.bool true) args=true :=
 postW_of (r:=l.row.toRowW) (X:=(true == true))
  (show WShape.has [] (.bool true) .bool=true by first | rfl | decide | simp[WShape.has,WShape.arms,WShape.armsAll])
  (show (WTm.eq .res (.lit (.bool true))).value [] { args:=args,res:=some (.bool true),after:=args }=some (.bool (true == true)) from w_eq_bool (w_res rfl) w_lit) rfl
theorem attach_call {l:OpenLaw} {n:Nat} {q:Program} {loose:List Str} {XP:(Str->Option Value)->Heap->Prop} {YP:World->Heap->Prop} {d:DefRec}
  (hn:l.most=some n) (hdf:d.params.defaults=[])
  (call:∀(w:World) (s₀ s₁:Shared) (mg mb:Str->Option Value) (fa:Addr) (o:Obj) (pm cd doc:Value) (a:Addr) (vs:List Value) (ns:List Int),
   Ground q loose [] XP w s₀ mg mb s₁.heap->YP w s₁.heap ->
   s₁.heap.get? fa=some o->o.data=.func (docDef d.name d.params d.body d.scope pm cd doc)->s₁.heap.CodeRec cd d.name->mg d.name=some (.ref fa) ->
   s₁.heap.get? a=some { cls:=.type "list",data:=.seq vs.toArray }->IntsAre vs ns->ns.length<=n->s₁.gens=#[] ->
   codeAny (model l.prog w) callerA (.call (.ref fa) ⟨[.ref a],[]⟩) (fun r s'=>r=.ok (.ret (.bool true))/\OldK s₁.heap s'.heap/\s'.os=s₁.os/\AllBare s'.gens) s₁) :
  WalkO q loose XP YP l.row.toRowW d [] (fun f vs=>PySem.call f vs):=by
 intro w s₀ s₁ mg mb G Y fa o pm cd doc dV kV ho hd hcd hD hmg hg args vals as hpre hlay hrd hwl hlo
 obtain rfl:dV=.none:=Dflts.none hD hdf
 obtain rfl:kV=.none:=Dflts.noKw hD
 obtain⟨a,vs,ns,rfl,rfl,hobj,hints,hlen⟩:=jqm_ hn hpre hwl
 refine enter_call (codeAny_mono (call w s₀ s₁ mg mb fa o pm cd doc a vs ns G Y ho (fd_plain hd) hcd hmg hobj hints hlen hg) fun r s' hq=>?_)
 obtain⟨rfl,h2,h3,h4⟩:=hq
 exact⟨.inl ⟨.bool true,.bool true,[],rfl,fun _=>rfl,.bool true,jqi_ l _,fun _=>⟨rs_.nil,fun _ hm=>(nomatch hm)⟩⟩,h2,h3,h4⟩
section
variable {prog:Program} {w:World} {A:Around} {E:Value->Shared->Prop} {s:Shared} {K:Frag}
end
end Att
namespace L2
open PySem PySem.Spec PyProof.Rows
theorem jgh_:∀{vs:List Value} {ns:List Int},IntsAre vs ns->Vals (ns.map V.int) vs
 | _,_,.nil=>.nil
 | _,_,.cons n t h=>.cons ⟨t,rfl⟩ (jgh_ h)
def Only (H:Hp):Prop:=∀ b,H b=none∨∃ o xs,H b=some (.frz o (.lst xs))
theorem jvm_ {P:Program} {w:World} {K:pb_} {mg mb:Str->Option Value} {CX:CXT} {k:Nat} {fa a:Addr} {fd:FuncData} {x:Str} {sp:Sp} {s₁:Shared} {vs:List Value} {ns:List Int}
  (KX:K.In s₁.heap) (hns:s₁.heap.Ns mainGlobals mg) (hb:s₁.heap.Ns builtinsNs mb) (hbb:∀ x:Str,x≠"__name__"->mb x=bootBuiltins x) (hlim:s₁.heap.NoLimit) (hg:s₁.gens=#[])
  (ha:s₁.heap.get? a=some { cls:=.type "list",data:=.seq vs.toArray }) (hi:IntsAre vs ns) (hl:ns.length<=sizeLine) (hr:Room k callerA)
  (F:∀ base:Heap,K.In base->base.Ns mainGlobals mg->FnOk P w K mg base CX k fa fd [x] sp) (hbind:∀(s:Shared) (u:Value),BindsTo s fd ⟨[u],[]⟩ [(x,u)])
  (hsp:∀ H:Hp,Only H->SqL K H a (ns.map V.int)->sp [.ref a] H (fun v _=>v=.bl true) fun _ _ _=>False)
  (hCX:∀ H e s',CX [] H s₁ (fun _ _ _=>False) e s'->False) :
  codeAny (model P w) callerA (.call (.ref fa) ⟨[.ref a],[]⟩) (fun r s'=>r=.ok (.ret (.bool true))/\OldK s₁.heap s'.heap/\s'.os=s₁.os/\AllBare s'.gens) s₁:=by
 have rv:=jgh_ hi
 have lenV:=hi.length
 -- from an abstract heap in which nothing but the script may be tracked
 have core:∀ H:Hp,Only H->SqL K H a (ns.map V.int)->HOk P w H s₁.heap->(∀ b,H b≠none->b=a)->(H a≠none->K.lookup a=none) ->
   codeAny (model P w) callerA (.call (.ref fa) ⟨[.ref a],[]⟩) (fun r s'=>r=.ok (.ret (.bool true))/\OldK s₁.heap s'.heap/\s'.os=s₁.os/\AllBare s'.gens) s₁:=by
  intro H hO hS hok hA hK
  have base_of:∀{b:Addr} {o:Obj},s₁.heap.get? b=some o->H b=none->(hidT s₁.heap H).get? b=some o:=fun e n=>jro_ e n
  have noA:∀{b:Addr} {o:Obj} {es:Array DictEntry} {ep:Nat},s₁.heap.get? b=some o->o.data=.dict es ep->H b=none:=fun{b o es ep} e d=>by
   cases q:H b with
   | none=>rfl
   | some u =>
    have e':b=a:=hA b (by rw[q];simp)
    subst e'
    rw[ha] at e;cases e
    have d':Data.seq vs.toArray _=Data.dict es ep:=d
    cases d'
  have nsK:∀{b:Addr} {m:Str->Option Value},s₁.heap.Ns b m->(hidT s₁.heap H).Ns b m:=fun{b m} ⟨o,es,ep,e,d,r⟩=>⟨o,es,ep,base_of e (noA e d),d,r⟩
  have hKb:K.In (hidT s₁.heap H):=fun b o e=>base_of (KX b o e) (by
   cases q:H b with
   | none=>rfl
   | some u =>
    have e':b=a:=hA b (by rw[q];simp)
    subst e'
    rw[hK (by rw[q];simp)] at e;cases e)
  have hM:Mod K mg (hidT s₁.heap H):=⟨hKb,nsK hns,⟨mb,nsK hb,hbb⟩,let ⟨mc,h1,h2⟩:=hlim;⟨mc,nsK h1,h2⟩⟩
  have e0:Env0 P w K mg (hidT s₁.heap H) callerA [] s₁ H:=⟨rfl,hM,fun b o e=>jxb_ e,l0_ (jpw_ _ _),trivial,fun b hb=>absurd (show b∈([]:List Addr) from hb) (by simp),hok,.of_eq hg⟩
  refine codeAny_mono ((F _ hKb (nsK hns)).run callerA [] s₁ H ⟨[.ref a],[]⟩ [.ref a] [.ref a] _ _ hr e0 (hbind s₁ (.ref a)) (.cons rfl .nil) (hsp H hO hS)) fun r s' h=>?_
  cases r with
  | error e=>exact(hCX H e s' h).elim
  | ok fl =>
   cases fl with
   | next=>exact rk_ h
   | brk=>exact rk_ h
   | cont=>exact rk_ h
   | ret u =>
    obtain⟨v,H',os,bare,un,hok',r',q⟩:=h
    have q':v=.bl true:=q
    subst q'
    obtain rfl:u=Value.bool true:=r'
    refine⟨rfl,OldK.of_keep fun b o e=>?_,os,bare⟩
    cases q:H b with
    | none=>exact un.keep b o e q (by intro z;exact absurd (show b∈([]:List Addr) from z) (by simp)) (by simp)
    | some u =>
     rcases hO b with z | ⟨ob,xs,z⟩
     ·rw[q] at z;cases z
     ·have z2:=un.frzs b ob _ z
      obtain⟨e1,_⟩:=hok b _ z
      obtain⟨e2,_⟩:=hok' b _ z2
      rw[e] at e1;cases e1
      exact e2
 cases hk:K.lookup a with
 | some o =>
  -- the script is one of the module's own objects
  have e:=KX a o hk
  rw[ha] at e
  cases e
  refine core (fun _=>none) (fun _=>.inl rfl) (.inr ⟨_,vs.toArray,_,hk,rfl,rfl,rfl,by rw[pp_,lenV];exact hl,by simpa using rv⟩) (fun b u z=>by have z':(none:Option HO)=some u:=z;cases z') (fun b z=>absurd rfl z) fun z=>absurd rfl z
 | none =>
  refine core (fun b=>if b=a then some (.frz { cls:=.type "list",data:=.seq vs.toArray } (.lst (ns.map V.int))) else none) (fun b=>?_) (.inl (.inr ⟨{ cls:=.type "list",data:=.seq vs.toArray },if_pos rfl⟩)) (fun b u z=>?_) (fun b z=>?_) fun _=>hk
  ·by_cases hb:b=a
   ·exact .inr ⟨_,_,if_pos hb⟩
   ·exact .inl (if_neg hb)
  ·by_cases hb:b=a
   ·have z':=(if_pos hb).symm.trans z
    cases z'
    subst hb
    exact⟨ha,by rw[pc_];exact hl,vs,_,rv,ha⟩
   ·have z':=(if_neg hb).symm.trans z
    cases z'
  ·by_cases hb:b=a
   ·exact hb
   ·exact absurd (if_neg hb) z
end L2
namespace L2
open PySem PySem.Spec PyProof.Rows
theorem jno_ {l:kt_} {n k:Nat} {q:Program} {loose:List Str} {XP:(Str->Option Value)->Heap->Prop} {YP:World->Heap->Prop} {d:DefRec} {K:Params->pb_} {CX:World->CXT} {sp:World->Sp} {x:Str}
  (hn:l.most=some n) (hn2:n<=sizeLine) (hdf:d.params.defaults=[]) (hr:Room k callerA)
  (hY:∀(w:World) (h:Heap),YP w h->(K w.params).In h)
  (F:∀(w:World) (mg:Str->Option Value) (fa:Addr) (h:Heap),(K w.params).In h->h.Ns mainGlobals mg->mg d.name=some (.ref fa) ->
   ∃ fd:FuncData,(∀(s:Shared) (u:Value),BindsTo s fd ⟨[u],[]⟩ [(x,u)]) /\
    ∀ base:Heap,(K w.params).In base->base.Ns mainGlobals mg->FnOk l.prog w (K w.params) mg base (CX w) k fa fd [x] (sp w))
  (hsp:∀(w:World) (H:Hp) (a:Addr) (ns:List Int),ns.length<=n->Only H->SqL (K w.params) H a (ns.map V.int)->sp w [.ref a] H (fun v _=>v=.bl true) fun _ _ _=>False)
  (hCX:∀(w:World) (H:Hp) (s:Shared) (e:Value) (s':Shared),CX w [] H s (fun _ _ _=>False) e s'->False) :
  PySem.W.WalkO q loose XP YP l.row.toRowW d [] (fun f vs=>PySem.call f vs):=by
 refine Att.attach_call hn hdf fun w s₀ s₁ mg mb fa o pm cd doc a vs ns G Y ho hd hcd hmg hobj hints hlen hg=>?_
 have KX:=hY w _ Y
 obtain⟨fd,hb,hF⟩:=F w mg fa _ KX G.T.g hmg
 exact jvm_ KX G.T.g G.T.b G.T.builtins G.T.nolimit hg hobj hints (qg_ hlen hn2) hr hF hb (fun H hO hS=>hsp w H a ns hlen hO hS) fun H e s'=>hCX w H s₁ e s'
end L2
/- THE LAST THEOREM (shape;LID,My.* are yours):
  My.Adr: a structure of the addresses that your layer names (classes,functions);My.Txt K t: a structure (Prop) of the equations over K;
  My.txt_mk:{K} {implicit addresses ..} (e1:nsIn K mainGlobals "law"=some (some (.ref f))) (e2:K.lookup f=some ⟨oc,od,.func (fnOf "law" "law" params body scope dV kV doc pm an cdv ct),sl⟩) (e3:codeIn K cdv "law"=true) ..:∃ t,My.Txt K t
set_option maxRecDepth 100000 in
set_option maxHeartbeats 0 in
theorem PySem.Challenge.cw_LID_holds : PySem.Challenge.rw_LID.Holds := by
 w_on;o_law;k_head;(case hw=>w_witness2)
 k_fill
 refine L2.jno_ (l:=PySem.Challenge.rw_LID) (n:=63) (k:=40) (x:="script") (CX:=fun w=>..) (sp:=fun _=>My.sp_law) rfl (by decide) rfl ⟨rfl,by decide,by decide⟩ (fun w h Y=>PySem.W.kIn_of Y) ?F ?S ?C
 case F =>
  intro w mg fa h KX G hmg
  have T:∃ t,My.Txt (L2.KOf KX) t:=by
   dsimp only [L2.KOf]                          -- K must stand as «<heap const> w.params» for k_is
   refine' My.txt_mk ?e1 ?e2 ?e3 ..
   (case e1=>PySem.W.k_is)                    -- in the order: a name -> its address -> its object -> its zl_
   (case e2=>PySem.W.k_is)
   ..
  obtain⟨t,T⟩:=T
  have e0:=hmg.symm.trans (pn_ KX G T.law)
  cases e0                                       -- fa is the law's own address
  exact⟨_,fun s u=>.of_eq rfl,fun base kb nb=>My.law_fn T kb nb⟩     -- if «.of_eq rfl» comes too early: refine' ⟨_,?b,fun base kb nb=>My.law_fn T kb nb⟩;exact fun s u=>.of_eq rfl
 case S=>exact fun w H a ns hl hO hS=>..
 case C=>exact ..
(the tactic k_is has no namespace: write k_is) -/
namespace L2
open PySem PySem.Spec PyProof.Rows
def vw_ (s:Stmt) (j:Nat):Stmt:=match s with
 | .ClassDef _ _ _ body _ _ _ _ _ _ _=>body.getD j (.Pass ⟨0,0,0,0⟩)
 | _=>.Pass ⟨0,0,0,0⟩
def vv_ (s:Stmt):Arguments:=match s with
 | .FunctionDef _ a _ _ _ _ _ _ _ _=>a
 | _=>{ posonlyargs:=[],args:=[],vararg:=none,kwonlyargs:=[],kw_defaults:=[],kwarg:=none,defaults:=[] }
def xf_ (s:Stmt):List Stmt:=match s with
 | .FunctionDef _ _ b _ _ _ _ _ _ _=>b
 | _=>[]
def jl_ (s:Stmt):Scope:=match s with
 | .FunctionDef _ _ _ _ _ _ sc _ _ _=>sc
 | _=>{ kind:=.function,names:=[],isGenerator:=false,isCoroutine:=false }
abbrev CX0:CXT:=fun _ _ _ _ _ _=>False
abbrev E0:XK:=fun _ _ _=>False
theorem jig_ {X:Cx}:y8_ CX0 X E0:=fun _ _ _ _ _ _ _ h=>h.elim
structure Fun (K:pb_) (x qual:Str) (st:Stmt) (f:Addr) (fd:FuncData):Prop where
 ex:∃(oc:Value) (od:Option Addr) (kV doc pm:Value) (an:Option Addr) (cdv ct:Value) (osl:Array (Option Value)),
  fd=sw_ x qual (vv_ st) (xf_ st) (jl_ st) .none kV doc pm an cdv ct/\K.lookup f=some ⟨oc,od,.func fd,osl⟩/\wx_ K cdv qual=true
 kp:q9_ K (.ref f)=true
section
variable {P:Program} {w:World} {K:pb_} {mg:Str->Option Value} {base:Heap}
theorem Fun.ok {x qual:Str} {st:Stmt} {f:Addr} {fd:FuncData} {N ps:List Str} {k:Nat} {sp:Sp} (F:Fun K x qual st f fd) (S:FnScope N ps (jl_ st)) (len:∀ vs H Q E,sp vs H Q E->vs.length=ps.length)
  (hbody:∀(cdv:Value) (A:Around) (outer:List Env) (s:Shared) (H:Hp) (vs:List V) (Q:VK) (E:XK),Room k (A.deeper (envOfC qual (jl_ st) s.heap.objs.size f cdv))->sp vs H Q E ->
   ∃ t,PSs (cxOf CX0 P w K mg base N qual (jl_ st) f cdv A outer s H E).nox (xf_ st) t/\t { nx:=fun _ H'=>Q .non H',rt:=Q } (start N vs) H):FnOk P w K mg base CX0 (k+1) f fd ps sp:=by
 obtain⟨oc,od,kV,doc,pm,an,cdv,ct,osl,rfl,lk,hcd⟩:=F.ex
 refine jzm_ lk hcd S len fun A outer s H vs Q E hr hsp=>?_
 obtain⟨t,h,q⟩:=hbody cdv A outer s H vs Q E hr hsp
 exact⟨t,h.nox,q⟩
theorem Fun.binds {x qual:Str} {st:Stmt} {f:Addr} {fd:FuncData} {ps:List Str} (F:Fun K x qual st f fd)
  (h:∀(kV doc pm:Value) (an:Option Addr) (cdv ct:Value) (us:List Value),us.length=ps.length->bindArgs (sw_ x qual (vv_ st) (xf_ st) (jl_ st) .none kV doc pm an cdv ct) ⟨us,[]⟩=pure (ps.zip us)):Binds K fd ps []:=by
 obtain⟨oc,od,kV,doc,pm,an,cdv,ct,osl,rfl,lk,hcd⟩:=F.ex
 exact .all (h kV doc pm an cdv ct)
theorem jtt_ {x qual:Str} {st:Stmt} {f:Addr} {oc:Value} {od an:Option Addr} {osl:Array (Option Value)} {kV doc pm cdv ct:Value} (l:K.lookup f=some ⟨oc,od,.func (sw_ x qual (vv_ st) (xf_ st) (jl_ st) .none kV doc pm an cdv ct),osl⟩)
  (c:wx_ K cdv qual=true) (k:q9_ K (.ref f)=true):Fun K x qual st f (sw_ x qual (vv_ st) (xf_ st) (jl_ st) .none kV doc pm an cdv ct):=⟨⟨oc,od,kV,doc,pm,an,cdv,ct,osl,rfl,l,c⟩,k⟩
end
theorem xa_ {A:Around} {k:Nat} (hr:Room k A):A.units+1 < cLine:=rp_ (Nat.add_le_add_left (by decide:1<=64) _) hr.units
section
variable {X:Cx}
theorem pv (i:Nat) {x:Str} {pos:Pos} (hN:X.N[i]?=some x:=by rfl) (hv:Vis X.env.scope x:=by first | exact Or.inl rfl | exact Or.inr (Or.inl rfl) | exact Or.inr (Or.inr rfl)) (hd:(x == ("__debug__":Str))=false:=by decide)
  (hcd:(x == ("__classdict__":Str))=false:=by decide):PE X (.Name x pos) (tVar i):=pe_var hN hv hd hcd
end
theorem iteF {A B:Prop} (h:B):if false=true then A else B:=by
 rw[if_neg ph_]
 exact h
theorem iteT {A B:Prop} (h:A):if true=true then A else B:=by
 rw[if_pos rfl]
 exact h
def Same (H H':Hp):Prop:=∀ b o,H b=some o->H' b=some o
theorem Same.refl (H:Hp):Same H H:=fun _ _ h=>h
theorem Same.trans {H H1 H2:Hp} (a:Same H H1) (b:Same H1 H2):Same H H2:=fun c o h=>b c o (a c o h)
theorem Same.free {H H':Hp} (e:Same H H') {l:Addr} (h:H' l=Option.none):H l=Option.none:=by
 cases q:H l with
 | none=>rfl
 | some o =>
  rw[e l o q] at h
  cases h
theorem Same.seq {K:pb_} {H H':Hp} {a:Addr} {xs:List V} (e:Same H H') (h:SqL K H a xs):SqL K H' a xs:=by
 rcases h with (h | ⟨o,h⟩) | h
 ·exact .inl (.inl (e _ _ h))
 ·exact .inl (.inr ⟨o,e _ _ h⟩)
 ·exact .inr h
end L2
namespace L2
open PySem
def clTo (cells:List (Str×Addr)):List (Str×NameKind)->List (Str×Addr)->List (Str×Addr)
 | [],acc=>acc
 | (n,k)::r,acc=>if k == .free then clTo cells r ((n,(cells.lookup n).getD 0)::acc) else clTo cells r acc
theorem jem_ {scope:Scope} {env:Env} (h:∀ y∈scope.names,y.2=.free->∃ c,env.cells.lookup y.1=some c) :
  closureFor scope env=pure (clTo env.cells scope.names []):=by
 simp only[closureFor]
 generalize ([]:List (Str×Addr))=acc
 revert h
 generalize scope.names=l
 intro h
 have key:∀(l:List (Str×NameKind)) (acc:List (Str×Addr)),(∀ y∈l,y.2=.free->∃ c,env.cells.lookup y.1=some c) ->
   (forIn l acc (fun x r=>if (x.snd == NameKind.free)=true then do
      let a <- cellOf env x.fst
      pure (ForInStep.yield ((x.fst,a)::r)) else pure (ForInStep.yield r)):Sem _)=pure (clTo env.cells l acc):=by
  intro l
  induction l with
  | nil=>intro acc _;rfl
  | cons y l ih =>
   intro acc h
   obtain⟨n,k⟩:=y
   rw[si_]
   have hr:=fun y hy=>h y (pt_ _ hy)
   by_cases hk:(k == NameKind.free)=true
   ·obtain⟨c,hc⟩:=h (n,k) p5_ (by simpa using hk)
    have hc':env.cells.lookup n=some c:=hc
    have e1:cellOf env n=pure c:=by unfold cellOf;rw[hc']
    simp only[hk,if_true,e1,clTo,hc',Option.getD_some,pure_bind]
    exact ih _ hr
   ·simp only[Bool.not_eq_true] at hk
    simp only[hk,ss_,if_false,clTo,pure_bind]
    exact ih _ hr
 rw[key l acc h]
 rfl
theorem vu_ {cells:List (Str×Addr)} {x:Str}:∀(l:List (Str×NameKind)) (acc:List (Str×Addr)),((x,NameKind.free)∈l∨acc.lookup x=some ((cells.lookup x).getD 0)) ->
  (clTo cells l acc).lookup x=some ((cells.lookup x).getD 0)
 | [],acc,h=>by
  rcases h with h | h
  ·cases h
  ·exact h
 | (n,k)::r,acc,h=>by
  unfold clTo
  by_cases hk:(k == NameKind.free)=true
  ·rw[if_pos hk]
   refine vu_ r _ ?_
   by_cases e:x=n
   ·subst e;right;simp
   ·rcases h with h | h
    ·left
     rcases pz_.mp h with h | h
     ·injection h with h1 _;exact absurd h1 e
     ·exact h
    ·right
     rw[qt_,beq_eq_false_iff_ne.mpr e];exact h
  ·rw[if_neg hk]
   refine vu_ r _ ?_
   rcases h with h | h
   ·left
    rcases pz_.mp h with h | h
    ·injection h with _ h2;rw[<- h2] at hk;exact absurd rfl hk
    ·exact h
   ·exact .inr h
theorem jhs_ {cells:List (Str×Addr)} {x:Str} {c:Addr}:∀(l:List (Str×NameKind)) (acc:List (Str×Addr)),(clTo cells l acc).lookup x=some c ->
  acc.lookup x=some c∨((x,NameKind.free)∈l/\c=(cells.lookup x).getD 0)
 | [],acc,h=>.inl h
 | (n,k)::r,acc,h=>by
  unfold clTo at h
  by_cases hk:(k == NameKind.free)=true
  ·rw[if_pos hk] at h
   rcases jhs_ r _ h with q | ⟨q1,q2⟩
   ·by_cases e:x=n
    ·subst e
     rw[qt_,beq_self_eq_true] at q
     have hk':k=.free:=by simpa using hk
     subst hk'
     exact .inr ⟨p5_,(Option.some.inj q).symm⟩
    ·rw[qt_,beq_eq_false_iff_ne.mpr e] at q
     exact .inl q
   ·exact .inr ⟨pt_ _ q1,q2⟩
  ·rw[if_neg hk] at h
   rcases jhs_ r _ h with q | ⟨q1,q2⟩
   ·exact .inl q
   ·exact .inr ⟨pt_ _ q1,q2⟩
section
variable {prog:Program} {w:World} {A:Around}
 {R:Result->Shared->Prop} {s:Shared}
theorem jgk_ {M:Model} (hM:M=model prog w) {elt target iter:Expr} {ifs:List Expr} {scope:Scope} {pos:Pos} {it acc:Value} {env:Env} (I:Nat->Shared->Prop)
  (turn:∀ n s,I n s->wpAny M A (pyNext it) (fun r z₁=>match r with
   | none=>R (.ok .next) z₁
   | some v=>wpAny M A (letOwnedTupleGo target it v) (fun _ z₀=>wpAny M A (assign target env v) (fun _ z₂ =>
     wpAny M A (forIn ifs true fun c r=>if r=true then do let ok <- isTrue c env (eval c env);pure (ForInStep.yield ok) else pure (ForInStep.yield r)) (fun ok z₃ =>
      if ok=true then wpAny M A (eval elt env) (fun x z₄ =>
       wpAny M A (call (.builtin "list.append") [acc,x]) (fun _ z₅=>∃ m,m < n/\I m z₅) (notedBy M A env fun e s'=>R (.error e) s') z₄) (notedBy M A env fun e s'=>R (.error e) s') z₃
      else ∃ m,m < n/\I m z₃) (notedBy M A env fun e s'=>R (.error e) s') z₂) (notedBy M A env fun e s'=>R (.error e) s') z₀) (notedBy M A env fun e s'=>R (.error e) s') z₁) (notedBy M A env fun e s'=>R (.error e) s') s)
  (n:Nat) (h:I n s) :
  codeAny M A (.compLoop (.ListComp elt [⟨target,iter,ifs,0⟩] scope pos) 0 it acc env) R s:=by
 subst hM
 refine codeAny_loop rfl I (fun k z hz=>?_) n h
 show wpAny _ A (Sem.onRaise (compTurn (.ListComp elt [⟨target,iter,ifs,0⟩] scope pos) 0 it acc env) _) _ _ z
 rw[compTurn_list]
 refine wpAny_noted (wpAny_bind (wpAny_standAt (wpAny_bind (wpAny_mono (turn k z hz) (fun r z1 g1=>?_) fun _ _ e=>e))))
 match r,g1 with
 | none,g1=>exact wpAny_pure g1
 | some v,g1 =>
  refine wpAny_bind (wpAny_mono g1 (fun _ z2 g2=>wpAny_bind (wpAny_mono g2 (fun _ z3 g3=>wpAny_bind (wpAny_mono g3 (fun b z4 g4=>?_) fun _ _ e=>e)) fun _ _ e=>e)) fun _ _ e=>e)
  match b,g4 with
  | false,g4=>exact wpAny_pure ⟨rfl,g4⟩
  | true,g4 =>
   refine wpAny_bind (wpAny_bind (wpAny_mono g4 (fun y z5 g5=>wpAny_bind (wpAny_mono g5 (fun _ z6 g6=>?_) fun _ _ e=>e)) fun _ _ e=>e))
   exact wpAny_pure (wpAny_pure ⟨rfl,g6⟩)
end
end L2
namespace L2
open PySem PySem.Spec PyProof.Rows
def jrd_ (σ:St):Option Nat->Option V
 | none=>none
 | some j=>match σ[j]? with
  | some (some v)=>some v
  | _=>none
def pick (ix:List (Option Nat)) (σ:St):St:=ix.map (jrd_ σ)
theorem jvh_ {ix:List (Option Nat)} {σ:St} {i:Nat} {v:V} (h:(pick ix σ)[i]?=some (some v)):∃ j,ix[i]?=some (some j)/\σ[j]?=some (some v):=by
 unfold pick at h
 rw[pm_] at h
 cases e:ix[i]? with
 | none=>rw[e] at h;cases h
 | some o =>
  rw[e] at h
  have h':jrd_ σ o=some v:=Option.some.inj h
  cases o with
  | none=>cases h'
  | some j =>
   refine⟨j,rfl,?_⟩
   unfold jrd_ at h'
   dsimp only at h'
   split at h'
   ·rename_i q;rw[q,h']
   ·cases h'
def zx_ (X:Cx) (pins:List (Addr×Obj)) (scope:Scope) (N':List Str) (fp:List Addr) (s3:Shared) (H3:Hp):Cx where
 prog:=X.prog
 w:=X.w
 K:=X.K
 mg:=X.mg
 base:=X.base
 A:=X.A
 N:=N'
 s₀:=s3
 H₀:=H3
 env:=compEnvC scope (clTo X.env.cells scope.names []) s3.heap.objs.size X.env
 outer:=X.stack
 stack:=X.stack
 ex:=fp
 fn:=fun _=>false
 calm:=X.calm
 pn:=X.pn++pins
 xe:=fun _ _=>False
def z2_ (names:List (Str×NameKind)) (N:List Str):List (Option Nat)->List Str->Bool
 | [],[]=>true
 | none::r,_::q=>z2_ names N r q
 | some j::r,x::q=>N[j]? == some x&&names.lookup x == some .free&&z2_ names N r q
 | _,_=>false
def jdj_ (sc:Scope) (N:List Str) (scope:Scope) (N':List Str) (ix:List (Option Nat)):Bool :=
 scope.names.all (fun y=>y.2 != .cell)&&scope.names.all (fun y=>y.2 != .local || scope.names.lookup y.1 == some .local)
  && scope.names.all (fun y=>y.2 != .free || (sc.names.lookup y.1 == some .cell || sc.names.lookup y.1 == some .free))&&z2_ scope.names N ix N'
theorem v6_ {names:List (Str×NameKind)} {N:List Str}:∀{ix:List (Option Nat)} {N':List Str},z2_ names N ix N'=true->ix.length=N'.length
 | [],[],_=>rfl
 | none::r,_::q,h=>by simp only[z2_] at h;simp[v6_ h]
 | some j::r,x::q,h=>by simp only[z2_,qi_] at h;simp[v6_ h.2]
 | [],_::_,h=>by simp[z2_] at h
 | none::_,[],h=>by simp[z2_] at h
 | some _::_,[],h=>by simp[z2_] at h
theorem v7_ {names:List (Str×NameKind)} {N:List Str}:∀{ix:List (Option Nat)} {N':List Str} {i j:Nat} {x:Str},z2_ names N ix N'=true->ix[i]?=some (some j)->N'[i]?=some x ->
  N[j]?=some x/\names.lookup x=some .free
 | [],[],_,_,_,_,e,_=>by simp at e
 | none::r,_::q,0,_,_,_,e,_=>by simp at e
 | none::r,_::q,i+1,_,_,h,e,e'=>by
  simp only[z2_] at h
  exact v7_ h (by simpa using e) (by simpa using e')
 | some j::r,x::q,0,_,_,h,e,e'=>by
  simp only[z2_,qi_] at h
  simp at e e'
  subst e;subst e'
  exact⟨by simpa using h.1.1,by simpa using h.1.2⟩
 | some j::r,x::q,i+1,_,_,h,e,e'=>by
  simp only[z2_,qi_] at h
  exact v7_ h.2 (by simpa using e) (by simpa using e')
 | [],_::_,_,_,_,h,_,_=>by simp[z2_] at h
 | none::_,[],_,_,_,h,_,_=>by simp[z2_] at h
 | some _::_,[],_,_,_,h,_,_=>by simp[z2_] at h
theorem mem_of_lookup {α β:Type} [BEq α] [LawfulBEq α] {x:α} {k:β}:∀{l:List (α×β)},l.lookup x=some k->(x,k)∈l
 | [],h=>by cases h
 | (n,k')::r,h=>by
  rw[qt_] at h
  by_cases e:x == n
  ·rw[e] at h
   have e':x=n:=by simpa using e
   cases h
   rw[e'];exact p5_
  ·have e':(x == n)=false:=by simpa using e
   rw[e'] at h
   exact pt_ _ (mem_of_lookup h)
theorem xz_ {env:Env} {x:Str} {k:NameKind}:∀{names:List (Str×NameKind)},(∀ y∈names,y.2≠.cell) ->
  (names.map fun(n,k)=>if (k == NameKind.free&&env.scope.kind == .function&&env.kindOf n == some .cell) then (n,NameKind.cell) else (n,k)).lookup x=some k->(k=.cell∨k=.free)->(x,NameKind.free)∈names
 | [],_,h,_=>by cases h
 | (n,k')::r,hc,h,hk=>by
  rw[pj_] at h
  have hc':=fun y hy=>hc y (pt_ _ hy)
  have hk':k'≠.cell:=hc (n,k') p5_
  by_cases e:x=n
  ·subst e
   dsimp only at h
   split at h
   ·rename_i q
    rw[qt_,beq_self_eq_true] at h
    have:k'=.free:=by simp only[qi_] at q;simpa using q.1.1
    subst this;exact p5_
   ·rw[qt_,beq_self_eq_true] at h
    have hkk:k'=k:=Option.some.inj h
    subst hkk
    rcases hk with z | z
    ·exact absurd z hk'
    ·subst z;exact p5_
  ·have e':(x == n)=false:=beq_eq_false_iff_ne.mpr e
   refine pt_ _ (xz_ (env:=env) hc' ?_ hk)
   dsimp only at h
   split at h
   ·rw[qt_,e'] at h;exact h
   ·rw[qt_,e'] at h;exact h
theorem xy_ {env:Env} {x:Str}:∀{names:List (Str×NameKind)},names.lookup x=some .free ->
  (names.map fun(n,k)=>if (k == NameKind.free&&env.scope.kind == .function&&env.kindOf n == some .cell) then (n,NameKind.cell) else (n,k)).lookup x=some .cell ∨
  (names.map fun(n,k)=>if (k == NameKind.free&&env.scope.kind == .function&&env.kindOf n == some .cell) then (n,NameKind.cell) else (n,k)).lookup x=some .free
 | [],h=>by cases h
 | (n,k')::r,h=>by
  rw[pj_]
  rw[qt_] at h
  by_cases e:x=n
  ·subst e
   rw[beq_self_eq_true] at h
   have hk:k'=.free:=Option.some.inj h
   subst hk
   dsimp only
   split
   ·left;rw[qt_,beq_self_eq_true]
   ·right;rw[qt_,beq_self_eq_true]
  ·have e':(x == n)=false:=beq_eq_false_iff_ne.mpr e
   rw[e'] at h
   dsimp only
   split
   ·rw[qt_,e'];exact xy_ h
   ·rw[qt_,e'];exact xy_ h
structure CompFacts (X:Cx) (scope:Scope) (N':List Str) (ix:List (Option Nat)):Prop where
 nocell:∀ y∈scope.names,y.2≠.cell
 names:∀ y∈scope.names,y.2=.local->scope.names.lookup y.1=some .local
 free:∀ x,(x,NameKind.free)∈scope.names->X.env.kindOf x=some .cell∨X.env.kindOf x=some .free
 len:ix.length=N'.length
 link:∀{i j:Nat} {x:Str},ix[i]?=some (some j)->N'[i]?=some x->X.N[j]?=some x/\scope.names.lookup x=some .free
theorem jqj_ {X:Cx} {scope:Scope} {N':List Str} {ix:List (Option Nat)} (h:jdj_ X.env.scope X.N scope N' ix=true):CompFacts X scope N' ix:=by
 simp only[jdj_,qi_,r5_] at h
 obtain⟨⟨⟨h1,h2⟩,h3⟩,h4⟩:=h
 refine⟨fun y hy=>by simpa using h1 y hy,fun y hy e=>?_,fun x hx=>?_,v6_ h4,fun e e'=>v7_ h4 e e'⟩
 ·have q:=h2 y hy
  rw[e] at q
  simpa using q
 ·have q:=h3 _ hx
  have q':X.env.scope.names.lookup x=some .cell∨X.env.scope.names.lookup x=some .free:=by simpa using q
  exact q'
section
variable {X:Cx} {pins:List (Addr×Obj)} {σ:St} {H H':Hp} {s s':Shared} {scope:Scope} {N':List Str} {ix:List (Option Nat)} {fp:List Addr}
theorem FpOk.stk {b:Addr} (I:Inv X pins σ H s) (f:FpOk X pins H b):b∉frs X.stack:=fun z=>by
 rcases pz_.mp (I.stkSub b z) with q | q
 ·exact f.2.1 q
 ·exact f.2.2.1 q
theorem y6_ (I:Inv X pins σ H s) (F:CompFacts X scope N' ix) {x:Str} {c:Addr} (h:(clTo X.env.cells scope.names []).lookup x=some c):X.env.cells.lookup x=some c/\(x,NameKind.free)∈scope.names:=by
 rcases jhs_ _ _ h with q | ⟨q1,q2⟩
 ·cases q
 ·obtain⟨c',e⟩:=I.ok.has x (F.free x q1)
  rw[e] at q2
  exact⟨by rw[e,q2];rfl,q1⟩
theorem jvo_ (I:Inv X pins σ H s) (F:CompFacts X scope N' ix) (hk:scope.kind=.function) (hf:∀ b∈fp,FpOk X pins H b) (ho:∀ b∈fp,∃ o,s.heap.get? b=some o):(zx_ X pins scope N' fp s H).Ok where
 mod:=I.ok.mod
 kind:=hk
 glob:=I.ok.glob
 blt:=I.ok.blt
 above:=pg_ _
 inj:=fun x y c e1 e2=>I.ok.inj x y c (y6_ I F e1).1 (y6_ I F e2).1
 has:=fun x hx=>by
  have q:(x,NameKind.free)∈scope.names:=by
   rcases hx with z | z
   ·exact xz_ F.nocell z (.inl rfl)
   ·exact xz_ F.nocell z (.inr rfl)
  exact⟨_,vu_ _ _ (.inl q)⟩
 cab:=fun x c e=>by cases e
 hd:=I.ok.hd
 frames:=I.ok.frames
 stk:=.inl rfl
 exf:=fun b hb=>by
  obtain⟨o,e⟩:=ho b hb
  exact⟨p3_ (pu_ e),fun x c q=>(hf b hb).2.2.2.2.1 x c (y6_ I F q).1⟩
 bs:=fun b o e=>I.bs b o e
 bsz:=qg_ I.ok.bsz I.sz
 noex:=fun b o e hb=>by
  rcases (hf b hb).2.2.2.1 with z | z
  ·exact I.ok.noex b o e z
  ·exact absurd (p4_ (pu_ (I.ok.bs b o e).1) z) (s3_ _)
 exfs:=fun b hb=>FpOk.stk I (hf b hb)
 funs:=I.stack
 frf:=I.stkFree
theorem jsw_ {h':Heap} {m:Str->Option Value} {ob:Obj} {t:Nat} (I:Inv X pins σ H s) (F:CompFacts X scope N' ix) (hk:scope.kind=.function) (hf:∀ b∈fp,FpOk X pins H b) (ho:∀ b∈fp,∃ o,s.heap.get? b=some o)
  (hn:h'.Ns s.heap.objs.size m) (hs:rv_ s.heap.objs.size (s.heap.push ob) h') :
  Inv (zx_ X pins scope N' fp s H) [] (pick ix σ) H { s with heap:=h',toks:=t }:=by
 have k:∀ b u,s.heap.get? b=some u->h'.get? b=some u:=fun b u e =>
  (hs.2 b (p3_ (pu_ e))).trans (pf_ _ e)
 refine⟨jvo_ I F hk hf ho,rfl,I.bare,Un.kept k,⟨m,hn,fun i x v e1 e2 e3=>?_⟩,fun x c e=>?_,I.fresh,fun x c e=>?_,fun p hp=>?_,I.hok.kept k,?_⟩
 ·obtain⟨j,ej,ev⟩:=jvh_ e2
  obtain⟨l1,l2⟩:=F.link ej e1
  have fr:(x,NameKind.free)∈scope.names:=mem_of_lookup l2
  obtain⟨m0,hn0,hl⟩:=I.loc
  have vis:Vis X.env.scope x:=.inr (F.free x fr)
  obtain⟨u,r,l⟩:=hl j x v l1 ev vis
  refine⟨u,r,.inr ⟨xy_ l2,?_⟩⟩
  rcases l with ⟨l,_⟩ | ⟨_,c,e,z⟩
  ·rcases F.free x fr with q | q
   ·rw[q] at l;cases l
   ·rw[q] at l;cases l
  ·refine⟨c,?_,z.keeps k⟩
   show (clTo X.env.cells scope.names []).lookup x=some c
   rw[vu_ _ _ (.inl fr),e];rfl
 ·obtain⟨v,z⟩:=I.cell x c (y6_ I F e).1
  exact⟨v,z.keeps k⟩
 ·exact I.freeC x c (y6_ I F e).1
 ·have hp':p∈X.pn++pins:=by
   have z:p∈(X.pn++pins)++[]:=hp
   rwa [py_] at z
  obtain⟨e,n,ne,nf,d⟩:=I.pin p hp'
  refine⟨k _ _ e,n,p3_ (pu_ e),fun z=>?_,d⟩
  rcases pz_.mp (I.stkSub p.1 z) with q | q
  ·exact ne q
  ·exact nf q
 ·show (pick ix σ).length=N'.length
  unfold pick;rw[pc_];exact F.len
theorem HOk.sameBut {P:Program} {w:World} {h h':Heap} {a:Addr} (ok:HOk P w H h) (hn:H a=none) (hs:rv_ a h h'):HOk P w H h':=fun b ob e=>by
 refine(ok b ob e).stay (fun c w' hc q=>(hs.2 c ?_).trans q) (fun _ q=>q) fun _ _ q=>q
 rintro rfl
 rcases hc with rfl | hc
 ·rw[hn] at e;cases e
 ·rw[hn] at hc;cases hc
theorem jlv_ {σ':St} {ps:List (Addr×Obj)} {h':Heap} (I:Inv X pins σ H s) (hf:∀ b∈fp,FpOk X pins H b) (I':Inv (zx_ X pins scope N' fp s H) ps σ' H' s') (hs:rv_ s.heap.objs.size s'.heap h') :
  Inv X pins σ H' { s' with heap:=h' }:=by
 have bk:∀{b o o'},s.heap.get? b=some o->s'.heap.get? b=some o'->h'.get? b=some o':=fun{b o o'} e e'=>(hs.2 b (p3_ (pu_ e))).trans e'
 refine I.call' (s':={ s' with heap:=h' }) (ch:=fp) I'.os ⟨fun b o e n hb hx=>?_,fun b o e n hb hx=>?_,I'.base.free,fun b o e hx=>?_,I'.base.tups,I'.base.frzs,I'.base.tbls⟩ (I'.hok.sameBut I'.free hs) I'.bare fun b hb=>⟨(hf b hb).2.2.2.1,(hf b hb).2.1,(hf b hb).2.2.2.2.1,(hf b hb).2.2.2.2.2⟩
 ·exact bk e (I'.base.keep b o e n hb hx)
 ·obtain⟨sl,q⟩:=I'.base.slot b o e n hb hx
  exact⟨sl,bk e q⟩
 ·obtain⟨o',q⟩:=I'.base.there b o e hx
  exact⟨o',bk e q⟩
end
def PTs (X:Cx) (ifs:List Expr) (t:TT):Prop :=
 ∀(pins:List (Addr×Obj)) (s:Shared) (σ:St) (H:Hp) (Q:Bool->Hp->Prop),Inv X pins σ H s->t σ H Q ->
  wpAny (model X.prog X.w) X.A (forIn ifs true fun c r=>if r=true then do let ok <- isTrue c X.env (eval c X.env);pure (ForInStep.yield ok) else pure (ForInStep.yield r)) (TP X pins σ Q) X.xe s
def jym_:TT:=fun _ H Q=>Q true H
theorem xg_ {X:Cx}:PTs X [] jym_:=fun _ _ _ H _ I h=>wpAny_tests_nil ⟨H,I,h⟩
theorem y2_ {X:Cx} {c:Expr} {t:TT} (h:PT X c t):PTs X [c] t:=fun pins s σ H Q I q=>wpAny_tests_one (h pins s σ H Q I q)
def yq_ (J:It) (p:Addr) (g:TG) (tc:TT) (te:TE) (Q:VK) (σ0:St) (H0:Hp):Prop :=
 ∃ W:Nat->Nat->List V->St->Hp->Prop,(∃ m,W 0 m [] σ0 H0)/\∀ i m acc σ' H',W i m acc σ' H'->H' p=some (.lst acc) /\
  ((J.stop i H'/\Q (.ref p) H')∨(J.go i H'/\acc.length < sizeLine/\∃ N:List V->St->Hp->Prop,(∀ a' σ3 H3,N a' σ3 H3->∃ m',m' < m/\W (i+1) m' a' σ3 H3) /\
   ∀ x H2,J.yld i H' x H2->g x σ' H2 fun σ3 H3=>tc σ3 H3 fun b H4 =>
    if b=true then te σ3 H4 fun v H5=>H5 p=some (.lst acc)/\N (acc++[v]) σ3 (upd H5 p (.lst (acc++[v]))) else N acc σ3 H4))
def jol_ (ix:List (Option Nat)) (wi:TI) (g:TG) (tc:TT) (te:TE):TE:=fun σ H Q=>wi σ H fun J H1=>∀ p,H1 p=none->yq_ J p g tc te Q (pick ix σ) (upd H1 p (.lst []))
section
variable {X:Cx} {elt tg iter:Expr} {ifs:List Expr} {scope:Scope} {pos:Pos} {N':List Str} {ix:List (Option Nat)} {wi:TI} {g:TG} {tc:TT} {te:TE}
theorem jir_ {use:Option (Value->Sem Unit)} {R:Value->Shared->Prop} {pins:List (Addr×Obj)} {s:Shared} {σ:St} {H:Hp} {Q:VK} (hc:X.calm=true) (ok:jdj_ X.env.scope X.N scope N' ix=true) (hk:scope.kind=.function)
  (hi:PI X tg iter wi)
  (hg:∀ pins fp s3 H3,PG (zx_ X pins scope N' fp s3 H3) tg g) (ht:∀ pins fp s3 H3,PTs (zx_ X pins scope N' fp s3 H3) ifs tc) (he:∀ pins fp s3 H3,PE (zx_ X pins scope N' fp s3 H3) elt te)
  (hs:∀ x,foldedSetIterable iter X.env x=pure x) (I:Inv X pins σ H s) (h:jol_ ix wi g tc te σ H Q)
  (fin:∀(p C:Addr) (H':Hp) (s':Shared),(∃ m,s'.heap.Ns C m)->FpOk X pins H' C->(∀ h',rv_ C s'.heap h'->Inv X pins σ H' { s' with heap:=h' })->Q (.ref p) H'->compPost (model X.prog X.w) X.A X.xe use R (.ref p) C (.ok .next) s') :
  wpAny (model X.prog X.w) X.A (comprehension (.ListComp elt [⟨tg,iter,ifs,0⟩] scope pos) scope X.env (firstIterPos [⟨tg,iter,ifs,0⟩] pos) (newList []) (firstAsync [⟨tg,iter,ifs,0⟩]) (firstIter [⟨tg,iter,ifs,0⟩] X.env) use) R X.xe s:=by
 have F:=jqj_ ok
 refine wpAny_comprehension_free (cl:=clTo X.env.cells scope.names []) rfl hs (jem_ fun y hy e=>?_) hk F.names ?_
 ·obtain⟨n,k⟩:=y
  have e':k=.free:=e
  subst e'
  exact I.ok.has n (F.free n hy)
 refine thn (hi pins s σ H _ I h) fun v s1 h1=>thn h1 fun itv s2 h2=>?_
 obtain⟨it,fp,tn,J,H2,e,I2,T,st2,f2,rd⟩:=h2
 subst e
 refine wpAny_newObj_type ?_
 have hp:=I2.fresh
 obtain⟨W,⟨m0,w0⟩,turn⟩:=rd _ hp
 have I3:=I2.lnew (ys:=[]) (its:=[]) (t':=s2.toks) Paired.nil (qe_ _)
 have hf3:∀ b∈fp,FpOk X pins (upd H2 s2.heap.objs.size (.lst [])) b:=fun b hb=>by
  obtain⟨o,e,_⟩:=T.obj _ _ st2 b hb
  exact⟨by rw[jf_ (p3_ (pu_ e))];exact(f2 b hb).1,(f2 b hb).2⟩
 have ho3:∀ b∈fp,∃ o,(s2.heap.push { cls:=.type "list",data:=.seq ([]:List Value).toArray }).get? b=some o:=fun b hb=>by
  obtain⟨o,e,_⟩:=T.obj _ _ st2 b hb
  exact⟨o,pf_ _ e⟩
 have hpC:s2.heap.objs.size≠(s2.heap.push { cls:=.type "list",data:=.seq ([]:List Value).toArray }).objs.size:=by
  rw[ra_];exact p3_ (ri_ _)
 refine wpAny_newFunctionEnv F.nocell (by intro y hy;simp at hy) (fun h4 hn4 hs4=>?_) hk
 have I4:=jsw_ (t:=s2.toks+([]:List (Str×Value)).length) I3 F hk hf3 ho3 hn4 hs4
 have k4:∀ b o,s2.heap.get? b=some o->h4.get? b=some o:=fun b o e =>
  (hs4.2 b (p3_ (p4_ (pu_ e) (by rw[ra_];exact sv_ _)))).trans (pf_ _ (pf_ _ e))
 have st4:tn 0 h4:=T.keep _ _ _ st2 fun b _ o e=>k4 b o e
 have fx:∀{H':Hp} {ps:List (Addr×Obj)},(∀ b∈fp,H' b=none)->(∀ b∈fp,∀ p∈ps,p.1≠b)->∀ b∈fp,FpOk (zx_ X pins scope N' fp { s2 with heap:=s2.heap.push { cls:=.type "list",data:=.seq ([]:List Value).toArray },toks:=s2.toks } (upd H2 s2.heap.objs.size (.lst []))) ps H' b:=fun{H' ps} hn hps b hb=>by
  obtain⟨o,e⟩:=ho3 b hb
  refine⟨hn b hb,p3_ (pu_ e),FpOk.stk I3 (hf3 b hb),.inl hb,fun x c q=>(hf3 b hb).2.2.2.2.1 x c (y6_ I3 F q).1,fun p hp=>?_⟩
  rcases p0_.mp hp with z | z
  ·exact(hf3 b hb).2.2.2.2.2 p z
  ·exact hps b hb p z
 have loop:codeAny (model X.prog X.w) X.A (.compLoop (.ListComp elt [⟨tg,iter,ifs,0⟩] scope pos) 0 (.ref it) (.ref s2.heap.objs.size) (compEnvC scope (clTo X.env.cells scope.names []) (s2.heap.push { cls:=.type "list",data:=.seq ([]:List Value).toArray }).objs.size X.env))
   (compPost (model X.prog X.w) X.A X.xe use R (.ref s2.heap.objs.size) (s2.heap.push { cls:=.type "list",data:=.seq ([]:List Value).toArray }).objs.size) { s2 with heap:=h4,toks:=s2.toks+([]:List (Str×Value)).length }:=by
  refine jgk_ rfl (fun n s'=>∃ i acc σ' H',Inv (zx_ X pins scope N' fp { s2 with heap:=s2.heap.push { cls:=.type "list",data:=.seq ([]:List Value).toArray },toks:=s2.toks } (upd H2 s2.heap.objs.size (.lst []))) [] σ' H' s'/\tn i s'.heap/\(∀ b∈fp,H' b=none)/\W i n acc σ' H')
   ?_ m0 ⟨0,[],_,_,I4,st4,fun b hb=>(hf3 b hb).1,w0⟩
  rintro n s5 ⟨i,acc,σ5,H5,I5,st5,fr5,w5⟩
  obtain⟨hacc,alt⟩:=turn i n acc σ5 H5 w5
  rcases alt with ⟨stop,q⟩ | ⟨go,hz,N,hN,step⟩
  ·refine wpAny_mono (T.done (zx_ X pins scope N' fp { s2 with heap:=s2.heap.push { cls:=.type "list",data:=.seq ([]:List Value).toArray },toks:=s2.toks } (upd H2 s2.heap.objs.size (.lst []))) rfl rfl rfl hc i [] s5 σ5 H5 (fun _ _=>False) I5 (fx (ps:=[]) fr5 (fun _ _ _ z=>nomatch z)) st5 stop) (fun r s6 ⟨hr,I6⟩=>?_) fun _ _ f=>f.elim
   subst hr
   refine fin _ _ H5 s6 ?_ (I3.fpOk (pg_ _) I6.free) (fun h' hs'=>jlv_ I3 hf3 I6 hs') q
   obtain⟨m,hm,_⟩:=I6.loc
   exact⟨m,hm⟩
  ·refine wpAny_mono (T.item (zx_ X pins scope N' fp { s2 with heap:=s2.heap.push { cls:=.type "list",data:=.seq ([]:List Value).toArray },toks:=s2.toks } (upd H2 s2.heap.objs.size (.lst []))) rfl rfl rfl hc i [] s5 σ5 H5 (fun _ _=>False) I5 (fx (ps:=[]) fr5 (fun _ _ _ z=>nomatch z)) st5 go) (fun r s6 ⟨u,hr,h6⟩=>?_) fun _ _ f=>f.elim
   subst hr
   refine wpAny_mono h6 (fun _ s7 ⟨x,H7,I7,r7,y7,st7,fr7⟩=>?_) fun _ _ f=>f.elim
   have I7':=I7.pinned (fx (ps:=[]) fr7 (fun _ _ _ z=>nomatch z)) (T.obj _ _ st7)
   refine wpAny_mono (hg _ _ _ _ _ s7 σ5 H7 x u _ I7' r7 (step x H7 y7)) (fun _ s8 ⟨σ8,H8,I8,q8⟩=>?_) fun _ _ f=>f.elim
   refine wpAny_mono (ht _ _ _ _ _ s8 σ8 H8 _ I8 q8) (fun b s9 ⟨H9,I9,q9⟩=>?_) fun _ _ f=>f.elim
   have keep:∀{σ':St} {H':Hp} {s':Shared},Inv (zx_ X pins scope N' fp { s2 with heap:=s2.heap.push { cls:=.type "list",data:=.seq ([]:List Value).toArray },toks:=s2.toks } (upd H2 s2.heap.objs.size (.lst []))) ([]++jcl_ fp s7.heap) σ' H' s' ->
     tn (i+1) s'.heap/\∀ b∈fp,H' b=none:=fun{σ' H' s'} I'=>by
    refine⟨T.keep _ _ _ st7 fun b hb o e=>(I'.pin (b,o) (qm_ _ (qm_ _ (x7_ hb e)))).1,fun b hb=>?_⟩
    obtain⟨o,e,d⟩:=T.obj _ _ st7 b hb
    exact(I'.pin (b,o) (qm_ _ (qm_ _ (x7_ hb e)))).2.1
   cases b with
   | false =>
    rw[if_neg ph_] at q9 ⊢
    obtain⟨m',hm,w9⟩:=hN _ _ _ q9
    exact⟨m',hm,i+1,acc,σ8,H9,I9.unpinned,(keep I9).1,(keep I9).2,w9⟩
   | true =>
    rw[if_pos rfl] at q9 ⊢
    refine wpAny_mono (he _ _ _ _ _ s9 σ8 H9 _ I9 q9) (fun y s10 ⟨v10,H10,I10,r10,hl10,w10⟩=>?_) fun _ _ f=>f.elim
    refine wpAny_mono (jfj_ (X:=(zx_ X pins scope N' fp { s2 with heap:=s2.heap.push { cls:=.type "list",data:=.seq ([]:List Value).toArray },toks:=s2.toks } (upd H2 s2.heap.objs.size (.lst [])))) _ s10 σ8 H10 (.ref s2.heap.objs.size) [v10] (.ref s2.heap.objs.size) [y] (fun _ H'=>N (acc++[v10]) σ8 H') I10 rfl (.cons r10 .nil) ⟨_,acc,v10,rfl,rfl,hl10,hz,w10⟩) (fun _ s11 ⟨_,H11,I11,_,n11⟩=>?_) fun _ _ f=>f.elim
    obtain⟨m',hm,w11⟩:=hN _ _ _ n11
    exact⟨m',hm,i+1,acc++[v10],σ8,H11,I11.unpinned,(keep I11).1,(keep I11).2,w11⟩
 exact codeAny_compStart_list loop (T.self X.A 0 _ _ _ st4 loop)
theorem zu_ (N':List Str) (ix:List (Option Nat)) (hc:X.calm=true) (ok:jdj_ X.env.scope X.N scope N' ix=true) (hk:scope.kind=.function) (hi:PI X tg iter wi)
  (hg:∀ pins fp s3 H3,PG (zx_ X pins scope N' fp s3 H3) tg g) (ht:∀ pins fp s3 H3,PTs (zx_ X pins scope N' fp s3 H3) ifs tc) (he:∀ pins fp s3 H3,PE (zx_ X pins scope N' fp s3 H3) elt te)
  (hs:∀ x,foldedSetIterable iter X.env x=pure x:=by intro _;rfl):PE X (.ListComp elt [⟨tg,iter,ifs,0⟩] scope pos) (jol_ ix wi g tc te):=by
 intro pins s σ H Q I h
 rw[eval_ListComp]
 refine jir_ hc ok hk hi hg ht he hs I h fun p C H' s' hm fC inv q=>?_
 obtain⟨m,hm⟩:=hm
 exact⟨m,hm,fun h' hs'=>⟨.ref p,H',inv h' hs',rfl,q⟩⟩
theorem jne_ {i:Nat} {x:Str} {pos' spos:Pos} (N':List Str) (ix:List (Option Nat)) (hc:X.calm=true) (ok:jdj_ X.env.scope X.N scope N' ix=true) (hk:scope.kind=.function) (hN:X.N.Nodup) (hx1:X.N[i]?=some x) (hx:X.env.scope.names.lookup x=some .local)
  (hi:PI X tg iter wi)
  (hg:∀ pins fp s3 H3,PG (zx_ X pins scope N' fp s3 H3) tg g) (ht:∀ pins fp s3 H3,PTs (zx_ X pins scope N' fp s3 H3) ifs tc) (he:∀ pins fp s3 H3,PE (zx_ X pins scope N' fp s3 H3) elt te)
  (hw:swapsWith (.ListComp elt [⟨tg,iter,ifs,0⟩] scope pos) (some (.Name x pos')) spos.line X.env=pure true:=by rfl)
  (hs:∀ x,foldedSetIterable iter X.env x=pure x:=by intro _;rfl):PS X (.Assign [.Name x pos'] (.ListComp elt [⟨tg,iter,ifs,0⟩] scope pos) spos) (tAsg (jol_ ix wi g tc te) (jnk_ i)):=by
 intro pins s σ H D I h
 rw[exec_Assign_Name_used _ _ _ _ hw]
 refine wpAny_bind (wpAny_standAt (wpAny_bind ?_))
 show wpAny _ X.A (do let _ <- comprehension (.ListComp elt [⟨tg,iter,ifs,0⟩] scope pos) scope X.env (firstIterPos [⟨tg,iter,ifs,0⟩] pos) (newList []) (firstAsync [⟨tg,iter,ifs,0⟩]) (firstIter [⟨tg,iter,ifs,0⟩] X.env) (some (assign (.Name x pos') X.env))) _ _ s
 refine wpAny_bind (thn (jir_ (R:=fun _ s'=>∃ σ' H',Inv X pins σ' H' s'/\D.nx σ' H') hc ok hk hi hg ht he hs I h fun p C H' s' hm fC inv q=>?_) fun _ s' ⟨σ',H',I',q⟩=>wpAny_pure (wpAny_pure ⟨σ',H',I',q⟩))
 have inv0:Inv X pins σ H' s':=by
  have:=inv s'.heap ⟨rfl,fun _ _=>rfl⟩
  exact this
 obtain⟨m,hm⟩:=hm
 refine wpAny_assign_Name ?_
 refine jff_ (v:=.ref p) inv0 hN hx1 (.inl hx) rfl (fun s'' I'' ⟨a,sb,ha⟩=>?_) (.inr hx)
 have ne:C≠a:=by
  rcases ha with z | z
  ·rw[z];exact fC.2.1
  ·exact fun q=>fC.2.2.2.2.1 x a z q.symm
 refine⟨m,hm.sameBut sb ne,fun h' hs'=>⟨_,H',?_,q⟩⟩
 exact I''.turned (t':=s''.toks) (it:=C) (fun b o hb e=>(hs'.2 b hb).trans e) fC.1 fC.2.1 fC.2.2.2.1 fC.2.2.2.2.1 fC.2.2.2.2.2
end
end L2
namespace L2
open PySem PySem.Spec PyProof.Rows
inductive Dt where
 | non | bl (b:Bool) | int (i:Int) | str (x:Str) | tup (ds:List Dt) | lst (ds:List Dt)
mutual
def Is (H:Hp):V->Dt->Prop
 | v,.non=>v=.non
 | v,.bl b=>v=.bl b
 | v,.int i=>v=.int i
 | v,.str x=>v=.str x
 | v,.tup ds=>∃ a xs,v=.ref a/\H a=some (.tup xs)/\IsL H xs ds
 | v,.lst ds=>∃ a xs,v=.ref a/\H a=some (.lst xs)/\IsL H xs ds
def IsL (H:Hp):List V->List Dt->Prop
 | [],[]=>True
 | x::xs,d::ds=>Is H x d/\IsL H xs ds
 | _,_=>False
end
mutual
def dep:Dt->Nat
 | .tup ds=>depL ds+1
 | .lst ds=>depL ds+1
 | _=>0
def depL:List Dt->Nat
 | []=>0
 | d::ds=>max (dep d) (depL ds)
end
mutual
theorem Is.same {H H':Hp} (h:∀ b o,H b=some o->H' b=some o):∀{d:Dt} {v:V},Is H v d->Is H' v d
 | .non,_,k=>by simp only[Is] at k ⊢;exact k
 | .bl _,_,k=>by simp only[Is] at k ⊢;exact k
 | .int _,_,k=>by simp only[Is] at k ⊢;exact k
 | .str _,_,k=>by simp only[Is] at k ⊢;exact k
 | .tup ds,_,k=>by
  simp only[Is] at k ⊢
  obtain⟨a,xs,e,h1,h2⟩:=k
  exact⟨a,xs,e,h _ _ h1,IsL.same h h2⟩
 | .lst ds,_,k=>by
  simp only[Is] at k ⊢
  obtain⟨a,xs,e,h1,h2⟩:=k
  exact⟨a,xs,e,h _ _ h1,IsL.same h h2⟩
theorem IsL.same {H H':Hp} (h:∀ b o,H b=some o->H' b=some o):∀{ds:List Dt} {xs:List V},IsL H xs ds->IsL H' xs ds
 | [],[],_=>by simp only[IsL]
 | d::ds,x::xs,k=>by
  simp only[IsL] at k ⊢
  exact⟨Is.same h k.1,IsL.same h k.2⟩
 | [],_::_,k=>by simp only[IsL] at k
 | _::_,[],k=>by simp only[IsL] at k
end
theorem IsL.length {H:Hp}:∀{ds:List Dt} {xs:List V},IsL H xs ds->xs.length=ds.length
 | [],[],_=>rfl
 | d::ds,x::xs,k=>by
  simp only[IsL] at k
  simp only[pr_,IsL.length k.2]
 | [],_::_,k=>by simp only[IsL] at k
 | _::_,[],k=>by simp only[IsL] at k
theorem IsL.get {H:Hp}:∀{ds:List Dt} {xs:List V} {i:Nat},IsL H xs ds->i < ds.length->∃ x d,xs[i]?=some x/\ds[i]?=some d/\Is H x d
 | [],_,_,_,h=>by simp at h
 | d::ds,x::xs,0,k,_=>by
  simp only[IsL] at k
  exact⟨x,d,rfl,rfl,k.1⟩
 | d::ds,x::xs,i+1,k,h=>by
  simp only[IsL] at k
  obtain⟨y,e,h1,h2,h3⟩:=IsL.get (i:=i) k.2 (by simpa using h)
  exact⟨y,e,by simpa using h1,by simpa using h2,h3⟩
 | _::_,[],_,k,_=>by simp only[IsL] at k
theorem IsL.ints (H:Hp):∀ ns:List Int,IsL H (ns.map V.int) (ns.map Dt.int)
 | []=>by simp only[p8_,IsL]
 | n::ns=>by simp only[pj_,IsL,Is,true_and];exact IsL.ints H ns
mutual
def toP:Dt->PyData
 | .non=>.none
 | .bl b=>.bool b
 | .int i=>.int i
 | .str x=>.str x
 | .tup ds=>.tuple (toPs ds)
 | .lst ds=>.list (toPs ds)
def toPs:List Dt->List PyData
 | []=>[]
 | d::ds=>toP d::toPs ds
end
mutual
theorem Is.reads {P:Program} {w:World} {H:Hp} {h:Heap} (ok:HOk P w H h):∀{d:Dt} {v:V} {u:Value},Is H v d->RelV v u->∃ as,Reads h u (toP d) as
 | .non,_,_,k,r=>by simp only[Is] at k;subst k;cases r;exact⟨_,Reads.none⟩
 | .bl b,_,_,k,r=>by simp only[Is] at k;subst k;cases r;exact⟨_,Reads.bool b⟩
 | .int i,_,_,k,r=>by simp only[Is] at k;subst k;obtain⟨t,rfl⟩:=r;exact⟨_,Reads.int i t⟩
 | .str x,_,_,k,r=>by simp only[Is] at k;subst k;obtain⟨t,rfl⟩:=r;exact⟨_,Reads.str x t⟩
 | .tup ds,_,_,k,r=>by
  simp only[Is] at k
  obtain⟨a,xs,rfl,h1,h2⟩:=k
  cases r
  obtain⟨_,its,rv,o,ho,hc,n,hd⟩:=(show ObjOk P w H h a (.tup xs) from ok a _ h1)
  obtain⟨as,q⟩:=IsL.reads ok h2 rv
  exact⟨_,Reads.tuple ho hc hd (by simpa using q)⟩
 | .lst ds,_,_,k,r=>by
  simp only[Is] at k
  obtain⟨a,xs,rfl,h1,h2⟩:=k
  cases r
  obtain⟨_,its,n,rv,e⟩:=(show ObjOk P w H h a (.lst xs) from ok a _ h1)
  obtain⟨as,q⟩:=IsL.reads ok h2 rv
  exact⟨_,Reads.list e rfl rfl (by simpa using q)⟩
theorem IsL.reads {P:Program} {w:World} {H:Hp} {h:Heap} (ok:HOk P w H h):∀{ds:List Dt} {xs:List V} {us:List Value},IsL H xs ds->Vals xs us->∃ as,ReadsAll h us (toPs ds) as
 | [],[],_,_,.nil=>⟨_,ReadsAll.nil⟩
 | d::ds,x::xs,_,k,.cons r t=>by
  simp only[IsL] at k
  obtain⟨as,q⟩:=Is.reads ok k.1 r
  obtain⟨bs,q2⟩:=IsL.reads ok k.2 t
  exact⟨_,ReadsAll.cons q q2⟩
 | [],_::_,_,k,_=>by simp only[IsL] at k
 | _::_,[],_,k,_=>by simp only[IsL] at k
end
def okD (d:Dt):Prop:=SeqAt.shaped (toP d)=true
def eqD (d e:Dt):Bool:=PyData.eqv (toP d) (toP e)
theorem jed_ {d:Dt} (h:okD d):eqD d d=true:=SeqAt.eqv_refl _ (SeqAt.canLay_of_shaped h)
end L2
namespace L2
open PySem PySem.Spec PyProof.Rows
section
variable {X:Cx}
theorem OpR.imp {f:Value->Value->Sem Value} {r r':R2} (h:OpR X f r) (hi:∀ x y H Q,r' x y H Q->r x y H Q):OpR X f r':=fun pins s σ H x y v u Q I rx ry q=>h pins s σ H x y v u Q I rx ry (hi x y H Q q)
theorem CallR.imp {f:Value} {r r':List V->Hp->VK->Prop} (h:CallR X f r) (hi:∀ xs H Q,r' xs H Q->r xs H Q):CallR X f r':=fun pins s σ H xs us Q I rs q=>h pins s σ H xs us Q I rs (hi xs H Q q)
end
section
variable {X:Cx} {pins:List (Addr×Obj)} {σ:St} {H:Hp} {s:Shared} {Q:VK}
theorem endS {z:Str} {t:Tok} (I:Inv X pins σ H s) (q:Q (.str z) H):EP X pins σ Q (.str z t) s:=⟨.str z,H,I,⟨t,rfl⟩,q⟩
theorem endN {i:Int} {t:Tok} (I:Inv X pins σ H s) (q:Q (.int i) H):EP X pins σ Q (.int i t) s:=⟨.int i,H,I,⟨t,rfl⟩,q⟩
theorem endB {b:Bool} (I:Inv X pins σ H s) (q:Q (.bl b) H):EP X pins σ Q (.bool b) s:=⟨.bl b,H,I,rfl,q⟩
end
def lstR (H:Hp) (a:Addr):Option (List V):=match H a with
 | some (.lst xs)=>some xs
 | some (.frz _ (.lst xs))=>some xs
 | _=>none
def tupR (H:Hp) (a:Addr):Option (List V):=match H a with
 | some (.tup xs)=>some xs
 | _=>none
def seqR (H:Hp) (a:Addr):Option (List V):=match lstR H a with
 | some xs=>some xs
 | none=>tupR H a
theorem x5_ {H:Hp} {a:Addr} {xs:List V} (h:H a=some (.lst xs)):lstR H a=some xs:=by unfold lstR;rw[h]
theorem jvq_ {H:Hp} {a:Addr} {xs:List V} (h:H a=some (.tup xs)):tupR H a=some xs:=by unfold tupR;rw[h]
theorem jw_ {H:Hp} {a:Addr} {xs:List V} (h:H a=some (.lst xs)):seqR H a=some xs:=by unfold seqR;rw[x5_ h]
theorem jcq_ {H:Hp} {a:Addr} {xs:List V} (h:H a=some (.tup xs)):seqR H a=some xs:=by
 have e:lstR H a=none:=by unfold lstR;rw[h]
 unfold seqR;rw[e];exact jvq_ h
theorem jcc_ {K:pb_} {H:Hp} {a:Addr} {xs:List V} (h:lstR H a=some xs):SqL K H a xs:=by
 unfold lstR at h
 split at h
 ·rename_i e;cases h;exact .inl (.inl e)
 ·rename_i e;cases h;exact .inl (.inr ⟨_,e⟩)
 ·cases h
theorem jos_ {K:pb_} {H:Hp} {a:Addr} {xs:List V} (h:tupR H a=some xs):SqT K H a xs:=by
 unfold tupR at h
 split at h
 ·rename_i e;cases h;exact .inl (.inl e)
 ·cases h
theorem v0_ {K:pb_} {H:Hp} {a:Addr} {xs:List V} (h:seqR H a=some xs):SqL K H a xs∨SqT K H a xs:=by
 unfold seqR at h
 split at h
 ·rename_i e;cases h;exact .inl (jcc_ e)
 ·exact .inr (jos_ h)
def GetT (H:Hp) (xs:List V) (Q:VK):Prop:=∀ p H',H' p=some (.tup xs)->(∀ b o,H b=some o->H' b=some o)->Q (.ref p) H'
theorem GetT.new {H:Hp} {xs:List V} {Q:VK} (h:GetT H xs Q) {p:Addr} (hp:H p=none):Q (.ref p) (upd H p (.tup xs)) :=
 h p _ jb_ fun b o e=>by rw[jf_ (jg_ e hp)];exact e
theorem GetT.old {H:Hp} {xs:List V} {Q:VK} (h:GetT H xs Q) {p:Addr} (hp:H p=some (.tup xs)):Q (.ref p) H:=h p _ hp fun b o e=>e
def GetL (H:Hp) (xs:List V) (Q:VK):Prop:=∀ p,H p=none->Q (.ref p) (upd H p (.lst xs))
def fAdd:R2:=fun x y H Q=>match x,y with
 | .int i,.int j=>Q (.int (i+j)) H
 | .str i,.str j=>i.length+j.length<=sizeLine/\Q (.str (i++j)) H
 | .ref a,.ref b=>match H a,H b with
  | some (.lst xs),some (.lst ys)=>xs.length+ys.length<=sizeLine/\GetL H (xs++ys) Q
  | some (.tup xs),some (.tup ys)=>xs≠[]/\xs.length+ys.length<=sizeLine/\GetT H (xs++ys) Q
  | _,_=>False
 | _,_=>False
def fMul:R2:=fun x y H Q=>match x,y with
 | .int i,.int j=>CMul i j/\Q (.int (i * j)) H
 | .str z,.int n=>z.length * n.toNat<=1000000/\-(2 ^ 62) < n/\n < 2 ^ 62/\Q (.str (Txt.mul z n)) H
 | .ref a,.int k=>match H a with
  | some (.lst xs)=>-(2 ^ 63)<=k/\k < 2 ^ 63/\xs.length * k.toNat<=sizeLine/\GetL H (pv_ k.toNat xs).flatten Q
  | _=>False
 | _,_=>False
def fI (C:Int->Int->Prop) (g:Int->Int->V):R2:=fun x y H Q=>match x,y with
 | .int i,.int j=>C i j/\Q (g i j) H
 | _,_=>False
def fI0 (g:Int->Int->V):R2:=fun x y H Q=>match x,y with
 | .int i,.int j=>Q (g i j) H
 | _,_=>False
theorem uu_ {g:Int->Int->V}:∀ x y H Q,fI0 g x y H Q->rI0 g x y H Q:=fun x y H Q h=>by
 unfold fI0 at h
 split at h
 ·exact⟨_,_,rfl,rfl,h⟩
 ·exact h.elim
theorem jsb_ {C:Int->Int->Prop} {g:Int->Int->V}:∀ x y H Q,fI C g x y H Q->rI C g x y H Q:=fun x y H Q h=>by
 unfold fI at h
 split at h
 ·exact⟨_,_,rfl,rfl,h.1,h.2⟩
 ·exact h.elim
section
variable {X:Cx}
theorem jx_:OpR X (binaryOp .Add) fAdd:=by
 intro pins s σ H x y v u Q I rx ry h
 unfold fAdd at h
 split at h
 ·exact op_add pins s σ H _ _ v u Q I rx ry ⟨_,_,rfl,rfl,h⟩
 ·exact jmj_ pins s σ H _ _ v u Q I rx ry ⟨_,_,rfl,rfl,h.1,h.2⟩
 ·split at h
  ·rename_i h1 h2
   exact zaf_ pins s σ H _ _ v u Q I rx ry ⟨_,_,_,_,rfl,rfl,h1,h2,h.1,h.2⟩
  ·rename_i xs ys h1 h2
   refine jwz_ pins s σ H _ _ v u Q I rx ry ⟨_,_,_,_,rfl,rfl,SqT.of h1,SqT.of h2,h.1,h.2.1,fun e=>?_,fun _ p hp=>h.2.2.new hp⟩
   subst e
   have:=h.2.2
   rw[py_] at this
   exact this.old h1
  ·exact h.elim
 ·exact h.elim
theorem vl_:OpR X (binaryOp .Sub) (fI0 fun i j=>.int (i - j)):=op_sub.imp uu_
theorem jsh_:OpR X (binaryOp .FloorDiv) (fI CDiv fun i j=>.int (i / j)):=op_fdiv.imp jsb_
theorem vq_:OpR X (binaryOp .Mod) (fI (fun _ j=>0 < j) fun i j=>.int (i % j)):=op_mod.imp jsb_
theorem o_pow:OpR X (binaryOp .Pow) (fI CPow fun i j=>.int (i ^ j.toNat)):=op_pow.imp jsb_
theorem jry_ {z:Str} {n:Int} (h:z.length * n.toNat<=1000000) (h1:-(2 ^ 62) < n) (h2:n < 2 ^ 62):MulOk z n:=by
 have e1:((2:Int) ^ 62)=4611686018427387904:=by decide
 have e2:((2:Int) ^ 63)=9223372036854775808:=by decide
 rw[e1] at h1 h2
 refine⟨?_,fun hn _=>?_,fun hn _=>?_⟩
 ·rw[e2];simp only[Bool.or_eq_false_iff,decide_eq_false_iff_not];omega
 ·have hp:0 < n:=by omega
  have hz:(z.length:Int)<=1000000:=by
   have:z.length * 1<=z.length * n.toNat:=Nat.mul_le_mul_left _ (by omega)
   omega
  have e3:((2:Int) ^ 63 - 1)=9223372036854775807:=by decide
  rw[e3]
  intro hgt
  have h3:(9223372036854775807:Int) / n < z.length:=hgt
  have h4:(9223372036854775807:Int) < z.length * n:=by
   have:=Int.lt_mul_of_ediv_lt hp h3
   exact this
  have h5:(z.length:Int) * n<=1000000:=by
   have e:((z.length * n.toNat:Nat):Int)=(z.length:Int) * n:=by
    rw[Int.natCast_mul];congr 1;omega
   omega
  omega
 ·unfold Builtin.Str.tooLong sizeLine
  have e4:(2:Nat) ^ 24=16777216:=by decide
  exact decide_eq_false (by omega)
theorem ux_:OpR X (binaryOp .Mult) fMul:=by
 intro pins s σ H x y v u Q I rx ry h
 unfold fMul at h
 split at h
 ·exact op_mul pins s σ H _ _ v u Q I rx ry ⟨_,_,rfl,rfl,h.1,h.2⟩
 ·obtain⟨h1,h2,h3,q⟩:=h
  obtain⟨t,rfl⟩:=rx
  obtain⟨t',rfl⟩:=ry
  exact SB.mul (jry_ h1 h2 h3) fun t' k=>endS (I.tok _) q
 ·split at h
  ·rename_i h1
   exact zag_ pins s σ H _ _ v u Q I rx ry ⟨_,_,_,rfl,rfl,h1,h.1,h.2.1,h.2.2.1,h.2.2.2⟩
  ·exact h.elim
 ·exact h.elim
theorem o_lt:OpR X (compareOp .Lt) (fI0 fun i j=>.bl (decide (i < j))):=op_lt.imp uu_
theorem o_le:OpR X (compareOp .LtE) (fI0 fun i j=>.bl (decide (i<=j))):=op_le.imp uu_
theorem o_gt:OpR X (compareOp .Gt) (fI0 fun i j=>.bl (decide (j < i))):=op_gt.imp uu_
theorem o_ge:OpR X (compareOp .GtE) (fI0 fun i j=>.bl (decide (j<=i))):=op_ge.imp uu_
def fEq:R2:=fun x y H Q=>(scal x y=true/\Q (.bl (decide (x=y))) H)∨∃ d e,Is H x d/\Is H y e/\okD d/\okD e/\Q (.bl (eqD d e)) H
def fNe:R2:=fun x y H Q=>(scal x y=true/\Q (.bl (!decide (x=y))) H)∨∃ d e,Is H x d/\Is H y e/\okD d/\okD e/\Q (.bl (!eqD d e)) H
def fIs:R2:=fun x y H Q=>y=.non/\Q (.bl (decide (x=.non))) H
def jty_:R2:=fun x y H Q=>y=.non/\Q (.bl (!decide (x=.non))) H
theorem o_eq (hu:X.A.units+64 < cLine):OpR X (compareOp .Eq) fEq:=by
 intro pins s σ H x y v u Q I rx ry h
 rcases h with h | ⟨d,e,h1,h2,h3,h4,q⟩
 ·exact op_eq pins s σ H x y v u Q I rx ry h
 ·obtain⟨as,r1⟩:=Is.reads I.hok h1 rx
  obtain⟨bs,r2⟩:=Is.reads I.hok h2 ry
  exact eq_dataH r1 r2 h3 h4 hu (endB I q)
theorem o_ne (hu:X.A.units+64 < cLine):OpR X (compareOp .NotEq) fNe:=by
 intro pins s σ H x y v u Q I rx ry h
 rcases h with h | ⟨d,e,h1,h2,h3,h4,q⟩
 ·exact op_ne pins s σ H x y v u Q I rx ry h
 ·obtain⟨as,r1⟩:=Is.reads I.hok h1 rx
  obtain⟨bs,r2⟩:=Is.reads I.hok h2 ry
  exact ne_dataH r1 r2 h3 h4 hu (endB I q)
theorem o_is:OpR X (compareOp .Is) fIs:=op_isN
theorem jxw_:OpR X (compareOp .IsNot) jty_:=jws_
def fIn (neg:Bool):R2:=fun x y H Q=>match x,y with
 | .str i,.str j=>Q (.bl (xor neg (sx_ j i))) H
 | x,.ref p=>match seqR H p with
  | some xs=>xr_ x=true/\xs.all xr_=true/\Q (.bl (if neg then !inV x xs else inV x xs)) H
  | none=>False
 | _,_=>False
theorem o_in:OpR X (compareOp .In) (fIn false):=by
 intro pins s σ H x y v u Q I rx ry h
 unfold fIn at h
 split at h
 ·refine jpc_ pins s σ H _ _ v u Q I rx ry ⟨_,_,rfl,rfl,?_⟩
  simpa [sx_] using h
 ·split at h
  ·rename_i e
   exact jet_ pins s σ H _ _ v u Q I rx ry ⟨_,_,rfl,v0_ e,h.1,h.2.1,h.2.2⟩
  ·exact h.elim
 ·exact h.elim
theorem jxq_:OpR X (compareOp .NotIn) (fIn true):=by
 intro pins s σ H x y v u Q I rx ry h
 unfold fIn at h
 split at h
 ·refine jgu_ pins s σ H _ _ v u Q I rx ry ⟨_,_,rfl,rfl,?_⟩
  simpa [sx_] using h
 ·split at h
  ·rename_i e
   exact jhl_ pins s σ H _ _ v u Q I rx ry ⟨_,_,rfl,v0_ e,h.1,h.2.1,h.2.2⟩
  ·exact h.elim
 ·exact h.elim
def fNeg:V->Hp->VK->Prop:=fun x H Q=>match x with
 | .int i=>Q (.int (-i)) H
 | _=>False
theorem uj_:UnR X (unaryOp .USub) fNeg:=fun pins s σ H x v Q I rx h=>by
 unfold fNeg at h
 split at h
 ·exact zae_ pins s σ H _ v Q I rx ⟨_,rfl,h⟩
 ·exact h.elim
def fIx (K:pb_):R2:=fun x y H Q=>match x,y with
 | .ref p,.int i=>∃ xs v,(SqL K H p xs∨SqT K H p xs)/\atI xs i=some v/\Q v H
 | .str z,.int i=>z.length<=sizeLine/\(match atI z.cps.toList i with | some c=>Q (.str ⟨#[c]⟩) H | none=>False)
 | _,_=>False
theorem jo_ {K:pb_} (hK:X.K=K:=by rfl):IxR X (fIx K):=by
 subst hK
 intro value slice pins s σ H x y v u Q I rx ry h hs
 unfold fIx at h
 split at h
 ·obtain⟨xs,w',e,e',h⟩:=h
  rcases e with q | q
  ·exact jwm_ value slice pins s σ H _ _ v u Q I rx ry ⟨_,_,_,_,rfl,rfl,q,e',h⟩ hs
  ·exact ix_tup value slice pins s σ H _ _ v u Q I rx ry ⟨_,_,_,_,rfl,rfl,q,e',h⟩ hs
 ·obtain⟨hz,h⟩:=h
  split at h
  ·rename_i c e
   exact ix_str value slice pins s σ H _ _ v u Q I rx ry ⟨_,_,_,rfl,rfl,hz,e,h⟩ hs
  ·exact h.elim
 ·exact h.elim
def fSl (K:pb_):V->Option Int->Option Int->Hp->VK->Prop:=fun x lo hi H Q=>match x with
 | .str z=>z.length<=sizeLine/\Q (.str (lr_ z lo hi)) H
 | .ref a=>(∃ xs,SqL K H a xs/\GetL H (cutV xs lo hi) Q) ∨
  (∃ xs,SqT K H a xs/\¬ (HT.sIx xs.length 0 lo=0/\HT.sIx xs.length xs.length hi=xs.length)/\GetT H (cutV xs lo hi) Q)
 | _=>False
theorem zab_:SlR X (fun x lo hi H Q=>∃ z,x=.str z/\z.length<=sizeLine/\Q (.str (lr_ z lo hi)) H):=by
 intro pins s σ H x v vl vu lo hi sl Q I rx hs pl pu h
 obtain⟨z,rfl,hz,q⟩:=h
 obtain⟨t,rfl⟩:=rx
 refine⟨"str",_,PySem.F.slot_str_getitem.lookup,typeIs_str _ _ _,?_⟩
 have fin:∀(l u:Option (Int×Tok)),l.map (·.1)=lo->u.map (·.1)=hi->s.heap.IsSlice sl l u none->wpAny (model X.prog X.w) X.A (getItem (.str z t) (.ref sl)) (EP X pins σ Q) X.xe s:=fun l u el eu hs'=>by
  subst el eu
  refine wpAny_getItem_str_slice hs' rfl ?_
  have q':∀ t' k,EP X pins σ Q (.str (lr_ z (l.map (·.1)) (u.map (·.1))) t') { s with toks:=k }:=fun t' k=>endS (I.tok _) q
  exact post_val_or_str ⟨qg_ (Txt.slice_le z _ _) hz,fun t' k=>q' t' k⟩
 cases pl with
 | none =>
  cases pu with
  | none=>exact fin none none rfl rfl hs
  | int j u=>exact fin none (some (j,u)) rfl rfl hs
 | int i t' =>
  cases pu with
  | none=>exact fin (some (i,t')) none rfl rfl hs
  | int j u=>exact fin (some (i,t')) (some (j,u)) rfl rfl hs
theorem zc_ {K:pb_} (hK:X.K=K:=by rfl):SlR X (fSl K):=by
 subst hK
 intro pins s σ H x v vl vu lo hi sl Q I rx hs pl pu h
 unfold fSl at h
 split at h
 ·exact zab_ pins s σ H _ v vl vu lo hi sl Q I rx hs pl pu ⟨_,rfl,h.1,h.2⟩
 ·rcases h with ⟨xs,e,h⟩ | ⟨xs,e,h⟩
  ·exact jwf_ pins s σ H _ v vl vu lo hi sl Q I rx hs pl pu ⟨_,_,rfl,e,h⟩
  ·exact sl_tup pins s σ H _ v vl vu lo hi sl Q I rx hs pl pu ⟨_,_,rfl,e,h.1,fun p hp=>h.2.new hp⟩
 ·exact h.elim
def fLen (K:pb_):List V->Hp->VK->Prop:=fun xs H Q=>match xs with
 | [.str z]=>z.length<=sizeLine/\Q (.int z.length) H
 | [.ref p]=>∃ ys,(SqL K H p ys∨SqT K H p ys)/\Q (.int ys.length) H
 | _=>False
theorem zo_ {K:pb_} (hK:X.K=K:=by rfl):CallR X (.builtin "len") (fLen K):=by
 subst hK
 intro pins s σ H xs us Q I r h
 unfold fLen at h
 split at h
 ·exact jia_ pins s σ H _ us Q I r ⟨_,rfl,h.1,h.2⟩
 ·obtain⟨ys,e,h⟩:=h
  exact jhw_ pins s σ H _ us Q I r ⟨_,_,rfl,e,h⟩
 ·exact h.elim
def f1I (g:Int->V):List V->Hp->VK->Prop:=fun xs H Q=>match xs with
 | [.int i]=>Q (g i) H
 | _=>False
def f2I (g:Int->Int->V):List V->Hp->VK->Prop:=fun xs H Q=>match xs with
 | [.int i,.int j]=>Q (g i j) H
 | _=>False
theorem c_abs:CallR X (.builtin "abs") (f1I fun i=>.int (if i < 0 then -i else i)):=call_abs.imp fun xs H Q h=>by
 unfold f1I at h
 split at h
 ·exact⟨_,rfl,h⟩
 ·exact h.elim
theorem jyk_ (hc:X.calm=true):CallR X (.builtin "max") (f2I fun i j=>.int (if j > i then j else i)):=(jpp_ hc).imp fun xs H Q h=>by
 unfold f2I at h
 split at h
 ·exact⟨_,_,rfl,h⟩
 ·exact h.elim
def jrs_:List V->Hp->VK->Prop:=fun xs H Q=>match xs with
 | [.ref p]=>(match seqR H p with | some ys=>GetL H ys Q | none=>False)
 | _=>False
theorem c_list:CallR X (.type "list") jrs_:=call_list_of.imp fun xs H Q h=>by
 unfold jrs_ at h
 split at h
 ·split at h
  ·rename_i e;exact⟨_,_,rfl,v0_ e,h⟩
  ·exact h.elim
 ·exact h.elim
def jmi_:List V->Hp->VK->Prop:=fun xs H Q=>match xs with
 | [.ref p]=>(match seqR H p with | some ys=>GetT H ys Q | none=>False)
 | _=>False
theorem jrx_ {H:Hp} {p:Addr} {ys:List V} (h:tupR H p=some ys):H p=some (.tup ys):=by
 unfold tupR at h
 split at h
 ·rename_i e;cases h;exact e
 ·cases h
theorem uq_:CallR X (.type "tuple") jmi_:=call_tuple_of.imp fun xs H Q h=>by
 unfold jmi_ at h
 split at h
 ·split at h
  ·rename_i ys e
   refine⟨_,ys,rfl,?_⟩
   unfold seqR at e
   split at e
   ·rename_i e';cases e
    exact .inl ⟨jcc_ e',fun l hl=>h.new hl⟩
   ·exact .inr ⟨jos_ e,h.old (jrx_ e)⟩
  ·exact h.elim
 ·exact h.elim
def fTru (x:V) (H:Hp) (Q:Bool->Hp->Prop):Prop:=match x with
 | .non=>Q false H
 | .bl b=>Q b H
 | .int i=>Q (i != 0) H
 | .str z=>z.length<=sizeLine/\Q ((z.length:Int) != 0) H
 | .ref p=>(match seqR H p with | some xs=>Q (!xs.isEmpty) H | none=>False)
 | _=>False
theorem x0_ {a:Expr} {ta:TE} (ha:PE X a ta) (he:∀ whole,isTrue a X.env whole=(do let v <- whole;standAt a.pos;holding [v] (truthy v))) :
  PT X a (fun σ H Q=>ta σ H fun x H'=>fTru x H' Q):=by
 intro pins s σ H Q I h
 show wpAny _ _ (isTrue a X.env (eval a X.env)) _ _ _
 rw[he]
 refine wpAny_bind (thn (ha pins s σ H _ I h) fun v s1 ⟨x,H1,I1,r1,q1⟩=>wpAny_bind (wpAny_standAt (wpAny_holding ?_)))
 refine tru_ok pins s1 σ H1 x v Q I1 r1 ?_
 have q1:fTru x H1 Q:=q1
 unfold fTru at q1
 split at q1
 ·exact⟨_,rfl,q1⟩
 ·exact⟨_,rfl,q1⟩
 ·exact⟨_,rfl,q1⟩
 ·exact⟨_,⟨q1.1,rfl⟩,q1.2⟩
 ·split at q1
  ·rename_i xs e
   refine⟨_,?_,q1⟩
   rcases v0_ (K:=X.K) e with z | z
   ·exact .inl ⟨_,z,rfl⟩
   ·exact .inr (.inl ⟨_,z,rfl⟩)
  ·exact q1.elim
 ·exact q1.elim
def jhr_:V->List V->Hp->VK->Prop:=fun x vs H Q=>match x,vs with
 | .ref l,[y]=>(match H l with | some (.lst xs)=>xs.length < sizeLine/\Q .non (upd H l (.lst (xs++[y]))) | _=>False)
 | _,_=>False
theorem zh_:MtR X "list.append" jhr_:=fun pins s σ H x xs v us Q I rx rs h=>by
 unfold jhr_ at h
 split at h
 ·split at h
  ·rename_i e
   exact jfj_ pins s σ H _ _ v us Q I rx rs ⟨_,_,_,rfl,rfl,e,h.1,h.2⟩
  ·exact h.elim
 ·exact h.elim
theorem jdh_:∀{ys:List Str} {us:List Value},Vals (ys.map V.str) us->StrsAre us ys
 | [],_,.nil=>.nil
 | y::ys,_,.cons r t=>by
  obtain⟨k,rfl⟩:=r
  exact .cons y k (jdh_ t)
def strs?:List V->Option (List Str)
 | []=>some []
 | .str z::r=>(strs? r).map (z::·)
 | _=>none
theorem strs?_map:∀ ys:List Str,strs? (ys.map V.str)=some ys
 | []=>rfl
 | y::ys=>by simp only[pj_,strs?,strs?_map ys,rf_]
theorem strs?_of:∀{xs:List V} {ys:List Str},strs? xs=some ys->xs=ys.map V.str
 | [],_,h=>by cases h;rfl
 | .str z::r,ys,h=>by
  simp only[strs?] at h
  cases e:strs? r with
  | none=>rw[e] at h;cases h
  | some q=>rw[e] at h;cases h;rw[strs?_of e];rfl
 | .non::_,_,h=>by cases h
 | .bl _::_,_,h=>by cases h
 | .int _::_,_,h=>by cases h
 | .byt _::_,_,h=>by cases h
 | .flt _::_,_,h=>by cases h
 | .ref _::_,_,h=>by cases h
 | .ty _::_,_,h=>by cases h
def jod_:V->List V->Hp->VK->Prop:=fun x vs H Q=>match x,vs with
 | .str z,[.ref p]=>(match lstR H p with
  | some xs=>(match strs? xs with
   | some ys=>(ys.map (·.length)).sum+ys.length * z.length<=16777216/\Q (.str (te_ z ys)) H
   | none=>False)
  | none=>False)
 | _,_=>False
theorem jgw_:MtR X "str.join" jod_:=fun pins s σ H x xs v us Q I rx rs h=>by
 unfold jod_ at h
 split at h
 ·rename_i z p
  split at h
  ·rename_i ws e
   split at h
   ·rename_i ys e2
    obtain⟨t,rfl⟩:=rx
    obtain⟨u,rfl,ru⟩:=ve_ rs
    cases ru
    obtain⟨its,r',pl,hz⟩:=I.list (jcc_ e)
    rw[strs?_of e2] at r'
    exact join_list pl.isList (jdh_ (by simpa using r')) h.1 fun t' k=>endS (I.tok _) h.2
   ·exact h.elim
  ·exact h.elim
 ·exact h.elim
def fSS (g:Str->Str->V):V->List V->Hp->VK->Prop:=fun x vs H Q=>match x,vs with
 | .str z,[.str y]=>Q (g z y) H
 | _,_=>False
def fSSI (g:Str->Str->Int->V):V->List V->Hp->VK->Prop:=fun x vs H Q=>match x,vs with
 | .str z,[.str y,.int i]=>Q (g z y i) H
 | _,_=>False
theorem xm_:MtR X "str.startswith" (fSS fun z y=>.bl (ld_ z y)):=fun pins s σ H x xs v us Q I rx rs h=>by
 unfold fSS at h
 split at h
 ·obtain⟨t,rfl⟩:=rx
  obtain⟨u,rfl,t',rfl⟩:=ve_ rs
  exact SC.startswith (endB I h)
 ·exact h.elim
theorem jwh_:MtR X "str.find" (fSS fun z y=>.int (Txt.find z y)):=fun pins s σ H x xs v us Q I rx rs h=>by
 unfold fSS at h
 split at h
 ·obtain⟨t,rfl⟩:=rx
  obtain⟨u,rfl,t',rfl⟩:=ve_ rs
  exact SC.find (endN (I.tok _) h)
 ·exact h.elim
theorem jxi_:MtR X "str.find" (fSSI fun z y i=>.int (Txt.find3 z y i)):=fun pins s σ H x xs v us Q I rx rs h=>by
 unfold fSSI at h
 split at h
 ·obtain⟨t,rfl⟩:=rx
  obtain⟨u,w',rfl,⟨t',rfl⟩,⟨t'',rfl⟩⟩:=jrp_ rs
  exact SC.find3 (endN (I.tok _) h)
 ·exact h.elim
theorem jej_:MtR X "str.startswith" (fSSI fun z y i=>.bl (ku_ z y i)):=fun pins s σ H x xs v us Q I rx rs h=>by
 unfold fSSI at h
 split at h
 ·obtain⟨t,rfl⟩:=rx
  obtain⟨u,w',rfl,⟨t',rfl⟩,⟨t'',rfl⟩⟩:=jrp_ rs
  exact SC.startswith3 (endB I h)
 ·exact h.elim
end
end L2
namespace L2
open PySem PySem.Spec PyProof.Rows
def tyN (H:Hp):V->Option String
 | .non=>some "NoneType"
 | .bl _=>some "bool"
 | .int _=>some "int"
 | .str _=>some "str"
 | .ref a=>match H a with
  | some (.lst _)=>some "list"
  | some (.frz _ (.lst _))=>some "list"
  | some (.tup _)=>some "tuple"
  | _=>none
 | _=>none
def subB (t T:String):Bool:=t == T || (t == "bool"&&T == "int")
def tys?:List V->Option (List String)
 | []=>some []
 | .ty T::r=>(tys? r).map (T::·)
 | _=>none
def jrf_ (T:String):Bool:=["bool","int","str","list","tuple"].contains T
def fIsi:List V->Hp->VK->Prop:=fun xs H Q=>match xs with
 | [x,.ty T]=>(match tyN H x with
  | some t=>jrf_ T=true/\Q (.bl (subB t T)) H
  | none=>False)
 | [x,.ref p]=>(match tyN H x,tupR H p with
  | some t,some ts=>(match tys? ts with
   | some Ts=>Ts.all jrf_=true/\Q (.bl (Ts.any (subB t))) H
   | none=>False)
  | _,_=>False)
 | _=>False
section
variable {X:Cx}
def bls?:List V->Option (List Bool)
 | []=>some []
 | .bl b::r=>(bls? r).map (b::·)
 | _=>none
theorem bls?_map:∀ bs:List Bool,bls? (bs.map V.bl)=some bs
 | []=>rfl
 | b::bs=>by simp only[pj_,bls?,bls?_map bs,rf_]
theorem bls?_of:∀{xs:List V} {bs:List Bool},bls? xs=some bs->xs=bs.map V.bl
 | [],_,h=>by cases h;rfl
 | .bl z::r,ys,h=>by
  simp only[bls?] at h
  cases e:bls? r with
  | none=>rw[e] at h;cases h
  | some q=>rw[e] at h;cases h;rw[bls?_of e];rfl
 | .non::_,_,h=>by cases h
 | .str _::_,_,h=>by cases h
 | .int _::_,_,h=>by cases h
 | .byt _::_,_,h=>by cases h
 | .flt _::_,_,h=>by cases h
 | .ref _::_,_,h=>by cases h
 | .ty _::_,_,h=>by cases h
def fAll (f:List Bool->Bool):List V->Hp->VK->Prop:=fun xs H Q=>match xs with
 | [.ref p]=>(match lstR H p with
  | some ys=>(match bls? ys with | some bs=>Q (.bl (f bs)) H | none=>False)
  | none=>False)
 | _=>False
theorem jqp_ (bs:List Bool):(q7_ bs.length).all (fun i=>bs.getD i true)=bs.all id:=by
 rw[tl_,r5_,r5_]
 constructor
 ·intro h b hb
  obtain⟨i,hi,rfl⟩:=k7_.mp hb
  have:=h i (wv_.mpr hi)
  simpa [pe_,hi] using this
 ·intro h i hi
  have hi':=wv_.mp hi
  have:=h bs[i] (pw_ hi')
  simpa [pe_,hi'] using this
theorem c_all (hc:X.calm=true):CallR X (.builtin "all") (fAll fun bs=>bs.all id):=by
 intro pins s σ H xs us Q I r h
 unfold fAll at h
 split at h
 ·rename_i p
  split at h
  ·rename_i ys e
   split at h
   ·rename_i bs eb
    obtain⟨u,rfl,ru⟩:=ve_ r
    cases ru
    obtain⟨its,rv,pl,hz⟩:=I.list (jcc_ e)
    rw[bls?_of eb] at rv
    have hlen:=rv.length
    rw[pc_] at hlen
    have hlt:p < s.heap.objs.size:=by obtain⟨o,ho,_⟩:=pl.isList;exact pu_ ho
    refine call_all_walk (wpAny_pyIter_list pl.isList ?_)
    refine⟨s.heap.objs.size,_,_,_,_,_,(fun i=>bs.getD i true),rfl,Walks.list (A:=X.A.in1) (show X.A.in1.handled=none from I.ok.hd hc) s.heap.objs.size p (p3_ hlt) its.toArray,⟨⟨_,pq_ _ rfl,rfl,rfl⟩,?_⟩,fun i v s' Q' E' hv hq=>?_,fun h' tk k=>?_⟩
    ·obtain⟨o,ho,q⟩:=pl.isList
     exact⟨o,pf_ _ ho,q⟩
    ·have hv':its[i]?=some v:=by simpa using hv
     have hil:i < its.length:=(pl_.mp hv').1
     obtain⟨w',hw,rw'⟩:=rv.get (i:=i) (x:=V.bl (bs.getD i true)) (by rw[pm_];simp[pe_,show i < bs.length by omega])
     rw[hv'] at hw
     cases hw
     cases rw'
     exact wpAny_truthy_bool hq
    ·have e2:(q7_ its.toArray.size).all (fun i=>bs.getD i true)=bs.all id:=by rw[pp_,<- hlen];exact jqp_ bs
     rw[e2]
     have I1:Inv X pins σ H { s with heap:=s.heap.push { cls:=.type "list_iterator",data:=.fields #[.ref p,.int 0 0] },toks:=s.toks }:=I.kept fun b u q=>pf_ _ q
     have f1:=I.fpOk (H':=H) (b:=s.heap.objs.size) (pg_ _) (I.hok.fresh (pg_ _))
     exact endB (I1.turned (t':=tk) (it:=s.heap.objs.size) (fun b o hb q=>k b o (by simpa using hb) q) f1.1 f1.2.1 f1.2.2.2.1 f1.2.2.2.2.1 f1.2.2.2.2.2) h
   ·exact h.elim
  ·exact h.elim
 ·exact h.elim
end
def Its (xs:List V):It:=⟨fun i _=>i < xs.length,fun i H x H'=>H'=H/\xs[i]?=some x,fun i _=>i=xs.length⟩
def chs (z:Str):List V:=z.cps.toList.map fun c=>V.str ⟨#[c]⟩
theorem ua_ (z:Str):(chs z).length=z.length:=by unfold chs;rw[pc_];rfl
theorem jct_ {P:Program} {w:World} {K:pb_} {tg:Expr} {it:Addr} {n:Nat} {Pv:Nat->Value->Prop} {St:Nat->Heap->Prop} {xs:List V}
  (hW:∀ A:Around,A.handled=none->Walks P w A it [it] [it] n Pv St) (hn:xs.length=n) (hx:∀ i u,Pv i u->∃ x,xs[i]?=some x/\RelV x u)
  (hobj:∀ i h,St i h->∃ o ty vs,h.get? it=some o/\o.cls=.type ty/\o.data=.fields vs/\["enumerate","zip","dict_itemiterator","dict_reverseitemiterator","odict_iterator","itertools.zip_longest","itertools.pairwise"].contains ty=false)
  (hself:∀(A:Around) (i:Nat) (s:Shared) (Q:Value->Shared->Prop) (E:Value->Shared->Prop),St i s.heap->Q (.ref it) s->wpAny (model P w) A (pyIter (.ref it)) Q E s) :
  Turn P w K tg (Its xs) [it] it St where
 mem:=by simp
 obj:=fun i h st b hb=>by
  have e:b=it:=by simpa using hb
  subst e
  obtain⟨o,ty,vs,ho,_,hd,_⟩:=hobj i h st
  exact⟨o,ho,fun v z=>by rw[hd] at z;cases z⟩
 keep:=fun i h h' st k=>(hW {} rfl).frame i h h' st k
 item:=by
  intro X hP hw hK hc i pins s σ H E I hf st hg
  subst hP hw hK
  obtain⟨f0,f1,f2,f3,f4,f5⟩:=hf it (by simp)
  have hlt:i < n:=by rw[<- hn];exact hg
  refine(hW X.A (I.ok.hd hc)).item i s _ E hlt st fun v h' tk pv st' k=>?_
  obtain⟨x,ex,rx⟩:=hx i v pv
  have I1:Inv X pins σ H { s with heap:=h',toks:=tk }:=I.turned (fun b o hb e=>k b o (by simpa using hb) e) f0 f1 f3 f4 f5
  obtain⟨o,ty,vs,ho,hcl,hd,hnn⟩:=hobj _ _ st'
  exact⟨v,rfl,jfn_ (s:={ s with heap:=h',toks:=tk }) ho hcl hd hnn ⟨x,H,I1,rx,⟨rfl,ex⟩,st',fun b hb=>(hf b hb).1⟩⟩
 done:=by
  intro X hP hw hK hc i pins s σ H E I hf st hg
  subst hP hw hK
  obtain⟨f0,f1,f2,f3,f4,f5⟩:=hf it (by simp)
  have e:i=n:=by rw[<- hn];exact hg
  subst e
  exact(hW X.A (I.ok.hd hc)).done s _ E st fun h' tk k=>⟨rfl,I.turned (fun b o hb e=>k b o (by simpa using hb) e) f0 f1 f3 f4 f5⟩
 self:=hself
section
variable {X:Cx} {tg:Expr}
def jfy_ (K:pb_) (R:It->Hp->Prop):V->Hp->Prop:=fun x H1=>match x with
 | .str z=>R (Its (chs z)) H1
 | .ref a=>(∃ xs,SqL K H1 a xs/\R (Itl K a) H1)∨(∃ xs,SqT K H1 a xs/\R (Itt K a) H1)
 | _=>False
def iAny (K:pb_) (te:TE):TI:=fun σ H R=>te σ H (jfy_ K R)
theorem jii_ {z:Str} {i:Nat} {u:Value} (h:SignAt z i u):∃ x,(chs z)[i]?=some x/\RelV x u:=by
 obtain⟨c,k,hc,rfl⟩:=h
 refine⟨.str ⟨#[c]⟩,?_,⟨k,rfl⟩⟩
 unfold chs
 rw[pm_,kv_,hc]
 rfl
theorem zt_ {K:pb_} {l:Expr} {tl:TE} (hl:PE X l tl) (hK:X.K=K:=by rfl):PI X tg l (iAny K tl):=by
 subst hK
 intro pins s σ H R I h
 refine thn (hl pins s σ H _ I h) fun v s1 ⟨x,H1,I1,r1,q1⟩=>?_
 have fresh1:∀ b∈[s1.heap.objs.size],FpOk X pins H1 b:=fun b hb=>by
  have e:b=s1.heap.objs.size:=by simpa using hb
  subst e
  exact I1.fpOk (pg_ _) (I1.hok.fresh (pg_ _))
 have kept1:∀ ob:Obj,Inv X pins σ H1 { s1 with heap:=s1.heap.push ob }:=fun ob=>I1.kept (t':=s1.toks) fun b o e=>pf_ _ e
 unfold jfy_ at q1
 split at q1
 ·rename_i z
  obtain⟨t,rfl⟩:=r1
  have hlen:(chs z).length=z.cps.size:=by unfold chs;simp
  cases ha:z.cps.all (· < 128)
  ·refine wpAny_pyIter_wide ha ⟨s1.heap.objs.size,[s1.heap.objs.size],_,_,H1,rfl,kept1 _,jct_ (fun A hA=>Walks.strWide hA s1.heap.objs.size z t) hlen (fun i u hu=>jii_ hu) ?_ (fun A i s Q E st q=>wpAny_pyIter_striter_wide st q),⟨_,pq_ _ rfl,rfl,rfl⟩,fresh1,q1⟩
   intro i h st
   obtain⟨o,ho,hc,hd⟩:=st
   exact⟨o,_,_,ho,hc,hd,by decide⟩
  ·refine wpAny_pyIter_ascii ha ⟨s1.heap.objs.size,[s1.heap.objs.size],_,_,H1,rfl,kept1 _,jct_ (fun A hA=>Walks.strAscii hA s1.heap.objs.size z t) hlen (fun i u hu=>jii_ hu) ?_ (fun A i s Q E st q=>wpAny_pyIter_striter_ascii st q),⟨_,pq_ _ rfl,rfl,rfl⟩,fresh1,q1⟩
   intro i h st
   obtain⟨o,ho,hc,hd⟩:=st
   exact⟨o,_,_,ho,hc,hd,by decide⟩
 ·rename_i a
  cases r1
  rcases q1 with ⟨xs,e,q1⟩ | ⟨xs,e,q1⟩
  ·obtain⟨its,rv,p,hz⟩:=I1.list e
   exact wpAny_pyIter_list p.isList ⟨s1.heap.objs.size,[s1.heap.objs.size],_,_,H1,rfl,kept1 _,jpm_ a _,⟨_,pq_ _ rfl,rfl,rfl⟩,fresh1,q1⟩
  ·obtain⟨its,rv,p,hz⟩:=I1.tuple e
   exact wpAny_pyIter_tuple (show s1.heap.IsTuple a its.toArray from p) ⟨s1.heap.objs.size,[s1.heap.objs.size],_,_,H1,rfl,kept1 _,jma_ a _,⟨_,pq_ _ rfl,rfl,rfl⟩,fresh1,q1⟩
 ·exact q1.elim
end
theorem jca_ {J:It} {n:Nat} {val:Nat->V} {p:Addr} {g:TG} {tc:TT} {te:TE} {Q:VK} {σ0:St} {H0:Hp} (Pv:Nat->List V->St->Hp->Prop)
  (hgo:∀ i acc σ H,i < n->Pv i acc σ H->J.go i H) (hst:∀ acc σ H,Pv n acc σ H->J.stop n H) (hy:∀ i acc σ H x H',i < n->Pv i acc σ H->J.yld i H x H'->H'=H/\x=val i)
  (h0:Pv 0 [] σ0 H0) (hp:∀ i acc σ H,Pv i acc σ H->H p=some (.lst acc)/\acc.length<=i) (hz:n<=sizeLine)
  (hs:∀ i acc σ H,i < n->Pv i acc σ H->g (val i) σ H fun σ3 H3=>tc σ3 H3 fun b H4 =>
   if b=true then te σ3 H4 fun v H5=>H5 p=some (.lst acc)/\Pv (i+1) (acc++[v]) σ3 (upd H5 p (.lst (acc++[v]))) else Pv (i+1) acc σ3 H4)
  (hd:∀ acc σ H,Pv n acc σ H->Q (.ref p) H) :
  yq_ J p g tc te Q σ0 H0:=by
 refine⟨fun i m acc σ H=>m=n - i/\i<=n/\Pv i acc σ H,⟨n,by simp,qe_ _,h0⟩,fun i m acc σ' H' w=>?_⟩
 obtain⟨rfl,hi,q⟩:=w
 obtain⟨q1,q2⟩:=hp i acc σ' H' q
 refine⟨q1,?_⟩
 by_cases hlt:i < n
 ·refine .inr ⟨hgo i acc σ' H' hlt q,by omega,Pv (i+1),fun a' σ3 H3 k=>⟨n - (i+1),by omega,rfl,hlt,k⟩,fun x H2 y=>?_⟩
  obtain⟨rfl,rfl⟩:=hy i acc σ' H' x H2 hlt q y
  exact hs i acc σ' _ hlt q
 ·have e:i=n:=by omega
  subst e
  exact .inl ⟨hst acc σ' H' q,hd acc σ' H' q⟩
theorem x8_ {lo:Int} {n:Nat} {p:Addr} {g:TG} {tc:TT} {te:TE} {Q:VK} {σ0:St} {H0:Hp} (Pv:Nat->List V->St->Hp->Prop)
  (h0:Pv 0 [] σ0 H0) (hp:∀ i acc σ H,Pv i acc σ H->H p=some (.lst acc)/\acc.length<=i) (hz:n<=sizeLine)
  (hs:∀ i acc σ H,i < n->Pv i acc σ H->g (.int (lo+i)) σ H fun σ3 H3=>tc σ3 H3 fun b H4 =>
   if b=true then te σ3 H4 fun v H5=>H5 p=some (.lst acc)/\Pv (i+1) (acc++[v]) σ3 (upd H5 p (.lst (acc++[v]))) else Pv (i+1) acc σ3 H4)
  (hd:∀ acc σ H,Pv n acc σ H->Q (.ref p) H):yq_ (Itr lo n) p g tc te Q σ0 H0 :=
 jca_ (J:=Itr lo n) (val:=fun i=>.int (lo+i)) Pv (fun _ _ _ _ h _=>h) (fun _ _ _ _=>pg_ n) (fun _ _ _ _ _ _ _ _ y=>y) h0 hp hz hs hd
theorem jrn_ {xs:List V} {p:Addr} {g:TG} {tc:TT} {te:TE} {Q:VK} {σ0:St} {H0:Hp} (Pv:Nat->List V->St->Hp->Prop)
  (h0:Pv 0 [] σ0 H0) (hp:∀ i acc σ H,Pv i acc σ H->H p=some (.lst acc)/\acc.length<=i) (hz:xs.length<=sizeLine)
  (hs:∀ i acc σ H,i < xs.length->Pv i acc σ H->g (xs.getD i .non) σ H fun σ3 H3=>tc σ3 H3 fun b H4 =>
   if b=true then te σ3 H4 fun v H5=>H5 p=some (.lst acc)/\Pv (i+1) (acc++[v]) σ3 (upd H5 p (.lst (acc++[v]))) else Pv (i+1) acc σ3 H4)
  (hd:∀ acc σ H,Pv xs.length acc σ H->Q (.ref p) H):yq_ (Its xs) p g tc te Q σ0 H0 :=
 jca_ (J:=Its xs) (n:=xs.length) (val:=fun i=>xs.getD i .non) Pv (fun _ _ _ _ h _=>h) (fun _ _ _ _=>rfl)
  (fun i _ _ _ x _ hi _ y=>⟨y.1,by have:=y.2;rw[pe_,this];rfl⟩) h0 hp hz hs hd
theorem yl_ {K:pb_} {a:Addr} {xs:List V} {p:Addr} {g:TG} {tc:TT} {te:TE} {Q:VK} {σ0:St} {H0:Hp} (Pv:Nat->List V->St->Hp->Prop)
  (hl:∀ i acc σ H,i<=xs.length->Pv i acc σ H->SqL K H a xs)
  (h0:Pv 0 [] σ0 H0) (hp:∀ i acc σ H,Pv i acc σ H->H p=some (.lst acc)/\acc.length<=i) (hz:xs.length<=sizeLine)
  (hs:∀ i acc σ H,i < xs.length->Pv i acc σ H->g (xs.getD i .non) σ H fun σ3 H3=>tc σ3 H3 fun b H4 =>
   if b=true then te σ3 H4 fun v H5=>H5 p=some (.lst acc)/\Pv (i+1) (acc++[v]) σ3 (upd H5 p (.lst (acc++[v]))) else Pv (i+1) acc σ3 H4)
  (hd:∀ acc σ H,Pv xs.length acc σ H->Q (.ref p) H):yq_ (Itl K a) p g tc te Q σ0 H0 :=
 jca_ (J:=Itl K a) (n:=xs.length) (val:=fun i=>xs.getD i .non) Pv
  (fun i acc σ H hi q=>⟨xs,xs[i],(hl i acc σ H (q6_ hi) q),by simp[hi]⟩) (fun acc σ H q=>⟨xs,(hl _ acc σ H (pg_ _) q),pg_ _⟩)
  (fun i acc σ H x _ hi q y=>⟨y.1,by have:=y.2 xs (hl i acc σ H (q6_ hi) q);rw[pe_,this];rfl⟩) h0 hp hz hs hd
section
variable {X:Cx} {o e:Expr} {es:List Expr} {to:TE} {t:TA} {name:Str} {apos cpos:Pos} {T id:String} {r:V->List V->Hp->VK->Prop}
theorem zn_ {K:pb_} (pa:PlainAttrs T) (slot:Slot T name id) (hty:typeOf (.builtin id)=pure (.type "method_descriptor")) (hm:MtR X id r) (ho:PE X o to) (ha:PA X (e::es) t) (hK:X.K=K:=by rfl)
  (hb:attributeBase o name X.env (eval o X.env)=eval o X.env:=by rfl)
  (hf:((backTo cpos (starEach (e::es) X.env)).all (fun x=>!x.1)&&(backToKw cpos (keywordEach [] X.env)).all (fun x=>x.1.isSome)&&decide ((e::es).length+([]:List Keyword).length+(if ([]:List Keyword).isEmpty then 0 else 1) < 30))=true:=by rfl)
  (hl:(apos.endLine == cpos.line)=true:=by rfl) (he:starEach (e::es) X.env=(false,eval e X.env)::starEach es X.env:=by rfl) (hpl:(backTo cpos (starEach es X.env)).any (·.1)=false:=by rfl):PE X (.Call (.Attribute o name apos) (e::es) [] cpos) (tBM K T r to t):=by
 subst hK
 exact pe_bm pa slot hty hm ho ha hb hf hl he hpl
theorem joo_ {K:pb_} (pa:PlainAttrs T) (slot:Slot T name id) (hty:typeOf (.builtin id)=pure (.type "method_descriptor")) (hm:MtR X id r) (ho:PE X o to) (hK:X.K=K:=by rfl)
  (hbase:attributeBase o name X.env (eval o X.env)=eval o X.env:=by rfl) (hline:(apos.endLine == cpos.line)=true:=by rfl):PE X (.Call (.Attribute o name apos) [] [] cpos) (tBM0 K T r to):=by
 subst hK
 exact pe_bm0 pa slot hty hm ho hbase hline
end
def fSet:V->V->V->Hp->(Hp->Prop)->Prop:=fun o i v H Q=>match o,i with
 | .ref p,.int k=>(match H p with
  | some (.lst xs)=>(match ixN xs.length k with | some j=>Q (upd H p (.lst (xs.set j v))) | none=>False)
  | _=>False)
 | _,_=>False
theorem jmz_ {X:Cx}:PSet X fSet:=fun pins s σ H o i v ov iv u Q I ro ri rv h=>by
 unfold fSet at h
 split at h
 ·split at h
  ·rename_i xs e
   split at h
   ·rename_i j ej
    exact jsu_ pins s σ H _ _ v ov iv u Q I ro ri rv ⟨_,_,_,_,rfl,rfl,e,ej,h⟩
   ·exact h.elim
  ·exact h.elim
 ·exact h.elim
structure Dn (P:Program) (w:World) (K:pb_) (mg:Str->Option Value) (base:Heap) (x:Str) (k:Nat) (ps:List Str) (sp:Sp):Prop where
 ex:∃(f:Addr) (fd:FuncData),mg x=some (.ref f)/\q9_ K (.ref f)=true/\Binds K fd ps []/\FnOk P w K mg base CX0 k f fd ps sp
theorem jj_ {X:Cx} {x:Str} {k:Nat} {ps:List Str} {sp:Sp} {e:Expr} {es:List Expr} {t:TA} {p pos:Pos} (D:Dn X.prog X.w X.K X.mg X.base x k ps sp) (hr:Room k X.A) (hg:Gl X x) (ha:PA X (e::es) t)
  (hdb:(x == ("__debug__":Str))=false:=by decide) (he:starEach (e::es) X.env=(false,eval e X.env)::starEach es X.env:=by rfl) (hpl:(backTo pos (starEach es X.env)).any (·.1)=false:=by rfl) :
  PE X (.Call (.Name x p) (e::es) [] pos) (jnn_ sp [] E0 t):=by
 obtain⟨f,fd,h1,h2,h3,h4⟩:=D.ex
 exact joh_ h4 hr hg h1 h2 h3 .nil jig_ ha hdb he hpl
end L2
namespace L2
open PySem
open Sem (wp)
open AutoSeq1 (wpAny_loadPart')
section
variable {prog:Program} {w:World} {A:Around} {E:Value->Shared->Prop} {s:Shared}
theorem jln_ {it t:Addr} {i:Nat} {items:Array Value} {x:Value} {Q:Value->Shared->Prop} (hit:s.heap.IsTupleIter it t i) (ht:s.heap.IsTuple t items) (hx:items[i]?=some x)
  (hQ:∀ h',h'.IsTupleIter it t (i+1)->rv_ it s.heap h'->Q x { s with heap:=h' }):wpAny (model prog w) A (sb_ (.ref it)) Q E s:=by
 obtain⟨ob,hob,hcl,hdt⟩:=id hit
 obtain⟨ot,hot,_,nt,hdot⟩:=ht
 unfold sb_
 refine wpAny_bind (wpAny_callSpecial?_slot (name:=qd_ "__next__") hit.typeIs r4_ (wpAny_call_entry r4_ hit.typeIs wj_ ?_ (we_ _)))
 show wpAny _ _ (field (.ref it) 0 >>= _) _ _ s
 refine wpAny_bind (wpAny_field hob hdt (x:=.ref t) rfl ?_)
 have nn:¬ ((Value.ref t == Value.none)=true):=ph_
 show wpAny _ _ (if (Value.ref t == Value.none)=true then _ else _) _ _ s
 rw[if_neg nn]
 show wpAny _ _ (field (.ref it) 1 >>= _) _ _ s
 refine wpAny_bind (wpAny_field hob hdt (x:=.int i 0) rfl ?_)
 show wpAny _ _ (seqItems? (.ref t) >>= _) _ _ s
 refine wpAny_bind (wpAny_seqItems hot hdot ?_)
 simp only[Int.toNat_natCast,hx]
 refine wpAny_bind (wpAny_setField hob hdt (by simp) (wpAny_pure ⟨x,rfl,wpAny_pure (hQ _ ?_ (lj_ ..))⟩))
 exact⟨_,q1_ _ hob (kw_ (tp_ hdt _)),(Obj.cls_mapFields ..).trans hcl,by rw[tp_ hdt];simp[rawInt]⟩
theorem jph_ {it t:Addr} {i:Nat} {items:Array Value} {Q:Value->Shared->Prop} (hh:A.handled=none) (hit:s.heap.IsTupleIter it t i) (ht:s.heap.IsTuple t items) (hx:items[i]?=none)
  (hE:∀ h' e,Heap.ExtBut it s.heap h'->(∃ o,h'.get? e=some o/\o.cls=.type "StopIteration")->E (.ref e) { s with heap:=h' }):wpAny (model prog w) A (sb_ (.ref it)) Q E s:=by
 obtain⟨ob,hob,hcl,hdt⟩:=id hit
 obtain⟨ot,hot,_,nt,hdot⟩:=ht
 unfold sb_
 refine wpAny_bind (wpAny_callSpecial?_slot (name:=qd_ "__next__") hit.typeIs r4_ (wpAny_call_entry r4_ hit.typeIs wj_ ?_ (we_ _)))
 show wpAny _ _ (field (.ref it) 0 >>= _) _ _ s
 refine wpAny_bind (wpAny_field hob hdt (x:=.ref t) rfl ?_)
 have nn:¬ ((Value.ref t == Value.none)=true):=ph_
 show wpAny _ _ (if (Value.ref t == Value.none)=true then _ else _) _ _ s
 rw[if_neg nn]
 show wpAny _ _ (field (.ref it) 1 >>= _) _ _ s
 refine wpAny_bind (wpAny_field hob hdt (x:=.int i 0) rfl ?_)
 show wpAny _ _ (seqItems? (.ref t) >>= _) _ _ s
 refine wpAny_bind (wpAny_seqItems hot hdot ?_)
 simp only[Int.toNat_natCast,hx]
 refine wpAny_bind (wpAny_rule (wpAny_bind (wpAny_setField hob hdt (by simp) ?_)))
 show wpAny _ _ (newExc (.type "StopIteration") [] >>= _) _ _ _
 refine wpAny_bind ?_
 simp only[newExc,newTuple]
 refine wpAny_bind (wpAny_newObj_type ?_ (by size_fits))
 refine wpAny_bind (m:=firstArgMember _ _) (wpAny_of_eq (a:=Value.none) (by first | rfl | (simp only[firstArgMember];rfl)) (wpAny_newObj_type ?_ (by size_fits)))
 simp only[raiseNew]
 refine wpAny_bind (wpAny_handled ?_)
 first | rw[show A.in1.handled=none from hh] | rw[hh]
 exact wpAny_bind (wpAny_pure (wpAny_throw (hE _ _ (((lj_ ..).extBut.push _).push _) ⟨_,pq_ _ rfl,rfl⟩)))
end
theorem jme_ {prog:Program} {w:World} {A:Around} (hh:A.handled=none) (it t:Addr) (hne:t≠it) (items:Array Value) :
  Draws prog w A it [it,t] items.size (fun i v=>items[i]?=some v) (fun i h=>h.IsTupleIter it t i/\h.IsTuple t items) where
 live:=fun _ _ st=>let ⟨o,ho,_⟩:=st.1;⟨o,ho⟩
 frame:=fun _ _ _ st hk=>⟨st.1.at fun o e=>hk it (by simp) o e,let ⟨o,ho,r⟩:=st.2;⟨o,hk t (by simp) o ho,r⟩⟩
 item:=fun i s Q E hi st hQ=>by
  refine jln_ st.1 st.2 (x:=items[i]) (by simp[hi]) fun h' hit' hs'=>?_
  exact hQ _ h' s.toks (by simp[hi]) ⟨hit',st.2.extBut hs'.extBut hne⟩ hs'
 done:=fun s Q E st hE=>jph_ hh st.1 st.2 (by simp) hE
set_option maxHeartbeats 4000000 in
theorem jqq_ (l:Addr) (items:Array Value) (n:Nat) (dct:Option Addr) (sl:Array (Option Value)) (b:Int) (u:Tok) (hb:qz_ b=true) :
  Meets (Builtin.«enumerate.__new__» ⟨[.type "enumerate",.ref l],[(qd_ "start",.int b u)]⟩) (fun _ R s=>s.heap.get? l=some { cls:=.type "tuple",dict:=dct,data:=.seq items n,slots:=sl } /\
   R (.ok (.ret (.ref (s.heap.push { cls:=.type "tuple_iterator",data:=.fields #[.ref l,.int 0 0] }).objs.size)))
    { s with heap:=(s.heap.push { cls:=.type "tuple_iterator",data:=.fields #[.ref l,.int 0 0] }).push { cls:=.type "enumerate",data:=.fields #[.none,.bool false,.ref s.heap.objs.size,rawInt b,.none,.none] } }) :=
 .of_wp fun prog w A R s h=>by
  obtain⟨hp,g,d,tk,os⟩:=s;obtain⟨hl,h⟩:=h
  have hsub:=sub_enumerate
  have hL:Heap.IsTuple (lk_ ⟨hp,g,d,tk,os⟩) l items:=⟨_,hl,rfl,n,rfl⟩
  have hb':(!Builtin.SmallTypes.fitsIndex b)=false:=by rw[hb];rfl
  wp_walk using wpAny_loadPart' hl
  refine wpAny_stack_any fun st=>wpAny_pure ?_
  split
  ·rename_i c _ _ _ _ _
   cases (c == Value.type "enumerate")
   ·wp_walk using wpAny_loadPart' hl,wpAny_pyIter_tuple hL
    exact⟨_,rfl,h⟩
   ·wp_walk using wpAny_loadPart' hl,wpAny_pyIter_tuple hL
    exact⟨_,rfl,h⟩
  ·wp_walk using wpAny_loadPart' hl,wpAny_pyIter_tuple hL
   exact⟨_,rfl,h⟩
set_option maxHeartbeats 4000000 in
theorem jqc_ (l:Addr) (items:Array Value) (n:Nat) (dct:Option Addr) (sl:Array (Option Value)) (b:Int) (u:Tok) (hb:qz_ b=true) :
  Meets (Builtin.«enumerate.__new__» ⟨[.type "enumerate",.ref l],[(qd_ "start",.int b u)]⟩) (fun _ R s=>s.heap.get? l=some { cls:=.type "list",dict:=dct,data:=.seq items n,slots:=sl } /\
   R (.ok (.ret (.ref (s.heap.push { cls:=.type "list_iterator",data:=.fields #[.ref l,.int 0 0] }).objs.size)))
    { s with heap:=(s.heap.push { cls:=.type "list_iterator",data:=.fields #[.ref l,.int 0 0] }).push { cls:=.type "enumerate",data:=.fields #[.none,.bool false,.ref s.heap.objs.size,rawInt b,.none,.none] } }) :=
 .of_wp fun prog w A R s h=>by
  obtain⟨hp,g,d,tk,os⟩:=s;obtain⟨hl,h⟩:=h
  have hsub:=sub_enumerate
  have hL:Heap.IsList (lk_ ⟨hp,g,d,tk,os⟩) l items:=⟨_,hl,rfl,n,rfl⟩
  have hb':(!Builtin.SmallTypes.fitsIndex b)=false:=by rw[hb];rfl
  wp_walk using wpAny_loadPart' hl
  refine wpAny_stack_any fun st=>wpAny_pure ?_
  split
  ·rename_i c _ _ _ _ _
   cases (c == Value.type "enumerate")
   ·wp_walk using wpAny_loadPart' hl,wpAny_pyIter_list hL
    exact⟨_,rfl,h⟩
   ·wp_walk using wpAny_loadPart' hl,wpAny_pyIter_list hL
    exact⟨_,rfl,h⟩
  ·wp_walk using wpAny_loadPart' hl,wpAny_pyIter_list hL
   exact⟨_,rfl,h⟩
section
variable {prog:Program} {w:World} {A:Around} {E:Value->Shared->Prop} {s:Shared}
theorem jmv_ {T newId:String} {self:Value} {rest:List Value} {kw:List (Str×Value)} (hl:typeLookup (.type T) "__init__"=pure (some (.builtin "object.__init__")))
  (hm:Bind.madeBy (.type T)=pure (some newId)) (hne:(some newId != some "object.__new__")=true) :
  Meets (Builtin.«object.__init__» ⟨self::rest,kw⟩) (fun _ R s=>s.TypeIs self T/\R (.ok (.ret .none)) s):=by
 refine Meets.of_wp fun prog w A R s hs=>?_
 obtain⟨hT,hq⟩:=hs
 cases rest with
 | nil =>
  cases kw with
  | nil=>exact wpAny_pure ⟨_,rfl,hq⟩
  | cons k kw =>
   repeat (any_goals (first | assumption | wp_step))
   exact⟨_,rfl,hq⟩
 | cons a rest =>
  repeat (any_goals (first | assumption | wp_step))
  exact⟨_,rfl,hq⟩
set_option maxHeartbeats 4000000 in
theorem vz_ {T newId initId:String} {Bn Bi:Builtin} {args:List Value} {kw:List (Str×Value)} {S:Spec} {Q Q₁:Value->Shared->Prop} (ft:TypeCalled T newId initId)
  (hct:checkTypeCall T ⟨args,kw⟩=pure ()) (hcn:checkBuiltinCall newId ⟨.type T::args,kw⟩=pure ())
  (entryN:entryFor table newId=some Bn) (entryI:entryFor table initId=some Bi) (g:Meets (Bn ⟨.type T::args,kw⟩) S) (h:S A.in1 (wants Q₁ E) s)
  (hnext:∀ obj s₁,Q₁ obj s₁->s₁.TypeIs obj T/\argsOk initId ⟨obj::args,kw⟩/\∃ Si,Meets (Bi ⟨obj::args,kw⟩) Si/\Si A.in1 (wants (fun r s₂=>r=.none/\Q obj s₂) E) s₁) :
  wpAny (model prog w) A (call (.type T) args kw) Q E s:=by
 obtain⟨c,tl,hmro⟩:=ft.mro
 have hmade:=ft.made
 have hsub:=ft.sub
 refine wpAny_call (codeAny_of_tree ?_)
 show wpAny _ _ (callAny (.type T) _) _ _ _
 refine wpAny_pure ⟨wq_ _ (by decide +kernel),codeAny_builtin F.entry_type_call ?_⟩
 rw[Around.under_plain (weight_type_call_type T args kw) (units_type_call_type T args kw)]
 have h1:=ft.notType
 have h2:=ft.canCreate
 repeat (any_goals (first | assumption | wp_step))
 refine codeAny_mono (codeAny_call_builtin ft.plain entryN (wpAny_of_eq hcn (g prog w A.in1 _ s h))) fun r s₁ hr=>?_
 cases r with
 | error e=>exact hr
 | ok fl =>
  cases fl with
  | ret obj =>
   obtain⟨hT,hok,Si,gi,hsi⟩:=hnext _ _ hr
   have hli:=ft.init.lookup
   have hbi:=ft.init.bind obj
   repeat (any_goals (first | assumption | wp_step))
   refine codeAny_mono (codeAny_call_builtin ft.init.plain entryI (ft.init.check _ _ _ _ _ _ _ _ hT hok (gi prog w A.in1 _ s₁ hsi))) fun r₂ s₂ hr₂=>?_
   cases r₂ with
   | error e=>exact hr₂
   | ok fl₂ =>
    cases fl₂ with
    | ret r =>
     obtain⟨rfl,hq⟩:=hr₂
     repeat (any_goals (first | assumption | wp_step))
    | _=>exact hr₂.elim
  | _=>exact hr.elim
theorem chk1 (a b:Value):checkTypeCall "enumerate" ⟨[a],[(qd_ "start",b)]⟩=pure ():=by kernel_rfl
theorem chk2 (a b:Value):checkBuiltinCall "enumerate.__new__" ⟨[.type "enumerate",a],[(qd_ "start",b)]⟩=pure ():=by kernel_rfl
theorem jys_ (obj a b:Value):argsOk "object.__init__" ⟨[obj,a],[(qd_ "start",b)]⟩:=by
 unfold argsOk
 rw[signature?_of (id:="object.__init__") (n:=['_','_','t','i','n','i','_','_']) (o:=['t','c','e','j','b','o']) (by kernel_rfl) F.owner_object]
 kernel_rfl
theorem jkv_ {l:Addr} {items:Array Value} {b:Int} {u:Tok} {Q:Value->Shared->Prop} (hL:s.heap.IsTuple l items) (hb:qz_ b=true)
  (h:∀ h',IsEnum h' (s.heap.objs.size+1) s.heap.objs.size b .none->h'.IsTupleIter s.heap.objs.size l 0->(∀ b o,s.heap.get? b=some o->h'.get? b=some o)->Q (.ref (s.heap.objs.size+1)) { s with heap:=h' }) :
  wpAny (model prog w) A (call (.type "enumerate") [.ref l] [(qd_ "start",.int b u)]) Q E s:=by
 obtain⟨⟨c,dct,dt,sl⟩,hl,hc,n,hd⟩:=hL
 simp only at hc hd
 subst hc hd
 refine vz_ (Q₁:=fun obj s₁=>s₁.TypeIs obj "enumerate"/\Q obj s₁) qr_ (chk1 _ _) (chk2 _ _) sy_ tg_ (jqq_ l items n dct sl b u hb) ⟨hl,?_⟩
  fun obj s₁ hq=>⟨hq.1,jys_ obj _ _,_,jmv_ qr_.init.lookup qr_.made (by decide),hq.1,rfl,hq.2⟩
 have hz:(s.heap.push { cls:=.type "tuple_iterator",data:=.fields #[.ref l,.int 0 0] }).objs.size=s.heap.objs.size+1:=ra_ ..
 show _/\_
 rw[hz]
 have he:IsEnum ((s.heap.push { cls:=.type "tuple_iterator",data:=.fields #[.ref l,.int 0 0] }).push { cls:=.type "enumerate",data:=.fields #[.none,.bool false,.ref s.heap.objs.size,rawInt b,.none,.none] }) (s.heap.objs.size+1) s.heap.objs.size b .none:=by
  have:=pq_ (s.heap.push { cls:=.type "tuple_iterator",data:=.fields #[.ref l,.int 0 0] }) (o:={ cls:=.type "enumerate",data:=.fields #[.none,.bool false,.ref s.heap.objs.size,rawInt b,.none,.none] }) rfl
  rw[hz] at this;exact this
 exact⟨⟨_,he,rfl⟩,h _ he ⟨_,pf_ _ (pq_ _ rfl),rfl,rfl⟩ fun b o x=>pf_ _ (pf_ _ x)⟩
theorem jkm_ {l:Addr} {items:Array Value} {b:Int} {u:Tok} {Q:Value->Shared->Prop} (hL:s.heap.IsList l items) (hb:qz_ b=true)
  (h:∀ h',IsEnum h' (s.heap.objs.size+1) s.heap.objs.size b .none->h'.IsListIter s.heap.objs.size l 0->(∀ b o,s.heap.get? b=some o->h'.get? b=some o)->Q (.ref (s.heap.objs.size+1)) { s with heap:=h' }) :
  wpAny (model prog w) A (call (.type "enumerate") [.ref l] [(qd_ "start",.int b u)]) Q E s:=by
 obtain⟨⟨c,dct,dt,sl⟩,hl,hc,n,hd⟩:=hL
 simp only at hc hd
 subst hc hd
 refine vz_ (Q₁:=fun obj s₁=>s₁.TypeIs obj "enumerate"/\Q obj s₁) qr_ (chk1 _ _) (chk2 _ _) sy_ tg_ (jqc_ l items n dct sl b u hb) ⟨hl,?_⟩
  fun obj s₁ hq=>⟨hq.1,jys_ obj _ _,_,jmv_ qr_.init.lookup qr_.made (by decide),hq.1,rfl,hq.2⟩
 have hz:(s.heap.push { cls:=.type "list_iterator",data:=.fields #[.ref l,.int 0 0] }).objs.size=s.heap.objs.size+1:=ra_ ..
 show _/\_
 rw[hz]
 have he:IsEnum ((s.heap.push { cls:=.type "list_iterator",data:=.fields #[.ref l,.int 0 0] }).push { cls:=.type "enumerate",data:=.fields #[.none,.bool false,.ref s.heap.objs.size,rawInt b,.none,.none] }) (s.heap.objs.size+1) s.heap.objs.size b .none:=by
  have:=pq_ (s.heap.push { cls:=.type "list_iterator",data:=.fields #[.ref l,.int 0 0] }) (o:={ cls:=.type "enumerate",data:=.fields #[.none,.bool false,.ref s.heap.objs.size,rawInt b,.none,.none] }) rfl
  rw[hz] at this;exact this
 exact⟨⟨_,he,rfl⟩,h _ he ⟨_,pf_ _ (pq_ _ rfl),rfl,rfl⟩ fun b o x=>pf_ _ (pf_ _ x)⟩
end
end L2
namespace L2
open PySem PySem.Spec PyProof.Rows
section
variable {X:Cx} {pins:List (Addr×Obj)} {σ:St} {H:Hp} {s:Shared} {h':Heap}
theorem Inv.turnedL {t':Nat} {ch:List Addr} (I:Inv X pins σ H s) (k:∀ b u,b∉ch->s.heap.get? b=some u->h'.get? b=some u) (hf:∀ b∈ch,FpOk X pins H b):Inv X pins σ H { s with heap:=h',toks:=t' }:=by
 have nch:∀ b u,H b=some u->b∉ch:=fun b u e z=>by rw[(hf b z).1] at e;cases e
 refine I.step (g':=s.gens) (d':=s.drawn) (ch:=ch) (fun b hb=>⟨(hf b hb).2.2.2.1,(hf b hb).2.1,(hf b hb).2.2.2.2.1,(hf b hb).2.2.2.2.2⟩)
  (fun b u _ _ hc e _=>k b u hc e) (fun b u _ _ hc e _=>⟨u.slots,k b u hc e⟩) (fun _ _ _ _ n=>n)
  (fun b u hc e=>⟨u,k b u hc e⟩) (fun _ _ e=>e) (fun _ _ _ e=>e) (fun b ps e=>⟨#[],by rw[e];simp⟩) (fun m hm=>?_) (fun b u e=>?_) I.bare
 ·obtain⟨ob,es,ep,ho,r⟩:=hm
  exact⟨ob,es,ep,k _ ob (fun z=>(hf _ z).2.1 rfl) ho,r⟩
 ·refine(I.hok b u e).stay (fun c v hc q=>k c v ?_ q) (fun _ q=>q) fun _ _ q=>q
  rcases hc with z | z
  ·rw[z];exact nch b u e
  ·exact nch c _ z
theorem Inv.turnedNew {t':Nat} {ch:List Addr} {T:Addr} {o:HO} (I:Inv X pins σ H s) (hT:s.heap.objs.size<=T)
  (k:∀ b u,b∉ch->s.heap.get? b=some u->h'.get? b=some u) (hf:∀ b∈ch,FpOk X pins H b) (new:ObjOk X.prog X.w (upd H T o) h' T o) :
  Inv X pins σ (upd H T o) { s with heap:=h',toks:=t' }:=by
 have hn:H T=none:=I.hok.fresh hT
 have nch:∀ b u,H b=some u->b∉ch:=fun b u e z=>by rw[(hf b z).1] at e;cases e
 refine I.step (g':=s.gens) (d':=s.drawn) (ch:=ch) (fun b hb=>⟨(hf b hb).2.2.2.1,(hf b hb).2.1,(hf b hb).2.2.2.2.1,(hf b hb).2.2.2.2.2⟩)
  (fun b u _ _ hc e _=>k b u hc e) (fun b u _ _ hc e _=>⟨u.slots,k b u hc e⟩) (fun b u _ e n=>by rw[jf_ (p3_ (p4_ (pu_ e) hT))];exact n)
  (fun b u hc e=>⟨u,k b u hc e⟩) (fun b xs e=>by rw[jf_ (jg_ e hn)];exact e) (fun b u v e=>by rw[jf_ (jg_ e hn)];exact e) (fun b ps e=>⟨#[],by rw[jf_ (jg_ e hn),e];simp⟩)
  (fun m hm=>?_) (fun b u e=>?_) I.bare
 ·obtain⟨ob,es,ep,ho,r⟩:=hm
  exact⟨ob,es,ep,k _ ob (fun z=>(hf _ z).2.1 rfl) ho,r⟩
 ·by_cases hb:b=T
  ·subst hb;rw[jb_] at e;cases e;exact new
  ·rw[jf_ hb] at e
   refine(I.hok b u e).stay (fun c v hc q=>k c v ?_ q) (fun c q=>by rw[jf_ (jg_ q hn)];exact q) fun c xs q=>by rw[jf_ (jg_ q hn)];exact q
   rcases hc with z | z
   ·rw[z];exact nch b u e
   ·exact nch c _ z
end
theorem Draws.shift {P:Program} {w:World} {A:Around} {it:Addr} {fp:List Addr} {n:Nat} {Pv:Nat->Value->Prop} {St:Nat->Heap->Prop} (D:Draws P w A it fp n Pv St) (b:Nat) :
  Draws P w A it fp (b+n) (fun j x=>b<=j/\Pv (j - b) x) (fun j h=>b<=j/\St (j - b) h) where
 live:=fun j h st=>D.live _ _ st.2
 frame:=fun j h h' st k=>⟨st.1,D.frame _ _ _ st.2 k⟩
 item:=fun j s Q E hj st hQ=>D.item (j - b) s Q E (by have:=st.1;omega) st.2 fun x h' tk hP hS sb=>hQ x h' tk ⟨st.1,hP⟩ ⟨by have:=st.1;omega,by rw[show j+1 - b=j - b+1 by have:=st.1;omega];exact hS⟩ sb
 done:=fun s Q E st hE=>D.done s Q E (by have:=st.2;rwa [rt_] at this) hE
def Ien (b:Nat) (xs:List V) (ok:Hp->Prop):It :=
 ⟨fun i H=>ok H/\i < xs.length,fun i H x H'=>∃ T v,H T=none/\xs[i]?=some v/\x=.ref T/\H'=upd H T (.tup [.int ((b:Int)+(i:Int)),v]),fun i H=>ok H/\i=xs.length⟩
def jlu_ (P:Program) (w:World) (A:Around) (it:Addr) (xs:List V) (St0:Nat->Heap->Prop) (H:Hp) (i:Nat) (h:Heap):Prop :=
 ∃(fp:List Addr) (Pv:Nat->Value->Prop) (St:Nat->Heap->Prop),Draws P w A it fp xs.length Pv St/\it∈fp/\(∀ b∈fp,b=it∨H b≠none)/\St i h/\(∀ j x,Pv j x->∃ v,xs[j]?=some v/\RelV v x)/\∀ j h',St j h'->St0 j h'
theorem vy_ {P:Program} {w:World} {K:pb_} {elts:List Expr} {k:Nat} {pos:Pos} {e it:Addr} {xs:List V} {b:Nat} {ok:Hp->Prop} {St0:Nat->Heap->Prop} (hei:e≠it)
  (hD:∀(X:Cx),X.prog=P->X.w=w->X.K=K->X.calm=true->∀(i:Nat) (pins:List (Addr×Obj)) (s:Shared) (σ:St) (H:Hp),Inv X pins σ H s->ok H->H it=none->St0 i s.heap->jlu_ P w X.A.in1 it xs St0 H i s.heap)
  (hobj:∀ i h,St0 i h->∃ o,h.get? it=some o/\∀ v,o.data≠.cell v) (hkeep:∀ i h h',St0 i h->(∀ o,h.get? it=some o->h'.get? it=some o)->St0 i h') :
  Turn P w K (.Tuple elts k pos) (Ien b xs ok) [e,it] e (fun i h=>(∃ old,IsEnum h e it ((b+i:Nat):Int) old)/\St0 i h) where
 mem:=by simp
 obj:=fun i h st c hc=>by
  rcases pz_.mp hc with z | z
  ·obtain⟨⟨old,he⟩,_⟩:=st
   rw[z]
   exact⟨_,he,fun v q=>by
    have q':Data.fields _=Data.cell v:=q
    cases q'⟩
  ·have z':c=it:=by simpa using z
   rw[z']
   exact hobj i h st.2
 keep:=fun i h h' st kk=>by
  obtain⟨⟨old,he⟩,hs⟩:=st
  exact⟨⟨old,kk e (by simp) _ he⟩,hkeep i h h' hs fun o q=>kk it (by simp) o q⟩
 item:=by
  intro X hP hw hK hc i pins s σ H E I hf st hg
  subst hP hw hK
  obtain⟨⟨old,he⟩,hs⟩:=st
  obtain⟨hok,hlt⟩:=hg
  obtain⟨fp,Pv,St,D,hif,hfp,hst,hrel,hback⟩:=hD X rfl rfl rfl hc i pins s σ H I hok (hf it (by simp)).1 hs
  have hef:e∉fp:=fun z=>by
   rcases hfp e z with q | q
   ·exact hei q
   ·exact q (hf e (by simp)).1
  have W:=WalksT.enumerateD (Draws.shift D b) e hei hef hif
  refine W.item (b+i) s _ E (by omega) ⟨⟨old,he⟩,by omega,by rw[rt_];exact hst⟩ fun T vals h1 tk hPv hT hTup hm hk=>⟨.ref T,rfl,?_⟩
  obtain⟨t,x,⟨_,hPx⟩,rfl⟩:=hPv
  rw[rt_] at hPx
  obtain⟨v,hv,rv⟩:=hrel _ _ hPx
  have apart:=W.apart _ _ _ hm
  refine W.go elts k pos (b+i) T _ _ E hm fun h2 st2 hk2=>?_
  have kk:∀ c u,c∉[e,it]->s.heap.get? c=some u->h2.get? c=some u:=fun c u hc q=>hk2 c u hc (hk c u hc q)
  have tup2:IsTup h2 T #[.int ((b+i:Nat):Int) t,x]:=by
   obtain⟨o,ho,r⟩:=hTup
   exact⟨o,hk2 T o apart ho,r⟩
  refine⟨.ref T,upd H T (.tup [.int ((b:Int)+(i:Int)),v]),I.turnedNew (t':=tk) hT kk hf ?_,rfl,⟨T,v,I.hok.fresh hT,hv,rfl,rfl⟩,?_,?_⟩
  ·refine⟨by show 2<=sizeLine;decide,[.int ((b+i:Nat):Int) t,x],.cons ⟨t,?_⟩ (.cons rv .nil),tup2⟩
   rw[Int.natCast_add]
  ·obtain⟨⟨old2,he2⟩,_,hs2⟩:=st2
   refine⟨⟨old2,he2⟩,hback _ _ ?_⟩
   rwa [show b+i+1 - b=i+1 by omega] at hs2
  ·intro c hc
   have hlt:c < s.heap.objs.size:=by
    rcases pz_.mp hc with z | z
    ·rw[z];exact pu_ he
    ·have z':c=it:=by simpa using z
     rw[z']
     obtain⟨o,ho,_⟩:=hobj i _ hs
     exact pu_ ho
   rw[jf_ (p3_ (p4_ hlt hT))]
   exact(hf c hc).1
 done:=by
  intro X hP hw hK hc i pins s σ H E I hf st hg
  subst hP hw hK
  obtain⟨⟨old,he⟩,hs⟩:=st
  obtain⟨hok,rfl⟩:=hg
  obtain⟨fp,Pv,St,D,hif,hfp,hst,hrel,hback⟩:=hD X rfl rfl rfl hc _ pins s σ H I hok (hf it (by simp)).1 hs
  have hef:e∉fp:=fun z=>by
   rcases hfp e z with q | q
   ·exact hei q
   ·exact q (hf e (by simp)).1
  have W:=WalksT.enumerateD (Draws.shift D b) e hei hef hif
  exact W.done s _ E ⟨⟨old,he⟩,by omega,by rw[rt_];exact hst⟩ fun h1 tk hk=>⟨rfl,I.turnedL hk hf⟩
 self:=fun A i s Q E st q=>by
  obtain⟨⟨old,he⟩,_⟩:=st
  exact wpAny_pyIter_enum he q
section
variable {X:Cx}
end
def jbc_ (n:Nat) (R:It->Hp->Prop):V->Hp->Prop:=fun x H1=>match x with
 | .ref a=>(∃ xs,H1 a=some (.lst xs)/\R (Ien n xs fun H=>H a=some (.lst xs)) H1)∨(∃ xs,H1 a=some (.tup xs)/\R (Ien n xs fun H=>H a=some (.tup xs)) H1)
 | _=>False
def jso_ (te ts:TE):TI:=fun σ H R=>te σ H fun x H1=>ts σ H1 fun y H2=>∃ n:Nat,y=.int (n:Int)/\n < 1000000/\jbc_ n R x H2
theorem jjp_ {X:Cx} {pins:List (Addr×Obj)} {σ:St} {H:Hp} {s:Shared} {it a:Addr} {xs:List V} {i:Nat} (hc:X.calm=true) (I:Inv X pins σ H s) (h:SqL X.K H a xs) (hn:H it=none) (ha:H a≠none) (st:s.heap.IsListIter it a i) :
  jlu_ X.prog X.w X.A.in1 it xs (fun i h=>h.IsListIter it a i) H i s.heap:=by
 obtain⟨its,rv,pl,hz⟩:=I.list h
 have hl:its.toArray.size=xs.length:=by rw[pp_];exact rv.length.symm
 have hne:a≠it:=fun z=>ha (z▸hn)
 refine⟨[it,a],_,_,hl▸Draws.list (A:=X.A.in1) (show X.A.in1.handled=none from I.ok.hd hc) it a hne its.toArray,by simp,fun b hb=>?_,⟨st,pl.isList⟩,fun j x hx=>?_,fun _ _ q=>q.1⟩
 ·rcases pz_.mp hb with z | z
  ·exact .inl z
  ·have z':b=a:=by simpa using z
   rw[z'];exact .inr ha
 ·have hx':its[j]?=some x:=by simpa using hx
  have hj:j < xs.length:=by rw[rv.length];exact(pl_.mp hx').1
  obtain⟨u,hu,ru⟩:=rv.get (i:=j) (x:=xs[j]) (by simp[hj])
  rw[hx'] at hu
  cases hu
  exact⟨xs[j],by simp[hj],ru⟩
theorem jor_ {X:Cx} {pins:List (Addr×Obj)} {σ:St} {H:Hp} {s:Shared} {it a:Addr} {xs:List V} {i:Nat} (hc:X.calm=true) (I:Inv X pins σ H s) (h:SqT X.K H a xs) (hn:H it=none) (ha:H a≠none) (st:s.heap.IsTupleIter it a i) :
  jlu_ X.prog X.w X.A.in1 it xs (fun i h=>h.IsTupleIter it a i) H i s.heap:=by
 obtain⟨its,rv,pl,hz⟩:=I.tuple h
 have hl:its.toArray.size=xs.length:=by rw[pp_];exact rv.length.symm
 have hne:a≠it:=fun z=>ha (z▸hn)
 refine⟨[it,a],_,_,hl▸jme_ (A:=X.A.in1) (show X.A.in1.handled=none from I.ok.hd hc) it a hne its.toArray,by simp,fun b hb=>?_,⟨st,pl⟩,fun j x hx=>?_,fun _ _ q=>q.1⟩
 ·rcases pz_.mp hb with z | z
  ·exact .inl z
  ·have z':b=a:=by simpa using z
   rw[z'];exact .inr ha
 ·have hx':its[j]?=some x:=by simpa using hx
  have hj:j < xs.length:=by rw[rv.length];exact(pl_.mp hx').1
  obtain⟨u,hu,ru⟩:=rv.get (i:=j) (x:=xs[j]) (by simp[hj])
  rw[hx'] at hu
  cases hu
  exact⟨xs[j],by simp[hj],ru⟩
section
variable {X:Cx}
theorem jik_ {elts:List Expr} {k:Nat} {tpos:Pos} {a b:Expr} {ta tb:TE} {p pos kpos:Pos} (hg:Gl X "enumerate") (hm:X.mg "enumerate"=none) (ha:PE X a ta) (hb:PE X b tb) (hs:starEach [a] X.env=[(false,eval a X.env)]:=by rfl) :
  PI X (.Tuple elts k tpos) (.Call (.Name "enumerate" p) [a] [⟨some "start",b,kpos⟩] pos) (jso_ ta tb):=by
 intro pins s σ H R I h
 refine wpAny_Call_Name_kw (xs_ I hg hm boot_enumerate ?_)
 refine PySem.W.callWith_of (P:=fun _=>True) (by rw[hs];rfl) (fun _ _=>⟨.machine,.inr (.inl rfl),lq_.of_pure rfl⟩) (PyProof.Rows.evalArgs_kw2 (by rfl) ?_ hs)
 rw[hs]
 show wpAny _ _ (spliced ((false,eval a X.env)::backTo pos (starEach [] X.env))) _ _ s
 refine qy_ (thn (ha pins s σ H _ I h) fun u s1 ⟨x,H1,I1,ru,q1⟩=>rl_ ?_)
 show wpAny _ _ (evalAll ((do let v <- eval b X.env;standAt pos;pure v)::[])) _ _ s1
 refine wpAny_evalAll_cons (wpAny_bind (thn (hb pins s1 σ H1 _ I1 q1) fun u2 s2 ⟨y,H2,I2,ry,n,ey,hn,q2⟩=>wpAny_bind (wpAny_standAt (wpAny_pure (wpAny_evalAll_nil ⟨trivial,?_⟩)))))
 subst ey
 obtain⟨t,rfl⟩:=ry
 show wpAny _ _ (call (.type "enumerate") [u] [(qd_ "start",.int (n:Int) t)]) _ _ s2
 have hfit:qz_ (n:Int)=true:=by
  unfold qz_
  have e:((2:Int) ^ 63)=9223372036854775808:=by decide
  simp only[e,qi_,decide_eq_true_eq]
  omega
 unfold jbc_ at q2
 split at q2
 ·rename_i l _
  cases ru
  have fp:∀ b∈[s2.heap.objs.size+1,s2.heap.objs.size],FpOk X pins H2 b:=fun b hb=>by
   have:s2.heap.objs.size<=b:=by
    rcases pz_.mp hb with z | z
    ·rw[z];exact sv_ _
    ·have z':b=s2.heap.objs.size:=by simpa using z
     rw[z'];exact pg_ _
   exact I2.fpOk this (I2.hok.fresh this)
  rcases q2 with ⟨xs,hl,q2⟩ | ⟨xs,hl,q2⟩
  ·obtain⟨its,rv,pl,hz⟩:=I2.list (SqL.of hl)
   refine jkm_ pl.isList hfit fun h1 he hit hk=>?_
   refine wpAny_pyIter_enum he ?_
   refine⟨s2.heap.objs.size+1,[s2.heap.objs.size+1,s2.heap.objs.size],_,_,H2,rfl,I2.kept (t':=s2.toks) hk,vy_ (b:=n) (ok:=fun H=>H l=some (.lst xs)) (xs:=xs) (St0:=fun i h=>h.IsListIter s2.heap.objs.size l i) (t8_ _) ?_ ?_ ?_,⟨⟨.none,he⟩,hit⟩,fp,q2⟩
   ·intro X' h1 h2 h3 hc i pins s σ H I ok hn st
    exact h1▸h2▸jjp_ hc I (SqL.of ok) hn (by rw[ok];exact fun z=>nomatch z) st
   ·intro i h st
    obtain⟨o,ho,hc,hd⟩:=st
    exact⟨o,ho,fun v q=>by rw[hd] at q;cases q⟩
   ·intro i h h' st kk
    exact st.at kk
  ·obtain⟨its,rv,pl,hz⟩:=I2.tuple (SqT.of hl)
   refine jkv_ pl hfit fun h1 he hit hk=>?_
   refine wpAny_pyIter_enum he ?_
   refine⟨s2.heap.objs.size+1,[s2.heap.objs.size+1,s2.heap.objs.size],_,_,H2,rfl,I2.kept (t':=s2.toks) hk,vy_ (b:=n) (ok:=fun H=>H l=some (.tup xs)) (xs:=xs) (St0:=fun i h=>h.IsTupleIter s2.heap.objs.size l i) (t8_ _) ?_ ?_ ?_,⟨⟨.none,he⟩,hit⟩,fp,q2⟩
   ·intro X' h1 h2 h3 hc i pins s σ H I ok hn st
    exact h1▸h2▸jor_ hc I (SqT.of ok) hn (by rw[ok];exact fun z=>nomatch z) st
   ·intro i h st
    obtain⟨o,ho,hc,hd⟩:=st
    exact⟨o,ho,fun v q=>by rw[hd] at q;cases q⟩
   ·intro i h h' st kk
    exact st.at kk
 ·exact q2.elim
end
theorem jah_ {b:Nat} {xs:List V} {ok:Hp->Prop} {g:TG} {tb:TS} {D:Ends} {σ:St} {H:Hp} (Pv:Nat->St->Hp->Prop) (h0:Pv 0 σ H) (hok:∀ i σ H,i<=xs.length->Pv i σ H->ok H)
  (hs:∀ i v σ H T,xs[i]?=some v->Pv i σ H->H T=none->g (.ref T) σ (upd H T (.tup [.int ((b:Int)+(i:Int)),v])) fun σ2 H2=>tb { D with nx:=Pv (i+1),ct:=Pv (i+1),bk:=D.nx } σ2 H2) (hd:∀ σ H,Pv xs.length σ H->D.nx σ H) :
  ∃ W:Nat->Nat->St->Hp->Prop,(∃ m,W 0 m σ H)/\∀ i m σ H,W i m σ H ->
   ((Ien b xs ok).stop i H/\D.nx σ H)∨((Ien b xs ok).go i H/\∃ N:St->Hp->Prop,(∀ σ' H',N σ' H'->∃ m',m' < m/\W (i+1) m' σ' H')/\∀ x H',(Ien b xs ok).yld i H x H'->g x σ H' fun σ2 H2=>tb { D with nx:=N,ct:=N,bk:=D.nx } σ2 H2):=by
 refine⟨fun i m σ H=>m=xs.length - i/\i<=xs.length/\Pv i σ H,⟨xs.length,by simp,qe_ _,h0⟩,fun i m σ' H' w=>?_⟩
 obtain⟨rfl,hi,p⟩:=w
 have ho:=hok i σ' H' hi p
 by_cases hlt:i < xs.length
 ·refine .inr ⟨⟨ho,hlt⟩,Pv (i+1),fun σ2 H2 p'=>⟨xs.length - (i+1),by omega,rfl,hlt,p'⟩,fun x H2 y=>?_⟩
  obtain⟨T,v,hT,hv,rfl,rfl⟩:=y
  exact hs i v σ' H' T hv p hT
 ·have e:i=xs.length:=by omega
  exact .inl ⟨⟨ho,e⟩,hd σ' H' (e▸p)⟩
end L2
namespace L2
open PySem PySem.Spec PyProof.Rows
section
variable {σ:St} {H:Hp} {D:Ends} {Q:VK} {QB:Bool->Hp->Prop} {QA:List V->Hp->Prop}
theorem jit_ {t u:TS} (h:t { D with nx:=u D } σ H):tSeq t u D σ H:=h
theorem i_ifs {c:TT} {t u:TS} (h:c σ H fun b H1=>if b=true then t D σ H1 else u D σ H1):tIfS c t u D σ H:=h
theorem i_next (h:D.nx σ H):jzi_ D σ H:=h
theorem i_ret {te:TE} (h:te σ H D.rt):tRet te D σ H:=h
theorem jsd_ {te:TE} (h:te σ H fun _ H1=>D.nx σ H1):jzl_ te D σ H:=h
theorem i_asg {te:TE} {g:TG} (h:te σ H fun x H1=>g x σ H1 D.nx):tAsg te g D σ H:=h
theorem j7_ {i:Nat} {v:V} {K:St->Hp->Prop} (h:K (σ.set i (some v)) H):jnk_ i v σ H K:=h
theorem i_gsub {to ti:TE} {t:TSet} {v:V} {K:St->Hp->Prop} (h:to σ H fun o H1=>ti σ H1 fun i H2=>t o i v H2 fun H3=>K σ H3):gSub to ti t v σ H K:=h
theorem y0_ {K':pb_} {n:Nat} {t:TGs} {a:Addr} {xs:List V} {K:St->Hp->Prop} (h1:H a=some (.tup xs)) (h2:xs.length=n) (h:t xs σ H K):gTup K' n t (.ref a) σ H K:=⟨a,xs,rfl,SqT.of h1,h2,h⟩
theorem yz_ {K:St->Hp->Prop} (h:K σ H):gNil [] σ H K:=⟨rfl,h⟩
theorem j4_ {t:TG} {u:TGs} {v:V} {r:List V} {K:St->Hp->Prop} (h:t v σ H fun σ' H'=>u r σ' H' K):jyz_ t u (v::r) σ H K:=⟨v,r,rfl,h⟩
theorem i_for {wi:TI} {g:TG} {tb:TS} (h:wi σ H fun J H1=>∃ W:Nat->Nat->St->Hp->Prop,(∃ m,W 0 m σ H1)/\∀ i m σ H,W i m σ H ->
 (J.stop i H/\D.nx σ H)∨(J.go i H/\∃ N:St->Hp->Prop,(∀ σ' H',N σ' H'->∃ m',m' < m/\W (i+1) m' σ' H')/\∀ x H',J.yld i H x H'->g x σ H' fun σ2 H2=>tb { D with nx:=N,ct:=N,bk:=D.nx } σ2 H2)):tFor wi g tb D σ H:=h
theorem jyu_ {i:Nat} {v:V} (e:σ[i]?=some (some v)) (h:Q v H):tVar i σ H Q:=⟨v,e,h⟩
theorem i_c {v:V} (h:Q v H):tC v σ H Q:=h
theorem i_op {r:R2} {ta tb:TE} (h:ta σ H fun x H1=>tb σ H1 fun y H2=>r x y H2 Q):tOp r ta tb σ H Q:=h
theorem i_un {r:V->Hp->VK->Prop} {ta:TE} (h:ta σ H fun x H1=>r x H1 Q):tUn r ta σ H Q:=h
theorem jzv_ {t:TE} (h:t σ H fun x H'=>∃ k,x=.bl k/\QB k H'):jsz_ t σ H QB:=h
theorem i_bl {b:Bool} {P:Bool->Prop} (h:P b):∃ k,V.bl b=.bl k/\P k:=⟨b,rfl,h⟩
theorem i_and {t u:TT} (h:t σ H fun c H1=>if c=true then u σ H1 QB else QB false H1):tAnd t u σ H QB:=h
theorem i_or {t u:TT} (h:t σ H fun c H1=>if c=true then QB true H1 else u σ H1 QB):tOr t u σ H QB:=h
theorem i_not {t:TT} (h:t σ H fun c H1=>QB (!c) H1):tNot t σ H QB:=h
theorem i_andV {ta tb:TE} (h:ta σ H fun x H1=>∃ c,x=.bl c/\if c=true then tb σ H1 Q else Q (.bl false) H1):jzj_ ta tb σ H Q:=h
theorem i_ifE {t:TT} {ta tb:TE} (h:t σ H fun c H1=>if c=true then ta σ H1 Q else tb σ H1 Q):tIf t ta tb σ H Q:=h
theorem jxd_ {r r':R2} {ta tb tc:TE} (h:ta σ H fun x H1=>tb σ H1 fun y H2=>r x y H2 fun z H3=>∃ k,z=.bl k/\(if k=true then tc σ H3 fun w' H4=>r' y w' H4 Q else Q (.bl false) H3)):jus_ r r' ta tb tc σ H Q:=h
theorem jzg_ (h:QA [] H):tNil σ H QA:=h
theorem jkw_ {ta:TE} {tr:TA} (h:ta σ H fun x H1=>tr σ H1 fun xs H2=>QA (x::xs) H2):jnt_ ta tr σ H QA:=h
theorem i_cb {r:List V->Hp->VK->Prop} {t:TA} (h:t σ H fun vs H1=>r vs H1 Q):tCB r t σ H Q:=h
theorem jzp_ {sp:Sp} {dvs:List V} {E:XK} {t:TA} (h:t σ H fun vs H1=>sp (vs++dvs) H1 Q E):jnn_ sp dvs E t σ H Q:=h
theorem i_lst {t:TA} (h:t σ H fun xs H1=>xs.length<=sizeLine/\∀ p,H1 p=none->Q (.ref p) (upd H1 p (.lst xs))):tLst t σ H Q:=h
theorem i_tup {t:TA} (h:t σ H fun xs H1=>xs.length<=sizeLine/\∀ p,H1 p=none->Q (.ref p) (upd H1 p (.tup xs))):tTup t σ H Q:=h
theorem i_bm {K:pb_} {T:String} {r:V->List V->Hp->VK->Prop} {to:TE} {t:TA} (h:to σ H fun x H1=>tyV K T x H1/\t σ H1 fun xs H2=>r x xs H2 Q):tBM K T r to t σ H Q:=h
theorem i_bm0 {K:pb_} {T:String} {r:V->List V->Hp->VK->Prop} {to:TE} (h:to σ H fun x H1=>tyV K T x H1/\r x [] H1 Q):tBM0 K T r to σ H Q:=h
theorem i_sl {r:V->Option Int->Option Int->Hp->VK->Prop} {te:TE} {tl th:TO} (h:te σ H fun x H1=>tl σ H1 fun l H2=>th σ H2 fun u H3=>r x l u H3 Q):tSl r te tl th σ H Q:=h
theorem jvj_ {K:Option Int->Hp->Prop} (h:K none H):jnb_ σ H K:=h
theorem i_part {t:TE} {K:Option Int->Hp->Prop} (h:t σ H fun x H1=>∃ i,x=.int i/\K (some i) H1):jyp_ t σ H K:=h
theorem i_exI {i:Int} {P:Int->Prop} (h:P i):∃ k,V.int i=.int k/\P k:=⟨i,rfl,h⟩
theorem i_comp {ix:List (Option Nat)} {wi:TI} {g:TG} {tc:TT} {te:TE} (h:wi σ H fun J H1=>∀ p,H1 p=none->yq_ J p g tc te Q (pick ix σ) (upd H1 p (.lst []))):jol_ ix wi g tc te σ H Q:=h
theorem i_true (h:QB true H):jym_ σ H QB:=h
theorem jzq_ {ta:TA} {R:It->Hp->Prop} (h:ta σ H fun vs H1=>∃ j:Int,vs=[.int j]/\-(2 ^ 62)<=j/\j < 2 ^ 62/\R (Itr 0 j.toNat) H1):jyr_ ta σ H R:=h
theorem p62:((2:Int) ^ 62)=4611686018427387904:=by decide
theorem p63:((2:Int) ^ 63)=9223372036854775808:=by decide
theorem i_r1 {j:Int} {P:Int->Prop} (h1:-1000000000<=j/\j<=1000000000) (h:P j):∃ k:Int,[V.int j]=[.int k]/\-(2 ^ 62)<=k/\k < 2 ^ 62/\P k:=⟨j,rfl,by rw[p62];omega,by rw[p62];omega,h⟩
theorem i_rng2 {ta:TA} {R:It->Hp->Prop} (h:ta σ H fun vs H1=>∃ i j:Int,vs=[.int i,.int j]/\(-(2 ^ 62)<=i/\i < 2 ^ 62/\-(2 ^ 62)<=j/\j < 2 ^ 62)/\R (Itr i (j - i).toNat) H1):jyl_ ta σ H R:=h
theorem i_r2 {i j:Int} {P:Int->Int->Prop} (h1:-1000000000<=i/\i<=1000000000/\-1000000000<=j/\j<=1000000000) (h:P i j):∃ a b:Int,[V.int i,V.int j]=[.int a,.int b]/\(-(2 ^ 62)<=a/\a < 2 ^ 62/\-(2 ^ 62)<=b/\b < 2 ^ 62)/\P a b:=⟨i,j,rfl,by rw[p62];omega,h⟩
theorem i_any {K:pb_} {te:TE} {R:It->Hp->Prop} (h:te σ H (jfy_ K R)):iAny K te σ H R:=h
theorem jzs_ {K:pb_} {R:It->Hp->Prop} {z:Str} (h:R (Its (chs z)) H):jfy_ K R (.str z) H:=h
theorem jlc_ {K:pb_} {R:It->Hp->Prop} {a:Addr} {xs:List V} (h1:SqL K H a xs) (h:R (Itl K a) H):jfy_ K R (.ref a) H:=.inl ⟨xs,h1,h⟩
theorem jsr_ {K:pb_} {R:It->Hp->Prop} {a:Addr} {xs:List V} (h1:SqT K H a xs) (h:R (Itt K a) H):jfy_ K R (.ref a) H:=.inr ⟨xs,h1,h⟩
theorem jvs_ {te ts:TE} {R:It->Hp->Prop} (h:te σ H fun x H1=>ts σ H1 fun y H2=>∃ n:Nat,y=.int (n:Int)/\n < 1000000/\jbc_ n R x H2):jso_ te ts σ H R:=h
theorem jav_ {n:Nat} {R:It->Hp->Prop} {a:Addr} {xs:List V} (h1:H a=some (.lst xs)) (h:R (Ien n xs fun H=>H a=some (.lst xs)) H):jbc_ n R (.ref a) H:=.inl ⟨xs,h1,h⟩
theorem jzt_ {n:Nat} {R:It->Hp->Prop} {a:Addr} {xs:List V} (h1:H a=some (.tup xs)) (h:R (Ien n xs fun H=>H a=some (.tup xs)) H):jbc_ n R (.ref a) H:=.inr ⟨xs,h1,h⟩
theorem i_tyS {K:pb_} {z:Str} {R:Prop} (h:R):tyV K "str" (.str z) H/\R:=⟨rfl,h⟩
theorem i_tyL {K:pb_} {p:Addr} {xs:List V} {R:Prop} (h1:SqL K H p xs) (h:R):tyV K "list" (.ref p) H/\R:=⟨.inl ⟨rfl,xs,h1⟩,h⟩
theorem i_fI0 {g:Int->Int->V} {i j:Int} (h:Q (g i j) H):fI0 g (.int i) (.int j) H Q:=h
theorem i_fI {C:Int->Int->Prop} {g:Int->Int->V} {i j:Int} (c:C i j) (h:Q (g i j) H):fI C g (.int i) (.int j) H Q:=⟨c,h⟩
theorem i_addI {i j:Int} (h:Q (.int (i+j)) H):fAdd (.int i) (.int j) H Q:=h
theorem jrm_ {i j:Str} (c:i.length+j.length<=sizeLine) (h:Q (.str (i++j)) H):fAdd (.str i) (.str j) H Q:=⟨c,h⟩
theorem jdx_ {a b:Addr} {xs ys:List V} (h1:H a=some (.lst xs)) (h2:H b=some (.lst ys)) (c:xs.length+ys.length<=sizeLine) (h:∀ p,H p=none->Q (.ref p) (upd H p (.lst (xs++ys)))):fAdd (.ref a) (.ref b) H Q:=by
 show (match H a,H b with | some (.lst xs),some (.lst ys)=>_ | some (.tup xs),some (.tup ys)=>_ | _,_=>_)
 rw[h1,h2];exact⟨c,h⟩
theorem i_mulI {i j:Int} (c:CMul i j) (h:Q (.int (i * j)) H):fMul (.int i) (.int j) H Q:=⟨c,h⟩
theorem i_mulL {a:Addr} {xs:List V} {k:Int} (h1:H a=some (.lst xs)) (c:-1000000000<=k/\k<=1000000000/\xs.length * k.toNat<=1000000) (h:∀ p,H p=none->Q (.ref p) (upd H p (.lst (pv_ k.toNat xs).flatten))):fMul (.ref a) (.int k) H Q:=by
 show (match H a with | some (.lst xs)=>_ | _=>_)
 rw[h1];exact⟨by rw[p63];omega,by rw[p63];omega,qg_ c.2.2 (by decide),h⟩
theorem jza_ {K:pb_} {p:Addr} {i:Int} {xs:List V} {v:V} (h1:SqL K H p xs) (h2:atI xs i=some v) (h:Q v H):fIx K (.ref p) (.int i) H Q:=⟨xs,v,.inl h1,h2,h⟩
theorem z1_ {K:pb_} {p:Addr} {i:Int} {xs:List V} {v:V} (h1:seqR H p=some xs) (h2:atI xs i=some v) (h:Q v H):fIx K (.ref p) (.int i) H Q:=⟨xs,v,v0_ h1,h2,h⟩
theorem jrb_ {K:pb_} {z:Str} {i:Int} {c:Nat} (hz:z.length<=sizeLine) (h2:atI z.cps.toList i=some c) (h:Q (.str ⟨#[c]⟩) H):fIx K (.str z) (.int i) H Q:=by
 refine⟨hz,?_⟩
 rw[h2];exact h
theorem jth_ {p:Addr} {k:Int} {v:V} {xs:List V} {j:Nat} {K:Hp->Prop} (h1:H p=some (.lst xs)) (h2:ixN xs.length k=some j) (h:K (upd H p (.lst (xs.set j v)))):fSet (.ref p) (.int k) v H K:=by
 show (match H p with | some (.lst xs)=>(match ixN xs.length k with | some j=>K (upd H p (.lst (xs.set j v))) | none=>False) | _=>False)
 rw[h1];dsimp only;rw[h2];exact h
theorem i_neg {i:Int} (h:Q (.int (-i)) H):fNeg (.int i) H Q:=h
theorem i_eq {x y:V} (c:scal x y=true) (h:Q (.bl (decide (x=y))) H):fEq x y H Q:=.inl ⟨c,h⟩
theorem i_ne {x y:V} (c:scal x y=true) (h:Q (.bl (!decide (x=y))) H):fNe x y H Q:=.inl ⟨c,h⟩
theorem i_neD {x y:V} {d:Dt} (h1:Is H x d) (h2:Is H y d) (c:okD d) (h:Q (.bl false) H):fNe x y H Q:=.inr ⟨d,d,h1,h2,c,c,by rw[jed_ c];exact h⟩
theorem i_eqD {x y:V} {d e:Dt} (h1:Is H x d) (h2:Is H y e) (c:okD d) (c2:okD e) (h:Q (.bl (eqD d e)) H):fEq x y H Q:=.inr ⟨d,e,h1,h2,c,c2,h⟩
theorem i_neE {x y:V} {d e:Dt} (h1:Is H x d) (h2:Is H y e) (c:okD d) (c2:okD e) (h:Q (.bl (!eqD d e)) H):fNe x y H Q:=.inr ⟨d,e,h1,h2,c,c2,h⟩
theorem i_is {x:V} (h:Q (.bl (decide (x=.non))) H):fIs x .non H Q:=⟨rfl,h⟩
theorem jwr_ {x:V} (h:Q (.bl (!decide (x=.non))) H):jty_ x .non H Q:=⟨rfl,h⟩
theorem i_inS {neg:Bool} {i j:Str} (h:Q (.bl (xor neg (sx_ j i))) H):fIn neg (.str i) (.str j) H Q:=h
theorem i_inR {neg:Bool} {x:V} {p:Addr} {xs:List V} (h1:seqR H p=some xs) (c:xr_ x=true/\xs.all xr_=true) (h:Q (.bl (if neg then !inV x xs else inV x xs)) H):fIn neg x (.ref p) H Q:=by
 unfold fIn
 cases x <;> (dsimp only;rw[h1];exact⟨c.1,c.2,h⟩)
theorem jsk_ {K:pb_} {z:Str} (hz:z.length<=sizeLine) (h:Q (.int z.length) H):fLen K [.str z] H Q:=⟨hz,h⟩
theorem i_lenK {K:pb_} {p:Addr} {xs:List V} (h1:SqL K H p xs) (h:Q (.int xs.length) H):fLen K [.ref p] H Q:=⟨xs,.inl h1,h⟩
theorem i_lenR {K:pb_} {p:Addr} {xs:List V} (h1:seqR H p=some xs) (h:Q (.int xs.length) H):fLen K [.ref p] H Q:=⟨xs,v0_ h1,h⟩
theorem i_1I {g:Int->V} {i:Int} (h:Q (g i) H):f1I g [.int i] H Q:=h
theorem i_2I {g:Int->Int->V} {i j:Int} (h:Q (g i j) H):f2I g [.int i,.int j] H Q:=h
theorem jwq_ {p:Addr} {xs:List V} (h1:seqR H p=some xs) (h:∀ q,H q=none->Q (.ref q) (upd H q (.lst xs))):jrs_ [.ref p] H Q:=by
 show (match seqR H p with | some ys=>GetL H ys Q | none=>False)
 rw[h1];exact h
theorem vo_ {p:Addr} {xs:List V} (h1:seqR H p=some xs) (h:GetT H xs Q):jmi_ [.ref p] H Q:=by
 show (match seqR H p with | some ys=>GetT H ys Q | none=>False)
 rw[h1];exact h
theorem jze_ {K:pb_} {z:Str} {lo hi:Option Int} (hz:z.length<=sizeLine) (h:Q (.str (lr_ z lo hi)) H):fSl K (.str z) lo hi H Q:=⟨hz,h⟩
theorem jtq_ {K:pb_} {a:Addr} {xs:List V} {lo hi:Option Int} (h1:SqL K H a xs) (h:∀ q,H q=none->Q (.ref q) (upd H q (.lst (cutV xs lo hi)))):fSl K (.ref a) lo hi H Q:=.inl ⟨xs,h1,h⟩
theorem jzx_ {b:Bool} (h:QB b H):fTru (.bl b) H QB:=h
theorem jlx_ {l:Addr} {y:V} {xs:List V} (h1:H l=some (.lst xs)) (c:xs.length < sizeLine) (h:Q .non (upd H l (.lst (xs++[y])))):jhr_ (.ref l) [y] H Q:=by
 show (match H l with | some (.lst xs)=>xs.length < sizeLine/\Q .non (upd H l (.lst (xs++[y]))) | _=>False)
 rw[h1];exact⟨c,h⟩
theorem jmh_ {z:Str} {p:Addr} {ys:List Str} (h1:lstR H p=some (ys.map V.str)) (c:(ys.map (·.length)).sum+ys.length * z.length<=16777216) (h:Q (.str (te_ z ys)) H):jod_ (.str z) [.ref p] H Q:=by
 show (match lstR H p with | some xs=>(match strs? xs with | some ys=>(ys.map (·.length)).sum+ys.length * z.length<=16777216/\Q (.str (te_ z ys)) H | none=>False) | none=>False)
 rw[h1];dsimp only;rw[strs?_map];exact⟨c,h⟩
theorem i_SS {g:Str->Str->V} {z y:Str} (h:Q (g z y) H):fSS g (.str z) [.str y] H Q:=h
theorem i_SSI {g:Str->Str->Int->V} {z y:Str} {i:Int} (h:Q (g z y i) H):fSSI g (.str z) [.str y,.int i] H Q:=h
theorem i_allL {f:List Bool->Bool} {p:Addr} {bs:List Bool} (h1:lstR H p=some (bs.map V.bl)) (h:Q (.bl (f bs)) H):fAll f [.ref p] H Q:=by
 show (match lstR H p with | some ys=>(match bls? ys with | some bs=>Q (.bl (f bs)) H | none=>False) | none=>False)
 rw[h1];dsimp only;rw[bls?_map];exact h
end
theorem iteD {c A B:Prop} [Decidable c] (h1:c->A) (h2:¬ c->B):if decide c=true then A else B:=by
 by_cases h:c
 ·rw[if_pos (decide_eq_true h)];exact h1 h
 ·rw[if_neg (by rw[decide_eq_false h];exact ph_)];exact h2 h
theorem iteDT {c A B:Prop} [Decidable c] (hc:c) (h:A):if decide c=true then A else B:=by rw[if_pos (decide_eq_true hc)];exact h
theorem iteDF {c A B:Prop} [Decidable c] (hc:¬ c) (h:B):if decide c=true then A else B:=by rw[if_neg (by rw[decide_eq_false hc];exact ph_)];exact h
theorem u6_ {b:Bool} {A B:Prop} (h:b=true) (hA:A):if b=true then A else B:=by rw[if_pos h];exact hA
theorem vd_ {b:Bool} {A B:Prop} (h:b=false) (hB:B):if b=true then A else B:=by rw[h];exact iteF hB
theorem szc {xs:List V} (h:decide (xs.length<=1000)=true):xs.length<=sizeLine:=qg_ (of_decide_eq_true h) (by decide)
theorem szn {n:Nat} (h:n<=1000000):n<=sizeLine:=qg_ h (by decide)
theorem i_sz {xs:List V} {R:Prop} (h:xs.length<=sizeLine) (r:R):xs.length<=sizeLine/\R:=⟨h,r⟩
theorem jyb_ {H:Hp} {a:Addr} {xs:List V} (h:H a=some (.tup xs)):tyN H (.ref a)=some "tuple":=by
 show (match H a with | some (.lst _)=>some "list" | some (.frz _ (.lst _))=>some "list" | some (.tup _)=>some "tuple" | _=>none)=_
 rw[h]
theorem jxc_ {H:Hp} {a:Addr} {xs:List V} (h:H a=some (.lst xs)):tyN H (.ref a)=some "list":=by
 show (match H a with | some (.lst _)=>some "list" | some (.frz _ (.lst _))=>some "list" | some (.tup _)=>some "tuple" | _=>none)=_
 rw[h]
theorem ji_ {H:Hp} {p:Addr} (h:H p=none) (o:HO):Same H (upd H p o):=fun b u q=>by rw[jf_ (jg_ q h)];exact q
theorem iteB {b:Bool} {A B:Prop} (h1:b=true->A) (h2:b=false->B):if b=true then A else B:=by
 cases b
 ·exact iteF (h2 rfl)
 ·exact iteT (h1 rfl)
theorem jnr_ {α:Type} (x:α) (xs:List α):atI (x::xs) 0=some x:=xc_ (xs:=x::xs) (j:=0) (v:=x) rfl
theorem jmw_ {α:Type} (x y:α) (xs:List α):atI (x::y::xs) 1=some y:=xc_ (xs:=x::y::xs) (j:=1) (v:=y) rfl
theorem jrc_ {α:Type} (x y z:α) (xs:List α):atI (x::y::z::xs) 2=some z:=xc_ (xs:=x::y::z::xs) (j:=2) (v:=z) rfl
theorem jyv_ {α:Type} (x y z u:α) (xs:List α):atI (x::y::z::u::xs) 3=some u:=xc_ (xs:=x::y::z::u::xs) (j:=3) (v:=u) rfl
theorem jmu_ {n:Nat} {i:Int} (h:0<=i) (h2:i < n):ixN n i=some i.toNat:=by
 unfold ixN;rw[if_pos h,if_pos h2]
theorem jqy_ {H:Hp} {p:Addr} {xs:List V}:seqR (upd H p (.lst xs)) p=some xs:=jw_ jb_
theorem juf_ {H:Hp} {p:Addr} {xs:List V}:lstR (upd H p (.lst xs)) p=some xs:=x5_ jb_
theorem jpv_ {H:Hp} {p:Addr} {xs:List V}:seqR (upd H p (.tup xs)) p=some xs:=jcq_ jb_
theorem zy_ {α:Type} {xs:List α} {i:Int} {v:α} (h:0<=i) (h2:xs[i.toNat]?=some v):atI xs i=some v:=by
 have e:i=((i.toNat:Nat):Int):=by omega
 rw[e];exact xc_ h2
theorem CMul.l {i j:Int} (h1:-(2 ^ 64) < i) (h2:i < 2 ^ 64):CMul i j:=.inl ⟨h1,h2⟩
theorem CMul.r {i j:Int} (h1:-(2 ^ 64) < j) (h2:j < 2 ^ 64):CMul i j:=.inr ⟨h1,h2⟩
def Off (p:Addr) (H H':Hp):Prop:=∀ b,b≠p->H' b=H b
def Kept (p:Addr) (H H':Hp):Prop:=∀ b o,b≠p->H b=some o->H' b=some o
theorem Off.kept {p:Addr} {H H':Hp} (h:Off p H H'):Kept p H H':=fun b o hb e=>(h b hb).trans e
theorem Off.refl (p:Addr) (H:Hp):Off p H H:=fun _ _=>rfl
theorem Off.trans {p:Addr} {H H1 H2:Hp} (a:Off p H H1) (b:Off p H1 H2):Off p H H2:=fun c hc=>(b c hc).trans (a c hc)
theorem Off.upd {p:Addr} {H H1:Hp} (a:Off p H H1) (o:HO):Off p H (L2.upd H1 p o):=fun c hc=>(jf_ hc).trans (a c hc)
theorem Kept.refl (p:Addr) (H:Hp):Kept p H H:=fun _ _ _ e=>e
theorem Kept.trans {p:Addr} {H H1 H2:Hp} (a:Kept p H H1) (b:Kept p H1 H2):Kept p H H2:=fun c o hc e=>b c o hc (a c o hc e)
theorem Kept.new {p q:Addr} {H H1:Hp} (a:Kept p H H1) (hq:H1 q=none) (o:HO):Kept p H (L2.upd H1 q o):=fun c u hc e=>by
 rw[jf_ (jg_ (a c u hc e) hq)];exact a c u hc e
end L2
namespace L2
def jex_ (sep:List Nat):List (List Nat)->List Nat
 | []=>[]
 | [x]=>x
 | x::y::r=>x++sep++jex_ sep (y::r)
theorem jgj_:∀ ls:List (List Nat),jex_ [] ls=ls.flatten
 | []=>rfl
 | [x]=>by simp[jex_]
 | x::y::r=>by
  have:=jgj_ (y::r)
  simp only[jex_,this,py_,q4_]
def Rise (b n:Nat):List Nat->Prop
 | []=>True
 | g::gs=>b < g/\g < n/\Rise g n gs
theorem Rise.mem {n:Nat}:∀{b:Nat} {gs:List Nat},Rise b n gs->∀ g∈gs,b < g/\g < n
 | _,[],_,g,h=>by cases h
 | b,g::gs,r,k,h=>by
  rcases pz_.mp h with rfl | h
  ·exact⟨r.1,r.2.1⟩
  ·have:=Rise.mem r.2.2 k h
   exact⟨Nat.lt_trans r.1 this.1,this.2⟩
def vb_ (c:Nat):Bool:=decide (97<=c/\c<=122)
def Low (l:List Nat):Prop:=∀ c∈l,vb_ c=true
structure RS where
 w:List Nat
 g:List Nat
 lacks:Bool
end L2
namespace L2
open PySem PySem.Builtin PySem.Builtin.Str
def S (l:List Nat):Str:=⟨l.toArray⟩
theorem jyn_ (l:List Nat):(S l).cps.toList=l:=rfl
theorem js_ (l:List Nat):(S l).length=l.length:=by show l.toArray.size=_;simp
theorem jcz_ (a b:List Nat):S a++S b=S (a++b):=by
 show (⟨a.toArray++b.toArray⟩:Str)=⟨(a++b).toArray⟩
 rw[List.append_toArray]
theorem jge_ {a b:List Nat} (h:S a=S b):a=b:=by
 have:=congrArg (fun z:Str=>z.cps.toList) h
 exact this
def sx (n d:Nat):Option Int->Nat
 | none=>d
 | some v=>if v < 0 then (v+(n:Int)).toNat else min v.toNat n
def cutA {α:Type} (l:List α) (lo hi:Option Int):List α:=(l.drop (sx l.length 0 lo)).take (sx l.length l.length hi - sx l.length 0 lo)
theorem jiu_ (n d:Nat) (hd:d<=n) (o:Option Int):sx n d o<=n:=by
 cases o with
 | none=>exact hd
 | some v=>simp only[sx];split <;> omega
theorem jwo_ (lo hi:Option Int) (n:Nat):strSliceIndices lo hi 1 n=(q7_ (sx n n hi - sx n 0 lo)).map (sx n 0 lo+·):=by
 have key:∀(a c:Nat),sliceRange (a:Int) (c:Int) 1=(q7_ (c - a)).map (a+·):=fun a c=>by
  unfold sliceRange
  have e:(if (1:Int) > 0 then (if (a:Int) < (c:Int) then ((c:Int) - a+1 - 1) / 1 else 0) else (if (a:Int) > (c:Int) then ((a:Int) - c - 1 - 1) / (-1) else 0)).toNat=c - a:=by
   rw[if_pos (by decide)]
   split
   ·rw[Int.ediv_one];omega
   ·omega
  simp only[e]
  apply rz_
  intro k _
  omega
 have cl:∀ v:Int,max 0 (min (if v < 0 then v+(n:Int) else v) (n:Int))=(((if v < 0 then (v+(n:Int)).toNat else min v.toNat n):Nat):Int):=fun v=>by
  by_cases hv:v < 0
  ·simp only[if_pos hv];omega
  ·simp only[if_neg hv];omega
 unfold strSliceIndices
 have h1:((1:Int) > 0)=True:=by simp
 cases lo with
 | none =>
  cases hi with
  | none=>simp only[h1,if_true];exact key 0 n
  | some v=>simp only[h1,if_true,cl];exact key 0 _
 | some u =>
  cases hi with
  | none=>simp only[h1,if_true,cl];exact key _ n
  | some v=>simp only[h1,if_true,cl];exact key _ _
theorem jyx_ (l:List Nat):∀(m a:Nat),a+m<=l.length->((q7_ m).map (a+·)).filterMap (l.toArray[·]?)=(l.drop a).take m
 | 0,a,_=>by simp
 | m+1,a,h=>by
  have ha:a < l.length:=by omega
  rw[List.range_succ_eq_map,pj_,tf_,qn_]
  have e:((a+·)∘Nat.succ)=((a+1)+·):=by funext k;simp;omega
  have:=jyx_ l m (a+1) (by omega)
  rw[e,this,rm_ ha,List.take_succ_cons]
  simp[ha]
theorem jqr_ (l:List Nat) (lo hi:Option Int) :
  (if ((1:Int) == 1&&(strSliceIndices lo hi 1 (S l).length).length == (S l).length)=true then S l else ⟨((strSliceIndices lo hi 1 (S l).length).filterMap ((S l).cps[·]?)).toArray⟩:Str)=S (cutA l lo hi):=by
 have h1:=jiu_ l.length l.length (pg_ _) hi
 have h2:=jiu_ l.length 0 (qe_ _) lo
 rw[js_,jwo_]
 unfold cutA
 generalize sx l.length l.length hi=c at *
 generalize sx l.length 0 lo=a at *
 split
 ·rename_i hc
  simp only[pc_,List.length_range,beq_self_eq_true,so_,beq_iff_eq] at hc
  by_cases h0:l.length=0
  ·have:l=[]:=List.length_eq_zero_iff.mp h0
   subst this;simp
  ·have ha:a=0:=by omega
   have hc':c=l.length:=by omega
   subst ha hc'
   simp
 ·by_cases hac:a<=c
  ·show S _=S _
   congr 1
   exact jyx_ l _ a (by omega)
  ·have:c - a=0:=by omega
   rw[this]
   simp[S]
theorem jkh_ (s sub:Str) (hi:Nat):∀(l:List Nat) (arr:Array Nat) (f:Nat),1<=arr.size->(forIn l (arr,f) (tq_ s sub hi 1)).run.fst=arr
 | [],_,_,_=>rfl
 | a::l,arr,f,h=>by
  rw[si_]
  unfold tq_
  have c:¬ ((((arr,f).fst.size < 1/\(arr,f).snd<=a)/\a+sub.length<=hi)/\subAt s sub a=true):=fun q=>by
   have t:arr.size < 1:=q.1.1.1
   omega
  rw[if_neg c]
  exact jkh_ s sub hi l arr f h
theorem jfl_ (s sub:Str) (hi:Nat):∀(l:List Nat) (f:Nat),(∀ i∈l,f<=i) ->
  (forIn l ((#[]:Array Nat),f) (tq_ s sub hi 1)).run.fst.toList=(l.find? fun i=>decide (i+sub.length<=hi)&&subAt s sub i).toList
 | [],_,_=>rfl
 | a::l,f,hf=>by
  rw[si_]
  unfold tq_
  have ha:f<=a:=hf a p5_
  by_cases hc:a+sub.length<=hi/\subAt s sub a=true
  ·have c1:((((#[]:Array Nat),f).fst.size < 1/\((#[]:Array Nat),f).snd<=a)/\a+sub.length<=hi)/\subAt s sub a=true:=⟨⟨⟨by simp,ha⟩,hc.1⟩,hc.2⟩
   rw[if_pos c1]
   have e:=jkh_ s sub hi l (#[].push a) (a+sub.length) (by simp)
   have e2:(decide (a+sub.length<=hi)&&subAt s sub a)=true:=by simp[hc.1,hc.2]
   rw[qq_,e2]
   show ((forIn l ((#[]:Array Nat).push a,a+sub.length) (tq_ s sub hi 1)).run.fst).toList=_
   rw[e]
   simp
  ·have c2:¬ (((((#[]:Array Nat),f).fst.size < 1/\((#[]:Array Nat),f).snd<=a)/\a+sub.length<=hi)/\subAt s sub a=true):=fun q=>hc ⟨q.1.2,q.2⟩
   rw[if_neg c2]
   have e2:(decide (a+sub.length<=hi)&&subAt s sub a)=false:=by
    rw[Bool.eq_false_iff]
    intro q
    simp only[qi_,decide_eq_true_eq] at q
    exact hc q
   rw[qq_,e2]
   exact jfl_ s sub hi l f fun i hi'=>hf i (pt_ _ hi')
def fits (p l:List Nat) (i:Nat):Bool:=decide (i+p.length<=l.length)&&((l.drop i).take p.length == p)
theorem jhm_ (l p:List Nat) (i:Nat):subAt (S l) (S p) i=((l.drop i).take p.length == p):=by
 rw[StrLaws.subAt_eq,js_];rfl
theorem occ_S (l p:List Nat) (k:Nat):occurrences (S l) (S p) k (S l).length 1=((rg_ k (l.length+1 - k)).find? (fits p l)).toList:=by
 rw[StrLaws.occ_eq,js_,jfl_ _ _ _ _ k (fun i hi=>by have:=List.mem_range'.mp hi;omega)]
 have e:(fun i=>decide (i+(S p).length<=l.length)&&subAt (S l) (S p) i)=fits p l:=by
  funext i
  rw[jhm_,js_];rfl
 rw[e]
def vj_ (p l:List Nat) (k:Nat):Int:=match (rg_ k (l.length+1 - k)).find? (fits p l) with
 | some i=>(i:Int)
 | none=>-1
theorem jjd_ (l p:List Nat) (k:Nat):(match occurrences (S l) (S p) k (S l).length 1 with | i::_=>(i:Int) | []=>-1)=vj_ p l k:=by
 rw[occ_S]
 unfold vj_
 cases (rg_ k (l.length+1 - k)).find? (fits p l) <;> rfl
theorem jzb_ (sep:List Nat):∀ ls:List (List Nat),Str.join (S sep) (ls.map S)=S (jex_ sep ls)
 | []=>rfl
 | [x]=>rfl
 | x::y::r=>by
  have ih:=jzb_ sep (y::r)
  show S x++S sep++Str.join (S sep) ((y::r).map S)=_
  rw[ih,jcz_,jcz_]
  rfl
theorem jvu_ (big:List Nat) (c:Nat):(!(occurrences (S big) (S [c]) 0 (S big).length 1).isEmpty)=decide (c∈big):=by
 have:=ly_ (S big) c
 exact this
end L2
namespace L2
open PySem PySem.Spec PyProof.Rows
def LET:Str:=S [97,98,99,100,101,102,103,104,105,106,107,108,109,110,111,112,113,114,115,116,117,118,119,120,121,122]
theorem let_eq:qd_ "abcdefghijklmnopqrstuvwxyz"=LET:=by decide +kernel
theorem jxy_ (c:Nat):sx_ LET (S [c])=vb_ c:=by
 show (!(sl_ LET ⟨#[c]⟩ 0 LET.length 1).isEmpty)=_
 rw[ly_]
 show decide (c∈[97,98,99,100,101,102,103,104,105,106,107,108,109,110,111,112,113,114,115,116,117,118,119,120,121,122])=_
 unfold vb_
 rw[decide_eq_decide]
 exact(List.mem_range'_1 (s:=97) (n:=26)).trans ⟨fun h=>⟨h.1,Nat.le_of_lt_succ h.2⟩,fun h=>⟨h.1,Nat.lt_succ_of_le h.2⟩⟩
def FeedAt (H:Hp) (p:Addr) (n:Nat):Prop:=∃ a b c:Int,H p=some (.lst [.int a,.int b,.int c])/\0<=a/\0<=b/\b < 2147483399/\0<=c/\c<=n
theorem FeedAt.mono {H:Hp} {p:Addr} {n m:Nat} (h:FeedAt H p n) (e:n<=m):FeedAt H p m:=by
 obtain⟨a,b,c,h1,h2,h3,h4,h5,h6⟩:=h
 exact⟨a,b,c,h1,h2,h3,h4,h5,by omega⟩
theorem FeedAt.new {H:Hp} {p q:Addr} {n:Nat} {o:HO} (h:FeedAt H p n) (hq:H q=none):FeedAt (upd H q o) p n:=by
 obtain⟨a,b,c,h1,r⟩:=h
 exact⟨a,b,c,by rw[jf_ (jg_ h1 hq)];exact h1,r⟩
theorem FeedAt.some {H:Hp} {p:Addr} {n:Nat} (h:FeedAt H p n):∃ o,H p=some o:=by
 obtain⟨a,b,c,h1,r⟩:=h
 exact⟨_,h1⟩
def zz_:Nat:=1000000
def jlj_ (K:pb_):Sp:=fun vs H Q _=>∃(a:Addr) (ns:List Int) (k:Int),vs=[.ref a,.int k]/\SqL K H a (ns.map V.int)/\0<=k/\k < 1000 /\
 ∀(p:Addr) (H':Hp),H p=none->FeedAt H' p 0->Off p H H'->Q (.ref p) H'
def yo_:Sp:=fun vs H Q _=>∃(p:Addr) (m:Int) (n:Nat),vs=[.ref p,.int m]/\FeedAt H p n/\n < zz_/\0 < m/\m < 1073741824 /\
 ∀(d:Int) (H':Hp),0<=d->d < m->FeedAt H' p (n+1)->Off p H H'->Q (.int d) H'
def jap_:Sp:=fun vs H Q _=>∃(p:Addr) (n:Nat),vs=[.ref p]/\FeedAt H p n/\n+3 < zz_ /\
 ∀(l:List Nat) (H':Hp),Low l->2<=l.length->l.length<=26->FeedAt H' p (n+3)->Off p H H'->Q (.str (S l)) H'
def jdd_:Sp:=fun vs H Q _=>∃(p:Addr) (n:Nat) (l:List Nat) (m:Nat),vs=[.ref p,.str (S l),.int m]/\FeedAt H p n/\n+30 < zz_/\Low l/\1<=l.length/\l.length<=26/\1<=m/\m<=25 /\
 ∀(w:List Nat) (H':Hp),Low w->1<=w.length->w.length<=m->FeedAt H' p (n+30)->Kept p H H'->Q (.str (S w)) H'
end L2
namespace L2
open PySem PySem.Spec PyProof.Rows
end L2
namespace L2
open PySem PySem.Spec PyProof.Rows
theorem joe_ (l:List Nat) (lo hi:Option Int):lr_ (S l) lo hi=S (cutA l lo hi):=jqr_ l lo hi
theorem find_S (l p:List Nat):Txt.find (S l) (S p)=vj_ p l 0:=jjd_ l p 0
theorem jvn_ (l p:List Nat) (k:Nat):Txt.find3 (S l) (S p) (k:Int)=vj_ p l k:=by
 have e:fromIndex (S l).length (k:Int)=k:=by
  unfold fromIndex
  rw[if_neg (by omega)];omega
 show (match sl_ (S l) (S p) (fromIndex (S l).length (k:Int)) (S l).length 1 with | k::_=>(k:Int) | []=>-1)=_
 rw[e];exact jjd_ l p k
theorem jqv_ (l p:List Nat) (k:Nat):ku_ (S l) (S p) (k:Int)=fits p l k:=by
 have e:fromIndex (S l).length (k:Int)=k:=by
  unfold fromIndex
  rw[if_neg (by omega)];omega
 unfold ku_
 rw[e,jhm_,js_,js_];rfl
theorem join_S (sep:List Nat) (ls:List (List Nat)):te_ (S sep) (ls.map S)=S (jex_ sep ls):=by
 show Builtin.Str.glued (S sep) (ls.map S)=_
 rw[StrLaws.glued_eq_join,jzb_]
theorem jku_ (big:List Nat) (c:Nat):sx_ (S big) (S [c])=decide (c∈big):=jvu_ big c
theorem chs_S (l:List Nat):chs (S l)=l.map fun c=>V.str (S [c]):=rfl
theorem jvy_ {l:List Nat} {i:Nat} (h:i < l.length):(chs (S l)).getD i .non=V.str (S [l[i]]):=by
 rw[chs_S];simp[pe_,h]
theorem jpn_ {α:Type} (l:List α) (i j:Nat) (h:j<=l.length) (hij:i<=j):cutA l (some (i:Int)) (some (j:Int))=(l.drop i).take (j - i):=by
 unfold cutA
 have e1:sx l.length 0 (some (i:Int))=i:=by simp only[sx];rw[if_neg (by omega)];omega
 have e2:sx l.length l.length (some (j:Int))=j:=by simp only[sx];rw[if_neg (by omega)];omega
 rw[e1,e2]
theorem vn_ {α:Type} (l:List α) (i:Nat) (h:i<=l.length):cutA l (some (i:Int)) none=l.drop i:=by
 unfold cutA
 have e1:sx l.length 0 (some (i:Int))=i:=by simp only[sx];rw[if_neg (by omega)];omega
 rw[e1]
 show (l.drop i).take (l.length - i)=_
 rw[rj_ (by simp)]
theorem jhy_ (xs:List V) (lo hi:Option Int):cutV xs lo hi=cutA xs lo hi:=rfl
theorem ul_ {l:List Nat} (h:Low l) (lo hi:Option Int):Low (cutA l lo hi):=fun c hc=>h c (se_ (ta_ hc))
theorem xu_ {a b:List Nat} (ha:Low a) (hb:Low b):Low (a++b):=fun c hc=>(p0_.mp hc).elim (ha c) (hb c)
theorem zp_ {α:Type} (l:List α) (lo hi:Option Int):(cutA l lo hi).length=sx l.length l.length hi - sx l.length 0 lo:=by
 have h1:=jiu_ l.length l.length (pg_ _) hi
 unfold cutA
 rw[p2_,px_]
 omega
def LETL:List Nat:=[97,98,99,100,101,102,103,104,105,106,107,108,109,110,111,112,113,114,115,116,117,118,119,120,121,122]
theorem uw_:Low LETL:=by unfold Low;decide
theorem jub_:qd_ "abcdefghijklmnopqrstuvwxyz"=S LETL:=let_eq
theorem x1_:qd_ ""=S []:=by decide +kernel
theorem jnm_:qd_ "."=S [46]:=by decide +kernel
theorem zah_ (c:Nat):sx_ (S LETL) (S [c])=vb_ c:=jxy_ c
theorem jce_ (ws:List Nat):te_ (S []) (ws.map fun c=>S [c])=S ws:=by
 have e:(ws.map fun c=>S [c])=(ws.map fun c=>[c]).map S:=by rw[qn_];rfl
 rw[e,join_S,jgj_]
 congr 1
 clear e
 induction ws with
 | nil=>rfl
 | cons c ws ih=>simp only[pj_,q4_];rw[ih];rfl
theorem joi_ (ws:List Nat):((ws.map fun c=>S [c]).map (·.length)).sum=ws.length:=by
 induction ws with
 | nil=>rfl
 | cons c ws ih=>simp only[pj_,ru_,pr_,js_,p1_];rw[qn_] at ih ⊢;omega
theorem jmy_ (ws:List Nat):(ws.map fun c=>V.str (S [c]))=(ws.map fun c=>S [c]).map V.str:=by rw[qn_];rfl
theorem FeedAt.same {H H':Hp} {p:Addr} {n:Nat} (h:FeedAt H p n) (k:∀ b o,H b=Option.some o->H' b=Option.some o):FeedAt H' p n:=by
 obtain⟨a,b,c,h1,r⟩:=h
 exact⟨a,b,c,k _ _ h1,r⟩
theorem Kept.same {p:Addr} {H H1 H2:Hp} (a:Kept p H H1) (b:∀ c o,H1 c=some o->H2 c=some o):Kept p H H2:=fun c o hc e=>b c o (a c o hc e)
theorem Kept.off {p:Addr} {H H1 H2:Hp} (a:Kept p H H1) (b:Off p H1 H2):Kept p H H2:=fun c o hc e=>(b c hc).trans (a c o hc e)
theorem jev_ {K:pb_} {H:Hp} {Q:VK} {l:List Nat} {i:Int} {c:Nat} (hz:l.length<=1000000) (h2:atI l i=some c) (h:Q (.str (S [c])) H):fIx K (.str (S l)) (.int i) H Q:=jrb_ (szn (by rw[js_];exact hz)) h2 h
theorem xk_ {H:Hp} {Q:VK} {a b:List Nat} (hz:a.length+b.length<=1000000) (h:Q (.str (S (a++b))) H):fAdd (.str (S a)) (.str (S b)) H Q:=jrm_ (szn (by rw[js_,js_];exact hz)) (by rw[jcz_];exact h)
theorem i_slC {K:pb_} {H:Hp} {Q:VK} {l:List Nat} {lo hi:Option Int} (hz:l.length<=1000000) (h:Q (.str (S (cutA l lo hi))) H):fSl K (.str (S l)) lo hi H Q:=jze_ (szn (by rw[js_];exact hz)) (by rw[joe_];exact h)
theorem i_lenC {K:pb_} {H:Hp} {Q:VK} {l:List Nat} (hz:l.length<=1000000) (h:Q (.int (l.length:Int)) H):fLen K [.str (S l)] H Q:=jsk_ (szn (by rw[js_];exact hz)) (by rw[js_];exact h)
theorem juc_ {H:Hp} {Q:VK} {a:Addr} {x:V} {k:Int} (h1:H a=some (.lst [x])) (c:0<=k/\k<=1000000) (h:∀ p,H p=none->Q (.ref p) (upd H p (.lst (pv_ k.toNat x)))):fMul (.ref a) (.int k) H Q:=by
 refine i_mulL h1 ⟨by omega,by omega,by simp;omega⟩ fun p hp=>?_
 have e:(pv_ k.toNat [x]).flatten=pv_ k.toNat x:=by
  generalize k.toNat=m
  induction m with
  | zero=>rfl
  | succ m ih=>rw[ry_,q4_,ih];rfl
 rw[e];exact h p hp
theorem jdq_ {α β:Type} (g:α->β) (l:List α) (lo hi:Option Int):cutA (l.map g) lo hi=(cutA l lo hi).map g:=by
 unfold cutA
 rw[pc_,List.map_take,List.map_drop]
def patD (x:List Nat×List Int):Dt:=.tup [.str (S x.1),.tup (x.2.map Dt.int)]
def jeq_ (xs:List (List Nat×List Int)):Dt:=.lst (xs.map patD)
structure GP (x:List Nat×List Int):Prop where
 ne:1<=x.1.length
 le:x.1.length<=22
 len:x.2.length=x.1.length+1
 num:∀ v∈x.2,0<=v/\v<=9
 cs:∀ c∈x.1,c < 128
theorem jak_ {H:Hp}:∀{g:List Int} {xs:List V},L2.IsL H xs (g.map Dt.int)->xs=g.map V.int
 | [],[],_=>rfl
 | [],_::_,h=>by simp only[p8_,L2.IsL] at h
 | _::_,[],h=>by simp only[pj_,L2.IsL] at h
 | k::g,x::xs,h=>by
  simp only[pj_,L2.IsL,Is] at h
  rw[h.1,jak_ h.2];rfl
theorem jbk_ {H:Hp} {v:V} {x:List Nat×List Int} (h:Is H v (patD x)):∃ a t,v=.ref a/\H a=some (.tup [.str (S x.1),.ref t])/\H t=some (.tup (x.2.map V.int)):=by
 simp only[Is,patD] at h
 obtain⟨a,xs,rfl,ha,hxs⟩:=h
 match xs,hxs with
 | [],h=>simp only[L2.IsL] at h
 | [_],h=>simp only[L2.IsL] at h;exact h.2.elim
 | _::_::_::_,h=>simp only[L2.IsL] at h;exact h.2.2.elim
 | [y,z],h =>
  simp only[L2.IsL,Is] at h
  obtain⟨rfl,⟨t,ys,rfl,ht,hys⟩,_⟩:=h
  have:=jak_ hys
  subst this
  exact⟨a,t,rfl,ha,ht⟩
theorem yg_ {H:Hp} {a t:Addr} {x:List Nat×List Int} (h1:H a=some (.tup [.str (S x.1),.ref t])) (h2:H t=some (.tup (x.2.map V.int))):Is H (.ref a) (patD x):=by
 simp only[Is,patD,L2.IsL]
 exact⟨a,_,rfl,h1,rfl,⟨t,_,rfl,h2,IsL.ints _ _⟩,trivial⟩
theorem jrv_ {H:Hp} {v:V} {xs:List (List Nat×List Int)} (h:Is H v (jeq_ xs)):∃ a ys,v=.ref a/\H a=some (.lst ys)/\L2.IsL H ys (xs.map patD):=by
 simp only[Is,jeq_] at h
 exact h
theorem IsL.append {H:Hp}:∀{ds es:List Dt} {xs ys:List V},L2.IsL H xs ds->L2.IsL H ys es->L2.IsL H (xs++ys) (ds++es)
 | [],_,[],_,_,h=>h
 | d::ds,es,x::xs,ys,h,k=>by
  simp only[L2.IsL] at h
  simp only[q3_,L2.IsL]
  exact⟨h.1,IsL.append h.2 k⟩
 | [],_,_::_,_,h,_=>by simp only[L2.IsL] at h
 | _::_,_,[],_,h,_=>by simp only[L2.IsL] at h
theorem head_dot {s:List Nat}:(cutA s none (some 1)=[46])↔s.head?=some 46:=by
 cases s with
 | nil=>simp[cutA,sx]
 | cons c s =>
  have e:cutA (c::s) none (some 1)=[c]:=by
   unfold cutA
   have e2:sx (c::s).length (c::s).length (some 1)=1:=by simp only[sx];rw[if_neg (by decide)];simp
   rw[e2];rfl
  rw[e];simp
theorem last_dot {s:List Nat}:(cutA s (some (-1)) none=[46])↔s.getLast?=some 46:=by
 cases h:s.getLast? with
 | none =>
  have:s=[]:=by simpa using h
  subst this
  simp[cutA,sx]
 | some c =>
  obtain⟨r,rfl⟩:=wy_.mp h
  have e:cutA (r++[c]) (some (-1)) none=[c]:=by
   unfold cutA
   have e1:sx (r++[c]).length 0 (some (-1))=r.length:=by simp only[sx];rw[if_pos (by decide)];simp;omega
   have e2:sx (r++[c]).length (r++[c]).length none=r.length+1:=by simp[sx]
   rw[e1,e2];simp
  rw[e];simp
def xl_ (l:List Nat):Bool:=decide (0 < l.length)&&l.all vb_
end L2
namespace L2
abbrev Pat:=List Nat×List Int
def mx (a b:Int):Int:=if b > a then b else a
def put (t:List Int) (p:Nat) (v:Int):List Int:=t.set p (mx (t.getD p 0) v)
theorem uc_ (t:List Int) (p:Nat) (v:Int):(put t p v).length=t.length:=by unfold put;simp
theorem jmx_ (t:List Int) (p q:Nat) (v:Int) (hq:q < t.length):(put t p v).getD q 0=if p=q then mx (t.getD q 0) v else t.getD q 0:=by
 unfold put
 simp only[pe_,List.getElem?_set]
 by_cases h:p=q
 ·subst h;simp[hq]
 ·simp[h]
def laid (t:List Int) (b:Nat):List Int->List Int
 | []=>t
 | v::r=>laid (put t b v) (b+1) r
theorem jgd_ (b:Nat) (v:Int):∀(r:List Int) (t:List Int) (c:Nat),laid t c (r++[v])=put (laid t c r) (c+r.length) v
 | [],t,c=>by simp[laid]
 | x::r,t,c=>by
  simp only[q3_,laid,pr_]
  rw[jgd_ b v r]
  congr 1;omega
theorem xh_:∀(ns:List Int) (t:List Int) (b:Nat),(laid t b ns).length=t.length
 | [],_,_=>rfl
 | v::r,t,b=>by simp only[laid];rw[xh_ r,uc_]
def jbe_ (m:Int) (p b:Nat):List Int->Int
 | []=>m
 | v::r=>jbe_ (if b=p then mx m v else m) p (b+1) r
theorem jjy_:∀(ns:List Int) (t:List Int) (b q:Nat),q < t.length->(laid t b ns).getD q 0=jbe_ (t.getD q 0) q b ns
 | [],_,_,_,_=>rfl
 | v::r,t,b,q,h=>by
  simp only[laid,jbe_]
  rw[jjy_ r _ _ q (by rw[uc_];exact h),jmx_ t b q v h]
def zf_ (p f:List Nat):List Nat:=(q7_ f.length).filter (fits p f)
def u5_ (f:List Nat) (t:List Int) (x:Pat):List Int:=(zf_ x.1 f).foldl (fun t b=>laid t b x.2) t
def jfm_ (f:List Nat) (t:List Int) (xs:List Pat):List Int:=xs.foldl (u5_ f) t
def numP (f:List Nat) (p:Nat) (m:Int) (x:Pat):Int:=(zf_ x.1 f).foldl (fun m b=>jbe_ m p b x.2) m
def numA (f:List Nat) (p:Nat) (m:Int) (xs:List Pat):Int:=xs.foldl (numP f p) m
theorem jcf_ (ns:List Int):∀(bs:List Nat) (t:List Int),(bs.foldl (fun t b=>laid t b ns) t).length=t.length/\∀ q,q < t.length->(bs.foldl (fun t b=>laid t b ns) t).getD q 0=bs.foldl (fun m b=>jbe_ m q b ns) (t.getD q 0)
 | [],t=>⟨rfl,fun _ _=>rfl⟩
 | b::bs,t=>by
  obtain⟨h1,h2⟩:=jcf_ ns bs (laid t b ns)
  rw[xh_] at h1 h2
  refine⟨by simpa using h1,fun q hq=>?_⟩
  simp only[to_]
  rw[h2 q hq,jjy_ ns t b q hq]
theorem jgf_ (f:List Nat):∀(xs:List Pat) (t:List Int),(jfm_ f t xs).length=t.length/\∀ q,q < t.length->(jfm_ f t xs).getD q 0=numA f q (t.getD q 0) xs
 | [],t=>⟨rfl,fun _ _=>rfl⟩
 | x::xs,t=>by
  obtain⟨h1,h2⟩:=jcf_ x.2 (zf_ x.1 f) t
  obtain⟨h3,h4⟩:=jgf_ f xs (u5_ f t x)
  have e:(u5_ f t x).length=t.length:=h1
  rw[e] at h3 h4
  refine⟨h3,fun q hq=>?_⟩
  show (jfm_ f (u5_ f t x) xs).getD q 0=_
  rw[h4 q hq]
  show numA f q ((u5_ f t x).getD q 0) xs=numA f q (numP f q (t.getD q 0) x) xs
  rw[show (u5_ f t x).getD q 0=numP f q (t.getD q 0) x from h2 q hq]
def frame (w:List Nat):List Nat:=46::(w++[46])
theorem y3_ (w:List Nat):(frame w).length=w.length+2:=by simp[frame]
def vals (xs:List Pat) (w:List Nat):List Int:=(q7_ (w.length - 1)).map fun j=>numA (frame w) (j+2) 0 xs
theorem ya_ (xs:List Pat) (w:List Nat):(vals xs w).length=w.length - 1:=by simp[vals]
theorem jim_ (xs:List Pat) (w:List Nat) (j:Nat) (h:j < w.length - 1):(vals xs w)[j]?=some (numA (frame w) (j+2) 0 xs):=by
 simp[vals,h]
theorem joa_ (n q:Nat):(pv_ n (0:Int)).getD q 0=0:=by
 simp only[pe_,w7_];split <;> rfl
theorem jjl_ {a b:List Int} (h:a.length=b.length) (k:∀ q,q < a.length->a.getD q 0=b.getD q 0):a=b:=by
 apply List.ext_getElem h
 intro i h1 h2
 have:=k i h1
 simpa [pe_,h1,h2] using this
theorem jie_ (xs:List Pat) (w:List Nat) (h:1<=w.length):cutA (jfm_ (frame w) (pv_ ((frame w).length+1) 0) xs) (some 2) (some (-2))=vals xs w:=by
 obtain⟨h1,h2⟩:=jgf_ (frame w) xs (pv_ ((frame w).length+1) 0)
 rw[t4_] at h1 h2
 unfold cutA
 rw[h1]
 rw[y3_] at h1 h2 ⊢
 have e1:sx (w.length+2+1) 0 (some 2)=2:=by simp only[sx];rw[if_neg (by decide)];show min 2 (w.length+2+1)=2;omega
 have e2:sx (w.length+2+1) (w.length+2+1) (some (-2))=w.length+1:=by simp only[sx];rw[if_pos (by decide)];omega
 rw[e1,e2]
 apply jjl_
 ·rw[ya_,p2_,px_,h1];omega
 ·intro q hq
  rw[p2_,px_,h1] at hq
  have hq':q < w.length - 1:=by omega
  have:=h2 (2+q) (by omega)
  rw[joa_] at this
  have e3:(vals xs w).getD q 0=numA (frame w) (q+2) 0 xs:=by rw[pe_,jim_ xs w q hq'];rfl
  rw[e3,Nat.add_comm q 2,<- this]
  simp only[pe_,wr_,List.getElem?_drop]
  rw[if_pos (by omega)]
def lput (n:Nat) (t:List Int) (p:Nat) (v:Int):List Int:=if 2<=p/\p<=n then put t (p - 2) v else t
def z6_ (n:Nat) (t:List Int) (b:Nat):List Int->List Int
 | []=>t
 | v::r=>z6_ n (lput n t b v) (b+1) r
theorem jdy_ (n:Nat) (v:Int):∀(r:List Int) (t:List Int) (c:Nat),z6_ n t c (r++[v])=lput n (z6_ n t c r) (c+r.length) v
 | [],t,c=>by simp[z6_]
 | x::r,t,c=>by
  simp only[q3_,z6_,pr_]
  rw[jdy_ n v r]
  congr 1;omega
theorem jbi_ (n:Nat) (t:List Int) (p:Nat) (v:Int):(lput n t p v).length=t.length:=by
 unfold lput;split
 ·rw[uc_]
 ·rfl
theorem xv_ (n:Nat):∀(ns:List Int) (t:List Int) (b:Nat),(z6_ n t b ns).length=t.length
 | [],_,_=>rfl
 | v::r,t,b=>by simp only[z6_];rw[xv_ n r,jbi_]
theorem jfq_ (n:Nat):∀(ns:List Int) (t:List Int) (b j:Nat),t.length=n - 1->j < n - 1->(z6_ n t b ns).getD j 0=jbe_ (t.getD j 0) (j+2) b ns
 | [],_,_,_,_,_=>rfl
 | v::r,t,b,j,ht,hj=>by
  simp only[z6_,jbe_]
  rw[jfq_ n r _ _ j (by rw[jbi_];exact ht) hj]
  congr 1
  unfold lput
  by_cases hb:2<=b/\b<=n
  ·rw[if_pos hb,jmx_ t (b - 2) j v (by omega)]
   by_cases e:b=j+2
   ·rw[if_pos e,if_pos (by omega)]
   ·rw[if_neg e,if_neg (by omega)]
  ·rw[if_neg hb,if_neg (by omega)]
def lawP (n:Nat) (f:List Nat) (t:List Int) (x:Pat):List Int:=(zf_ x.1 f).foldl (fun t b=>z6_ n t b x.2) t
def lawA (n:Nat) (f:List Nat) (t:List Int) (xs:List Pat):List Int:=xs.foldl (lawP n f) t
theorem vm_ (n:Nat) (ns:List Int):∀(bs:List Nat) (t:List Int),t.length=n - 1->(bs.foldl (fun t b=>z6_ n t b ns) t).length=n - 1/\∀ j,j < n - 1->(bs.foldl (fun t b=>z6_ n t b ns) t).getD j 0=bs.foldl (fun m b=>jbe_ m (j+2) b ns) (t.getD j 0)
 | [],t,h=>⟨h,fun _ _=>rfl⟩
 | b::bs,t,h=>by
  obtain⟨h1,h2⟩:=vm_ n ns bs (z6_ n t b ns) (by rw[xv_];exact h)
  refine⟨by simpa using h1,fun j hj=>?_⟩
  simp only[to_]
  rw[h2 j hj,jfq_ n ns t b j h hj]
theorem jdi_ (n:Nat) (f:List Nat):∀(xs:List Pat) (t:List Int),t.length=n - 1->(lawA n f t xs).length=n - 1/\∀ j,j < n - 1->(lawA n f t xs).getD j 0=numA f (j+2) (t.getD j 0) xs
 | [],t,h=>⟨h,fun _ _=>rfl⟩
 | x::xs,t,h=>by
  obtain⟨h1,h2⟩:=vm_ n x.2 (zf_ x.1 f) t h
  obtain⟨h3,h4⟩:=jdi_ n f xs (lawP n f t x) h1
  refine⟨h3,fun j hj=>?_⟩
  show (lawA n f (lawP n f t x) xs).getD j 0=_
  rw[h4 j hj]
  show numA f (j+2) ((lawP n f t x).getD j 0) xs=numA f (j+2) (numP f (j+2) (t.getD j 0) x) xs
  rw[show (lawP n f t x).getD j 0=numP f (j+2) (t.getD j 0) x from h2 j hj]
theorem jtr_ (xs:List Pat) (w:List Nat):lawA w.length (frame w) (pv_ (w.length - 1) 0) xs=vals xs w:=by
 obtain⟨h1,h2⟩:=jdi_ w.length (frame w) xs (pv_ (w.length - 1) 0) (by simp)
 apply jjl_
 ·rw[h1,ya_]
 ·intro j hj
  rw[h1] at hj
  rw[h2 j hj,joa_,pe_,jim_ xs w j hj];rfl
def zs_ (p f:List Nat) (k:Nat):List Nat:=(rg_ k (f.length+1 - k)).filter (fits p f)
theorem jmr_ {p f:List Nat} (hp:p≠[]):zs_ p f 0=zf_ p f:=by
 unfold zs_ zf_
 rw[ws_,<- k8_,sj_,qf_]
 have:fits p f f.length=false:=by
  unfold fits
  have:0 < p.length:=th_.mpr hp
  rw[decide_eq_false (by omega)];rfl
 simp[this]
theorem jxf_ {p f:List Nat} {i:Nat} (hp:p≠[]) (h:fits p f i=true):i < f.length:=by
 unfold fits at h
 have:0 < p.length:=th_.mpr hp
 simp only[qi_,decide_eq_true_eq] at h
 omega
theorem joy_ (p f:List Nat):∀(m k:Nat),(rg_ k m).find? (fits p f)=none->(rg_ k m).filter (fits p f)=[]:=fun m k h=>by
 rw[sr_]
 intro a ha
 have:=tr_.mp h a ha
 exact this
theorem jfb_ (p f:List Nat):∀(m k i:Nat),(rg_ k m).find? (fits p f)=some i->k<=i/\i < k+m/\fits p f i=true/\(rg_ k m).filter (fits p f)=i::(rg_ (i+1) (k+m - (i+1))).filter (fits p f)
 | 0,k,i,h=>by simp at h
 | m+1,k,i,h=>by
  rw[r6_,qq_] at h
  cases hk:fits p f k with
  | true =>
   rw[hk] at h
   cases h
   refine⟨pg_ _,by omega,hk,?_⟩
   rw[r6_,qp_,hk,if_pos rfl]
   congr 3
   omega
  | false =>
   rw[hk] at h
   obtain⟨h1,h2,h3,h4⟩:=jfb_ p f m (k+1) i h
   refine⟨by omega,by omega,h3,?_⟩
   rw[r6_,qp_,hk,if_neg ph_,h4]
   congr 3
   omega
theorem jqg_ {p f:List Nat} {k:Nat} (h:vj_ p f k < 0):zs_ p f k=[]:=by
 unfold vj_ at h
 split at h
 ·omega
 ·rename_i e;exact joy_ p f _ _ e
theorem jqa_ {p f:List Nat} {k:Nat} (hk:k<=f.length) (h:0<=vj_ p f k):∃ i:Nat,vj_ p f k=i/\k<=i/\i<=f.length/\fits p f i=true/\zs_ p f k=i::zs_ p f (i+1):=by
 unfold vj_ at h ⊢
 split at h
 ·rename_i i e
  obtain⟨h1,h2,h3,h4⟩:=jfb_ p f _ _ _ e
  refine⟨i,rfl,h1,by omega,h3,?_⟩
  unfold zs_
  rw[h4]
  congr 3
  omega
 ·omega
end L2
namespace L2
open PySem PySem.Spec PyProof.Rows
def jhk_:V->List V->Hp->VK->Prop:=fun x vs H Q=>match x,vs with
 | .ref l,[.ref b]=>(match H l,H b with | some (.lst xs),some (.lst zs)=>xs.length+zs.length<=sizeLine/\Q .non (upd H l (.lst (xs++zs))) | _,_=>False)
 | _,_=>False
theorem jpt_ {X:Cx}:MtR X "list.extend" jhk_:=fun pins s σ H x xs v us Q I rx rs h=>by
 unfold jhk_ at h
 split at h
 ·split at h
  ·rename_i e e2
   exact jpy_ pins s σ H _ _ v us Q I rx rs ⟨_,_,_,_,rfl,rfl,e,e2,h.1,h.2⟩
  ·exact h.elim
 ·exact h.elim
theorem jzu_ {H:Hp} {Q:VK} {l b:Addr} {xs zs:List V} (h1:H l=some (.lst xs)) (h2:H b=some (.lst zs)) (c:xs.length+zs.length<=sizeLine) (h:Q .non (upd H l (.lst (xs++zs)))):jhk_ (.ref l) [.ref b] H Q:=by
 show (match H l,H b with | some (.lst xs),some (.lst zs)=>xs.length+zs.length<=sizeLine/\Q .non (upd H l (.lst (xs++zs))) | _,_=>False)
 rw[h1,h2];exact⟨c,h⟩
mutual
def uv_:Dt->Bool
 | .lst _=>false
 | .tup ds=>zv_ ds
 | _=>true
def zv_:List Dt->Bool
 | []=>true
 | d::ds=>uv_ d&&zv_ ds
end
def Tk (H H':Hp):Prop:=∀ b xs,H b=some (.tup xs)->H' b=some (.tup xs)
theorem Tk.trans {H H1 H2:Hp} (a:Tk H H1) (b:Tk H1 H2):Tk H H2:=fun c o h=>b c o (a c o h)
theorem Same.tk {H H':Hp} (h:Same H H'):Tk H H':=fun b xs e=>h b _ e
theorem Tk.new {H:Hp} {p:Addr} (h:H p=none) (o:HO):Tk H (upd H p o):=(ji_ h o).tk
theorem Tk.lst {H:Hp} {p:Addr} {zs:List V} (h:H p=some (.lst zs)) (o:HO):Tk H (upd H p o):=fun b xs e=>by
 rw[jf_ (yh_ e h (by intro z;cases z))];exact e
mutual
theorem Is.tk {H H':Hp} (h:Tk H H'):∀{d:Dt} {v:V},uv_ d=true->Is H v d->Is H' v d
 | .non,_,_,k=>by simp only[Is] at k ⊢;exact k
 | .bl _,_,_,k=>by simp only[Is] at k ⊢;exact k
 | .int _,_,_,k=>by simp only[Is] at k ⊢;exact k
 | .str _,_,_,k=>by simp only[Is] at k ⊢;exact k
 | .tup ds,_,t,k=>by
  simp only[uv_] at t
  simp only[Is] at k ⊢
  obtain⟨a,xs,e,h1,h2⟩:=k
  exact⟨a,xs,e,h _ _ h1,IsL.tk h t h2⟩
 | .lst ds,_,t,_=>by simp only[uv_] at t;cases t
theorem IsL.tk {H H':Hp} (h:Tk H H'):∀{ds:List Dt} {xs:List V},zv_ ds=true->IsL H xs ds->IsL H' xs ds
 | [],[],_,_=>by simp only[IsL]
 | [],_::_,_,k=>by simp only[IsL] at k
 | _::_,[],_,k=>by simp only[IsL] at k
 | d::ds,x::xs,t,k=>by
  simp only[zv_,qi_] at t
  simp only[IsL] at k ⊢
  exact⟨Is.tk h t.1 k.1,IsL.tk h t.2 k.2⟩
end
theorem jae_:∀{ds:List Dt},(∀ d∈ds,uv_ d=true)->zv_ ds=true
 | [],_=>rfl
 | d::ds,h=>by simp only[zv_,qi_];exact⟨h d p5_,jae_ fun e he=>h e (pt_ _ he)⟩
theorem jjt_ (ns:List Int):zv_ (ns.map Dt.int)=true:=jae_ fun d hd=>by
 obtain⟨n,_,rfl⟩:=qj_.mp hd;rfl
theorem IsL.snoc {H:Hp} {ds:List Dt} {d:Dt} {xs:List V} {x:V} (h:IsL H xs ds) (k:Is H x d):IsL H (xs++[x]) (ds++[d]) :=
 IsL.append h (by simp only[IsL];exact⟨k,trivial⟩)
abbrev Fit:=Nat×List Int
def fitD (x:Fit):Dt:=.tup [.int (x.1:Int),.tup (x.2.map Dt.int)]
def jny_ (xs:List Fit):Dt:=.lst (xs.map fitD)
theorem uf_ (xs:List Fit):zv_ (xs.map fitD)=true:=jae_ fun d hd=>by
 obtain⟨n,_,rfl⟩:=qj_.mp hd;simp only[fitD,uv_,zv_,jjt_,ls_]
theorem isFit {H:Hp} {v:V} {x:Fit} (h:Is H v (fitD x)):∃ a t,v=.ref a/\H a=some (.tup [.int (x.1:Int),.ref t])/\H t=some (.tup (x.2.map V.int)):=by
 simp only[Is,fitD] at h
 obtain⟨a,xs,rfl,ha,hxs⟩:=h
 match xs,hxs with
 | [],h=>simp only[L2.IsL] at h
 | [_],h=>simp only[L2.IsL] at h;exact h.2.elim
 | _::_::_::_,h=>simp only[L2.IsL] at h;exact h.2.2.elim
 | [y,z],h =>
  simp only[L2.IsL,Is] at h
  obtain⟨rfl,⟨t,ys,rfl,ht,hys⟩,_⟩:=h
  have:=jak_ hys
  subst this
  exact⟨a,t,rfl,ha,ht⟩
theorem jss_ {H:Hp} {a t:Addr} {x:Fit} (h1:H a=some (.tup [.int (x.1:Int),.ref t])) (h2:H t=some (.tup (x.2.map V.int))):Is H (.ref a) (fitD x):=by
 simp only[Is,fitD,L2.IsL]
 exact⟨a,_,rfl,h1,rfl,⟨t,_,rfl,h2,IsL.ints _ _⟩,trivial⟩
theorem zad_ {H:Hp} {v:V} {xs:List Fit} (h:Is H v (jny_ xs)):∃ a ys,v=.ref a/\H a=some (.lst ys)/\L2.IsL H ys (xs.map fitD):=by
 simp only[Is,jny_] at h
 exact h
def layF (t:List Int) (xs:List Fit):List Int:=xs.foldl (fun t x=>laid t x.1 x.2) t
theorem jbf_:∀(xs:List Fit) (t:List Int),(layF t xs).length=t.length
 | [],_=>rfl
 | x::xs,t=>by show (layF (laid t x.1 x.2) xs).length=_;rw[jbf_ xs,xh_]
theorem jax_ (t:List Int) (xs ys:List Fit):layF t (xs++ys)=layF (layF t xs) ys:=tx_
theorem jpa_ {xs:List Fit} {i:Nat} (h:i < xs.length) (t:List Int):layF t (xs.take (i+1))=laid (layF t (xs.take i)) xs[i].1 xs[i].2:=by
 rw[qb_,pa_ h,jax_];rfl
def jaz_ (f:List Nat) (x:Pat):List Fit:=(zf_ x.1 f).map fun b=>(b,x.2)
def yx_ (f:List Nat) (xs:List Pat):List Fit:=xs.flatMap (jaz_ f)
theorem jkk_ {f:List Nat} {xs:List Pat} {i:Nat} (h:i < xs.length):yx_ f (xs.take (i+1))=yx_ f (xs.take i)++jaz_ f xs[i]:=by
 unfold yx_;rw[qb_,pa_ h,List.flatMap_append];simp
theorem jlb_ (f:List Nat) (x:Pat) (t:List Int):layF t (jaz_ f x)=u5_ f t x:=by
 unfold layF jaz_ u5_;rw[List.foldl_map]
theorem jay_ (f:List Nat):∀(xs:List Pat) (t:List Int),layF t (yx_ f xs)=jfm_ f t xs
 | [],_=>rfl
 | x::xs,t=>by
  show layF t (jaz_ f x++yx_ f xs)=jfm_ f (u5_ f t x) xs
  rw[jax_,jlb_,jay_ f xs]
theorem jfk_ (p f:List Nat):(zf_ p f).length<=f.length:=by
 unfold zf_;exact qg_ (q2_ _ _) (by simp)
theorem jcw_ (f:List Nat):∀(xs:List Pat),(yx_ f xs).length<=xs.length * f.length
 | []=>by simp[yx_]
 | x::xs=>by
  show (jaz_ f x++yx_ f xs).length<=_
  have h1:=jcw_ f xs
  have h2:=jfk_ x.1 f
  have h3:(jaz_ f x).length=(zf_ x.1 f).length:=by simp[jaz_]
  rw[pd_,pr_,Nat.add_mul];omega
theorem jkr_ {f:List Nat} {xs:List Pat} {y:Fit} (h:y∈yx_ f xs):∃ x∈xs,y.1∈zf_ x.1 f/\y.2=x.2:=by
 obtain⟨x,hx,hy⟩:=List.mem_flatMap.mp h
 obtain⟨b,hb,rfl⟩:=qj_.mp hy
 exact⟨x,hx,hb,rfl⟩
end L2
namespace L2
open PySem PySem.Spec PyProof.Rows
section
variable {κ:Type} [DecidableEq κ]
def valV (kvs:List (κ×V)) (k:κ):Option V:=(kvs.find? fun kv=>decide (kv.1=k)).map (·.2)
def putK (kvs:List (κ×V)) (k:κ) (v:V):List (κ×V) :=
 if (kvs.any fun kv=>decide (kv.1=k))=true then kvs.map (fun kv=>if kv.1=k then (kv.1,v) else kv) else kvs++[(k,v)]
theorem zd_ {p:κ×V} {r:List (κ×V)} {k:κ} (e:p.1=k):valV (p::r) k=some p.2:=by simp[valV,qq_,e]
theorem zk_ {p:κ×V} {r:List (κ×V)} {k:κ} (e:¬ p.1=k):valV (p::r) k=valV r k:=by simp[valV,qq_,e]
theorem ut_ (k:κ):∀ kvs:List (κ×V),(kvs.any fun kv=>decide (kv.1=k))=(valV kvs k).isSome
 | []=>rfl
 | p::r=>by
  rw[qv_]
  by_cases e:p.1=k
  ·simp only[zd_ e,decide_eq_true e,Bool.true_or,Option.isSome_some]
  ·rw[zk_ e,decide_eq_false e,Bool.false_or];exact ut_ k r
theorem jip_ (k j:κ) (y:V):∀ kvs:List (κ×V),valV (kvs.map fun kv=>if kv.1=k then (kv.1,y) else kv) j=(valV kvs j).map fun x=>if j=k then y else x
 | []=>rfl
 | p::r=>by
  have ih:=jip_ k j y r
  rw[pj_]
  by_cases h:p.1=k
  ·rw[if_pos h]
   by_cases e:p.1=j
   ·rw[zd_ (p:=(p.1,y)) e,zd_ e,rf_,if_pos (e.symm.trans h)]
   ·rw[zk_ (p:=(p.1,y)) e,zk_ e,ih]
  ·rw[if_neg h]
   by_cases e:p.1=j
   ·rw[zd_ (p:=p) e,zd_ e,rf_,if_neg (fun z=>h (e.trans z))]
   ·rw[zk_ (p:=p) e,zk_ e,ih]
theorem jfv_ (k j:κ) (y:V):∀ kvs:List (κ×V),valV kvs k=none->valV (kvs++[(k,y)]) j=if j=k then some y else valV kvs j
 | [],_=>by
  by_cases e:k=j
  ·rw[if_pos e.symm];exact zd_ (p:=(k,y)) e
  ·rw[if_neg (fun z=>e z.symm)];exact zk_ (p:=(k,y)) e
 | p::r,hn=>by
  rw[q3_]
  have hk:¬ p.1=k:=fun z=>by rw[zd_ z] at hn;cases hn
  rw[zk_ hk] at hn
  have ih:=jfv_ k j y r hn
  by_cases e:p.1=j
  ·rw[zd_ e,zd_ e,if_neg (fun z=>hk (e.trans z))]
  ·rw[zk_ e,zk_ e,ih]
theorem jjo_ (kvs:List (κ×V)) (k j:κ) (y:V):valV (putK kvs k y) j=if j=k then some y else valV kvs j:=by
 unfold putK
 by_cases a:(kvs.any fun kv=>decide (kv.1=k))=true
 ·rw[if_pos a,jip_]
  rw[ut_] at a
  by_cases e:j=k
  ·obtain⟨x,hx⟩:=w2_.mp a
   rw[if_pos e,e,hx,rf_,if_pos rfl]
  ·rw[if_neg e]
   cases valV kvs j with
   | none=>rfl
   | some x=>rw[rf_,if_neg e]
 ·rw[if_neg a]
  refine jfv_ k j y kvs ?_
  rw[ut_] at a
  cases q:valV kvs k with
  | none=>rfl
  | some x=>rw[q] at a;exact(a rfl).elim
theorem xb_ (kvs:List (κ×V)) (k:κ) (v:V):(putK kvs k v).length<=kvs.length+1:=by
 unfold putK
 split
 ·rw[pc_];omega
 ·rw[pd_,pr_,p1_];omega
theorem RelO.isSome_eq {o:Option V} {u:Option Value} (r:RelO o u):o.isSome=u.isSome:=by
 cases o with
 | none=>cases u with
  | none=>rfl
  | some _=>exact(show False from r).elim
 | some _=>cases u with
  | none=>exact(show False from r).elim
  | some _=>rfl
theorem RelO.getD {o:Option V} {u:Option Value} {d:V} {d':Value} (r:RelO o u) (rd:RelV d d'):RelV (o.getD d) (u.getD d'):=by
 cases o with
 | none=>cases u with
  | none=>exact rd
  | some _=>exact(show False from r).elim
 | some _=>cases u with
  | none=>exact(show False from r).elim
  | some _=>exact r
theorem KV.val {kvs:List (κ×V)} {vs:List (κ×Value)} (r:KV kvs vs) (k:κ):RelO (valV kvs k) (valueAt vs k):=by
 unfold KV at r
 induction r with
 | nil=>exact True.intro
 | @cons p q ps qs h t ih =>
  obtain⟨h1,h2⟩:=h
  by_cases e:p.1=k
  ·have e':q.1=k:=h1.symm.trans e
   have b:valueAt (q::qs) k=some q.2:=by simp[valueAt,qq_,e']
   rw[zd_ e,b];exact h2
  ·have e':¬ q.1=k:=fun z=>e (h1.trans z)
   have b:valueAt (q::qs) k=valueAt qs k:=by simp[valueAt,qq_,e']
   rw[zk_ e,b];exact ih
theorem KV.any {kvs:List (κ×V)} {vs:List (κ×Value)} (r:KV kvs vs) (k:κ):(kvs.any fun kv=>decide (kv.1=k))=vs.any fun kv=>decide (kv.1=k):=by
 unfold KV at r
 induction r with
 | nil=>rfl
 | cons h t ih=>rw[qv_,qv_,ih,h.1]
theorem KV.repl {kvs:List (κ×V)} {vs:List (κ×Value)} (r:KV kvs vs) (k:κ) {y:V} {u:Value} (ry:RelV y u) :
  KV (kvs.map fun kv=>if kv.1=k then (kv.1,y) else kv) (vs.map fun kv=>if kv.1=k then (kv.1,u) else kv):=by
 unfold KV at r ⊢
 induction r with
 | nil=>exact .nil
 | @cons p q ps qs h t ih =>
  rw[pj_,pj_]
  refine .cons ?_ ih
  obtain⟨h1,h2⟩:=h
  by_cases e:p.1=k
  ·rw[if_pos e,if_pos (h1.symm.trans e)];exact⟨h1,ry⟩
  ·rw[if_neg e,if_neg (fun z=>e (h1.trans z))];exact⟨h1,h2⟩
theorem KV.put {kvs:List (κ×V)} {vs:List (κ×Value)} (r:KV kvs vs) (k:κ) {y:V} {u:Value} (ry:RelV y u):KV (putK kvs k y) (stored vs k u):=by
 unfold putK stored
 rw[r.any k]
 by_cases e:(vs.any fun kv=>decide (kv.1=k))=true
 ·rw[if_pos e,if_pos e];exact r.repl k ry
 ·rw[if_neg e,if_neg e];exact Paired.snoc r ⟨rfl,ry⟩
theorem KV.length {kvs:List (κ×V)} {vs:List (κ×Value)} (r:KV kvs vs):kvs.length=vs.length:=wc_ r
end
theorem jfw_ {P:Program} {w:World} {k:Key} {u:Value} (r:RelV (kV k) u):(j9_ P w).is k u=true:=by
 cases k with
 | inl i=>obtain⟨t,e⟩:=(show ∃ t,u=Value.int i t from r);subst e;exact jiq_ P w i t
 | inr x=>obtain⟨t,e⟩:=(show ∃ t,u=Value.str x t from r);subst e;exact jix_ P w x t
theorem jfc_ {P:Program} {w:World}:∀{ks:List Key} {us:List Value},Vals (ks.map kV) us->ItemsAre (j9_ P w) ks us
 | [],_,r=>by rw[p8_] at r;cases r;exact .nil
 | k::ks,_,r=>by
  rw[pj_] at r
  cases r with
  | cons h t=>exact .cons (jfw_ h) (jfc_ t)
abbrev KT (H:Hp):List (List Key×V)->List (List Key×Addr×Value)->Prop:=Paired fun p q=>p.1=q.1/\H q.2.1=some (.tup (p.1.map kV))/\RelV p.2 q.2.2
theorem KT.val {H:Hp} {kvs:List (List Key×V)} {xs:List (List Key×Addr×Value)} (r:KT H kvs xs) (k:List Key):RelO (valV kvs k) ((atKey xs k).map (·.2)):=by
 induction r with
 | nil=>exact True.intro
 | @cons p q ps qs h t ih =>
  obtain⟨h1,_,h2⟩:=h
  by_cases e:p.1=k
  ·have e':q.1=k:=h1.symm.trans e
   have b:atKey (q::qs) k=some q.2:=by simp[atKey,qq_,e']
   rw[zd_ e,b];exact h2
  ·have e':¬ q.1=k:=fun z=>e (h1.trans z)
   have b:atKey (q::qs) k=atKey qs k:=by simp[atKey,qq_,e']
   rw[zk_ e,b];exact ih
theorem KT.repl {H:Hp} {kvs:List (List Key×V)} {xs:List (List Key×Addr×Value)} (r:KT H kvs xs) (k:List Key) {y:V} {u:Value} (ry:RelV y u) :
  KT H (kvs.map fun kv=>if kv.1=k then (kv.1,y) else kv) (xs.map (putAt k u)):=by
 induction r with
 | nil=>exact .nil
 | @cons p q ps qs h t ih =>
  rw[pj_,pj_]
  refine .cons ?_ ih
  obtain⟨h1,h2,h3⟩:=h
  unfold putAt
  by_cases e:p.1=k
  ·rw[if_pos e,if_pos (h1.symm.trans e)];exact⟨h1,h2,ry⟩
  ·rw[if_neg e,if_neg (fun z=>e (h1.trans z))];exact⟨h1,h2,h3⟩
theorem KT.put {H:Hp} {kvs:List (List Key×V)} {xs:List (List Key×Addr×Value)} (r:KT H kvs xs) (k:List Key) {b:Addr} {y:V} {u:Value} (hb:H b=some (.tup (k.map kV))) (ry:RelV y u) :
  KT H (putK kvs k y) (storedH xs k b u):=by
 have e:(kvs.any fun kv=>decide (kv.1=k))=(atKey xs k).isSome:=by
  rw[ut_,(r.val k).isSome_eq,w4_]
 unfold putK storedH
 rw[e]
 by_cases q:(atKey xs k).isSome=true
 ·rw[if_pos q,if_pos q];exact r.repl k ry
 ·rw[if_neg q,if_neg q];exact Paired.snoc r ⟨rfl,hb,ry⟩
theorem KT.keeps {H H':Hp} {kvs:List (List Key×V)} {xs:List (List Key×Addr×Value)} (r:KT H kvs xs) (ht:∀ b ys,H b=some (.tup ys)->H' b=some (.tup ys)):KT H' kvs xs :=
 Paired.mapP r fun _ _ z=>⟨z.1,ht _ _ z.2.1,z.2.2⟩
section
variable {P:Program} {w:World} {H:Hp} {h:Heap} {a:Addr}
theorem jyq_ {u:HO} (ok:HOk P w H h) (e:Rd H a u):ObjOk P w H h a u:=e.ok ok
theorem jbg_ {kvs:List (Key×V)} (ok:HOk P w H h) (e:Rd H a (.dK kvs)):kvs.length<=sizeLine/\(a == sysModules)=false/\∃ vs,KV kvs vs/\h.DictOf (j9_ P w) a vs :=
 show ObjOk P w H h a (.dK kvs) from jyq_ ok e
theorem joq_ {kvs:List (Key×V)} (ok:HOk P w H h) (e:H a=some (.dK kvs)):kvs.length<=sizeLine/\(a == sysModules)=false/\∃ vs,KV kvs vs/\h.DictOf (j9_ P w) a vs:=jbg_ ok (.inl e)
theorem ub_ {ks:List Key} (ok:HOk P w H h) (e:H a=some (.tup (ks.map kV))):(tupleKind (j9_ P w)).is h ks a:=by
 obtain⟨_,its,r,o,h1,h2,n,h3⟩:=(show ObjOk P w H h a (.tup (ks.map kV)) from ok a _ e)
 exact⟨o,its.toArray,n,h1,h2,h3,by simpa using jfc_ r⟩
theorem jdw_ {kvs:List (List Key×V)} (ok:HOk P w H h) (e:Rd H a (.dT kvs)):kvs.length<=sizeLine/\(a == sysModules)=false /\
  ∃ xs,KT H kvs xs/\h.DictOfH (tupleKind (j9_ P w)) a xs:=by
 obtain⟨z,y,xs,r,o,es,ep,h1,h2,h3,h4,h5⟩:=(show ObjOk P w H h a (.dT kvs) from jyq_ ok e)
 refine⟨z,y,xs,r,o,es,ep,h1,h2,h3,h4,fun x hx=>?_,h5⟩
 have all:∀{l:List (List Key×V)} {m:List (List Key×Addr×Value)},KT H l m->∀ x∈m,(tupleKind (j9_ P w)).is h x.1 x.2.1:=by
  intro l m q
  induction q with
  | nil=>intro x hx;exact nomatch hx
  | @cons p q ps qs hq t ih =>
   intro x hx
   rcases pz_.mp hx with e | hx
   ·subst e
    exact ub_ ok (by rw[<- hq.1];exact hq.2.1)
   ·exact ih x hx
 exact all r x hx
theorem jyo_ {kvs:List (List Key×V)} (ok:HOk P w H h) (e:H a=some (.dT kvs)):kvs.length<=sizeLine/\(a == sysModules)=false /\
  ∃ xs,KT H kvs xs/\h.DictOfH (tupleKind (j9_ P w)) a xs:=jdw_ ok (.inl e)
end
def DGet (H:Hp) (a:Addr) (y:V) (r:Option V):Prop :=
 (∃ kvs k,Rd H a (.dK kvs)/\y=kV k/\r=valV kvs k)∨∃ kvs k b,Rd H a (.dT kvs)/\y=.ref b/\H b=some (.tup (k.map kV))/\r=valV kvs k
def DPut (H:Hp) (a:Addr) (y v:V) (H':Hp):Prop :=
 (∃ kvs k,H a=some (.dK kvs)/\y=kV k/\kvs.length < sizeLine/\H'=upd H a (.dK (putK kvs k v))) ∨
 ∃ kvs k b,H a=some (.dT kvs)/\y=.ref b/\H b=some (.tup (k.map kV))/\kvs.length < sizeLine/\H'=upd H a (.dT (putK kvs k v))
theorem DGet.k {H:Hp} {a:Addr} {kvs:List (Key×V)} {k:Key} (e:H a=some (.dK kvs)):DGet H a (kV k) (valV kvs k):=.inl ⟨kvs,k,.inl e,rfl,rfl⟩
theorem DGet.t {H:Hp} {a b:Addr} {kvs:List (List Key×V)} {k:List Key} (e:H a=some (.dT kvs)) (eb:H b=some (.tup (k.map kV))):DGet H a (.ref b) (valV kvs k):=.inr ⟨kvs,k,b,.inl e,rfl,eb,rfl⟩
theorem DPut.k {H:Hp} {a:Addr} {kvs:List (Key×V)} {k:Key} {v:V} (e:H a=some (.dK kvs)) (hl:kvs.length < sizeLine):DPut H a (kV k) v (upd H a (.dK (putK kvs k v))):=.inl ⟨kvs,k,e,rfl,hl,rfl⟩
theorem DPut.t {H:Hp} {a b:Addr} {kvs:List (List Key×V)} {k:List Key} {v:V} (e:H a=some (.dT kvs)) (eb:H b=some (.tup (k.map kV))) (hl:kvs.length < sizeLine) :
  DPut H a (.ref b) v (upd H a (.dT (putK kvs k v))):=.inr ⟨kvs,k,b,e,rfl,eb,hl,rfl⟩
section
variable {X:Cx} {pins:List (Addr×Obj)} {σ:St} {H:Hp} {s:Shared} {a:Addr} {y v:V} {u r:Value} {o:Option V} {A:Around} {E:Value->Shared->Prop}
theorem Inv.big (I:Inv X pins σ H s):sysModules < s.heap.objs.size:=by
 have h:mainGlobals < s.heap.objs.size:=(I.mod.glob.keeps I.bk).lt
 exact Nat.lt_trans (by decide) h
theorem jpl_ {Q:Value->Shared->Prop} (hu:A.units+1 < cLine) (I:Inv X pins σ H s) (g:DGet H a y (some v)) (ry:RelV y u) (h:∀ w' s',Inv X pins σ H s'->RelV v w'->Q w' s') :
  wpAny (model X.prog X.w) A (getItem (.ref a) u) Q E s:=by
 rcases g with ⟨kvs,k,e,ey,l⟩ | ⟨kvs,k,b,e,ey,eb,l⟩
 ·subst ey
  obtain⟨z,hd,vs,rel,dd⟩:=jbg_ I.hok e
  obtain⟨w',hw,rw'⟩:=RelO.some_of (v:=v) (o:=valueAt vs k) (by rw[l];exact rel.val k)
  exact wpAny_getItem_of (jfw_ ry) dd.mapOf hw (h w' _ (I.tok _) rw')
 ·subst ey
  cases (show u=Value.ref b from ry)
  obtain⟨z,hd,xs,rel,dd⟩:=jdw_ I.hok e
  obtain⟨w',hw,rw'⟩:=RelO.some_of (v:=v) (o:=(atKey xs k).map (·.2)) (by rw[l];exact rel.val k)
  obtain⟨p,hp,hp2⟩:=Option.map_eq_some_iff.mp hw
  refine wpAny_getItem_heap (tupleKind_room_in1 hu) (ub_ I.hok eb) dd hp ?_
  rw[hp2]
  exact h w' _ (I.tok _) rw'
theorem d_in {Q:Value->Shared->Prop} (hu:A.units+1 < cLine) (I:Inv X pins σ H s) (g:DGet H a y o) (ry:RelV y u) (h:∀ s',Inv X pins σ H s'->Q (.bool o.isSome) s') :
  wpAny (model X.prog X.w) A (compareOp .In u (.ref a)) Q E s:=by
 rcases g with ⟨kvs,k,e,ey,l⟩ | ⟨kvs,k,b,e,ey,eb,l⟩
 ·subst ey
  obtain⟨z,hd,vs,rel,dd⟩:=jbg_ I.hok e
  refine wpAny_in_of (jfw_ ry) hd dd.mapOf ?_
  rw[<- (rel.val k).isSome_eq,<- l]
  exact h _ (I.tok _)
 ·subst ey
  cases (show u=Value.ref b from ry)
  obtain⟨z,hd,xs,rel,dd⟩:=jdw_ I.hok e
  refine wpAny_in_heap (tupleKind_room_in1 hu) (ub_ I.hok eb) hd dd ?_
  have q:=(rel.val k).isSome_eq
  rw[w4_] at q
  rw[<- q,<- l]
  exact h _ (I.tok _)
theorem jwp_ {Q:Value->Shared->Prop} (hu:A.units+1 < cLine) (I:Inv X pins σ H s) (g:DGet H a y o) (ry:RelV y u) (h:∀ s',Inv X pins σ H s'->Q (.bool (!o.isSome)) s') :
  wpAny (model X.prog X.w) A (compareOp .NotIn u (.ref a)) Q E s:=by
 rcases g with ⟨kvs,k,e,ey,l⟩ | ⟨kvs,k,b,e,ey,eb,l⟩
 ·subst ey
  obtain⟨z,hd,vs,rel,dd⟩:=jbg_ I.hok e
  refine wpAny_notIn_of (jfw_ ry) hd dd.mapOf ?_
  rw[<- (rel.val k).isSome_eq,<- l]
  exact h _ (I.tok _)
 ·subst ey
  cases (show u=Value.ref b from ry)
  obtain⟨z,hd,xs,rel,dd⟩:=jdw_ I.hok e
  refine wpAny_notIn_heap (tupleKind_room_in1 hu) (ub_ I.hok eb) hd dd ?_
  have q:=(rel.val k).isSome_eq
  rw[w4_] at q
  rw[<- q,<- l]
  exact h _ (I.tok _)
theorem jib_ {h':Heap} {t':Nat} {ob:HO} (I:Inv X pins σ H s) (mu:Mut (H a)) (hs:rv_ a s.heap h') (he:∃ q,h'.get? a=some q) (new:ObjOk X.prog X.w (upd H a ob) h' a ob) :
  Inv X pins σ (upd H a ob) { s with heap:=h',toks:=t' } :=
 I.write (x:=a) (e:=a) mu (.inl rfl) (fun b q hb z=>(hs.2 b hb).trans z) he new
theorem dk_new {P:Program} {w:World} {H':Hp} {h':Heap} {kvs:List (Key×V)} {vs:List (Key×Value)} (z:kvs.length<=sizeLine) (hd:(a == sysModules)=false) (rel:KV kvs vs) (dd:h'.DictOf (j9_ P w) a vs) :
  ObjOk P w H' h' a (.dK kvs):=⟨z,hd,vs,rel,dd⟩
theorem jpx_ {H':Hp} {Q:Unit->Shared->Prop} (hu:A.units+1 < cLine) (I:Inv X pins σ H s) (g:DPut H a y v H') (ry:RelV y u) (rv:RelV v r) (h:∀ s',Inv X pins σ H' s'->Q () s') :
  wpAny (model X.prog X.w) A (setItem (.ref a) u r) Q E s:=by
 rcases g with ⟨kvs,k,e,ey,l,eH⟩ | ⟨kvs,k,b,e,ey,eb,l,eH⟩
 ·subst ey eH
  obtain⟨z,hd,vs,rel,dd⟩:=joq_ I.hok e
  have hz:vs.length<=sizeLine:=by rw[<- rel.length];exact z
  have hl:(putK kvs k v).length<=sizeLine:=by have:=xb_ kvs k v;omega
  refine wpAny_setItem_pairs (hsz:=hz) (jfw_ ry) dd fun h' dd' hs=>h _ ?_
  have he:∃ q,h'.get? a=some q:=let ⟨q,_,_,hq,_⟩:=dd';⟨q,hq⟩
  exact jib_ I (by rw[e];exact True.intro) hs he (dk_new hl hd (rel.put k rv) dd')
 ·subst ey eH
  cases (show u=Value.ref b from ry)
  obtain⟨z,hd,xs,rel,dd⟩:=jyo_ I.hok e
  have hz:xs.length<=sizeLine:=by rw[<- wc_ rel];exact z
  have hl:(putK kvs k v).length<=sizeLine:=by have:=xb_ kvs k v;omega
  refine wpAny_setItem_heap (hsz:=hz) (tupleKind_room_in1 hu) (ub_ I.hok eb) dd fun h' dd' hs=>h _ ?_
  obtain⟨q,es,ep,hq,h2,h3,h4,_,h5⟩:=dd'
  refine jib_ I (by rw[e];exact True.intro) hs ⟨q,hq⟩ ⟨hl,hd,_,(rel.put k eb rv).keeps fun c ys ec=>?_,q,es,ep,hq,h2,h3,h4,h5⟩
  rw[jf_ (yh_ ec e (fun z=>nomatch z))]
  exact ec
end
section
variable {X:Cx} {pins:List (Addr×Obj)} {σ:St} {H:Hp} {s:Shared} {a:Addr} {kvs:List (Key×V)} {k:Key} {u:Value} {A:Around} {E:Value->Shared->Prop}
end
def NoSl (i:Expr):Prop:=∀ ov iv,subscripted i false ov iv=operate [ov,iv] (getItem ov iv)
theorem jwe_ {prog:Program} {w:World} {A:Around} {E:Value->Shared->Prop} {s:Shared} {env:Env} {value slice:Expr} {pos:Pos} {T id:String} {Q:Value->Shared->Prop}
  (hl:typeLookup (.type T) "__getitem__"=pure (some (.builtin id))) (hs:NoSl slice)
  (h:wpAny (model prog w) A (eval value env) (fun o s₁=>wpAny (model prog w) A (eval slice env) (fun i s₂=>s₂.TypeIs o T/\wpAny (model prog w) A (getItem o i) Q E s₂) E s₁) E s) :
  wpAny (model prog w) A (eval (.Subscript value slice pos) env) Q E s:=by
 refine Subscript_ (wpAny_mono h (fun o s₁ h₁=>wpAny_mono h₁ (fun i s₂ h₂=>?_) fun _ _ x=>x) fun _ _ x=>x)
 obtain⟨hT,h₂⟩:=h₂
 unfold subscriptTail
 refine wpAny_bind ?_
 rw[getitemInPython_of_ne hT.not_modules]
 refine wpAny_bind (wpAny_specialOf hT hl ?_)
 have fin:wpAny (model prog w) A (subscripted slice false o i) (fun r s₃=>wpAny (model prog w) A (letTemporaryGo value o r >>= fun _=>pure r) Q E s₃) E s₂:=by
  rw[hs o i]
  exact wpAny_operating (wpAny_mono h₂ (fun r s₃ h₃=>wpAny_bind (wpAny_letTemporaryGo (wpAny_pure h₃))) fun _ _ x=>x)
 first
  | exact wpAny_pure (wpAny_bind fin)
  | exact wpAny_bind (wpAny_pure (wpAny_bind fin))
  | exact wpAny_bind fin
theorem jkc_ {X:Cx} {pins:List (Addr×Obj)} {σ:St} {H:Hp} {s:Shared} {a:Addr} {y:V} {o:Option V} (I:Inv X pins σ H s) (g:DGet H a y o):s.TypeIs (.ref a) "dict":=by
 rcases g with ⟨kvs,k,e,_,_⟩ | ⟨kvs,k,b,e,_,_,_⟩
 ·obtain⟨_,_,vs,_,dd⟩:=jbg_ I.hok e
  exact dd.typeIs
 ·obtain⟨_,_,xs,_,dd⟩:=jdw_ I.hok e
  exact dd.typeIs
def jsp_ (td ty:TE):TE:=fun σ H Q=>td σ H fun x H1=>ty σ H1 fun y H2=>∃ a v,x=.ref a/\DGet H2 a y (some v)/\Q v H2
def tDIn (ty td:TE):TE:=fun σ H Q=>ty σ H fun y H1=>td σ H1 fun x H2=>∃ a o,x=.ref a/\DGet H2 a y o/\Q (.bl o.isSome) H2
def job_ (ty td:TE):TE:=fun σ H Q=>ty σ H fun y H1=>td σ H1 fun x H2=>∃ a o,x=.ref a/\DGet H2 a y o/\Q (.bl (!o.isSome)) H2
def jzo_ (td ty tv:TE):TS:=fun D σ H=>tv σ H fun v H1=>td σ H1 fun x H2=>ty σ H2 fun y H3=>∃ a H4,x=.ref a/\DPut H3 a y v H4/\D.nx σ H4
section
variable {X:Cx} {o i e value:Expr} {pos pos' tpos:Pos} {td ty tv:TE}
theorem v1_ (hu:X.A.units+1 < cLine) (ho:PE X o td) (hi:PE X i ty) (hs:NoSl i):PE X (.Subscript o i pos) (jsp_ td ty):=by
 intro pins s σ H Q I h
 refine jwe_ PySem.F.slot_dict_getitem.lookup hs (thn (ho pins s σ H _ I h) fun u s1 ⟨x,H1,I1,rx,q1⟩=>thn (hi pins s1 σ H1 _ I1 q1) fun iv s2 ⟨y,H2,I2,ry,a,v,ex,g,q2⟩=>?_)
 subst ex
 obtain rfl:u=Value.ref a:=rx
 exact⟨jkc_ I2 g,jpl_ hu I2 g ry fun w' s3 I3 rw'=>⟨v,H2,I3,rw',q2⟩⟩
theorem jud_ (hu:X.A.units+1 < cLine) (hi:PE X i ty) (ho:PE X o td):PC X .In i o (tDIn ty td):=by
 intro pins s σ H Q I h
 refine thn (hi pins s σ H _ I h) fun iv s1 ⟨y,H1,I1,ry,q1⟩=>thn (ho pins s1 σ H1 _ I1 q1) fun u s2 ⟨x,H2,I2,rx,a,ov,ex,g,q2⟩=>?_
 subst ex
 obtain rfl:u=Value.ref a:=rx
 exact d_in hu I2 g ry fun s3 I3=>⟨.bl ov.isSome,H2,I3,rfl,q2⟩
theorem jpu_ (hu:X.A.units+1 < cLine) (hi:PE X i ty) (ho:PE X o td):PC X .NotIn i o (job_ ty td):=by
 intro pins s σ H Q I h
 refine thn (hi pins s σ H _ I h) fun iv s1 ⟨y,H1,I1,ry,q1⟩=>thn (ho pins s1 σ H1 _ I1 q1) fun u s2 ⟨x,H2,I2,rx,a,ov,ex,g,q2⟩=>?_
 subst ex
 obtain rfl:u=Value.ref a:=rx
 exact jwp_ hu I2 g ry fun s3 I3=>⟨.bl (!ov.isSome),H2,I3,rfl,q2⟩
theorem jcd_ (hu:X.A.units+1 < cLine) (ho:PE X o td) (hi:PE X i ty) (hv:PE X value tv) (hs:swapsWith value (some (.Subscript o i pos')) pos.line X.env=pure false) :
  PS X (.Assign [.Subscript o i pos'] value pos) (jzo_ td ty tv):=by
 intro pins s σ H D I h
 refine wpAny_Assign_Subscript (thn (hv pins s σ H _ I h) fun r s1 ⟨v,H1,I1,rv,q1⟩=>thn (ho pins s1 σ H1 _ I1 q1) fun u s2 ⟨x,H2,I2,rx,q2⟩=>thn (hi pins s2 σ H2 _ I2 q2) fun iv s3 ⟨y,H3,I3,ry,a,H4,ex,g,q3⟩=>?_) hs
 subst ex
 obtain rfl:u=Value.ref a:=rx
 exact jpx_ hu I3 g ry rv fun s4 I4=>⟨σ,H4,I4,q3⟩
end
theorem juv_ {P:Program} {w:World} {H:Hp} (h:Heap) (hb:sysModules < h.objs.size):ObjOk P w H (h.push { cls:=.type "dict",data:=.dict #[] }) h.objs.size (.dK []) :=
 ⟨qe_ _,beq_eq_false_iff_ne.mpr (rq_ (p3_ hb)),[],.nil,Heap.DictOf.new h⟩
theorem jvb_ {P:Program} {w:World} {H:Hp} (h:Heap) (hb:sysModules < h.objs.size):ObjOk P w H (h.push { cls:=.type "dict",data:=.dict #[] }) h.objs.size (.dT []) :=
 ⟨qe_ _,beq_eq_false_iff_ne.mpr (rq_ (p3_ hb)),[],.nil,_,#[],0,pq_ _ rfl,⟨rfl,rfl,rfl⟩,rfl,rfl,le_⟩
def juh_:TE:=fun _ H Q=>∀ p,H p=none->Q (.ref p) (upd H p (.dK []))
section
variable {X:Cx} {pos:Pos}
theorem jcy_:PE X (.Dict [] [] pos) juh_:=fun pins s σ H Q I h =>
 wpAny_Dict_empty ⟨.ref s.heap.objs.size,_,I.laid (a:=s.heap.objs.size) (o:=.dK []) (t':=s.toks) (fun _ _ q=>pf_ _ q) (pg_ _) (juv_ s.heap I.big),rfl,h _ (I.hok.fresh (pg_ _))⟩
end
structure M1 (X:Cx) (o:Expr) (m:Str) (apos:Pos) (e:Expr) (cpos:Pos):Prop where
 base:attributeBase o m X.env (eval o X.env)=eval o X.env
 few:((backTo cpos (starEach [e] X.env)).all (fun x=>!x.1)&&(backToKw cpos (keywordEach [] X.env)).all (fun x=>x.1.isSome)
  && decide (([e]:List Expr).length+([]:List Keyword).length+(if ([]:List Keyword).isEmpty then 0 else 1) < 30))=true
 line:(apos.endLine == cpos.line)=true
 trees:backTo cpos (starEach [e] X.env)=[(false,eval e X.env)]
structure M2 (X:Cx) (o:Expr) (m:Str) (apos:Pos) (e f:Expr) (cpos:Pos):Prop where
 base:attributeBase o m X.env (eval o X.env)=eval o X.env
 few:((backTo cpos (starEach [e,f] X.env)).all (fun x=>!x.1)&&(backToKw cpos (keywordEach [] X.env)).all (fun x=>x.1.isSome)
  && decide (([e,f]:List Expr).length+([]:List Keyword).length+(if ([]:List Keyword).isEmpty then 0 else 1) < 30))=true
 line:(apos.endLine == cpos.line)=true
 trees:backTo cpos (starEach [e,f] X.env)=[(false,eval e X.env),(false,eval f X.env)]
def IsD (H:Hp) (a:Addr):Prop:=(∃ kvs,Rd H a (.dK kvs))∨∃ kvs,Rd H a (.dT kvs)
theorem isD_at {X:Cx} {pins:List (Addr×Obj)} {σ:St} {H:Hp} {s:Shared} {a:Addr} (I:Inv X pins σ H s) (d:IsD H a) :
  s.TypeIs (.ref a) "dict"/\(∀ b,Value.ref a=.ref b->∃ ob,s.heap.get? b=some ob/\ob.dict=none)/\(a == sysModules)=false:=by
 rcases d with ⟨kvs,e⟩ | ⟨kvs,e⟩
 ·obtain⟨_,hd,vs,_,dd⟩:=jbg_ I.hok e
  refine⟨dd.typeIs,fun b q=>?_,hd⟩
  cases q
  obtain⟨ob,_,_,h1,h2,_⟩:=dd
  exact⟨ob,h1,h2.2.1⟩
 ·obtain⟨_,hd,xs,_,dd⟩:=jdw_ I.hok e
  refine⟨dd.typeIs,fun b q=>?_,hd⟩
  cases q
  obtain⟨ob,_,_,h1,h2,_⟩:=dd
  exact⟨ob,h1,h2.2.1⟩
section
variable {X:Cx} {pins:List (Addr×Obj)} {σ:St} {H:Hp} {s:Shared} {a:Addr} {y d:V} {u r:Value} {o:Option V} {A:Around} {E:Value->Shared->Prop}
theorem jzz_ {Q:Value->Shared->Prop} (hu:A.units+1 < cLine) (I:Inv X pins σ H s) (g:DGet H a y o) (ry:RelV y u) (rd:RelV d r) (h:∀ w' s',Inv X pins σ H s'->RelV (o.getD d) w'->Q w' s') :
  wpAny (model X.prog X.w) A (call (.builtin "dict.get") [.ref a,u,r]) Q E s:=by
 rcases g with ⟨kvs,k,e,ey,l⟩ | ⟨kvs,k,b,e,ey,eb,l⟩
 ·subst ey
  obtain⟨z,hd,vs,rel,dd⟩:=jbg_ I.hok e
  refine call_meetsIn t6_ dd.typeIs km_ (ka_ _ _ _) (meets_dict_get_default (j9_ X.prog X.w) a (jfw_ ry) hd r) ⟨_,dd.mapOf,h _ _ (I.tok _) ?_⟩
  rw[l]
  exact(rel.val k).getD rd
 ·subst ey
  cases (show u=Value.ref b from ry)
  obtain⟨z,hd,xs,rel,dd⟩:=jdw_ I.hok e
  refine call_meetsIn t6_ dd.typeIs km_ (ka_ _ _ _) (meetsH_dict_get_default (tupleKind (j9_ X.prog X.w)) a b hd r) ⟨tupleKind_room_in1 hu,k,xs,ub_ I.hok eb,dd,h _ _ (I.tok _) ?_⟩
  rw[l]
  exact(rel.val k).getD rd
end
def juj_ (td ty tx:TE):TE:=fun σ H Q=>td σ H fun x H1=>∃ a,x=.ref a/\IsD H1 a/\ty σ H1 fun y H2=>tx σ H2 fun z H3=>∃ o,DGet H3 a y o/\Q (o.getD z) H3
section
variable {X:Cx} {o e f:Expr} {apos cpos:Pos} {td ty tx:TE}
theorem jsj_ (hu:X.A.units+1 < cLine) (ho:PE X o td) (he:PE X e ty) (hf:PE X f tx) (m:M2 X o "get" apos e f cpos):PE X (.Call (.Attribute o "get" apos) [e,f] [] cpos) (juj_ td ty tx):=by
 intro pins s σ H Q I h
 refine wpAny_Call_method m.base m.few m.line kb_ t6_ PySem.F.type_dict_get (thn (ho pins s σ H _ I h) fun u s1 ⟨x,H1,I1,rx,a,ex,d,q1⟩=>?_)
 subst ex
 obtain rfl:u=Value.ref a:=rx
 obtain⟨t1,t2,_⟩:=isD_at I1 d
 refine⟨t1,t2,?_⟩
 rw[m.trees]
 refine r3_ rfl (s9_ (qy_ (thn (he pins s1 σ H1 _ I1 q1) fun iv s2 ⟨y,H2,I2,ry,q2⟩ =>
  qy_ (thn (hf pins s2 σ H2 _ I2 q2) fun fv s3 ⟨z,H3,I3,rz,ov,g,q3⟩=>rl_ ?_))))
 exact jzz_ hu I3 g ry rz fun w' s4 I4 rw'=>⟨_,H3,I4,rw',q3⟩
end
section
variable {X:Cx} {pins:List (Addr×Obj)} {σ:St} {H:Hp} {s:Shared} {a:Addr} {kvs:List (Key×V)} {A:Around} {E:Value->Shared->Prop}
end
section
variable {X:Cx} {pins:List (Addr×Obj)} {σ:St} {H:Hp} {s:Shared} {a:Addr} {y:V} {u:Value} {A:Around} {E:Value->Shared->Prop}
end
end L2
namespace L2
theorem x6_ {a b:List Nat} (h:(Sum.inr (S a):Key)=Sum.inr (S b)):a=b:=by
 injection h with h
 exact jge_ h
end L2
namespace L2
def NT (H:Hp):List (Key×V)->List Pat->Prop
 | [],[]=>True
 | kv::kvs,g::gs=>kv.1=Sum.inr (S g.1)/\(∃ t,kv.2=.ref t/\H t=some (.tup (g.2.map V.int)))/\NT H kvs gs
 | _,_=>False
def y9_ (gs:List Pat) (z:List Nat):Option Pat:=gs.find? fun g=>decide (g.1=z)
theorem NT.val {H:Hp} {z:List Nat}:∀{kvs:List (Key×V)} {gs:List Pat},NT H kvs gs->(y9_ gs z=none/\valV kvs (Sum.inr (S z))=none)∨∃ g t,y9_ gs z=some g/\g∈gs/\g.1=z/\valV kvs (Sum.inr (S z))=some (.ref t)/\H t=some (.tup (g.2.map V.int))
 | [],[],_=>.inl ⟨rfl,rfl⟩
 | [],_::_,h=>h.elim
 | _::_,[],h=>h.elim
 | kv::kvs,g::gs,h=>by
  obtain⟨h1,⟨t,h2,h3⟩,h4⟩:=h
  by_cases e:g.1=z
  ·refine .inr ⟨g,t,?_,p5_,e,?_,h3⟩
   ·unfold y9_;rw[qq_,decide_eq_true e]
   ·rw[zd_ (by rw[h1,e]),h2]
  ·have hl:y9_ (g::gs) z=y9_ gs z:=by unfold y9_;rw[qq_,decide_eq_false e]
   have hv:valV (kv::kvs) (Sum.inr (S z))=valV kvs (Sum.inr (S z)):=zk_ fun q=>e (x6_ (h1.symm.trans q))
   rw[hl,hv]
   rcases NT.val (z:=z) h4 with q | ⟨g',t',a,b,c,d,f⟩
   ·exact .inl q
   ·exact .inr ⟨g',t',a,pt_ _ b,c,d,f⟩
theorem NT.same {H H':Hp} (s:Same H H'):∀{kvs:List (Key×V)} {gs:List Pat},NT H kvs gs->NT H' kvs gs
 | [],[],_=>trivial
 | [],_::_,h=>h.elim
 | _::_,[],h=>h.elim
 | kv::kvs,g::gs,h=>by
  obtain⟨h1,⟨t,h2,h3⟩,h4⟩:=h
  exact⟨h1,⟨t,h2,s _ _ h3⟩,NT.same s h4⟩
end L2
namespace L2
open PySem
theorem NT.anyK {H:Hp} {s:List Nat}:∀{kvs:List (Key×V)} {gs:List Pat},NT H kvs gs->(kvs.any fun kv=>decide (kv.1=(Sum.inr (S s):Key)))=gs.any fun g=>decide (g.1=s)
 | [],[],_=>rfl
 | [],_::_,h=>h.elim
 | _::_,[],h=>h.elim
 | kv::kvs,g::gs,h=>by
  obtain⟨h1,_,h4⟩:=h
  rw[qv_,qv_,NT.anyK h4]
  congr 1
  rw[h1]
  by_cases e:g.1=s
  ·rw[decide_eq_true e,decide_eq_true (by rw[e])]
  ·rw[decide_eq_false e,decide_eq_false fun q=>e (x6_ q)]
theorem NT.append {H:Hp}:∀{kvs kvs':List (Key×V)} {gs gs':List Pat},NT H kvs gs->NT H kvs' gs'->NT H (kvs++kvs') (gs++gs')
 | [],_,[],_,_,h=>h
 | [],_,_::_,_,h,_=>h.elim
 | _::_,_,[],_,h,_=>h.elim
 | kv::kvs,_,g::gs,_,h,h'=>⟨h.1,h.2.1,NT.append h.2.2 h'⟩
theorem NT.tups {H H':Hp} (hk:∀ b zs,H b=some (.tup zs)->H' b=some (.tup zs)):∀{kvs:List (Key×V)} {gs:List Pat},NT H kvs gs->NT H' kvs gs
 | [],[],_=>trivial
 | [],_::_,h=>h.elim
 | _::_,[],h=>h.elim
 | kv::kvs,g::gs,h=>by
  obtain⟨h1,⟨t,h2,h3⟩,h4⟩:=h
  exact⟨h1,⟨t,h2,hk _ _ h3⟩,NT.tups hk h4⟩
end L2
namespace L2
end L2
namespace L2
open PySem PySem.Spec PyProof.Rows
open Sem (wp)
open AutoSeq1 (wpAny_loadPart')
set_option maxHeartbeats 4000000 in
theorem jkx_ (l:Addr) (items:Array Value) (n:Nat) (dct:Option Addr) (sl:Array (Option Value)) :
  Meets (Builtin.«enumerate.__new__» ⟨[.type "enumerate",.ref l],[]⟩) (fun _ R s=>s.heap.get? l=some { cls:=.type "tuple",dict:=dct,data:=.seq items n,slots:=sl } /\
   R (.ok (.ret (.ref (s.heap.push { cls:=.type "tuple_iterator",data:=.fields #[.ref l,.int 0 0] }).objs.size)))
    { s with heap:=(s.heap.push { cls:=.type "tuple_iterator",data:=.fields #[.ref l,.int 0 0] }).push { cls:=.type "enumerate",data:=.fields #[.none,.bool false,.ref s.heap.objs.size,rawInt 0,.none,.none] } }) :=
 .of_wp fun prog w A R s h=>by
  obtain⟨hp,g,d,tk,os⟩:=s;obtain⟨hl,h⟩:=h
  have hsub:=sub_enumerate
  have hL:Heap.IsTuple (lk_ ⟨hp,g,d,tk,os⟩) l items:=⟨_,hl,rfl,n,rfl⟩
  wp_walk using wpAny_loadPart' hl
  refine wpAny_stack_any fun st=>wpAny_pure ?_
  split
  ·rename_i c _ _ _ _ _
   cases (c == Value.type "enumerate")
   ·wp_walk using wpAny_loadPart' hl,wpAny_pyIter_tuple hL
    exact⟨_,rfl,h⟩
   ·wp_walk using wpAny_loadPart' hl,wpAny_pyIter_tuple hL
    exact⟨_,rfl,h⟩
  ·wp_walk using wpAny_loadPart' hl,wpAny_pyIter_tuple hL
   exact⟨_,rfl,h⟩
set_option maxHeartbeats 4000000 in
theorem jkl_ (l:Addr) (items:Array Value) (n:Nat) (dct:Option Addr) (sl:Array (Option Value)) :
  Meets (Builtin.«enumerate.__new__» ⟨[.type "enumerate",.ref l],[]⟩) (fun _ R s=>s.heap.get? l=some { cls:=.type "list",dict:=dct,data:=.seq items n,slots:=sl } /\
   R (.ok (.ret (.ref (s.heap.push { cls:=.type "list_iterator",data:=.fields #[.ref l,.int 0 0] }).objs.size)))
    { s with heap:=(s.heap.push { cls:=.type "list_iterator",data:=.fields #[.ref l,.int 0 0] }).push { cls:=.type "enumerate",data:=.fields #[.none,.bool false,.ref s.heap.objs.size,rawInt 0,.none,.none] } }) :=
 .of_wp fun prog w A R s h=>by
  obtain⟨hp,g,d,tk,os⟩:=s;obtain⟨hl,h⟩:=h
  have hsub:=sub_enumerate
  have hL:Heap.IsList (lk_ ⟨hp,g,d,tk,os⟩) l items:=⟨_,hl,rfl,n,rfl⟩
  wp_walk using wpAny_loadPart' hl
  refine wpAny_stack_any fun st=>wpAny_pure ?_
  split
  ·rename_i c _ _ _ _ _
   cases (c == Value.type "enumerate")
   ·wp_walk using wpAny_loadPart' hl,wpAny_pyIter_list hL
    exact⟨_,rfl,h⟩
   ·wp_walk using wpAny_loadPart' hl,wpAny_pyIter_list hL
    exact⟨_,rfl,h⟩
  ·wp_walk using wpAny_loadPart' hl,wpAny_pyIter_list hL
   exact⟨_,rfl,h⟩
theorem jyj_ (a:Value):checkTypeCall "enumerate" ⟨[a],[]⟩=pure ():=by kernel_rfl
theorem jzd_ (a:Value):checkBuiltinCall "enumerate.__new__" ⟨[.type "enumerate",a],[]⟩=pure ():=by kernel_rfl
section
variable {prog:Program} {w:World} {A:Around} {E:Value->Shared->Prop} {s:Shared}
theorem jjb_ {l:Addr} {items:Array Value} {Q:Value->Shared->Prop} (hL:s.heap.IsTuple l items)
  (h:∀ h',IsEnum h' (s.heap.objs.size+1) s.heap.objs.size 0 .none->h'.IsTupleIter s.heap.objs.size l 0->(∀ b o,s.heap.get? b=some o->h'.get? b=some o)->Q (.ref (s.heap.objs.size+1)) { s with heap:=h' }) :
  wpAny (model prog w) A (call (.type "enumerate") [.ref l]) Q E s:=by
 obtain⟨⟨c,dct,dt,sl⟩,hl,hc,n,hd⟩:=hL
 simp only at hc hd
 subst hc hd
 refine vz_ (Q₁:=fun obj s₁=>s₁.TypeIs obj "enumerate"/\Q obj s₁) qr_ (jyj_ _) (jzd_ _) sy_ tg_ (jkx_ l items n dct sl) ⟨hl,?_⟩
  fun obj s₁ hq=>⟨hq.1,F.args_object_init_2 obj _,_,jmv_ qr_.init.lookup qr_.made (by decide),hq.1,rfl,hq.2⟩
 have hz:(s.heap.push { cls:=.type "tuple_iterator",data:=.fields #[.ref l,.int 0 0] }).objs.size=s.heap.objs.size+1:=ra_ ..
 show _/\_
 rw[hz]
 have he:IsEnum ((s.heap.push { cls:=.type "tuple_iterator",data:=.fields #[.ref l,.int 0 0] }).push { cls:=.type "enumerate",data:=.fields #[.none,.bool false,.ref s.heap.objs.size,rawInt 0,.none,.none] }) (s.heap.objs.size+1) s.heap.objs.size 0 .none:=by
  have:=pq_ (s.heap.push { cls:=.type "tuple_iterator",data:=.fields #[.ref l,.int 0 0] }) (o:={ cls:=.type "enumerate",data:=.fields #[.none,.bool false,.ref s.heap.objs.size,rawInt 0,.none,.none] }) rfl
  rw[hz] at this;exact this
 exact⟨⟨_,he,rfl⟩,h _ he ⟨_,pf_ _ (pq_ _ rfl),rfl,rfl⟩ fun b o x=>pf_ _ (pf_ _ x)⟩
theorem jkb_ {l:Addr} {items:Array Value} {Q:Value->Shared->Prop} (hL:s.heap.IsList l items)
  (h:∀ h',IsEnum h' (s.heap.objs.size+1) s.heap.objs.size 0 .none->h'.IsListIter s.heap.objs.size l 0->(∀ b o,s.heap.get? b=some o->h'.get? b=some o)->Q (.ref (s.heap.objs.size+1)) { s with heap:=h' }) :
  wpAny (model prog w) A (call (.type "enumerate") [.ref l]) Q E s:=by
 obtain⟨⟨c,dct,dt,sl⟩,hl,hc,n,hd⟩:=hL
 simp only at hc hd
 subst hc hd
 refine vz_ (Q₁:=fun obj s₁=>s₁.TypeIs obj "enumerate"/\Q obj s₁) qr_ (jyj_ _) (jzd_ _) sy_ tg_ (jkl_ l items n dct sl) ⟨hl,?_⟩
  fun obj s₁ hq=>⟨hq.1,F.args_object_init_2 obj _,_,jmv_ qr_.init.lookup qr_.made (by decide),hq.1,rfl,hq.2⟩
 have hz:(s.heap.push { cls:=.type "list_iterator",data:=.fields #[.ref l,.int 0 0] }).objs.size=s.heap.objs.size+1:=ra_ ..
 show _/\_
 rw[hz]
 have he:IsEnum ((s.heap.push { cls:=.type "list_iterator",data:=.fields #[.ref l,.int 0 0] }).push { cls:=.type "enumerate",data:=.fields #[.none,.bool false,.ref s.heap.objs.size,rawInt 0,.none,.none] }) (s.heap.objs.size+1) s.heap.objs.size 0 .none:=by
  have:=pq_ (s.heap.push { cls:=.type "list_iterator",data:=.fields #[.ref l,.int 0 0] }) (o:={ cls:=.type "enumerate",data:=.fields #[.none,.bool false,.ref s.heap.objs.size,rawInt 0,.none,.none] }) rfl
  rw[hz] at this;exact this
 exact⟨⟨_,he,rfl⟩,h _ he ⟨_,pf_ _ (pq_ _ rfl),rfl,rfl⟩ fun b o x=>pf_ _ (pf_ _ x)⟩
end
section
variable {X:Cx}
def jto_ (te:TE):TI:=fun σ H R=>te σ H (jbc_ 0 R)
theorem vk_ {elts:List Expr} {k:Nat} {tpos:Pos} {a:Expr} {ta:TE} {p pos:Pos} (hg:Gl X "enumerate") (hm:X.mg "enumerate"=none) (ha:PE X a ta) (hs:starEach [a] X.env=[(false,eval a X.env)]:=by rfl) :
  PI X (.Tuple elts k tpos) (.Call (.Name "enumerate" p) [a] [] pos) (jto_ ta):=by
 intro pins s σ H R I h
 refine Call_ (xs_ I hg hm boot_enumerate (re_ ?_ hs rfl))
 rw[hs]
 show wpAny _ _ (spliced ((false,eval a X.env)::backTo pos (starEach [] X.env))) _ _ s
 refine qy_ (thn (ha pins s σ H _ I h) fun u s2 ⟨x,H2,I2,ru,q2⟩=>rl_ ?_)
 unfold jbc_ at q2
 split at q2
 ·rename_i l
  cases ru
  have fp:∀ b∈[s2.heap.objs.size+1,s2.heap.objs.size],FpOk X pins H2 b:=fun b hb=>by
   have:s2.heap.objs.size<=b:=by
    rcases pz_.mp hb with z | z
    ·rw[z];exact sv_ _
    ·have z':b=s2.heap.objs.size:=by simpa using z
     rw[z'];exact pg_ _
   exact I2.fpOk this (I2.hok.fresh this)
  rcases q2 with ⟨xs,hl,q2⟩ | ⟨xs,hl,q2⟩
  ·obtain⟨its,rv,pl,hz⟩:=I2.list (SqL.of hl)
   refine jkb_ pl.isList fun h1 he hit hk=>?_
   refine wpAny_pyIter_enum he ?_
   refine⟨s2.heap.objs.size+1,[s2.heap.objs.size+1,s2.heap.objs.size],_,_,H2,rfl,I2.kept (t':=s2.toks) hk,vy_ (b:=0) (ok:=fun H=>H l=some (.lst xs)) (xs:=xs) (St0:=fun i h=>h.IsListIter s2.heap.objs.size l i) (t8_ _) ?_ ?_ ?_,⟨⟨.none,he⟩,hit⟩,fp,q2⟩
   ·intro X' h1 h2 h3 hc i pins s σ H I ok hn st
    exact h1▸h2▸jjp_ hc I (SqL.of ok) hn (by rw[ok];exact fun z=>nomatch z) st
   ·intro i h st
    obtain⟨o,ho,hc,hd⟩:=st
    exact⟨o,ho,fun v q=>by rw[hd] at q;cases q⟩
   ·intro i h h' st kk
    exact st.at kk
  ·obtain⟨its,rv,pl,hz⟩:=I2.tuple (SqT.of hl)
   refine jjb_ pl fun h1 he hit hk=>?_
   refine wpAny_pyIter_enum he ?_
   refine⟨s2.heap.objs.size+1,[s2.heap.objs.size+1,s2.heap.objs.size],_,_,H2,rfl,I2.kept (t':=s2.toks) hk,vy_ (b:=0) (ok:=fun H=>H l=some (.tup xs)) (xs:=xs) (St0:=fun i h=>h.IsTupleIter s2.heap.objs.size l i) (t8_ _) ?_ ?_ ?_,⟨⟨.none,he⟩,hit⟩,fp,q2⟩
   ·intro X' h1 h2 h3 hc i pins s σ H I ok hn st
    exact h1▸h2▸jor_ hc I (SqT.of ok) hn (by rw[ok];exact fun z=>nomatch z) st
   ·intro i h st
    obtain⟨o,ho,hc,hd⟩:=st
    exact⟨o,ho,fun v q=>by rw[hd] at q;cases q⟩
   ·intro i h h' st kk
    exact st.at kk
 ·exact q2.elim
end
end L2
namespace L2
open PySem PySem.Spec PyProof.Rows
structure Dm (P:Program) (w:World) (K:pb_) (mg:Str->Option Value) (base:Heap) (C:Addr) (m:Str) (k:Nat) (ps:List Str) (sp:Sp):Prop where
 ex:∃(f:Addr) (fd:FuncData),Meth K C m f/\Binds K fd ps []/\FnOk P w K mg base CX0 k f fd ps sp
structure Dk (P:Program) (w:World) (K:pb_) (mg:Str->Option Value) (base:Heap) (C:Addr) (k:Nat) (ps:List Str) (sp:Sp):Prop where
 ex:∃(f:Addr) (fd:FuncData),Mk K C f/\Binds K fd ps []/\FnOk P w K mg base CX0 k f fd ps sp
section
variable {X:Cx} {k:Nat} {C:Addr} {ps:List Str} {sp:Sp} {x m:Str} {p pos apos:Pos} {e o:Expr} {es:List Expr} {ta:TE} {t:TA}
theorem jef_ {pl:Sem Bool} (he:PE X o ta) (c:Cls X.K C) (D:Dm X.prog X.w X.K X.mg X.base C m k ps sp) (hr:Room k X.A) (ha:PA X (e::es) t)
  (hst:starEach (e::es) X.env=(false,eval e X.env)::starEach es X.env:=by rfl) (hpl:(backTo pos (starEach es X.env)).any (·.1)=false:=by rfl)
  (ht:eval (.Call (.Attribute o m apos) (e::es) [] pos) X.env=(do
   let ov <- eval o X.env
   standAt apos.atName
   let (f,first) <- holding [ov] (getMethod ov m pl)
   callWith pos f first (backTo pos (starEach (e::es) X.env)) (backToKw pos (keywordEach [] X.env))):=by rfl) :
  PE X (.Call (.Attribute o m apos) (e::es) [] pos) (jtg_ C m sp [] E0 ta t):=by
 obtain⟨f,fd,h1,h2,h3⟩:=D.ex
 exact jvz_ he c h1 h3 hr h2 .nil jig_ ha hst hpl ht
theorem jka_ (D:Dk X.prog X.w X.K X.mg X.base C k ps sp) (hr:Room (k+1) X.A) (hg:Gl X x) (hm:X.mg x=some (.ref C)) (ha:PA X (e::es) t)
  (hdb:(x == ("__debug__":Str))=false:=by decide) (he:starEach (e::es) X.env=(false,eval e X.env)::starEach es X.env:=by rfl) (hpl:(backTo pos (starEach es X.env)).any (·.1)=false:=by rfl) :
  PE X (.Call (.Name x p) (e::es) [] pos) (jiy_ C sp [] E0 t):=by
 obtain⟨f,fd,h1,h2,h3⟩:=D.ex
 exact jwg_ h1 h3 hr hg hm h2 .nil jig_ ha hdb he hpl
end
section
variable {σ:St} {H:Hp} {Q:VK} {D:Ends}
theorem jks_ {C:Addr} {m:Str} {sp:Sp} {E:XK} {ta:TE} {t:TA} (h:ta σ H fun x H1=>∃ a dx fs,x=.ref a/\H1 a=some (.ins C dx fs)/\fs.lookup m=none/\t σ H1 fun vs H2=>sp (x::(vs++[])) H2 Q E):jtg_ C m sp [] E ta t σ H Q:=h
theorem jkn_ {a C dx:Addr} {fs:List (Str×V)} {m:Str} {R:Prop} (h1:H a=some (.ins C dx fs)) (h2:fs.lookup m=none) (h:R):∃ a' dx' fs',V.ref a=.ref a'/\H a'=some (.ins C dx' fs')/\fs'.lookup m=none/\R:=⟨a,dx,fs,rfl,h1,h2,h⟩
theorem jle_ {C:Addr} {sp:Sp} {E:XK} {t:TA} (h:t σ H fun vs H1=>∀ x dx,H1 x=none->H1 dx=none->dx≠x->sp (.ref x::(vs++[])) (upd (upd H1 dx (.own x)) x (.ins C dx [])) (fun v H2=>v=.non/\Q (.ref x) H2) E):jiy_ C sp [] E t σ H Q:=h
theorem ys_ {K:pb_} {ta:TE} {f:Str} (h:ta σ H fun x H1=>∃ a C dx fs v,x=.ref a/\H1 a=some (.ins C dx fs)/\Cls K C/\NoAttr K C f/\fs.lookup f=some v/\Q v H1):tFld K ta f σ H Q:=h
theorem jea_ {K:pb_} {ta tv:TE} {f:Str} (h:tv σ H fun y H1=>ta σ H1 fun x H2=>∃ a C dx fs,x=.ref a/\H2 a=some (.ins C dx fs)/\Cls K C/\NoAttr K C f/\fs.length < 1000/\D.nx σ (upd H2 a (.ins C dx (putF f y fs)))):sFld K ta tv f D σ H:=h
theorem yy_ {K:pb_} {a C dx:Addr} {fs:List (Str×V)} {f:Str} {v:V} {R:V->Prop} (h1:H a=some (.ins C dx fs)) (c:Cls K C) (n:NoAttr K C f) (l:fs.lookup f=some v) (h:R v):∃ a' C' dx' fs' v',V.ref a=.ref a'/\H a'=some (.ins C' dx' fs')/\Cls K C'/\NoAttr K C' f/\fs'.lookup f=some v'/\R v':=⟨a,C,dx,fs,v,rfl,h1,c,n,l,h⟩
theorem jdm_ {K:pb_} {a C dx:Addr} {fs:List (Str×V)} {f:Str} {y:V} {R:Hp->Prop} (h1:H a=some (.ins C dx fs)) (c:Cls K C) (n:NoAttr K C f) (l:fs.length < 1000) (h:R (upd H a (.ins C dx (putF f y fs)))) :
  ∃ a' C' dx' fs',V.ref a=.ref a'/\H a'=some (.ins C' dx' fs')/\Cls K C'/\NoAttr K C' f/\fs'.length < 1000/\R (upd H a' (.ins C' dx' (putF f y fs'))):=⟨a,C,dx,fs,rfl,h1,c,n,l,h⟩
end
end L2
namespace L2
open PySem
open Sem (wp)
structure ZA (z TI TO i1 i2:Addr) (f1 f2:List Addr):Prop where
 TIz:TI≠z
 TOz:TO≠z
 i1z:i1≠z
 i2z:i2≠z
 TITO:TI≠TO
 TIi1:TI≠i1
 TIi2:TI≠i2
 TOi1:TO≠i1
 TOi2:TO≠i2
 i12:i1≠i2
 zf1:z∉f1
 zf2:z∉f2
 of1:TO∉f1
 of2:TO∉f2
 i1f2:i1∉f2
 i2f1:i2∉f1
section
variable {prog:Program} {w:World} {A:Around} {E:Value->Shared->Prop} {s:Shared}
end
set_option maxHeartbeats 4000000 in
section
variable {prog:Program} {w:World} {A:Around} {E:Value->Shared->Prop} {s:Shared}
end
end L2
namespace L2
open PySem PySem.Spec PyProof.Rows
section
variable {X:Cx}
end
end L2
namespace L2
open PySem PySem.Spec PyProof.Rows
section
variable {X:Cx}
end
end L2
namespace L2
open PySem
end L2
namespace L2
open PySem PySem.Spec PyProof.Rows
section
variable {X:Cx}
end
end L2
namespace L2
open PySem PySem.Spec PyProof.Rows
def Dat (H H':Hp):Prop:=(∀ b xs,H b=some (.lst xs)->H' b=some (.lst xs))/\(∀ b xs,H b=some (.tup xs)->H' b=some (.tup xs))/\∀ b kvs,H b=some (.dK kvs)->H' b=some (.dK kvs)
theorem Same.dat {H H':Hp} (h:Same H H'):Dat H H':=⟨fun b xs e=>h b _ e,fun b xs e=>h b _ e,fun b xs e=>h b _ e⟩
theorem Dat.trans {H H1 H2:Hp} (a:Dat H H1) (b:Dat H1 H2):Dat H H2:=⟨fun c o e=>b.1 c o (a.1 c o e),fun c o e=>b.2.1 c o (a.2.1 c o e),fun c o e=>b.2.2 c o (a.2.2 c o e)⟩
theorem Dat.ins {H:Hp} {p C dx:Addr} {fs:List (Str×V)} (hp:H p=some (.ins C dx fs)) (o:HO):Dat H (upd H p o):=by
 refine⟨fun b xs e=>?_,fun b xs e=>?_,fun b xs e=>?_⟩ <;>
 ·have hb:b≠p:=fun z=>by rw[z,hp] at e;cases e
  rw[jf_ hb];exact e
mutual
theorem Is.dat {H H':Hp} (h:Dat H H'):∀{d:Dt} {v:V},Is H v d->Is H' v d
 | .non,_,k=>by simp only[Is] at k ⊢;exact k
 | .bl _,_,k=>by simp only[Is] at k ⊢;exact k
 | .int _,_,k=>by simp only[Is] at k ⊢;exact k
 | .str _,_,k=>by simp only[Is] at k ⊢;exact k
 | .tup ds,_,k=>by
  simp only[Is] at k ⊢
  obtain⟨a,xs,e,h1,h2⟩:=k
  exact⟨a,xs,e,h.2.1 _ _ h1,IsL.dat h h2⟩
 | .lst ds,_,k=>by
  simp only[Is] at k ⊢
  obtain⟨a,xs,e,h1,h2⟩:=k
  exact⟨a,xs,e,h.1 _ _ h1,IsL.dat h h2⟩
theorem IsL.dat {H H':Hp} (h:Dat H H'):∀{ds:List Dt} {xs:List V},IsL H xs ds->IsL H' xs ds
 | [],[],_=>by simp only[IsL]
 | d::ds,x::xs,k=>by
  simp only[IsL] at k ⊢
  exact⟨Is.dat h k.1,IsL.dat h k.2⟩
 | [],_::_,k=>by simp only[IsL] at k
 | _::_,[],k=>by simp only[IsL] at k
end
theorem NT.dat {H H':Hp} (h:Dat H H') {kvs:List (Key×V)} {gs:List Pat} (k:NT H kvs gs):NT H' kvs gs:=NT.tups h.2.1 k
theorem jwb_ {H H1 H2:Hp} {p:Addr} (h:∀ b o,b≠p->H b=some o->H1 b=some o) (s:Same H1 H2):∀ b o,b≠p->H b=some o->H2 b=some o:=fun b o hb e=>s _ _ (h b o hb e)
theorem ui_ {H H1:Hp} {p:Addr} {x:HO} (h:∀ b o,b≠p->H b=some o->H1 b=some o):∀ b o,b≠p->H b=some o->(upd H1 p x) b=some o:=fun b o hb e=>by rw[jf_ hb];exact h b o hb e
theorem jyi_ {ty td:TE} {σ:St} {H:Hp} {Q:VK} (h:ty σ H fun y H1=>td σ H1 fun x H2=>∃ a o,x=.ref a/\DGet H2 a y o/\Q (.bl o.isSome) H2):tDIn ty td σ H Q:=h
theorem i_tB {t:TE} {σ:St} {H:Hp} {Q:Bool->Hp->Prop} (h:t σ H fun x H1=>∃ c,x=.bl c/\Q c H1):tB t σ H Q:=h
structure View where
 t:List Nat
 b:Option Nat
 i:Int
 j:Int
end L2
namespace L2
open PySem PySem.Spec PyProof.Rows
def Lay (n:Nat) (d:Dt):Prop:=t1_ (toP d)=true/\kx_ (toP d)<=n
theorem Lay.ok {n:Nat} {d:Dt} (h:Lay n d) (hn:n<=64):okD d:=by
 unfold okD SeqAt.shaped
 rw[h.1,decide_eq_true (qg_ h.2 hn)];rfl
theorem jof_ {n:Nat}:∀{ds:List Dt},(∀ d∈ds,Lay n d)->ty_ (toPs ds)=true/\ky_ (toPs ds)<=n
 | [],_=>⟨rfl,qe_ _⟩
 | d::ds,h=>by
  have h1:=h d p5_
  have h2:=jof_ (ds:=ds) fun e he=>h e (pt_ _ he)
  simp only[toPs,ty_,ky_,h1.1,h2.1,Bool.and_self,true_and]
  have:=h1.2
  have:=h2.2
  omega
theorem Lay.lst {n:Nat} {ds:List Dt} (h:∀ d∈ds,Lay n d):Lay (n+1) (.lst ds):=by
 have:=jof_ h
 unfold Lay
 simp only[toP,t1_,kx_,this.1,true_and]
 omega
theorem Lay.int {i:Int}:Lay 0 (.int i):=⟨rfl,pg_ _⟩
theorem Lay.str {l:List Nat} (h:∀ c∈l,c < 128):Lay 0 (.str (S l)):=by
 refine⟨?_,pg_ _⟩
 simp only[toP,t1_]
 unfold PyData.strOk
 rw[<- Array.all_toList]
 show (l.all fun x=>decide (x < 0x110000))=true
 rw[r5_]
 intro c hc
 have:=h c hc
 exact decide_eq_true (by omega)
end L2
namespace L2
open PySem PySem.Spec PyProof.Rows
section
variable {X:Cx}
end
end L2
namespace L2
open PySem
section
variable {prog:Program} {w:World} {A:Around} {E:Value->Shared->Prop} {s:Shared}
end
open PySem.Spec PyProof.Rows
end L2
namespace L2
open PySem PySem.Spec
section
variable {prog:Program} {w:World} {A:Around} {E:Value->Shared->Prop} {s:Shared}
end
end L2
namespace L2
open PySem PySem.Spec PyProof.Rows
section
variable {prog:Program} {w:World} {A:Around} {E:Value->Shared->Prop} {s:Shared} {z TI TO i1 i2 l1 l2 S:Addr} {xs ys:Array Value} {R:Result->Shared->Prop}
end
end L2
namespace L2
open PySem PySem.Spec PyProof.Rows
section
variable {X:Cx} {pins:List (Addr×Obj)} {σ:St} {H H':Hp} {s:Shared} {h':Heap}
theorem Inv.laidAll {t':Nat} (I:Inv X pins σ H s) (k:∀ b u,s.heap.get? b=some u->h'.get? b=some u) (old:∀ b o,H b=some o->H' b=some o) (none_:∀ b,b < s.heap.objs.size->H b=none->H' b=none)
  (new:∀ b o,H' b=some o->H b=none->ObjOk X.prog X.w H' h' b o):Inv X pins σ H' { s with heap:=h',toks:=t' }:=by
 refine I.un ⟨fun b o q _ _ _=>k b o q,fun b o q _ _ _=>⟨o.slots,k b o q⟩,fun b o q n _=>none_ b (pu_ q) n,fun b o q _=>⟨o,k b o q⟩,fun b xs e=>old b _ e,fun b o u e=>old b _ e,fun b ps e=>⟨#[],by simpa using old b _ e⟩⟩ fun b o e=>?_
 cases q:H b with
 | none=>exact new b o e q
 | some o' =>
  have e':o'=o:=by rw[old b o' q] at e;injection e
  subst e'
  exact(I.hok b o' q).stay (fun c u _ q=>k c u q) (fun c q=>old c _ q) fun c xs q=>old c _ q
end
theorem jjq_ {u v:V} {x:Value} (a:RelV u x) (b:RelV v x):u=v:=by
 cases u <;> cases v <;> simp only[RelV] at a b <;> first
  | (subst a;cases b;done)
  | (obtain⟨t,rfl⟩:=a;obtain⟨t',b⟩:=b;cases b;rfl)
  | (obtain⟨t,rfl⟩:=a;cases b;done)
  | (obtain⟨t,rfl⟩:=a;obtain⟨t',b⟩:=b;cases b;done)
  | (subst a;obtain⟨t',b⟩:=b;cases b;done)
  | (subst a;cases b;rfl)
  | rfl
section
variable {X:Cx}
end
end L2
namespace L2
open PySem PySem.Spec PyProof.Rows
section
variable {X:Cx}
theorem KV.key {κ:Type}:∀{kvs:List (κ×V)} {vs:List (κ×Value)},KV kvs vs->vs.map (·.1)=kvs.map (·.1):=by
 intro kvs vs r
 unfold KV at r
 induction r with
 | nil=>rfl
 | cons r t ih=>rw[pj_,pj_,ih,r.1]
end
end L2
namespace L2
open PySem PySem.Spec PyProof.Rows
def VW (v d:Addr):HO:=.ext fun h=>h.IsItemsView v d
theorem vw_ok {P:Program} {w:World} {H:Hp} {h:Heap} {v d:Addr} (x:h.IsItemsView v d):ObjOk P w H h v (VW v d) :=
 ⟨x,(let ⟨o,ho,_⟩:=x;⟨o,ho⟩),fun _ _ ⟨o,a,b⟩ k=>⟨o,k _ a,b⟩⟩
def jms_:V->List V->Hp->VK->Prop:=fun x vs H Q=>match x,vs with
 | .ref d,[]=>∃ kvs,H d=some (.dK kvs)/\∀ v,H v=none->Q (.ref v) (upd H v (VW v d))
 | _,_=>False
section
variable {X:Cx}
theorem jwu_:MtR X "dict.items" jms_:=fun pins s σ H x vs v us Q I rx rs h=>by
 unfold jms_ at h
 split at h
 ·rename_i d
  obtain⟨kvs,e,q⟩:=h
  cases rx
  cases rs
  obtain⟨z,hd,vs,rel,dd⟩:=joq_ I.hok e
  refine call_meetsIn kc_ dd.typeIs PySem.F.entry_dict_items (PySem.F.args_dict_items_1 _) (meets_dict_items (j9_ X.prog X.w) d hd) ⟨⟨vs,dd⟩,?_⟩
  have I2:Inv X pins σ (upd H s.heap.objs.size (VW s.heap.objs.size d)) { s with heap:=s.heap.push { cls:=.type "dict_items",data:=.fields #[.ref d] } } :=
   I.laid (a:=s.heap.objs.size) (o:=VW s.heap.objs.size d) (t':=s.toks) (fun b u q=>pf_ _ q) (pg_ _) (vw_ok ⟨_,pq_ _ rfl,rfl,rfl⟩)
  exact⟨.ref s.heap.objs.size,_,I2,rfl,q _ (I.hok.fresh (pg_ _))⟩
 ·exact h.elim
theorem Inv.pairs {pins:List (Addr×Obj)} {σ:St} {H2:Hp} {s2:Shared} {h3:Heap} {tk c:Nat} {qa:Addr} {Ts:List Addr} {xs ys:List V} {acc:Array Value} (I2:Inv X pins σ H2 s2) (kk:∀ b o,s2.heap.get? b=some o->h3.get? b=some o) (hq:s2.heap.objs.size<=qa)
  (hS3:h3.get? qa=some { cls:=.type "list",dict:=none,data:=.seq acc c,slots:=#[] }) (hTl:acc.toList=Ts.map Value.ref) (hT:Ts.length=xs.length) (hz1:xs.length<=sizeLine)
  (hTj:∀(j:Nat) T,Ts[j]?=some T->∃ u v x y,xs[j]?=some u/\ys[j]?=some v/\RelV u x/\RelV v y/\IsPair h3 T x y/\qa < T) :
  ∃ H3:Hp,Inv X pins σ H3 { s2 with heap:=h3,toks:=tk }/\H2 qa=none/\H3 qa=some (.lst (Ts.map V.ref))/\(∀(j:Nat) T,Ts[j]?=some T->∃ u v,xs[j]?=some u/\ys[j]?=some v/\H3 T=some (.tup [u,v]))/\Same H2 H3:=by
 have hqn:H2 qa=none:=I2.hok.fresh hq
 have hTn:∀ T∈Ts,H2 T=none/\T≠qa:=fun T hm=>by
  obtain⟨j,hj⟩:=rn_.mp hm
  obtain⟨_,_,_,_,_,_,_,_,_,g⟩:=hTj j T hj
  exact⟨I2.hok.fresh (q6_ (rp_ hq g)),(p3_ g).symm⟩
 obtain⟨H3,hH⟩:∃ H3:Hp,H3=fun b=>if b=qa then some (.lst (Ts.map V.ref)) else match (q7_ Ts.length).find? (fun j=>decide (Ts[j]?=some b)) with
   | some j=>some (.tup [xs.getD j .non,ys.getD j .non])
   | none=>H2 b:=⟨_,rfl⟩
 have h3q:H3 qa=some (.lst (Ts.map V.ref)):=by rw[hH];simp
 have h3o:∀ b,b≠qa->b∉Ts->H3 b=H2 b:=fun b hb hm=>by
  rw[hH]
  simp only[if_neg hb]
  have:(q7_ Ts.length).find? (fun j=>decide (Ts[j]?=some b))=none:=by
   rw[tr_]
   intro j _ hc
   exact hm (qs_ (of_decide_eq_true hc))
  rw[this]
 have h3T:∀ T∈Ts,∃ j,Ts[j]?=some T/\H3 T=some (.tup [xs.getD j .non,ys.getD j .non]):=fun T hm=>by
  have hne:=(hTn T hm).2
  cases hf:(q7_ Ts.length).find? (fun j=>decide (Ts[j]?=some T)) with
  | none =>
   obtain⟨j,hj,hjT⟩:=k7_.mp hm
   have:=tr_.mp hf j (wv_.mpr hj)
   exact absurd (decide_eq_true (by rw[pa_ hj,hjT])) this
  | some j =>
   have hd:=List.find?_some hf
   refine⟨j,of_decide_eq_true hd,?_⟩
   rw[hH]
   simp only[if_neg hne,hf]
 have same:Same H2 H3:=fun b o e=>by
  rw[h3o b (fun z=>by rw[z,hqn] at e;cases e) (fun m=>by rw[(hTn b m).1] at e;cases e)]
  exact e
 have I3:Inv X pins σ H3 { s2 with heap:=h3,toks:=tk }:=by
  refine I2.laidAll kk same (fun b hb hn=>?_) fun b o e hn=>?_
  ·rw[h3o b (fun z=>by rw[z] at hb;exact absurd hb (Nat.not_lt_of_le hq)) (fun m=>?_)]
   ·exact hn
   ·obtain⟨j,hj⟩:=rn_.mp m
    obtain⟨_,_,_,_,_,_,_,_,_,g⟩:=hTj j b hj
    exact absurd hb (Nat.not_lt_of_le (q6_ (rp_ hq g)))
  ·by_cases hb:b=qa
   ·subst hb
    rw[h3q] at e
    cases e
    refine⟨by rw[pc_,hT];exact hz1,acc.toList,c,?_,by rw[k9_];exact hS3⟩
    rw[hTl]
    have:∀ l:List Addr,Vals (l.map V.ref) (l.map Value.ref):=fun l=>by
     induction l with
     | nil=>exact .nil
     | cons t l ih=>exact .cons rfl ih
    exact this Ts
   ·by_cases hm:b∈Ts
    ·obtain⟨j,hj,e'⟩:=h3T b hm
     rw[e'] at e
     cases e
     obtain⟨u,v,x,y,g1,g2,r1,r2,g3,_⟩:=hTj j b hj
     have d1:xs.getD j .non=u:=by rw[pe_,g1];rfl
     have d2:ys.getD j .non=v:=by rw[pe_,g2];rfl
     rw[d1,d2]
     exact⟨by show 2<=sizeLine;decide,[x,y],.cons r1 (.cons r2 .nil),⟨_,g3,rfl,_,rfl⟩⟩
    ·rw[h3o b hb hm,hn] at e
     cases e
 refine⟨H3,I3,hqn,h3q,fun j T e=>?_,same⟩
 obtain⟨j',hj',e'⟩:=h3T T (qs_ e)
 obtain⟨u,v,x,y,g1,g2,r1,r2,g3,_⟩:=hTj j T e
 obtain⟨u',v',x',y',g1',g2',r1',r2',g3',_⟩:=hTj j' T hj'
 have hxy:x=x'/\y=y':=by
  have e3:some _=some _:=g3.symm.trans g3'
  have e4:=congrArg (fun o:Option Obj=>o.map fun o=>o.data) e3
  simp only[rf_,s5_,Data.seq.injEq] at e4
  have e5:=congrArg kp_ e4.1
  simp only[r0_,and_true] at e5
  exact e5
 obtain⟨rfl,rfl⟩:=hxy
 have hu:=jjq_ r1 r1'
 have hv:=jjq_ r2 r2'
 subst hu hv
 refine⟨u,v,g1,g2,?_⟩
 rw[e',pe_,g1',pe_,g2']
 rfl
theorem KV.valD {κ:Type}:∀{kvs:List (κ×V)} {vs:List (κ×Value)},KV kvs vs->∀{j:Nat} {p:κ×Value},vs[j]?=some p->∃ q,kvs[j]?=some q/\q.1=p.1/\RelV q.2 p.2:=by
 intro kvs vs r
 unfold KV at r
 induction r with
 | nil=>intro j p h;cases h
 | cons r t ih =>
  intro j p h
  cases j with
  | zero=>cases h;exact⟨_,rfl,r.1,r.2⟩
  | succ j=>exact ih (j:=j) h
def jls_:List V->Hp->VK->Prop:=fun xs H Q=>match xs with
 | [.ref v]=>∃(d:Addr) (kvs:List (Key×V)),H v=some (VW v d)/\H d=some (.dK kvs)/\∀(q:Addr) (Ts:List Addr) (H3:Hp),H q=none->H3 q=some (.lst (Ts.map V.ref))->Ts.length=kvs.length->(∀(j:Nat) T,Ts[j]?=some T->∃ kv,kvs[j]?=some kv/\H3 T=some (.tup [kV kv.1,kv.2]))->Same H H3->Q (.ref q) H3
 | _=>False
theorem jxm_ (hc:X.calm=true):CallR X (.type "list") jls_:=by
 intro pins s σ H xs us Q I r h
 unfold jls_ at h
 split at h
 ·rename_i v
  obtain⟨u,rfl,ru⟩:=ve_ r
  cases ru
  obtain⟨d,kvs,hv,e,q⟩:=h
  have vw:s.heap.IsItemsView v d:=(I.hok v _ hv).1
  obtain⟨z,hd,vs,rel,dd⟩:=joq_ I.hok e
  obtain⟨ep,hat⟩:=dd.dictAt
  have hk:=KV.key rel
  have hl:vs.length=kvs.length:=by rw[<- pc_ (f:=(·.1)),hk,pc_]
  refine PySem.W.kdx_call (knd:=j9_ X.prog X.w) (I.ok.hd hc) vw hat (by rw[hl];exact z) fun h3 tk acc c as kk hS hal hG hacc=>?_
  obtain⟨H3,I3,a1,a2,a3,a4⟩:=I.pairs (tk:=tk) (Ts:=as) (xs:=kvs.map fun kv=>kV kv.1) (ys:=kvs.map fun kv=>kv.2) kk (pg_ _) hS hacc (by rw[pc_,hal,hl]) (by rw[pc_];exact z) fun j T hT=>by
   obtain⟨key,k,x,e1,e2,e3⟩:=hG.pairs j T hT
   obtain⟨kv,b1,b2,b3⟩:=KV.valD rel e1
   refine⟨kV kv.1,kv.2,key,x,by rw[pm_,b1];rfl,by rw[pm_,b1];rfl,?_,b3,e3,hG.above T (qs_ hT)⟩
   rw[b2]
   rcases zb_ (show jbp_ k key=true from e2) with ⟨i,t,rfl,rfl⟩ | ⟨y,t,rfl,rfl⟩
   ·exact⟨t,rfl⟩
   ·exact⟨t,rfl⟩
  refine⟨.ref s.heap.objs.size,H3,I3,rfl,q _ as H3 a1 a2 (by rw[hal,hl]) (fun j T hT=>?_) a4⟩
  obtain⟨u,v',c1,c2,c3⟩:=a3 j T hT
  rw[pm_] at c1 c2
  cases hkv:kvs[j]? with
  | none=>rw[hkv] at c1;cases c1
  | some kv =>
   rw[hkv] at c1 c2
   cases c1;cases c2
   exact⟨kv,rfl,c3⟩
 ·exact h.elim
theorem jwn_ {H:Hp} {Q:VK} {d:Addr} {kvs:List (Key×V)} (h1:H d=some (.dK kvs)) (h:∀ v,H v=none->Q (.ref v) (upd H v (VW v d))):jms_ (.ref d) [] H Q:=⟨kvs,h1,h⟩
theorem jwt_ {H:Hp} {Q:VK} {v d:Addr} {kvs:List (Key×V)} (h1:H v=some (VW v d)) (h2:H d=some (.dK kvs)) (h:∀(q:Addr) (Ts:List Addr) (H3:Hp),H q=none->H3 q=some (.lst (Ts.map V.ref))->Ts.length=kvs.length->(∀(j:Nat) T,Ts[j]?=some T->∃ kv,kvs[j]?=some kv/\H3 T=some (.tup [kV kv.1,kv.2]))->Same H H3->Q (.ref q) H3):jls_ [.ref v] H Q:=⟨d,kvs,h1,h2,h⟩
end
end L2
namespace L2
open PySem PySem.Spec PyProof.Rows
def Itd (a:Addr) (o:Obj) (kvs:List (Key×V)):It where
 go i H:=H a=some (.frz o (.dK kvs))/\i < kvs.length
 yld i H x H':=H'=H/\∃ kv,kvs[i]?=some kv/\x=kV kv.1
 stop i H:=H a=some (.frz o (.dK kvs))/\kvs.length<=i
theorem jtc_ {k:Key} {v:Value} (h:jbp_ k v=true):RelV (kV k) v:=by
 rcases zb_ h with ⟨i,t,rfl,rfl⟩ | ⟨y,t,rfl,rfl⟩
 ·exact⟨t,rfl⟩
 ·exact⟨t,rfl⟩
theorem KV.keyAt {κ:Type} {kvs:List (κ×V)} {vs:List (κ×Value)} (h:KV kvs vs) {j:Nat} {kv:κ×V} (e:kvs[j]?=some kv):∃ x,vs[j]?=some (kv.1,x):=by
 have hk:=KV.key h
 have hj:(vs.map (·.1))[j]?=some kv.1:=by rw[hk,pm_,e];rfl
 rw[pm_] at hj
 cases hp:vs[j]? with
 | none=>rw[hp] at hj;cases hj
 | some p =>
  rw[hp] at hj
  obtain⟨p1,p2⟩:=p
  have hj:p1=kv.1:=by injection hj
  exact⟨p2,by rw[hj]⟩
theorem KV.len {κ:Type} {kvs:List (κ×V)} {vs:List (κ×Value)} (h:KV kvs vs):vs.length=kvs.length:=by
 rw[<- pc_ (f:=(·.1)),KV.key h,pc_]
theorem jqx_ {P:Program} {w:World} {K:pb_} {tg:Expr} {a it:Addr} {o:Obj} {kvs:List (Key×V)} {vs:List (Key×Value)} {ep:Nat} (hat:∀ h:Heap,h.get? a=some o->h.DictAt (j9_ P w) a vs ep) (rel:KV kvs vs) :
  Turn P w K tg (Itd a o kvs) [it] it (fun i h=>h.IsKeyIter it a i vs.length ep) where
 mem:=by simp
 obj:=fun i h st b hb=>by
  have e:b=it:=by simpa using hb
  subst e
  obtain⟨ob,ho,hc,hd⟩:=st
  exact⟨ob,ho,fun v z=>by rw[hd] at z;cases z⟩
 keep:=fun i h h' st k=>st.at fun ob e=>k it (by simp) ob e
 item:=by
  intro X hP hw hK hc i pins s σ H E I hf st hg
  subst hP hw hK
  obtain⟨f0,f1,f2,f3,f4,f5⟩:=hf it (by simp)
  have ha:s.heap.get? a=some o:=(I.hok a _ hg.1).1
  have hi:i < kvs.length:=hg.2
  obtain⟨x,hx⟩:=KV.keyAt rel (pa_ hi)
  refine wpAny_pyNext_dict_item st (hat _ ha) hx fun key h' hk st' sb=>?_
  have I1:Inv X pins σ H { s with heap:=h' }:=I.turned (t':=s.toks) (fun b ob hb e=>(sb.2 b hb).trans e) f0 f1 f3 f4 f5
  obtain⟨ob,e,c,d⟩:=id st'
  exact⟨key,rfl,jfn_ (s:={ s with heap:=h' }) e c d (by decide) ⟨kV (kvs[i]'hi).1,H,I1,jtc_ hk,⟨rfl,kvs[i]'hi,pa_ hi,rfl⟩,st',fun b hb=>(hf b hb).1⟩⟩
 done:=by
  intro X hP hw hK hc i pins s σ H E I hf st hg
  subst hP hw hK
  obtain⟨f0,f1,f2,f3,f4,f5⟩:=hf it (by simp)
  have ha:s.heap.get? a=some o:=(I.hok a _ hg.1).1
  exact wpAny_pyNext_dict_end (I.ok.hd hc) st (hat _ ha) (t7_ (by rw[KV.len rel];exact hg.2)) fun h' eb=>⟨rfl,I.turned (t':=s.toks) (fun b ob hb e=>eb b ob hb e) f0 f1 f3 f4 f5⟩
 self:=fun _ _ _ _ _ st h=>wpAny_pyIter_keyiter st h
section
variable {X:Cx} {tg:Expr}
def jzk_ (tl:TE):TI:=fun σ H R=>tl σ H fun x H1=>∃(a:Addr) (kvs:List (Key×V)),x=.ref a/\H1 a=some (.dK kvs)/\∀ o,R (Itd a o kvs) (upd H1 a (.frz o (.dK kvs)))
theorem jvv_ {l:Expr} {tl:TE} (hl:PE X l tl):PI X tg l (jzk_ tl):=by
 intro pins s σ H R I h
 refine thn (hl pins s σ H _ I h) fun v s1 ⟨x,H1,I1,r1,q1⟩=>?_
 obtain⟨a,kvs,rfl,e,q⟩:=q1
 cases r1
 obtain⟨z,hd,vs,rel,dd⟩:=joq_ I1.hok e
 obtain⟨ep,o,es,ho,r⟩:=dd.dictAt
 have hat:∀ h:Heap,h.get? a=some o->h.DictAt (j9_ X.prog X.w) a vs ep:=fun h e=>⟨o,es,e,r⟩
 have I2:Inv X pins σ (upd H1 a (.frz o (.dK kvs))) { s1 with heap:=s1.heap,toks:=s1.toks } :=
  I1.write (x:=a) (e:=a) (by rw[e];exact True.intro) (.inl rfl) (fun b u _ q=>q) ⟨_,ho⟩ ⟨ho,(I1.hok a _ e).stay (fun b u _ q=>q) (fun b q=>by rw[jf_ (yh_ q e (by intro z;cases z))];exact q) fun b xs q=>by rw[jf_ (yh_ q e (by intro z;cases z))];exact q⟩
 have hn:∀ b,s1.heap.objs.size<=b->(upd H1 a (.frz o (.dK kvs))) b=none:=fun b hb=>I2.hok.fresh hb
 refine wpAny_pyIter_dict hd (hat _ ho) ?_
 refine⟨s1.heap.objs.size,[s1.heap.objs.size],_,_,upd H1 a (.frz o (.dK kvs)),rfl,I2.kept (t':=s1.toks) fun b o e=>pf_ _ e,jqx_ hat rel,⟨_,pq_ _ rfl,rfl,rfl⟩,fun b hb=>?_,q o⟩
 have e:b=s1.heap.objs.size:=by simpa using hb
 subst e
 exact I2.fpOk (pg_ _) (hn _ (pg_ _))
def jyw_ (H₀:Hp) (t:TS):TS:=fun D σ H=>∃(a:Addr) (kvs:List (Key×V)),(∀ o u,H₀ a≠some (.frz o u))/\t { D with nx:=fun σ' H'=>(∃ o,H' a=some (.frz o (.dK kvs)))/\D.nx σ' (upd H' a (.dK kvs)) } σ H
theorem Inv.thaw {pins:List (Addr×Obj)} {σ:St} {H:Hp} {s:Shared} {a:Addr} {o:Obj} {kvs:List (Key×V)} (I:Inv X pins σ H s) (e:H a=some (.frz o (.dK kvs))) (h0:∀ o u,X.H₀ a≠some (.frz o u)):Inv X pins σ (upd H a (.dK kvs)) s:=by
 have ne:∀ b,H b=none->b≠a:=fun b q z=>by rw[z,e] at q;cases q
 refine⟨I.ok,I.os,I.bare,⟨I.base.keep,I.base.slot,fun b ob q n hx=>?_,I.base.there,fun b xs q=>?_,fun b ob u q=>?_,fun b ps q=>?_⟩,I.loc,I.cell,?_,fun x c q=>?_,fun p hp=>?_,fun b ob q=>?_,I.len⟩
 ·have:=I.base.free b ob q n hx
  rw[jf_ (ne b this)];exact this
 ·have:=I.base.tups b xs q
  rw[jf_ (fun z=>by rw[z,e] at this;cases this)];exact this
 ·have:=I.base.frzs b ob u q
  rw[jf_ (fun z=>h0 _ _ (z▸q))];exact this
 ·obtain⟨more,this⟩:=I.base.tbls b ps q
  exact⟨more,by rw[jf_ (fun z=>by rw[z,e] at this;cases this)];exact this⟩
 ·rw[jf_ (ne _ I.free)];exact I.free
 ·rw[jf_ (ne _ (I.freeC x c q))];exact I.freeC x c q
 ·obtain⟨p1,p2,p3⟩:=I.pin p hp
  exact⟨p1,by rw[jf_ (ne _ p2)];exact p2,p3⟩
 ·have st:∀{u:HO},ObjOk X.prog X.w H s.heap b u->ObjOk X.prog X.w (upd H a (.dK kvs)) s.heap b u:=fun x=>x.stay (fun _ _ _ q=>q) (fun c q=>by rw[jf_ (yh_ q e (by intro z;cases z))];exact q) fun c xs q=>by rw[jf_ (yh_ q e (by intro z;cases z))];exact q
  by_cases hb:b=a
  ·subst hb
   rw[jb_] at q
   cases q
   exact st (I.hok b _ e).2
  ·rw[jf_ hb] at q
   exact st (I.hok b ob q)
theorem jyc_ {st:Stmt} {t:TS} (h:PS X st t):PS X st (jyw_ X.H₀ t):=by
 intro pins s σ H D I ⟨a,kvs,h0,q⟩
 refine thn (h pins s σ H _ I q) fun f s1 z=>?_
 cases f with
 | next =>
  obtain⟨σ',H',I',⟨o,e⟩,q'⟩:=z
  exact⟨σ',_,I'.thaw e h0,q'⟩
 | brk=>exact z
 | cont=>exact z
 | ret u=>exact z
theorem zaa_ {H₀:Hp} {t:TS} {D:Ends} {σ:St} {H:Hp} (a:Addr) (kvs:List (Key×V)) (h0:∀ o u,H₀ a≠some (.frz o u)) (h:t { D with nx:=fun σ' H'=>(∃ o,H' a=some (.frz o (.dK kvs)))/\D.nx σ' (upd H' a (.dK kvs)) } σ H):jyw_ H₀ t D σ H:=⟨a,kvs,h0,h⟩
theorem i_dict {tl:TE} {σ:St} {H:Hp} {R:It->Hp->Prop} (h:tl σ H fun x H1=>∃(a:Addr) (kvs:List (Key×V)),x=.ref a/\H1 a=some (.dK kvs)/\∀ o,R (Itd a o kvs) (upd H1 a (.frz o (.dK kvs)))):jzk_ tl σ H R:=h
end
theorem jtp_ {a:Addr} {o:Obj} {kvs:List (Key×V)} {g:TG} {tb:TS} {D:Ends} {σ:St} {H:Hp} (Pv:Nat->St->Hp->Prop) (h0:Pv 0 σ H) (hok:∀ i σ H,i<=kvs.length->Pv i σ H->H a=some (.frz o (.dK kvs)))
  (hs:∀ i kv σ H,kvs[i]?=some kv->Pv i σ H->g (kV kv.1) σ H fun σ2 H2=>tb { D with nx:=Pv (i+1),ct:=Pv (i+1),bk:=D.nx } σ2 H2) (hd:∀ σ H,Pv kvs.length σ H->D.nx σ H) :
  ∃ W:Nat->Nat->St->Hp->Prop,(∃ m,W 0 m σ H)/\∀ i m σ H,W i m σ H ->
   ((Itd a o kvs).stop i H/\D.nx σ H)∨((Itd a o kvs).go i H/\∃ N:St->Hp->Prop,(∀ σ' H',N σ' H'->∃ m',m' < m/\W (i+1) m' σ' H')/\∀ x H',(Itd a o kvs).yld i H x H'->g x σ H' fun σ2 H2=>tb { D with nx:=N,ct:=N,bk:=D.nx } σ2 H2):=by
 refine⟨fun i m σ H=>m=kvs.length - i/\i<=kvs.length/\Pv i σ H,⟨kvs.length,by simp,qe_ _,h0⟩,fun i m σ' H' w=>?_⟩
 obtain⟨rfl,hi,p⟩:=w
 have ho:=hok i σ' H' hi p
 by_cases hlt:i < kvs.length
 ·refine .inr ⟨⟨ho,hlt⟩,Pv (i+1),fun σ2 H2 p'=>⟨kvs.length - (i+1),by omega,rfl,hlt,p'⟩,fun x H2 y=>?_⟩
  obtain⟨rfl,kv,hv,rfl⟩:=y
  exact hs i kv σ' H2 hv p
 ·have e:i=kvs.length:=by omega
  exact .inl ⟨⟨ho,by omega⟩,hd σ' H' (e▸p)⟩
section
variable {X:Cx}
def jmd_:List V->Hp->VK->Prop:=fun xs H Q=>match xs with
 | [.ref a]=>∃ kvs,Rd H a (.dK kvs)/\∀ l,H l=none->Q (.ref l) (upd H l (.lst (kvs.map fun kv=>kV kv.1)))
 | _=>False
theorem jwl_ (hc:X.calm=true):CallR X (.type "list") jmd_:=by
 intro pins s σ H xs us Q I r h
 unfold jmd_ at h
 split at h
 ·rename_i a
  obtain⟨u,rfl,ru⟩:=ve_ r
  cases ru
  obtain⟨kvs,e,q⟩:=h
  obtain⟨z,hd,vs,rel,dd⟩:=jbg_ I.hok e
  obtain⟨ep,hat⟩:=dd.dictAt
  have hl:=KV.len rel
  refine PySem.W.kdl_call (PySem.W.kdl_dict (knd:=j9_ X.prog X.w) (kvs:=vs) (ep:=ep) hd) (I.ok.hd hc) hat (by rw[hl];exact z) fun h' tk acc c kk hS hacc=>?_
  have hv:Vals (kvs.map fun kv=>kV kv.1) acc.toList:=by
   have hsz:acc.size=kvs.length:=by rw[hacc.1,hl]
   have key:∀(n:Nat),n<=kvs.length->Vals ((kvs.map fun kv=>kV kv.1).take n) (acc.toList.take n):=fun n=>by
    induction n with
    | zero=>intro _;simp;exact .nil
    | succ n ih =>
     intro hn
     have hn':n < kvs.length:=by omega
     have h1:(kvs.map fun kv=>kV kv.1).take (n+1)=(kvs.map fun kv=>kV kv.1).take n++[kV kvs[n].1]:=by rw[qb_,pm_,pa_ hn'];rfl
     have ha:n < acc.toList.length:=by rw[sk_,hsz];exact hn'
     have h2:acc.toList.take (n+1)=acc.toList.take n++[acc.toList[n]]:=by rw[qb_,pa_ ha];rfl
     rw[h1,h2]
     refine(ih (by omega)).append (.cons ?_ .nil)
     obtain⟨k,x,hx,hi⟩:=hacc.2 n acc.toList[n] (by rw[<- kv_,pa_ ha])
     obtain⟨x',hx'⟩:=KV.keyAt rel (pa_ hn')
     rw[hx] at hx'
     have ek:k=kvs[n].1:=by injection hx' with hx';injection hx'
     rw[<- ek]
     exact jtc_ hi
   have:=key kvs.length (pg_ _)
   rw[rj_ (by rw[pc_];exact pg_ _),rj_ (by rw[sk_,hsz];exact pg_ _)] at this
   exact this
  refine⟨.ref s.heap.objs.size,_,I.laid (a:=s.heap.objs.size) (o:=.lst (kvs.map fun kv=>kV kv.1)) (t':=tk) kk (pg_ _) ⟨by rw[pc_];exact z,acc.toList,c,hv,by rw[k9_];exact hS⟩,rfl,q _ (I.hok.fresh (pg_ _))⟩
 ·exact h.elim
theorem jyd_ {H:Hp} {Q:VK} {a:Addr} {kvs:List (Key×V)} (h1:H a=some (.dK kvs)) (h:∀ l,H l=none->Q (.ref l) (upd H l (.lst (kvs.map fun kv=>kV kv.1)))):jmd_ [.ref a] H Q:=⟨kvs,.inl h1,h⟩
theorem o_inK {K:pb_} (hK:X.K=K:=by rfl):OpR X (compareOp .In) (rIn K false):=hK▸jet_
end
end L2
namespace L2
open PySem PySem.Spec PyProof.Rows
end L2
namespace L2
open PySem
abbrev vBM:List Value:=[.type "ValueError",.type "Exception",.type "BaseException",.type "object"]
abbrev xNew:String:="ValueError.__new__"
abbrev xIni:String:="ValueError.__init__"
theorem xB:ExcBaseFacts "ValueError" xNew xIni vBM:=PySem.F.excBase_ValueError
def Lk (M:Model) (h:Heap) {α:Type} (m:Sem α) (r:α):Prop:=∀(A:Around) (Q:α->Shared->Prop) (E:Value->Shared->Prop) (s:Shared),s.heap=h->Q r s->wpAny M A m Q E s
theorem Lk.run {M:Model} {h:Heap} {α:Type} {m:Sem α} {r:α} (l:Lk M h m r) {A:Around} {Q:α->Shared->Prop} {E:Value->Shared->Prop} {s:Shared} (e:s.heap=h) (q:Q r s):wpAny M A m Q E s:=l A Q E s e q
abbrev jtd_ (C:Addr) (t:Addr):Obj:={ cls:=.ref C,data:=.fields #[.ref t,.none,.none,.none,.bool false,.none] }
def yw_ (C:Addr) (us:List Value) (h:Heap):Heap:=(h.push { cls:=.type "tuple",data:=.seq us.toArray }).push (jtd_ C h.objs.size)
theorem jbm_ {C:Addr} {us:List Value} {h:Heap} {b:Addr} {o:Obj} (e:h.get? b=some o):(yw_ C us h).get? b=some o:=pf_ _ (pf_ _ e)
theorem jfz_ {C:Addr} {us:List Value} {h:Heap}:(yw_ C us h).get? (h.objs.size+1)=some (jtd_ C h.objs.size):=by
 have:=pq_ (h.push { cls:=.type "tuple",data:=.seq us.toArray }) (o:=jtd_ C h.objs.size) rfl
 rwa [ra_] at this
section
variable {prog:Program} {w:World} {M:Model} {A:Around} {E:Value->Shared->Prop} {R:Result->Shared->Prop} {h:Heap} {g:Array GenState} {dr:Drawn} {tk:Nat} {os:OsState}
variable {nm qn:Str} {C N W:Addr} {bs:List Value} {hdct:Bool} {sn:List Str} {sub:List Value} {ab:Bool} {col:Option Bool} {dd:Option Addr} {k0 k1 k2 k3 k5:Option Value} {us:List Value}
theorem xd_ {X:String} {b:Bool} (e:vBM.contains (.type X)=b):(Value.ref C::.ref W::vBM).contains (.type X)=b:=by
 rw[st_,st_,e];rfl
theorem jgq_ {Q:Unit->Shared->Prop} (oC:h.get? C=some (excClassObj nm qn C N bs (.ref W::vBM) hdct sn sub ab col dd k0 k1 k2 k3 k5 xNew)) (k:Q () ⟨h,g,dr,tk,os⟩) :
  wpAny M A (checkBuiltinCall xNew ⟨.ref C::us,[]⟩) Q E ⟨h,g,dr,tk,os⟩:=by
 have c1:(Value.ref C::.ref W::vBM).contains (.type "ValueError")=true:=xd_ xB.hasB
 have c2:=xB.noStar
 simp only[checkBuiltinCall,xB.newKind,xB.newSplit,xB.newRow]
 repeat (first | refine wpAny_loadPart_at oC ?_ | (refine wpAny_isSubtype_exc oC ?_;rw[c1]) | refine wpAny_staticBase_exc oC ?_ | refine wpAny_madeBy_exc oC ?_ | simp only[bne_self_eq_false,ss_,if_false] | wp_step)
 exact k
theorem xc_new (oC:h.get? C=some (excClassObj nm qn C N bs (.ref W::vBM) hdct sn sub ab col dd k0 k1 k2 k3 k5 xNew))
  (k:R (.ok (.ret (.ref (h.objs.size+1)))) ⟨yw_ C us h,g,dr,tk,os⟩) (hus:us.length<=sizeLine) :
  codeAny (model prog w) A (.builtin xNew ⟨.ref C::us,[]⟩) R ⟨h,g,dr,tk,os⟩:=by
 have c0:=xB.ends
 have c1:(Value.ref C::.ref W::vBM).contains (.type "ValueError")=true:=xd_ xB.hasB
 have c2:(Value.ref C::.ref W::vBM).contains (.type "AttributeError")=false:=xd_ xB.noAttr
 have c3:(Value.ref C::.ref W::vBM).contains (.type "NameError")=false:=xd_ xB.noName
 refine codeAny_builtinAt xB.entry ?_
 unfold Builtin.«BaseException.__new__»
 refine wpAt_bind ?_
 show wpAt _ _ _ (stack >>= _) _ _ _
 refine wpAt_bind (wpAt_stack fun p below=>wpAt_of_wpAny ?_)
 wp_walk
 refine wpAt_of_wpAny ?_
 rw[xB.owner]
 repeat (first | with_reducible refine wpAny_madeHere_exc xB.canon oC ?_ | with_reducible refine wpAny_loadPart_at oC ?_ | (with_reducible refine wpAny_isSubtype_exc oC ?_;first | rw[c1] | rw[c2] | rw[c3]) | wp_step)
 show R _ _
 rw[ra_]
 exact k
theorem jep_ {e:Addr} {oe:Obj} {Q:Unit->Shared->Prop} (oC:h.get? C=some (excClassObj nm qn C N bs (.ref W::vBM) hdct sn sub ab col dd k0 k1 k2 k3 k5 xNew))
  (he:h.get? e=some oe) (ec:oe.cls=.ref C) (k:Q () ⟨h,g,dr,tk,os⟩):wpAny M A (checkBuiltinCall xIni ⟨.ref e::us,[]⟩) Q E ⟨h,g,dr,tk,os⟩:=by
 have c1:(Value.ref C::.ref W::vBM).contains (.type "ValueError")=true:=xd_ xB.hasB
 have c2:=xB.noStar
 simp only[checkBuiltinCall,xB.initKind,xB.initSplit,xB.initRow]
 repeat (first | (with_reducible refine wpAny_loadPart_at he ?_;rw[ec]) | with_reducible refine wpAny_loadPart_at oC ?_ | (with_reducible refine wpAny_isSubtype_exc oC ?_;rw[c1]) | wp_step)
 refine wpAny_onRaise ?_
 rw[show ∀(a b:String) (n:Nat),Bind.check ⟨.positional,"*","ValueError",.self,[⟨"args",.varPos,false⟩]⟩ a b n (List.map (fun x=>x.fst) ({ pos:=Value.ref e::us }:Args).kw)=pure () from fun a b n=>check_star_args _ _ _ _ _ _]
 exact wpAny_pure k
theorem jwv_ {e:Addr} {od:Option Addr} {vs:Array Value} {Q:Value->Shared->Prop} (oC:h.get? C=some (excClassObj nm qn C N bs (.ref W::vBM) hdct sn sub ab col dd k0 k1 k2 k3 k5 xNew))
  (he:h.get? e=some ⟨.ref C,od,.fields vs,#[]⟩) {t0:Addr} (h0:vs[0]?=some (.ref t0)) (hus:us.length<=sizeLine)
  (k:∀ h',(∀ b o,b≠e->h.get? b=some o->h'.get? b=some o)->h'.get? e=some ⟨.ref C,od,.fields (vs.setIfInBounds 0 (.ref h.objs.size)),#[]⟩->Q .none ⟨h',g,dr,tk,os⟩) :
  wpAny (model prog w) A (call (.builtin xIni) (.ref e::us)) Q E ⟨h,g,dr,tk,os⟩:=by
 refine wpAny_call (codeAny_call_builtin xB.init.plain xB.initEntry (jep_ oC he rfl ?_))
 unfold Builtin.«BaseException.__init__»
 wp_walk
 rw[h0]
 have hz:0 < vs.size:=(s6_.mp h0).1
 have he2:(h.push { cls:=Value.type "tuple",data:=Data.seq us.toArray }).get? e=some ⟨.ref C,od,.fields vs,#[]⟩:=pf_ _ he
 refine wpAny_pure (wpAny_bind (wpAny_setField he2 rfl hz ?_))
 wp_walk
 refine k _ (fun b o hb eb=>?_) ?_
 ·rw[qo_ _ _ (rq_ hb)];exact pf_ _ eb
 ·rw[q1_ _ he2 rfl];rfl
theorem jrw_ {f:Value} {Q:Fin->Shared->Prop} (oC:h.get? C=some (excClassObj nm qn C N bs (.ref W::vBM) hdct sn sub ab col dd k0 k1 k2 k3 k5 xNew)) (hus:us.length<=sizeLine)
  (lk:Lk (model prog w) (yw_ C us h) (typeLookup (.ref C) "__init__") (some f))
  (bd:Lk (model prog w) (yw_ C us h) (bindSpecial f (.ref (h.objs.size+1))) (f,[.ref (h.objs.size+1)]))
  (k:wpAny (model prog w) A (call f (.ref (h.objs.size+1)::us)) (fun r s'=>r=.none/\Q (.done (.ret (.ref (h.objs.size+1)))) s') E ⟨yw_ C us h,g,dr,tk,os⟩) :
  wpAny (model prog w) A (Builtin.«type.__call__» ⟨.ref C::us,[]⟩) Q E ⟨h,g,dr,tk,os⟩:=by
 repeat (first | with_reducible refine wpAny_loadPart_at oC ?_ | with_reducible refine wpAny_madeBy_exc oC ?_ | wp_step)
 refine codeAny_call_builtin_code (wq_ _ xB.quiet) (jgq_ oC ?_)
 refine xc_new oC ?_ hus
 show wpAny _ _ _ _ _ _
 have oC1:=jbm_ (C:=C) (us:=us) oC
 have hget:=jfz_ (C:=C) (us:=us) (h:=h)
 have c1:(Value.ref C::.ref W::vBM).contains (.ref C)=true:=by simp
 unfold isInstance
 repeat (first | with_reducible refine wpAny_loadPart_at hget ?_ | (with_reducible refine wpAny_isSubtype_exc oC1 ?_;rw[c1]) | wp_step)
 show wpAny _ _ (typeLookup (.ref C) _) _ _ _
 refine lk _ _ _ _ rfl ?_
 refine wpAny_holding (wpAny_bind (bd _ _ _ _ rfl ?_))
 refine wpAny_bind (wpAny_mono k (fun r s' hr=>?_) fun _ _ x=>x)
 obtain⟨rfl,hQ⟩:=hr
 wp_walk
 exact hQ
theorem jxo_ {f:Value} {Q:Value->Shared->Prop} (oC:h.get? C=some (excClassObj nm qn C N bs (.ref W::vBM) hdct sn sub ab col dd k0 k1 k2 k3 k5 xNew)) (hus:us.length<=sizeLine)
  (lk:Lk (model prog w) (yw_ C us h) (typeLookup (.ref C) "__init__") (some f))
  (bd:Lk (model prog w) (yw_ C us h) (bindSpecial f (.ref (h.objs.size+1))) (f,[.ref (h.objs.size+1)]))
  (k:wpAny (model prog w) (A.under (.builtin "type.__call__" ⟨.ref C::us,[]⟩)) (call f (.ref (h.objs.size+1)::us)) (fun r s'=>r=.none/\Q (.ref (h.objs.size+1)) s') E ⟨yw_ C us h,g,dr,tk,os⟩) :
  wpAny (model prog w) A (call (.ref C) us) Q E ⟨h,g,dr,tk,os⟩:=by
 have c1:=tc_lookup
 have c2:=tc_bind (.ref C)
 have c3:(⟨h,g,dr,tk,os⟩:Shared).TypeIs (.ref C) "type":=⟨_,oC,rfl⟩
 refine wpAny_call (codeAny_of_tree ?_)
 show wpAny _ _ (callAny (.ref C) _) _ _ _
 repeat (any_goals (first | assumption | with_reducible refine wpAny_loadPart_at oC ?_ | wp_step))
 refine⟨rfl,?_⟩
 exact codeAny_call_builtin_at (wq_ _ (by decide +kernel)) entry_typeCall (wpAny_check_type_call_sub oC (jrw_ oC hus lk bd k))
theorem sV:StoreFacts "ValueError" vBM "object.__setattr__" "object":=PySem.F.store_ValueError
theorem jij_ {e:Addr} {oe:Obj} {nv v:Value} {Q:Unit->Shared->Prop} (oC:h.get? C=some (excClassObj nm qn C N bs (.ref W::vBM) hdct sn sub ab col dd k0 k1 k2 k3 k5 xNew))
  (he:h.get? e=some oe) (ec:oe.cls=.ref C) (k:Q () ⟨h,g,dr,tk,os⟩):wpAny M A (checkBuiltinCall "object.__setattr__" ⟨[.ref e,nv,v],[]⟩) Q E ⟨h,g,dr,tk,os⟩:=by
 have c1:(Value.ref C::.ref W::vBM).contains (.type "object")=true:=xd_ sV.hasOwner
 have c2:=sV.args (.ref e) nv v
 simp only[checkBuiltinCall,sV.kind,sV.split]
 refine wpAny_bind ?_
 unfold isInstance
 repeat (first | (with_reducible refine wpAny_loadPart_at he ?_;rw[ec]) | (with_reducible refine wpAny_isSubtype_exc oC ?_;rw[c1]) | wp_step)
 exact k
open Builtin Builtin.ObjectAttr in
theorem jky_ {e:Addr} {vs:Array Value} {name:Str} {v:Value} {Q:Unit->Shared->Prop} (oC:h.get? C=some (excClassObj nm qn C N bs (.ref W::vBM) true sn sub ab col dd k0 k1 k2 k3 k5 xNew))
  {oe:Obj} (he:h.get? e=some oe) (ec:oe.cls=.ref C) (ed:oe.dict=none) (ef:oe.data=.fields vs) (es:oe.slots=#[]) (ls:Lk (model prog w) h (typeLookup (.ref C) "__setattr__") (some (.builtin "object.__setattr__"))) (ln:Lk (model prog w) h (typeLookup (.ref C) name) none)
  (k:∀ h' tk',h'.get? e=some ⟨.ref C,some h.objs.size,.fields vs,#[]⟩->h'.Ns1 h.objs.size (fun y=>if y=name then some v else none)->(∀ b o,b≠e->h.get? b=some o->h'.get? b=some o)->Q () ⟨h',g,dr,tk',os⟩) :
  wpAny (model prog w) A (setAttr (.ref e) name v) Q E ⟨h,g,dr,tk,os⟩:=by
 have c0:=sV.slot.bind (.ref e)
 have c1:=sV.passes (.ref e)
 unfold setAttr callSpecial? specialOf
 repeat (any_goals (first | assumption | (with_reducible refine wpAny_loadPart_at he ?_;rw[ec]) | (with_reducible refine Lk.run ls rfl ?_) | wp_step))
 refine codeAny_call_builtin sV.slot.plain sV.entry (jij_ oC he ec ?_)
 unfold Builtin.«object.__setattr__»
 repeat (first | rw[refuse_eq] | (rw[refuseLoop_ref,refuseLoop_ref,c1]) | (with_reducible refine wpAny_loadPart_at he ?_;rw[ec]) | with_reducible refine wpAny_mroOf_exc oC ?_ | (with_reducible refine Lk.run ln rfl ?_) | wp_step)
 have hfr:=(Heap.get?_some_iff.mp he).2
 obtain⟨oc,od,odt,osl⟩:=oe
 dsimp only at ec ed ef es
 subst ec ed ef es
 dsimp only
 rw[if_neg (by simp[typeHasDict])]
 have he1:(h.push { cls:=.type "dict",data:=.dict #[] }).get? e=some ⟨.ref C,none,.fields vs,#[]⟩:=pf_ _ he
 have hes:e≠h.objs.size:=p3_ (pu_ he)
 refine wpAny_bind (wpAny_alloc' (wpAny_bind (wpAny_update' he1 (wpAny_pure ?_))))
 have g1:((h.push { cls:=.type "dict",data:=.dict #[] }).update e fun o=>{ cls:=o.cls,dict:=some h.objs.size,data:=o.data,slots:=o.slots }).get? h.objs.size=some { cls:=.type "dict",data:=.dict #[] } :=
  (Heap.get?_update_ne _ _ _ _ hes.symm).trans (Heap.get?_push_at rfl rfl)
 have g2:((h.push { cls:=.type "dict",data:=.dict #[] }).update e fun o=>{ cls:=o.cls,dict:=some h.objs.size,data:=o.data,slots:=o.slots }).Ns h.objs.size (fun _=>none) :=
  ⟨_,#[],_,g1,rfl,fun y hy=>absurd hy (by simp),fun _=>rfl⟩
 show wpAny _ _ (storeInDict h.objs.size (.str name tk) name v) _ _ _
 unfold storeInDict newKeyGuard
 refine wpAny_bind (wpAny_pure (wpAny_bind (wpAny_nsSet1 (lw_ g2) fun h' hn' hs=>?_)))
 obtain⟨oD,esD,epD,hoD,hdD,hcD⟩:=hn'.count (Within.cons name v Within.nil)
 refine wpAny_bind (wpAny_lookBehind hoD (by rw[hdD];exact pastItsLine_dict (qg_ hcD (by rw[pr_,p1_,sizeLine_eq];omega))) ?_)
 wp_walk
 refine k h' _ ?_ hn' fun b o hb eb=>?_
 ·exact(hs.2 e hes).trans (q1_ _ he1 rfl)
 ·exact(hs.2 b (p3_ (pu_ eb))).trans ((Heap.get?_update_ne _ _ _ _ hb).trans (pf_ _ eb))
end
end L2
namespace L2
open PySem
def Fl (base:Heap) (l:List Env) (e C:Addr) (od:Option Addr) (fl:Value) (h:Heap):Prop :=
 base.StaysIn h/\base.get? e=none/\h.FunFrames base l/\∃(vs:Array Value) (T:Addr) (oT:Obj) (ts:Array Value) (t0:Addr),
  h.get? e=some ⟨.ref C,od,.fields vs,#[]⟩/\vs.size=6/\vs[0]?=some (.ref t0)/\vs[1]?=some (.ref T)/\base.get? T=none/\T≠e/\h.get? T=some oT/\oT.data=.fields ts/\ts[3]?=some fl
theorem Fl.tail {base h:Heap} {env:Env} {l:List Env} {e C:Addr} {od:Option Addr} {fl:Value} (x:Fl base (env::l) e C od fl h):Fl base l e C od fl h :=
 ⟨x.1,x.2.1,x.2.2.1.2.2,x.2.2.2⟩
theorem Fl.at {base h:Heap} {l:List Env} {e C:Addr} {od:Option Addr} {fl:Value} (x:Fl base l e C od fl h):∃(vs:Array Value) (t0:Addr),h.get? e=some ⟨.ref C,od,.fields vs,#[]⟩/\vs.size=6/\vs[0]?=some (.ref t0):=by
 obtain⟨_,_,_,vs,T,oT,ts,t0,a1,a2,a3,_⟩:=x
 exact⟨vs,t0,a1,a2,a3⟩
section
variable {M:Model} {A:Around} {E:Value->Shared->Prop} {s:Shared} {base:Heap} {env:Env} {outer l:List Env} {L e C:Addr} {od:Option Addr} {Q:Unit->Shared->Prop}
theorem jjc_ {vs:Array Value} {head:Value} {hadNext:Bool} {t0:Addr} (hfr:A.frames=some (env::outer)) (hl:s.heap.FunFrames base (env::outer)) (hf:env.frame=some L) (hkb:base.StaysIn s.heap) (hen:base.get? e=none)
  (he:s.heap.get? e=some ⟨.ref C,od,.fields vs,#[]⟩) (hz:vs.size=6) (h0:vs[0]?=some (.ref t0))
  (k:∀ h',Fl base (env::outer) e C od (rawInt L) h'->s.heap.UpToSlots h'->Q () { s with heap:=h' }) :
  wpAny M A (do let a <- frameOf env;let pl <- entryPlaceOf L hadNext;let b <- ll_ head a .none (rawInt L) .none pl;setField (.ref e) 1 b) Q E s:=by
 have ene:e∉(env::outer).filterMap (·.frame):=fun hm=>by
  obtain⟨_,o,ho,hnf⟩:=hl.mem hm
  rw[he] at ho;cases ho;exact hnf vs rfl
 refine wpAny_bind (wpAny_frameOf_fun hfr hl hf fun h1 hs1=>?_)
 refine wpAny_bind (wpAny_entryPlaceOf fun pl hpl=>?_)
 unfold ll_ newFields
 refine wpAny_bind (wpAny_newObj_type ?_ (hpl.sizeOk5 _ _ _ _ _))
 have e1:h1.get? e=some ⟨.ref C,od,.fields vs,#[]⟩:=(hs1.2.1 e ene).trans he
 have kb1:base.StaysIn h1:=fun b o hbo=>(hs1.2.1 b fun hm=>by rw[(hl.mem hm).1] at hbo;cases hbo).trans (hkb b o hbo)
 generalize hoT:({ cls:=.type "traceback",dict:=none,data:=.fields ([head,.ref L,.none,rawInt L,.none]++(if pl.isEmpty then pv_ 6 Value.none else pl)).toArray }:Obj)=oT
 have e2:=pf_ (h:=h1) oT e1
 have hTe:h1.objs.size≠e:=kq_ (pu_ e1)
 have hnT:oT.isFreed=false:=by rw[<- hoT];rfl
 have eT:=pq_ h1 (o:=oT) hnT
 refine wpAny_setField e2 rfl (by rw[hz];decide) ?_
 have keep:∀ b o,b≠e->h1.get? b=some o->((h1.push oT).update e (kd_ (·.setIfInBounds 1 (Value.ref h1.objs.size)))).get? b=some o:=fun b o hbe hb=>by
  rw[qo_ _ _ (rq_ hbe)]
  exact pf_ _ hb
 have nore:∀ b o,s.heap.get? b=some o->(∀ vs,o.data≠.fields vs)->b≠e:=fun b o hb hnf q=>by
  rw[q,he] at hb;cases hb;exact hnf vs rfl
 refine k _ ⟨fun b o hbo=>keep b o (fun q=>by rw[q,hen] at hbo;cases hbo) (kb1 b o hbo),hen,hl.of_keeps fun b o hb hnf=>?_,vs.setIfInBounds 1 (.ref h1.objs.size),h1.objs.size,oT,_,t0,?_,?_,?_,?_,kb1.fresh,hTe,?_,by rw[<- hoT],?_⟩ fun b o hb hnf=>?_
 ·obtain⟨sl,hs⟩:=hs1.2.2 b o hb
  exact⟨_,keep b _ (nore b o hb hnf) hs,rfl⟩
 ·rw[q1_ _ e2 rfl];rfl
 ·rw[w5_];exact hz
 ·rw[tz_ (by decide)];exact h0
 ·simp[hz]
 ·rw[qo_ _ _ (rq_ hTe)];exact eT
 ·rcases hpl with rfl | ⟨_,_,_,_,_,_,_,rfl⟩ <;> simp
 ·obtain⟨sl,hs⟩:=hs1.2.2 b o hb
  exact⟨sl,keep b _ (nore b o hb hnf) hs⟩
theorem jvg_ {vs:Array Value} {t0:Addr} (hfr:A.frames=some (env::outer)) (hl:s.heap.FunFrames base (env::outer)) (hf:env.frame=some L) (hkb:base.StaysIn s.heap) (hen:base.get? e=none)
  (he:s.heap.get? e=some ⟨.ref C,od,.fields vs,#[]⟩) (hz:vs.size=6) (h0:vs[0]?=some (.ref t0)) (h1:vs[1]?=some .none)
  (k:∀ h',Fl base (env::outer) e C od (rawInt L) h'->s.heap.UpToSlots h'->Q () { s with heap:=h' }):wpAny M A (noteFrame (.ref e) env) Q E s:=by
 unfold noteFrame
 simp only[hf]
 refine wpAny_bind (wpAny_field he rfl h1 ?_)
 rw[if_neg (by decide)]
 exact jjc_ hfr hl hf hkb hen he hz h0 k
theorem jfi_ {h:Heap} {T:Addr} {oT:Obj} {ts:Array Value} {i:Nat} {x:Value} (hT:h.get? T=some oT) (hd:oT.data=.fields ts) :
  (∀ b,b≠T->(h.update T (kd_ (·.setIfInBounds i x))).get? b=h.get? b)/\(h.update T (kd_ (·.setIfInBounds i x))).get? T=some (oT.mapFields (·.setIfInBounds i x)) :=
 ⟨fun b hb=>qo_ _ _ (rq_ hb),q1_ _ hT (kw_ (tp_ hd _))⟩
theorem jye_ (hfr:A.frames=some (env::outer)) (hf:env.frame=some L) (x:Fl base (env::outer) e C od .none s.heap)
  (k:∀ h',Fl base (env::outer) e C od (rawInt L) h'->s.heap.UpToSlots h'->Q () { s with heap:=h' }):wpAny M A (noteFrame (.ref e) env) Q E s:=by
 obtain⟨hkb,hen,hl,vs,T,oT,ts,t0,he,hz,h0,h1,hnT,hTe,hT,hdT,h3⟩:=x
 unfold noteFrame
 simp only[hf]
 refine wpAny_bind (wpAny_field he rfl h1 ?_)
 rw[if_pos (show (Value.ref T != Value.none)=true from by simp)]
 refine wpAny_bind (wpAny_field hT hdT h3 ?_)
 rw[if_neg (show ¬ ((Value.none == rawInt L)=true) from by simp[rawInt])]
 refine wpAny_bind (wpAny_setField hT hdT (s6_.mp h3).1 ?_)
 obtain⟨ot,_⟩:=jfi_ (i:=3) (x:=Value.none) hT hdT
 have norT:∀ b o,s.heap.get? b=some o->(∀ vs,o.data≠.fields vs)->b≠T:=fun b o hb hnf q=>by
  rw[q,hT] at hb;cases hb;exact hnf ts hdT
 refine jjc_ (s:={ s with heap:=s.heap.update T (kd_ (·.setIfInBounds 3 Value.none)) }) hfr (hl.of_keeps fun b o hb hnf=>⟨o,(ot b (norT b o hb hnf)).trans hb,rfl⟩) hf
  (fun b o hbo=>(ot b fun q=>by rw[q,hnT] at hbo;cases hbo).trans (hkb b o hbo)) hen ((ot e (rq_ hTe)).trans he) hz h0 fun h' x1 x2=>k h' x1 fun b o hb hnf=>?_
 exact x2 b o ((ot b (norT b o hb hnf)).trans hb) hnf
theorem jhp_ {fl:Value} (x:Fl base l e C od fl s.heap) (k:∀ h',Fl base l e C od .none h'->s.heap.UpToSlots h'->Q () { s with heap:=h' }):wpAny M A (setFlight (.ref e) none) Q E s:=by
 obtain⟨hkb,hen,hl,vs,T,oT,ts,t0,he,hz,h0,h1,hnT,hTe,hT,hdT,h3⟩:=x
 unfold setFlight
 refine wpAny_bind (wpAny_field he rfl h1 ?_)
 rw[if_pos (show (Value.ref T != Value.none)=true from by simp)]
 have hz3:=(s6_.mp h3).1
 obtain⟨ot,oT2⟩:=jfi_ (i:=3) (x:=Value.none) hT hdT
 have norT:∀ b o,s.heap.get? b=some o->(∀ vs,o.data≠.fields vs)->b≠T:=fun b o hb hnf q=>by
  rw[q,hT] at hb;cases hb;exact hnf ts hdT
 refine wpAny_setField hT hdT hz3 (k _ ⟨fun b o hbo=>(ot b fun q=>by rw[q,hnT] at hbo;cases hbo).trans (hkb b o hbo),hen,hl.of_keeps fun b o hb hnf=>⟨o,(ot b (norT b o hb hnf)).trans hb,rfl⟩,
  vs,T,_,ts.setIfInBounds 3 .none,t0,(ot e (rq_ hTe)).trans he,hz,h0,h1,hnT,hTe,oT2,tp_ hdT _,by simp[hz3]⟩ fun b o hb hnf=>⟨o.slots,(ot b (norT b o hb hnf)).trans hb⟩)
theorem jpo_ {vs:Array Value} {t0:Addr} (hfr:A.frames=some (env::outer)) (hl:s.heap.FunFrames base (env::outer)) (hf:env.frame=some L) (hkb:base.StaysIn s.heap) (hen:base.get? e=none)
  (he:s.heap.get? e=some ⟨.ref C,od,.fields vs,#[]⟩) (hz:vs.size=6) (h0:vs[0]?=some (.ref t0)) (h1:vs[1]?=some .none)
  (k:∀ h',Fl base outer e C od .none h'->s.heap.UpToSlots h'->Q () { s with heap:=h' }):wpAny M A (leaving env (.ref e)) Q E s:=by
 unfold leaving
 refine wpAny_bind (jvg_ hfr hl hf hkb hen he hz h0 h1 fun h2 x2 u2=>?_)
 exact jhp_ (s:={ s with heap:=h2 }) x2 fun h3 x3 u3=>k h3 x3.tail (u2.trans u3)
end
end L2
namespace L2
open PySem
section
variable {M:Model} {A:Around} {E:Value->Shared->Prop} {env:Env}
variable {nm qn:Str} {C N W:Addr} {bs:List Value} {hdct:Bool} {sn:List Str} {sub:List Value} {ab:Bool} {col:Option Bool} {dd:Option Addr} {k0 k1 k2 k3 k5:Option Value}
theorem jht_ {s:Shared} {x:Sem Value} {Q:Flow->Shared->Prop} (hh:A.handled=none)
  (k:wpAny M A x (fun v s1=>∃ e od vs,v=.ref e/\(∃ nm qn C N bs W hdct sn sub ab col dd k0 k1 k2 k3 k5,s1.heap.get? C=some (excClassObj nm qn C N bs (.ref W::vBM) hdct sn sub ab col dd k0 k1 k2 k3 k5 xNew) /\
   s1.heap.get? e=some ⟨.ref C,od,.fields vs,#[]⟩)/\vs[1]?=some .none/\E (.ref e) s1) E s):wpAny M A (raiseStmt env (some x) none) Q E s:=by
 unfold raiseStmt
 refine wpAny_bind (wpAny_mono k (fun v s1 z=>?_) fun _ _ x=>x)
 obtain⟨e,od,vs,rfl,⟨nm,qn,C,N,bs,W,hdct,sn,sub,ab,col,dd,k0,k1,k2,k3,k5,oC,he⟩,h1,hE⟩:=z
 have c1:(Value.ref C::.ref W::vBM).contains (.type "BaseException")=true:=xd_ xB.hasBase
 obtain⟨hp,g,d,tk,os⟩:=s1
 repeat (first | with_reducible refine wpAny_loadPart_at he ?_ | with_reducible refine wpAny_loadPart_at oC ?_ | (with_reducible refine wpAny_isSubtype_exc oC ?_;rw[c1]) | wp_step)
 rw[h1]
 refine wpAny_pure ?_
 rw[if_neg (show ¬ ((Value.none != Value.none)=true) from by decide)]
 exact wpAny_pure (wpAny_raiseNew_none hh hE)
theorem jrg_ {s:Shared} {x:Expr} {pos:Pos} {Q:Flow->Shared->Prop} (hh:A.handled=none)
  (k:wpAny M A (eval x env) (fun v s1=>∃ e od vs,v=.ref e/\(∃ nm qn C N bs W hdct sn sub ab col dd k0 k1 k2 k3 k5,s1.heap.get? C=some (excClassObj nm qn C N bs (.ref W::vBM) hdct sn sub ab col dd k0 k1 k2 k3 k5 xNew) /\
   s1.heap.get? e=some ⟨.ref C,od,.fields vs,#[]⟩)/\vs[1]?=some .none/\E (.ref e) s1) E s):wpAny M A (exec (.Raise (some x) none pos) env) Q E s:=by
 rw[arm_exec_Raise]
 refine wpAny_bind (wpAny_standAt ?_)
 show wpAny M A (raiseStmt env (some (do let v <- eval x env;standAt pos;pure v)) none) Q E s
 exact jht_ hh (wpAny_bind (wpAny_mono k (fun v s1 z=>wpAny_bind (wpAny_standAt (wpAny_pure z))) fun _ _ y=>y))
theorem jkq_ {h:Heap} {g:Array GenState} {dr:Drawn} {tk:Nat} {os:OsState} {e:Addr} {oe:Obj} {Q:Bool->Shared->Prop} {nm2 q2:Str} {N2:Addr} {bs2:List Value} {hd2:Bool} {sn2:List Str} {sub2:List Value} {ab2:Bool} {col2:Option Bool} {dd2:Option Addr} {j0 j1 j2 j3 j5:Option Value} {nw2:String}
  (oC:h.get? C=some (excClassObj nm qn C N bs (.ref W::vBM) hdct sn sub ab col dd k0 k1 k2 k3 k5 xNew)) (oW:h.get? W=some (excClassObj nm2 q2 W N2 bs2 vBM hd2 sn2 sub2 ab2 col2 dd2 j0 j1 j2 j3 j5 nw2))
  (he:h.get? e=some oe) (ec:oe.cls=.ref C) (k:Q true ⟨h,g,dr,tk,os⟩):wpAny M A (excMatches (.ref e) (.ref W)) Q E ⟨h,g,dr,tk,os⟩:=by
 have c1:(Value.ref W::vBM).contains (.type "BaseException")=true:=by rw[st_,xB.hasBase,Bool.or_true]
 have c2:(Value.ref C::.ref W::vBM).contains (.ref W)=true:=by simp
 have c3:=tc_notTuple
 unfold excMatches
 repeat (first | (with_reducible refine wpAny_loadPart_at he ?_;rw[ec]) | with_reducible refine wpAny_loadPart_at oW ?_ | (with_reducible refine wpAny_isSubtype_exc oW ?_;rw[c1]) | (with_reducible refine wpAny_isSubtype_exc oC ?_;rw[c2]) | wp_step)
 exact k
end
end L2
namespace L2
open PySem
abbrev xGa:String:="BaseException.__getattribute__"
section
variable {prog:Program} {w:World} {M:Model} {A:Around} {E:Value->Shared->Prop} {h:Heap} {g:Array GenState} {dr:Drawn} {tk:Nat} {os:OsState}
variable {nm qn:Str} {C N W e:Addr} {bs:List Value} {hdct:Bool} {sn:List Str} {sub:List Value} {ab:Bool} {col:Option Bool} {dd:Option Addr} {k0 k1 k2 k3 k5:Option Value} {oe:Obj}
theorem jqz_ {nv:Value} {Q:Unit->Shared->Prop} (oC:h.get? C=some (excClassObj nm qn C N bs (.ref W::vBM) hdct sn sub ab col dd k0 k1 k2 k3 k5 xNew))
  (he:h.get? e=some oe) (ec:oe.cls=.ref C) (k:Q () ⟨h,g,dr,tk,os⟩):wpAny M A (checkBuiltinCall xGa ⟨[.ref e,nv],[]⟩) Q E ⟨h,g,dr,tk,os⟩:=by
 have c0:builtinKind xGa=some .slot:=by decide +kernel
 have c1:splitId xGa=some ("BaseException","__getattribute__"):=by decide +kernel
 have c2:(Value.ref C::.ref W::vBM).contains (.type "BaseException")=true:=xd_ xB.hasBase
 have c3:=PySem.F.args_bexc_ga (.ref e) nv
 simp only[checkBuiltinCall,c0,c1]
 refine wpAny_bind ?_
 unfold isInstance
 repeat (first | (with_reducible refine wpAny_loadPart_at he ?_;rw[ec]) | (with_reducible refine wpAny_isSubtype_exc oC ?_;rw[c2]) | wp_step)
 exact k
theorem jzf_ {name:Str} {tn:Tok} {fill expr:Bool} {Q:Value->Shared->Prop} (oC:h.get? C=some (excClassObj nm qn C N bs (.ref W::vBM) hdct sn sub ab col dd k0 k1 k2 k3 k5 xNew)) (he:h.get? e=some oe) (ec:oe.cls=.ref C)
  (l1:Lk (model prog w) h (typeLookup (.ref C) "__getattribute__") (some (.builtin xGa))) (l2:Lk (model prog w) h (typeLookup (.ref C) "__getattr__") none)
  (k:wpAny (model prog w) A.in1 (Builtin.«object.__getattribute__» ⟨[.ref e,.str name tn],[]⟩) (fun fin s'=>match fin with | .done (.ret v)=>wpAny (model prog w) A (handedOut v) Q E s' | _=>False) (fun _ _=>False) ⟨h,g,dr,tk,os⟩) :
  wpAny (model prog w) A (getAttrBy (.ref e) (.str name tn) fill expr) Q E ⟨h,g,dr,tk,os⟩:=by
 have c0:=(ke_).ga.bind (.ref e)
 have c1:(expr&&onTheHeap (Value.builtin xGa))=false:=by cases expr <;> rfl
 have c2:(Value.builtin xGa == Value.builtin "object.__getattribute__")=false:=by decide +kernel
 have c3:(onTheHeap (Value.ref C)&&Value.builtin xGa == Value.builtin "object.__getattribute__")=false:=by rw[c2];rfl
 repeat (any_goals (first | assumption | (with_reducible refine wpAny_loadPart_at he ?_;rw[ec]) | with_reducible refine Lk.run l1 rfl ?_ | with_reducible refine Lk.run l2 rfl ?_ | wp_step))
 refine codeAny_call_builtin (ke_).ga.plain PySem.F.entry_bexc_ga (jqz_ oC he ec (wpAny_mono k (fun fin s' z=>?_) fun _ _ z=>z.elim))
 rcases fin with (_ | _ | _ | _) | _ <;> first | exact z | exact z.elim | (repeat (any_goals (first | assumption | wp_step)))
end
theorem va_ {M:Model} {h:Heap} {α:Type} {m:Sem α} {r:α} (l:lq_ M h m r):Lk M h m r:=fun A Q E s e q=>l A Q E s (fun b o z=>by rw[e];exact z) q
section
open PySem.W
variable {prog:Program} {w:World} {A:Around} {E:Value->Shared->Prop} {s:Shared} {K:Frag} {x C W N:Addr} {ox:Obj} {od:Option Obj} {name:Str} {expr:Bool}
variable {nm qn:Str} {bs:List Value} {hdct:Bool} {sn:List Str} {sub:List Value} {ab:Bool} {col:Option Bool} {dd:Option Addr} {k0 k1 k2 k3 k5:Option Value}
theorem jum_ {v:Value} {Q:Value->Shared->Prop} (X:K.In s.heap) (I:InstAt s.heap x ox C od) (oC:K.lookup C=some (excClassObj nm qn C N bs (.ref W::vBM) hdct sn sub ab col dd k0 k1 k2 k3 k5 xNew))
  (g1:findIn K (.ref C) "__getattribute__"=some (some (.builtin xGa))) (g2:findIn K (.ref C) "__getattr__"=some none) (hf:findObj K C od name=some (.value v)) (hh:handedIn v=true) (h:Q v { s with toks:=s.toks+1 }) :
  wpAny (model prog w) A (getAttr (.ref x) name expr) Q E s:=by
 obtain⟨hh',g,d,t,os⟩:=s
 have L0:=va_ (I.type (M:=model prog w))
 have L1:=va_ (looks_find (M:=model prog w) X I hf)
 unfold getAttr
 refine wpAny_bind (wpAny_mkText ?_)
 refine jzf_ (X _ _ oC) I.at_ I.cls (va_ (looks_findIn X g1)) (va_ (looks_findIn X g2)) ?_
 refine wpAny_bind (wpAny_pure (wpAny_bind (wpAny_pure (wpAny_bind (L0.run rfl (wpAny_bind (L1.run rfl (wpAny_pure ?_))))))))
 show wpAny _ _ (handedOut v) _ _ _
 rw[handedOut_of hh];exact wpAny_pure h
theorem jtj_ {Q:Option Value->Shared->Prop} (X:K.In s.heap) (I:InstAt s.heap x ox C od) (oC:K.lookup C=some (excClassObj nm qn C N bs (.ref W::vBM) hdct sn sub ab col dd k0 k1 k2 k3 k5 xNew))
  (g1:findIn K (.ref C) "__getattribute__"=some (some (.builtin xGa))) (g2:findIn K (.ref C) "__getattr__"=some none) (hf:findObj K C od "__class__"=some (.bind (.builtin "getset_descriptor.__get__") (.builtin "object.__class__")))
  (hm:mroIn K C (.type "object")=some true) (h:Q (some (.ref C)) { s with toks:=s.toks+1 }):wpAny (model prog w) A (getAttr? (.ref x) "__class__") Q E s:=by
 obtain⟨hh',g,d,t,os⟩:=s
 have L0:=va_ (I.type (M:=model prog w))
 have L1:=va_ (looks_find (M:=model prog w) X I hf)
 unfold getAttr? getAttrBy?
 refine wpAny_bind (wpAny_mkText (wpAny_bind (wpAny_attempt ?_)))
 refine jzf_ (X _ _ oC) I.at_ I.cls (va_ (looks_findIn X g1)) (va_ (looks_findIn X g2)) ?_
 refine wpAny_bind (wpAny_pure (wpAny_bind (wpAny_pure (wpAny_bind (L0.run rfl (wpAny_bind (L1.run rfl ?_)))))))
 show wpAny _ _ (holding [Value.builtin "object.__class__"] (call (.builtin "getset_descriptor.__get__") [.builtin "object.__class__",.ref x,.ref C]) >>= ret) _ _ _
 refine wpAny_bind (wpAny_holding (wpAny_call (class_get (s:=⟨hh',g,d,t+1,os⟩) (ox:=ox) (od:=od) X I hm ?_)))
 refine wpAny_pure ?_
 show wpAny _ _ (handedOut (.ref C)) _ _ _
 rw[handedOut_of rfl]
 exact wpAny_pure (wpAny_pure h)
end
end L2
namespace L2
open PySem PySem.Spec PyProof.Rows
def XO (e C:Addr) (od:Option Addr) (fr:Bool):HO:=.ext fun h=>∃(vs:Array Value) (t0:Addr),h.get? e=some ⟨.ref C,od,.fields vs,#[]⟩/\vs.size=6/\vs[0]?=some (.ref t0)/\(fr=true->vs[1]?=some .none)
theorem jni_ {P:Program} {w:World} {H:Hp} {h:Heap} {e C:Addr} {od:Option Addr} {fr:Bool} {vs:Array Value} {t0:Addr} (he:h.get? e=some ⟨.ref C,od,.fields vs,#[]⟩) (hz:vs.size=6) (h0:vs[0]?=some (.ref t0)) (h1:fr=true->vs[1]?=some .none) :
  ObjOk P w H h e (XO e C od fr):=⟨⟨vs,t0,he,hz,h0,h1⟩,⟨_,he⟩,fun _ _ ⟨vs,t0,a,b⟩ k=>⟨vs,t0,k _ a,b⟩⟩
theorem xw_ {P:Program} {w:World} {H:Hp} {h:Heap} {e C:Addr} {od:Option Addr} {fr:Bool} (ok:HOk P w H h) (q:H e=some (XO e C od fr)) :
  ∃(vs:Array Value) (t0:Addr),h.get? e=some ⟨.ref C,od,.fields vs,#[]⟩/\vs.size=6/\vs[0]?=some (.ref t0)/\(fr=true->vs[1]?=some .none):=(ok e _ q).1
theorem jjr_ {H:Hp} {a:Addr} {o:HO} (h:H a=some o):upd H a o=H:=by
 funext b;unfold upd;split
 ·rename_i e;rw[e,h]
 ·rfl
structure Exc (K:pb_) (W C:Addr):Prop where
 ob:∃(nm qn:Str) (N:Addr) (bs:List Value) (sn:List Str) (sub:List Value) (ab:Bool) (col:Option Bool) (dd:Option Addr) (k0 k1 k2 k3 k5:Option Value),
  K.lookup C=some (excClassObj nm qn C N bs (.ref W::vBM) true sn sub ab col dd k0 k1 k2 k3 k5 xNew)
 ga:po_ K (.ref C) "__getattribute__"=some (some (.builtin xGa))
 gr:po_ K (.ref C) "__getattr__"=some none
 sa:po_ K (.ref C) "__setattr__"=some (some (.builtin "object.__setattr__"))
 kp:q9_ K (.ref C)=true
 cl:po_ K (.ref C) "__class__"=some (some (.builtin "object.__class__"))
theorem Exc.cls {K:pb_} {W C:Addr} (x:Exc K W C):∃ cd,lt_ K C=some cd/\cd.mro=.ref C::.ref W::vBM/\cd.hasDict=true:=by
 obtain⟨nm,qn,N,bs,sn,sub,ab,col,dd,k0,k1,k2,k3,k5,h⟩:=x.ob
 exact⟨_,by unfold lt_;rw[h],rfl,rfl⟩
theorem Exc.hd {K:pb_} {W C:Addr} (x:Exc K W C):rw_ K C=true:=by
 obtain⟨cd,h1,_,h2⟩:=x.cls
 unfold rw_;rw[h1];exact h2
section
variable {X:Cx} {pins:List (Addr×Obj)} {σ:St} {H:Hp} {s:Shared} {W C f:Addr} {fd:FuncData} {ps:List Str} {sp:Sp} {k:Nat} {CX:CXT} {E:XK}
theorem jqk_ {Q:VK} {us:List Value} {vs:List V} (M:Exc X.K W C) (hi:po_ X.K (.ref C) "__init__"=some (some (.ref f))) (hf:qx_ X.K (.ref f)=true) (F:FnOk X.prog X.w X.K X.mg X.base CX k f fd ps sp) (hr:Room (k+1) X.A)
  (hb:Binds X.K fd ps []) (hx:y8_ CX X E) (I:Inv X pins σ H s) (r:Vals vs us) (hz:vs.length<=sizeLine)
  (h:∀ x,H x=none->sp (.ref x::vs) (upd H x (XO x C none true)) (fun v H2=>v=.non/\Q (.ref x) H2) E):wpAny (model X.prog X.w) X.A (call (.ref C) us) (EP X pins σ Q) X.xe s:=by
 have hq:=h (s.heap.objs.size+1) (I.hok.fresh (sv_ _))
 have hus:us.length<=sizeLine:=by rw[<- r.length];exact hz
 have I2:Inv X pins σ (upd H (s.heap.objs.size+1) (XO (s.heap.objs.size+1) C none true)) { s with heap:=yw_ C us s.heap } :=
  I.laid (a:=s.heap.objs.size+1) (o:=XO (s.heap.objs.size+1) C none true) (h':=yw_ C us s.heap) (t':=s.toks) (fun b u q=>jbm_ q) (sv_ _) (jni_ jfz_ rfl rfl fun _=>rfl)
 have r2:Vals (V.ref (s.heap.objs.size+1)::vs) (Value.ref (s.heap.objs.size+1)::us):=.cons rfl r
 have hl:(Value.ref (s.heap.objs.size+1)::us++[]).length=ps.length:=by
  rw[py_,<- r2.length];exact F.len _ _ _ _ hq
 have hb2:=hb { s with heap:=yw_ C us s.heap } (Value.ref (s.heap.objs.size+1)::us) I2.kIn hl
 rw[py_] at hb2
 obtain⟨nm,qn,N,bs,sn,sub,ab,col,dd,k0,k1,k2,k3,k5,oC⟩:=M.ob
 have KI:=I.kIn
 have KI2:=I2.kIn
 obtain⟨hh,g,d,t,os⟩:=s
 refine jxo_ (KI _ _ oC) hus (va_ (s8_ KI2 hi)) (va_ (PySem.W.bind_fn KI2 _ (beq_iff_eq.mp hf))) ?_
 refine wpAny_call (codeAny_mono (F.run _ X.stack _ _ ⟨Value.ref (hh.objs.size+1)::us,[]⟩ (Value.ref (hh.objs.size+1)::us) _ _ E (hr.make C us []) (I2.env0.make C us []) hb2 r2 hq) fun r s' hq'=>?_)
 cases r with
 | error e=>exact hx pins σ _ _ e s' I2 hq'
 | ok fl =>
  cases fl with
  | ret u =>
   obtain⟨v,H',I3,rv,ev,q3⟩:=I2.after hq'
   subst ev
   exact⟨rv,⟨V.ref (hh.objs.size+1),H',I3,rfl,q3⟩⟩
  | next=>exact rk_ hq'
  | brk=>exact rk_ hq'
  | cont=>exact rk_ hq'
end
section
variable {X:Cx} {W C f:Addr} {fd:FuncData} {ps:List Str} {sp:Sp} {k:Nat} {CX:CXT} {E:XK} {x:Str} {p pos apos:Pos} {e:Expr} {es:List Expr} {t:TA}
def jmk_ (C:Addr) (sp:Sp) (E:XK) (t:TA):TE:=fun σ H Q=>t σ H fun vs H1=>vs.length<=sizeLine/\∀ x,H1 x=none->sp (.ref x::vs) (upd H1 x (XO x C none true)) (fun v H2=>v=.non/\Q (.ref x) H2) E
theorem jri_ (M:Exc X.K W C) (hi:po_ X.K (.ref C) "__init__"=some (some (.ref f))) (hf:qx_ X.K (.ref f)=true) (F:FnOk X.prog X.w X.K X.mg X.base CX k f fd ps sp) (hr:Room (k+1) X.A) (hg:Gl X x) (hm:X.mg x=some (.ref C))
  (hb:Binds X.K fd ps []) (hx:y8_ CX X E) (ha:PA X (e::es) t) (hdb:(x == ("__debug__":Str))=false:=by decide) (he:starEach (e::es) X.env=(false,eval e X.env)::starEach es X.env:=by rfl) (hpl:(backTo pos (starEach es X.env)).any (·.1)=false:=by rfl) :
  PE X (.Call (.Name x p) (e::es) [] pos) (jmk_ C sp E t):=by
 intro pins s σ H Q I h
 refine wpAny_Call_Name_kw (x9_ I hg hm ?_ hdb)
 refine tm_ (h₀:=X.base) I.ok.mod.kin M.kp (thn (ha pos pins s σ H _ I h) fun us s1 ⟨vs,H1,I1,r,z,q⟩=>⟨I1.kIn,?_⟩) he hpl
 exact jqk_ M hi hf F hr hb hx I1 r z q
def jtn_ (K:pb_) (W:Addr) (t:TA):TE:=fun σ H Q=>t σ H fun vs H1=>∃(e C:Addr) (od:Option Addr) (fr:Bool) (y:V),vs=[.ref e,y]/\H1 e=some (XO e C od fr)/\Exc K W C/\Q .non H1
structure ExcBase (K:pb_) (W:Addr):Prop where
 rd:PySem.W.readsIn K W (.type "type")=true
 ga:s4_ K (.ref W) "__getattribute__"=some (some (.builtin "type.__getattribute__"))
 ini:PySem.W.findCls K (.ref W) (.type "type") "__init__"=some (.val (.builtin xIni))
theorem jrj_ {pl:Sem Bool} (M:ExcBase X.K W) (hg:Gl X x) (hm:X.mg x=some (.ref W)) (ha:PA X (e::es) t) (hdb:(x == ("__debug__":Str))=false:=by decide)
  (he:starEach (e::es) X.env=(false,eval e X.env)::starEach es X.env:=by rfl) (hpl:(backTo pos (starEach es X.env)).any (·.1)=false:=by rfl)
  (ht:eval (.Call (.Attribute (.Name x p) "__init__" apos) (e::es) [] pos) X.env=(do
   let ov <- eval (.Name x p) X.env
   standAt apos.atName
   let (f,first) <- holding [ov] (getMethod ov "__init__" pl)
   callWith pos f first (backTo pos (starEach (e::es) X.env)) (backToKw pos (keywordEach [] X.env))):=by rfl) :
  PE X (.Call (.Attribute (.Name x p) "__init__" apos) (e::es) [] pos) (jtn_ X.K W t):=by
 intro pins s σ H Q I h
 refine t3_ (pl:=pl) (x9_ I hg hm ?_ hdb) ht
 refine PySem.W.method_cls I.kIn M.ga (PySem.W.cls_value I.kIn M.rd M.ini rfl ?_)
 refine t5_ (thn (ha pos pins _ σ H _ (I.tok _) h) fun us s1 ⟨vs,H1,I1,r,ex,C,od,fr,y,ev,hX,hE,q⟩=>?_) he hpl
 subst ev
 cases r with
 | cons r1 rs =>
  cases (show _=Value.ref ex from r1)
  obtain⟨vs,t0,he,hz,h0,h1⟩:=xw_ I1.hok hX
  obtain⟨nm,qn,N,bs,sn,sub,ab,col,dd,k0,k1,k2,k3,k5,oC⟩:=hE.ob
  have hlen:=rs.length
  have KI:=I1.kIn
  obtain⟨hh,g,d,t,os⟩:=s1
  refine jwv_ (KI _ _ oC) he h0 (by rw[<- hlen];exact szn (by show 1<=1000000;decide)) fun h' hk he'=>⟨.non,_,?_,rfl,q⟩
  have hw:=I1.write (x:=ex) (e:=ex) (h':=h') (o:=XO ex C od fr) (t':=t) (by rw[hX];exact True.intro) (.inl rfl) (fun b u hb q=>hk b u hb q) ⟨_,he'⟩
   (jni_ (t0:=hh.objs.size) he' (by rw[w5_];exact hz) (by simp[hz]) fun z=>by rw[tz_ (by decide)];exact h1 z)
  rw[jjr_ hX] at hw
  exact hw
end
end L2
namespace L2
open PySem PySem.Spec PyProof.Rows
abbrev TJ:=St->Hp->Nat->VK->Prop
def PJ (X:Cx) (es:List Expr) (t:TJ):Prop:=∀(pins:List (Addr×Obj)) (s:Shared) (σ:St) (H:Hp) (acc:Str) (Q:VK),Inv X pins σ H s->t σ H acc.length Q ->
 Joins (model X.prog X.w) X.A X.xe (evalEach es X.env) acc (fun out s1=>out.length<=sizeLine/\EP X pins σ Q (.str out s1.toks) { s1 with toks:=s1.toks+1 }) s
def jNil:TJ:=fun _ H n Q=>n<=1000000/\∀ z,Q (.str z) H
def jnh_ (te:TE) (t:TJ):TJ:=fun σ H n Q=>te σ H fun x H1=>∃ y,x=.str y/\n+y.length<=1000000/\t σ H1 (n+y.length) Q
def tFs (t:TJ):TE:=fun σ H Q=>t σ H 0 Q
section
variable {X:Cx} {e a b:Expr} {es:List Expr} {te:TE} {t:TJ} {pos:Pos}
theorem pj_nil:PJ X [] jNil:=fun pins s σ H acc Q I h=>⟨szn h.1,.str acc,H,I.tok _,⟨_,rfl⟩,h.2 acc⟩
theorem jgm_ (he:PE X e te) (hr:PJ X es t) (hev:evalEach (e::es) X.env=eval e X.env::evalEach es X.env:=by rfl):PJ X (e::es) (jnh_ te t):=by
 intro pins s σ H acc Q I h
 rw[hev]
 refine thn (he pins s σ H _ I h) fun u s1 ⟨x,H1,I1,r,y,ex,hz,q⟩=>?_
 subst ex
 obtain⟨tk,rfl⟩:=(show ∃ tk,u=Value.str y tk from r)
 exact⟨y,tk,rfl,szn (by rw[strLen_append];exact hz),hr pins s1 σ H1 (acc++y) Q I1 (by rw[strLen_append];exact q)⟩
theorem pe_fs (h:PJ X (a::b::es) t):PE X (.JoinedStr (a::b::es) pos) (tFs t):=by
 intro pins s σ H Q I q
 exact wpAny_JoinedStr (h pins s σ H Str.empty Q I q)
def tFv (te:TE):TE:=fun σ H Q=>te σ H fun x H1=>(∃ i:Int,x=.int i/\i.natAbs.log2 < 1920/\∀ z:Str,z.length<=2000->Q (.str z) H1)∨∃ y:Str,x=.str y/\y.length<=1000000/\Q (.str y) H1
theorem pe_fv (he:PE X e te):PE X (.FormattedValue e (-1) none pos) (tFv te):=by
 intro pins s σ H Q I q
 refine wpAny_FormattedValue_plain (thn (he pins s σ H _ I q) fun u s1 ⟨x,H1,I1,r,q1⟩=>?_)
 rcases q1 with ⟨i,rfl,hi,q1⟩ | ⟨y,rfl,hy,q1⟩
 ·obtain⟨tk,rfl⟩:=(show ∃ tk,u=Value.int i tk from r)
  refine wpAny_formatField_int hi ⟨.str (toString i),H1,(I1.tok _),⟨_,rfl⟩,q1 _ ?_⟩
  have:=int_text_length_le (k:=1920) (by decide) hi
  rw[PySem.ofString_length];omega
 ·obtain⟨tk,rfl⟩:=(show ∃ tk,u=Value.str y tk from r)
  exact wpAny_formatField_str ⟨.str y,H1,I1,⟨_,rfl⟩,q1⟩ ⟨.str y,H1,I1.tok _,⟨_,rfl⟩,q1⟩ (szn hy)
end
theorem Inv.track {X:Cx} {pins:List (Addr×Obj)} {σ:St} {H:Hp} {s:Shared} {d:Addr} {o:HO} (I:Inv X pins σ H s) (n:H d=none) (h0:X.s₀.heap.objs.size<=d) (hl:d≠X.env.locals) (hc:∀ x c,X.env.cells.lookup x=some c->c≠d)
  (hp:∀ p∈X.pn++pins,p.1≠d) (ok:ObjOk X.prog X.w (upd H d o) s.heap d o):Inv X pins σ (upd H d o) s:=by
 have ne:∀ b ob,X.s₀.heap.get? b=some ob->b≠d:=fun b ob e=>p3_ (p4_ (pu_ e) h0)
 refine⟨I.ok,I.os,I.bare,⟨I.base.keep,I.base.slot,fun b ob e q hx=>?_,I.base.there,fun b xs q=>?_,fun b ob u q=>?_,fun b ps q=>?_⟩,I.loc,I.cell,?_,fun x c e=>?_,fun p hq=>?_,fun b u e=>?_,I.len⟩
 ·rw[jf_ (ne b ob e)];exact I.base.free b ob e q hx
 ·have q2:=I.base.tups b xs q
  rw[jf_ (jg_ q2 n)];exact q2
 ·have q2:=I.base.frzs b ob u q
  rw[jf_ (jg_ q2 n)];exact q2
 ·obtain⟨more,q2⟩:=I.base.tbls b ps q
  exact⟨more,by rw[jf_ (jg_ q2 n)];exact q2⟩
 ·rw[jf_ (rq_ hl)];exact I.free
 ·rw[jf_ (hc x c e)];exact I.freeC x c e
 ·obtain⟨e1,e2,e3⟩:=I.pin p hq
  exact⟨e1,by rw[jf_ (hp p hq)];exact e2,e3⟩
 ·by_cases hb:b=d
  ·subst hb;rw[jb_] at e;cases e;exact ok
  ·rw[jf_ hb] at e
   exact(I.hok b u e).stay (fun _ _ _ q=>q) (fun c q=>by rw[jf_ (jg_ q n)];exact q) fun c xs q=>by rw[jf_ (jg_ q n)];exact q
theorem jjw_ {H:Hp} {a b:Addr} {o u:HO} (h:a≠b):upd (upd H a o) b u=upd (upd H b u) a o:=by
 funext c;unfold upd
 by_cases h1:c=a
 ·subst h1;simp[h]
 ·simp[h1]
section
variable {X:Cx} {o e value:Expr} {f:Str} {pos pos':Pos} {ta tv:TE}
def sFldX (K:pb_) (ta tv:TE) (f:Str):TS:=fun D σ H=>tv σ H fun y H1=>ta σ H1 fun x H2=>∃(a C W:Addr) (fr:Bool),x=.ref a/\H2 a=some (XO a C none fr)/\Exc K W C/\NoAttr K C f /\
 ∀ d,H2 d=none->d≠a->D.nx σ (upd (upd H2 d (.xd [(f,y)])) a (XO a C (some d) fr))
theorem jxn_ (ha:PE X o ta) (hv:PE X value tv) (hs:swapsWith value (some (.Attribute o f pos')) pos.line X.env=pure false):PS X (.Assign [.Attribute o f pos'] value pos) (sFldX X.K ta tv f):=by
 intro pins s σ H D I h
 refine plainObj_wpAny_Assign_Attribute (thn (hv pins s σ H _ I h) fun u s1 ⟨y,H1,I1,ry,q⟩=>thn (ha pins s1 σ H1 _ I1 q) fun ov s2 ⟨x,H2,I2,rx,a,C,W,fr,ex,ea,M,n,q2⟩=>?_) hs
 subst ex
 obtain rfl:ov=Value.ref a:=rx
 obtain⟨vs,t0,he,hz,h0,h1⟩:=xw_ I2.hok ea
 obtain⟨nm,qn,N,bs,sn,sub,ab,col,dd,k0,k1,k2,k3,k5,oC⟩:=M.ob
 have KI:=I2.kIn
 have hfr:H2 s2.heap.objs.size=none:=I2.hok.fresh (pg_ _)
 have hlt:=pu_ he
 obtain⟨hh,g,d,t,os⟩:=s2
 refine jky_ (KI _ _ oC) he rfl rfl rfl rfl (va_ (s8_ KI M.sa)) (va_ (s8_ KI n)) fun h' tk' e1 e2 e3=>⟨σ,_,?_,q2 hh.objs.size hfr (kq_ hlt)⟩
 have hlt2:a≠hh.objs.size:=p3_ hlt
 have hw:=I2.write (x:=a) (e:=a) (h':=h') (o:=XO a C (some hh.objs.size) fr) (t':=tk') (by rw[ea];exact True.intro) (.inl rfl) (fun b u hb q=>e3 b u hb q) ⟨_,e1⟩ (jni_ e1 hz h0 h1)
 have n2:(upd H2 a (XO a C (some hh.objs.size) fr)) hh.objs.size=none:=by rw[jf_ (rq_ hlt2)];exact hfr
 have ht:=hw.track (d:=hh.objs.size) (o:=.xd [(f,y)]) n2 I2.sz (kq_ I2.lt) (fun x c e=>?_) (fun p hp=>?_) ⟨_,e2,fun g=>?_⟩
 ·rw[jjw_ hlt2] at ht;exact ht
 ·obtain⟨v,o,ho,_⟩:=I2.cell x c e
  exact p3_ (pu_ ho)
 ·obtain⟨e1,_⟩:=I2.pin p hp
  exact p3_ (pu_ e1)
 ·by_cases hg:g=f
  ·subst hg
   have:r9_ g [(g,y)]=some y:=by simp[r9_]
   rw[this,if_pos rfl];exact ry
  ·have:r9_ g [(f,y)]=none:=by
    have hb:(g == f)=false:=beq_eq_false_iff_ne.mpr hg
    simp[r9_,hb]
   rw[this,if_neg hg];exact True.intro
def jyt_ (K:pb_) (ta:TE) (f:Str):TE:=fun σ H Q=>ta σ H fun x H1=>∃(a C W d:Addr) (fr:Bool) (fs:List (Str×V)) (v:V),x=.ref a/\H1 a=some (XO a C (some d) fr)/\H1 d=some (.xd fs)/\Exc K W C/\NoAttr K C f/\fs.lookup f=some v/\Q v H1
theorem jxa_ {K:pb_} (he:PE X e ta) (hb:attributeBase e f X.env (eval e X.env)=eval e X.env) (hK:X.K=K:=by rfl):PE X (.Attribute e f pos) (jyt_ K ta f):=by
 subst hK
 intro pins s σ H Q I h
 refine jnf_ hb (thn (he pins s σ H _ I h) fun u s1 ⟨x,H1,I1,rx,a,C,W,d,fr,fs,v,ex,ea,ed,M,n,l,q⟩=>?_)
 subst ex
 obtain rfl:u=Value.ref a:=rx
 obtain⟨vs,t0,he,hz,h0,h1⟩:=xw_ I1.hok ea
 obtain⟨mA,nA,rA⟩:=(show ∃ mA,s1.heap.Ns1 d mA/\∀ f,RelO (fs.lookup f) (mA f) from I1.hok d _ ed)
 obtain⟨od,ho,hl⟩:=jes_ nA
 obtain⟨u,hu,ru⟩:=RelO.some_of (v:=v) (o:=mA f) (by rw[<- l];exact rA f)
 have J:t0_ s1.heap a ⟨.ref C,some d,.fields vs,#[]⟩ C (some od):=⟨he,rfl,rfl,ho⟩
 obtain⟨nm,qn,N,bs,sn,sub,ab,col,dd,k0,k1,k2,k3,k5,oC⟩:=M.ob
 exact jum_ I1.kIn J oC M.ga M.gr (li_ M.hd n rfl (by rw[hl,hu])) (jfx_ ru) ⟨v,H1,I1.tok _,ru,q⟩
end
end L2
namespace L2
open PySem PySem.Spec PyProof.Rows
theorem jzc_ {H:Hp} {x b C:Addr} {od:Option Addr} {fr:Bool} (h:H x=some (XO x C od fr)) (n:H b=none):b≠x:=fun e=>by rw[e,h] at n;cases n
theorem jsg_ {fs fs':List Addr} {H₀ H:Hp} {h₀ h h' base:Heap} {l:List Env} {x C:Addr} {od:Option Addr} {fl:Value} {fr:Bool} (U:Un fs' [] H₀ H h₀ h) (hfs:∀ b o,h₀.get? b=some o->b∈fs'->b∈fs)
  (hX:H x=some (XO x C od fr)) (hb:∀ b o o',h₀.get? b=some o'->h.get? b=some o->b∉fs->b≠x->base.get? b=some o) (F:Fl base l x C od fl h') (us:h.UpToSlots h')
  (hf:∀ b∈fs,∀ o,h.get? b=some o->∀ vs,o.data≠.fields vs):Un fs [] H₀ (upd H x (XO x C od false)) h₀ h':=by
 have noE:∀ b:Addr,b∉([]:List Addr):=fun b z=>by simp at z
 refine⟨fun b o q n hn _=>?_,fun b o q n hn _=>?_,fun b o q n _=>?_,fun b o q _=>?_,fun b xs q=>?_,fun b o u q=>?_,fun b ps q=>?_⟩
 ·have e1:=U.keep b o q n (fun z=>hn (hfs b o q z)) (noE b)
  exact F.1 b o (hb b o o q e1 hn (jzc_ hX (U.free b o q n (noE b))))
 ·by_cases hm:b∈fs'
  ·obtain⟨sl,e1⟩:=U.slot b o q n hm (noE b)
   obtain⟨sl2,e2⟩:=us b _ e1 (hf b hn _ e1)
   exact⟨sl2,e2⟩
  ·have e1:=U.keep b o q n hm (noE b)
   obtain⟨sl2,e2⟩:=us b _ e1 (hf b hn _ e1)
   exact⟨sl2,e2⟩
 ·have n1:=U.free b o q n (noE b)
  rw[jf_ (jzc_ hX n1)];exact n1
 ·obtain⟨o1,e1⟩:=U.there b o q (noE b)
  by_cases hm:b∈fs
  ·obtain⟨sl,e2⟩:=us b _ e1 (hf b hm _ e1)
   exact⟨_,e2⟩
  ·by_cases hx:b=x
   ·obtain⟨vs,t0,e2,_⟩:=F.at
    exact⟨_,by rw[hx];exact e2⟩
   ·exact⟨o1,F.1 b o1 (hb b o1 o q e1 hm hx)⟩
 ·have n1:=U.tups b xs q
  rw[jf_ (yh_ n1 hX (by intro z;cases z))];exact n1
 ·have n1:=U.frzs b o u q
  rw[jf_ (yh_ n1 hX (by intro z;cases z))];exact n1
 ·obtain⟨more,n1⟩:=U.tbls b ps q
  exact⟨more,by rw[jf_ (yh_ n1 hX (by intro z;cases z))];exact n1⟩
theorem jdr_ {P:Program} {w:World} {H:Hp} {h:Heap} {a:Addr} {o:HO} (x:ObjOk P w H h a o):∃ ob,h.get? a=some ob:=by
 cases o with
 | lst xs=>obtain⟨_,_,_,_,e⟩:=x;exact⟨_,e⟩
 | tup xs=>obtain⟨_,_,_,o,e,_⟩:=x;exact⟨_,e⟩
 | dK kvs=>obtain⟨_,_,_,_,o,_,_,e,_⟩:=x;exact⟨_,e⟩
 | dT kvs=>obtain⟨_,_,_,_,o,_,_,e,_⟩:=x;exact⟨_,e⟩
 | set S n=>obtain⟨o,_,_,_,e,_⟩:=x;exact⟨_,e⟩
 | ins C dx fs=>obtain⟨_,_,_,e,_⟩:=x;exact⟨_,e⟩
 | own y=>exact x
 | xd fs=>obtain⟨_,⟨_,_,_,e,_⟩,_⟩:=x;exact⟨_,e⟩
 | rng lo hi=>obtain⟨_,_,_,e⟩:=x;exact⟨_,e⟩
 | frz ob u=>obtain⟨e,_⟩:=x;exact⟨_,e⟩
 | tbl ps=>exact⟨_,x⟩
 | met f y=>exact⟨_,x⟩
 | ext φ=>obtain⟨_,e,_⟩:=x;exact e
theorem jot_ {P:Program} {w:World} {H:Hp} {h h' base:Heap} {l:List Env} {x C:Addr} {od:Option Addr} {fl:Value} {fr:Bool} (ok:HOk P w H h) (hX:H x=some (XO x C od fr))
  (ht:∀ a u o,H a=some u->a≠x->h.get? a=some o->base.get? a=some o) (F:Fl base l x C od fl h'):HOk P w (upd H x (XO x C od false)) h':=fun a u e=>by
 by_cases ha:a=x
 ·subst ha
  rw[jb_] at e;cases e
  obtain⟨vs,t0,e2,hz,h0⟩:=F.at
  exact jni_ e2 hz h0 fun z=>by cases z
 ·rw[jf_ ha] at e
  refine(ok a u e).stay (fun b v hb q=>?_) (fun b q=>?_) fun b xs q=>?_
  ·have hbx:b≠x:=by
    rcases hb with rfl | hb
    ·exact ha
    ·exact yh_ hb hX (by intro z;cases z)
   rcases hb with rfl | hb
   ·exact F.1 _ _ (ht _ _ _ e hbx q)
   ·exact F.1 _ _ (ht _ _ _ hb hbx q)
  ·rw[jf_ (yh_ q hX (by intro z;cases z))];exact q
  ·rw[jf_ (yh_ q hX (by intro z;cases z))];exact q
def CXx (P:Program) (w:World):CXT:=fun outer H s E e s'=>∃(x C:Addr) (od:Option Addr) (H':Hp) (base:Heap),e=.ref x/\s'.os=s.os/\AllBare s'.gens/\Un (frs outer) [] H H' s.heap s'.heap/\HOk P w H' s'.heap /\
 H' x=some (XO x C od false)/\Fl base outer x C od .none s'.heap/\(∀ a u o,H' a=some u->a≠x->s'.heap.get? a=some o->base.get? a=some o) /\
 (∀ b o o',s.heap.get? b=some o'->s'.heap.get? b=some o->b∉frs outer->b≠x->base.get? b=some o)/\E (.ref x) od H'
def Thr (X:Cx) (E:XK):Prop:=∀(pins:List (Addr×Obj)) (σ:St) (H:Hp) (s:Shared) (x C:Addr) (od:Option Addr),Inv X pins σ H s->H x=some (XO x C od true)->E (.ref x) od (upd H x (XO x C od false))->X.xe (.ref x) s
section
variable {X:Cx} {pins:List (Addr×Obj)} {σ:St} {H:Hp} {s:Shared}
theorem Inv.below (I:Inv X pins σ H s) {b:Addr} {o:Obj} (e:X.s₀.heap.get? b=some o):b≠X.env.locals:=p3_ (p4_ (pu_ e) I.ok.above)
theorem jsq_ (I:Inv X pins σ H s) {x C:Addr} {od:Option Addr} {fr:Bool} (hX:H x=some (XO x C od fr)) :
  ∃ base:Heap,base.StaysIn s.heap/\base.get? x=none/\s.heap.FunFrames base X.stack/\∀ b o,s.heap.get? b=some o->b∉frs X.stack->b≠x->base.get? b=some o:=by
 refine⟨PySem.W.hideAll s.heap (x::frs X.stack),fun b o e=>lp_ _ e,k6_ _ p5_,PySem.W.funFrames_hide I.stack fun env he a hf=>pt_ _ (ro_.mpr ⟨env,he,hf⟩),fun b o e hn hx=>lh_ _ e fun hm=>?_⟩
 rcases pz_.mp hm with z | z
 ·exact hx z
 ·exact hn z
theorem jlq_ (I:Inv X pins σ H s):∀ b∈frs X.stack,∀ o,s.heap.get? b=some o->∀ vs,o.data≠.fields vs:=fun b hb o e vs=>by
 obtain⟨_,o2,e2,h2⟩:=I.stack.mem hb
 rw[e] at e2;cases e2;exact h2 vs
end
section
variable {CX:CXT} {P:Program} {w:World} {K:pb_} {mg:Str->Option Value} {base:Heap} {N:List Str} {qual:Str} {scope:Scope} {f:Addr} {cd:Value} {A:Around} {outer:List Env} {s:Shared} {H:Hp} {E:XK}
theorem juo_:Thr (cxOf (CXx P w) P w K mg base N qual scope f cd A outer s H E) E:=fun pins σ H1 s1 x C od I hX hE=>by
 obtain⟨B,b1,b2,b3,b4⟩:=jsq_ I hX
 obtain⟨vs,t0,e0,hz,h0,h1⟩:=xw_ I.hok hX
 refine jpo_ (base:=B) (outer:=outer) (L:=s.heap.objs.size) (I.ok.frames) b3 rfl b1 b2 e0 hz h0 (h1 rfl) fun h' x1 u1=>?_
 have ht:∀ a u o,H1 a=some u->a≠x->s1.heap.get? a=some o->B.get? a=some o:=fun a u o q hx e=>b4 a o e (fun z=>by rw[I.stkFree a z] at q;cases q) hx
 refine⟨x,C,od,upd H1 x (XO x C od false),B,rfl,I.os,I.bare,jsg_ (fs:=frs outer) I.base (fun _ _ _ z=>z) hX (fun b o o' q e hn hx=>b4 b o e (fun z=>?_) hx) x1 u1 (fun b hb=>jlq_ I b (ro_.mpr ?_)),jot_ I.hok hX ht x1,jb_,x1,fun a u o q hx e=>?_,fun b o o' q e hn hx=>?_,hE⟩
 ·rcases pz_.mp (I.stkSub b z) with z | z
  ·exact I.below q z
  ·exact hn z
 ·obtain⟨env,he,hf⟩:=ro_.mp hb
  exact⟨env,pt_ _ he,hf⟩
 ·rw[jf_ hx] at q
  obtain⟨ob,e2⟩:=jdr_ (I.hok a u q)
  have e3:=ht a u ob q hx e2
  have e4:=x1.1 a ob e3
  have e5:some o=some ob:=e.symm.trans e4
  cases e5;exact e3
 ·obtain⟨o2,e2⟩:=I.base.there b o' q (by show b∉([]:List Addr);simp)
  have e3:=b4 b o2 e2 (fun z=>by
   rcases pz_.mp (I.stkSub b z) with z | z
   ·exact I.below q z
   ·exact hn z) hx
  have e4:=x1.1 b o2 e3
  have e5:some o=some o2:=e.symm.trans e4
  cases e5;exact e3
end
section
variable {X:Cx} {e:Expr} {te:TE} {pos:Pos} {E:XK}
def jut_ (K:pb_) (E:XK) (te:TE):TS:=fun _ σ H=>te σ H fun v H1=>∃(x C W:Addr) (od:Option Addr),v=.ref x/\H1 x=some (XO x C od true)/\Exc K W C/\E (.ref x) od (upd H1 x (XO x C od false))
theorem jue_ (hc:X.calm=true) (ht:Thr X E) (he:PE X e te):PS X (.Raise (some e) none pos) (jut_ X.K E te):=by
 intro pins s σ H D I h
 refine jrg_ (I.ok.hd hc) (thn (he pins s σ H _ I h) fun u s1 ⟨v,H1,I1,r,x,C,W,od,ev,hX,M,q⟩=>?_)
 subst ev
 obtain rfl:u=Value.ref x:=r
 obtain⟨vs,t0,e0,hz,h0,h1⟩:=xw_ I1.hok hX
 obtain⟨nm,qn,N,bs,sn,sub,ab,col,dd,k0,k1,k2,k3,k5,oC⟩:=M.ob
 exact⟨x,od,vs,rfl,⟨nm,qn,C,N,bs,W,true,sn,sub,ab,col,dd,k0,k1,k2,k3,k5,I1.kIn _ _ oC,e0⟩,h1 rfl,ht pins σ H1 s1 x C od I1 hX q⟩
end
end L2
namespace L2
open PySem PySem.Spec PyProof.Rows
section
variable {X:Cx} {pins:List (Addr×Obj)} {σ:St} {H:Hp} {s:Shared}
theorem jfh_ {M:Model} {A:Around} {E:Value->Shared->Prop} {i:Nat} {x:Str} {pos:Pos} {Q:Unit->Shared->Prop} (I:Inv X pins σ H s) (hN:X.N.Nodup) (hi:X.N[i]?=some x) (hk:X.env.scope.names.lookup x=some .local)
  (h:∀ s',Inv X pins (σ.set i none) H s'->Q () s'):wpAny M A (do bindName X.env x .none;unbindBehindTheSuite X.env x pos) Q E s:=by
 refine wpAny_bind (wpAny_bindName (u9_ (v:=.non) (u:=.none) I hN hi (.inl hk) rfl (fun s1 I1=>?_) (.inr hk)))
 have hiσ:i < σ.length:=by rw[I.len];exact(pl_.mp hi).1
 obtain⟨m,hn,hl⟩:=id I1.loc
 have hcls:(X.env.scope.kind == .class || (X.env.scope.kind == .module&&X.env.locals != X.env.globals))=false:=by rw[I1.ok.kind];rfl
 have cne:=I1.cne
 obtain⟨u0,r0,q0⟩:=hl i x .non hi (by rw[sq_ hiσ]) (.inl hk)
 have hv:m x=some u0:=by
  rcases q0 with ⟨_,e⟩ | ⟨k,_⟩
  ·exact e
  ·have k':X.env.scope.names.lookup x=some .cell∨X.env.scope.names.lookup x=some .free:=k
   rcases k' with z | z <;> (rw[hk] at z;cases z)
 unfold unbindBehindTheSuite
 refine wpAny_onRaise (wpAny_unbindName_local hk hn hv hcls fun h' u hn' hs=>h _ ?_)
 obtain⟨oL,_,_,hoL,_⟩:=id hn
 have tracked:HOk X.prog X.w H h':=fun b ob e=>by
  refine(I1.hok b ob e).stay (fun c w' hc q=>(hs.2 c ?_).trans q) (fun _ q=>q) fun _ _ q=>q
  rintro rfl
  rcases hc with rfl | hc
  ·rw[I1.free] at e;cases e
  ·rw[I1.free] at hc;cases hc
 refine⟨I1.ok,I1.os,I1.bare,⟨fun b o e n hb hx=>?_,fun b o e n hb hx=>?_,I1.base.free,fun b o e hx=>?_,I1.base.tups,I1.base.frzs,I1.base.tbls⟩,⟨_,hn',fun j y v' e1 e2 e3=>?_⟩,fun y c e=>?_,I1.free,I1.freeC,fun p hp=>?_,tracked,by simpa using I.len⟩
 ·exact(hs.2 b (I1.below e)).trans (I1.base.keep b o e n hb hx)
 ·obtain⟨sl,e1⟩:=I1.base.slot b o e n hb hx
  exact⟨sl,(hs.2 b (I1.below e)).trans e1⟩
 ·obtain⟨o',e1⟩:=I1.base.there b o e hx
  exact⟨o',(hs.2 b (I1.below e)).trans e1⟩
 ·by_cases hj:j=i
  ·subst hj
   rw[sq_ hiσ] at e2
   cases e2
  ·rw[s7_ (rq_ hj)] at e2
   obtain⟨u',r',q⟩:=hl j y v' e1 (by rw[s7_ (rq_ hj)];exact e2) e3
   refine⟨u',r',?_⟩
   rcases q with ⟨k,e⟩ | ⟨k,c,e,z⟩
   ·refine .inl ⟨k,?_⟩
    have:y≠x:=fun e=>hj (jdp_ hN e1 (e▸hi))
    simp[this,e]
   ·exact .inr ⟨k,c,e,z.sameBut hs (cne y c e)⟩
 ·obtain⟨w',z⟩:=I1.cell y c e
  exact⟨w',z.sameBut hs (cne y c e)⟩
 ·obtain⟨e,n,ne,nf,d⟩:=I1.pin p hp
  exact⟨(hs.2 p.1 ne).trans e,n,ne,nf,d⟩
abbrev Cx.marked (X:Cx) (x:Addr):Cx:={ X with A:=X.A.mark (some (.ref x)),calm:=false,xe:=fun _ _=>False }
theorem Inv.mark (I:Inv X pins σ H s) (x:Addr):Inv (X.marked x) pins σ H s :=
 ⟨⟨I.ok.mod,I.ok.kind,I.ok.glob,I.ok.blt,I.ok.above,I.ok.inj,I.ok.has,I.ok.cab,(fun z=>nomatch z),I.ok.frames,I.ok.stk,I.ok.exf,I.ok.bs,I.ok.bsz,I.ok.noex,I.ok.exfs,I.ok.funs,I.ok.frf⟩,I.os,I.bare,I.base,I.loc,I.cell,I.free,I.freeC,I.pin,I.hok,I.len⟩
theorem Inv.unmark (I0:X.Ok) {x:Addr} (I:Inv (X.marked x) pins σ H s):Inv X pins σ H s:=⟨I0,I.os,I.bare,I.base,I.loc,I.cell,I.free,I.freeC,I.pin,I.hok,I.len⟩
abbrev Cx.tried (X:Cx) (pn:List (Addr×Obj)) (xe:Value->Shared->Prop):Cx:={ X with pn:=pn,xe:=xe }
theorem Inv.try_ (I:Inv X pins σ H s) (xe:Value->Shared->Prop):Inv (X.tried (X.pn++pins) xe) [] σ H s :=
 ⟨⟨I.ok.mod,I.ok.kind,I.ok.glob,I.ok.blt,I.ok.above,I.ok.inj,I.ok.has,I.ok.cab,I.ok.hd,I.ok.frames,I.ok.stk,I.ok.exf,I.ok.bs,I.ok.bsz,I.ok.noex,I.ok.exfs,I.ok.funs,I.ok.frf⟩,I.os,I.bare,I.base,I.loc,I.cell,I.free,I.freeC,fun p hp=>I.pin p (by simpa using hp),I.hok,I.len⟩
theorem Inv.untry (I0:X.Ok) {xe:Value->Shared->Prop} {pins':List (Addr×Obj)} (I:Inv (X.tried (X.pn++pins) xe) pins' σ H s):Inv X pins σ H s :=
 ⟨I0,I.os,I.bare,I.base,I.loc,I.cell,I.free,I.freeC,fun p hp=>I.pin p (q5_ _ hp),I.hok,I.len⟩
end
section
variable {X:Cx} {EX:XK} {W:Addr} {Wn en:Str} {i:Nat} {body suite:List Stmt} {b0:Stmt} {tb ts:TS} {wp hpos pos:Pos}
def tTry (EX:XK) (i n:Nat) (tb ts:TS):TS:=fun D σ H=>tb D σ H/\∀(σ':St) (v:V) (x:Addr) (od:Option Addr) (H':Hp),σ'.length=n->EX (.ref x) od H'->v=.ref x->ts { nx:=fun σ2 H2=>D.nx (σ2.set i none) H2,rt:=D.rt } (σ'.set i (some v)) H'
structure ExcW (K:pb_) (W:Addr):Prop where
 ob:∃(nm qn:Str) (N:Addr) (bs:List Value) (hd:Bool) (sn:List Str) (sub:List Value) (ab:Bool) (col:Option Bool) (dd:Option Addr) (k0 k1 k2 k3 k5:Option Value) (nw:String),
  K.lookup W=some (excClassObj nm qn W N bs vBM hd sn sub ab col dd k0 k1 k2 k3 k5 nw)
theorem jzr_ (hst:X.stack=X.env::X.outer) (hL:X.env.frame=some X.env.locals) (hN:X.N.Nodup) (hi:X.N[i]?=some en) (hk:X.env.scope.names.lookup en=some .local) (hg:Gl X Wn) (hm:X.mg Wn=some (.ref W)) (MW:ExcW X.K W)
  (hE:∀ x od H',EX (.ref x) od H'->∃ C,H' x=some (XO x C od false)/\Exc X.K W C)
  (hb:∀ pn xe,y8_ (CXx X.prog X.w) (X.tried pn xe) EX->PSs (X.tried pn xe) body tb) (hs:∀ x,PSs (X.marked x) (b0::suite) ts) (hdb:(Wn == ("__debug__":Str))=false:=by decide) :
  PS X (.Try body [.ExceptHandler (some (.Name Wn wp)) (some en) (b0::suite) hpos] [] [] pos) (tTry EX i X.N.length tb ts):=by
 intro pins s σ H D I ⟨q1,q2⟩
 refine wpAny_Try_except (wpAny_mono (hb (X.pn++pins) (fun e s1=>∃ σ' H' s',Inv X pins σ' H' s'/\CXx X.prog X.w X.stack H' s' EX e s1) (fun pins' σ' H' s' e s1 I' z=>⟨σ',H',s',Inv.untry I.ok I',z⟩) [] s σ H D (I.try_ _) q1) (fun f s1 z=>?_) fun e s1 z=>?_)
 ·cases f with
  | next =>
   obtain⟨σ',H',I',q⟩:=z
   exact wpAny_execs_nil ⟨σ',H',Inv.untry I.ok I',q⟩
  | brk=>obtain⟨σ',H',I',q⟩:=z;exact⟨σ',H',Inv.untry I.ok I',q⟩
  | cont=>obtain⟨σ',H',I',q⟩:=z;exact⟨σ',H',Inv.untry I.ok I',q⟩
  | ret u=>obtain⟨v,σ',H',I',r,q⟩:=z;exact⟨v,σ',H',Inv.untry I.ok I',r,q⟩
 ·obtain⟨σ',H1,s',I1,x,C,od,H2,B,rfl,os,bare,U,ok,hX,F,ht,hbb,hE2⟩:=z
  have F':=F
  rw[hst] at F
  obtain⟨C',hX',ME⟩:=hE _ _ _ hE2
  obtain⟨_,_,z1,_⟩:=xw_ ok hX
  obtain⟨_,_,z2,_⟩:=xw_ ok hX'
  have zC:C=C':=by
   rw[z1] at z2
   have:=congrArg (Option.map Obj.cls) z2
   exact Value.ref.inj (Option.some.inj this)
  subst zC
  obtain⟨nm,qn,N,bs,sn,sub,ab,col,dd,k0,k1,k2,k3,k5,oC⟩:=ME.ob
  obtain⟨nm2,qn2,N2,bs2,hd2,sn2,sub2,ab2,col2,dd2,j0,j1,j2,j3,j5,nw2,oW⟩:=MW.ob
  have fd:∀ b∈frs X.stack,∀ o,s1.heap.get? b=some o->∀ vs,o.data≠.fields vs:=fun b hb o q=>by
   obtain⟨_,o2,e2,h2⟩:=F'.2.2.1.mem hb
   rw[q] at e2;cases e2;exact h2
  have inv:∀ h3 t3 l3 fl,Fl B l3 x C od fl h3->s1.heap.UpToSlots h3->Inv X pins σ' H2 { s1 with heap:=h3,toks:=t3 }:=fun h3 t3 l3 fl x3 u3=>by
   have hU:=jsg_ (fs:=frs X.stack) U (fun _ _ _ z=>z) hX (fun b o o' q e hn hx=>hbb b o o' q e hn hx) x3 u3 fd
   have hK:=jot_ ok hX ht x3
   rw[jjr_ hX] at hU hK
   exact I1.call' (s':={ s1 with heap:=h3,toks:=t3 }) os hU hK bare (fun b z=>absurd z (by simp))
  refine jye_ (by rw[<- hst];exact I.ok.frames) hL F fun h2 x2 u2=>?_
  refine jhp_ (s:={ s1 with heap:=h2 }) x2 fun h3 x3 u3=>?_
  have I3:=inv h3 s1.toks _ _ x3 (u2.trans u3)
  refine wpAny_handleBy_cons (codeAny_handlers_test ?_) (by intro q;cases q)
  refine x9_ (X:=X.marked x) (I3.mark x) hg hm ?_ hdb
  obtain⟨vs3,t03,e3,_⟩:=x3.at
  have kI:=I3.kIn
  obtain⟨sh,sg,sd,st,so⟩:=s1
  refine jkq_ (kI _ _ oC) (kI _ _ oW) e3 rfl ?_
  refine codeAny_handlers_suite_as ?_
  refine jhp_ (s:=⟨h3,sg,sd,st,so⟩) x3 fun h5 x5 u5=>?_
  have I5:=inv h5 st _ _ x5 ((u2.trans u3).trans u5)
  refine u9_ (X:=X.marked x) (v:=.ref x) (I5.mark x) hN hi (.inl hk) rfl (fun s6 I6=>?_) (.inr hk)
  have hlen:σ'.length=X.N.length:=I5.len
  refine wpAny_mono (hs x pins s6 _ H2 _ I6 (q2 σ' (.ref x) x od H2 hlen hE2 rfl)) (fun f s7 z=>?_) fun _ _ z=>z.elim
  cases f with
  | next =>
   obtain⟨σ7,H7,I7,q7⟩:=z
   exact jfh_ (Inv.unmark I.ok I7) hN hi hk fun s8 I8=>⟨_,H7,I8,q7⟩
  | brk=>obtain⟨_,_,_,z⟩:=z;exact z.elim
  | cont=>obtain⟨_,_,_,z⟩:=z;exact z.elim
  | ret u =>
   obtain⟨v,σ7,H7,I7,r7,q7⟩:=z
   exact jfh_ (Inv.unmark I.ok I7) hN hi hk fun s8 I8=>⟨v,_,H7,I8,r7,q7⟩
end
end L2
namespace L2
open PySem PySem.Spec PyProof.Rows
theorem jtw_:∀ K:pb_,s4_ K (.builtin "object.__class__") "__get__"=some (some (.builtin "getset_descriptor.__get__")):=fun K=>by kernel_rfl
theorem jsc_:∀ K:pb_,PySem.W.takesIn K (.builtin "object.__class__")=some true:=fun K=>by kernel_rfl
section
variable {K:pb_} {x D W:Addr} {ox:Obj} {odo:Option Obj}
theorem Exc.mro (M:Exc K W D) (v:Value):wd_ K D v=some ((Value.ref D::.ref W::vBM).contains v):=by
 obtain⟨cd,h1,h2,_⟩:=M.cls
 unfold wd_
 rw[h1,kh_,h2];rfl
theorem Exc.ty (M:Exc K W D):lc_ K (.ref D)=some (.type "type"):=by
 obtain⟨nm,qn,N,bs,sn,sub,ab,col,dd,k0,k1,k2,k3,k5,h⟩:=M.ob
 show (K.lookup D).map (·.cls)=_
 rw[h];rfl
theorem juk_ (M:Exc K W D):PySem.W.KitX K (.ref x) (.ref D) (fun h=>t0_ h x ox D odo) where
 ty:=fun _ _ _ I=>I.type
 it:=fun _ _ X _=>by
  obtain⟨nm,qn,N,bs,sn,sub,ab,col,dd,k0,k1,k2,k3,k5,ho⟩:=M.ob
  intro A' Q' E' s' k q
  unfold isType loadHead
  exact wpAny_bind (wpAny_loadPart (k _ _ (X _ _ ho)) (wpAny_pure q))
 ne:=fun h tp dd its n sl X htp=>by
  obtain⟨nm,qn,N,bs,sn,sub,ab,col,dd,k0,k1,k2,k3,k5,ho⟩:=M.ob
  refine Bool.eq_false_iff.mpr fun q=>?_
  have e:D=tp:=Value.ref.inj (beq_iff_eq.mp q)
  subst e
  have z:=congrArg (Option.map Obj.cls) ((X _ _ ho).symm.trans htp)
  have z2:(some (Value.type "type"):Option Value)=some (Value.type "tuple"):=z
  exact absurd z2 (by decide)
 ca:=fun{prog w A E Q s} X I k=>by
  obtain⟨cd,h1,_,_⟩:=M.cls
  have hf:PySem.W.findObj K D odo "__class__"=some (.bind (.builtin "getset_descriptor.__get__") (.builtin "object.__class__")):=by
   unfold PySem.W.findObj
   rw[h1,kh_,M.cl,kh_]
   simp[jtw_ K,jsc_ K]
  obtain⟨nm,qn,N,bs,sn,sub,ab,col,dd,k0,k1,k2,k3,k5,oC⟩:=M.ob
  exact jtj_ X I oC M.ga M.gr hf (M.mro _) k
theorem juw_ (M:Exc K W D):rc_ K (.ref D) (.ref D)=some true:=by unfold rc_;rw[if_pos (by simp)]
theorem y4_ {C:Addr} (M:Exc K W D) (M2:Exc K W C) (h1:D≠C) (h2:C≠W):rc_ K (.ref D) (.ref C)=some false:=by
 have e:¬ ((Value.ref D == Value.ref C)=true):=fun z=>h1 (Value.ref.inj (beq_iff_eq.mp z))
 unfold rc_
 rw[if_neg e]
 obtain⟨cd,g1,_,_⟩:=M2.cls
 show (if ((lt_ K C).isSome&&lc_ K (.ref C) == some (.type "type"))=true then wd_ K D (.ref C) else none)=some false
 rw[g1,M2.ty,if_pos (by simp),M.mro]
 congr 1
 have a1:(Value.ref D == Value.ref C)=false:=by simpa using h1
 have a2:(Value.ref W == Value.ref C)=false:=beq_eq_false_iff_ne.mpr fun z=>h2 (Value.ref.inj z).symm
 have a3:(Value.ref C == Value.ref D)=false:=beq_eq_false_iff_ne.mpr fun z=>h1 (Value.ref.inj z).symm
 have a4:(Value.ref C == Value.ref W)=false:=beq_eq_false_iff_ne.mpr fun z=>h2 (Value.ref.inj z)
 rw[st_,st_,a3,a4];rfl
theorem kit_ve (M:Exc K W D):rc_ K (.ref D) (.type "ValueError")=some true:=by
 unfold rc_
 rw[if_neg (by simp)]
 show (if PySem.W.kitMeta "ValueError"=true then wd_ K D (.type "ValueError") else none)=some true
 rw[if_pos (by decide +kernel),M.mro]
 congr 1
end
def jzh_ (K:pb_):List V->Hp->VK->Prop:=fun xs H Q=>∃(e C W:Addr) (od:Option Addr) (fr:Bool) (c:V) (cv:Value) (b:Bool),xs=[.ref e,c]/\H e=some (XO e C od fr)/\(∀ d,od=some d->∃ fs,H d=some (.xd fs))/\Exc K W C/\(∀ u,RelV c u->u=cv) /\
 rc_ K (.ref C) cv=some b/\Q (.bl b) H
theorem juy_ {X:Cx} {K:pb_} (hK:X.K=K:=by rfl):CallR X (.builtin "isinstance") (jzh_ K):=by
 subst hK
 rintro pins s σ H xs us Q I rs ⟨e,C,W,od,fr,c,cv,b,rfl,hX,hd,M,rc,hk,q⟩
 cases rs with
 | cons r1 rs =>
  cases rs with
  | cons r2 rs =>
   cases rs
   cases (show _=Value.ref e from r1)
   cases rc _ r2
   obtain⟨vs,t0,he,hz,h0,h1⟩:=xw_ I.hok hX
   have J:∃ odo,t0_ s.heap e ⟨.ref C,od,.fields vs,#[]⟩ C odo:=by
    cases od with
    | none=>exact⟨none,he,rfl,rfl,True.intro⟩
    | some d =>
     obtain⟨fs,hf⟩:=hd d rfl
     obtain⟨ob,ho⟩:=jdr_ (I.hok d _ hf)
     exact⟨some ob,he,rfl,rfl,ho⟩
   obtain⟨odo,J⟩:=J
   exact PySem.W.kia_one (juk_ M) I.kIn J hk (fun z=>nomatch z) fun tk=>⟨.bl b,H,I.tok _,rfl,q⟩
structure DnX (P:Program) (w:World) (K:pb_) (mg:Str->Option Value) (base:Heap) (x:Str) (k:Nat) (ps:List Str) (sp:Sp):Prop where
 ex:∃(f:Addr) (fd:FuncData),mg x=some (.ref f)/\q9_ K (.ref f)=true/\Binds K fd ps []/\FnOk P w K mg base (CXx P w) k f fd ps sp
theorem jva_ {X:Cx} {x:Str} {k:Nat} {ps:List Str} {sp:Sp} {e:Expr} {es:List Expr} {t:TA} {p pos:Pos} {E:XK} (D:DnX X.prog X.w X.K X.mg X.base x k ps sp) (hr:Room k X.A) (hg:Gl X x) (hx:y8_ (CXx X.prog X.w) X E) (ha:PA X (e::es) t)
  (hdb:(x == ("__debug__":Str))=false:=by decide) (he:starEach (e::es) X.env=(false,eval e X.env)::starEach es X.env:=by rfl) (hpl:(backTo pos (starEach es X.env)).any (·.1)=false:=by rfl):PE X (.Call (.Name x p) (e::es) [] pos) (jnn_ sp [] E t):=by
 obtain⟨f,fd,hm,hk,hb,F⟩:=D.ex
 exact joh_ F hr hg hm hk hb .nil hx ha hdb he hpl
theorem Fun.okX {P:Program} {w:World} {K:pb_} {mg:Str->Option Value} {base:Heap} {x qual:Str} {st:Stmt} {f:Addr} {fd:FuncData} {N ps:List Str} {k:Nat} {sp:Sp} (F:Fun K x qual st f fd) (S:FnScope N ps (jl_ st)) (len:∀ vs H Q E,sp vs H Q E->vs.length=ps.length)
  (hbody:∀(cdv:Value) (A:Around) (outer:List Env) (s:Shared) (H:Hp) (vs:List V) (Q:VK) (E:XK),Room k (A.deeper (envOfC qual (jl_ st) s.heap.objs.size f cdv))->sp vs H Q E ->
   ∃ t,PSs (cxOf (CXx P w) P w K mg base N qual (jl_ st) f cdv A outer s H E) (xf_ st) t/\t { nx:=fun _ H'=>Q .non H',rt:=Q } (start N vs) H):FnOk P w K mg base (CXx P w) (k+1) f fd ps sp:=by
 obtain⟨oc,od,kV,doc,pm,an,cdv,ct,osl,rfl,lk,hcd⟩:=F.ex
 exact jzm_ lk hcd S len fun A outer s H vs Q E hr hsp=>hbody cdv A outer s H vs Q E hr hsp
end L2
namespace L2
open PySem PySem.Spec PyProof.Rows
structure Ini (P:Program) (w:World) (K:pb_) (mg:Str->Option Value) (base:Heap) (C:Addr) (k:Nat) (ps:List Str) (sp:Sp):Prop where
 ex:∃(f:Addr) (fd:FuncData),po_ K (.ref C) "__init__"=some (some (.ref f))/\qx_ K (.ref f)=true/\Binds K fd ps []/\FnOk P w K mg base CX0 k f fd ps sp
theorem jvd_ {X:Cx} {W C:Addr} {ps:List Str} {sp:Sp} {k:Nat} {x:Str} {p pos:Pos} {e:Expr} {es:List Expr} {t:TA} (M:Exc X.K W C) (D:Ini X.prog X.w X.K X.mg X.base C k ps sp) (hr:Room (k+1) X.A) (hg:Gl X x) (hm:X.mg x=some (.ref C))
  (ha:PA X (e::es) t) (hdb:(x == ("__debug__":Str))=false:=by decide) (he:starEach (e::es) X.env=(false,eval e X.env)::starEach es X.env:=by rfl) (hpl:(backTo pos (starEach es X.env)).any (·.1)=false:=by rfl) :
  PE X (.Call (.Name x p) (e::es) [] pos) (jmk_ C sp E0 t):=by
 obtain⟨f,fd,hi,hf,hb,F⟩:=D.ex
 exact jri_ M hi hf F hr hg hm hb jig_ ha hdb he hpl
def okTx (y:V):Prop:=(∃ i:Int,y=.int i/\i.natAbs.log2 < 1920)∨∃ z:Str,y=.str z/\z.length<=1000
def jnd_ (ok:V->Prop) (C:Addr) (f:Str):Sp:=fun vs H Q _=>∃(e:Addr) (y:V) (fr:Bool),vs=[.ref e,y]/\H e=some (XO e C none fr)/\ok y/\∀ d,H d=none->d≠e->Q .non (upd (upd H d (.xd [(f,y)])) e (XO e C (some d) fr))
section
variable {σ:St} {H:Hp} {Q:VK} {K:pb_} {W:Addr} {t:TA} {i:Nat} {y:V} {a b:Str}
theorem jxh_ (h:t σ H fun vs H1=>∃(e C:Addr) (od:Option Addr) (fr:Bool) (y:V),vs=[.ref e,y]/\H1 e=some (XO e C od fr)/\Exc K W C/\Q .non H1):jtn_ K W t σ H Q:=h
theorem i_fv {R:VK} (hy:okTx y) (e:σ[i]?=some (some y)) (h:∀ z:Str,z.length<=2000->R (.str z) H):tFv (tVar i) σ H R:=by
 refine⟨y,e,?_⟩
 rcases hy with ⟨j,rfl,hj⟩ | ⟨z,rfl,hz⟩
 ·exact .inl ⟨j,rfl,hj,h⟩
 ·exact .inr ⟨z,rfl,qg_ hz (by decide),h z (qg_ hz (by decide))⟩
theorem i_fs3 (ha:a.length<=1000) (hb:b.length<=1000) (hy:okTx y) (e:σ[i]?=some (some y)) (h:∀ z,Q (.str z) H):tFs (jnh_ (tC (.str a)) (jnh_ (tFv (tVar i)) (jnh_ (tC (.str b)) jNil))) σ H Q:=by
 refine⟨a,rfl,by omega,i_fv hy e fun z hz=>⟨z,rfl,by omega,⟨b,rfl,by omega,by omega,h⟩⟩⟩
end
theorem jwi_ {σ:St} {H:Hp} {Q:VK} {C:Addr} {sp:Sp} {E:XK} {t:TA} (h:t σ H fun vs H1=>vs.length<=sizeLine/\∀ x,H1 x=none->sp (.ref x::vs) (upd H1 x (XO x C none true)) (fun v H2=>v=.non/\Q (.ref x) H2) E):jmk_ C sp E t σ H Q:=h
theorem i_fldX {σ:St} {H:Hp} {Q:VK} {K:pb_} {ta:TE} {f:Str} (h:ta σ H fun x H1=>∃(a C W d:Addr) (fr:Bool) (fs:List (Str×V)) (v:V),x=.ref a/\H1 a=some (XO a C (some d) fr)/\H1 d=some (.xd fs)/\Exc K W C/\NoAttr K C f/\fs.lookup f=some v/\Q v H1):jyt_ K ta f σ H Q:=h
theorem jul_ {H:Hp} {Q:VK} {K:pb_} {e C W:Addr} {od:Option Addr} {fr:Bool} {c:V} {cv:Value} {b:Bool} (h1:H e=some (XO e C od fr)) (h2:∀ d,od=some d->∃ fs,H d=some (.xd fs)) (M:Exc K W C) (h3:∀ u,RelV c u->u=cv)
  (h4:rc_ K (.ref C) cv=some b) (q:Q (.bl b) H):jzh_ K [.ref e,c] H Q:=⟨e,C,W,od,fr,c,cv,b,rfl,h1,h2,M,h3,h4,q⟩
theorem jwc_ {σ:St} {H:Hp} {D:Ends} {K:pb_} {E:XK} {te:TE} (h:te σ H fun v H1=>∃(x C W:Addr) (od:Option Addr),v=.ref x/\H1 x=some (XO x C od true)/\Exc K W C/\E (.ref x) od (upd H1 x (XO x C od false))):jut_ K E te D σ H:=h
theorem i_try {σ:St} {H:Hp} {D:Ends} {EX:XK} {i n:Nat} {tb ts:TS} (h1:tb D σ H) (h2:∀(σ':St) (v:V) (x:Addr) (od:Option Addr) (H':Hp),σ'.length=n->EX (.ref x) od H'->v=.ref x->ts { nx:=fun σ2 H2=>D.nx (σ2.set i none) H2,rt:=D.rt } (σ'.set i (some v)) H'):tTry EX i n tb ts D σ H:=⟨h1,h2⟩
theorem mk_ini {H:Hp} {R:Addr->Hp->Prop} {C:Addr} {f:Str} {ok:V->Prop} {y:V} {E:XK} (hy:ok y) (h:∀ x d,H x=none->H d=none->d≠x->R x (upd (upd H d (.xd [(f,y)])) x (XO x C (some d) true))) :
  ∀ x,H x=none->jnd_ ok C f [.ref x,y] (upd H x (XO x C none true)) (fun v H2=>v=.non/\R x H2) E:=by
 refine fun x hx=>⟨x,y,true,rfl,jb_,hy,fun d hd hde=>⟨rfl,?_⟩⟩
 rw[jf_ hde] at hd
 have:=h x d hx hd hde
 rw[jjw_ (rq_ hde),jnx_]
 exact this
end L2
namespace L2
open PySem PySem.Spec PyProof.Rows
structure DkX (P:Program) (w:World) (K:pb_) (mg:Str->Option Value) (base:Heap) (C:Addr) (k:Nat) (ps:List Str) (sp:Sp):Prop where
 ex:∃(f:Addr) (fd:FuncData),Mk K C f/\Binds K fd ps []/\FnOk P w K mg base (CXx P w) k f fd ps sp
section
variable {X:Cx} {k:Nat} {C:Addr} {ps:List Str} {sp:Sp} {x:Str} {p pos:Pos} {e:Expr} {es:List Expr} {t:TA} {E:XK}
end
def jre_ (K:pb_):List V->Hp->VK->Prop:=fun xs H Q=>∃(e p C W:Addr) (od:Option Addr) (fr:Bool) (cs:List Addr),xs=[.ref e,.ref p]/\H p=some (.tup (cs.map V.ref))/\H e=some (XO e C od fr)/\(∀ d,od=some d->∃ fs,H d=some (.xd fs))/\Exc K W C /\
 (∀ c∈cs,rc_ K (.ref C) (.ref c)=some false)/\Q (.bl false) H
theorem jjk_ {K:pb_} {t:Value}:∀{cs:List Addr} {us:List Value},Vals (cs.map V.ref) us->(∀ c∈cs,rc_ K t (.ref c)=some false)->PySem.W.kitAny K t us=some false
 | [],_,.nil,_=>rfl
 | c::cs,_,.cons r rs,h=>by
  cases (show _=Value.ref c from r)
  unfold PySem.W.kitAny
  rw[h c p5_]
  exact jjk_ rs fun d hd=>h d (pt_ _ hd)
theorem jwd_ {X:Cx} {K:pb_} (hK:X.K=K:=by rfl):CallR X (.builtin "isinstance") (jre_ K):=by
 subst hK
 rintro pins s σ H xs us Q I rs ⟨e,p,C,W,od,fr,cs,rfl,hp,hX,hd,M,hk,q⟩
 cases rs with
 | cons r1 rs =>
  cases rs with
  | cons r2 rs =>
   cases rs
   cases (show _=Value.ref e from r1)
   cases (show _=Value.ref p from r2)
   obtain⟨vs,t0,he,hz,h0,h1⟩:=xw_ I.hok hX
   have J:∃ odo,t0_ s.heap e ⟨.ref C,od,.fields vs,#[]⟩ C odo:=by
    cases od with
    | none=>exact⟨none,he,rfl,rfl,True.intro⟩
    | some d =>
     obtain⟨fs,hf⟩:=hd d rfl
     obtain⟨ob,ho⟩:=jdr_ (I.hok d _ hf)
     exact⟨some ob,he,rfl,rfl,ho⟩
   obtain⟨odo,J⟩:=J
   obtain⟨its,rv,pl,hz⟩:=I.tuple (SqT.of hp)
   obtain⟨⟨cls,dd,data,sl⟩,ho,hc,n,hd'⟩:=id pl
   simp only at hc hd'
   subst hc hd'
   exact PySem.W.kia_tup (juk_ M) I.kIn J ho (jjk_ rv hk) (fun z=>nomatch z) fun tk=>⟨.bl false,H,I.tok _,rfl,q⟩
theorem jxs_ {H:Hp} {Q:VK} {K:pb_} {e p C W:Addr} {od:Option Addr} {fr:Bool} {cs:List Addr} (h0:H p=some (.tup (cs.map V.ref))) (h1:H e=some (XO e C od fr)) (h2:∀ d,od=some d->∃ fs,H d=some (.xd fs)) (M:Exc K W C)
  (h3:∀ c∈cs,rc_ K (.ref C) (.ref c)=some false) (h:Q (.bl false) H):jre_ K [.ref e,.ref p] H Q:=⟨e,p,C,W,od,fr,cs,rfl,h0,h1,h2,M,h3,h⟩
end L2
namespace L2
open PySem PySem.Spec PyProof.Rows
section
variable {X:Cx} {σ:St} {CX:CXT} {k:Nat} {f C:Addr} {fd:FuncData} {ps:List Str} {sp:Sp} {dvs:List V} {ds:List Value} {E:XK} {x m:Str} {p pos apos:Pos} {e o:Expr} {es:List Expr} {ta te:TE} {t:TA}
end
section
variable {X:Cx} {EX:St->XK} {W:Addr} {Wn en:Str} {i:Nat} {st:Stmt} {body suite:List Stmt} {b0:Stmt} {t0:St->TS} {tb ts:TS} {wp hpos pos:Pos}
end
end L2
namespace L2
open PySem PySem.Spec PyProof.Rows
structure DmX (P:Program) (w:World) (K:pb_) (mg:Str->Option Value) (base:Heap) (C:Addr) (m:Str) (k:Nat) (ps:List Str) (sp:Sp):Prop where
 ex:∃(f:Addr) (fd:FuncData),Meth K C m f/\Binds K fd ps []/\FnOk P w K mg base (CXx P w) k f fd ps sp
section
variable {X:Cx} {k:Nat} {C:Addr} {ps:List Str} {sp:Sp} {x m:Str} {p pos apos:Pos} {e o:Expr} {es:List Expr} {ta:TE} {t:TA} {E:XK}
end
end L2
namespace L2
open PySem PySem.Spec PyProof.Rows
abbrev dKw (d:Value):List (Str×Value):=[(qd_ "default",d)]
theorem jqt_ (a d:Value):argsOk "max" ⟨[a],dKw d⟩:=by unfold argsOk;kernel_rfl
section
variable {prog:Program} {w:World} {Z:Around} {R:Result->Shared->Prop} {J:Addr} {fp wr:List Addr} {n:Nat} {P:Nat->Value->Prop} {St:Nat->Heap->Prop}
theorem jwa_ (W:Walks prog w Z.in1 J fp wr n P St) (bt:Nat->Nat->Bool) (hc:CmpOf prog w Z.in1 .Gt P bt) (B:Addr) (hB:B∉fp) (d:Value) :
  ∀(k j:Nat) (t:Shared) (u:Value) (z:Nat),n - (j+1)=k->j+1<=n->St (j+1) t.heap->P (argBest bt j) u ->
  t.heap.get? B=some { cls:=.type "list",dict:=none,data:=.seq #[u,u] z,slots:=#[] } ->
  (∀ v g tk,P (argBest bt (n - 1)) v->(∀ b o,b∉wr->b≠B->t.heap.get? b=some o->g.get? b=some o)->R (.ok (.ret v)) { t with heap:=g,toks:=tk }) ->
  codeAny (model prog w) Z (.builtin "max.loop" ⟨[.ref J,.none,.ref B],dKw d⟩) R t:=by
 have hBw:B∉wr:=fun h=>hB (W.sub _ h)
 have nm:(toString "max"++toString ".loop":String)="max.loop":=by decide
 intro k
 induction k with
 | zero =>
  intro j t u z hk hj hst hP hb hR
  have hin:j+1=n:=by omega
  refine codeAny_builtin tu_ ?_
  rw[wa_ q8_ _]
  show wpAny _ Z.in1 (seqItems? (.ref B) >>= _) _ _ t
  refine wpAny_bind (wpAny_seqItems hb rfl ?_)
  show wpAny _ Z.in1 (tryCatch (pyNext (.ref J)) _ >>= _) _ _ t
  refine wpAny_bind (wpAny_tryCatch (W.done t _ _ (hin▸hst) fun g tk kk=>?_))
  have hb':=kk B _ hBw hb
  show wpAny _ Z.in1 (updateSeq B (fun _=>#[]) >>= _) _ _ _
  exact wpAny_bind (wpAny_updateSeq hb' rfl (wpAny_bind (wpAny_letGo (wpAny_pure (hR u _ tk (by rw[<- hin];exact hP) fun b o h1 h2 e=>(qo_ _ _ (rq_ h2)).trans (kk b o h1 e))))))
 | succ k ih =>
  intro j t u z hk hj hst hP hb hR
  have hlt:j+1 < n:=by omega
  refine codeAny_builtin tu_ ?_
  rw[wa_ q8_ _]
  show wpAny _ Z.in1 (seqItems? (.ref B) >>= _) _ _ t
  refine wpAny_bind (wpAny_seqItems hb rfl ?_)
  show wpAny _ Z.in1 (tryCatch (pyNext (.ref J)) _ >>= _) _ _ t
  refine wpAny_bind (wpAny_tryCatch (W.item (j+1) t _ _ hlt hst fun v g tk hv hst' kk=>?_))
  have hb':=kk B _ hBw hb
  show wpAny _ Z.in1 (tryCatch (holding [v,v] (richCompare .Gt v u >>= _)) _ >>= _) _ _ _
  refine wpAny_bind (wpAny_tryCatch (wpAny_holding (wpAny_bind (hc (j+1) (argBest bt j) v u _ _ _ hv hP ?more))))
  refine wpAny_bind (wpAny_holding (wpAny_truthy_bool (wpAny_bind (wpAny_letGo (wpAny_pure ?_)))))
  cases e:bt (j+1) (argBest bt j) with
  | true =>
   simp only[if_true]
   refine wpAny_bind (wpAny_updateSeq hb' rfl (wpAny_bind (wpAny_letGo ?_)))
   rw[nm]
   refine wpAny_pure ⟨plainId_quiet q8_ _,ih (j+1) _ v _ (by omega) hlt (W.frame _ _ _ hst' fun b h1 o h2=>?_) (by simp only[argBest,e,if_true];exact hv) (q1_ _ hb' rfl) fun v' g' tk' h1 h2=>?_⟩
   ·exact(qo_ _ _ (fun h:B=b=>hB (by rw[h];exact h1))).trans h2
   ·exact hR v' g' tk' h1 fun b o h3 h4 h5=>h2 b o h3 h4 ((qo_ _ _ (rq_ h4)).trans (kk b o h3 h5))
  | false =>
   simp only[ss_,if_false]
   refine wpAny_bind (wpAny_letGo ?_)
   rw[nm]
   exact wpAny_pure ⟨plainId_quiet q8_ _,ih (j+1) _ u z (by omega) hlt hst' (by simp only[argBest,e,ss_,if_false];exact hP) hb' fun v' g' tk' h1 h2=>hR v' g' tk' h1 fun b o h3 h4 h5=>h2 b o h3 h4 (kk b o h3 h5)⟩
theorem jmb_ (W:Walks prog w Z.in1 J fp wr n P St) (bt:Nat->Nat->Bool) (hc:CmpOf prog w Z.in1 .Gt P bt) (B:Addr) (hB:B∉fp) (d:Value) {t:Shared} {z:Nat} (hst:St 0 t.heap)
  (hb:t.heap.get? B=some { cls:=.type "list",dict:=none,data:=.seq #[] z,slots:=#[] })
  (h0:n=0->∀ g tk,(∀ b o,b∉wr->b≠B->t.heap.get? b=some o->g.get? b=some o)->R (.ok (.ret d)) { t with heap:=g,toks:=tk })
  (hR:0 < n->∀ v g tk,P (argBest bt (n - 1)) v->(∀ b o,b∉wr->b≠B->t.heap.get? b=some o->g.get? b=some o)->R (.ok (.ret v)) { t with heap:=g,toks:=tk }) :
  codeAny (model prog w) Z (.builtin "max.loop" ⟨[.ref J,.none,.ref B],dKw d⟩) R t:=by
 have hBw:B∉wr:=fun h=>hB (W.sub _ h)
 have nm:(toString "max"++toString ".loop":String)="max.loop":=by decide
 refine codeAny_builtin tu_ ?_
 rw[wa_ q8_ _]
 show wpAny _ Z.in1 (seqItems? (.ref B) >>= _) _ _ t
 refine wpAny_bind (wpAny_seqItems hb rfl ?_)
 show wpAny _ Z.in1 (tryCatch (pyNext (.ref J)) _ >>= _) _ _ t
 rcases qh_ n with hn | hn
 ·refine wpAny_bind (wpAny_tryCatch (W.done t _ _ (by rw[hn];exact hst) fun g tk kk=>?_))
  show wpAny _ Z.in1 (rule _ >>= _) _ _ _
  exact wpAny_bind (wpAny_rule (wpAny_pure (h0 hn g tk fun b o h1 _ e=>kk b o h1 e)))
 ·refine wpAny_bind (wpAny_tryCatch (W.item 0 t _ _ hn hst fun v g tk hv hst' kk=>?_))
  have hb':=kk B _ hBw hb
  show wpAny _ Z.in1 (updateSeq B (fun _=>#[v,v]) >>= _) _ _ _
  refine wpAny_bind (wpAny_updateSeq hb' rfl ?_)
  rw[nm]
  refine wpAny_pure ⟨plainId_quiet q8_ _,jwa_ W bt hc B hB d _ 0 _ v _ rfl hn (W.frame _ _ _ hst' fun b h1 o h2=>?_) hv (q1_ _ hb' rfl) fun v' g' tk' h1 h2=>?_⟩
  ·exact(qo_ _ _ (fun h:B=b=>hB (by rw[h];exact h1))).trans h2
  ·exact hR hn v' g' tk' h1 fun b o h3 h4 h5=>h2 b o h3 h4 ((qo_ _ _ (rq_ h4)).trans (kk b o h3 h5))
theorem jqu_ {E:Value->Shared->Prop} {s:Shared} {x d:Value} {Q:Value->Shared->Prop}
  (h:wpAny (model prog w) Z.in1 (pyIter x) (fun it t=>∃ J fp wr n P St bt,it=.ref J/\Walks prog w Z.in1 J fp wr n P St/\St 0 t.heap/\(∀ b∈fp,b < t.heap.objs.size)/\CmpOf prog w Z.in1 .Gt P bt /\
   (n=0->∀ g tk,(∀ b o,b∉wr->t.heap.get? b=some o->g.get? b=some o)->Q d { t with heap:=g,toks:=tk }) /\
   (0 < n->∀ v g tk,P (argBest bt (n - 1)) v->(∀ b o,b∉wr->t.heap.get? b=some o->g.get? b=some o)->Q v { t with heap:=g,toks:=tk })) E s) :
  wpAny (model prog w) Z (call (.builtin "max") [x] (dKw d)) Q E s:=by
 have nm:(toString "max"++toString ".loop":String)="max.loop":=by decide
 refine kmk_tree PySem.F.kind_max PySem.F.plain_max PySem.F.entry_max (jqt_ _ _) ?_
 show wpAny _ Z.in1 (wk_ "max" ["key","default"] 0 ⟨[],dKw d⟩ >>= _) _ _ s
 refine wpAny_bind (wpAny_of_eq (show wk_ "max" ["key","default"] 0 ⟨[],dKw d⟩=pure [none,some d] from rfl) (wpAny_bind (wpAny_pure ?_)))
 refine wpAny_bind (wpAny_mono h (fun it t h₂=>?_) fun _ _ e=>e)
 obtain⟨J,fp,wr,n,P,St,bt,rfl,W,hst,hfp,hc,q0,q1⟩:=h₂
 refine wpAny_bind (wpAny_newObj_type ?_)
 rw[nm]
 have hnf:t.heap.objs.size∉fp:=fun hm=>s3_ _ (hfp _ hm)
 refine wpAny_pure ⟨plainId_quiet q8_ _,jmb_ W bt hc t.heap.objs.size hnf d (W.frame _ _ _ hst fun b _ o e=>pf_ _ e) (pq_ _ rfl) (fun hn g tk kk=>?_) fun hn v g tk hv kk=>?_⟩
 ·exact q0 hn g tk fun b o h1 e=>kk b o h1 (p3_ (pu_ e)) (pf_ _ e)
 ·exact q1 hn v g tk hv fun b o h1 e=>kk b o h1 (p3_ (pu_ e)) (pf_ _ e)
end
def jzn_ (ta tb:TE):TE:=fun σ H Q=>ta σ H fun v H1=>tb σ H1 fun d H2=>∃(p:Addr) (ns:List Int),v=.ref p/\H2 p=some (.lst (ns.map V.int))/\(ns=[]->Q d H2)/\∀ m,m∈ns->(∀ n∈ns,n<=m)->Q (.int m) H2
theorem jzy_ {ta tb:TE} {σ:St} {H:Hp} {Q:VK} (h:ta σ H fun v H1=>tb σ H1 fun d H2=>∃(p:Addr) (ns:List Int),v=.ref p/\H2 p=some (.lst (ns.map V.int))/\(ns=[]->Q d H2)/\∀ m,m∈ns->(∀ n∈ns,n<=m)->Q (.int m) H2):jzn_ ta tb σ H Q:=h
section
variable {X:Cx}
theorem jwk_ {a b:Expr} {ta tb:TE} {p pos kpos:Pos} (hcalm:X.calm=true) (hg:Gl X "max") (hm:X.mg "max"=none) (ha:PE X a ta) (hb:PE X b tb) (hs:starEach [a] X.env=[(false,eval a X.env)]:=by rfl) :
  PE X (.Call (.Name "max" p) [a] [⟨some "default",b,kpos⟩] pos) (jzn_ ta tb):=by
 intro pins s σ H Q I h
 refine wpAny_Call_Name_kw (xs_ (u:=.builtin "max") I hg hm (by decide +kernel) ?_)
 refine PyProof.Rows.callWith_kw ?_ (by rw[hs];rfl) (by rw[hs];rfl)
 rw[hs]
 show wpAny _ _ (spliced ((false,eval a X.env)::backTo pos (starEach [] X.env))) _ _ s
 refine qy_ (thn (ha pins s σ H _ I h) fun u s1 ⟨x,H1,I1,ru,q1⟩=>rl_ ?_)
 show wpAny _ _ (evalAll ((do let v <- eval b X.env;standAt pos;pure v)::[])) _ _ s1
 refine wpAny_evalAll_cons (wpAny_bind (thn (hb pins s1 σ H1 _ I1 q1) fun u2 s2 ⟨y,H2,I2,ry,l,ns,ex,el,q0,q2⟩=>wpAny_bind (wpAny_standAt (wpAny_pure (wpAny_evalAll_nil ?_)))))
 subst ex
 cases ru
 show wpAny _ _ (call (.builtin "max") [.ref l] (dKw u2)) _ _ s2
 obtain⟨its,rv,pl,hz⟩:=I2.list (SqL.of (K:=X.K) el)
 have hlen:=rv.length
 rw[pc_] at hlen
 have hlt:l < s2.heap.objs.size:=by obtain⟨o,_,ho,_⟩:=pl;exact pu_ ho
 have hval:∀(i:Nat) (v:Value),its.toArray[i]?=some v->∃ t,v=.int (ns.getD i 0) t:=fun i v hv=>by
  have hv':its[i]?=some v:=by simpa using hv
  have hil:i < its.length:=(pl_.mp hv').1
  obtain⟨w',hw,t,rfl⟩:=rv.get (i:=i) (x:=V.int (ns.getD i 0)) (by rw[pm_];simp[pe_,show i < ns.length by omega])
  rw[hv'] at hw
  cases hw
  exact⟨t,rfl⟩
 have f1:=I2.fpOk (H':=H2) (b:=s2.heap.objs.size) (pg_ _) (I2.hok.fresh (pg_ _))
 have isl:s2.heap.IsList l its.toArray:=by
  obtain⟨o,n,e,hc,hd,hx⟩:=pl
  exact⟨o,e,hc,n,hx⟩
 have I3:Inv X pins σ H2 { s2 with heap:=s2.heap.push { cls:=.type "list_iterator",data:=.fields #[.ref l,.int 0 0] },toks:=s2.toks }:=I2.kept fun b u q=>pf_ _ q
 refine jqu_ (wpAny_pyIter_list isl ?_)
 refine⟨s2.heap.objs.size,_,_,_,_,_,_,rfl,Walks.list (A:=X.A.in1) (show X.A.in1.handled=none from I2.ok.hd hcalm) s2.heap.objs.size l (p3_ hlt) its.toArray,⟨⟨_,pq_ _ rfl,rfl,rfl⟩,?_⟩,?_,CmpOf.ints_gt (fun i=>ns.getD i 0) hval,fun hn g tk k=>?_,fun hn v g tk hv k=>?_⟩
 ·obtain⟨o,ho,q⟩:=isl
  exact⟨o,pf_ _ ho,q⟩
 ·intro b hb
  have hsz:(s2.heap.push { cls:=.type "list_iterator",data:=.fields #[.ref l,.int 0 0] }).objs.size=s2.heap.objs.size+1:=ra_ ..
  show b < (s2.heap.push _).objs.size
  rw[hsz]
  rcases pz_.mp hb with z | z
  ·rw[z];exact ri_ _
  ·have z':b=l:=by simpa using z
   rw[z'];exact w6_ hlt
 ·rw[pp_] at hn
  have hns:ns=[]:=List.eq_nil_of_length_eq_zero (by omega)
  exact⟨y,H2,I3.turned (t':=tk) (it:=s2.heap.objs.size) (fun b o hb q=>k b o (by simpa using hb) q) f1.1 f1.2.1 f1.2.2.2.1 f1.2.2.2.2.1 f1.2.2.2.2.2,ry,q0 hns⟩
 ·obtain⟨t,rfl⟩:=hval _ _ hv
  rw[pp_] at hn ⊢
  obtain⟨b1,b2⟩:=argBest_gt (fun i=>ns.getD i 0) (its.length - 1)
  refine⟨.int _,H2,I3.turned (t':=tk) (it:=s2.heap.objs.size) (fun b o hb q=>k b o (by simpa using hb) q) f1.1 f1.2.1 f1.2.2.2.1 f1.2.2.2.2.1 f1.2.2.2.2.2,⟨_,rfl⟩,q2 _ ?_ fun n hn2=>?_⟩
  ·rw[pe_,pa_ (show argBest _ _ < ns.length by omega)]
   exact pw_ _
  ·obtain⟨j,hj,rfl⟩:=List.getElem_of_mem hn2
   have:=b2 j (by omega)
   rw[pe_ (i:=j),pa_ hj] at this
   exact this
end
end L2
namespace L2
open PySem PySem.Spec PyProof.Rows PySem.Builtin PySem.Builtin.Str
theorem jkg_ {s:Shared} {sep:Str} {Q:Value->Shared->Prop}:∀(l:List (Str×Tok)),((te_ sep (l.map (·.1))).length<=sizeLine/\∀ t' k,s.toks<=k->Q (.str (te_ sep (l.map (·.1))) t') { s with toks:=k })->(joinMade sep l).post Q s
 | [],h=>⟨h.1,h.2 _ _ (sv_ _)⟩
 | [p],h=>h.2 p.2 s.toks (pg_ _)
 | _::_::_,h=>⟨h.1,h.2 _ _ (sv_ _)⟩
section
variable {prog:Program} {w:World} {A:Around} {E:Value->Shared->Prop} {s:Shared} {x:Str} {t:Tok} {Q:Value->Shared->Prop}
theorem jjg_ {D:Addr} {items:Array Value} {ys:List Str} (hl:s.heap.IsList D items) (hi:StrsAre items.toList ys) (hok:(ys.map (·.length)).sum+ys.length * x.length<=16777216)
  (h:∀ t' k,s.toks<=k->Q (.str (te_ x ys) t') { s with toks:=k }):wpAny (model prog w) A (call (.builtin "str.join") [.str x t,.ref D]) Q E s:=by
 obtain⟨l,hv,ht⟩:=strsAre_values hi
 have e:items=(strValues l).toArray:=by rw[<- hv]
 subst e
 have hok':=joinOk_of hok
 subst ht
 unfold JoinOk at hok'
 rw[Bool.not_eq_true'] at hok'
 exact call_meets F.slot_str_join (typeIs_str _ _ _) F.entry_str_join (F.args_str_join_2 _ _) (meets_str_join_list x t D l hok') ⟨hl,jkg_ l ⟨joinFit_length hok',h⟩⟩
end
def tJR (i:Nat) (sep a b:Str):TE:=fun σ H Q=>tVar i σ H fun x H1=>∃(p:Addr) (ys:List Str),x=.ref p/\H1 p=some (.lst (ys.map V.str))/\(ys.map (·.length)).sum+ys.length * sep.length<=100000/\Q (.str (lm_ (te_ sep ys) a b)) H1
theorem x4_:∀{ys:List Str} {us:List Value},Vals (ys.map V.str) us->StrsAre us ys
 | [],_,h=>by cases h;exact .nil
 | y::ys,_,h=>by
  cases h with
  | cons h1 h2 =>
   obtain⟨t,rfl⟩:=h1
   exact .cons y t (x4_ h2)
section
variable {X:Cx}
set_option maxHeartbeats 2000000 in
theorem jju_ {i:Nat} {sep a b x:Str} {j0 ja jb:Nat} {p0 ap1 pn cp1 ap2 pa pb cp2:Pos} (hN:X.N[i]?=some x) (hv:Vis X.env.scope x) (hd:(x == ("__debug__":Str))=false) (hcd:(x == ("__classdict__":Str))=false)
  (hab:(a == b)=false) (hb:b.length=0) (ha:0 < a.length)
  (m1:M1 X (.Constant (.str sep) j0 p0) "join" ap1 (.Name x pn) cp1) (m2:M2 X (.Call (.Attribute (.Constant (.str sep) j0 p0) "join" ap1) [.Name x pn] [] cp1) "replace" ap2 (.Constant (.str a) ja pa) (.Constant (.str b) jb pb) cp2) :
  PE X (.Call (.Attribute (.Call (.Attribute (.Constant (.str sep) j0 p0) "join" ap1) [.Name x pn] [] cp1) "replace" ap2) [.Constant (.str a) ja pa,.Constant (.str b) jb pb] [] cp2) (tJR i sep a b):=by
 intro pins s σ H Q I h
 obtain⟨v,e,p,ys,rfl,ep,hz,q⟩:=h
 refine wpAny_Call_method m2.base m2.few m2.line qk_ PySem.F.slot_str_replace PySem.F.type_str_replace ?_
 refine wpAny_Call_method m1.base m1.few m1.line qk_ sz_ s0_ (tk_ ⟨typeIs_str _ _ _,fun c q=>(nomatch q),?_⟩)
 rw[m1.trees]
 have I1:Inv X pins σ H { s with toks:=s.toks+1 }:=I.tok _
 obtain⟨m,hn,hl⟩:=I1.loc
 obtain⟨u,r,l⟩:=hl i x _ hN e hv
 cases (show u=Value.ref p from r)
 obtain⟨z,its,n,rr,hll,eo⟩:=I1.lstM ep
 refine r3_ rfl (s9_ (qy_ ?_))
 have fin:∀{Q':Value->Shared->Prop} {E':Value->Shared->Prop},Q' (.ref p) { s with toks:=s.toks+1 }->wpAny (model X.prog X.w) X.A (eval (.Name x pn) X.env) Q' E' { s with toks:=s.toks+1 }:=fun{Q' E'} fin=>by
  rcases l with ⟨hk,hm⟩ | ⟨hk,c,hc,hcell⟩
  ·exact wpAny_Name (wpAny_loadName_local I1.ok.kind hk hn hm fin) hd
  ·rcases hk with hk | hk
   ·exact wpAny_Name (wpAny_loadName_cell I1.ok.kind hk hc hcell fin) hd
   ·exact wpAny_Name (wpAny_loadName_free I1.ok.kind hk hc hcell fin hcd) hd
 refine fin (rl_ ?_)
 have hlen:(te_ sep ys).length<=sizeLine:=by
  have hok:=joinOk_of (sep:=sep) (ys:=ys) (by omega)
  unfold JoinOk at hok
  rw[Bool.not_eq_true'] at hok
  obtain⟨l',_,ht⟩:=strsAre_values (x4_ (by simpa using rr))
  subst ht
  exact joinFit_length hok
 have hsl:sizeLine<=16777216:=by decide
 refine jjg_ (items:=its.toArray) ⟨_,eo,rfl,_,rfl⟩ (x4_ (by simpa using rr)) (by omega) fun t' k hk=>⟨typeIs_str _ _ _,fun c q=>(nomatch q),?_⟩
 have hk:1<=k:=by have:s.toks+1<=k:=hk;omega
 rw[m2.trees]
 refine r3_ rfl (s9_ (qy_ (tk_ (qy_ (tk_ (rl_ ?_))))))
 refine SC.replace (by show k≠0;omega) (by show k+1≠0;omega) (by show k≠k+1;omega) hab (by rw[hb,l3_];omega) fun t2 k2=>⟨.str _,H,I.tok _,⟨_,rfl⟩,q⟩
end
end L2
namespace L2
open PySem PySem.Spec PyProof.Rows PySem.Builtin PySem.Builtin.Str PySem.StrLaws
def sp (c:Nat):Bool:=kz_ c
def swF:List Nat->Nat->Option Nat->List (Nat×Nat)
 | [],_,none=>[]
 | [],cur,some b=>[(b,cur)]
 | c::r,cur,some b=>if sp c=true then (b,cur)::swF r (cur+1) none else swF r (cur+1) (some b)
 | c::r,cur,none=>if sp c=true then swF r (cur+1) none else swF r (cur+1) (some cur)
theorem jio_ (l:List Nat) (limit:Nat) (hl:l.length < limit):∀(m cur:Nat) (words:Array (Nat×Nat)) (start:Option Nat),cur+m=l.length->words.size<=cur ->
  swEnd (S l) (forIn (rg_ cur m) ((none,words,start):SwSt) (swBody (S l) limit)).run=words.toList++swF (l.drop cur) cur start
 | 0,cur,words,start,hm,hw=>by
  have hc:cur=l.length:=by omega
  subst hc
  rw[List.drop_length]
  cases start with
  | none=>simp[swEnd,swF]
  | some b=>simp[swEnd,swF,js_]
 | m+1,cur,words,start,hm,hw=>by
  have hlt:cur < l.length:=by omega
  rw[r6_,si_,rm_ hlt]
  have hg:(S l).cps.getD cur 0=l[cur]:=by
   unfold S;simp[hlt]
  have hsz:¬ ((words.size == limit)=true):=by rw[beq_iff_eq];omega
  unfold swBody
  simp only[hsz,if_false,hg]
  cases start with
  | none =>
   cases hsp:kz_ l[cur] with
   | false =>
    have e:swF (l[cur]::l.drop (cur+1)) cur none=swF (l.drop (cur+1)) (cur+1) (some cur):=by simp only[swF,sp,hsp];rfl
    rw[e]
    exact jio_ l limit hl m (cur+1) words (some cur) (by omega) (by omega)
   | true =>
    have e:swF (l[cur]::l.drop (cur+1)) cur none=swF (l.drop (cur+1)) (cur+1) none:=by simp only[swF,sp,hsp];rfl
    rw[e]
    exact jio_ l limit hl m (cur+1) words none (by omega) (by omega)
  | some b =>
   cases hsp:kz_ l[cur] with
   | false =>
    have e:swF (l[cur]::l.drop (cur+1)) cur (some b)=swF (l.drop (cur+1)) (cur+1) (some b):=by simp only[swF,sp,hsp];rfl
    rw[e]
    exact jio_ l limit hl m (cur+1) words (some b) (by omega) (by omega)
   | true =>
    have e:swF (l[cur]::l.drop (cur+1)) cur (some b)=(b,cur)::swF (l.drop (cur+1)) (cur+1) none:=by simp only[swF,sp,hsp];rfl
    rw[e]
    have:=jio_ l limit hl m (cur+1) (words.push (b,cur)) none (by omega) (by rw[Array.size_push];omega)
    rw[Array.toList_push,qw_] at this
    exact this
theorem sw_all (l:List Nat):spaceWords (S l) ((S l).length+1)=swF l 0 none:=by
 rw[sw_eq,js_]
 have:=jio_ l (l.length+1) (ri_ _) l.length 0 #[] none (by omega) (pg_ _)
 simpa using this
def ju_:List (List Nat)->List Nat
 | []=>[]
 | [w]=>w
 | w::r=>w++32::ju_ r
def NoSp (w:List Nat):Prop:=w≠[]/\∀ c∈w,sp c=false
theorem jjs_:∀(w r:List Nat) (cur b:Nat),(∀ c∈w,sp c=false)->swF (w++r) cur (some b)=swF r (cur+w.length) (some b)
 | [],r,cur,b,_=>rfl
 | c::w,r,cur,b,h=>by
  have hc:=h c p5_
  rw[q3_]
  simp only[swF]
  rw[if_neg (by rw[hc];exact ph_),jjs_ w r (cur+1) b fun x hx=>h x (pt_ _ hx),pr_]
  congr 1
  omega
theorem jgg_ {w r:List Nat} {cur:Nat} (h:NoSp w):swF (w++r) cur none=swF r (cur+w.length) (some cur):=by
 obtain⟨h1,h2⟩:=h
 cases w with
 | nil=>exact absurd rfl h1
 | cons c w =>
  have hc:=h2 c p5_
  rw[q3_]
  simp only[swF]
  rw[if_neg (by rw[hc];exact ph_),jjs_ w r (cur+1) cur fun x hx=>h2 x (pt_ _ hx),pr_]
  congr 1
  omega
theorem sp32:sp 32=true:=by decide +kernel
theorem jja_:∀(ws:List (List Nat)) (pre:List Nat),(∀ w∈ws,NoSp w)->(swF (ju_ ws) pre.length none).map (fun p=>((pre++ju_ ws).drop p.1).take (p.2 - p.1))=ws
 | [],pre,_=>rfl
 | [w],pre,h=>by
  have hw:=h w (by simp)
  have e:swF (ju_ [w]) pre.length none=[(pre.length,pre.length+w.length)]:=by
   show swF w pre.length none=_
   have:=jgg_ (r:=[]) (cur:=pre.length) hw
   rw[py_] at this
   rw[this];rfl
  rw[e]
  simp[ju_]
 | w::v::r,pre,h=>by
  have hw:=h w (by simp)
  have ih:=jja_ (v::r) (pre++w++[32]) fun x hx=>h x (pt_ _ hx)
  have ej:ju_ (w::v::r)=w++32::ju_ (v::r):=rfl
  have e:swF (ju_ (w::v::r)) pre.length none=(pre.length,pre.length+w.length)::swF (ju_ (v::r)) (pre.length+w.length+1) none:=by
   rw[ej,jgg_ hw]
   simp only[swF]
   rw[if_pos sp32]
  rw[e,pj_]
  have h1:((pre++ju_ (w::v::r)).drop pre.length).take (pre.length+w.length - pre.length)=w:=by
   rw[List.drop_left,ej,rt_,lf_]
  have h2:pre++ju_ (w::v::r)=pre++w++[32]++ju_ (v::r):=by rw[ej];simp
  have h3:(pre++w++[32]).length=pre.length+w.length+1:=by simp;omega
  rw[h3,<- h2] at ih
  rw[h1,ih]
theorem jcs_ {ws:List (List Nat)} (h:∀ w∈ws,NoSp w):wordsOf (S (ju_ ws))=ws.map S:=by
 unfold wordsOf
 rw[sw_all]
 have:=jja_ ws [] h
 simp only[wi_,p1_] at this
 conv=>rhs;rw[<- this]
 rw[qn_]
 refine rz_ fun p _=>?_
 obtain⟨i,j⟩:=p
 show strSub (S (ju_ ws)) i j=S (((ju_ ws).drop i).take (j - i))
 unfold strSub S
 simp[sc_]
def strk:List Nat->List Nat
 | []=>[]
 | [c]=>[c]
 | a::b::r=>if a=45/\b=32 then strk r else a::strk (b::r)
def occF:List Nat->Nat->List Nat
 | a::b::r,i=>if a=45/\b=32 then i::occF r (i+2) else occF (b::r) (i+1)
 | _,_=>[]
theorem jrt_ (l:List Nat) (i:Nat):subAt (S l) (S [45,32]) i=decide ((l.drop i).take 2=[45,32]):=by
 have e:(S l).cps.extract i (i+(S [45,32]).length)=((l.drop i).take 2).toArray:=by
  have h2:(S [45,32]).length=2:=rfl
  rw[h2]
  unfold S
  simp[sc_]
 unfold subAt
 rw[e]
 by_cases h:(l.drop i).take 2=[45,32]
 ·rw[h,decide_eq_true rfl];rfl
 ·rw[decide_eq_false h,beq_eq_false_iff_ne]
  intro z
  exact h (by have:=congrArg kp_ z;simpa [S] using this)
theorem jko_ (l:List Nat) (limit:Nat) (hl:l.length < limit):∀(m cur:Nat) (found:Array Nat) (free:Nat),cur+m=l.length+1->found.size<=cur->free<=cur ->
  (forIn (rg_ cur m) (found,free) (occBody (S l) (S [45,32]) l.length limit)).run.fst.toList=found.toList++occF (l.drop cur) cur
 | 0,cur,found,free,hm,_,_=>by
  rw[kn_ (by omega)]
  simp[occF]
 | m+1,cur,found,free,hm,hs,hf=>by
  have h2:(S [45,32]).length=2:=rfl
  rw[r6_,si_]
  unfold occBody
  rw[jrt_,h2]
  by_cases hc:(l.drop cur).take 2=[45,32]
  ·obtain⟨r,hr⟩:∃ r,l.drop cur=45::32::r:=by
    match e:l.drop cur,hc with
    | a::b::r,hc =>
     simp only[List.take_succ_cons,wz_,r0_,and_true] at hc
     exact⟨r,by rw[hc.1,hc.2]⟩
    | [],hc=>simp at hc
    | [a],hc=>simp at hc
   have hlen:cur+2<=l.length:=by
    have:=congrArg sm_ hr
    rw[px_] at this
    simp only[pr_] at this
    omega
   rw[if_pos ⟨⟨⟨by show found.size < limit;omega,hf⟩,hlen⟩,decide_eq_true hc⟩]
   obtain⟨m',rfl⟩:∃ m',m=m'+1:=⟨m - 1,by omega⟩
   show (forIn (rg_ (cur+1) (m'+1)) (found.push cur,cur+2) (occBody (S l) (S [45,32]) l.length limit)).run.fst.toList=_
   rw[r6_,si_]
   unfold occBody
   rw[if_neg (fun z=>by have:cur+2<=cur+1:=z.1.1.2;omega)]
   show (forIn (rg_ (cur+1+1) m') (found.push cur,cur+2) (occBody (S l) (S [45,32]) l.length limit)).run.fst.toList=_
   have:=jko_ l limit hl m' (cur+2) (found.push cur) (cur+2) (by omega) (by rw[Array.size_push];omega) (pg_ _)
   rw[this,hr]
   have hd:l.drop (cur+2)=r:=by
    rw[<- t2_,hr];rfl
   rw[hd]
   simp[occF]
  ·rw[if_neg (fun z=>hc (of_decide_eq_true z.2))]
   show (forIn (rg_ (cur+1) m) (found,free) (occBody (S l) (S [45,32]) l.length limit)).run.fst.toList=_
   rw[jko_ l limit hl m (cur+1) found free (by omega) (by omega) (by omega)]
   congr 1
   have hd:l.drop (cur+1)=(l.drop cur).drop 1:=by rw[t2_]
   rw[hd]
   match e:l.drop cur with
   | []=>simp[occF]
   | [a]=>simp[occF]
   | a::b::r =>
    rw[e] at hc
    have hne:¬ (a=45/\b=32):=fun z=>hc (by rw[z.1,z.2];rfl)
    simp only[occF,wl_,rd_]
    rw[if_neg hne]
theorem jxu_ (l:List Nat):occurrences (S l) (S [45,32]) 0 (S l).length ((S l).length+1)=occF l 0:=by
 rw[occ_eq,js_]
 have:=jko_ l (l.length+1) (ri_ _) (l.length+1) 0 #[] 0 (by omega) (pg_ _) (pg_ _)
 simpa using this
def cat (T:List Nat):Nat->List Nat->List Nat
 | st,[]=>T.drop st
 | st,c::cs=>(T.drop st).take (c - st)++cat T (c+2) cs
theorem jww_ (T:List Nat):∀(k pos st:Nat),T.length - pos=k->st<=pos->pos<=T.length->cat T st (occF (T.drop pos) pos)=(T.drop st).take (pos - st)++strk (T.drop pos):=by
 intro k
 induction k using k0_ with
 | _ k ih =>
  intro pos st hk h1 h2
  match e:T.drop pos with
  | [] =>
   have:pos=T.length:=by
    have:=congrArg sm_ e
    rw[px_] at this
    simp at this
    omega
   simp only[occF,cat,strk,py_]
   rw[rj_ (by rw[px_];omega)]
  | [c] =>
   simp only[occF,cat,strk]
   have h3:T.drop st=(T.drop st).take (pos - st)++(T.drop st).drop (pos - st):=(s1_ _ _).symm
   rw[t2_,show st+(pos - st)=pos by omega,e] at h3
   exact h3
  | a::b::r =>
   have hlen:pos+2<=T.length:=by
    have:=congrArg sm_ e
    rw[px_] at this
    simp only[pr_] at this
    omega
   by_cases hc:a=45/\b=32
   ·simp only[occF,strk]
    rw[if_pos hc,if_pos hc]
    simp only[cat]
    have hd:T.drop (pos+2)=r:=by rw[<- t2_,e];rfl
    have:=ih (T.length - (pos+2)) (by omega) (pos+2) (pos+2) rfl (pg_ _) hlen
    rw[hd] at this
    rw[this]
    simp
   ·simp only[occF,strk]
    rw[if_neg hc,if_neg hc]
    have hd:T.drop (pos+1)=b::r:=by rw[<- t2_,e];rfl
    have:=ih (T.length - (pos+1)) (by omega) (pos+1) st rfl (by omega) (by omega)
    rw[hd] at this
    rw[this]
    have h3:(T.drop st).take (pos+1 - st)=(T.drop st).take (pos - st)++[a]:=by
     rw[show pos+1 - st=pos - st+1 by omega,qb_,List.getElem?_drop,show st+(pos - st)=pos by omega]
     have:T[pos]?=some a:=by
      have:=congrArg List.head? e
      rw[List.head?_drop] at this
      exact this
     rw[this];rfl
    rw[h3]
    simp
theorem jpk_ (ps:List Str):∀(acc:Array Nat),(ps.foldl (fun acc p=>acc++(S []).cps++p.cps) acc).toList=acc.toList++(ps.map fun p=>p.cps.toList).flatten:=by
 induction ps with
 | nil=>intro acc;simp
 | cons p ps ih =>
  intro acc
  rw[to_,ih]
  simp[S]
theorem jeu_ (T:List Nat):∀(cuts:List Nat) (st:Nat),(((st::cuts.map (·+2)).zip (cuts++[T.length])).map fun p=>(strSub (S T) p.1 p.2).cps.toList).flatten=cat T st cuts
 | [],st=>by
  simp only[p8_,wi_,wt_,List.zip_nil_right,pj_,q4_,List.flatten_nil,py_,cat]
  unfold strSub S
  simp[sc_]
  rw[rj_ (by rw[px_];exact pg_ _)]
 | c::cs,st=>by
  have ih:=jeu_ T cs (c+2)
  simp only[pj_,q3_,wt_,q4_,cat]
  rw[ih]
  congr 1
  unfold strSub S
  simp[sc_]
theorem jhu_ (l:List Nat):lm_ (S l) (S [45,32]) (S [])=S (strk l):=by
 have hc:=jww_ l l.length 0 0 rfl (pg_ _) (qe_ _)
 simp only[rd_,ws_,wz_,wi_] at hc
 unfold lm_
 rw[jxu_]
 have h2:(S [45,32]).length=2:=rfl
 rw[h2]
 cases e:occF l 0 with
 | nil =>
  rw[e] at hc
  simp only[cat,rd_] at hc
  rw[<- hc]
  simp
 | cons c cs =>
  rw[e] at hc
  rw[if_neg (by simp)]
  rw[<- hc,<- jeu_]
  unfold glued partsBetween
  rw[js_]
  simp only[pj_,q3_,wt_,wl_,rd_,List.headD_cons,q4_]
  generalize ((c+2)::cs.map (·+2)).zip (cs++[l.length])=ps
  have:=jpk_ (ps.map fun p=>strSub (S l) p.1 p.2) (strSub (S l) 0 c).cps
  rw[qn_] at this
  unfold S
  congr 1
  apply Array.ext'
  exact this
end L2
namespace L2
open PySem PySem.Spec PyProof.Rows PySem.Builtin PySem.Builtin.Str PySem.StrLaws
def jic_:V->List V->Hp->VK->Prop:=fun x vs H Q=>match x,vs with
 | .str z,[]=>z.length<=sizeLine/\(wordsOf z).length<=sizeLine/\∀ p,H p=none->Q (.ref p) (upd H p (.lst ((wordsOf z).map V.str)))
 | _,_=>False
theorem jrq_ {l:List Nat} {ws:List (List Nat)} {H:Hp} {Q:VK} (e:l=ju_ ws) (hw:∀ w∈ws,NoSp w) (h1:l.length<=1000000) (h2:ws.length<=1000000) (q:∀ p,H p=none->Q (.ref p) (upd H p (.lst (ws.map fun w=>V.str (S w))))):jic_ (.str (S l)) [] H Q:=by
 subst e
 refine⟨szn (by rw[js_];exact h1),?_,?_⟩
 ·rw[jcs_ hw,pc_];exact szn h2
 ·rw[jcs_ hw,qn_];exact q
theorem v3_:∀(k:Nat) (ys:List Str),Vals (ys.map V.str) (strsFrom k ys)
 | _,[]=>by first | exact .nil | (simp only[strsFrom];exact .nil)
 | k,y::ys=>by
  have:=v3_ (k+1) ys
  first | exact .cons ⟨_,rfl⟩ this | (simp only[strsFrom];exact .cons ⟨_,rfl⟩ this)
section
variable {X:Cx}
theorem jyf_ {X:Cx}:MtR X "str.split" jic_:=fun pins s σ H x xs v us Q I rx rs h=>by
 unfold jic_ at h
 split at h
 ·rename_i z
  obtain⟨h1,h2,q⟩:=h
  obtain⟨t,rfl⟩:=rx
  cases rs
  have h2':(spaceWords z (z.length+1)).length<=sizeLine:=by unfold wordsOf at h2;rw[pc_] at h2;exact h2
  refine call_meets F.slot_str_split (typeIs_str _ _ _) F.entry_str_split (F.args_str_split_1 _) (meets_str_split_space z t h1 h2') ?_
  have hfr:=I.hok.fresh (pg_ s.heap.objs.size)
  cases hw:spaceWords z (z.length+1) == [(0,z.length)]
  ·simp only[ss_,if_false]
   refine⟨.ref s.heap.objs.size,_,I.laid (a:=s.heap.objs.size) (o:=.lst ((wordsOf z).map V.str)) (fun b u e=>pf_ _ e) (pg_ _) ?_,rfl,q _ hfr⟩
   exact⟨by rw[pc_];exact h2,_,_,v3_ _ _,pq_ _ rfl⟩
  ·simp only[if_true]
   have hwz:wordsOf z=[z]:=by
    unfold wordsOf
    rw[eq_of_beq hw]
    simp only[pj_,p8_]
    congr 1
    obtain⟨z⟩:=z
    unfold strSub
    show Str.mk (z.extract 0 z.size)=_
    simp
   rw[hwz] at q
   refine⟨.ref s.heap.objs.size,_,I.laid (a:=s.heap.objs.size) (o:=.lst [.str z]) (fun b u e=>pf_ _ e) (pg_ _) ?_,rfl,q _ hfr⟩
   exact⟨by show 1<=sizeLine;decide,_,_,.cons ⟨t,rfl⟩ .nil,pq_ _ rfl⟩
 ·exact h.elim
end
end L2
namespace L2
open PySem PySem.Spec PyProof.Rows
abbrev Pi4:=Nat×List Nat×List Nat×List Nat
def p0:Pi4:=(0,[],[],[])
def pAt (ps:List Pi4) (k:Nat):Pi4:=ps.getD k p0
def zr_ (ps:List Pi4) (k b:Nat):List Nat:=(pAt ps k).2.1.drop b++(pAt ps k).2.2.1
def at_ (n b k:Nat):Nat:=if k=n then b else 0
def zl_ (ps:List Pi4) (n b:Nat):Nat->List (List Nat)
 | 0=>[]
 | k+1=>if n<=k then zl_ ps n b k++[zr_ ps k (at_ n b k)] else []
theorem yi_ {ps:List Pi4} {n b:Nat}:∀{k:Nat},k<=n->zl_ ps n b k=[]
 | 0,_=>rfl
 | k+1,h=>by simp only[zl_];rw[if_neg (by omega)]
theorem ym_ {ps:List Pi4} {n b k:Nat} (h:n<=k):zl_ ps n b (k+1)=zl_ ps n b k++[zr_ ps k (at_ n b k)]:=by simp only[zl_];rw[if_pos h]
theorem jjm_ {ps:List Pi4} {n b k:Nat} (h:n < k):zl_ ps n b k≠[]:=by
 obtain⟨j,rfl⟩:∃ j,k=j+1:=⟨k - 1,by omega⟩
 rw[ym_ (by omega)]
 simp
theorem jdk_:∀{ws:List (List Nat)} {x:List Nat},ws≠[]->ju_ (ws++[x])=ju_ ws++32::x
 | [],x,h=>absurd rfl h
 | [w],x,_=>rfl
 | w::v::r,x,_=>by
  have ih:=jdk_ (ws:=v::r) (x:=x) (by simp)
  show ju_ (w::(v::r++[x]))=_
  have e:ju_ (w::(v::r++[x]))=w++32::ju_ (v::r++[x]):=rfl
  rw[e,ih]
  show _=w++32::ju_ (v::r)++32::x
  simp
def j3_ (ps:List Pi4) (n b k:Nat):List Nat:=if k<=n then [] else ju_ (zl_ ps n b k)++[32]
theorem xx_ {ps:List Pi4} {n b k:Nat} {x:List Nat}:ju_ (zl_ ps n b k++[x])=j3_ ps n b k++x:=by
 unfold j3_
 by_cases h:k<=n
 ·rw[if_pos h,yi_ h];rfl
 ·rw[if_neg h,jdk_ (jjm_ (by omega))]
  simp
def za_ (ps:List Pi4) (n b:Nat) (e:Nat×Nat):List Nat:=ju_ (zl_ ps n b e.1++(if 0 < e.2 then [((pAt ps e.1).2.1.take e.2).drop (at_ n b e.1)++[45]] else []))
def zg_ (ps:List Pi4) (wd n b:Nat) (e:Nat×Nat):Bool:=decide ((za_ ps n b e).length<=wd)
theorem yk_ {ps:List Pi4} {n b k:Nat} (h:n<=k):za_ ps n b (k+1,0)=j3_ ps n b k++zr_ ps k (at_ n b k):=by
 unfold za_
 rw[if_neg (by show ¬ 0 < 0;omega),py_,ym_ h,xx_]
theorem y7_ {ps:List Pi4} {n b k x:Nat} (h:0 < x):za_ ps n b (k,x)=j3_ ps n b k++(((pAt ps k).2.1.take x).drop (at_ n b k)++[45]):=by
 unfold za_
 rw[if_pos h,xx_]
theorem yn_ {ps:List Pi4} {n b k:Nat} (h:n < k):j3_ ps n b k=za_ ps n b (k,0)++[32]:=by
 unfold za_ j3_
 rw[if_neg (by omega),if_neg (by show ¬ 0 < 0;omega),py_]
theorem jdl_ {ps:List Pi4} {n b k:Nat} (h:n<=k):j3_ ps n b (k+1)=j3_ ps n b k++zr_ ps k (at_ n b k)++[32]:=by
 rw[yn_ (by omega),yk_ h]
def here (ps:List Pi4) (n b k:Nat):List (Nat×Nat):=(((pAt ps k).2.2.2.filter fun x=>decide (n < k∨b < x)).map fun x=>(k,x))++[(k+1,0)]
def good (ps:List Pi4) (wd n b k:Nat):List (Nat×Nat):=(here ps n b k).filter (zg_ ps wd n b)
def yc_ (ps:List Pi4) (wd n b:Nat):Nat->Nat->List (Nat×Nat)
 | 0,_=>[]
 | f+1,k=>if k < ps.length then (if zg_ ps wd n b (k+1,0)=true then good ps wd n b k++yc_ ps wd n b f (k+1) else good ps wd n b k) else []
def ends (ps:List Pi4) (wd n b:Nat):List (Nat×Nat):=yc_ ps wd n b (ps.length - n) n
theorem jpd_ {ps:List Pi4} {wd n b k:Nat} (h:zg_ ps wd n b (k+1,0)=true):∃ r,good ps wd n b k=r++[(k+1,0)]:=by
 unfold good here
 rw[qf_]
 refine⟨_,congrArg _ ?_⟩
 rw[qp_,if_pos h];rfl
theorem vr_ {ps:List Pi4} {wd n b:Nat}:∀(j k:Nat),(∀ i,k<=i->i < k+j->i < ps.length/\zg_ ps wd n b (i+1,0)=true)->∀ f,j<=f->∃ r,yc_ ps wd n b f k=r++yc_ ps wd n b (f - j) (k+j)/\(j=0->r=[])/\(0 < j->r.getLast?=some (k+j,0))
 | 0,k,_,f,_=>⟨[],rfl,fun _=>rfl,fun h=>absurd h (by omega)⟩
 | j+1,k,h,f,hf=>by
  obtain⟨f,rfl⟩:∃ f',f=f'+1:=⟨f - 1,by omega⟩
  obtain⟨h1,h2⟩:=h k (pg_ _) (by omega)
  obtain⟨r,e,e0,e1⟩:=vr_ j (k+1) (fun i a c=>h i (by omega) (by omega)) f (by omega)
  have e2:yc_ ps wd n b (f+1) k=good ps wd n b k++yc_ ps wd n b f (k+1):=by
   simp only[yc_];rw[if_pos h1,if_pos h2]
  refine⟨good ps wd n b k++r,?_,fun z=>by omega,fun _=>?_⟩
  ·rw[e2,e,qw_,show f+1 - (j+1)=f - j by omega,show k+1+j=k+(j+1) by omega]
  ·rcases qh_ j with z | z
   ·obtain⟨g,hg⟩:=jpd_ h2
    rw[e0 z,py_,hg,wb_,z];rfl
   ·have:=e1 z
    rw[wb_,this,show k+1+j=k+(j+1) by omega];rfl
theorem jhh_ {ps:List Pi4} {wd n b k:Nat} (hn:n<=k) (hk:k < ps.length) (hw:∀ i,n<=i->i < k->zg_ ps wd n b (i+1,0)=true) (hno:zg_ ps wd n b (k+1,0)=false) :
  ∃ r,ends ps wd n b=r++good ps wd n b k/\(n=k->r=[])/\(n < k->r.getLast?=some (k,0)):=by
 obtain⟨r,e,e0,e1⟩:=vr_ (ps:=ps) (wd:=wd) (n:=n) (b:=b) (k - n) n (fun i a c=>⟨by omega,hw i a (by omega)⟩) (ps.length - n) (by omega)
 refine⟨r,?_,fun z=>e0 (by omega),fun z=>by have:=e1 (by omega);rw[this,show n+(k - n)=k by omega]⟩
 unfold ends
 rw[e,show n+(k - n)=k by omega,show ps.length - n - (k - n)=ps.length - k - 1+1 by omega]
 simp only[yc_]
 rw[if_pos hk,if_neg (by rw[hno];exact ph_)]
theorem jti_ {ps:List Pi4} {wd n b:Nat} (hn:n < ps.length) (hw:∀ i,n<=i->i < ps.length->zg_ ps wd n b (i+1,0)=true):(ends ps wd n b).getLast?=some (ps.length,0):=by
 obtain⟨r,e,e0,e1⟩:=vr_ (ps:=ps) (wd:=wd) (n:=n) (b:=b) (ps.length - n) n (fun i a c=>⟨by omega,hw i a (by omega)⟩) (ps.length - n) (pg_ _)
 unfold ends
 rw[e,l4_]
 simp only[yc_,py_]
 rw[e1 (by omega),show n+(ps.length - n)=ps.length by omega]
inductive Prs (ps:List Pi4) (wd:Nat):Nat->Nat->List (List Nat)->Option Nat->Prop
 | done {n b:Nat}:ps.length<=n->Prs ps wd n b [] none
 | narrow {n b:Nat}:n < ps.length->ends ps wd n b=[]->Prs ps wd n b [] (some (pAt ps n).1)
 | line {n b:Nat} {e:Nat×Nat} {ls:List (List Nat)} {r:Option Nat}:n < ps.length->(ends ps wd n b).getLast?=some e->Prs ps wd e.1 e.2 ls r->Prs ps wd n b (za_ ps n b e::ls) r
theorem Prs.one {ps:List Pi4} {wd n b:Nat} {ls1 ls2:List (List Nat)} {r1 r2:Option Nat} (h1:Prs ps wd n b ls1 r1) (h2:Prs ps wd n b ls2 r2):ls1=ls2/\r1=r2:=by
 induction h1 generalizing ls2 r2 with
 | done h =>
  cases h2 with
  | done _=>exact⟨rfl,rfl⟩
  | narrow h' _=>omega
  | line h' _ _=>omega
 | narrow h he =>
  cases h2 with
  | done h'=>omega
  | narrow _ _=>exact⟨rfl,rfl⟩
  | line _ h' _=>rw[he] at h';cases h'
 | line h he _ ih =>
  cases h2 with
  | done h'=>omega
  | narrow _ h'=>rw[h'] at he;cases he
  | line _ h' h3 =>
   rw[he] at h'
   cases h'
   obtain⟨e1,e2⟩:=ih h3
   exact⟨by rw[e1],e2⟩
end L2
namespace L2
open PySem PySem.Spec PyProof.Rows
theorem jbd_ {p:Nat->Bool}:∀{l:List Nat} {x:Nat},l.Pairwise (· < ·)->x∈l->p x=true->(∀ y∈l,p y=true->y<=x)->(l.filter p).getLast?=some x
 | [],x,_,h,_,_=>nomatch h
 | a::l,x,hs,h,hp,hm=>by
  have hs2:=List.pairwise_cons.mp hs
  rcases pz_.mp h with rfl | h'
  ·have:l.filter p=[]:=sr_.mpr fun y hy hpy=>by
    have h1:=hs2.1 y hy
    have h2:=hm y (pt_ _ hy) hpy
    omega
   rw[qp_,if_pos hp,this];rfl
  ·have ih:=jbd_ hs2.2 h' hp fun y hy=>hm y (pt_ _ hy)
   rw[qp_]
   split
   ·rw[List.getLast?_cons,ih];rfl
   ·exact ih
def vf_ (ps:List Pi4) (wd n b k x:Nat):Bool:=decide (at_ n b k < x)&&decide ((j3_ ps n b k).length+(x - at_ n b k)+1<=wd)
def PsOk (ps:List Pi4):Prop:=∀ p∈ps,p.2.2.2.Pairwise (· < ·)/\∀ x∈p.2.2.2,0 < x/\x < p.2.1.length
theorem PsOk.at {ps:List Pi4} (h:PsOk ps) {k:Nat} (hk:k < ps.length):(pAt ps k).2.2.2.Pairwise (· < ·)/\∀ x∈(pAt ps k).2.2.2,0 < x/\x < (pAt ps k).2.1.length:=by
 have e:pAt ps k=ps[k]:=by unfold pAt;rw[pe_,pa_ hk];rfl
 rw[e]
 exact h _ (pw_ hk)
theorem jfg_ {ps:List Pi4} (hp:PsOk ps) {wd n b k:Nat} (hn:n<=k) (hk:k < ps.length) (hno:zg_ ps wd n b (k+1,0)=false):good ps wd n b k=((pAt ps k).2.2.2.filter (vf_ ps wd n b k)).map fun x=>(k,x):=by
 obtain⟨_,hg⟩:=hp.at hk
 unfold good here
 rw[qf_,qp_,if_neg (by rw[hno];exact ph_),ts_,py_,List.filter_map,List.filter_filter]
 congr 1
 refine List.filter_congr fun x hx=>?_
 obtain⟨h0,h1⟩:=hg x hx
 have hat:decide (n < k∨b < x)=decide (at_ n b k < x):=by
  unfold at_
  by_cases e:k=n
  ·rw[if_pos e]
   congr 1
   simp only[eq_iff_iff]
   omega
  ·rw[if_neg e]
   rw[decide_eq_true (by omega),decide_eq_true h0]
 unfold vf_
 rw[hat]
 by_cases c:at_ n b k < x
 ·rw[decide_eq_true c]
  have:zg_ ps wd n b (k,x)=decide ((j3_ ps n b k).length+(x - at_ n b k)+1<=wd):=by
   unfold zg_
   rw[y7_ h0,pd_,pd_,px_,p2_,wm_ (by omega)]
   rfl
  simp only[lu_,this,ls_,so_]
 ·rw[decide_eq_false c]
  simp
section
variable {ps:List Pi4} {wd n b k:Nat}
structure Stuck (ps:List Pi4) (wd n b k:Nat):Prop where
 ok:PsOk ps
 le:n<=k
 lt:k < ps.length
 fit:∀ i,n<=i->i < k->zg_ ps wd n b (i+1,0)=true
 no:zg_ ps wd n b (k+1,0)=false
theorem Stuck.gap (h:Stuck ps wd n b k) {x:Nat} (hx:x∈(pAt ps k).2.2.2) (hg:vf_ ps wd n b k x=true) (hm:∀ y∈(pAt ps k).2.2.2,vf_ ps wd n b k y=true->y<=x):(ends ps wd n b).getLast?=some (k,x):=by
 obtain⟨r,e,_,_⟩:=jhh_ h.le h.lt h.fit h.no
 rw[e,jfg_ h.ok h.le h.lt h.no,wb_,List.getLast?_map,jbd_ (h.ok.at h.lt).1 hx hg hm];rfl
theorem Stuck.none (h:Stuck ps wd n b k) (hm:∀ y∈(pAt ps k).2.2.2,vf_ ps wd n b k y=false):good ps wd n b k=[]:=by
 rw[jfg_ h.ok h.le h.lt h.no,sr_.mpr fun y hy=>by rw[hm y hy];exact ph_];rfl
theorem Stuck.back (h:Stuck ps wd n b k) (hm:∀ y∈(pAt ps k).2.2.2,vf_ ps wd n b k y=false) (hn:n < k):(ends ps wd n b).getLast?=some (k,0):=by
 obtain⟨r,e,_,e1⟩:=jhh_ h.le h.lt h.fit h.no
 rw[e,h.none hm,py_];exact e1 hn
theorem Stuck.narrow (h:Stuck ps wd n b k) (hm:∀ y∈(pAt ps k).2.2.2,vf_ ps wd n b k y=false) (hn:n=k):ends ps wd n b=[]:=by
 obtain⟨r,e,e0,_⟩:=jhh_ h.le h.lt h.fit h.no
 rw[e,h.none hm,e0 hn];rfl
end
structure Way (ps:List Pi4) (wd:Nat) (ls:List (List Nat)) (n b k:Nat):Prop where
 le:n<=k
 fit:∀ i,n<=i->i < k->zg_ ps wd n b (i+1,0)=true
 all:∀ ls' r,Prs ps wd n b ls' r->Prs ps wd 0 0 (ls++ls') r
theorem Way.start {ps:List Pi4} {wd:Nat}:Way ps wd [] 0 0 0:=⟨pg_ _,fun i _ h=>by omega,fun ls' r h=>h⟩
theorem Way.next {ps:List Pi4} {wd n b k:Nat} {ls:List (List Nat)} (h:Way ps wd ls n b k) (hf:zg_ ps wd n b (k+1,0)=true):Way ps wd ls n b (k+1) :=
 ⟨by have:=h.le;omega,fun i a c=>by
  by_cases e:i=k
  ·rw[e];exact hf
  ·exact h.fit i a (by omega),h.all⟩
theorem Way.stuck {ps:List Pi4} {wd n b k:Nat} {ls:List (List Nat)} (h:Way ps wd ls n b k) (hp:PsOk ps) (hk:k < ps.length) (hf:zg_ ps wd n b (k+1,0)=false):Stuck ps wd n b k:=⟨hp,h.le,hk,h.fit,hf⟩
theorem Way.line {ps:List Pi4} {wd n b k x:Nat} {ls:List (List Nat)} (h:Way ps wd ls n b k) (hn:n < ps.length) (he:(ends ps wd n b).getLast?=some (k,x)):Way ps wd (ls++[za_ ps n b (k,x)]) k x k :=
 ⟨pg_ _,fun i a c=>by omega,fun ls' r hr=>by
  have:=h.all _ _ (Prs.line hn he hr)
  rw[qw_]
  exact this⟩
theorem Way.narrow {ps:List Pi4} {wd n b k:Nat} {ls:List (List Nat)} (h:Way ps wd ls n b k) (hn:n < ps.length) (he:ends ps wd n b=[]):Prs ps wd 0 0 ls (some (pAt ps n).1):=by
 have:=h.all _ _ (Prs.narrow hn he)
 rw[py_] at this
 exact this
theorem Way.done {ps:List Pi4} {wd n b:Nat} {ls:List (List Nat)} (h:Way ps wd ls n b ps.length):Prs ps wd 0 0 (ls++(if n < ps.length then [za_ ps n b (ps.length,0)] else [])) none:=by
 by_cases c:n < ps.length
 ·rw[if_pos c]
  exact h.all _ _ (Prs.line c (jti_ c h.fit) (Prs.done (pg_ _)))
 ·rw[if_neg c]
  exact h.all _ _ (Prs.done (by omega))
end L2
namespace L2
open PySem PySem.Spec PyProof.Rows
theorem jew_ {c:Nat} {l:List Nat} (h:c≠45):strk (c::l)=c::strk l:=by
 cases l with
 | nil=>rfl
 | cons d r =>
  simp only[strk]
  rw[if_neg (fun z=>h z.1)]
theorem us_:∀{a l:List Nat},(∀ c∈a,c≠45)->strk (a++l)=a++strk l
 | [],l,_=>rfl
 | c::a,l,h=>by
  rw[q3_,jew_ (h c p5_),us_ fun x hx=>h x (pt_ _ hx)];rfl
theorem jps_ (l:List Nat):strk (45::32::l)=strk l:=by simp[strk]
def vc_ (ps:List Pi4) (n b:Nat):List (List Nat):=(ps.drop n).mapIdx fun i p=>p.2.1.drop (if i=0 then b else 0)++p.2.2.1
theorem jgb_ {ps:List Pi4} {n b:Nat} (h:ps.length<=n):vc_ ps n b=[]:=by unfold vc_;rw[kn_ h];rfl
theorem x2_ {ps:List Pi4} {n b:Nat} (h:n < ps.length):vc_ ps n b=zr_ ps n b::vc_ ps (n+1) 0:=by
 have e:pAt ps n=ps[n]:=by unfold pAt;rw[pe_,pa_ h];rfl
 unfold vc_ zr_
 rw[rm_ h,List.mapIdx_cons,e]
 congr 1
 apply List.ext_getElem
 ·simp
 ·intro i h1 h2
  simp
theorem jds_ {ps:List Pi4} {n b:Nat}:∀{k:Nat},n<=k->k<=ps.length->vc_ ps n b=zl_ ps n b k++vc_ ps k (at_ n b k):=by
 intro k
 induction k with
 | zero =>
  intro h1 _
  have:n=0:=by omega
  subst this
  rw[yi_ (pg_ _)]
  unfold at_
  rw[if_pos rfl];rfl
 | succ k ih =>
  intro h1 h2
  rcases wu_ h1 with e | h
  ·subst e
   rw[yi_ (pg_ _)]
   unfold at_
   rw[if_pos rfl];rfl
  ·have hnk:n<=k:=by omega
   rw[ih hnk (by omega),ym_ hnk,x2_ (by omega),qw_]
   have:at_ n b (k+1)=0:=by unfold at_;rw[if_neg (by omega)]
   rw[this];rfl
def PsC (ps:List Pi4):Prop:=∀ p∈ps,∀ c∈p.2.1++p.2.2.1,c≠45
theorem PsC.at {ps:List Pi4} (h:PsC ps) (k:Nat):∀ c∈(pAt ps k).2.1++(pAt ps k).2.2.1,c≠45:=by
 rcases r7_ k ps.length with hk | hk
 ·have e:pAt ps k=ps[k]:=by unfold pAt;rw[pe_,pa_ hk];rfl
  rw[e];exact h _ (pw_ hk)
 ·have e:pAt ps k=p0:=by unfold pAt;rw[pe_,t7_ hk];rfl
  rw[e];intro c hc;simp[p0] at hc
theorem jao_:∀{ws:List (List Nat)},(∀ w∈ws,∀ c∈w,c≠45)->∀ c∈ju_ ws,c≠45
 | [],_,c,hc=>nomatch hc
 | [w],h,c,hc=>h w (by simp) c hc
 | w::v::r,h,c,hc=>by
  have ej:ju_ (w::v::r)=w++32::ju_ (v::r):=rfl
  rw[ej] at hc
  rcases p0_.mp hc with hc | hc
  ·exact h w (by simp) c hc
  ·rcases pz_.mp hc with rfl | hc
   ·decide
   ·exact jao_ (ws:=v::r) (fun x hx=>h x (pt_ _ hx)) c hc
theorem jpj_ {ps:List Pi4} (h:PsC ps) (k b:Nat):∀ c∈zr_ ps k b,c≠45:=fun c hc=>by
 unfold zr_ at hc
 refine h.at k c ?_
 rcases p0_.mp hc with hc | hc
 ·exact q5_ _ (se_ hc)
 ·exact qm_ _ hc
theorem v8_ {ps:List Pi4} (h:PsC ps) (n b:Nat):∀ k,∀ w∈zl_ ps n b k,∀ c∈w,c≠45
 | 0,w,hw=>nomatch hw
 | k+1,w,hw=>by
  simp only[zl_] at hw
  split at hw
  ·rcases p0_.mp hw with hw | hw
   ·exact v8_ h n b k w hw
   ·have:w=zr_ ps k (at_ n b k):=by simpa using hw
    rw[this];exact jpj_ h k _
  ·cases hw
theorem jar_:∀{a c:List (List Nat)},a≠[]->c≠[]->ju_ (a++c)=ju_ a++32::ju_ c
 | [],c,h,_=>absurd rfl h
 | [w],c,_,hc=>by
  cases c with
  | nil=>exact absurd rfl hc
  | cons x r=>rfl
 | w::v::r,c,_,hc=>by
  have ih:=jar_ (a:=v::r) (c:=c) (by simp) hc
  have e:ju_ (w::v::r++c)=w++32::ju_ (v::r++c):=rfl
  rw[e,ih]
  show _=w++32::ju_ (v::r)++32::ju_ c
  simp
theorem joj_ {ps:List Pi4} (hp:PsOk ps) {wd n b:Nat} {e:Nat×Nat} (he:(ends ps wd n b).getLast?=some e):n<=e.1/\e.1<=ps.length/\(0 < e.2->e.1 < ps.length/\at_ n b e.1 < e.2/\e.2 < (pAt ps e.1).2.1.length)/\(e.2=0->n < e.1):=by
 have hm:e∈ends ps wd n b:=rh_ he
 unfold ends at hm
 have go:∀ f k,n<=k->e∈yc_ ps wd n b f k->n<=e.1/\e.1<=ps.length/\(0 < e.2->e.1 < ps.length/\at_ n b e.1 < e.2/\e.2 < (pAt ps e.1).2.1.length)/\(e.2=0->n < e.1):=by
  intro f
  induction f with
  | zero=>intro k _ h;cases h
  | succ f ih =>
   intro k hk h
   simp only[yc_] at h
   have gd:k < ps.length->e∈good ps wd n b k->n<=e.1/\e.1<=ps.length/\(0 < e.2->e.1 < ps.length/\at_ n b e.1 < e.2/\e.2 < (pAt ps e.1).2.1.length)/\(e.2=0->n < e.1):=fun hkl h=>by
    unfold good here at h
    obtain⟨h,_⟩:=qu_.mp h
    rcases p0_.mp h with h | h
    ·obtain⟨x,hx,rfl⟩:=qj_.mp h
     obtain⟨hx1,hx2⟩:=qu_.mp hx
     obtain⟨h0,h1⟩:=(hp.at hkl).2 x hx1
     have hx2:=of_decide_eq_true hx2
     refine⟨hk,q6_ hkl,fun _=>⟨hkl,?_,h1⟩,fun z=>by have z:x=0:=z;omega⟩
     show at_ n b k < x
     unfold at_
     split <;> omega
    ·have:e=(k+1,0):=by simpa using h
     subst this
     exact⟨by show n<=k+1;omega,hkl,fun z=>absurd z (by show ¬ 0 < 0;omega),fun _=>by show n < k+1;omega⟩
   split at h
   ·rename_i hkl
    split at h
    ·rcases p0_.mp h with h | h
     ·exact gd hkl h
     ·exact ih (k+1) (by omega) h
    ·exact gd hkl h
   ·cases h
 exact go _ n (pg_ _) hm
theorem Prs.ne {ps:List Pi4} {wd n b:Nat} {ls:List (List Nat)} (h:Prs ps wd n b ls none) (hn:n < ps.length):ls≠[]:=by
 cases h with
 | done h=>omega
 | line _ _ _=>simp
theorem jmc_ {ps:List Pi4} (hp:PsOk ps) (hc:PsC ps) {wd n b:Nat} {ls:List (List Nat)} (h:Prs ps wd n b ls none):strk (ju_ ls)=ju_ (vc_ ps n b):=by
 generalize hr:(none:Option Nat)=r at h
 induction h with
 | done h=>rw[jgb_ h];rfl
 | narrow _ _=>cases hr
 | @line n b e ls r hn he hrest ih =>
  subst hr
  have ih:=ih rfl
  obtain⟨h1,h2,h3,h4⟩:=joj_ hp he
  obtain⟨K,x⟩:=e
  simp only at h1 h2 h3 h4 ih hrest
  rcases qh_ x with hx | hx
  ·subst hx
   have hnK:=h4 rfl
   have hL:za_ ps n b (K,0)=ju_ (zl_ ps n b K):=by
    unfold za_
    rw[if_neg (by show ¬ 0 < 0;omega),py_]
   have h45:∀ c∈za_ ps n b (K,0),c≠45:=by rw[hL];exact jao_ (v8_ hc n b K)
   have hat:at_ n b K=0:=by unfold at_;rw[if_neg (by omega)]
   have htp:=jds_ (ps:=ps) (n:=n) (b:=b) (k:=K) h1 h2
   rw[hat] at htp
   rcases r7_ K ps.length with hK | hK
   ·have hne:=hrest.ne hK
    have e1:ju_ (za_ ps n b (K,0)::ls)=za_ ps n b (K,0)++32::ju_ ls:=by
     cases ls with
     | nil=>exact absurd rfl hne
     | cons y r=>rfl
    have htl:vc_ ps K 0≠[]:=by rw[x2_ hK];simp
    rw[e1,us_ h45,jew_ (by decide),ih,htp,jar_ (jjm_ hnK) htl,hL]
   ·have hls:ls=[]:=by
     cases hrest with
     | done _=>rfl
     | line h _ _=>omega
    subst hls
    rw[jgb_ hK,py_] at htp
    rw[htp,<- hL]
    show strk (za_ ps n b (K,0))=_
    have:=us_ (l:=[]) h45
    rw[py_] at this
    rw[this]
    simp[strk]
  ·obtain⟨hK,hxa,hxl⟩:=h3 hx
   have hL:=y7_ (ps:=ps) (n:=n) (b:=b) (k:=K) (x:=x) hx
   have hne:=hrest.ne hK
   have e1:ju_ (za_ ps n b (K,x)::ls)=za_ ps n b (K,x)++32::ju_ ls:=by
    cases ls with
    | nil=>exact absurd rfl hne
    | cons y r=>rfl
   have hA:∀ c∈j3_ ps n b K++((pAt ps K).2.1.take x).drop (at_ n b K),c≠45:=fun c hcc=>by
    rcases p0_.mp hcc with hcc | hcc
    ·unfold j3_ at hcc
     split at hcc
     ·cases hcc
     ·rcases p0_.mp hcc with hcc | hcc
      ·exact jao_ (v8_ hc n b K) c hcc
      ·have:c=32:=by simpa using hcc
       rw[this];decide
    ·exact hc.at K c (q5_ _ (ta_ (se_ hcc)))
   have e2:za_ ps n b (K,x)++32::ju_ ls=(j3_ ps n b K++((pAt ps K).2.1.take x).drop (at_ n b K))++45::32::ju_ ls:=by rw[hL];simp
   have htp:=jds_ (ps:=ps) (n:=n) (b:=b) (k:=K) h1 h2
   rw[x2_ hK] at htp
   have htx:=x2_ (ps:=ps) (n:=K) (b:=x) hK
   have hw:zr_ ps K (at_ n b K)=((pAt ps K).2.1.take x).drop (at_ n b K)++zr_ ps K x:=by
    unfold zr_
    rw[<- qw_]
    congr 1
    have:(pAt ps K).2.1=(pAt ps K).2.1.take x++(pAt ps K).2.1.drop x:=(s1_ _ _).symm
    conv=>lhs;rw[this]
    rw[List.drop_append_of_le_length (by rw[p2_];omega)]
   rw[e1,e2,us_ hA,jps_,ih,htx,htp]
   cases ht:vc_ ps (K+1) 0 with
   | nil =>
    rw[xx_,hw]
    show _++zr_ ps K x=_
    simp
   | cons y r =>
    have e3:ju_ (zr_ ps K x::y::r)=zr_ ps K x++32::ju_ (y::r):=rfl
    have e4:zl_ ps n b K++zr_ ps K (at_ n b K)::y::r=(zl_ ps n b K++[zr_ ps K (at_ n b K)])++(y::r):=by simp
    rw[e3,e4,jar_ (by simp) (by simp),xx_,hw]
    simp
end L2
namespace L2
open PySem PySem.Spec PyProof.Rows
def ltP (p q:Nat×Nat):Prop:=p.1 < q.1∨(p.1=q.1/\p.2 < q.2)
def leP (p q:Nat×Nat):Prop:=p.1 < q.1∨(p.1=q.1/\p.2<=q.2)
theorem leP_or {p q:Nat×Nat}:leP p q∨ltP q p:=by unfold leP ltP;omega
theorem ltP.le {p q:Nat×Nat} (h:ltP p q):leP p q:=by unfold leP;unfold ltP at h;omega
theorem leP.refl (p:Nat×Nat):leP p p:=by unfold leP;omega
def Pl (ps:List Pi4) (p:Nat×Nat):Prop:=(p.1 < ps.length/\(p.2=0∨p.2∈(pAt ps p.1).2.2.2))∨(p.1=ps.length/\p.2=0)
theorem yd_ {ps:List Pi4} {n b k:Nat} (h:n<=k):(j3_ ps n b (k+1)).length=(j3_ ps n b k).length+(zr_ ps k (at_ n b k)).length+1:=by
 rw[jdl_ h,pd_,pd_];rfl
theorem vi_ {ps:List Pi4} {n b b':Nat} (h:b<=b'):∀ k,(j3_ ps n b' k).length<=(j3_ ps n b k).length
 | 0=>by unfold j3_;rw[if_pos (qe_ _)];exact qe_ _
 | k+1=>by
  by_cases c:n<=k
  ·have ih:=vi_ (ps:=ps) (n:=n) h k
   rw[yd_ c,yd_ c]
   have:(zr_ ps k (at_ n b' k)).length<=(zr_ ps k (at_ n b k)).length:=by
    unfold zr_ at_
    split
    ·rw[pd_,pd_,px_,px_];omega
    ·exact pg_ _
   omega
  ·unfold j3_
   rw[if_pos (by omega)];exact qe_ _
theorem jbb_ {ps:List Pi4} {n m b:Nat} (h:n < m):∀ k,(j3_ ps m 0 k).length<=(j3_ ps n b k).length
 | 0=>by unfold j3_;rw[if_pos (qe_ _)];exact qe_ _
 | k+1=>by
  by_cases c:m<=k
  ·have ih:=jbb_ (ps:=ps) (b:=b) h k
   rw[yd_ c,yd_ (by omega)]
   have e1:at_ m 0 k=0:=by unfold at_;split <;> rfl
   have e2:at_ n b k=0:=by unfold at_;rw[if_neg (by omega)]
   rw[e1,e2];omega
  ·unfold j3_
   rw[if_pos (by omega)];exact qe_ _
theorem uz_ {ps:List Pi4} {p q:Nat×Nat} (h:leP p q) (k:Nat):(j3_ ps q.1 q.2 k).length<=(j3_ ps p.1 p.2 k).length:=by
 rcases h with h | ⟨h1,h2⟩
 ·exact qg_ (vi_ (qe_ _) k) (jbb_ h k)
 ·rw[<- h1];exact vi_ h2 k
theorem jiz_ {ps:List Pi4} {p q e:Nat×Nat} (h:leP p q) (hq:q.1<=e.1) (he:e.2=0->q.1 < e.1):(za_ ps q.1 q.2 e).length<=(za_ ps p.1 p.2 e).length:=by
 have hat:at_ p.1 p.2 e.1<=at_ q.1 q.2 e.1/\∀ k,k+1=e.1->at_ p.1 p.2 k<=at_ q.1 q.2 k∨k < q.1:=by
  unfold leP at h
  unfold at_
  refine⟨?_,fun k hk=>?_⟩
  ·split <;> split <;> omega
  ·split <;> split <;> omega
 obtain⟨K,x⟩:=e
 simp only at hq he hat
 rcases qh_ x with hx | hx
 ·subst hx
  have:=he rfl
  obtain⟨k,rfl⟩:∃ k,K=k+1:=⟨K - 1,by omega⟩
  have hp:p.1<=k:=by unfold leP at h;omega
  rw[yk_ (by omega),yk_ hp,pd_,pd_]
  have h1:=uz_ (ps:=ps) h k
  have h2:=hat.2 k rfl
  unfold zr_
  rw[pd_,pd_,px_,px_]
  omega
 ·rw[y7_ hx,y7_ hx]
  have h1:=uz_ (ps:=ps) h K
  simp only[pd_,px_]
  have:=hat.1
  omega
theorem jfs_ {ps:List Pi4} {n b:Nat}:∀{j k:Nat},n < j->j<=k->(za_ ps n b (j,0)).length<=(za_ ps n b (k,0)).length:=by
 intro j k hn hj
 induction k with
 | zero=>omega
 | succ k ih =>
  rcases wu_ hj with e | h
  ·rw[e];exact pg_ _
  ·have:=ih (by omega)
   rw[yk_ (k:=k) (by omega),yn_ (by omega),pd_,pd_]
   omega
theorem jeg_ {ps:List Pi4} {wd n b:Nat} {e:Nat×Nat} (hf:zg_ ps wd n b e=true) {i:Nat} (hn:n<=i) (hi:i < e.1):zg_ ps wd n b (i+1,0)=true:=by
 have hf:=of_decide_eq_true hf
 refine decide_eq_true (qg_ ?_ hf)
 obtain⟨K,x⟩:=e
 simp only at hi
 rcases qh_ x with hx | hx
 ·subst hx
  exact jfs_ (by omega) hi
 ·have h1:=jfs_ (ps:=ps) (n:=n) (b:=b) (j:=i+1) (k:=K) (by omega) hi
  rw[y7_ hx,yn_ (by omega)]
  simp only[pd_]
  omega
theorem juq_ {ps:List Pi4} (hp:PsOk ps) {wd n b:Nat} {e:Nat×Nat} (hn:n < ps.length) (hlt:ltP (n,b) e) (he:Pl ps e) (hf:zg_ ps wd n b e=true):e∈ends ps wd n b:=by
 have hle:e.1<=ps.length:=by unfold Pl at he;omega
 unfold ltP at hlt
 simp only at hlt
 -- the word in which it ends
 rcases qh_ e.2 with hx | hx
 ·obtain⟨K,hK⟩:∃ K,e.1=K+1:=⟨e.1 - 1,by omega⟩
  have ee:e=(K+1,0):=Prod.ext hK hx
  obtain⟨r,er,e0,e1⟩:=vr_ (ps:=ps) (wd:=wd) (n:=n) (b:=b) (K+1 - n) n (fun i a c=>⟨by omega,jeg_ hf a (by omega)⟩) (ps.length - n) (by omega)
  have:=e1 (by omega)
  rw[show n+(K+1 - n)=K+1 by omega] at this
  unfold ends
  rw[er,ee]
  exact q5_ _ (rh_ this)
 ·have hm:e.1 < ps.length/\e.2∈(pAt ps e.1).2.2.2:=by
   unfold Pl at he
   rcases he with ⟨h1,h2 | h2⟩ | ⟨h1,h2⟩
   ·omega
   ·exact⟨h1,h2⟩
   ·omega
  obtain⟨r,er,_,_⟩:=vr_ (ps:=ps) (wd:=wd) (n:=n) (b:=b) (e.1 - n) n (fun i a c=>⟨by omega,jeg_ hf a (by omega)⟩) (ps.length - n) (by omega)
  unfold ends
  rw[er]
  refine qm_ _ ?_
  rw[show n+(e.1 - n)=e.1 by omega,show ps.length - n - (e.1 - n)=ps.length - n - (e.1 - n) - 1+1 by omega]
  simp only[yc_]
  rw[if_pos hm.1]
  have hg:e∈good ps wd n b e.1:=by
   unfold good here
   refine qu_.mpr ⟨q5_ _ (qj_.mpr ⟨e.2,qu_.mpr ⟨hm.2,decide_eq_true (by omega)⟩,rfl⟩),hf⟩
  split
  ·exact q5_ _ hg
  ·exact hg
theorem vt_ {ps:List Pi4} (hp:PsOk ps) {wd n b:Nat}:∀(f k:Nat),n<=k->(∀ e∈yc_ ps wd n b f k,ltP (n,b) e/\Pl ps e/\zg_ ps wd n b e=true/\ltP (k,0) e)/\(yc_ ps wd n b f k).Pairwise ltP
 | 0,k,_=>⟨fun e he=>(nomatch he),rs_.nil⟩
 | f+1,k,hk=>by
  simp only[yc_]
  split
  ·rename_i hl
   have hg:∀ e∈good ps wd n b k,ltP (n,b) e/\Pl ps e/\zg_ ps wd n b e=true/\ltP (k,0) e/\(e.1=k∨e=(k+1,0)):=fun e he=>by
    unfold good here at he
    obtain⟨h1,h2⟩:=qu_.mp he
    rcases p0_.mp h1 with h | h
    ·obtain⟨x,hx,rfl⟩:=qj_.mp h
     obtain⟨hx1,hx2⟩:=qu_.mp hx
     have hx2:=of_decide_eq_true hx2
     have h0:=((hp.at hl).2 x hx1).1
     refine⟨?_,.inl ⟨hl,.inr hx1⟩,h2,.inr ⟨rfl,h0⟩,.inl rfl⟩
     unfold ltP
     simp only
     omega
    ·have:e=(k+1,0):=by simpa using h
     subst this
     refine⟨?_,?_,h2,.inl (by simp),.inr rfl⟩
     ·unfold ltP;simp only;omega
     ·unfold Pl
      simp only
      rcases r7_ (k+1) ps.length with c | c
      ·exact .inl ⟨c,.inl trivial⟩
      ·exact .inr ⟨by omega,trivial⟩
   have hgp:(good ps wd n b k).Pairwise ltP:=by
    unfold good here
    refine la_ _ (rr_.mpr ⟨?_,kf_ _ _,?_⟩)
    ·exact List.pairwise_map.mpr (rs_.imp (fun h=>Or.inr ⟨rfl,h⟩) (la_ _ (hp.at hl).1))
    ·intro x hx y hy
     obtain⟨z,_,rfl⟩:=qj_.mp hx
     have:y=(k+1,0):=by simpa using hy
     subst this
     exact .inl (by simp)
   split
   ·obtain⟨i1,i2⟩:=vt_ hp (wd:=wd) (n:=n) (b:=b) f (k+1) (by omega)
    refine⟨fun e he=>?_,rr_.mpr ⟨hgp,i2,fun x hx y hy=>?_⟩⟩
    ·rcases p0_.mp he with h | h
     ·have:=hg e h;exact⟨this.1,this.2.1,this.2.2.1,this.2.2.2.1⟩
     ·have:=i1 e h
      exact⟨this.1,this.2.1,this.2.2.1,by have:=this.2.2.2;unfold ltP at *;simp only at *;omega⟩
    ·have h1:=(hg x hx).2.2.2.2
     have h2:=(i1 y hy).2.2.2
     unfold ltP at *
     simp only at *
     rcases h1 with h1 | h1
     ·omega
     ·rw[h1];simp only;omega
   ·exact⟨fun e he=>by have:=hg e he;exact⟨this.1,this.2.1,this.2.2.1,this.2.2.2.1⟩,hgp⟩
  ·exact⟨fun e he=>(nomatch he),rs_.nil⟩
theorem z8_ {ps:List Pi4} (hp:PsOk ps) {wd n b:Nat} {e:Nat×Nat} (he:e∈ends ps wd n b):ltP (n,b) e/\Pl ps e/\zg_ ps wd n b e=true:=by
 have:=(vt_ hp (wd:=wd) (n:=n) (b:=b) (ps.length - n) n (pg_ _)).1 e he
 exact⟨this.1,this.2.1,this.2.2.1⟩
theorem v4_ {ps:List Pi4} (hp:PsOk ps) {wd n b:Nat} {e l:Nat×Nat} (he:e∈ends ps wd n b) (hl:(ends ps wd n b).getLast?=some l):leP e l:=by
 have hw:=(vt_ hp (wd:=wd) (n:=n) (b:=b) (ps.length - n) n (pg_ _)).2
 change (ends ps wd n b).Pairwise ltP at hw
 obtain⟨r,hr⟩:=wy_.mp hl
 rw[hr] at he hw
 rcases p0_.mp he with h | h
 ·exact((rr_.mp hw).2.2 e h l (by simp)).le
 ·have:e=l:=by simpa using h
  rw[this];exact leP.refl l
def wayP (ps:List Pi4) (p:Nat×Nat):Nat:=(ps.length - p.1) * (1+((ps.map fun q=>q.2.1.length).sum)) - p.2
theorem jnp_ {ps:List Pi4} (hp:PsOk ps) {p:Nat×Nat} (h:Pl ps p):p.2<=(ps.map fun q=>q.2.1.length).sum:=by
 rcases h with ⟨h1,h2 | h2⟩ | ⟨_,h2⟩
 ·omega
 ·have h3:=((hp.at h1).2 _ h2).2
  have e:pAt ps p.1=ps[p.1]:=by unfold pAt;rw[pe_,pa_ h1];rfl
  rw[e] at h3
  have:∀(l:List Pi4) (q:Pi4),q∈l->q.2.1.length<=(l.map fun q=>q.2.1.length).sum:=by
   intro l
   induction l with
   | nil=>intro q hq;cases hq
   | cons a l ih =>
    intro q hq
    rw[pj_,ru_]
    rcases pz_.mp hq with rfl | hq
    ·omega
    ·have:=ih q hq;omega
  have:=this ps _ (pw_ h1)
  omega
 ·omega
theorem jok_ {ps:List Pi4} (hp:PsOk ps) {p q:Nat×Nat} (hpp:Pl ps p) (hq:Pl ps q) (h:ltP p q):wayP ps q < wayP ps p:=by
 have h1:=jnp_ hp hpp
 have h2:=jnp_ hp hq
 have hql:q.1<=ps.length:=by unfold Pl at hq;omega
 have hpl:p.1 < ps.length:=by
  unfold ltP at h;unfold Pl at hpp hq
  omega
 unfold wayP
 generalize (ps.map fun q=>q.2.1.length).sum=s at h1 h2 ⊢
 rcases h with h | ⟨ha,hb⟩
 ·obtain⟨d,hd⟩:∃ d,ps.length - p.1=d+1+(ps.length - q.1):=⟨q.1 - p.1 - 1,by omega⟩
  rw[hd,Nat.add_mul,Nat.add_mul]
  have:0<=d * (1+s):=qe_ _
  omega
 ·rw[ha]
  have:1 * (1+s)<=(ps.length - q.1) * (1+s):=Nat.mul_le_mul_right _ (by omega)
  omega
def Cnt (ps:List Pi4) (wd:Nat) (p:Nat×Nat) (o:Option Nat):Prop:=∃ ls r,Prs ps wd p.1 p.2 ls r/\o=(if r=none then some ls.length else none)
theorem Cnt.one {ps:List Pi4} {wd:Nat} {p:Nat×Nat} {o u:Option Nat} (h:Cnt ps wd p o) (k:Cnt ps wd p u):o=u:=by
 obtain⟨ls,r,h1,rfl⟩:=h
 obtain⟨ls',r',h2,rfl⟩:=k
 obtain⟨e1,e2⟩:=h1.one h2
 rw[e1,e2]
theorem Cnt.ex {ps:List Pi4} (hp:PsOk ps) {wd:Nat}:∀{p:Nat×Nat},Pl ps p->∃ o,Cnt ps wd p o:=by
 have go:∀(m:Nat) (p:Nat×Nat),wayP ps p=m->Pl ps p->∃ o,Cnt ps wd p o:=by
  intro m
  induction m using k0_ with
  | ind m ih =>
   intro p hm hpp
   rcases r7_ p.1 ps.length with c | c
   ·cases he:(ends ps wd p.1 p.2).getLast? with
    | none=>exact⟨_,[],_,Prs.narrow c (sd_.mp he),rfl⟩
    | some e =>
     obtain⟨f1,f2,_⟩:=z8_ hp (rh_ he)
     obtain⟨o,ls,r,hr,_⟩:=ih (wayP ps e) (by rw[<- hm];exact jok_ hp hpp f2 f1) e rfl f2
     exact⟨_,_,_,Prs.line c he hr,rfl⟩
   ·exact⟨_,[],none,Prs.done c,rfl⟩
 intro p h
 exact go _ p rfl h
theorem Cnt.line {ps:List Pi4} {wd:Nat} {p e:Nat×Nat} {o u:Option Nat} (hn:p.1 < ps.length) (he:(ends ps wd p.1 p.2).getLast?=some e) (h:Cnt ps wd e u):Cnt ps wd p (u.map (·+1)):=by
 obtain⟨ls,r,h1,rfl⟩:=h
 refine⟨_,r,Prs.line hn he h1,?_⟩
 cases r <;> simp
theorem Cnt.narrow {ps:List Pi4} {wd:Nat} {p:Nat×Nat} (hn:p.1 < ps.length) (he:ends ps wd p.1 p.2=[]):Cnt ps wd p none:=⟨_,_,Prs.narrow hn he,by simp⟩
theorem Cnt.done {ps:List Pi4} {wd:Nat} {p:Nat×Nat} (hn:ps.length<=p.1):Cnt ps wd p (some 0):=⟨_,_,Prs.done hn,by simp⟩
theorem Cnt.mono {ps:List Pi4} (hp:PsOk ps) {wd:Nat} {p q:Nat×Nat} {n:Nat} {u:Option Nat} (hpp:Pl ps p) (hq:Pl ps q) (hle:leP p q) (h:Cnt ps wd p (some n)) (k:Cnt ps wd q u):∃ m,u=some m/\m<=n:=by
 have go:∀(m:Nat) (p q:Nat×Nat) (n:Nat) (u:Option Nat),wayP ps p=m->Pl ps p->Pl ps q->leP p q->Cnt ps wd p (some n)->Cnt ps wd q u->∃ m,u=some m/\m<=n:=by
  intro m
  induction m using k0_ with
  | ind m ih =>
   intro p q n u hm hpp hq hle h k
   rcases r7_ q.1 ps.length with c | c
   ·have c':p.1 < ps.length:=by unfold leP at hle;omega
    cases he:(ends ps wd p.1 p.2).getLast? with
    | none=>exact absurd (h.one (Cnt.narrow c' (sd_.mp he))) (by simp)
    | some e =>
     obtain⟨f1,f2,f3⟩:=z8_ hp (rh_ he)
     obtain⟨o,ho⟩:=Cnt.ex hp (wd:=wd) f2
     have h1:=h.one (Cnt.line (o:=o) c' he ho)
     cases o with
     | none=>cases h1
     | some j =>
      have hj:n=j+1:=by simpa using h1
      have hlt:wayP ps e < m:=by rw[<- hm];exact jok_ hp hpp f2 f1
      rcases leP_or (p:=e) (q:=q) with hc | hc
      ·obtain⟨i,hi,hi2⟩:=ih _ hlt e q j u rfl f2 hq hc ho k
       exact⟨i,hi,by omega⟩
      ·have hfit:zg_ ps wd q.1 q.2 e=true:=decide_eq_true (qg_ (jiz_ hle (by unfold ltP at hc;omega) (fun z=>by unfold ltP at hc;omega)) (of_decide_eq_true f3))
       have hme:=juq_ hp c hc f2 hfit
       cases he2:(ends ps wd q.1 q.2).getLast? with
       | none=>rw[sd_.mp he2] at hme;cases hme
       | some e' =>
        obtain⟨g1,g2,_⟩:=z8_ hp (rh_ he2)
        obtain⟨o',ho'⟩:=Cnt.ex hp (wd:=wd) g2
        obtain⟨i,hi,hi2⟩:=ih _ hlt e e' j o' rfl f2 g2 (v4_ hp hme he2) ho ho'
        have:=k.one (Cnt.line (o:=o') c he2 ho')
        rw[this,hi]
        exact⟨i+1,rfl,by omega⟩
   ·exact⟨0,k.one (Cnt.done c),qe_ _⟩
 exact go _ p q n u rfl hpp hq hle h k
theorem Cnt.step {ps:List Pi4} (hp:PsOk ps) {wd:Nat} {p:Nat×Nat} {o:Option Nat} (hpp:Pl ps p) (hn:p.1 < ps.length) (v:Nat×Nat->Option Nat) (hv:∀ e∈ends ps wd p.1 p.2,Cnt ps wd e (v e)) (h:Cnt ps wd p o) :
  (((ends ps wd p.1 p.2).filterMap v)=[]/\o=none)∨∃ m,m∈(ends ps wd p.1 p.2).filterMap v/\(∀ j∈(ends ps wd p.1 p.2).filterMap v,m<=j)/\o=some (1+m):=by
 cases he:(ends ps wd p.1 p.2).getLast? with
 | none =>
  have e0:=sd_.mp he
  exact .inl ⟨by rw[e0];rfl,h.one (Cnt.narrow hn e0)⟩
 | some e =>
  have hm:=rh_ he
  obtain⟨f1,f2,f3⟩:=z8_ hp hm
  have ho:=h.one (Cnt.line (o:=o) hn he (hv e hm))
  have hall:∀ e'∈ends ps wd p.1 p.2,∀ j,v e'=some j->∃ m,v e=some m/\m<=j:=fun e' h' j hj=>by
   have:=hv e' h'
   rw[hj] at this
   exact Cnt.mono hp (z8_ hp h').2.1 f2 (v4_ hp h' he) this (hv e hm)
  cases hve:v e with
  | none =>
   refine .inl ⟨List.filterMap_eq_nil_iff.mpr fun e' h'=>?_,by rw[ho,hve];rfl⟩
   cases hj:v e' with
   | none=>rfl
   | some j =>
    obtain⟨m,hm,_⟩:=hall e' h' j hj
    rw[hve] at hm;cases hm
  | some m =>
   refine .inr ⟨m,ro_.mpr ⟨e,hm,hve⟩,fun j hj=>?_,by rw[ho,hve];simp;omega⟩
   obtain⟨e',h',hj⟩:=ro_.mp hj
   obtain⟨m',hm',hle⟩:=hall e' h' j hj
   rw[hve] at hm'
   cases hm'
   exact hle
def j8_ (ps:List Pi4):Nat->List (Nat×Nat)
 | 0=>[]
 | k+1=>j8_ ps k++[(k,0)]++(pAt ps k).2.2.2.map fun x=>(k,x)
theorem begins_mem {ps:List Pi4} {p:Nat×Nat}:∀{k:Nat},p∈j8_ ps k↔p.1 < k/\(p.2=0∨p.2∈(pAt ps p.1).2.2.2)
 | 0=>by simp[j8_]
 | k+1=>by
  simp only[j8_,p0_,List.mem_singleton,qj_]
  rw[begins_mem (k:=k)]
  constructor
  ·rintro((h | h) | ⟨x,hx,rfl⟩)
   ·exact⟨by omega,h.2⟩
   ·subst h;exact⟨by simp,.inl rfl⟩
   ·exact⟨by simp,.inr hx⟩
  ·rintro⟨h1,h2⟩
   rcases r7_ p.1 k with c | c
   ·exact .inl (.inl ⟨c,h2⟩)
   ·have e:p.1=k:=by omega
    rcases h2 with h2 | h2
    ·exact .inl (.inr (Prod.ext e h2))
    ·exact .inr ⟨p.2,by rw[<- e];exact h2,Prod.ext e.symm rfl⟩
theorem jfo_ {ps:List Pi4} (hp:PsOk ps):∀{k:Nat},k<=ps.length->(j8_ ps k).Pairwise ltP
 | 0,_=>rs_.nil
 | k+1,hk=>by
  simp only[j8_]
  have hg:=hp.at (k:=k) (by omega)
  refine rr_.mpr ⟨rr_.mpr ⟨jfo_ hp (by omega),kf_ _ _,fun x hx y hy=>?_⟩,List.pairwise_map.mpr (rs_.imp (fun h=>Or.inr ⟨rfl,h⟩) hg.1),fun x hx y hy=>?_⟩
  ·have h1:=(begins_mem.mp hx).1
   have:y=(k,0):=by simpa using hy
   subst this
   exact .inl h1
  ·obtain⟨z,hz,rfl⟩:=qj_.mp hy
   rcases p0_.mp hx with h | h
   ·exact .inl (begins_mem.mp h).1
   ·have:x=(k,0):=by simpa using h
    subst this
    exact .inr ⟨rfl,(hg.2 z hz).1⟩
theorem jcx_ {ps:List Pi4} {c:Nat} (h:∀ k,k < ps.length->(pAt ps k).2.2.2.length<=c):∀{k:Nat},k<=ps.length->(j8_ ps k).length<=(c+1) * k
 | 0,_=>by simp[j8_]
 | k+1,hk=>by
  have ih:=jcx_ h (k:=k) (by omega)
  have:=h k (by omega)
  simp only[j8_,pd_,pc_,ps_]
  rw[Nat.mul_add]
  omega
theorem jhj_ {ps:List Pi4} (hp:PsOk ps) {wd:Nat} {l r:List (Nat×Nat)} {p:Nat×Nat} (h:j8_ ps ps.length=l++p::r):Pl ps p/\p.1 < ps.length/\∀ e∈ends ps wd p.1 p.2,e∈r∨e=(ps.length,0):=by
 have hm:p∈j8_ ps ps.length:=by rw[h];simp
 obtain⟨h1,h2⟩:=begins_mem.mp hm
 refine⟨.inl ⟨h1,h2⟩,h1,fun e he=>?_⟩
 obtain⟨f1,f2,_⟩:=z8_ hp he
 rcases f2 with ⟨g1,g2⟩ | ⟨g1,g2⟩
 ·have hme:e∈j8_ ps ps.length:=begins_mem.mpr ⟨g1,g2⟩
  have hw:=jfo_ hp (k:=ps.length) (pg_ _)
  rw[h] at hme hw
  rcases p0_.mp hme with c | c
  ·have:=(rr_.mp hw).2.2 e c p (by simp)
   unfold ltP at *
   omega
  ·rcases pz_.mp c with c | c
   ·subst c
    unfold ltP at f1
    simp only at f1
    omega
   ·exact .inl c
 ·exact .inr (Prod.ext g1 g2)
theorem Prs.lines {ps:List Pi4} (hp:PsOk ps) {wd n b:Nat} {ls:List (List Nat)} {r:Option Nat} (h:Prs ps wd n b ls r) (hpl:Pl ps (n,b)) (hpos:∀ k,k < ps.length->0 < (pAt ps k).2.1.length):∀ l∈ls,l.length<=wd/\l≠[]:=by
 induction h with
 | done _=>intro l hl;cases hl
 | narrow _ _=>intro l hl;cases hl
 | @line n b e ls r hn he hr ih =>
  obtain⟨f1,f2,f3⟩:=z8_ hp (rh_ he)
  intro l hl
  rcases pz_.mp hl with rfl | hl
  ·refine⟨of_decide_eq_true f3,fun z=>?_⟩
   have hb:b < (pAt ps n).2.1.length:=by
    rcases hpl with ⟨_,h2 | h2⟩ | ⟨h1,_⟩
    ·have:=hpos n hn;simp only at h2;omega
    ·exact((hp.at hn).2 _ h2).2
    ·simp only at h1;omega
   obtain⟨K,x⟩:=e
   have hz:=congrArg sm_ z
   unfold ltP at f1
   simp only at f1
   rcases qh_ x with hx | hx
   ·subst hx
    obtain⟨k,rfl⟩:∃ k,K=k+1:=⟨K - 1,by omega⟩
    rw[yk_ (by omega)] at hz
    rcases wu_ (show n<=k by omega) with c | c
    ·subst c
     have:at_ n b n=b:=by unfold at_;rw[if_pos rfl]
     unfold zr_ at hz
     rw[this] at hz
     simp only[pd_,px_,p1_] at hz
     omega
    ·rw[yn_ c] at hz
     simp only[pd_,ps_,p1_] at hz
     omega
   ·rw[y7_ hx] at hz
    simp only[pd_,ps_,p1_] at hz
    omega
  ·exact ih f2 l hl
end L2
namespace L2
open PySem PySem.Spec PyProof.Rows
section
variable {X:Cx}
end
end L2
namespace L2
open PySem PySem.Spec PyProof.Rows
section
variable {prog:Program} {w:World} {A:Around} {E:Value->Shared->Prop} {s:Shared}
end
section
variable {X:Cx} {tg:Expr}
end
end L2
namespace L2
open PySem PySem.Spec PyProof.Rows
def Itw (K:pb_) (a:Addr) (xs:List V):It :=
 ⟨fun i H=>SqL K H a xs/\i < xs.length,fun i H x H'=>H'=H/\xs.reverse[i]?=some x,fun i _=>xs.length<=i⟩
theorem jsf_ {P:Program} {w:World} {K:pb_} {tg:Expr} (a it:Addr) (xs:List V):Turn P w K tg (Itw K a xs) [it] it (fun i h=>h.IsRevIter it a ((xs.length:Int) - 1 - (i:Int))/\i<=xs.length) where
 mem:=by simp
 obj:=fun i h st b hb=>by
  have e:b=it:=by simpa using hb
  subst e
  obtain⟨⟨o,e,c,d⟩,_⟩:=st
  exact⟨o,e,fun v z=>by rw[d] at z;cases z⟩
 keep:=fun i h h' st k=>⟨st.1.at fun o e=>k it (by simp) o e,st.2⟩
 item:=by
  intro X hP hw hK hc i pins s σ H E I hf st hg
  subst hP hw hK
  obtain⟨hq,hi⟩:=hg
  obtain⟨its,rv,p,hz⟩:=I.list hq
  have hl:=rv.length
  obtain⟨x,hx⟩:∃ x,xs[xs.length - 1 - i]?=some x:=⟨_,pa_ (by omega)⟩
  obtain⟨u,hu,ru⟩:=rv.get hx
  obtain⟨f0,f1,f2,f3,f4,f5⟩:=hf it (by simp)
  have st1:s.heap.IsRevIter it a ((xs.length - 1 - i:Nat):Int):=by rw[show ((xs.length - 1 - i:Nat):Int)=(xs.length:Int) - 1 - (i:Int) by omega];exact st.1
  refine wpAny_pyNext_rev_item st1 p.isList (x:=u) (by simpa using hu) fun h' st' sb=>?_
  have I1:Inv X pins σ H { s with heap:=h',toks:=s.toks }:=I.turned (t':=s.toks) (fun b o hb e=>(sb.2 b hb).trans e) f0 f1 f3 f4 f5
  obtain⟨o,e,c,d⟩:=id st'
  refine⟨u,rfl,jfn_ (s:={ s with heap:=h',toks:=s.toks }) e c d (by decide) ⟨x,H,I1,ru,⟨rfl,?_⟩,?_,fun b hb=>(hf b hb).1⟩⟩
  ·rw[k1_ hi];exact hx
  ·refine⟨?_,hi⟩
   show h'.IsRevIter it a ((xs.length:Int) - 1 - ((i+1:Nat):Int))
   rw[show (xs.length:Int) - 1 - ((i+1:Nat):Int)=((xs.length - 1 - i:Nat):Int) - 1 by omega]
   exact st'
 done:=by
  intro X hP hw hK hc i pins s σ H E I hf st hg
  subst hP hw hK
  have hg':xs.length<=i:=hg
  have hii:i=xs.length:=Nat.le_antisymm st.2 hg'
  obtain⟨f0,f1,f2,f3,f4,f5⟩:=hf it (by simp)
  have st1:s.heap.IsRevIter it a (-1):=by rw[show (-1:Int)=(xs.length:Int) - 1 - (i:Int) by omega];exact st.1
  exact wpAny_pyNext_rev_end (I.ok.hd hc) st1 fun h' eb=>⟨rfl,I.turned (t':=s.toks) (fun b o hb e=>eb b o hb e) f0 f1 f3 f4 f5⟩
 self:=fun _ _ _ _ _ st h=>wpAny_pyIter_revIter st.1 h
section
variable {X:Cx} {tg:Expr}
def jyh_ (K:pb_) (ta:TE):TI:=fun σ H R=>ta σ H fun x H1=>∃ a xs,x=.ref a/\SqL K H1 a xs/\R (Itw K a xs) H1
theorem jsl_ {K:pb_} {ta:TE} {σ:St} {H:Hp} {R:It->Hp->Prop} (h:ta σ H fun x H1=>∃ a xs,x=.ref a/\SqL K H1 a xs/\R (Itw K a xs) H1):jyh_ K ta σ H R:=h
theorem jxj_ {K:pb_} (hK:X.K=K) {a:Expr} {ta:TE} {p pos:Pos} (hg:Gl X "reversed") (hm:X.mg "reversed"=none) (ha:PE X a ta) (hs:starEach [a] X.env=[(false,eval a X.env)]:=by rfl) :
  PI X tg (.Call (.Name "reversed" p) [a] [] pos) (jyh_ K ta):=by
 subst hK
 intro pins s σ H R I h
 refine Call_ (xs_ I hg hm (by decide +kernel:bootBuiltins "reversed"=some (.type "reversed")) (re_ ?_ hs rfl))
 rw[hs]
 show wpAny _ _ (spliced ((false,eval a X.env)::[])) _ _ s
 refine qy_ (thn (ha pins s σ H _ I h) fun u s1 ⟨x,H1,I1,ru,q1⟩=>rl_ ?_)
 obtain⟨l,xs,rfl,hl,q⟩:=q1
 cases ru
 obtain⟨its,rv,p,hz⟩:=I1.list hl
 have hlen:=rv.length
 refine call_reversed_list p.isList ?_
 have st0:(s1.heap.push (revObj l ((its.toArray.size:Int) - 1))).IsRevIter s1.heap.objs.size l ((its.toArray.size:Int) - 1):=⟨_,pq_ _ rfl,rfl,rfl⟩
 refine wpAny_pyIter_revIter st0 ?_
 refine⟨s1.heap.objs.size,[s1.heap.objs.size],_,_,H1,rfl,I1.kept (t':=s1.toks) fun b o e=>pf_ _ e,jsf_ l _ xs,⟨?_,qe_ _⟩,fun b hb=>?_,q⟩
 ·show Heap.IsRevIter _ _ _ ((xs.length:Int) - 1 - ((0:Nat):Int))
  rw[show (xs.length:Int) - 1 - ((0:Nat):Int)=((its.toArray.size:Nat):Int) - 1 by simp only[pp_];omega]
  exact st0
 ·have e:b=s1.heap.objs.size:=by simpa using hb
  subst e
  exact I1.fpOk (pg_ _) (I1.hok.fresh (pg_ _))
end
theorem jta_ {K:pb_} {a:Addr} {xs:List V} {g:TG} {tb:TS} {D:Ends} {σ:St} {H:Hp} (Pv:Nat->St->Hp->Prop) (h0:Pv 0 σ H) (hok:∀ i σ H,i<=xs.length->Pv i σ H->SqL K H a xs)
  (hs:∀ i v σ H,xs.reverse[i]?=some v->Pv i σ H->g v σ H fun σ2 H2=>tb { D with nx:=Pv (i+1),ct:=Pv (i+1),bk:=D.nx } σ2 H2) (hd:∀ σ H,Pv xs.length σ H->D.nx σ H) :
  ∃ W:Nat->Nat->St->Hp->Prop,(∃ m,W 0 m σ H)/\∀ i m σ H,W i m σ H ->
   ((Itw K a xs).stop i H/\D.nx σ H)∨((Itw K a xs).go i H/\∃ N:St->Hp->Prop,(∀ σ' H',N σ' H'->∃ m',m' < m/\W (i+1) m' σ' H')/\∀ x H',(Itw K a xs).yld i H x H'->g x σ H' fun σ2 H2=>tb { D with nx:=N,ct:=N,bk:=D.nx } σ2 H2):=by
 refine⟨fun i m σ H=>m=xs.length - i/\i<=xs.length/\Pv i σ H,⟨xs.length,by simp,qe_ _,h0⟩,fun i m σ' H' w=>?_⟩
 obtain⟨rfl,hi,p⟩:=w
 have ho:=hok i σ' H' hi p
 by_cases hlt:i < xs.length
 ·refine .inr ⟨⟨ho,hlt⟩,Pv (i+1),fun σ2 H2 p'=>⟨xs.length - (i+1),by omega,rfl,hlt,p'⟩,fun x H2 y=>?_⟩
  obtain⟨rfl,hv⟩:=y
  exact hs i x σ' H2 hv p
 ·have e:i=xs.length:=by omega
  exact .inl ⟨by show xs.length<=i;omega,hd σ' H' (e▸p)⟩
def jur_ (tk tv:TE):TE:=fun σ H Q=>∀ p,H p=none->tk σ (upd H p (.dT [])) fun x H1=>tv σ H1 fun y H2=>H2 p=some (.dT [])/\∃(b:Addr) (k:List Key),x=.ref b/\H2 b=some (.tup (k.map kV))/\Q (.ref p) (upd H2 p (.dT [(k,y)]))
theorem jxx_ {tk tv:TE} {σ:St} {H:Hp} {Q:VK} (h:∀ p,H p=none->tk σ (upd H p (.dT [])) fun x H1=>tv σ H1 fun y H2=>H2 p=some (.dT [])/\∃(b:Addr) (k:List Key),x=.ref b/\H2 b=some (.tup (k.map kV))/\Q (.ref p) (upd H2 p (.dT [(k,y)]))):jur_ tk tv σ H Q:=h
theorem jtm_ {X:Cx} {pos:Pos} {k v:Expr} {tk tv:TE} (hu:X.A.units+1 < cLine) (hk:PE X k tk) (hv:PE X v tv):PE X (.Dict [some k] [v] pos) (jur_ tk tv):=by
 intro pins s σ H Q I q
 have hn:=I.hok.fresh (pg_ s.heap.objs.size)
 have I1:=I.laid (a:=s.heap.objs.size) (o:=.dT []) (h':=s.heap.push { cls:=.type "dict",data:=.dict #[] }) (t':=s.toks) (fun _ _ q=>pf_ _ q) (pg_ _) (jvb_ s.heap I.big)
 refine wpAny_Dict_any rfl rfl (by simp) (by show 1<=15;decide) (pairTrees_cons_walk (thn (hk pins _ σ _ _ I1 (q _ hn)) fun u s1 ⟨x,H1,I1',rx,q1⟩=>thn (hv pins s1 σ H1 _ I1' q1) fun w2 s2 ⟨y,H2,I2,ry,e,b,ks,ex,eb,q2⟩=>pairTrees_nil_walk ?_))
 subst ex
 cases (show u=Value.ref b from rx)
 unfold storeAll
 rw[si_]
 obtain⟨z,hd,xs,rel,dd⟩:=jyo_ I2.hok e
 have hz:xs.length<=sizeLine:=by rw[<- wc_ rel];exact z
 refine wpAny_bind (wpAny_bind (wpAny_dictSet_heap (hsz:=hz) (knd:=tupleKind (j9_ X.prog X.w)) (show X.A.units < cLine by omega) (ub_ I2.hok eb) dd fun h' dd' hs=>wpAny_pure ?_))
 show wpAny _ _ (forIn [] _ _) _ _ _
 rw[List.forIn_nil]
 refine wpAny_pure ⟨.ref s.heap.objs.size,_,?_,rfl,q2⟩
 obtain⟨q,es,ep,hq,h2,h3,h4,_,h5⟩:=dd'
 have hl:(putK [] ks y).length<=sizeLine:=by rw[sizeLine_eq];have:=xb_ ([]:List (List Key×V)) ks y;simp at this;omega
 refine jib_ I2 (by rw[e];exact True.intro) hs ⟨q,hq⟩ ⟨hl,hd,_,(rel.put ks eb ry).keeps fun c ys ec=>?_,q,es,ep,hq,h2,h3,h4,h5⟩
 rw[jf_ (yh_ ec e (fun z=>nomatch z))]
 exact ec
def jvl_ (le:Int->Int->Prop):List V->Hp->VK->Prop:=fun xs H Q=>∃(p:Addr) (ns:List Int),xs=[.ref p]/\H p=some (.lst (ns.map V.int))/\ns≠[]/\∀ m,m∈ns->(∀ n∈ns,le n m)->Q (.int m) H
theorem jxl_ {le:Int->Int->Prop} {H:Hp} {Q:VK} {p:Addr} {ns:List Int} (h:H p=some (.lst (ns.map V.int))) (h0:ns≠[]) (q:∀ m,m∈ns->(∀ n∈ns,le n m)->Q (.int m) H):jvl_ le [.ref p] H Q:=⟨p,ns,rfl,h,h0,q⟩
section
variable {X:Cx}
theorem c_minL (hc:X.calm=true):CallR X (.builtin "min") (jvl_ fun n m=>m<=n):=by
 intro pins s σ H xs us Q I r h
 obtain⟨p,ns,rfl,e,h0,q⟩:=h
 obtain⟨u,rfl,ru⟩:=ve_ r
 cases ru
 obtain⟨its,rv,pl,hz⟩:=I.list (SqL.of (K:=X.K) e)
 have hlen:=rv.length
 rw[pc_] at hlen
 have hlt:p < s.heap.objs.size:=by obtain⟨o,_,ho,_⟩:=pl;exact pu_ ho
 have hval:∀(i:Nat) (v:Value),its.toArray[i]?=some v->∃ t,v=.int (ns.getD i 0) t:=fun i v hv=>by
  have hv':its[i]?=some v:=by simpa using hv
  have hil:i < its.length:=(pl_.mp hv').1
  obtain⟨w',hw,t,rfl⟩:=rv.get (i:=i) (x:=V.int (ns.getD i 0)) (by rw[pm_];simp[pe_,show i < ns.length by omega])
  rw[hv'] at hw
  cases hw
  exact⟨t,rfl⟩
 have hpos:0 < ns.length:=th_.mpr h0
 have isl:s.heap.IsList p its.toArray:=pl.isList
 refine call_min_walk (wpAny_pyIter_list isl ?_)
 refine⟨s.heap.objs.size,_,_,_,_,_,_,rfl,Walks.list (A:=X.A.in1) (show X.A.in1.handled=none from I.ok.hd hc) s.heap.objs.size p (p3_ hlt) its.toArray,⟨⟨_,pq_ _ rfl,rfl,rfl⟩,?_⟩,?_,?_,CmpOf.ints_lt (fun i=>ns.getD i 0) hval,fun v h' tk hv k=>?_⟩
 ·obtain⟨o,ho,q⟩:=isl
  exact⟨o,pf_ _ ho,q⟩
 ·intro b hb
  have hs:(s.heap.push { cls:=.type "list_iterator",data:=.fields #[.ref p,.int 0 0] }).objs.size=s.heap.objs.size+1:=ra_ ..
  show b < (s.heap.push _).objs.size
  rw[hs]
  rcases pz_.mp hb with z | z
  ·rw[z];exact ri_ _
  ·have z':b=p:=by simpa using z
   rw[z'];exact w6_ hlt
 ·rw[pp_];omega
 ·obtain⟨t,rfl⟩:=hval _ _ hv
  rw[pp_]
  obtain⟨b1,b2⟩:=argBest_lt (fun i=>ns.getD i 0) (its.length - 1)
  have I1:Inv X pins σ H { s with heap:=s.heap.push { cls:=.type "list_iterator",data:=.fields #[.ref p,.int 0 0] },toks:=s.toks }:=I.kept fun b u q=>pf_ _ q
  have f1:=I.fpOk (H':=H) (b:=s.heap.objs.size) (pg_ _) (I.hok.fresh (pg_ _))
  refine⟨.int _,H,I1.turned (t':=tk) (it:=s.heap.objs.size) (fun b o hb q=>k b o (by simpa using hb) q) f1.1 f1.2.1 f1.2.2.2.1 f1.2.2.2.2.1 f1.2.2.2.2.2,⟨_,rfl⟩,q _ ?_ fun n hn=>?_⟩
  ·rw[pe_,pa_ (show argBest _ _ < ns.length by omega)]
   exact pw_ _
  ·obtain⟨j,hj,rfl⟩:=List.getElem_of_mem hn
   have:=b2 j (by omega)
   rw[pe_ (i:=j),pa_ hj] at this
   exact this
end
end L2
namespace L2
open PySem PySem.Spec PyProof.Rows
def prOf (H:Hp) (v:V):Option (Int×Int):=match v with
 | .ref a=>match H a with
  | some (.tup [.int i,.int j])=>some (i,j)
  | _=>none
 | _=>none
theorem ur_ {H:Hp} {v:V} {i j:Int} (h:prOf H v=some (i,j)):∃ a,v=.ref a/\H a=some (.tup [.int i,.int j]):=by
 unfold prOf at h
 split at h
 ·rename_i a
  split at h
  ·rename_i e
   cases h
   exact⟨a,rfl,e⟩
  ·cases h
 ·cases h
theorem jns_ {H:Hp} {a:Addr} {i j:Int} (h:H a=some (.tup [.int i,.int j])):prOf H (.ref a)=some (i,j):=by
 unfold prOf
 simp only[h]
section
variable {X:Cx}
def fInT (neg:Bool):R2:=fun x y H Q=>∃(b p:Addr) (i j:Int) (xs:List V) (es:List (Int×Int)),x=.ref b/\H b=some (.tup [.int i,.int j])/\y=.ref p/\H p=some (.lst xs)/\xs.map (prOf H)=es.map some/\Q (.bl (xor neg (decide ((i,j)∈es)))) H
def eqPr (H:Hp) (ij:Int×Int) (u:Value):Bool:=match u with
 | .ref a=>decide (prOf H (.ref a)=some ij)
 | _=>false
theorem jom_ {H:Hp} {a:Addr} {i j:Int} (h:H a=some (.tup [.int i,.int j])):Is H (.ref a) (.tup [.int i,.int j]):=by
 simp only[Is]
 exact⟨a,_,rfl,h,by simp[L2.IsL,Is]⟩
theorem jvf_ (i j k l:Int):PyData.eqv (toP (.tup [.int i,.int j])) (toP (.tup [.int k,.int l]))=decide (i=k/\j=l):=by
 simp only[toP,toPs,PyData.eqv,PyData.eqvAll]
 first | (by_cases h1:i=k <;> by_cases h2:j=l <;> simp[h1,h2]) | simp
theorem jts_ {H:Hp} {ij:Int×Int}:∀{xs:List V} {us:List Value} {es:List (Int×Int)},Vals xs us->xs.map (prOf H)=es.map some->us.any (eqPr H ij)=decide (ij∈es)
 | _,_,[],.nil,_=>by simp
 | _,_,_::_,.nil,h=>by simp at h
 | _,_,[],.cons _ _,h=>by simp at h
 | x::xs,u::us,e::es,.cons r t,h=>by
  simp only[pj_,r0_] at h
  obtain⟨a,rfl,ha⟩:=ur_ (i:=e.1) (j:=e.2) h.1
  cases r
  rw[qv_,jts_ t h.2]
  unfold eqPr
  simp only[h.1,s5_,pz_]
  by_cases c:e=ij
  ·subst c;simp
  ·have c2:¬ ij=e:=fun z=>c z.symm
   simp[c,c2]
theorem jup_ {pins:List (Addr×Obj)} {σ:St} {H:Hp} {s:Shared} {b:Addr} {i j:Int} (I:Inv X pins σ H s) (hb:H b=some (.tup [.int i,.int j])) (hu:X.A.units+64 < cLine):∀{xs:List V} {us:List Value} {es:List (Int×Int)},Vals xs us->xs.map (prOf H)=es.map some->∀ w∈us,q0_ X.A.in1 s w (.ref b) (eqPr H (i,j) w)
 | _,_,_,.nil,_=>fun w hw=>nomatch hw
 | _,_,[],.cons _ _,h=>by simp at h
 | x::xs,u::us,e::es,.cons r t,h=>fun w hw=>by
  simp only[pj_,r0_] at h
  rcases pz_.mp hw with rfl | hw
  ·obtain⟨a,rfl,ha⟩:=ur_ (i:=e.1) (j:=e.2) h.1
   cases r
   obtain⟨as,r1⟩:=Is.reads I.hok (jom_ ha) (rfl:RelV (.ref a) (.ref a))
   obtain⟨bs,r2⟩:=Is.reads I.hok (jom_ hb) (rfl:RelV (.ref b) (.ref b))
   have:=SeqAt.eqAt_reads _ _ X.A.in1 s _ _ _ _ r1 r2 (by simp[toP,toPs,t1_,ty_]) (by simp[toP,toPs,t1_,ty_]) (by
    have:X.A.in1.units<=X.A.units+1:=by first | exact pg_ _ | simp
    have d1:kx_ (toP (.tup [.int e.1,.int e.2]))<=2:=by simp[toP,toPs,kx_,ky_]
    omega)
   rw[jvf_] at this
   have e2:eqPr H (i,j) (.ref a)=decide (e.1=i/\e.2=j):=by
    unfold eqPr
    simp only[h.1,s5_]
    congr 1
    rw[Prod.ext_iff]
   rw[e2];exact this
  ·exact jup_ I hb hu t h.2 w hw
theorem jtl_ (hu:X.A.units+64 < cLine):OpR X (compareOp .NotIn) (fInT true):=by
 intro pins s σ H x y v u Q I rx ry h
 obtain⟨b,p,i,j,xs,es,rfl,hb,rfl,hp,hx,q⟩:=h
 cases rx
 cases ry
 obtain⟨its,r,pl,hz⟩:=I.list (SqL.of hp)
 refine SeqAt.notIn_listAt (eqPr H (i,j)) pl.isList (fun w hw=>jup_ I hb hu r hx w (by simpa using hw)) ⟨.bl _,H,I,rfl,?_⟩
 rw[show its.toArray.any (eqPr H (i,j))=its.any (eqPr H (i,j)) by simp,jts_ r hx]
 simpa using q
end
end L2
set_option maxHeartbeats 4000000
namespace K75
theorem _root_.L2.Room.mo_{k l:Nat} {A:PySem.Around} (h:L2.Room k A) (e:l<=k:=by first | decide | omega):L2.Room l A:=h.mono e
open PySem L2
local macro_rules | `(tactic| walk_at "f") => `(tactic| exact ⟨rfl,rfl,rfl,by decide +kernel,rfl,by decide +kernel,by decide +kernel⟩)
local macro_rules | `(tactic| walk_at "sc")=>`(tactic| first | assumption | omega | exact rfl | decide | exact szn (by omega) | (simp only[pr_,p1_,pc_,js_] <;> omega) | trivial)
local macro_rules | `(tactic| walk_at "sq")=>`(tactic| first | assumption | exact jqy_ | exact jpv_ | (exact jw_ (by assumption)) | (exact jcq_ (by assumption)))
local macro_rules | `(tactic| walk_at "sl")=>`(tactic| first | assumption | exact SqL.of jb_ | exact SqL.of (by assumption))
local macro_rules | `(tactic| walk_at "st")=>`(tactic| first | assumption | exact SqT.of jb_ | exact SqT.of (by assumption))
local macro_rules | `(tactic| walk_at "lq")=>`(tactic| first | assumption | exact juf_ | (exact x5_ (by assumption)))
local macro_rules | `(tactic| walk_at "at")=>`(tactic| first | exact jnr_ _ _ | exact jmw_ _ _ _ | exact jrc_ _ _ _ _ | exact jyv_ _ _ _ _ _ | assumption)
local macro_rules | `(tactic| walk_at "mu")=>`(tactic| first | (exact CMul.l (by omega) (by omega)) | (exact CMul.r (by omega) (by omega)) | (exact CMul.l (by decide) (by decide)) | (exact CMul.r (by decide) (by decide)))
local macro_rules | `(tactic| walk_at "sd")=>`(tactic| first | omega | (simp only[pd_,pr_,p1_,pc_,y3_] <;> omega))
local macro_rules | `(tactic| walk_at "g1")=>`(tactic| first
 | (with_reducible refine jit_ ?_) | (with_reducible refine i_ifs ?_) | (with_reducible refine i_asg ?_) | (with_reducible refine i_op ?_) | ((with_reducible refine' jyu_ ?k1 ?_);(case k1=>exact rfl)) | (with_reducible refine i_c ?_)
 | (with_reducible refine i_ret ?_) | (with_reducible refine i_next ?_) | (with_reducible refine jsd_ ?_) | (with_reducible refine j7_ ?_) | (with_reducible refine i_gsub ?_) | (with_reducible refine jzv_ ?_) | (with_reducible refine i_bl ?_)
 | (with_reducible refine i_fI0 ?_) | (with_reducible refine i_addI ?_) | ((with_reducible refine' i_fI ?k1 ?_);(case k1=>walk_at "sc")) | ((with_reducible refine' i_mulI ?k1 ?_);(case k1=>walk_at "mu"))
 | ((with_reducible refine' z1_ ?k1 ?k2 ?_);(case k1=>walk_at "sq");(case k2=>walk_at "at")) | (with_reducible refine jkw_ ?_) | (with_reducible refine jzg_ ?_) | (with_reducible refine i_cb ?_) | (with_reducible refine jzp_ ?_)
 | (with_reducible refine i_and ?_) | (with_reducible refine i_or ?_) | (with_reducible refine i_not ?_) | (with_reducible refine i_andV ?_) | (with_reducible refine i_orV ?_) | (with_reducible refine i_notV ?_) | (with_reducible refine i_ifE ?_) | (with_reducible refine jxd_ ?_)
 | (with_reducible refine i_un ?_) | (with_reducible refine i_neg ?_) | (with_reducible refine i_sl ?_) | (with_reducible refine jvj_ ?_) | (with_reducible refine i_part ?_) | (with_reducible refine i_exI ?_)
 | ((with_reducible refine' i_eq ?k1 ?_);(case k1=>exact rfl)) | ((with_reducible refine' i_ne ?k1 ?_);(case k1=>exact rfl)) | (with_reducible refine i_is ?_) | (with_reducible refine jwr_ ?_) | (with_reducible refine i_inS ?_)
 | ((with_reducible refine' i_lenC ?k1 ?_);(case k1=>walk_at "sd")) | ((with_reducible refine' jsk_ ?k1 ?_);(case k1=>walk_at "sc")) | ((with_reducible refine' i_lenR ?k1 ?_);(case k1=>walk_at "sq")) | (with_reducible refine i_1I ?_) | (with_reducible refine i_2I ?_) | (with_reducible refine i_intB ?_) | (with_reducible refine i_intI ?_)
 | ((with_reducible refine' xk_ ?k1 ?_);(case k1=>walk_at "sd")) | ((with_reducible refine' i_slC ?k1 ?_);(case k1=>walk_at "sd")) | ((with_reducible refine' jrm_ ?k1 ?_);(case k1=>walk_at "sc")) | ((with_reducible refine' jze_ ?k1 ?_);(case k1=>walk_at "sc")) | (with_reducible refine jzx_ ?_) | (with_reducible refine i_truI ?_) | (with_reducible refine i_SS ?_) | (with_reducible refine i_SSI ?_)
 | ((with_reducible refine' jlx_ ?k1 ?k2 ?_);(case k1=>first | assumption | exact jb_);(case k2=>walk_at "sc")) | (with_reducible refine jzq_ ?_) | (with_reducible refine i_rng2 ?_) | ((with_reducible refine' i_r1 ?k1 ?_);(case k1=>omega)) | (with_reducible refine i_comp ?_) | (with_reducible refine i_true ?_)
 | (with_reducible refine i_data ?_) | (with_reducible refine i_bm ?_) | (with_reducible refine i_bm0 ?_) | (with_reducible refine i_tyS ?_) | ((with_reducible refine' i_tyL ?k1 ?_);(case k1=>walk_at "sl")) | (with_reducible refine i_for ?_) | (with_reducible refine i_any ?_) | (with_reducible refine jzs_ ?_) | ((with_reducible refine' jlc_ ?k1 ?_);(case k1=>walk_at "sl")) | ((with_reducible refine' jsr_ ?k1 ?_);(case k1=>walk_at "st")) | (with_reducible refine jvs_ ?_) | (with_reducible refine i_enum ?_) | (with_reducible refine i_enS ?_)
 | ((with_reducible refine' i_lenK ?k1 ?_);(case k1=>assumption)) | ((with_reducible refine' jza_ ?k1 ?k2 ?_);(case k1=>assumption);(case k2=>walk_at "at"))
 | (with_reducible refine i_lst ?_) | (with_reducible refine i_tup ?_) | (with_reducible refine i_retN ?_) | ((with_reducible refine' u6_ ?k1 ?_);(case k1=>first | exact rfl | decide)) | ((with_reducible refine' vd_ ?k1 ?_);(case k1=>first | exact rfl | decide)) | ((with_reducible refine' iteDF ?k1 ?_);(case k1=>intro z;cases z)) | ((with_reducible refine' iteDT ?k1 ?_);(case k1=>exact rfl)) | ((with_reducible refine' i_sz ?k1 ?_);(case k1=>exact szc rfl)) | ((with_reducible refine' i_isi ?k1 ?k2 ?_);(case k1=>first | exact rfl | (exact jyb_ (by assumption)) | (exact jxc_ (by assumption)));(case k2=>exact rfl)) | ((with_reducible refine' i_r2 ?k1 ?_);(case k1=>omega)) | ((with_reducible show Ends.nx _ _ _);dsimp only) | ((with_reducible show Ends.rt _ _ _);dsimp only) | ((with_reducible refine' jth_ ?k1 ?k2 ?_);(case k1=>first | assumption | exact jb_);(case k2=>first | exact rfl | (exact jmu_ (by omega) (by omega)))))
local macro_rules | `(tactic| walk_at "go")=>`(tactic| repeat (walk_at "g1"))
seal L2.PSs L2.PS L2.PE L2.PT L2.PA L2.PI L2.PG L2.PTs L2.PGs L2.PO L2.PW
def top (i:Nat):Stmt:=PySem.Challenge.pw_breakwords_k75_whole_fewest_lines.main.body.getD i (.Pass ⟨0,0,0,0⟩)
structure Txt (mg:Str->Option Value) (tk:Nat->Tok):Prop where
 z_len:mg "len"=none
 z_abs:mg "abs"=none
 z_all:mg "all"=none
 z_range:mg "range"=none
 z_enumerate:mg "enumerate"=none
 z_isinstance:mg "isinstance"=none
 z_tuple:mg "tuple"=none
 z_list:mg "list"=none
 z_bool:mg "bool"=none
 z_str:mg "str"=none
 z_int:mg "int"=none
 z_min:mg "min"=none
 z_max:mg "max"=none
 z_reversed:mg "reversed"=none
 z_ValueError:mg "ValueError"=none
 m_LETTERS:mg "LETTERS"=some (.str "abcdefghijklmnopqrstuvwxyz" (tk 0))
 m_MOST_LETTERS:mg "MOST_LETTERS"=some (.int 8 (tk 1))
structure Cs (K:pb_) (mg:Str->Option Value) (ad:Nat->Addr):Prop where
 m_WordError:mg "WordError"=some (.ref (ad 0))
 b_WordError:ExcBase K (ad 0)
 w_WordError:ExcW K (ad 0)
 m_NoWord:mg "NoWord"=some (.ref (ad 1))
 x_NoWord:Exc K (ad 0) (ad 1)
 n_NoWord:NoAttr K (ad 1) "place"
 m_NoPattern:mg "NoPattern"=some (.ref (ad 2))
 x_NoPattern:Exc K (ad 0) (ad 2)
 n_NoPattern:NoAttr K (ad 2) "place"
 m_NoThing:mg "NoThing"=some (.ref (ad 3))
 x_NoThing:Exc K (ad 0) (ad 3)
 n_NoThing:NoAttr K (ad 3) "place"
 m_TooNarrow:mg "TooNarrow"=some (.ref (ad 4))
 x_TooNarrow:Exc K (ad 0) (ad 4)
 n_TooNarrow:NoAttr K (ad 4) "place"
 m_Twice:mg "Twice"=some (.ref (ad 5))
 x_Twice:Exc K (ad 0) (ad 5)
 n_Twice:NoAttr K (ad 5) "word"
 m_NoTongue:mg "NoTongue"=some (.ref (ad 6))
 x_NoTongue:Exc K (ad 0) (ad 6)
 n_NoTongue:NoAttr K (ad 6) "name"
 m_NoRow:mg "NoRow"=some (.ref (ad 7))
 x_NoRow:Exc K (ad 0) (ad 7)
 i_NoRow:po_ K (.ref (ad 7)) "__init__"=some (some (.builtin xIni))
 nd:([ad 0,ad 1,ad 2,ad 3,ad 4,ad 5,ad 6,ad 7]:List Addr).Nodup
abbrev s_TooNarrow_init:Stmt:=vw_ (top 8) 0
theorem sc_TooNarrow_init:FnScope ["self","place"] ["self","place"] (jl_ s_TooNarrow_init):=by walk_at "f"
section
variable {P:Program} {w:World} {K:pb_} {mg:Str->Option Value} {base:Heap} {f:Addr} {fd:FuncData} {ad:Nat->Addr}
theorem u7_ (Z:Cs K mg ad) (F:Fun K "__init__" "TooNarrow.__init__" s_TooNarrow_init f fd):FnOk P w K mg base CX0 1 f fd ["self","place"] (jnd_ okTx (ad 4) "place"):=by
 refine F.ok sc_TooNarrow_init (fun vs H Q E h=>?_) (fun cdv A outer s H vs Q E hr h=>?_)
 ·obtain⟨e,y,fr,rfl,_⟩:=h
  rfl
 obtain⟨e,y,fr,rfl,hX,hy,q⟩:=h
 have nd:=sc_TooNarrow_init.nd
 refine⟨_,(je_ (zq_ (jrj_ Z.b_WordError rfl Z.m_WordError (ja_ (pv 0) (ja_ (pe_fs (jgm_ j1_ (jgm_ (pe_fv (pv 1)) (jgm_ j1_ pj_nil)))) jc_))))
  (jh_ (jxn_ (pv 0) (pv 1) rfl))),?_⟩
 rw[show L2.start ["self","place"] [.ref e,y]=[some (.ref e),some y] from rfl]
 refine jit_ (jsd_ (jxh_ (jkw_ (jyu_ rfl (jkw_ (i_fs3 (by decide) (by decide) hy rfl fun z=>jzg_ ⟨e,ad 4,none,fr,_,rfl,hX,Z.x_TooNarrow,?_⟩))))))
 exact⟨y,rfl,.ref e,rfl,e,ad 4,ad 0,fr,rfl,hX,Z.x_TooNarrow,Z.n_TooNarrow,fun d hd hde=>q d hd hde⟩
end
abbrev s_law_feed:Stmt:=top 39
theorem sc_law_feed:FnScope ["_law_script","_law_k","_law_cell","_law_left"] ["_law_script","_law_k"] (jl_ s_law_feed):=by walk_at "f"
abbrev s_law_next:Stmt:=top 40
theorem sc_law_next:FnScope ["_law_feed_here","_law_many","_law_digit","_law_mixed"] ["_law_feed_here","_law_many"] (jl_ s_law_next):=by walk_at "f"
section
variable {P:Program} {w:World} {K:pb_} {mg:Str->Option Value} {base:Heap} {f:Addr} {fd:FuncData} {tk:Nat->Tok}
theorem jjz_ (T:Txt mg tk) (F:Fun K "_law_feed" "_law_feed" s_law_feed f fd):FnOk P w K mg base CX0 1 f fd ["_law_script","_law_k"] (jlj_ K):=by
 refine F.ok sc_law_feed (fun vs H Q E h=>?_) (fun cdv A outer s H vs Q E hr h=>?_)
 ·obtain⟨a,ns,k,rfl,_⟩:=h
  rfl
 obtain⟨a,ns,k,rfl,hl,hk0,hk1,q⟩:=h
 have nd:=sc_law_feed.nd
 refine⟨_,(je_ (jk_ (i:=2) nd rfl (Or.inl rfl) jd_)
  (je_ (ze_ (jq_ o_gt (jp_ (zo_ (K:=K)) rfl T.z_len (by decide +kernel) (ja_ (pv 0) jc_)) jd_ (jv_ _))
   (jh_ (jk_ (i:=2) nd rfl (Or.inl rfl) (jt_ (jo_ (K:=K)) (pv 0) (jn_ vq_ (pv 1) (jp_ (zo_ (K:=K)) rfl T.z_len (by decide +kernel) (ja_ (pv 0) jc_))) (fun _ _=>rfl))))
   j2_)
  (je_ (jk_ (i:=3) nd rfl (Or.inl rfl) (jp_ c_abs rfl T.z_abs (by decide +kernel) (ja_ (pv 2) jc_)))
  (je_ (ze_ (jq_ o_lt (pv 3) (jn_ o_pow jd_ jd_) (jv_ _))
   (jh_ (jk_ (i:=3) nd rfl (Or.inl rfl) jd_))
   j2_)
  (jh_ (jr_ (j5_ (ja_ (pv 3) (ja_ (jn_ vq_ (jn_ jx_ (jn_ jx_ (pv 2) (jn_ ux_ jd_ (pv 1))) jd_) jd_) (ja_ jd_ jc_)))))))))),?_⟩
 rw[show L2.start ["_law_script","_law_k","_law_cell","_law_left"] [.ref a,.int k]=[some (.ref a),some (.int k),none,none] from rfl]
 have fin:∀(cell left:Int),0<=left->∀ p,H p=none->Q (.ref p) (upd H p (.lst [.int left,.int ((cell+7919 * k+13) % 2147483399),.int 0])):=fun cell left h0 p hp =>
  q p _ hp ⟨left,_,0,jb_,h0,s2_ _ (by decide),su_ _ (by decide),kg_ 0,kg_ 0⟩ ((Off.refl p H).upd _)
 have hlen:(ns.map V.int).length=ns.length:=pc_ _
 walk_at "go"
 refine iteD (fun c=>?_) (fun c=>?_)
 ·rw[hlen] at c
  walk_at "go"
  have hix:(k % (ns.length:Int)).toNat < ns.length:=by
   have h1:=su_ k c
   have h2:=s2_ k (show (ns.length:Int)≠0 by omega)
   omega
  refine jza_ (v:=.int ns[(k % (ns.length:Int)).toNat]) hl ?_ ?_
  ·rw[hlen]
   exact zy_ (s2_ k (by omega)) (by rw[pm_,pa_ hix];rfl)
  walk_at "go"
  refine iteD (fun c=>?_) (fun c=>?_)
  ·walk_at "go"
   exact(fun p hp=>fin _ 0 (kg_ 0) p hp)
  ·walk_at "go"
   refine(fun p hp=>fin _ _ ?_ p hp)
   split <;> omega
 ·walk_at "go"
  exact fun p hp=>fin 0 0 (kg_ 0) p hp
theorem jjh_ (F:Fun K "_law_next" "_law_next" s_law_next f fd):FnOk P w K mg base CX0 1 f fd ["_law_feed_here","_law_many"] yo_:=by
 refine F.ok sc_law_next (fun vs H Q E h=>?_) (fun cdv A outer s H vs Q E hr h=>?_)
 ·obtain⟨p,m,n,rfl,_⟩:=h
  rfl
 obtain⟨p,m,n,rfl,⟨a,b,c,h1,ha,hb0,hb1,hc0,hc1⟩,hn,hm0,hm1,q⟩:=h
 have nd:=sc_law_next.nd
 refine⟨_,(je_ (ze_ (jq_ o_gt (jt_ (jo_ (K:=K)) (pv 0) jd_ (fun _ _=>rfl)) jd_ (jv_ _))
   (je_ (jk_ (i:=2) nd rfl (Or.inl rfl) (jn_ vq_ (jt_ (jo_ (K:=K)) (pv 0) jd_ (fun _ _=>rfl)) (pv 1)))
  (je_ (jdc_ (jn_ jsh_ (jt_ (jo_ (K:=K)) (pv 0) jd_ (fun _ _=>rfl)) (pv 1)) (jgp_ (pv 0) jd_ jmz_))
  (jh_ (jr_ (pv 2)))))
   j2_)
  (je_ (jdc_ (jn_ jx_ (jt_ (jo_ (K:=K)) (pv 0) jd_ (fun _ _=>rfl)) jd_) (jgp_ (pv 0) jd_ jmz_))
  (je_ (jk_ (i:=3) nd rfl (Or.inl rfl) (jn_ vq_ (jn_ ux_ (jn_ vq_ (jn_ jx_ (jn_ jx_ (jt_ (jo_ (K:=K)) (pv 0) jd_ (fun _ _=>rfl)) (jn_ ux_ jd_ (jt_ (jo_ (K:=K)) (pv 0) jd_ (fun _ _=>rfl)))) jd_) jd_) jd_) jd_))
  (je_ (jk_ (i:=3) nd rfl (Or.inl rfl) (jn_ vq_ (jn_ ux_ (jn_ vq_ (jn_ jx_ (jn_ ux_ (pv 3) jd_) (jn_ ux_ (jt_ (jo_ (K:=K)) (pv 0) jd_ (fun _ _=>rfl)) (jt_ (jo_ (K:=K)) (pv 0) jd_ (fun _ _=>rfl)))) jd_) jd_) jd_))
  (jh_ (jr_ (jn_ vq_ (jn_ jsh_ (pv 3) jd_) (pv 1)))))))),?_⟩
 rw[show L2.start ["_law_feed_here","_law_many","_law_digit","_law_mixed"] [.ref p,.int m]=[some (.ref p),some (.int m),none,none] from rfl]
 unfold zz_ at hn
 walk_at "go"
 refine iteD (fun c0=>?_) (fun c0=>?_)
 ·walk_at "go"
  exact q _ _ (s2_ _ (by omega)) (su_ _ hm0) ⟨a / m,b,c,jb_,Int.ediv_nonneg ha (by omega),hb0,hb1,hc0,by omega⟩ ((Off.refl p H).upd _)
 ·walk_at "go"
  exact q _ _ (s2_ _ (by omega)) (su_ _ hm0) ⟨a,b,c+1,jb_,ha,hb0,hb1,by omega,by omega⟩ ((Off.refl p H).upd _)
end
abbrev s_law_letters:Stmt:=top 41
theorem sc_law_letters:FnScope ["_law_feed_here","_law_every","_law_at"] ["_law_feed_here"] (jl_ s_law_letters):=by walk_at "f"
abbrev s_law_word:Stmt:=top 42
theorem sc_law_word:FnScope ["_law_feed_here","_law_letters_here","_law_most"] ["_law_feed_here","_law_letters_here","_law_most"] (jl_ s_law_word):=by walk_at "f"
section
variable {P:Program} {w:World} {K:pb_} {mg:Str->Option Value} {base:Heap} {f:Addr} {fd:FuncData} {tk:Nat->Tok}
theorem jcu_ (T:Txt mg tk) (F:Fun K "_law_letters" "_law_letters" s_law_letters f fd) (D_law_next:Dn P w K mg base "_law_next" 1 ["_law_feed_here","_law_many"] yo_):FnOk P w K mg base CX0 2 f fd ["_law_feed_here"] jap_:=by
 refine F.ok sc_law_letters (fun vs H Q E h=>?_) (fun cdv A outer s H vs Q E hr h=>?_)
 ·obtain⟨p,n,rfl,_⟩:=h
  rfl
 obtain⟨p,n,rfl,hf,hn,q⟩:=h
 have nd:=sc_law_letters.nd
 refine⟨_,(je_ (jk_ (i:=1) nd rfl (Or.inl rfl) j1_)
  (je_ (ze_ (jq_ (o_eq hr.units) (jj_ D_law_next hr.mo_ rfl (ja_ (pv 0) (ja_ jd_ jc_))) jd_ (jv_ _))
   (jh_ (jr_ (pv 1)))
   j2_)
  (je_ (jk_ (i:=2) nd rfl (Or.inl rfl) (jj_ D_law_next hr.mo_ rfl (ja_ (pv 0) (ja_ jd_ jc_))))
  (jh_ (jr_ (j0_ (zc_ (K:=K)) (pv 1) (jz_ (pv 2)) (jz_ (jn_ jx_ (jn_ jx_ (pv 2) jd_) (jj_ D_law_next hr.mo_ rfl (ja_ (pv 0) (ja_ jd_ jc_))))))))))),?_⟩
 rw[show L2.start ["_law_feed_here","_law_every","_law_at"] [.ref p]=[some (.ref p),none,none] from rfl]
 rw[jub_]
 walk_at "go"
 refine⟨p,8,n,rfl,hf,by omega,by decide,by decide,fun d H1 hd0 hd1 hf1 o1=>?_⟩
 walk_at "go"
 refine iteD (fun c=>?_) (fun c=>?_)
 ·walk_at "go"
  exact q LETL H1 uw_ (by decide) (by decide) (hf1.mono (by omega)) o1
 ·walk_at "go"
  refine⟨p,23,n+1,rfl,hf1,by omega,by decide,by decide,fun at_ H2 ha0 ha1 hf2 o2=>?_⟩
  walk_at "go"
  refine⟨p,3,n+1+1,rfl,hf2,by omega,by decide,by decide,fun d3 H3 hb0 hb1 hf3 o3=>?_⟩
  walk_at "go"
  rw[joe_]
  have hl:LETL.length=26:=rfl
  have hc:=zp_ LETL (some at_) (some (at_+2+d3))
  rw[hl] at hc
  have e1:sx 26 0 (some at_)=at_.toNat:=by simp only[sx];rw[if_neg (by omega)];omega
  have e2:sx 26 26 (some (at_+2+d3))=min (at_+2+d3).toNat 26:=by simp only[sx];rw[if_neg (by omega)]
  rw[e1,e2] at hc
  exact q _ H3 (ul_ uw_ _ _) (by omega) (by omega) (hf3.mono (by omega)) ((o1.trans o2).trans o3)
theorem jkj_ (T:Txt mg tk) (F:Fun K "_law_word" "_law_word" s_law_word f fd) (D_law_next:Dn P w K mg base "_law_next" 1 ["_law_feed_here","_law_many"] yo_):FnOk P w K mg base CX0 2 f fd ["_law_feed_here","_law_letters_here","_law_most"] jdd_:=by
 refine F.ok sc_law_word (fun vs H Q E h=>?_) (fun cdv A outer s H vs Q E hr h=>?_)
 ·obtain⟨p,n,l,m,rfl,_⟩:=h
  rfl
 obtain⟨p,n,l,m,rfl,hf,hn,hl,hl1,hl2,hm1,hm2,q⟩:=h
 have nd:=sc_law_word.nd
 refine⟨_,(jh_ (jr_ (zn_ (K:=K) qk_ sz_ s0_ jgw_ j1_ (ja_ (zu_ ["_law_letters_here","_law_feed_here","_law_k"] [some 1,some 0,none] rfl (by kernel_rfl) rfl (z0_ rfl T.z_range (ja_ (jn_ jx_ jd_ (jj_ D_law_next hr.mo_ rfl (ja_ (pv 0) (ja_ (pv 2) jc_)))) jc_)) (fun _ _ _ _=>(jm_ (i:=2) (show (["_law_letters_here","_law_feed_here","_law_k"]:List Str).Nodup by decide +kernel) rfl (Or.inl rfl) (Or.inr rfl))) (fun _ _ _ _=>xg_) (fun _ _ _ _=>(jt_ (jo_ (K:=K)) (pv 0) (jj_ D_law_next hr.mo_ rfl (ja_ (pv 1) (ja_ (jp_ (zo_ (K:=K)) rfl T.z_len (by decide +kernel) (ja_ (pv 0) jc_)) jc_))) (fun _ _=>rfl)))) jc_)))),?_⟩
 rw[show L2.start ["_law_feed_here","_law_letters_here","_law_most"] [.ref p,.str (S l),.int (m:Int)]=[some (.ref p),some (.str (S l)),some (.int (m:Int))] from rfl]
 rw[x1_]
 walk_at "go"
 refine⟨p,m,n,rfl,hf,by omega,by omega,by omega,fun d H1 hd0 hd1 hf1 o1=>?_⟩
 walk_at "go"
 intro r hr0
 have k1:Kept p H (upd H1 r (.lst [])):=o1.kept.new hr0 _
 have pr:p≠r:=by
  obtain⟨o,e⟩:=hf1.some
  exact jg_ e hr0
 refine x8_ (fun i acc σ H'=>∃(v:Option V) (ws:List Nat),σ=[some (.str (S l)),some (.ref p),v]/\acc=(ws.map fun c=>V.str (S [c]))/\ws.length=i/\Low ws/\FeedAt H' p (n+1+i)/\Kept p H H'/\H' r=some (.lst acc))
  ⟨none,[],rfl,rfl,rfl,(fun c hc=>nomatch hc),hf1.new hr0,k1,jb_⟩ (fun i acc σ H' ⟨_,ws,_,e,e1,_,_,_,e2⟩=>⟨e2,by rw[e,pc_];omega⟩) (szn (by omega)) ?_ ?_
 ·rintro i acc σ H' hi ⟨v,ws,rfl,rfl,hw1,hw2,hf2,k2,e2⟩
  have hll:(S l).length<=sizeLine:=szn (by rw[js_];omega)
  walk_at "go"
  refine⟨p,_,n+1+i,rfl,hf2,by omega,by omega,by omega,fun c H3 hc0 hc1 hf3 o3=>?_⟩
  have hcl:c.toNat < l.length:=by omega
  refine jrb_ (c:=l[c.toNat]) hll (zy_ hc0 (by rw[jyn_];simp[hcl])) ?_
  have e3:H3 r=some (.lst (ws.map fun c=>V.str (S [c]))):=(o3 r pr.symm).trans e2
  refine⟨e3,_,ws++[l[c.toNat]],rfl,by rw[pi_];rfl,by rw[pd_,hw1];rfl,xu_ hw2 (fun x hx=>?_),?_,?_,jb_⟩
  ·have:x=l[c.toNat]:=by simpa using hx
   rw[this]
   exact hl _ (pw_ _)
  ·obtain⟨a1,b1,c1,g1,g2⟩:=hf3
   exact⟨a1,b1,c1,by rw[jf_ pr];exact g1,g2⟩
  ·intro b o hb e
   have hbr:b≠r:=fun z=>by
    subst z
    have:=k1
    by_cases hz:H b=none
    ·rw[hz] at e;cases e
    ·have e4:=o1 b hb
     rw[hr0] at e4
     exact hz e4.symm
   rw[jf_ hbr]
   exact(o3 b hb).trans (k2 b o hb e)
 ·rintro acc σ H' ⟨v,ws,rfl,rfl,hw1,hw2,hf2,k2,e2⟩
  walk_at "go"
  have hs:=joi_ ws
  refine jmh_ (ys:=ws.map fun c=>S [c]) (by rw[<- jmy_];exact x5_ e2) ?_ ?_
  ·rw[hs,pc_,js_]
   simp only[p1_,l3_]
   omega
  ·rw[jce_]
   walk_at "go"
   exact q ws H' hw2 (by omega) (by omega) (hf2.mono (by omega)) k2
end
abbrev s_law_numbers:Stmt:=top 43
theorem sc_law_numbers:FnScope ["_law_feed_here","_law_signs","_law_few","_law_numbers_here","_law_place","_law_number"] ["_law_feed_here","_law_signs","_law_few"] (jl_ s_law_numbers):=by walk_at "f"
abbrev s_law_pattern:Stmt:=top 44
theorem sc_law_pattern:FnScope ["_law_feed_here","_law_letters_here","_law_word_here","_law_most","_law_text","_law_at","_law_signs"] ["_law_feed_here","_law_letters_here","_law_word_here","_law_most"] (jl_ s_law_pattern):=by walk_at "f"
def jaf_:Sp:=fun vs H Q _=>∃(p:Addr) (n:Nat) (s:List Nat) (few:Int),vs=[.ref p,.str (S s),.int few]/\FeedAt H p n/\n+100 < zz_/\s.length<=30/\0 < few/\few < 1000 /\
 ∀(t:Addr) (ns:List Int) (H':Hp),H' t=some (.tup (ns.map V.int))->ns.length=s.length+1->(∀(j:Nat) v,ns[j]?=some v->0<=v/\v<=9/\(j=0->s.head?=some 46->v=0)/\(j=s.length->s.getLast?=some 46->v=0))->FeedAt H' p (n+100)->Kept p H H'->Q (.ref t) H'
def jag_:Sp:=fun vs H Q _=>∃(p:Addr) (n:Nat) (l w:List Nat) (m:Nat),vs=[.ref p,.str (S l),.str (S w),.int (m:Int)]/\FeedAt H p n/\n+200 < zz_/\Low l/\1<=l.length/\l.length<=26/\Low w/\1<=w.length/\w.length<=20/\1<=m/\m<=22 /\
 ∀(v:V) (x:Pat) (H':Hp),Is H' v (patD x)->GP x->FeedAt H' p (n+200)->Kept p H H'->Q v H'
def GW (w:List Nat):Prop:=Low w/\1<=w.length/\w.length<=20
section
variable {P:Program} {w:World} {K:pb_} {mg:Str->Option Value} {base:Heap} {f:Addr} {fd:FuncData} {tk:Nat->Tok}
theorem jda_ (T:Txt mg tk) (F:Fun K "_law_numbers" "_law_numbers" s_law_numbers f fd) (D_law_next:Dn P w K mg base "_law_next" 1 ["_law_feed_here","_law_many"] yo_):FnOk P w K mg base CX0 2 f fd ["_law_feed_here","_law_signs","_law_few"] jaf_:=by
 refine F.ok sc_law_numbers (fun vs H Q E h=>?_) (fun cdv A outer s H vs Q E hr h=>?_)
 ·obtain⟨p,n,s,few,rfl,_⟩:=h
  rfl
 obtain⟨p,n,sg,few,rfl,hf,hn,hs,hfew,hfew2,q⟩:=h
 have nd:=sc_law_numbers.nd
 refine⟨_,(je_ (jk_ (i:=3) nd rfl (Or.inl rfl) (j5_ jc_))
  (je_ (zm_ p6_ rfl (z0_ rfl T.z_range (ja_ (jn_ jx_ (jp_ (zo_ (K:=K)) rfl T.z_len (by decide +kernel) (ja_ (pv 1) jc_)) jd_) jc_)) (jm_ (i:=4) nd rfl (Or.inl rfl))
   (je_ (jk_ (i:=5) nd rfl (Or.inl rfl) jd_)
  (je_ (ze_ (jq_ (o_eq hr.units) (jj_ D_law_next hr.mo_ rfl (ja_ (pv 0) (ja_ (pv 2) jc_))) jd_ (jv_ _))
   (jh_ (jk_ (i:=5) nd rfl (Or.inl rfl) (jn_ jx_ jd_ (jj_ D_law_next hr.mo_ rfl (ja_ (pv 0) (ja_ jd_ jc_))))))
   j2_)
  (je_ (ze_ (PW.pt (jnj_ (PW.pt (jaq_ (jq_ (o_eq hr.units) (pv 4) jd_ (jv_ _)) (jbx_ (jq_ (o_eq hr.units) (j0_ (zc_ (K:=K)) (pv 1) zj_ (jz_ jd_)) j1_ (jv_ _))))) (jhf_ (PW.pt (jaq_ (jq_ (o_eq hr.units) (pv 4) (jp_ (zo_ (K:=K)) rfl T.z_len (by decide +kernel) (ja_ (pv 1) jc_)) (jv_ _)) (jbx_ (jq_ (o_eq hr.units) (j0_ (zc_ (K:=K)) (pv 1) (jz_ (u3_ uj_ jd_)) zj_) j1_ (jv_ _))))))))
   (jh_ (jk_ (i:=5) nd rfl (Or.inl rfl) jd_))
   j2_)
  (jh_ (zq_ (zn_ (K:=K) p7_ p9_ qa_ zh_ (pv 3) (ja_ (pv 5) jc_))))))))
  (jh_ (jr_ (yb_ uq_ rfl T.z_tuple (by decide +kernel) (ja_ (pv 3) jc_)))))),?_⟩
 rw[show L2.start ["_law_feed_here","_law_signs","_law_few","_law_numbers_here","_law_place","_law_number"] [.ref p,.str (S sg),.int few]=[some (.ref p),some (.str (S sg)),some (.int few),none,none,none] from rfl]
 rw[jnm_]
 walk_at "go"
 intro a ha
 have pa:p≠a:=by obtain⟨o,e⟩:=hf.some;exact jg_ e ha
 walk_at "go"
 refine z9_ (fun i σ H'=>∃(v4 v5:Option V) (ns:List Int),σ=[some (.ref p),some (.str (S sg)),some (.int few),some (.ref a),v4,v5]/\ns.length=i/\(∀(j:Nat) v,ns[j]?=some v->0<=v/\v<=9/\(j=0->sg.head?=some 46->v=0)/\(j=sg.length->sg.getLast?=some 46->v=0))/\FeedAt H' p (n+2 * i)/\Kept p H H'/\H' a=some (.lst (ns.map V.int)))
  ⟨none,none,[],rfl,rfl,(fun j v e=>by simp at e),hf.new ha,(Kept.refl p H).new ha _,jb_⟩ ?_ ?_
 ·rintro i σ H1 hi ⟨v4,v5,ns,rfl,hl,hns,hf1,k1,e1⟩
  walk_at "go"
  refine⟨p,few,n+2 * i,rfl,hf1,by omega,hfew,by omega,fun d H2 hd0 hd1 hf2 o2=>?_⟩
  have key:∀(num:Int) (H3:Hp),0<=num->num<=9->FeedAt H3 p (n+2 * i+2)->Kept p H H3->H3 a=some (.lst (ns.map V.int)) ->
    ∀(b:Bool),(b=false->(i=0->sg.head?=some 46->num=0)/\(i=sg.length->sg.getLast?=some 46->num=0)) ->
    ∃(v4 v5:Option V) (ns':List Int),[some (V.ref p),some (.str (S sg)),some (.int few),some (.ref a),some (.int (0+(i:Int))),some (.int (if b then 0 else num))]=[some (.ref p),some (.str (S sg)),some (.int few),some (.ref a),v4,v5]/\ns'.length=i+1/\(∀(j:Nat) v,ns'[j]?=some v->0<=v/\v<=9/\(j=0->sg.head?=some 46->v=0)/\(j=sg.length->sg.getLast?=some 46->v=0)) /\
     FeedAt (upd H3 a (.lst (ns.map V.int++[.int (if b then 0 else num)]))) p (n+2 * (i+1))/\Kept p H (upd H3 a (.lst (ns.map V.int++[.int (if b then 0 else num)])))/\(upd H3 a (.lst (ns.map V.int++[.int (if b then 0 else num)]))) a=some (.lst (ns'.map V.int)):=by
   intro num H3 h0 h9 hf3 k3 e3 b hb
   refine⟨_,_,ns++[if b then 0 else num],rfl,by simp[hl],fun j v e=>?_,?_,fun c o hc e=>?_,by rw[jb_,pi_];rfl⟩
   ·by_cases hj:j < ns.length
    ·rw[tb_ hj] at e
     exact hns j v e
    ·have hj2:j=ns.length:=by
      have:=(pl_.mp e).1
      simp at this;omega
     subst hj2
     rw[wo_ (pg_ _),l4_] at e
     simp only[List.getElem?_cons_zero,s5_] at e
     subst e
     cases b with
     | true=>exact⟨kg_ 0,(by show (0:Int)<=9;decide),fun _ _=>rfl,fun _ _=>rfl⟩
     | false=>exact⟨h0,h9,fun z=>(hb rfl).1 (by omega),fun z=>(hb rfl).2 (by omega)⟩
   ·obtain⟨a1,b1,c1,g1,g2⟩:=hf3
    exact⟨a1,b1,c1,by rw[jf_ pa];exact g1,by omega⟩
   ·have hca:c≠a:=fun z=>by rw[z,ha] at e;cases e
    rw[jf_ hca];exact k3 c o hc e
  have e2:H2 a=some (.lst (ns.map V.int)):=(o2 a pa.symm).trans e1
  have hlen2:(ns.map V.int).length < 1000000:=by rw[pc_];omega
  have hz:∀(num:Int) (H3:Hp),0<=num->num<=9->FeedAt H3 p (n+2 * i+2)->Kept p H H3->H3 a=some (.lst (ns.map V.int))->True:=fun _ _ _ _ _ _ _=>trivial
  walk_at "go"
  refine iteD (fun c=>?_) (fun c=>?_)
  ·walk_at "go"
   refine⟨p,9,n+2 * i+1,rfl,hf2,by omega,by decide,by decide,fun d2 H3 hg0 hg1 hf3 o3=>?_⟩
   have e3:H3 a=some (.lst (ns.map V.int)):=(o3 a pa.symm).trans e2
   have kk:=key (1+d2) H3 (by omega) (by omega) hf3 ((k1.off o2).off o3) e3
   walk_at "go"
   refine iteD (fun c1=>?_) (fun c1=>?_)
   ·walk_at "go"
    refine iteD (fun c2=>?_) (fun c2=>?_)
    ·walk_at "go"
     exact kk true (fun z=>nomatch z)
    ·walk_at "go"
     refine iteD (fun c3=>?_) (fun c3=>?_)
     ·walk_at "go"
      refine iteD (fun c4=>?_) (fun c4=>?_)
      ·walk_at "go"
       exact kk true (fun z=>nomatch z)
      ·walk_at "go"
       refine kk false (fun _=>⟨fun _ z=>absurd (congrArg (fun l=>V.str (S l)) (head_dot.mpr z)) c2,fun _ z=>absurd (congrArg (fun l=>V.str (S l)) (last_dot.mpr z)) c4⟩)
     ·walk_at "go"
      refine kk false (fun _=>⟨fun _ z=>absurd (congrArg (fun l=>V.str (S l)) (head_dot.mpr z)) c2,fun z _=>absurd (by rw[z];simp) c3⟩)
   ·walk_at "go"
    refine iteD (fun c3=>?_) (fun c3=>?_)
    ·walk_at "go"
     refine iteD (fun c4=>?_) (fun c4=>?_)
     ·walk_at "go"
      exact kk true (fun z=>nomatch z)
     ·walk_at "go"
      refine kk false (fun _=>⟨fun z _=>absurd (by rw[z];rfl) c1,fun _ z=>absurd (congrArg (fun l=>V.str (S l)) (last_dot.mpr z)) c4⟩)
    ·walk_at "go"
     refine kk false (fun _=>⟨fun z _=>absurd (by rw[z];rfl) c1,fun z _=>absurd (by rw[z];simp) c3⟩)
  ·have kk:=key 0 H2 (by omega) (by omega) (hf2.mono (by omega)) (k1.off o2) e2 false (fun _=>⟨fun _ _=>rfl,fun _ _=>rfl⟩)
   walk_at "go"
   refine iteD (fun c1=>?_) (fun c1=>?_)
   ·walk_at "go"
    refine iteD (fun c2=>?_) (fun c2=>?_)
    ·walk_at "go"
     exact kk
    ·walk_at "go"
     refine iteD (fun c3=>?_) (fun c3=>?_)
     ·walk_at "go"
      refine iteD (fun c4=>?_) (fun c4=>?_)
      ·walk_at "go"
       exact kk
      ·walk_at "go"
       exact kk
     ·walk_at "go"
      exact kk
   ·walk_at "go"
    refine iteD (fun c3=>?_) (fun c3=>?_)
    ·walk_at "go"
     refine iteD (fun c4=>?_) (fun c4=>?_)
     ·walk_at "go"
      exact kk
     ·walk_at "go"
      exact kk
    ·walk_at "go"
     exact kk
 ·rintro σ H1 ⟨v4,v5,ns,rfl,hl,hns,hf1,k1,e1⟩
  walk_at "go"
  refine vo_ (jw_ e1) fun t H2 ht k2=>?_
  walk_at "go"
  exact q t ns H2 ht (by omega) hns ((FeedAt.same hf1 k2).mono (by omega)) (k1.same k2)
end
theorem jgy_ {α:Type} {l:List α} {lo hi:Option Int} {c:α} (h:c∈cutA l lo hi):c∈l:=se_ (ta_ h)
theorem jlt_ {l:List Nat} (h:Low l):∀ c∈l,c < 128:=fun c hc=>by
 have:=h c hc
 unfold vb_ at this
 simp at this
 omega
section
variable {P:Program} {w:World} {K:pb_} {mg:Str->Option Value} {base:Heap} {f:Addr} {fd:FuncData} {tk:Nat->Tok}
theorem jdb_ (T:Txt mg tk) (F:Fun K "_law_pattern" "_law_pattern" s_law_pattern f fd) (D_law_next:Dn P w K mg base "_law_next" 1 ["_law_feed_here","_law_many"] yo_) (D_law_word:Dn P w K mg base "_law_word" 2 ["_law_feed_here","_law_letters_here","_law_most"] jdd_) (D_law_numbers:Dn P w K mg base "_law_numbers" 2 ["_law_feed_here","_law_signs","_law_few"] jaf_):FnOk P w K mg base CX0 3 f fd ["_law_feed_here","_law_letters_here","_law_word_here","_law_most"] jag_:=by
 refine F.ok sc_law_pattern (fun vs H Q E h=>?_) (fun cdv A outer s H vs Q E hr h=>?_)
 ·obtain⟨p,n,l,w',m,rfl,_⟩:=h
  rfl
 obtain⟨p,n,l,w',m,rfl,hf,hn,hl,hl1,hl2,hw,hw1,hw2,hm1,hm2,q⟩:=h
 have nd:=sc_law_pattern.nd
 refine⟨_,(je_ (jk_ (i:=4) nd rfl (Or.inl rfl) (jn_ jx_ (jn_ jx_ j1_ (pv 2)) j1_))
  (je_ (jk_ (i:=5) nd rfl (Or.inl rfl) (jj_ D_law_next hr.mo_ rfl (ja_ (pv 0) (ja_ (jn_ vl_ (jp_ (zo_ (K:=K)) rfl T.z_len (by decide +kernel) (ja_ (pv 4) jc_)) jd_) jc_))))
  (je_ (jk_ (i:=6) nd rfl (Or.inl rfl) (j0_ (zc_ (K:=K)) (pv 4) (jz_ (pv 5)) (jz_ (jn_ jx_ (jn_ jx_ (pv 5) jd_) (jj_ D_law_next hr.mo_ rfl (ja_ (pv 0) (ja_ (pv 3) jc_)))))))
  (je_ (ze_ (jq_ (o_eq hr.units) (jj_ D_law_next hr.mo_ rfl (ja_ (pv 0) (ja_ jd_ jc_))) jd_ (jv_ _))
   (jh_ (jk_ (i:=6) nd rfl (Or.inl rfl) (jj_ D_law_word hr.mo_ rfl (ja_ (pv 0) (ja_ (pv 1) (ja_ (pv 3) jc_))))))
   j2_)
  (je_ (ze_ (jq_ (o_eq hr.units) (pv 6) j1_ (jv_ _))
   (jh_ (jk_ (i:=6) nd rfl (Or.inl rfl) (j0_ (zc_ (K:=K)) (pv 4) zj_ (jz_ jd_))))
   j2_)
  (jh_ (jr_ (z4_ (ja_ (pv 6) (ja_ (jj_ D_law_numbers hr.mo_ rfl (ja_ (pv 0) (ja_ (pv 6) (ja_ jd_ jc_)))) jc_)))))))))),?_⟩
 rw[show L2.start ["_law_feed_here","_law_letters_here","_law_word_here","_law_most","_law_text","_law_at","_law_signs"] [.ref p,.str (S l),.str (S w'),.int (m:Int)]=[some (.ref p),some (.str (S l)),some (.str (S w')),some (.int (m:Int)),none,none,none] from rfl]
 rw[jnm_]
 walk_at "go"
 have htl:([46]++w'++[46]).length=w'.length+2:=by simp
 have htc:∀ c∈[46]++w'++[46],c < 128:=fun c hc=>by
  simp only[p0_,List.mem_singleton] at hc
  rcases hc with (h | h) | h
  ·omega
  ·exact jlt_ hw c h
  ·omega
 generalize [46]++w'++[46]=tx at htl htc ⊢
 refine⟨p,_,n,rfl,hf,by omega,by omega,by omega,fun at_ H1 ha0 ha1 hf1 o1=>?_⟩
 walk_at "go"
 refine⟨p,_,n+1,rfl,hf1,by omega,by omega,by omega,fun d H2 hd0 hd1 hf2 o2=>?_⟩
 have hc1:=zp_ tx (some at_) (some (at_+1+d))
 have e1:sx tx.length 0 (some at_)=at_.toNat:=by simp only[sx];rw[if_neg (by omega)];omega
 have e2:sx tx.length tx.length (some (at_+1+d))=min (at_+1+d).toNat tx.length:=by simp only[sx];rw[if_neg (by omega)]
 rw[e1,e2] at hc1
 have hcc:∀ c∈cutA tx (some at_) (some (at_+1+d)),c < 128:=fun c hc=>htc c (jgy_ hc)
 walk_at "go"
 refine⟨p,_,n+1+1,rfl,hf2,by omega,by omega,by omega,fun d4 H3 hd40 hd41 hf3 o3=>?_⟩
 have k3:=((o1.kept).off o2).off o3
 walk_at "go"
 have hcut2:=zp_ tx none (some 2)
 have e3:sx tx.length tx.length (some 2)=2:=by simp only[sx];rw[if_neg (by decide)];show min 2 tx.length=2;omega
 rw[e3] at hcut2
 have hcut2':(cutA tx none (some 2)).length=2:=by rw[hcut2];rfl
 refine iteD (fun c=>?_) (fun c=>?_)
 ·walk_at "go"
  refine⟨p,n+3,l,m,rfl,hf3,by omega,hl,hl1,hl2,hm1,by omega,fun w2 H4 hw20 hw21 hw22 hf4 k4=>?_⟩
  have hsg1:1<=w2.length:=hw21
  have hsg2:w2.length<=22:=by omega
  have hsg3:=jlt_ hw20
  have k5:=k3.trans k4
  walk_at "go"
  refine iteD (fun c2=>?_) (fun c2=>?_)
  ·walk_at "go"
   refine⟨p,n+33,_,2,rfl,hf4,by omega,by omega,by decide,by decide,fun t ns H5 ht hns hnz hf5 k6=>?_⟩
   walk_at "go"
   intro r hr0
   walk_at "go"
   have tr:t≠r:=jg_ ht hr0
   refine q (.ref r) (cutA tx none (some 2),ns) _ (yg_ jb_ (by rw[jf_ tr];exact ht)) ⟨by show 1<=(cutA tx none (some 2)).length;omega,by show (cutA tx none (some 2)).length<=22;omega,hns,fun v hv=>?_,fun c hc=>htc c (jgy_ hc)⟩ ((hf5.new hr0).mono (by omega)) ((k5.trans k6).new hr0 _)
   obtain⟨j,hj⟩:=rn_.mp hv
   exact⟨(hnz j v hj).1,(hnz j v hj).2.1⟩
  ·walk_at "go"
   refine⟨p,n+33,_,2,rfl,hf4,by omega,by omega,by decide,by decide,fun t ns H5 ht hns hnz hf5 k6=>?_⟩
   walk_at "go"
   intro r hr0
   walk_at "go"
   have tr:t≠r:=jg_ ht hr0
   refine q (.ref r) (w2,ns) _ (yg_ jb_ (by rw[jf_ tr];exact ht)) ⟨hsg1,hsg2,hns,fun v hv=>?_,hsg3⟩ ((hf5.new hr0).mono (by omega)) ((k5.trans k6).new hr0 _)
   obtain⟨j,hj⟩:=rn_.mp hv
   exact⟨(hnz j v hj).1,(hnz j v hj).2.1⟩
 ·walk_at "go"
  refine iteD (fun c2=>?_) (fun c2=>?_)
  ·walk_at "go"
   refine⟨p,n+3,_,2,rfl,hf3,by omega,by omega,by decide,by decide,fun t ns H5 ht hns hnz hf5 k6=>?_⟩
   walk_at "go"
   intro r hr0
   walk_at "go"
   have tr:t≠r:=jg_ ht hr0
   refine q (.ref r) (cutA tx none (some 2),ns) _ (yg_ jb_ (by rw[jf_ tr];exact ht)) ⟨by show 1<=(cutA tx none (some 2)).length;omega,by show (cutA tx none (some 2)).length<=22;omega,hns,fun v hv=>?_,fun c hc=>htc c (jgy_ hc)⟩ ((hf5.new hr0).mono (by omega)) ((k3.trans k6).new hr0 _)
   obtain⟨j,hj⟩:=rn_.mp hv
   exact⟨(hnz j v hj).1,(hnz j v hj).2.1⟩
  ·walk_at "go"
   refine⟨p,n+3,_,2,rfl,hf3,by omega,by omega,by decide,by decide,fun t ns H5 ht hns hnz hf5 k6=>?_⟩
   walk_at "go"
   intro r hr0
   walk_at "go"
   have tr:t≠r:=jg_ ht hr0
   refine q (.ref r) (cutA tx (some at_) (some (at_+1+d)),ns) _ (yg_ jb_ (by rw[jf_ tr];exact ht)) ⟨by show 1<=(cutA tx (some at_) (some (at_+1+d))).length;omega,by show (cutA tx (some at_) (some (at_+1+d))).length<=22;omega,hns,fun v hv=>?_,hcc⟩ ((hf5.new hr0).mono (by omega)) ((k3.trans k6).new hr0 _)
   obtain⟨j,hj⟩:=rn_.mp hv
   exact⟨(hnz j v hj).1,(hnz j v hj).2.1⟩
theorem xo_ {p:Addr} {H H':Hp} (hn:∀ b o,H b=some o->b≠p->H' b=some o) (hp:∃ a b c:Int,H p=some (.lst [.int a,.int b,.int c])):∀{xs:List Pat} {ys:List V},L2.IsL H ys (xs.map patD)->L2.IsL H' ys (xs.map patD)
 | [],[],_=>by simp only[p8_,L2.IsL]
 | [],_::_,h=>by simp only[p8_,L2.IsL] at h
 | _::_,[],h=>by simp only[pj_,L2.IsL] at h
 | x::xs,y::ys,h=>by
  simp only[pj_,L2.IsL] at h ⊢
  refine⟨?_,xo_ hn hp h.2⟩
  obtain⟨a,t,rfl,h1,h2⟩:=jbk_ h.1
  obtain⟨a0,b0,c0,h3⟩:=hp
  exact yg_ (hn a _ h1 (yh_ h1 h3 (by intro z;cases z))) (hn t _ h2 (yh_ h2 h3 (by intro z;cases z)))
theorem xp_ {H H':Hp} {r:Addr} {zs:List V} (hn:∀ b o,H b=some o->b≠r->H' b=some o) (hr:H r=some (.lst zs)):∀{xs:List Pat} {ys:List V},L2.IsL H ys (xs.map patD)->L2.IsL H' ys (xs.map patD)
 | [],[],_=>by simp only[p8_,L2.IsL]
 | [],_::_,h=>by simp only[p8_,L2.IsL] at h
 | _::_,[],h=>by simp only[pj_,L2.IsL] at h
 | x::xs,y::ys,h=>by
  simp only[pj_,L2.IsL] at h ⊢
  refine⟨?_,xp_ hn hr h.2⟩
  obtain⟨a,t,rfl,h1,h2⟩:=jbk_ h.1
  exact yg_ (hn a _ h1 (yh_ h1 hr (by intro z;cases z))) (hn t _ h2 (yh_ h2 hr (by intro z;cases z)))
theorem FeedAt.ex {H:Hp} {p:Addr} {n:Nat} (h:FeedAt H p n):∃ a b c:Int,H p=Option.some (.lst [.int a,.int b,.int c]):=by
 obtain⟨a,b,c,h1,_⟩:=h
 exact⟨a,b,c,h1⟩
end
abbrev s_fitting_places:Stmt:=top 11
theorem sc_fitting_places:FnScope ["signs","framed"] ["signs","framed"] (jl_ s_fitting_places):=by walk_at "f"
abbrev s_values_by_fits:Stmt:=top 12
theorem sc_values_by_fits:FnScope ["fits","word","told","begin","numbers","place","number"] ["fits","word"] (jl_ s_values_by_fits):=by walk_at "f"
abbrev s_values:Stmt:=top 13
theorem sc_values:FnScope ["patterns","word","framed","fits","pattern"] ["patterns","word"] (jl_ s_values):=by walk_at "f"
def jsi_:Sp:=fun vs H Q _=>∃(p f:List Nat),vs=[.str (S p),.str (S f)]/\p.length<=1000/\f.length<=1000/\∀(r:Addr) (H':Hp),H r=none->H' r=some (.lst ((zf_ p f).map fun k:Nat=>V.int (k:Int)))->Same H H'->Q (.ref r) H'
def xn_:Sp:=fun vs H Q _=>∃(v:V) (xs:List Pat) (w:List Nat),vs=[v,.str (S w)]/\Is H v (jeq_ xs)/\(∀ x∈xs,1<=x.1.length/\x.1.length<=1000/\x.2.length<=x.1.length+1)/\xs.length<=1000/\1<=w.length/\w.length<=100 /\
 ∀(r:Addr) (H':Hp),H r=none->H' r=some (.lst ((vals xs w).map V.int))->Same H H'->Q (.ref r) H'
theorem jif_ {p f:List Nat} {b:Nat} (h:b∈zf_ p f):b+p.length<=f.length:=by
 unfold zf_ at h
 have:=(qu_.mp h).2
 unfold fits at this
 simp only[qi_,decide_eq_true_eq] at this
 exact this.1
theorem jjv_ (w:List Nat):[46]++w++[46]=frame w:=by simp[frame]
theorem jnw_ (t:List Int) (p:Nat) (v:Int) (h:p < t.length):(t.map V.int).set p (.int (if v > t[p] then v else t[p]))=(put t p v).map V.int:=by
 unfold put mx
 rw[List.map_set]
 have:t.getD p 0=t[p]:=by simp[pe_,h]
 rw[this]
def jdn_:Sp:=fun vs H Q _=>∃(v:V) (xs:List Fit) (w:List Nat),vs=[v,.str (S w)]/\Is H v (jny_ xs)/\(∀ x∈xs,x.1+x.2.length<=w.length+3)/\w.length<=100 /\
 ∀(r:Addr) (H':Hp),H r=none->H' r=some (.lst ((cutA (layF (pv_ (w.length+3) 0) xs) (some 2) (some (-2))).map V.int))->Same H H'->Q (.ref r) H'
section
variable {P:Program} {w:World} {K:pb_} {mg:Str->Option Value} {base:Heap} {f:Addr} {fd:FuncData} {tk:Nat->Tok}
theorem un_ (T:Txt mg tk) (F:Fun K "fitting_places" "fitting_places" s_fitting_places f fd):FnOk P w K mg base CX0 1 f fd ["signs","framed"] jsi_:=by
 refine F.ok sc_fitting_places (fun vs H Q E h=>?_) (fun cdv A outer s H vs Q E hr h=>?_)
 ·obtain⟨p,f,rfl,_⟩:=h
  rfl
 obtain⟨p,fr,rfl,hp,hf,q⟩:=h
 have nd:=sc_fitting_places.nd
 refine⟨_,(jh_ (jr_ (zu_ ["framed","signs","place"] [some 1,some 0,none] rfl (by kernel_rfl) rfl (z0_ rfl T.z_range (ja_ (jp_ (zo_ (K:=K)) rfl T.z_len (by decide +kernel) (ja_ (pv 1) jc_)) jc_)) (fun _ _ _ _=>(jm_ (i:=2) (show (["framed","signs","place"]:List Str).Nodup by decide +kernel) rfl (Or.inl rfl) (Or.inr rfl))) (fun _ _ _ _=>(y2_ (x0_ (zn_ (K:=K) qk_ r1_ r2_ jej_ (pv 0) (ja_ (pv 1) (ja_ (pv 2) jc_))) (fun _=>rfl)))) (fun _ _ _ _=>(pv 2))))),?_⟩
 rw[show L2.start ["signs","framed"] [.str (S p),.str (S fr)]=[some (.str (S p)),some (.str (S fr))] from rfl]
 walk_at "go"
 intro r hr0
 refine x8_ (fun i acc σ H'=>∃ v,σ=[some (.str (S fr)),some (.str (S p)),v]/\acc=(((q7_ i).filter (fits p fr)).map fun k:Nat=>V.int (k:Int))/\Same H H'/\H' r=some (.lst acc))
  ⟨none,rfl,rfl,ji_ hr0 _,jb_⟩ (fun i acc σ H' ⟨_,_,e,_,e2⟩=>⟨e2,by rw[e,pc_];exact qg_ (q2_ _ _) (by simp)⟩) (szn (by omega)) ?_ ?_
 ·rintro i acc σ H' hi ⟨v,rfl,rfl,s1,e1⟩
  walk_at "go"
  rw[Int.zero_add,jqv_]
  refine iteB (fun c=>?_) (fun c=>?_)
  ·walk_at "go"
   refine⟨e1,_,rfl,?_,fun b o e=>?_,jb_⟩
   ·rw[sj_,qf_,pi_,qp_,c,if_pos rfl];rfl
   ·have hb:b≠r:=fun z=>by rw[z,hr0] at e;cases e
    rw[jf_ hb];exact s1 b o e
  ·refine⟨_,rfl,?_,s1,?_⟩
   ·rw[sj_,qf_,pi_,qp_,c,if_neg ph_];simp
   ·exact e1
 ·rintro acc σ H' ⟨v,rfl,rfl,s1,e1⟩
  refine q r H' hr0 ?_ s1
  rw[e1]
  show _=some (HO.lst (((q7_ fr.length).filter (fits p fr)).map _))
  simp
theorem uh_ (T:Txt mg tk) (F:Fun K "values_by_fits" "values_by_fits" s_values_by_fits f fd):FnOk P w K mg base CX0 1 f fd ["fits","word"] jdn_:=by
 refine F.ok sc_values_by_fits (fun vs H Q E h=>?_) (fun cdv A outer s H vs Q E hr h=>?_)
 ·obtain⟨v,xs,w,rfl,_⟩:=h
  rfl
 obtain⟨v,xs,w',rfl,hv,hxs,hw2,q⟩:=h
 obtain⟨a,ys,rfl,ha,hys⟩:=zad_ hv
 have nd:=sc_values_by_fits.nd
 refine⟨_,(je_ (jk_ (i:=2) nd rfl (Or.inl rfl) (jn_ ux_ (j5_ (ja_ jd_ jc_)) (jn_ jx_ (jp_ (zo_ (K:=K)) rfl T.z_len (by decide +kernel) (ja_ (pv 1) jc_)) jd_)))
  (je_ (zm_ p6_ rfl (zt_ (K:=K) (pv 0)) (yu_ rfl (jy_ (jm_ (i:=3) nd rfl (Or.inl rfl)) (jy_ (jm_ (i:=4) nd rfl (Or.inl rfl)) z7_)))
   (jh_ (zm_ p6_ rfl (jik_ rfl T.z_enumerate (pv 4) (pv 3)) (yu_ rfl (jy_ (jm_ (i:=5) nd rfl (Or.inl rfl)) (jy_ (jm_ (i:=6) nd rfl (Or.inl rfl)) z7_)))
   (jh_ (jdc_ (jp_ (jyk_ rfl) rfl T.z_max (by decide +kernel) (ja_ (jt_ (jo_ (K:=K)) (pv 2) (pv 5) (fun _ _=>rfl)) (ja_ (pv 6) jc_))) (jgp_ (pv 2) (pv 5) jmz_))))))
  (jh_ (jr_ (j0_ (zc_ (K:=K)) (pv 2) (jz_ jd_) (jz_ (u3_ uj_ jd_))))))),?_⟩
 rw[show L2.start ["fits","word","told","begin","numbers","place","number"] [.ref a,.str (S w')]=[some (.ref a),some (.str (S w')),none,none,none,none,none] from rfl]
 walk_at "go"
 intro b0 hb0
 walk_at "go"
 refine juc_ jb_ (by omega) fun t ht0=>?_
 have hrep:(pv_ (((w'.length:Nat):Int)+3).toNat (V.int 0))=(pv_ (w'.length+3) (0:Int)).map V.int:=by
  rw[List.map_replicate];congr 1
 rw[hrep]
 have s0:Same H (upd (upd H b0 (.lst [.int 0])) t (.lst ((pv_ (w'.length+3) (0:Int)).map V.int))):=(ji_ hb0 _).trans (ji_ ht0 _)
 have htH:H t=none:=(ji_ hb0 _).free ht0
 have ha0:=s0 _ _ ha
 walk_at "go"
 refine yr_ (K:=K) (xs:=ys) (fun i σ H'=>∃(v3 v4 v5 v6:Option V),σ=[some (.ref a),some (.str (S w')),some (.ref t),v3,v4,v5,v6]/\H' t=some (.lst ((layF (pv_ (w'.length+3) 0) (xs.take i)).map V.int))/\Same H H')
  ⟨none,none,none,none,rfl,jb_,s0⟩ (fun i σ H' _ ⟨_,_,_,_,_,_,s1⟩=>SqL.of (s1 _ _ ha)) ?_ ?_
 ·rintro i x σ H1 hx ⟨v3,v4,v5,v6,rfl,e1,s1⟩
  have hil:i < xs.length:=by
   have h1:=(pl_.mp hx).1
   have h2:=hys.length
   rw[pc_] at h2;omega
  obtain⟨x',d,hx1,hx2,hx3⟩:=IsL.get hys (i:=i) (by rw[pc_];exact hil)
  rw[hx] at hx1
  cases hx1
  rw[pm_,pa_ hil] at hx2
  cases hx2
  obtain⟨pa,nt,rfl,hpa,hnt⟩:=isFit hx3
  have hg:=hxs _ (pw_ hil)
  have hpa1:=s1 _ _ hpa
  have hnt1:=s1 _ _ hnt
  have hT1:=jbf_ (xs.take i) (pv_ (w'.length+3) 0)
  rw[t4_] at hT1
  rw[jpa_ hil]
  generalize layF (pv_ (w'.length+3) 0) (xs.take i)=T1 at e1 hT1 ⊢
  generalize xs[i]=xi at hg hpa1 hnt1 hnt ⊢
  obtain⟨b,ns⟩:=xi
  refine y0_ hpa1 rfl (j4_ (j7_ (j4_ (j7_ (yz_ ?_)))))
  have hg:b+ns.length<=w'.length+3:=hg
  have hnt1:H1 nt=some (.tup (ns.map V.int)):=hnt1
  have hnt:H nt=some (.tup (ns.map V.int)):=hnt
  walk_at "go"
  refine⟨b,rfl,by omega,jzt_ hnt1 ?_⟩
  refine jah_ (b:=b) (xs:=ns.map V.int) (fun k σ H'=>∃(v5 v6:Option V),σ=[some (.ref a),some (.str (S w')),some (.ref t),some (.int (b:Int)),some (.ref nt),v5,v6]/\H' t=some (.lst ((laid T1 b (ns.take k)).map V.int))/\Same H H')
   ⟨_,_,rfl,e1,s1⟩ (fun k σ H' _ ⟨_,_,_,_,s4⟩=>s4 _ _ hnt) ?_ ?_
  ·rintro k z σ H4 T4 hz ⟨v5,v6,rfl,e4,s4⟩ hT4
   have hkl:k < ns.length:=by
    have:=(pl_.mp hz).1
    simpa using this
   rw[pm_,pa_ hkl] at hz
   cases hz
   have htT:t≠T4:=jg_ e4 hT4
   have hL2:=xh_ (ns.take k) T1 b
   have htk2:ns.take (k+1)=ns.take k++[ns[k]]:=by rw[qb_,pa_ hkl];rfl
   have hsn:=jgd_ b ns[k] (ns.take k) T1 b
   rw[<- htk2,p2_,wm_ (q6_ hkl)] at hsn
   rw[hsn]
   generalize laid T1 b (ns.take k)=T2 at e4 hL2 ⊢
   have e5:(upd H4 T4 (.tup [.int ((b:Int)+(k:Int)),.int ns[k]])) t=some (.lst (T2.map V.int)):=by rw[jf_ htT];exact e4
   have hbk:b+k < T2.length:=by omega
   refine y0_ jb_ rfl (j4_ (j7_ (j4_ (j7_ (yz_ ?_)))))
   walk_at "go"
   refine z1_ (v:=.int T2[b+k]) (jw_ e5) (zy_ (by omega) (by rw[show ((b:Int)+(k:Int)).toNat=b+k by omega,pm_,pa_ hbk];rfl)) ?_
   walk_at "go"
   refine jth_ (j:=b+k) e5 (by rw[pc_];rw[jmu_ (by omega) (by omega)];rfl) ?_
   rw[jnw_ T2 (b+k) ns[k] hbk]
   walk_at "go"
   refine⟨_,_,rfl,jb_,fun c o e=>?_⟩
   have hct:c≠t:=fun z=>by rw[z,htH] at e;cases e
   rw[jf_ hct]
   exact(ji_ hT4 _) c o (s4 c o e)
  ·rintro σ H4 ⟨v5,v6,rfl,e4,s4⟩
   rw[pc_,qc_] at e4
   walk_at "go"
   exact⟨_,_,_,_,rfl,e4,s4⟩
 ·rintro σ H1 ⟨v3,v4,v5,v6,rfl,e1,s1⟩
  have h2:=hys.length
  rw[pc_] at h2
  rw[h2,qc_] at e1
  walk_at "go"
  refine jtq_ (SqL.of e1) fun r hr1=>?_
  rw[jhy_,jdq_]
  walk_at "go"
  exact q r _ (s1.free hr1) jb_ (s1.trans (ji_ hr1 _))
theorem jpr_ (T:Txt mg tk) (F:Fun K "values" "values" s_values f fd) (D_fitting_places:Dn P w K mg base "fitting_places" 1 ["signs","framed"] jsi_) (D_values_by_fits:Dn P w K mg base "values_by_fits" 1 ["fits","word"] jdn_):FnOk P w K mg base CX0 2 f fd ["patterns","word"] xn_:=by
 refine F.ok sc_values (fun vs H Q E h=>?_) (fun cdv A outer s H vs Q E hr h=>?_)
 ·obtain⟨v,xs,w,rfl,_⟩:=h
  rfl
 obtain⟨v,xs,w',rfl,hv,hxs,hxl,hw1,hw2,q⟩:=h
 obtain⟨a,ys,rfl,ha,hys⟩:=jrv_ hv
 have nd:=sc_values.nd
 refine⟨_,(je_ (jk_ (i:=2) nd rfl (Or.inl rfl) (jn_ jx_ (jn_ jx_ j1_ (pv 1)) j1_))
  (je_ (jk_ (i:=3) nd rfl (Or.inl rfl) (j5_ jc_))
  (je_ (zm_ p6_ rfl (zt_ (K:=K) (pv 0)) (jm_ (i:=4) nd rfl (Or.inr rfl))
   (jh_ (zq_ (zn_ (K:=K) p7_ PySem.F.slot_list_extend PySem.F.type_list_extend jpt_ (pv 3) (ja_ (zu_ ["pattern","begin"] [some 4,none] rfl (by kernel_rfl) rfl (zt_ (K:=K) (jj_ D_fitting_places hr.mo_ rfl (ja_ (jt_ (jo_ (K:=K)) (pv 4) jd_ (fun _ _=>rfl)) (ja_ (pv 2) jc_)))) (fun _ _ _ _=>(jm_ (i:=1) (show (["pattern","begin"]:List Str).Nodup by decide +kernel) rfl (Or.inl rfl) (Or.inr rfl))) (fun _ _ _ _=>xg_) (fun _ _ _ _=>(z4_ (ja_ (pv 1) (ja_ (jt_ (jo_ (K:=K)) (pv 0) jd_ (fun _ _=>rfl)) jc_))))) jc_)))))
  (jh_ (jr_ (jj_ D_values_by_fits hr.mo_ rfl (ja_ (pv 3) (ja_ (pv 1) jc_)))))))),?_⟩
 rw[show L2.start ["patterns","word","framed","fits","pattern"] [.ref a,.str (S w')]=[some (.ref a),some (.str (S w')),none,none,none] from rfl]
 rw[jnm_]
 have hfl:=y3_ w'
 walk_at "go"
 rw[jjv_]
 intro r hr0
 have ra:(upd H r (.lst [])) a=some (.lst ys):=(ji_ hr0 _) _ _ ha
 walk_at "go"
 refine yr_ (K:=K) (xs:=ys) (fun i σ H'=>∃(v4:Option V) (zs:List V),σ=[some (.ref a),some (.str (S w')),some (.str (S (frame w'))),some (.ref r),v4]/\H' r=some (.lst zs)/\IsL H' zs ((yx_ (frame w') (xs.take i)).map fitD)/\Same H H')
  ⟨none,[],rfl,jb_,(by simp[yx_,L2.IsL]),ji_ hr0 _⟩ (fun i σ H' _ ⟨_,_,_,_,_,s1⟩=>SqL.of (s1 _ _ ha)) ?_ ?_
 ·rintro i x σ H1 hx ⟨v4,zs,rfl,e1,hz1,s1⟩
  have hil:i < xs.length:=by
   have h1:=(pl_.mp hx).1
   have h2:=hys.length
   rw[pc_] at h2;omega
  obtain⟨x',d,hx1,hx2,hx3⟩:=IsL.get hys (i:=i) (by rw[pc_];exact hil)
  rw[hx] at hx1
  cases hx1
  rw[pm_,pa_ hil] at hx2
  cases hx2
  obtain⟨pa,nt,rfl,hpa,hnt⟩:=jbk_ hx3
  obtain⟨hg1,hg2,hg3⟩:=hxs _ (pw_ hil)
  have hpa1:=s1 _ _ hpa
  have hnt1:=s1 _ _ hnt
  have hzl:zs.length<=1000 * 102:=by
   have h1:=hz1.length
   rw[pc_] at h1
   have h2:=jcw_ (frame w') (xs.take i)
   have h3:(xs.take i).length<=1000:=by rw[p2_];omega
   have h4:(xs.take i).length * (frame w').length<=1000 * 102:=Nat.mul_le_mul h3 (by omega)
   omega
  rw[jkk_ hil]
  generalize xs[i]=xi at hpa hnt hpa1 hnt1 hg1 hg2 hg3 ⊢
  walk_at "go"
  refine⟨xi.1,frame w',rfl,hg2,by omega,fun p H2 hp2 e2 s2=>?_⟩
  have hpa2:=s2 _ _ hpa1
  have hpl:=jfk_ xi.1 (frame w')
  walk_at "go"
  intro c hc0
  have rc:r≠c:=jg_ (s2 _ _ e1) hc0
  refine yl_ (K:=K) (xs:=(zf_ xi.1 (frame w')).map fun k:Nat=>V.int (k:Int)) (fun j acc σ H'=>∃ v,σ=[some (.ref pa),v]/\acc.length=j/\H' c=some (.lst acc)/\IsL H' acc ((((zf_ xi.1 (frame w')).take j).map fun b=>(b,xi.2)).map fitD)/\Same H2 H')
   (fun j acc σ H' _ ⟨_,_,_,_,_,s3⟩=>SqL.of (s3 _ _ e2)) ⟨none,rfl,rfl,jb_,(by simp[L2.IsL]),ji_ hc0 _⟩ (fun j acc σ H' ⟨_,_,e,e3,_⟩=>⟨e3,l0_ e⟩) (szn (by rw[pc_];omega)) ?_ ?_
  ·rintro j acc σ H3 hj ⟨v,rfl,hal,e3,hz3,s3⟩
   have hj':j < (zf_ xi.1 (frame w')).length:=by simpa using hj
   have hpa3:=s3 _ _ hpa2
   have hgd:((zf_ xi.1 (frame w')).map fun k:Nat=>V.int (k:Int)).getD j .non=V.int ((zf_ xi.1 (frame w'))[j]:Int):=by
    rw[pe_,pm_,pa_ hj'];rfl
   rw[hgd]
   walk_at "go"
   intro t ht0
   have tc:c≠t:=jg_ e3 ht0
   have e4:(upd H3 t (.tup [.int ((zf_ xi.1 (frame w'))[j]:Int),.ref nt])) c=some (.lst acc):=by rw[jf_ tc];exact e3
   have k4:Tk H3 (upd (upd H3 t (.tup [.int ((zf_ xi.1 (frame w'))[j]:Int),.ref nt])) c (.lst (acc++[.ref t]))):=(Tk.new ht0 _).trans (Tk.lst e4 _)
   refine⟨e4,_,rfl,by simp[hal],jb_,?_,fun b o e=>?_⟩
   ·have htk:(zf_ xi.1 (frame w')).take (j+1)=(zf_ xi.1 (frame w')).take j++[(zf_ xi.1 (frame w'))[j]]:=by rw[qb_,pa_ hj'];rfl
    rw[htk,pi_,pi_]
    refine IsL.snoc (IsL.tk k4 (uf_ _) hz3) (jss_ (x:=((zf_ xi.1 (frame w'))[j],xi.2)) ?_ (k4 _ _ (s3 _ _ (s2 _ _ hnt1))))
    rw[jf_ tc.symm];exact jb_
   ·have hbc:b≠c:=fun z=>by rw[z,hc0] at e;cases e
    rw[jf_ hbc];exact(ji_ ht0 _) _ _ (s3 _ _ e)
  ·rintro acc σ H3 ⟨v,rfl,hal,e3,hz3,s3⟩
   rw[pc_] at hal hz3
   rw[qc_] at hz3
   have e3r:H3 r=some (.lst zs):=s3 _ _ (s2 _ _ e1)
   walk_at "go"
   refine jzu_ e3r e3 (szn (by omega)) ?_
   walk_at "go"
   have k5:Tk H3 (upd H3 r (.lst (zs++acc))):=Tk.lst e3r _
   refine⟨_,zs++acc,rfl,jb_,?_,fun b o e=>?_⟩
   ·rw[pi_]
    exact IsL.append (IsL.tk k5 (uf_ _) (IsL.same (s2.trans s3) hz1)) (IsL.tk k5 (uf_ _) hz3)
   ·have hbr:b≠r:=fun z=>by rw[z,hr0] at e;cases e
    rw[jf_ hbr];exact s3 _ _ (s2 _ _ (s1 _ _ e))
 ·rintro σ H1 ⟨v4,zs,rfl,e1,hz1,s1⟩
  have h2:=hys.length
  rw[pc_] at h2
  rw[h2,qc_] at hz1
  walk_at "go"
  refine⟨.ref r,yx_ (frame w') xs,w',rfl,?_,fun y hy=>?_,hw2,fun r2 H2 hr2 e2 s2=>?_⟩
  ·simp only[Is,jny_];exact⟨r,zs,rfl,e1,hz1⟩
  ·obtain⟨x,hx,hp,he⟩:=jkr_ hy
   have h3:=jif_ hp
   have h4:=(hxs x hx).2.2
   rw[he];omega
  ·rw[jay_,show w'.length+3=(frame w').length+1 by omega,jie_ xs w' hw1] at e2
   exact q r2 H2 (s1.free hr2) e2 (s1.trans s2)
end
abbrev s_law_values:Stmt:=top 45
theorem sc_law_values:FnScope ["_law_patterns","_law_word_here","_law_text","_law_found","_law_signs","_law_numbers_here","_law_place","_law_k"] ["_law_patterns","_law_word_here"] (jl_ s_law_values):=by walk_at "f"
theorem jhi_ {σ:St} {H:Hp} {D:Ends} {c:TT} {tb:TS} (h:∃ W:Nat->St->Hp->Prop,(∃ m,W m σ H)/\∀ m σ H,W m σ H ->
 c σ H fun b H1=>if b=true then ∃ N:St->Hp->Prop,(∀ σ' H',N σ' H'->∃ m',m' < m/\W m' σ' H')/\tb { D with nx:=N,ct:=N,bk:=D.nx } σ H1 else D.nx σ H1):jse_ c tb D σ H:=h
section
variable {P:Program} {w:World} {K:pb_} {mg:Str->Option Value} {base:Heap} {f:Addr} {fd:FuncData} {tk:Nat->Tok}
theorem jek_ (T:Txt mg tk) (F:Fun K "_law_values" "_law_values" s_law_values f fd):FnOk P w K mg base CX0 1 f fd ["_law_patterns","_law_word_here"] xn_:=by
 refine F.ok sc_law_values (fun vs H Q E h=>?_) (fun cdv A outer s H vs Q E hr h=>?_)
 ·obtain⟨v,xs,w,rfl,_⟩:=h
  rfl
 obtain⟨v,xs,w',rfl,hv,hxs,hxl,hw1,hw2,q⟩:=h
 obtain⟨a,ys,rfl,ha,hys⟩:=jrv_ hv
 have nd:=sc_law_values.nd
 refine⟨_,(je_ (jk_ (i:=2) nd rfl (Or.inl rfl) (jn_ jx_ (jn_ jx_ j1_ (pv 1)) j1_))
  (je_ (jk_ (i:=3) nd rfl (Or.inl rfl) (jn_ ux_ (j5_ (ja_ jd_ jc_)) (jn_ vl_ (jp_ (zo_ (K:=K)) rfl T.z_len (by decide +kernel) (ja_ (pv 1) jc_)) jd_)))
  (je_ (zm_ p6_ rfl (zt_ (K:=K) (pv 0)) (yu_ rfl (jy_ (jm_ (i:=4) nd rfl (Or.inl rfl)) (jy_ (jm_ (i:=5) nd rfl (Or.inl rfl)) z7_)))
   (je_ (jk_ (i:=6) nd rfl (Or.inl rfl) (zn_ (K:=K) qk_ k2_ k3_ jwh_ (pv 2) (ja_ (pv 4) jc_)))
  (jh_ (jdo_ p6_ (jq_ o_ge (pv 6) jd_ (jv_ _))
   (je_ (zm_ p6_ rfl (z0_ rfl T.z_range (ja_ (jp_ (zo_ (K:=K)) rfl T.z_len (by decide +kernel) (ja_ (pv 5) jc_)) jc_)) (jm_ (i:=7) nd rfl (Or.inl rfl))
   (jh_ (ze_ (jcp_ o_lt o_lt jd_ (jn_ vl_ (jn_ jx_ (pv 6) (pv 7)) jd_) (jp_ (zo_ (K:=K)) rfl T.z_len (by decide +kernel) (ja_ (pv 1) jc_)))
   (jh_ (jdc_ (jp_ (jyk_ rfl) rfl T.z_max (by decide +kernel) (ja_ (jt_ (jo_ (K:=K)) (pv 3) (jn_ vl_ (jn_ jx_ (pv 6) (pv 7)) jd_) (fun _ _=>rfl)) (ja_ (jt_ (jo_ (K:=K)) (pv 5) (pv 7) (fun _ _=>rfl)) jc_))) (jgp_ (pv 3) (jn_ vl_ (jn_ jx_ (pv 6) (pv 7)) jd_) jmz_)))
   j2_)))
  (jh_ (jk_ (i:=6) nd rfl (Or.inl rfl) (zn_ (K:=K) qk_ k2_ k3_ jxi_ (pv 2) (ja_ (pv 4) (ja_ (jn_ jx_ (pv 6) jd_) jc_))))))))))
  (jh_ (jr_ (pv 3)))))),?_⟩
 rw[show L2.start ["_law_patterns","_law_word_here","_law_text","_law_found","_law_signs","_law_numbers_here","_law_place","_law_k"] [.ref a,.str (S w')]=[some (.ref a),some (.str (S w')),none,none,none,none,none,none] from rfl]
 rw[jnm_]
 have hfl:=y3_ w'
 walk_at "go"
 rw[jjv_]
 intro b0 hb0
 walk_at "go"
 refine juc_ jb_ (by omega) fun t ht0=>?_
 have hrep:(pv_ (((w'.length:Nat):Int) - 1).toNat (V.int 0))=(pv_ (w'.length - 1) (0:Int)).map V.int:=by
  rw[List.map_replicate];congr 1;omega
 rw[hrep]
 have s0:Same H (upd (upd H b0 (.lst [.int 0])) t (.lst ((pv_ (w'.length - 1) (0:Int)).map V.int))):=(ji_ hb0 _).trans (ji_ ht0 _)
 have htH:H t=none:=(ji_ hb0 _).free ht0
 have ha0:=s0 _ _ ha
 walk_at "go"
 refine yr_ (K:=K) (xs:=ys) (fun i σ H'=>∃(v4 v5 v6 v7:Option V),σ=[some (.ref a),some (.str (S w')),some (.str (S (frame w'))),some (.ref t),v4,v5,v6,v7]/\H' t=some (.lst ((lawA w'.length (frame w') (pv_ (w'.length - 1) 0) (xs.take i)).map V.int))/\Same H H')
  ⟨none,none,none,none,rfl,jb_,s0⟩ (fun i σ H' _ ⟨_,_,_,_,_,_,s1⟩=>SqL.of (s1 _ _ ha)) ?_ ?_
 ·rintro i x σ H1 hx ⟨v4,v5,v6,v7,rfl,e1,s1⟩
  have hil:i < xs.length:=by
   have h1:=(pl_.mp hx).1
   have h2:=hys.length
   rw[pc_] at h2;omega
  obtain⟨x',d,hx1,hx2,hx3⟩:=IsL.get hys (i:=i) (by rw[pc_];exact hil)
  rw[hx] at hx1
  cases hx1
  rw[pm_,pa_ hil] at hx2
  cases hx2
  obtain⟨pa,nt,rfl,hpa,hnt⟩:=jbk_ hx3
  obtain⟨hg1,hg2,hg3⟩:=hxs _ (pw_ hil)
  have hpne:xs[i].1≠[]:=th_.mp hg1
  have hpa1:=s1 _ _ hpa
  have hnt1:=s1 _ _ hnt
  obtain⟨hT1,_⟩:=jdi_ w'.length (frame w') (xs.take i) (pv_ (w'.length - 1) 0) (by simp)
  generalize hT:lawA w'.length (frame w') (pv_ (w'.length - 1) 0) (xs.take i)=T0 at e1 hT1
  refine y0_ hpa1 rfl (j4_ (j7_ (j4_ (j7_ (yz_ ?_)))))
  walk_at "go"
  rw[find_S]
  refine jhi_ ⟨fun m σ H'=>∃(k:Nat) (bs:List Nat) (v7:Option V),m=(frame w').length+1 - k/\k<=(frame w').length/\zs_ xs[i].1 (frame w') 0=bs++zs_ xs[i].1 (frame w') k /\
   σ=[some (.ref a),some (.str (S w')),some (.str (S (frame w'))),some (.ref t),some (.str (S xs[i].1)),some (.ref nt),some (.int (vj_ xs[i].1 (frame w') k)),v7]/\H' t=some (.lst ((bs.foldl (fun t b=>z6_ w'.length t b xs[i].2) T0).map V.int))/\Same H H',⟨_,0,[],_,rfl,qe_ _,rfl,rfl,e1,s1⟩,?_⟩
  rintro m σ H2 ⟨k,bs,v7,rfl,hk,hbs,rfl,e2,s2⟩
  walk_at "go"
  refine iteD (fun c=>?_) (fun c=>?_)
  ·obtain⟨b,hfb,hkb,hbf,hfit,hpl⟩:=jqa_ hk c
   rw[hfb]
   have hblt:=jxf_ hpne hfit
   have hnt2:=s2 _ _ hnt
   have hL1:=(vm_ w'.length xs[i].2 bs T0 hT1).1
   have hfl2:bs++zs_ xs[i].1 (frame w') k=(bs++[b])++zs_ xs[i].1 (frame w') (b+1):=by rw[hpl,qw_];rfl
   rw[hfl2] at hbs
   have hfold:(bs++[b]).foldl (fun t b=>z6_ w'.length t b xs[i].2) T0=z6_ w'.length (bs.foldl (fun t b=>z6_ w'.length t b xs[i].2) T0) b xs[i].2:=by rw[tx_];rfl
   generalize bs.foldl (fun t b=>z6_ w'.length t b xs[i].2) T0=T1 at e2 hL1 hfold
   refine⟨fun σ' H'=>∃(v7:Option V),σ'=[some (.ref a),some (.str (S w')),some (.str (S (frame w'))),some (.ref t),some (.str (S xs[i].1)),some (.ref nt),some (.int (vj_ xs[i].1 (frame w') (b+1))),v7]/\H' t=some (.lst ((z6_ w'.length T1 b xs[i].2).map V.int))/\Same H H',?_,?_⟩
   ·rintro σ' H' ⟨v7',rfl,e',s'⟩
    refine⟨(frame w').length+1 - (b+1),by omega,b+1,bs++[b],v7',rfl,by omega,hbs,rfl,?_,s'⟩
    rw[hfold];exact e'
   ·walk_at "go"
    rw[pc_]
    walk_at "go"
    refine z9_ (fun j σ H'=>∃(v7:Option V),σ=[some (.ref a),some (.str (S w')),some (.str (S (frame w'))),some (.ref t),some (.str (S xs[i].1)),some (.ref nt),some (.int (b:Int)),v7]/\H' t=some (.lst ((z6_ w'.length T1 b (xs[i].2.take j)).map V.int))/\Same H H')
     ⟨_,rfl,e2,s2⟩ ?_ ?_
    ·rintro j σ H3 hj ⟨v7,rfl,e3,s3⟩
     have hj:j < xs[i].2.length:=by omega
     have hnt3:=s3 _ _ hnt
     have htk2:xs[i].2.take (j+1)=xs[i].2.take j++[xs[i].2[j]]:=by rw[qb_,pa_ hj];rfl
     have hsn:=jdy_ w'.length xs[i].2[j] (xs[i].2.take j) T1 b
     rw[<- htk2,p2_,wm_ (q6_ hj)] at hsn
     have hL2:=xv_ w'.length (xs[i].2.take j) T1 b
     rw[hsn]
     generalize z6_ w'.length T1 b (xs[i].2.take j)=T2 at e3 hL2 ⊢
     walk_at "go"
     have key:∀(hc:2<=b+j/\b+j<=w'.length),(lput w'.length T2 (b+j) xs[i].2[j])=put T2 (b+j - 2) xs[i].2[j]:=fun hc=>by unfold lput;rw[if_pos hc]
     have key2:∀(hc:¬ (2<=b+j/\b+j<=w'.length)),(lput w'.length T2 (b+j) xs[i].2[j])=T2:=fun hc=>by unfold lput;rw[if_neg hc]
     refine iteD (fun c1=>?_) (fun c1=>?_)
     ·walk_at "go"
      refine iteD (fun c2=>?_) (fun c2=>?_)
      ·have hc:2<=b+j/\b+j<=w'.length:=by omega
       have hbk:b+j - 2 < T2.length:=by omega
       have hix:((b:Int)+(0+(j:Int)) - 2).toNat=b+j - 2:=by omega
       walk_at "go"
       refine z1_ (v:=.int T2[b+j - 2]) (jw_ e3) (zy_ (by omega) (by rw[hix,pm_,pa_ hbk];rfl)) ?_
       walk_at "go"
       refine z1_ (v:=.int xs[i].2[j]) (jcq_ hnt3) (zy_ (by omega) (by rw[show (0+(j:Int)).toNat=j by omega,pm_,pa_ hj];rfl)) ?_
       walk_at "go"
       refine jth_ (j:=b+j - 2) e3 (by rw[pc_,jmu_ (by omega) (by omega),hix]) ?_
       rw[jnw_ T2 (b+j - 2) xs[i].2[j] hbk,<- key hc]
       walk_at "go"
       refine⟨_,rfl,jb_,fun c o e=>?_⟩
       have hct:c≠t:=fun z=>by rw[z,htH] at e;cases e
       rw[jf_ hct]
       exact s3 c o e
      ·walk_at "go"
       rw[key2 (by omega)]
       exact⟨_,rfl,e3,s3⟩
     ·walk_at "go"
      rw[key2 (by omega)]
      exact⟨_,rfl,e3,s3⟩
    ·rintro σ H3 ⟨v7,rfl,e3,s3⟩
     have hz:((xs[i].2.length:Nat):Int).toNat=xs[i].2.length:=by omega
     rw[hz,qc_] at e3
     walk_at "go"
     rw[show (b:Int)+1=((b+1:Nat):Int) by omega,jvn_]
     walk_at "go"
     exact⟨_,rfl,e3,s3⟩
  ·walk_at "go"
   have hn:=jqg_ (p:=xs[i].1) (f:=frame w') (k:=k) (by omega)
   rw[hn,py_,jmr_ hpne] at hbs
   refine⟨_,_,_,_,rfl,?_,s2⟩
   rw[qb_,pa_ hil]
   show H2 t=some (.lst ((lx_ (lawP w'.length (frame w')) _ (xs.take i++[xs[i]])).map V.int))
   rw[tx_]
   show H2 t=some (.lst ((lawP w'.length (frame w') (lawA w'.length (frame w') (pv_ (w'.length - 1) 0) (xs.take i)) xs[i]).map V.int))
   rw[hT]
   unfold lawP
   rw[hbs]
   exact e2
 ·rintro σ H1 ⟨v4,v5,v6,v7,rfl,e1,s1⟩
  have h2:=hys.length
  rw[pc_] at h2
  rw[h2,qc_,jtr_] at e1
  walk_at "go"
  exact q t _ htH e1 s1
end
theorem jwj_ {x:Pat} (h:GP x):1<=x.1.length/\x.1.length<=1000/\x.2.length<=x.1.length+1:=⟨h.ne,by have:=h.le;omega,by rw[h.len];exact pg_ _⟩
theorem jvw_ {X:Cx} {es:List Expr} {k:Nat} {pos:Pos} {t:TGs} {n:Nat} {K:pb_} (hK:X.K=K) (hc:X.calm=true) (h:PGs X es t)
  (hn:(assignEach es X.env).length=n:=by rfl) (hst:(assignEach es X.env).findIdx? (·.1)=none:=by rfl):PG X (.Tuple es k pos) (gTup K n t):=hK▸yu_ hc h hn hst
abbrev s_breaks:Stmt:=top 14
theorem sc_breaks:FnScope ["patterns","word"] ["patterns","word"] (jl_ s_breaks):=by walk_at "f"
theorem jwy_ {b:Nat} {xs:List V} {ok:Hp->Prop} {p:Addr} {g:TG} {tc:TT} {te:TE} {Q:VK} {σ0:St} {H0:Hp} (Pv:Nat->List V->St->Hp->Prop)
  (hok:∀ i acc σ H,i<=xs.length->Pv i acc σ H->ok H) (h0:Pv 0 [] σ0 H0) (hp:∀ i acc σ H,Pv i acc σ H->H p=some (.lst acc)/\acc.length<=i) (hz:xs.length<=sizeLine)
  (hs:∀ i v acc σ H T,xs[i]?=some v->Pv i acc σ H->H T=none->g (.ref T) σ (upd H T (.tup [.int ((b:Int)+(i:Int)),v])) fun σ3 H3=>tc σ3 H3 fun bb H4 =>
   if bb=true then te σ3 H4 fun v H5=>H5 p=some (.lst acc)/\Pv (i+1) (acc++[v]) σ3 (upd H5 p (.lst (acc++[v]))) else Pv (i+1) acc σ3 H4)
  (hd:∀ acc σ H,Pv xs.length acc σ H->Q (.ref p) H):yq_ (Ien b xs ok) p g tc te Q σ0 H0:=by
 refine⟨fun i m acc σ H=>m=xs.length - i/\i<=xs.length/\Pv i acc σ H,⟨xs.length,by simp,qe_ _,h0⟩,fun i m acc σ' H' w=>?_⟩
 obtain⟨rfl,hi,q⟩:=w
 obtain⟨q1,q2⟩:=hp i acc σ' H' q
 have ho:=hok i acc σ' H' hi q
 refine⟨q1,?_⟩
 by_cases hlt:i < xs.length
 ·refine .inr ⟨⟨ho,hlt⟩,by omega,Pv (i+1),fun a' σ3 H3 k=>⟨xs.length - (i+1),by omega,rfl,hlt,k⟩,fun x H2 y=>?_⟩
  obtain⟨T,v,hT,hv,rfl,rfl⟩:=y
  exact hs i v acc σ' H' T hv q hT
 ·have e:i=xs.length:=by omega
  subst e
  exact .inl ⟨⟨ho,rfl⟩,hd acc σ' H' q⟩
def xi_ (vs:List Int) (j:Nat):Bool:=decide (vs.getD j 0 % 2=1)
def brks (vs:List Int):List Int:=((q7_ vs.length).filter (xi_ vs)).map fun j:Nat=>(j:Int)+1
def vg_ (vs:List Int) (i:Nat):List V:=((q7_ i).filter (xi_ vs)).map fun j:Nat=>V.int ((j:Int)+1)
theorem jpq_ (vs:List Int):vg_ vs vs.length=(brks vs).map V.int:=by unfold vg_ brks;rw[qn_];rfl
theorem jpi_ {vs:List Int} {i:Nat} (h:xi_ vs i=true):vg_ vs (i+1)=vg_ vs i++[V.int ((i:Int)+1)]:=by
 unfold vg_;rw[sj_,qf_,pi_,qp_,h,if_pos rfl];rfl
theorem jun_ {vs:List Int} {i:Nat} (h:xi_ vs i=false):vg_ vs (i+1)=vg_ vs i:=by
 unfold vg_;rw[sj_,qf_,pi_,qp_,h,if_neg ph_];simp
theorem jqd_ (vs:List Int) (i:Nat):(vg_ vs i).length<=i:=by
 unfold vg_;rw[pc_];exact qg_ (q2_ _ _) (by simp)
def jcv_:Sp:=fun vs H Q _=>∃(v:V) (xs:List Pat) (w:List Nat),vs=[v,.str (S w)]/\Is H v (jeq_ xs)/\(∀ x∈xs,1<=x.1.length/\x.1.length<=1000/\x.2.length<=x.1.length+1)/\xs.length<=1000/\1<=w.length/\w.length<=100 /\
 ∀(t:Addr) (H':Hp),H' t=some (.tup ((brks (vals xs w)).map V.int))->Same H H'->Q (.ref t) H'
section
variable {P:Program} {w:World} {K:pb_} {mg:Str->Option Value} {base:Heap} {f:Addr} {fd:FuncData} {tk:Nat->Tok}
theorem joz_ (T:Txt mg tk) (F:Fun K "breaks" "breaks" s_breaks f fd) (D_values:Dn P w K mg base "values" 2 ["patterns","word"] xn_):FnOk P w K mg base CX0 3 f fd ["patterns","word"] jcv_:=by
 refine F.ok sc_breaks (fun vs H Q E h=>?_) (fun cdv A outer s H vs Q E hr h=>?_)
 ·obtain⟨v,xs,w,rfl,_⟩:=h
  rfl
 obtain⟨v,xs,w',rfl,hv,hxs,hxl,hw1,hw2,q⟩:=h
 have nd:=sc_breaks.nd
 have hvl:=ya_ xs w'
 refine⟨_,(jh_ (jr_ (yb_ uq_ rfl T.z_tuple (by decide +kernel) (ja_ (zu_ ["gap","value"] [none,none] rfl (by kernel_rfl) rfl (jik_ rfl T.z_enumerate (jj_ D_values hr.mo_ rfl (ja_ (pv 0) (ja_ (pv 1) jc_))) jd_) (fun _ _ _ _=>(jvw_ (K:=K) (n:=2) rfl rfl (jy_ (jm_ (i:=0) (show (["gap","value"]:List Str).Nodup by decide +kernel) rfl (Or.inl rfl) (Or.inr rfl)) (jy_ (jm_ (i:=1) (show (["gap","value"]:List Str).Nodup by decide +kernel) rfl (Or.inl rfl) (Or.inr rfl)) z7_)))) (fun _ _ _ _=>(y2_ (jq_ (o_eq hr.units) (jn_ vq_ (pv 1) jd_) jd_ (jv_ _)))) (fun _ _ _ _=>(pv 0))) jc_)))),?_⟩
 rw[show L2.start ["patterns","word"] [v,.str (S w')]=[some (v),some (.str (S w'))] from rfl]
 walk_at "go"
 refine⟨v,xs,w',rfl,hv,hxs,hxl,hw1,hw2,fun a H1 ha0 e1 s1=>?_⟩
 walk_at "go"
 refine⟨1,rfl,by decide,jav_ e1 ?_⟩
 intro r hr0
 have ar:a≠r:=jg_ e1 hr0
 refine jwy_ (b:=1) (xs:=(vals xs w').map V.int) (fun i acc σ H'=>∃ v1 v2,σ=[v1,v2]/\acc=vg_ (vals xs w') i/\Same H1 H'/\H' r=some (.lst acc))
  (fun i acc σ H' _ ⟨_,_,_,_,s2,_⟩=>s2 _ _ e1) ⟨none,none,rfl,rfl,ji_ hr0 _,jb_⟩ (fun i acc σ H' ⟨_,_,_,e,_,e2⟩=>⟨e2,by rw[e];exact jqd_ _ _⟩) (szn (by rw[pc_];omega)) ?_ ?_
 ·rintro i z acc σ H2 T2 hz ⟨v1,v2,rfl,rfl,s2,e2⟩ hT
  have hil:i < (vals xs w').length:=by
   have:=(pl_.mp hz).1
   simpa using this
  rw[pm_,pa_ hil] at hz
  cases hz
  have hod:xi_ (vals xs w') i=decide ((vals xs w')[i] % 2=1):=by unfold xi_;simp[pe_,hil]
  have rT:r≠T2:=jg_ e2 hT
  have s3:=ji_ hT (.tup [.int (((1:Nat):Int)+(i:Int)),.int (vals xs w')[i]])
  have e3:(upd H2 T2 (.tup [.int (((1:Nat):Int)+(i:Int)),.int (vals xs w')[i]])) r=some (.lst (vg_ (vals xs w') i)):=s3 _ _ e2
  refine y0_ jb_ rfl (j4_ (j7_ (j4_ (j7_ (yz_ ?_)))))
  walk_at "go"
  refine iteD (fun c=>?_) (fun c=>?_)
  ·have c':(vals xs w')[i] % 2=1:=by injection c
   walk_at "go"
   have hb:=jpi_ (vs:=vals xs w') (i:=i) (by rw[hod];exact decide_eq_true c')
   have he:V.int (((1:Nat):Int)+(i:Int))=V.int ((i:Int)+1):=by congr 1;omega
   refine⟨e3,_,_,rfl,by rw[hb,he],fun b o e=>?_,jb_⟩
   have hbr:b≠r:=fun z=>by rw[z,hr0] at e;cases e
   rw[jf_ hbr];exact s3 _ _ (s2 b o e)
  ·have c':¬ (vals xs w')[i] % 2=1:=fun z=>c (by rw[z])
   have hb:=jun_ (vs:=vals xs w') (i:=i) (by rw[hod];exact decide_eq_false c')
   exact⟨_,_,rfl,hb.symm,s2.trans s3,by rw[e3]⟩
 ·rintro acc σ H2 ⟨v1,v2,rfl,rfl,s2,e2⟩
  rw[pc_,jpq_] at e2
  walk_at "go"
  refine vo_ (jw_ e2) fun t H3 ht k3=>?_
  walk_at "go"
  exact q t H3 ht ((s1.trans s2).trans k3)
end
abbrev s_law_six:Stmt:=top 47
theorem sc_law_six:FnScope ["_law_feed_here","_law_letters_here","_law_words","_law_word_here","_law_at"] ["_law_feed_here","_law_letters_here"] (jl_ s_law_six):=by walk_at "f"
def jsv_:Sp:=fun vs H Q _=>∃(p:Addr) (n:Nat) (l:List Nat),vs=[.ref p,.str (S l)]/\FeedAt H p n/\n+400 < zz_/\Low l/\1<=l.length/\l.length<=26 /\
 ∀(r:Addr) (ws:List (List Nat)) (H':Hp),H' r=some (.lst (ws.map fun w=>V.str (S w)))->ws.length=6->(∀ w∈ws,GW w)->FeedAt H' p (n+400)->Kept p H H'->r≠p->Q (.ref r) H'
theorem jtx_ {w:List Nat} (h:GW w) {lo hi:Option Int} (h1:1<=(cutA w lo hi).length):GW (cutA w lo hi):=by
 refine⟨ul_ h.1 _ _,h1,?_⟩
 have:=zp_ w lo hi
 have h2:=jiu_ w.length w.length (pg_ _) hi
 have:=h.2.2
 omega
theorem jbn_ {a b c:Nat} {d:Int} (h0:0<=d) (h1:d < 3):∃ m:Nat,atI [V.int (a:Int),.int (b:Int),.int (c:Int)] d=some (.int (m:Int))/\(m=a∨m=b∨m=c):=by
 have:d=0∨d=1∨d=2:=by omega
 rcases this with rfl | rfl | rfl
 ·exact⟨a,jnr_ _ _,.inl rfl⟩
 ·exact⟨b,jmw_ _ _ _,.inr (.inl rfl)⟩
 ·exact⟨c,jrc_ _ _ _ _,.inr (.inr rfl)⟩
section
variable {P:Program} {w:World} {K:pb_} {mg:Str->Option Value} {base:Heap} {f:Addr} {fd:FuncData} {tk:Nat->Tok}
theorem jmo_ (T:Txt mg tk) (F:Fun K "_law_six" "_law_six" s_law_six f fd) (D_law_next:Dn P w K mg base "_law_next" 1 ["_law_feed_here","_law_many"] yo_) (D_law_word:Dn P w K mg base "_law_word" 2 ["_law_feed_here","_law_letters_here","_law_most"] jdd_):FnOk P w K mg base CX0 3 f fd ["_law_feed_here","_law_letters_here"] jsv_:=by
 refine F.ok sc_law_six (fun vs H Q E h=>?_) (fun cdv A outer s H vs Q E hr h=>?_)
 ·obtain⟨p,n,l,rfl,_⟩:=h
  rfl
 obtain⟨p,n,l,rfl,hf,hn,hl,hl1,hl2,q⟩:=h
 have nd:=sc_law_six.nd
 refine⟨_,(je_ (jk_ (i:=2) nd rfl (Or.inl rfl) (j5_ (ja_ (jj_ D_law_word hr.mo_ rfl (ja_ (pv 0) (ja_ (pv 1) (ja_ (jt_ (jo_ (K:=K)) (j5_ (ja_ jd_ (ja_ jd_ (ja_ jd_ jc_)))) (jj_ D_law_next hr.mo_ rfl (ja_ (pv 0) (ja_ jd_ jc_))) (fun _ _=>rfl)) jc_)))) jc_)))
  (je_ (jdo_ p6_ (jq_ o_lt (jp_ (zo_ (K:=K)) rfl T.z_len (by decide +kernel) (ja_ (pv 2) jc_)) jd_ (jv_ _))
   (je_ (jk_ (i:=3) nd rfl (Or.inl rfl) (jj_ D_law_word hr.mo_ rfl (ja_ (pv 0) (ja_ (pv 1) (ja_ (jt_ (jo_ (K:=K)) (j5_ (ja_ jd_ (ja_ jd_ (ja_ jd_ jc_)))) (jj_ D_law_next hr.mo_ rfl (ja_ (pv 0) (ja_ jd_ jc_))) (fun _ _=>rfl)) jc_)))))
  (je_ (jk_ (i:=4) nd rfl (Or.inl rfl) (jj_ D_law_next hr.mo_ rfl (ja_ (pv 0) (ja_ (jp_ (zo_ (K:=K)) rfl T.z_len (by decide +kernel) (ja_ (jt_ (jo_ (K:=K)) (pv 2) jd_ (fun _ _=>rfl)) jc_)) jc_))))
  (jh_ (zq_ (zn_ (K:=K) p7_ p9_ qa_ zh_ (pv 2) (ja_ (jt_ (jo_ (K:=K)) (j5_ (ja_ (pv 3) (ja_ (j0_ (zc_ (K:=K)) (jt_ (jo_ (K:=K)) (pv 2) jd_ (fun _ _=>rfl)) (jz_ (pv 4)) zj_) (ja_ (j0_ (zc_ (K:=K)) (jt_ (jo_ (K:=K)) (pv 2) jd_ (fun _ _=>rfl)) zj_ (jz_ (jn_ jx_ (pv 4) jd_))) (ja_ (pv 3) jc_))))) (jj_ D_law_next hr.mo_ rfl (ja_ (pv 0) (ja_ jd_ jc_))) (fun _ _=>rfl)) jc_)))))))
  (jh_ (jr_ (pv 2))))),?_⟩
 rw[show L2.start ["_law_feed_here","_law_letters_here","_law_words","_law_word_here","_law_at"] [.ref p,.str (S l)]=[some (.ref p),some (.str (S l)),none,none,none] from rfl]
 walk_at "go"
 intro d0 hd0
 have pd0:p≠d0:=by obtain⟨o,e⟩:=hf.some;exact jg_ e hd0
 walk_at "go"
 refine⟨p,3,n,rfl,hf.new hd0,by omega,by decide,by decide,fun c0 Ha hc0 hc1 hfa oa=>?_⟩
 obtain⟨m0,hm,hm1⟩:=jbn_ (a:=6) (b:=12) (c:=20) hc0 hc1
 refine z1_ (jw_ ((oa d0 pd0.symm).trans jb_)) hm ?_
 walk_at "go"
 refine⟨p,n+1,l,m0,rfl,hfa,by omega,hl,hl1,hl2,by omega,by omega,fun w0 H1 hw00 hw01 hw02' hf1 k1'=>?_⟩
 have hw02:w0.length<=20:=by omega
 have k1:Kept p H H1:=(((Kept.refl p H).new hd0 _).trans oa.kept).trans k1'
 walk_at "go"
 intro r hr0
 have pr:p≠r:=by obtain⟨o,e⟩:=hf1.some;exact jg_ e hr0
 walk_at "go"
 have hgw0:∀ w∈[w0],GW w:=fun w hw=>by
  have:w=w0:=by simpa using hw
  rw[this];exact⟨hw00,hw01,hw02⟩
 refine jhi_ ⟨fun m σ H'=>∃(ws:List (List Nat)) (v3 v4:Option V),m=6 - (w0::ws).length/\(w0::ws).length<=6/\σ=[some (.ref p),some (.str (S l)),some (.ref r),v3,v4]/\H' r=some (.lst ((w0::ws).map fun w=>V.str (S w)))/\(∀ w∈w0::ws,GW w)/\FeedAt H' p (n+40 * (w0::ws).length)/\Kept p H H',
  ⟨_,[],none,none,rfl,(by show 1<=6;decide),rfl,jb_,hgw0,(hf1.new hr0).mono (by simp),k1.new hr0 _⟩,?_⟩
 rintro m σ H2 ⟨ws,v3,v4,rfl,hws,rfl,e2,hgw,hf2,k2⟩
 have hlen:((w0::ws).map fun w=>V.str (S w)).length=(w0::ws).length:=pc_ _
 have hg0:=hgw w0 p5_
 walk_at "go"
 rw[hlen]
 refine iteD (fun c=>?_) (fun c=>?_)
 ·refine⟨fun σ' H'=>∃(x:List Nat) (v3 v4:Option V),GW x/\σ'=[some (.ref p),some (.str (S l)),some (.ref r),v3,v4]/\H' r=some (.lst ((w0::(ws++[x])).map fun w=>V.str (S w)))/\FeedAt H' p (n+40 * ((w0::ws).length+1))/\Kept p H H',?_,?_⟩
  ·rintro σ' H' ⟨x,v3',v4',hx,rfl,e',hf',k'⟩
   refine⟨6 - (w0::(ws++[x])).length,?_,ws++[x],v3',v4',rfl,?_,rfl,e',?_,hf'.mono (by simp),k'⟩
   ·simp only[pr_,pd_,p1_] at hws c ⊢;omega
   ·simp only[pr_,pd_,p1_] at hws c ⊢;omega
   ·intro w hw
    rcases pz_.mp hw with rfl | hw
    ·exact hg0
    ·rcases p0_.mp hw with h | h
     ·exact hgw w (pt_ _ h)
     ·have:w=x:=by simpa using h
      rw[this];exact hx
  ·simp only[pr_] at hws hf2 c ⊢
   walk_at "go"
   intro d1 hd1
   have pd1:p≠d1:=by obtain⟨o,e⟩:=hf2.some;exact jg_ e hd1
   walk_at "go"
   refine⟨p,3,n+40 * (ws.length+1),rfl,hf2.new hd1,by omega,by decide,by decide,fun c1 Hb hb0 hb1 hfb ob=>?_⟩
   obtain⟨m1,hm2,hm3⟩:=jbn_ (a:=4) (b:=8) (c:=20) hb0 hb1
   refine z1_ (jw_ ((ob d1 pd1.symm).trans jb_)) hm2 ?_
   walk_at "go"
   refine⟨p,n+40 * (ws.length+1)+1,l,m1,rfl,hfb,by omega,hl,hl1,hl2,by omega,by omega,fun w1 H3 hw10 hw11 hw12' hf3' k3'=>?_⟩
   have hw12:w1.length<=20:=by omega
   have hf3:FeedAt H3 p (n+40 * (ws.length+1)+31):=hf3'.mono (by omega)
   have k3:Kept p H2 H3:=(((Kept.refl p H2).new hd1 _).trans ob.kept).trans k3'
   have e3:H3 r=_:=k3 _ _ pr.symm e2
   have hl0:=hg0.2.2
   walk_at "go"
   refine⟨p,_,n+40 * (ws.length+1)+31,rfl,hf3,by omega,by have:=hg0.2.1;omega,by omega,fun at_ H4 ha0 ha1 hf4 o4=>?_⟩
   have e4:H4 r=_:=(o4 r pr.symm).trans e3
   walk_at "go"
   intro d hd0
   have e5:(upd H4 d (.lst [.str (S w1),.str (S (cutA w0 (some at_) none)),.str (S (cutA w0 none (some (at_+1)))),.str (S w1)])) r=_:=(ji_ hd0 _) _ _ e4
   have hf5:=hf4.new (o:=.lst [.str (S w1),.str (S (cutA w0 (some at_) none)),.str (S (cutA w0 none (some (at_+1)))),.str (S w1)]) hd0
   have pd:p≠d:=by obtain⟨o,e⟩:=hf4.some;exact jg_ e hd0
   walk_at "go"
   refine⟨p,4,n+40 * (ws.length+1)+31+1,rfl,hf5,by omega,by decide,by decide,fun c4 H6 hc0 hc1 hf6 o6=>?_⟩
   have e6:H6 r=some (.lst ((w0::ws).map fun w=>V.str (S w))):=(o6 r pr.symm).trans e5
   have ed6:H6 d=_:=(o6 d pd.symm).trans jb_
   have hc2:(cutA w0 (some at_) none).length=w0.length - at_.toNat:=by
    have:=zp_ w0 (some at_) none
    have h1:sx w0.length 0 (some at_)=at_.toNat:=by simp only[sx];rw[if_neg (by omega)];omega
    rw[h1] at this;exact this
   have hc3:(cutA w0 none (some (at_+1))).length=(at_+1).toNat:=by
    have:=zp_ w0 none (some (at_+1))
    have h1:sx w0.length w0.length (some (at_+1))=(at_+1).toNat:=by simp only[sx];rw[if_neg (by omega)];omega
    rw[h1] at this;exact this
   obtain⟨x,hx,hgx⟩:∃ x:List Nat,atI [V.str (S w1),.str (S (cutA w0 (some at_) none)),.str (S (cutA w0 none (some (at_+1)))),.str (S w1)] c4=some (.str (S x))/\GW x:=by
    have:c4=0∨c4=1∨c4=2∨c4=3:=by omega
    rcases this with rfl | rfl | rfl | rfl
    ·exact⟨w1,jnr_ _ _,hw10,hw11,hw12⟩
    ·exact⟨_,jmw_ _ _ _,jtx_ hg0 (by omega)⟩
    ·exact⟨_,jrc_ _ _ _ _,jtx_ hg0 (by omega)⟩
    ·exact⟨w1,jyv_ _ _ _ _ _,hw10,hw11,hw12⟩
   refine z1_ (jw_ ed6) hx ?_
   walk_at "go"
   refine jlx_ e6 (szn (by rw[pc_];simp only[pr_];omega)) ?_
   walk_at "go"
   refine⟨x,_,_,hgx,rfl,?_,?_,fun b o hb e=>?_⟩
   ·rw[jb_,<- q3_,pi_];rfl
   ·obtain⟨a1,b1,c1,g1,g2⟩:=hf6
    exact⟨a1,b1,c1,by rw[jf_ pr];exact g1,by omega⟩
   ·by_cases z:b=r
    ·subst z
     have:=k1 b o hb e
     rw[hr0] at this;cases this
    ·rw[jf_ z]
     exact(o6 b hb).trans ((ji_ hd0 _) _ _ ((o4 b hb).trans (k3 b o hb (k2 b o hb e))))
 ·walk_at "go"
  have h6:(w0::ws).length=6:=by omega
  exact q r (w0::ws) H2 e2 h6 hgw (hf2.mono (by omega)) k2 pr.symm
end
structure Ow (K:pb_) (mg:Str->Option Value) (cO:Addr):Prop where
 m_Breaker:mg "Breaker"=some (.ref cO)
 cl:Cls K cO
 n_told_gaps:NoAttr K cO "told_gaps"
 n_patterns:NoAttr K cO "patterns"
 n_head:NoAttr K cO "head"
 n_tail:NoAttr K cO "tail"
abbrev s_Breaker_init:Stmt:=vw_ (top 21) 0
theorem sc_Breaker_init:FnScope ["self","patterns","told","head","tail"] ["self","patterns","told","head","tail"] (jl_ s_Breaker_init):=by walk_at "f"
abbrev s_Breaker_gaps:Stmt:=vw_ (top 21) 1
theorem sc_Breaker_gaps:FnScope ["self","word","last"] ["self","word"] (jl_ s_Breaker_gaps):=by walk_at "f"
abbrev s_gaps_by_word:Stmt:=top 20
theorem sc_gaps_by_word:FnScope ["told","known","word","gaps"] ["told"] (jl_ s_gaps_by_word):=by walk_at "f"
theorem jgl_ {td ty tv:TE} {D:Ends} {σ:St} {H:Hp} (h:tv σ H fun v H1=>td σ H1 fun x H2=>ty σ H2 fun y H3=>∃ a H4,x=.ref a/\DPut H3 a y v H4/\D.nx σ H4):jzo_ td ty tv D σ H:=h
theorem jlm_ {td ty:TE} {σ:St} {H:Hp} {Q:VK} (h:td σ H fun x H1=>ty σ H1 fun y H2=>∃ a v,x=.ref a/\DGet H2 a y (some v)/\Q v H2):jsp_ td ty σ H Q:=h
theorem jho_ {σ:St} {H:Hp} {Q:VK} (h:∀ p,H p=none->Q (.ref p) (upd H p (.dK []))):juh_ σ H Q:=h
def jvc_:Sp:=fun vs H Q _=>∃(b:Addr) (ys:List V) (xs:List Pat),vs=[.ref b]/\H b=some (.lst ys)/\L2.IsL H ys (xs.map patD)/\(xs.map (·.1)).Nodup/\xs.length<=1000 /\
 ∀(a:Addr) (kvs:List (Key×V)) (H':Hp),H a=none->H' a=some (.dK kvs)->NT H' kvs xs->Same H H'->Q (.ref a) H'
theorem jkd_ {kvs:List (Key×V)} {k:Key} {v:V} (h:(kvs.any fun kv=>decide (kv.1=k))=false):putK kvs k v=kvs++[(k,v)]:=by
 unfold putK
 rw[h];rfl
section
variable {P:Program} {w:World} {K:pb_} {mg:Str->Option Value} {base:Heap} {f:Addr} {fd:FuncData} {tk:Nat->Tok} {cO:Addr}
theorem jbr_ (T:Txt mg tk) (F:Fun K "gaps_by_word" "gaps_by_word" s_gaps_by_word f fd):FnOk P w K mg base CX0 1 f fd ["told"] jvc_:=by
 refine F.ok sc_gaps_by_word (fun vs H Q E h=>?_) (fun cdv A outer s H vs Q E hr h=>?_)
 ·obtain⟨b,ys,xs,rfl,_⟩:=h
  rfl
 obtain⟨b,ys,xs,rfl,hb,hys,hnd,hxl,q⟩:=h
 have nd:=sc_gaps_by_word.nd
 have hyl:ys.length=xs.length:=by have:=hys.length;simpa using this
 refine⟨_,(je_ (jk_ (i:=1) nd rfl (Or.inl rfl) jcy_)
  (je_ (zm_ p6_ rfl (zt_ (K:=K) (pv 0)) (yu_ rfl (jy_ (jm_ (i:=2) nd rfl (Or.inl rfl)) (jy_ (jm_ (i:=3) nd rfl (Or.inl rfl)) z7_)))
   (je_ (ze_ (jmg_ (jud_ (xa_ hr) (pv 2) (pv 1)))
   (jh_ u0_)
   j2_)
  (jh_ (jcd_ (xa_ hr) (pv 1) (pv 2) (pv 3) rfl))))
  (jh_ (jr_ (pv 1))))),?_⟩
 rw[show L2.start ["told","known","word","gaps"] [.ref b]=[some (.ref b),none,none,none] from rfl]
 walk_at "go"
 refine jho_ fun a ha=>?_
 have s1:=ji_ ha (.dK [])
 walk_at "go"
 refine jlc_ (SqL.of (s1 _ _ hb)) ?_
 refine yr_ (K:=K) (xs:=ys) (fun i σ H'=>∃(v2 v3:Option V) (kvs:List (Key×V)),σ=[some (.ref b),some (.ref a),v2,v3]/\H' a=some (.dK kvs)/\NT H' kvs (xs.take i)/\kvs.length=i/\Same H H')
  ⟨none,none,[],rfl,jb_,trivial,rfl,s1⟩ (fun i σ H' _ ⟨_,_,_,_,_,_,_,s⟩=>SqL.of (s _ _ hb)) ?_ ?_
 ·rintro i y σ H2 hy ⟨v2,v3,kvs,rfl,e2,hN,hkl,s2⟩
  have hi:i < xs.length:=by
   have:=(pl_.mp hy).1
   omega
  obtain⟨y',d,hy',hd1,hI⟩:=IsL.get (IsL.same s2 hys) (show i < (xs.map patD).length by simpa using hi)
  rw[hy] at hy'
  cases hy'
  rw[pm_,pa_ hi] at hd1
  cases hd1
  obtain⟨a2,t2,rfl,ea2,et2⟩:=jbk_ hI
  have hnew:((xs.take i).any fun g=>decide (g.1=xs[i].1))=false:=by
   rw[tv_]
   intro g hg hd
   have hge:g.1=xs[i].1:=by simpa using hd
   obtain⟨j,hj⟩:=lb_ hg
   rw[wr_] at hj
   split at hj
   ·rename_i hji
    have hjl:j < xs.length:=by omega
    rw[pa_ hjl] at hj
    cases hj
    have:=w0_.mp hnd j i (by simpa using hjl) (by simpa using hi) hji
    apply this
    rw[t9_,t9_]
    exact hge
   ·cases hj
  have hval:valV kvs (Sum.inr (S xs[i].1))=none:=by
   rcases hN.val (z:=xs[i].1) with ⟨q1,q2⟩ | ⟨g,t,q1,hgm,hgz,q2,q3⟩
   ·exact q2
   ·rw[tv_] at hnew
    exact absurd (by simpa using hgz) (hnew g hgm)
  refine y0_ ea2 rfl (j4_ (j7_ (j4_ (j7_ (yz_ ?_)))))
  walk_at "go"
  refine i_tB (jyi_ ?_)
  walk_at "go"
  refine⟨a,_,rfl,DGet.k (k:=Sum.inr (S xs[i].1)) e2,?_⟩
  rw[hval]
  walk_at "go"
  refine jgl_ ?_
  walk_at "go"
  refine⟨a,_,rfl,DPut.k (k:=Sum.inr (S xs[i].1)) e2 (rp_ (show kvs.length<=1000 by omega) (by decide)),?_⟩
  have hputE:putK kvs (Sum.inr (S xs[i].1):Key) (V.ref t2)=kvs++[(Sum.inr (S xs[i].1),.ref t2)]:=jkd_ (by rw[hN.anyK];exact hnew)
  refine⟨_,_,_,rfl,jb_,?_,?_,fun c o e=>?_⟩
  ·rw[qb_,pa_ hi,hputE]
   exact NT.tups (fun b' zs e=>by
    have hb':b'≠a:=fun z=>by rw[z,e2] at e;cases e
    rw[jf_ hb'];exact e) (NT.append hN ⟨rfl,⟨t2,rfl,et2⟩,trivial⟩)
  ·rw[hputE,pd_];simp[hkl]
  ·have hc:c≠a:=fun z=>by rw[z,ha] at e;cases e
   rw[jf_ hc];exact s2 c o e
 ·rintro σ H2 ⟨v2,v3,kvs,rfl,e2,hN,hkl,s2⟩
  rw[hyl,qc_] at hN
  walk_at "go"
  exact q a kvs H2 ha e2 hN s2
end
theorem ug_ {K:pb_} {a:Addr} {xs:List V} {p:Addr} {g:TG} {tc:TT} {te:TE} {Q:VK} {σ0:St} {H0:Hp} (Pv:Nat->List V->St->Hp->Prop)
  (hl:∀ i acc σ H,i<=xs.length->Pv i acc σ H->SqT K H a xs)
  (h0:Pv 0 [] σ0 H0) (hp:∀ i acc σ H,Pv i acc σ H->H p=some (.lst acc)/\acc.length<=i) (hz:xs.length<=sizeLine)
  (hs:∀ i acc σ H,i < xs.length->Pv i acc σ H->g (xs.getD i .non) σ H fun σ3 H3=>tc σ3 H3 fun b H4 =>
   if b=true then te σ3 H4 fun v H5=>H5 p=some (.lst acc)/\Pv (i+1) (acc++[v]) σ3 (upd H5 p (.lst (acc++[v]))) else Pv (i+1) acc σ3 H4)
  (hd:∀ acc σ H,Pv xs.length acc σ H->Q (.ref p) H):yq_ (Itt K a) p g tc te Q σ0 H0 :=
 jca_ (J:=Itt K a) (n:=xs.length) (val:=fun i=>xs.getD i .non) Pv
  (fun i acc σ H hi q=>⟨xs,xs[i],(hl i acc σ H (q6_ hi) q),by simp[hi]⟩) (fun acc σ H q=>⟨xs,(hl _ acc σ H (pg_ _) q),pg_ _⟩)
  (fun i acc σ H x _ hi q y=>⟨y.1,by have:=y.2 xs (hl i acc σ H (q6_ hi) q);rw[pe_,this];rfl⟩) h0 hp hz hs hd
theorem jxt_ {X:Cx} {e:Expr} {f:Str} {ta:TE} {pos:Pos} {K:pb_} (hK:X.K=K) (he:PE X e ta) (hb:attributeBase e f X.env (eval e X.env)=eval e X.env):PE X (.Attribute e f pos) (tFld K ta f):=hK▸yv_ he hb
def letG (hd tl:Int) (n:Nat) (g:Int):Bool:=decide (hd<=g)&&decide (g<=(n:Int) - tl)
def x3_ (pats told:List Pat) (hd tl:Int) (w:List Nat):List Int:=match y9_ told w with
 | some g=>g.2
 | none=>(brks (vals pats w)).filter (letG hd tl w.length)
def BrkAt (C:Addr) (H:Hp) (p kd ld:Addr) (pats told:List Pat) (hd tl:Int):Prop:=∃(dx:Addr) (ys:List V) (kvs:List (Key×V)),
 H p=some (.ins C dx [(("told_gaps":Str),.ref kd),(("patterns":Str),.ref ld),(("head":Str),.int hd),(("tail":Str),.int tl)])/\H kd=some (.dK kvs)/\NT H kvs told/\H ld=some (.lst ys)/\L2.IsL H ys (pats.map patD)
theorem BrkAt.same {C:Addr} {H H':Hp} {p kd ld:Addr} {pats told:List Pat} {hd tl:Int} (s:Same H H') (h:BrkAt C H p kd ld pats told hd tl):BrkAt C H' p kd ld pats told hd tl:=by
 obtain⟨dx,ys,kvs,h1,h2,h3,h4,h5⟩:=h
 exact⟨dx,ys,kvs,s _ _ h1,s _ _ h2,h3.same s,s _ _ h4,IsL.same s h5⟩
def jgz_ (C:Addr):Sp:=fun vs H Q _=>∃(p a b dx:Addr) (ya yb:List V) (pats told:List Pat) (hd tl:Int),vs=[.ref p,.ref a,.ref b,.int hd,.int tl]/\H p=some (.ins C dx [])/\H a=some (.lst ya)/\H b=some (.lst yb)/\L2.IsL H ya (pats.map patD)/\L2.IsL H yb (told.map patD)/\(told.map (·.1)).Nodup/\told.length<=1000/\pats.length<=1000 /\
 ∀(kd ld:Addr) (H':Hp),H kd=none->H ld=none->BrkAt C H' p kd ld pats told hd tl->(∀ b o,b≠p->H b=some o->H' b=some o)->Q .non H'
def jlw_ (C:Addr):Sp:=fun vs H Q _=>∃(p kd ld:Addr) (pats told:List Pat) (hd tl:Int) (w:List Nat),vs=[.ref p,.str (S w)]/\BrkAt C H p kd ld pats told hd tl/\(∀ x∈pats,1<=x.1.length/\x.1.length<=1000/\x.2.length<=x.1.length+1)/\pats.length<=1000/\1<=w.length/\w.length<=100 /\
 ∀(t:Addr) (H':Hp),H' t=some (.tup ((x3_ pats told hd tl w).map V.int))->Same H H'->Q (.ref t) H'
section
variable {P:Program} {w:World} {K:pb_} {mg:Str->Option Value} {base:Heap} {f:Addr} {fd:FuncData} {tk:Nat->Tok} {cO:Addr}
theorem jbs_ (T:Txt mg tk) (O:Ow K mg cO) (F:Fun K "__init__" "Breaker.__init__" s_Breaker_init f fd) (D_gaps_by_word:Dn P w K mg base "gaps_by_word" 1 ["told"] jvc_):FnOk P w K mg base CX0 2 f fd ["self","patterns","told","head","tail"] (jgz_ cO):=by
 refine F.ok sc_Breaker_init (fun vs H Q E h=>?_) (fun cdv A outer s H vs Q E hr h=>?_)
 ·obtain⟨p,a,b,dx,ya,yb,pats,told,hd,tl,rfl,_⟩:=h
  rfl
 obtain⟨p,a,b,dx,ya,yb,pats,told,hd,tl,rfl,hp,ha,hb,hya,hyb,hnd,ht1,ht2,q⟩:=h
 have nd:=sc_Breaker_init.nd
 have hl1:=hya.length
 rw[pc_] at hl1
 refine⟨_,(je_ (jde_ (pv 0) (jj_ D_gaps_by_word hr.mo_ rfl (ja_ (pv 2) jc_)) rfl)
  (je_ (jde_ (pv 0) (yb_ c_list rfl T.z_list (by decide +kernel) (ja_ (pv 1) jc_)) rfl)
  (je_ (jde_ (pv 0) (pv 3) rfl)
  (jh_ (jde_ (pv 0) (pv 4) rfl))))),?_⟩
 rw[show L2.start ["self","patterns","told","head","tail"] [.ref p,.ref a,.ref b,.int hd,.int tl]=[some (.ref p),some (.ref a),some (.ref b),some (.int hd),some (.int tl)] from rfl]
 refine jit_ (jea_ ?_)
 walk_at "go"
 refine⟨b,yb,told,rfl,hb,hyb,hnd,ht1,fun kd kvs H2 hkd ekd hN s2=>?_⟩
 have hp2:=s2 _ _ hp
 walk_at "go"
 refine jdm_ hp2 O.cl O.n_told_gaps (by decide) ?_
 have d2:=Dat.ins hp2 (.ins cO dx (putF ("told_gaps":Str) (.ref kd) []))
 have d02:=s2.dat.trans d2
 have e2:=jb_ (H:=H2) (a:=p) (o:=.ins cO dx (putF ("told_gaps":Str) (.ref kd) []))
 have o2:=ui_ (p:=p) (x:=.ins cO dx (putF ("told_gaps":Str) (.ref kd) [])) (fun b o _ e=>s2 b o e)
 have ekd2:=d2.2.2 _ _ ekd
 have hN2:=hN.dat d2
 generalize upd H2 p (.ins cO dx (putF ("told_gaps":Str) (.ref kd) []))=H3 at d02 e2 o2 ekd2 hN2 ⊢
 walk_at "go"
 refine jit_ (jea_ ?_)
 walk_at "go"
 refine jwq_ (jw_ (d02.1 _ _ ha)) fun ld hld=>?_
 have s4:=ji_ hld (.lst ya)
 have eld:=jb_ (H:=H3) (a:=ld) (o:=.lst ya)
 generalize upd H3 ld (.lst ya)=H4 at s4 eld ⊢
 walk_at "go"
 refine jdm_ (s4 _ _ e2) O.cl O.n_patterns (show 1 < 1000 by decide) ?_
 have d4:=Dat.ins (s4 _ _ e2) (.ins cO dx (putF ("patterns":Str) (.ref ld) (putF ("told_gaps":Str) (.ref kd) [])))
 have d04:=(d02.trans s4.dat).trans d4
 have e4:=jb_ (H:=H4) (a:=p) (o:=.ins cO dx (putF ("patterns":Str) (.ref ld) (putF ("told_gaps":Str) (.ref kd) [])))
 have o4:=ui_ (p:=p) (x:=.ins cO dx (putF ("patterns":Str) (.ref ld) (putF ("told_gaps":Str) (.ref kd) []))) (jwb_ o2 s4)
 have ekd4:=d4.2.2 _ _ (s4 _ _ ekd2)
 have hN4:=(hN2.same s4).dat d4
 have eld4:=d4.1 _ _ eld
 have hld0:H ld=none:=by
  cases e:H ld with
  | none=>rfl
  | some o =>
   exfalso
   by_cases z:ld=p
   ·rw[z,e2] at hld;cases hld
   ·have:=o2 ld o z e;rw[hld] at this;cases this
 generalize upd H4 p (.ins cO dx (putF ("patterns":Str) (.ref ld) (putF ("told_gaps":Str) (.ref kd) [])))=H5 at d04 e4 o4 ekd4 hN4 eld4 ⊢
 walk_at "go"
 refine jit_ (jea_ ?_)
 walk_at "go"
 refine jdm_ e4 O.cl O.n_head (show 2 < 1000 by decide) ?_
 have d5:=Dat.ins e4 (.ins cO dx (putF ("head":Str) (.int hd) (putF ("patterns":Str) (.ref ld) (putF ("told_gaps":Str) (.ref kd) []))))
 have d05:=d04.trans d5
 have e5:=jb_ (H:=H5) (a:=p) (o:=.ins cO dx (putF ("head":Str) (.int hd) (putF ("patterns":Str) (.ref ld) (putF ("told_gaps":Str) (.ref kd) []))))
 have o5:=ui_ (p:=p) (x:=.ins cO dx (putF ("head":Str) (.int hd) (putF ("patterns":Str) (.ref ld) (putF ("told_gaps":Str) (.ref kd) [])))) o4
 have ekd5:=d5.2.2 _ _ ekd4
 have hN5:=hN4.dat d5
 have eld5:=d5.1 _ _ eld4
 generalize upd H5 p (.ins cO dx (putF ("head":Str) (.int hd) (putF ("patterns":Str) (.ref ld) (putF ("told_gaps":Str) (.ref kd) []))))=H6 at d05 e5 o5 ekd5 hN5 eld5 ⊢
 walk_at "go"
 refine jea_ ?_
 walk_at "go"
 refine jdm_ e5 O.cl O.n_tail (show 3 < 1000 by decide) ?_
 have d6:=Dat.ins e5 (.ins cO dx (putF ("tail":Str) (.int tl) (putF ("head":Str) (.int hd) (putF ("patterns":Str) (.ref ld) (putF ("told_gaps":Str) (.ref kd) [])))))
 walk_at "go"
 exact q kd ld _ hkd hld0 ⟨dx,ya,kvs,jb_,d6.2.2 _ _ ekd5,hN5.dat d6,d6.1 _ _ eld5,IsL.dat (d05.trans d6) hya⟩ (ui_ o5)
theorem jbt_ (T:Txt mg tk) (O:Ow K mg cO) (F:Fun K "gaps" "Breaker.gaps" s_Breaker_gaps f fd) (D_breaks:Dn P w K mg base "breaks" 3 ["patterns","word"] jcv_):FnOk P w K mg base CX0 4 f fd ["self","word"] (jlw_ cO):=by
 refine F.ok sc_Breaker_gaps (fun vs H Q E h=>?_) (fun cdv A outer s H vs Q E hr h=>?_)
 ·obtain⟨p,kd,ld,pats,told,hd,tl,w',rfl,_⟩:=h
  rfl
 obtain⟨p,kd,ld,pats,told,hd,tl,w',rfl,hB,hps,hpl,hw1,hw2,q⟩:=h
 obtain⟨dx,ys,kvs,e1,e2,hN,e3,hys⟩:=id hB
 have nd:=sc_Breaker_gaps.nd
 refine⟨_,(je_ (ze_ (jmg_ (jud_ (xa_ hr) (pv 1) (yv_ (pv 0) rfl)))
   (jh_ (jr_ (v1_ (xa_ hr) (yv_ (pv 0) rfl) (pv 1) (fun _ _=>rfl))))
   j2_)
  (je_ (jk_ (i:=2) nd rfl (Or.inr rfl) (jn_ vl_ (jp_ (zo_ (K:=K)) rfl T.z_len (by decide +kernel) (ja_ (pv 1) jc_)) (yv_ (pv 0) rfl)))
  (jh_ (jr_ (yb_ uq_ rfl T.z_tuple (by decide +kernel) (ja_ (zu_ ["self","last","gap"] [some 0,some 2,none] rfl (by kernel_rfl) rfl (zt_ (K:=K) (jj_ D_breaks hr.mo_ rfl (ja_ (yv_ (pv 0) rfl) (ja_ (pv 1) jc_)))) (fun _ _ _ _=>(jm_ (i:=2) (show (["self","last","gap"]:List Str).Nodup by decide +kernel) rfl (Or.inl rfl) (Or.inr rfl))) (fun _ _ _ _=>(y2_ (jcp_ o_le o_le (jxt_ (K:=K) rfl (pv 0) rfl) (pv 2) (pv 1)))) (fun _ _ _ _=>(pv 2))) jc_)))))),?_⟩
 rw[show L2.start ["self","word","last"] [.ref p,.str (S w')]=[some (.ref p),some (.str (S w')),none] from rfl]
 have hsz:(S w').length<=sizeLine:=szn (by rw[js_];omega)
 walk_at "go"
 refine i_tB (jyi_ ?_)
 walk_at "go"
 refine ys_ ?_
 walk_at "go"
 refine yy_ e1 O.cl O.n_told_gaps rfl ?_
 refine⟨kd,_,rfl,DGet.k (k:=Sum.inr (S w')) e2,?_⟩
 rcases hN.val (z:=w') with ⟨q1,q2⟩ | ⟨g,t,q1,hgm,hgz,q2,q3⟩
 ·rw[q2]
  walk_at "go"
  refine ys_ ?_
  walk_at "go"
  refine yy_ e1 O.cl O.n_tail rfl ?_
  walk_at "go"
  refine ys_ ?_
  walk_at "go"
  refine yy_ e1 O.cl O.n_patterns rfl ?_
  walk_at "go"
  have hbl:(brks (vals pats w')).length<=100:=by
   unfold brks
   rw[pc_]
   refine qg_ (q2_ _ _) ?_
   rw[List.length_range,ya_];omega
  refine⟨.ref ld,pats,w',rfl,?_,hps,hpl,hw1,hw2,fun t H1 et s1=>?_⟩
  ·simp only[Is,jeq_]
   exact⟨ld,ys,rfl,e3,hys⟩
  refine jsr_ (SqT.of et) ?_
  intro r hr0
  refine ug_ (K:=K) (a:=t) (xs:=(brks (vals pats w')).map V.int) (fun i acc σ H'=>∃ v,σ=[some (.ref p),some (.int ((w'.length:Int) - tl)),v]/\acc=(((brks (vals pats w')).take i).filter (letG hd tl w'.length)).map V.int/\Same H1 H'/\H' r=some (.lst acc))
   (fun i acc σ H' _ ⟨_,_,_,s2,_⟩=>SqT.of (s2 _ _ et)) ⟨none,rfl,rfl,ji_ hr0 _,jb_⟩ (fun i acc σ H' ⟨_,_,e,_,e2⟩=>⟨e2,by rw[e,pc_];exact qg_ (q2_ _ _) (by rw[p2_];omega)⟩) (szn (by rw[pc_];omega)) ?_ ?_
  ·rintro i acc σ H2 hi ⟨v,rfl,rfl,s2,e2'⟩
   rw[pc_] at hi
   have hgd:((brks (vals pats w')).map V.int).getD i .non=V.int (brks (vals pats w'))[i]:=by simp[pe_,hi]
   rw[hgd]
   have htk:(brks (vals pats w')).take (i+1)=(brks (vals pats w')).take i++[(brks (vals pats w'))[i]]:=by rw[qb_,pa_ hi];rfl
   have ep:=s2 _ _ (s1 _ _ e1)
   generalize (brks (vals pats w'))[i]=g at htk ⊢
   walk_at "go"
   refine ys_ ?_
   walk_at "go"
   refine yy_ ep O.cl O.n_head rfl ?_
   walk_at "go"
   have keep:∀ b' o,H1 b'=some o->b'≠r:=fun b' o e z=>by rw[z,hr0] at e;cases e
   have no:letG hd tl w'.length g=false->∃ v_1,[some (V.ref p),some (V.int ((w'.length:Int) - tl)),some (V.int g)]=[some (V.ref p),some (V.int ((w'.length:Int) - tl)),v_1]/\(((brks (vals pats w')).take i).filter (letG hd tl w'.length)).map V.int=(((brks (vals pats w')).take (i+1)).filter (letG hd tl w'.length)).map V.int/\Same H1 H2/\H2 r=some (.lst ((((brks (vals pats w')).take i).filter (letG hd tl w'.length)).map V.int)):=fun hl =>
    ⟨_,rfl,by rw[htk,qf_];simp[hl],s2,e2'⟩
   by_cases c:hd<=g
   ·rw[if_pos (decide_eq_true c)]
    walk_at "go"
    by_cases c2:g<=(w'.length:Int) - tl
    ·rw[if_pos (decide_eq_true c2)]
     walk_at "go"
     have hl:letG hd tl w'.length g=true:=by unfold letG;rw[decide_eq_true c,decide_eq_true c2];rfl
     refine⟨e2',_,rfl,by rw[htk,qf_,pi_];simp[hl],fun b' o e=>by rw[jf_ (keep b' o e)];exact s2 b' o e,jb_⟩
    ·rw[if_neg (by rw[decide_eq_false c2];exact ph_)]
     exact no (by unfold letG;rw[decide_eq_false c2,td_])
   ·rw[if_neg (by rw[decide_eq_false c];exact ph_)]
    refine⟨false,rfl,?_⟩
    rw[if_neg ph_]
    exact no (by unfold letG;rw[decide_eq_false c,r8_])
  ·rintro acc σ H2 ⟨v,rfl,rfl,s2,e2'⟩
   rw[pc_,qc_] at e2'
   walk_at "go"
   refine vo_ (jw_ e2') fun t2 H3 ht k3=>?_
   walk_at "go"
   refine q t2 H3 ?_ ((s1.trans s2).trans k3)
   unfold x3_
   rw[q1]
   exact ht
 ·rw[q2]
  walk_at "go"
  refine jlm_ ?_
  walk_at "go"
  refine ys_ ?_
  walk_at "go"
  refine yy_ e1 O.cl O.n_told_gaps rfl ?_
  walk_at "go"
  refine⟨kd,_,rfl,q2▸DGet.k (k:=Sum.inr (S w')) e2,?_⟩
  walk_at "go"
  refine q t H ?_ (fun _ _ e=>e)
  unfold x3_
  rw[q1]
  exact q3
end
abbrev s_law_some_gaps:Stmt:=top 46
theorem sc_law_some_gaps:FnScope ["_law_feed_here","_law_word_here","_law_few"] ["_law_feed_here","_law_word_here"] (jl_ s_law_some_gaps):=by walk_at "f"
abbrev s_law_gaps:Stmt:=top 49
theorem sc_law_gaps:FnScope ["_law_parts_here","_law_word_here","_law_patterns","_law_told","_law_head","_law_tail","_law_one","_law_found","_law_k","_law_value"] ["_law_parts_here","_law_word_here"] (jl_ s_law_gaps):=by walk_at "f"
theorem jfr_:∀{b m:Nat} {g:List Nat},Rise b m g->b < m->Rise b (m+1) (g++[m])
 | b,m,[],_,h=>⟨h,ri_ _,trivial⟩
 | b,m,x::g,r,h=>⟨r.1,w6_ r.2.1,jfr_ r.2.2 r.2.1⟩
theorem jal_:∀{b m k:Nat} {g:List Nat},Rise b m g->m<=k->Rise b k g
 | b,m,k,[],_,_=>trivial
 | b,m,k,x::g,r,h=>⟨r.1,p4_ r.2.1 h,jal_ r.2.2 h⟩
theorem cut_to {α:Type} (l:List α) (j:Nat) (h:j<=l.length):cutA l none (some (j:Int))=l.take j:=by
 have:=jpn_ l 0 j h (qe_ _)
 rw[rd_,ws_] at this
 rw[<- this]
 simp[cutA,sx]
def spSG:Sp:=fun vs H Q _=>∃(p:Addr) (n:Nat) (w:List Nat),vs=[.ref p,.str (S w)]/\FeedAt H p n/\n+40 < zz_/\1<=w.length/\w.length<=20 /\
 ∀(t:Addr) (g:List Nat) (H':Hp),H' t=some (.tup (g.map fun k:Nat=>V.int (k:Int)))->Rise 0 w.length g->FeedAt H' p (n+40)->Kept p H H'->t≠p->Q (.ref t) H'
def PartsX (H:Hp) (pa pl tdl:Addr) (pats told:List Pat) (hd tl:Int):Prop:=∃(yp yt:List V),H pa=some (.tup [.ref pl,.ref tdl,.int hd,.int tl])/\H pl=some (.lst yp)/\L2.IsL H yp (pats.map patD)/\H tdl=some (.lst yt)/\L2.IsL H yt (told.map patD)
def PartsAt (H:Hp) (pa:Addr) (pats told:List Pat) (hd tl:Int):Prop:=∃(pl tdl:Addr) (yp yt:List V),H pa=some (.tup [.ref pl,.ref tdl,.int hd,.int tl])/\H pl=some (.lst yp)/\L2.IsL H yp (pats.map patD)/\H tdl=some (.lst yt)/\L2.IsL H yt (told.map patD)
theorem PartsAt.same {H H':Hp} {pa:Addr} {pats told:List Pat} {hd tl:Int} (s:Same H H') (h:PartsAt H pa pats told hd tl):PartsAt H' pa pats told hd tl:=by
 obtain⟨pl,tdl,yp,yt,h1,h2,h3,h4,h5⟩:=h
 exact⟨pl,tdl,yp,yt,s _ _ h1,s _ _ h2,IsL.same s h3,s _ _ h4,IsL.same s h5⟩
def spLG:Sp:=fun vs H Q _=>∃(pa:Addr) (pats told:List Pat) (hd tl:Int) (w:List Nat),vs=[.ref pa,.str (S w)]/\PartsAt H pa pats told hd tl/\(∀ x∈pats,1<=x.1.length/\x.1.length<=1000/\x.2.length<=x.1.length+1)/\pats.length<=1000/\told.length<=1000/\1<=w.length/\w.length<=100 /\
 ∀(t:Addr) (H':Hp),H' t=some (.tup ((x3_ pats told hd tl w).map V.int))->Same H H'->Q (.ref t) H'
section
variable {P:Program} {w:World} {K:pb_} {mg:Str->Option Value} {base:Heap} {f:Addr} {fd:FuncData} {tk:Nat->Tok} {cO:Addr}
theorem jat_ (T:Txt mg tk) (F:Fun K "_law_some_gaps" "_law_some_gaps" s_law_some_gaps f fd) (D_law_next:Dn P w K mg base "_law_next" 1 ["_law_feed_here","_law_many"] yo_):FnOk P w K mg base CX0 2 f fd ["_law_feed_here","_law_word_here"] spSG:=by
 refine F.ok sc_law_some_gaps (fun vs H Q E h=>?_) (fun cdv A outer s H vs Q E hr h=>?_)
 ·obtain⟨p,n,w',rfl,_⟩:=h
  rfl
 obtain⟨p,n,w',rfl,hf,hn,hw1,hw2,q⟩:=h
 have nd:=sc_law_some_gaps.nd
 have hsz:(S w').length<=sizeLine:=szn (by rw[js_];omega)
 refine⟨_,(je_ (jk_ (i:=2) nd rfl (Or.inr rfl) (jn_ jx_ jd_ (jj_ D_law_next hr.mo_ rfl (ja_ (pv 0) (ja_ jd_ jc_)))))
  (jh_ (jr_ (yb_ uq_ rfl T.z_tuple (by decide +kernel) (ja_ (zu_ ["_law_feed_here","_law_few","_law_gap"] [some 0,some 2,none] rfl (by kernel_rfl) rfl (jad_ rfl T.z_range (ja_ jd_ (ja_ (jp_ (zo_ (K:=K)) rfl T.z_len (by decide +kernel) (ja_ (pv 1) jc_)) jc_))) (fun _ _ _ _=>(jm_ (i:=2) (show (["_law_feed_here","_law_few","_law_gap"]:List Str).Nodup by decide +kernel) rfl (Or.inl rfl) (Or.inr rfl))) (fun _ _ _ _=>(y2_ (jq_ (o_eq hr.units) (jj_ D_law_next hr.mo_ rfl (ja_ (pv 0) (ja_ (pv 1) jc_))) jd_ (jv_ _)))) (fun _ _ _ _=>(pv 2))) jc_))))),?_⟩
 rw[show L2.start ["_law_feed_here","_law_word_here","_law_few"] [.ref p,.str (S w')]=[some (.ref p),some (.str (S w')),none] from rfl]
 walk_at "go"
 refine⟨p,3,n,rfl,hf,by omega,by decide,by decide,fun few H1 hf0 hf1 hfe1 o1=>?_⟩
 walk_at "go"
 intro r hr0
 have pr:p≠r:=by obtain⟨o,e⟩:=hfe1.some;exact jg_ e hr0
 refine x8_ (fun i acc σ H'=>∃(v:Option V) (g:List Nat),σ=[some (.ref p),some (.int (2+few)),v]/\acc=g.map (fun k:Nat=>V.int (k:Int))/\g.length<=i/\Rise 0 (i+1) g/\FeedAt H' p (n+1+i)/\Kept p H H'/\H' r=some (.lst acc))
  ⟨none,[],rfl,rfl,pg_ _,trivial,hfe1.new hr0,(o1.kept).new hr0 _,jb_⟩ (fun i acc σ H' ⟨_,g,_,e,hl,_,_,_,e2⟩=>⟨e2,by rw[e,pc_];exact hl⟩) (szn (by omega)) ?_ ?_
 ·rintro i acc σ H2 hi ⟨v,g,rfl,rfl,hgl,hgr,hf2,k2,e2⟩
  walk_at "go"
  refine⟨p,2+few,n+1+i,rfl,hf2,by omega,by omega,by omega,fun d H3 hd0 hd1 hf3 o3=>?_⟩
  have e3:H3 r=_:=(o3 r pr.symm).trans e2
  have k3:Kept p H H3:=k2.trans o3.kept
  have keep:∀ b o,b≠p->H b=some o->b≠r:=fun b o hb e z=>by
   have:=o1.kept b o hb e
   rw[z,hr0] at this;cases this
  walk_at "go"
  by_cases c:d=0
  ·rw[if_pos (by rw[c];exact decide_eq_true rfl)]
   walk_at "go"
   refine⟨e3,_,g++[i+1],rfl,?_,by simp;omega,jfr_ hgr (by omega),?_,fun b o hb e=>?_,jb_⟩
   ·rw[pi_]
    simp only[pj_,p8_]
    congr 3
    omega
   ·obtain⟨a1,b1,c1,g1,g2⟩:=hf3
    exact⟨a1,b1,c1,by rw[jf_ pr];exact g1,by omega⟩
   ·rw[jf_ (keep b o hb e)];exact k3 b o hb e
  ·rw[if_neg (by rw[decide_eq_false (fun z=>c (by injection z))];exact ph_)]
   exact⟨_,g,rfl,rfl,by omega,jal_ hgr (by omega),hf3.mono (by omega),k3,e3⟩
 ·rintro acc σ H2 ⟨v,g,rfl,rfl,hgl,hgr,hf2,k2,e2⟩
  walk_at "go"
  refine vo_ (jw_ e2) fun t H3 ht k3=>?_
  walk_at "go"
  refine q t g H3 ht ?_ ?_ ?_ ?_
  ·exact jal_ hgr (by omega)
  ·obtain⟨a1,b1,c1,g1,g2⟩:=hf2
   exact⟨a1,b1,c1,k3 _ _ g1,by omega⟩
  ·exact fun b o hb e=>k3 _ _ (k2 b o hb e)
  ·intro z
   obtain⟨a1,b1,c1,g1,g2⟩:=hf2
   have:=k3 _ _ g1
   rw[<- z,ht] at this
   cases this
theorem jbl_ (vs:List Int) (p:Int->Bool):(brks vs).filter p=((q7_ vs.length).filter fun j=>xi_ vs j&&p ((j:Int)+1)).map fun j:Nat=>(j:Int)+1:=by
 unfold brks
 rw[List.filter_map,List.filter_filter]
 congr 2
 funext j
 rw[Bool.and_comm];rfl
def bfTo (vs:List Int) (hd tl:Int) (n i:Nat):List Int:=((q7_ i).filter fun j=>xi_ vs j&&letG hd tl n ((j:Int)+1)).map fun j:Nat=>(j:Int)+1
theorem jtu_ (vs:List Int) (hd tl:Int) (n i:Nat):(bfTo vs hd tl n i).length<=i:=by
 unfold bfTo;rw[pc_];exact qg_ (q2_ _ _) (by simp)
theorem uo_ {te:TE} {σ:St} {H:Hp} {R:It->Hp->Prop} (h:te σ H (jbc_ 0 R)):jto_ te σ H R:=h
theorem jcj_ {told:List Pat} {z:List Nat} {i:Nat} (h:y9_ (told.take i) z=none) (hi:i < told.length):y9_ (told.take (i+1)) z=if told[i].1=z then some told[i] else none:=by
 unfold y9_ at *
 rw[qb_,pa_ hi,List.find?_append,h]
 show none.or (List.find? _ [told[i]])=_
 rw[Option.none_or,qq_]
 by_cases c:told[i].1=z
 ·rw[decide_eq_true c,if_pos c]
 ·rw[decide_eq_false c,if_neg c];rfl
theorem jqs_ {told:List Pat} {z:List Nat} {i:Nat} (h:y9_ (told.take i) z=none) (hi:i < told.length) (c:told[i].1=z):y9_ told z=some told[i]:=by
 have h1:=jcj_ h hi
 rw[if_pos c] at h1
 unfold y9_ at *
 have e:told.find? (fun g=>decide (g.1=z))=(told.take (i+1)++told.drop (i+1)).find? fun g=>decide (g.1=z):=by rw[s1_]
 rw[e,List.find?_append,h1];simp
theorem jki_ (T:Txt mg tk) (F:Fun K "_law_gaps" "_law_gaps" s_law_gaps f fd) (D_law_values:Dn P w K mg base "_law_values" 1 ["_law_patterns","_law_word_here"] xn_):FnOk P w K mg base CX0 2 f fd ["_law_parts_here","_law_word_here"] spLG:=by
 refine F.ok sc_law_gaps (fun vs H Q E h=>?_) (fun cdv A outer s H vs Q E hr h=>?_)
 ·obtain⟨pa,pats,told,hd,tl,w',rfl,_⟩:=h
  rfl
 obtain⟨pa,pats,told,hd,tl,w',rfl,hP,hps,hpl,htl,hw1,hw2,q⟩:=h
 obtain⟨pl,tdl,yp,yt,h1,h2,h3,h4,h5⟩:=id hP
 have nd:=sc_law_gaps.nd
 have hyl:yt.length=told.length:=by have:=h5.length;simpa using this
 have hsz:(S w').length<=sizeLine:=szn (by rw[js_];omega)
 refine⟨_,(je_ (jdc_ (pv 0) (yu_ rfl (jy_ (jm_ (i:=2) nd rfl (Or.inl rfl)) (jy_ (jm_ (i:=3) nd rfl (Or.inl rfl)) (jy_ (jm_ (i:=4) nd rfl (Or.inl rfl)) (jy_ (jm_ (i:=5) nd rfl (Or.inl rfl)) z7_))))))
  (je_ (zm_ p6_ rfl (zt_ (K:=K) (pv 3)) (jm_ (i:=6) nd rfl (Or.inl rfl))
   (jh_ (ze_ (jq_ (o_eq hr.units) (jt_ (jo_ (K:=K)) (pv 6) jd_ (fun _ _=>rfl)) (pv 1) (jv_ _))
   (jh_ (jr_ (jt_ (jo_ (K:=K)) (pv 6) jd_ (fun _ _=>rfl))))
   j2_)))
  (je_ (jk_ (i:=7) nd rfl (Or.inl rfl) (j5_ jc_))
  (je_ (zm_ p6_ rfl (vk_ rfl T.z_enumerate (jj_ D_law_values hr.mo_ rfl (ja_ (pv 2) (ja_ (pv 1) jc_)))) (yu_ rfl (jy_ (jm_ (i:=8) nd rfl (Or.inl rfl)) (jy_ (jm_ (i:=9) nd rfl (Or.inl rfl)) z7_)))
   (jh_ (ze_ (PW.pt (jaq_ (jq_ (o_eq hr.units) (jn_ vq_ (pv 9) jd_) jd_ (jv_ _)) (jaq_ (jq_ o_ge (jn_ jx_ (pv 8) jd_) (pv 4) (jv_ _)) (jbx_ (jq_ o_ge (jn_ vl_ (jn_ vl_ (jp_ (zo_ (K:=K)) rfl T.z_len (by decide +kernel) (ja_ (pv 1) jc_)) (pv 8)) jd_) (pv 5) (jv_ _))))))
   (jh_ (zq_ (zn_ (K:=K) p7_ p9_ qa_ zh_ (pv 7) (ja_ (jn_ jx_ (pv 8) jd_) jc_))))
   j2_)))
  (jh_ (jr_ (yb_ uq_ rfl T.z_tuple (by decide +kernel) (ja_ (pv 7) jc_)))))))),?_⟩
 rw[show L2.start ["_law_parts_here","_law_word_here","_law_patterns","_law_told","_law_head","_law_tail","_law_one","_law_found","_law_k","_law_value"] [.ref pa,.str (S w')]=[some (.ref pa),some (.str (S w')),none,none,none,none,none,none,none,none] from rfl]
 walk_at "go"
 refine y0_ h1 rfl (j4_ (j7_ (j4_ (j7_ (j4_ (j7_ (j4_ (j7_ (yz_ ?_)))))))))
 walk_at "go"
 try refine jlc_ (SqL.of h4) ?_
 refine yr_ (K:=K) (xs:=yt) (fun i σ H'=>∃ v6,H'=H/\σ=[some (.ref pa),some (.str (S w')),some (.ref pl),some (.ref tdl),some (.int hd),some (.int tl),v6,none,none,none]/\y9_ (told.take i) w'=none)
  ⟨none,rfl,rfl,rfl⟩ (fun i σ H' _ ⟨_,e,_⟩=>by rw[e];exact SqL.of h4) ?_ ?_
 ·rintro i y σ H2 hy ⟨v6,rfl,rfl,hlk⟩
  have hi:i < told.length:=by
   have:=(pl_.mp hy).1
   omega
  obtain⟨y',d,hy',hd1,hI⟩:=IsL.get h5 (show i < (told.map patD).length by simpa using hi)
  rw[hy] at hy'
  cases hy'
  rw[pm_,pa_ hi] at hd1
  cases hd1
  obtain⟨a2,t2,rfl,ea2,et2⟩:=jbk_ hI
  walk_at "go"
  by_cases c:told[i].1=w'
  ·rw[c,if_pos (decide_eq_true rfl)]
   walk_at "go"
   refine q t2 H2 ?_ (fun _ _ e=>e)
   unfold x3_
   rw[jqs_ hlk hi c]
   exact et2
  ·rw[if_neg (by rw[decide_eq_false (fun z=>c (jge_ (by injection z)))];exact ph_)]
   refine⟨_,rfl,rfl,?_⟩
   rw[jcj_ hlk hi,if_neg c]
 ·rintro σ H2 ⟨v6,rfl,rfl,hlk⟩
  rw[hyl,qc_] at hlk
  walk_at "go"
  intro r hr0
  have s1:=ji_ hr0 (.lst [])
  walk_at "go"
  refine uo_ ?_
  walk_at "go"
  refine⟨.ref pl,pats,w',rfl,?_,hps,hpl,hw1,hw2,fun va H3 hva eva s3=>?_⟩
  ·simp only[Is,jeq_]
   exact⟨pl,yp,rfl,s1 _ _ h2,IsL.same s1 h3⟩
  have e3r:=s3 r _ jb_
  have hrva:va≠r:=by rintro rfl;rw[jb_] at hva;cases hva
  have hvl:=ya_ pats w'
  refine jav_ eva ?_
  refine jah_ (b:=0) (xs:=(vals pats w').map V.int) (fun i σ H'=>∃(v8 v9:Option V),σ=[some (.ref pa),some (.str (S w')),some (.ref pl),some (.ref tdl),some (.int hd),some (.int tl),v6,some (.ref r),v8,v9]/\H' r=some (.lst ((bfTo (vals pats w') hd tl w'.length i).map V.int))/\(∀ b o,b≠r->H3 b=some o->H' b=some o))
   ⟨none,none,rfl,e3r,fun _ _ _ e=>e⟩ (fun i σ H' _ ⟨_,_,_,_,k⟩=>k _ _ hrva eva) ?_ ?_
  ·rintro i z σ H4 T2 hz ⟨v8,v9,rfl,e4,k4⟩ hT
   have hil:i < (vals pats w').length:=by
    have:=(pl_.mp hz).1
    simpa using this
   rw[pm_,pa_ hil] at hz
   cases hz
   have hod:xi_ (vals pats w') i=decide ((vals pats w')[i] % 2=1):=by unfold xi_;simp[pe_,hil]
   have s5:=ji_ hT (.tup [.int (((0:Nat):Int)+(i:Int)),.int (vals pats w')[i]])
   have e5:=s5 _ _ e4
   have hbl:=jtu_ (vals pats w') hd tl w'.length i
   refine y0_ jb_ rfl (j4_ (j7_ (j4_ (j7_ (yz_ ?_)))))
   have yes:xi_ (vals pats w') i=true->letG hd tl w'.length ((i:Int)+1)=true->bfTo (vals pats w') hd tl w'.length (i+1)=bfTo (vals pats w') hd tl w'.length i++[(i:Int)+1]:=fun a b=>by
    unfold bfTo;rw[sj_,qf_,pi_];simp[a,b]
   have no:(xi_ (vals pats w') i&&letG hd tl w'.length ((i:Int)+1))=false->bfTo (vals pats w') hd tl w'.length (i+1)=bfTo (vals pats w') hd tl w'.length i:=fun a=>by
    unfold bfTo;rw[sj_,qf_,pi_];simp[a]
   have hne:∀ b o,H3 b=some o->b≠r->(upd H4 T2 (.tup [.int (((0:Nat):Int)+(i:Int)),.int (vals pats w')[i]])) b=some o:=fun b o e hb=>s5 _ _ (k4 b o hb e)
   have noE:(xi_ (vals pats w') i&&letG hd tl w'.length ((i:Int)+1))=false->∃(u8 u9:Option V),[some (.ref pa),some (.str (S w')),some (.ref pl),some (.ref tdl),some (.int hd),some (.int tl),v6,some (.ref r),some (.int (((0:Nat):Int)+(i:Int))),some (.int (vals pats w')[i])]=[some (.ref pa),some (.str (S w')),some (.ref pl),some (.ref tdl),some (.int hd),some (.int tl),v6,some (.ref r),u8,u9]/\(upd H4 T2 (.tup [.int (((0:Nat):Int)+(i:Int)),.int (vals pats w')[i]])) r=some (.lst ((bfTo (vals pats w') hd tl w'.length (i+1)).map V.int))/\(∀ b o,b≠r->H3 b=some o->(upd H4 T2 (.tup [.int (((0:Nat):Int)+(i:Int)),.int (vals pats w')[i]])) b=some o):=fun a =>
    ⟨_,_,rfl,by rw[no a];exact e5,fun b o hb e=>hne b o e hb⟩
   walk_at "go"
   refine iteD (fun c=>?_) (fun c=>?_)
   ·have c1:(vals pats w')[i] % 2=1:=by injection c
    walk_at "go"
    refine iteD (fun c2=>?_) (fun c2=>?_)
    ·walk_at "go"
     refine iteD (fun c3=>?_) (fun c3=>?_)
     ·walk_at "go"
      refine jlx_ e5 (szn (by rw[pc_];omega)) ?_
      walk_at "go"
      refine⟨_,_,rfl,?_,fun b o hb e=>by rw[jf_ hb];exact hne b o e hb⟩
      rw[jb_,yes (by rw[hod];exact decide_eq_true c1) (by unfold letG;rw[decide_eq_true (by omega),decide_eq_true (by omega)];rfl),pi_]
      simp
     ·exact noE (by unfold letG;rw[decide_eq_false (p:=(i:Int)+1<=(w'.length:Int) - tl) (by omega),td_,td_])
    ·exact noE (by unfold letG;rw[decide_eq_false (p:=hd<=(i:Int)+1) (by omega),r8_,td_])
   ·exact noE (by rw[hod,decide_eq_false (fun z=>c (by rw[z])),r8_])
  ·rintro σ H4 ⟨v8,v9,rfl,e4,k4⟩
   rw[pc_] at e4
   walk_at "go"
   refine vo_ (jw_ e4) fun t H5 ht k5=>?_
   walk_at "go"
   refine q t H5 ?_ (fun b o e=>k5 _ _ (k4 b o (fun z=>by rw[z,hr0] at e;cases e) (s3 _ _ (s1 _ _ e))))
   unfold x3_
   rw[hlk,jbl_]
   exact ht
end
structure OkB (pats told:List Pat):Prop where
 ps:∀ x∈pats,1<=x.1.length/\x.1.length<=1000/\x.2.length<=x.1.length+1
 pl:pats.length<=100
 tl:told.length<=100
 nd:(told.map (·.1)).Nodup
 pc:∀ x∈pats,∀ c∈x.1,c < 128
 tc:∀ x∈told,∀ c∈x.1,c < 128
 tg:∀ x∈told,∃ g:List Nat,x.2=g.map (fun k:Nat=>(k:Int))/\Rise 0 x.1.length g
theorem jtf_ {n:Nat}:∀{b b':Nat} {g:List Nat},Rise b' n g->b<=b'->Rise b n g
 | _,_,[],_,_=>trivial
 | _,_,x::g,r,h=>⟨rp_ h r.1,r.2⟩
theorem jqo_ {pats told:List Pat} (o:OkB pats told) (hd tl:Int) {w:List Nat} (hw:1<=w.length):∃ g:List Nat,x3_ pats told hd tl w=g.map (fun k:Nat=>(k:Int))/\Rise 0 w.length g:=by
 unfold x3_
 cases h:y9_ told w with
 | some x =>
  have hm:=List.mem_of_find?_eq_some h
  have he:x.1=w:=by have:=List.find?_some h;simpa using this
  obtain⟨g,h1,h2⟩:=o.tg x hm
  exact⟨g,h1,he▸h2⟩
 | none =>
  refine⟨((q7_ (vals pats w).length).filter fun j=>xi_ (vals pats w) j&&letG hd tl w.length ((j:Int)+1)).map (·+1),?_,?_⟩
  ·rw[jbl_,qn_]
   apply rz_
   intro j _
   simp
  ·rw[ya_]
   have key:∀(p:Nat->Bool) (m b:Nat),b<=w.length->Rise b w.length (((rg_ b m).filter p).map (·+1))∨w.length<=b+m:=by
    intro p m
    induction m with
    | zero=>intro b _;exact .inl trivial
    | succ m ih =>
     intro b hb
     by_cases c:w.length<=b+(m+1)
     ·exact .inr c
     ·left
      rw[r6_,qp_]
      have h1:=(ih (b+1) (by omega)).resolve_right (by omega)
      split
      ·exact⟨ri_ _,by show b+1 < _;omega,h1⟩
      ·exact jtf_ h1 (sv_ _)
   rw[k8_]
   exact(key _ (w.length - 1) 0 (qe_ _)).resolve_right (by omega)
structure Ow2 (K:pb_) (mg:Str->Option Value) (cO:Addr):Prop where
 m_Tongues:mg "Tongues"=some (.ref cO)
 cl:Cls K cO
 n_breakers:NoAttr K cO "breakers"
abbrev s_Tongues_init:Stmt:=vw_ (top 26) 0
theorem sc_Tongues_init:FnScope ["self"] ["self"] (jl_ s_Tongues_init):=by walk_at "f"
abbrev s_Tongues_put:Stmt:=vw_ (top 26) 1
theorem sc_Tongues_put:FnScope ["self","name","breaker"] ["self","name","breaker"] (jl_ s_Tongues_put):=by walk_at "f"
abbrev s_Tongues_breaker_of:Stmt:=vw_ (top 26) 2
theorem sc_Tongues_breaker_of:FnScope ["self","name"] ["self","name"] (jl_ s_Tongues_breaker_of):=by walk_at "f"
abbrev s_with_patterns:Stmt:=top 22
theorem sc_with_patterns:FnScope ["breaker","patterns"] ["breaker","patterns"] (jl_ s_with_patterns):=by walk_at "f"
theorem jcb_ {td ty:TE} {σ:St} {H:Hp} {Q:VK} (h:td σ H fun x H1=>ty σ H1 fun y H2=>∃ a v,x=.ref a/\DGet H2 a y (some v)/\Q v H2):jsp_ td ty σ H Q:=h
theorem jra_ {ty td:TE} {σ:St} {H:Hp} {Q:VK} (h:ty σ H fun y H1=>td σ H1 fun x H2=>∃ a o,x=.ref a/\DGet H2 a y o/\Q (.bl (!o.isSome)) H2):job_ ty td σ H Q:=h
theorem xt_ {H H':Hp} (tks:∀ b zs,H b=some (.tup zs)->H' b=some (.tup zs)):∀{xs:List Pat} {ys:List V},L2.IsL H ys (xs.map patD)->L2.IsL H' ys (xs.map patD)
 | [],[],_=>by simp only[p8_,L2.IsL]
 | [],_::_,h=>by simp only[p8_,L2.IsL] at h
 | _::_,[],h=>by simp only[pj_,L2.IsL] at h
 | x::xs,y::ys,h=>by
  simp only[pj_,L2.IsL] at h ⊢
  refine⟨?_,xt_ tks h.2⟩
  obtain⟨a,t,rfl,h1,h2⟩:=jbk_ h.1
  exact yg_ (tks a _ h1) (tks t _ h2)
theorem jnc_ {H H2:Hp} (s:Same H H2):∀{kvs:List (Key×V)} {told:List Pat} {Ts:List Addr},NT H kvs told->Ts.length=kvs.length->(∀(j:Nat) T,Ts[j]?=some T->∃ kv,kvs[j]?=some kv/\H2 T=some (.tup [kV kv.1,kv.2]))->L2.IsL H2 (Ts.map V.ref) (told.map patD)
 | [],[],[],_,_,_=>by simp only[p8_,L2.IsL]
 | [],[],_::_,_,h,_=>by simp at h
 | [],_::_,_,h,_,_=>h.elim
 | _::_,[],_,h,_,_=>h.elim
 | kv::kvs,g::told,[],_,h,_=>by simp at h
 | kv::kvs,g::told,T::Ts,h,hl,hj=>by
  obtain⟨h1,⟨t,h2,h3⟩,h4⟩:=h
  obtain⟨kv',e1,e2⟩:=hj 0 T rfl
  have e1:kv=kv':=by simpa using e1
  subst e1
  rw[h1,h2] at e2
  simp only[pj_,L2.IsL]
  exact⟨yg_ e2 (s _ _ h3),jnc_ s h4 (by simpa using hl) fun j T' e=>by simpa using hj (j+1) T' (by simpa using e)⟩
def spWP (C:Addr):Sp:=fun vs H Q _=>∃(bp bkd bld a:Addr) (ya:List V) (pats0 pats told:List Pat) (hd tl:Int),vs=[.ref bp,.ref a]/\BrkAt C H bp bkd bld pats0 told hd tl/\H a=some (.lst ya)/\L2.IsL H ya (pats.map patD)/\pats.length<=1000/\told.length<=1000/\(told.map (·.1)).Nodup /\
 ∀(p kd ld:Addr) (H':Hp),H p=none->H kd=none->H ld=none->BrkAt C H' p kd ld pats told hd tl->Same H H'->Q (.ref p) H'
def TgAt (CT:Addr) (H:Hp) (tp td:Addr) (kvs:List (Key×V)):Prop:=∃ dx,H tp=some (.ins CT dx [(("breakers":Str),.ref td)])/\H td=some (.dK kvs)
theorem TgAt.same {CT:Addr} {H H':Hp} {tp td:Addr} {kvs:List (Key×V)} (s:Same H H') (h:TgAt CT H tp td kvs):TgAt CT H' tp td kvs:=by
 obtain⟨dx,h1,h2⟩:=h
 exact⟨dx,s _ _ h1,s _ _ h2⟩
def jsn_ (CT:Addr):Sp:=fun vs H Q _=>∃(p dx:Addr),vs=[.ref p]/\H p=some (.ins CT dx [])/\∀(td:Addr) (H':Hp),H td=none->TgAt CT H' p td []->(∀ b o,b≠p->H b=some o->H' b=some o)->Q .non H'
def jsx_ (C CT:Addr):Sp:=fun vs H Q _=>∃(tp td bp bkd bld:Addr) (kvs:List (Key×V)) (nm:List Nat) (pats told:List Pat) (hd tl:Int),vs=[.ref tp,.str (S nm),.ref bp]/\TgAt CT H tp td kvs/\BrkAt C H bp bkd bld pats told hd tl/\pats.length<=1000/\told.length<=1000/\(told.map (·.1)).Nodup/\kvs.length<=1000 /\
 ∀(p kd ld:Addr) (H':Hp),H p=none->H kd=none->H ld=none->BrkAt C H' p kd ld pats told hd tl->H' td=some (.dK (putK kvs (Sum.inr (S nm)) (.ref p)))->(∀ b o,b≠td->H b=some o->H' b=some o)->Q .non H'
section
variable {P:Program} {w:World} {K:pb_} {mg:Str->Option Value} {base:Heap} {f:Addr} {fd:FuncData} {tk:Nat->Tok} {cO cO2:Addr} {ad:Nat->Addr}
theorem jab_ (T:Txt mg tk) (O:Ow K mg cO) (F:Fun K "with_patterns" "with_patterns" s_with_patterns f fd) (D_Breaker_init:Dk P w K mg base cO 2 ["self","patterns","told","head","tail"] (jgz_ cO)):FnOk P w K mg base CX0 4 f fd ["breaker","patterns"] (spWP cO):=by
 refine F.ok sc_with_patterns (fun vs H Q E h=>?_) (fun cdv A outer s H vs Q E hr h=>?_)
 ·obtain⟨bp,bkd,bld,a,ya,pats0,pats,told,hd,tl,rfl,_⟩:=h
  rfl
 obtain⟨bp,bkd,bld,a,ya,pats0,pats,told,hd,tl,rfl,hB,ha,hya,hpl,htl,hnd,q⟩:=h
 obtain⟨dx0,ys0,kvs,e1,e2,hN,e3,hys0⟩:=id hB
 have nd:=sc_with_patterns.nd
 refine⟨_,(jh_ (jr_ (jka_ D_Breaker_init hr.mo_ rfl O.m_Breaker (ja_ (pv 1) (ja_ (yb_ (jxm_ rfl) rfl T.z_list (by decide +kernel) (ja_ (joo_ (K:=K) kb_ kc_ PySem.F.type_dict_items jwu_ (yv_ (pv 0) rfl)) jc_)) (ja_ (yv_ (pv 0) rfl) (ja_ (yv_ (pv 0) rfl) jc_))))))),?_⟩
 rw[show L2.start ["breaker","patterns"] [.ref bp,.ref a]=[some (.ref bp),some (.ref a)] from rfl]
 walk_at "go"
 refine jle_ ?_
 walk_at "go"
 refine ys_ ?_
 walk_at "go"
 refine yy_ e1 O.cl O.n_told_gaps rfl ?_
 refine⟨Or.inr (Or.inr (Or.inl ⟨rfl,Or.inl ⟨_,e2⟩⟩)),jwn_ e2 fun v hv=>?_⟩
 have s1:=ji_ hv (VW v bkd)
 have ev:=jb_ (H:=H) (a:=v) (o:=VW v bkd)
 generalize upd H v (VW v bkd)=H1 at s1 ev ⊢
 walk_at "go"
 refine jwt_ ev (s1 _ _ e2) fun l Ts H2 hl el hTl hTs s2=>?_
 have s02:=s1.trans s2
 have hyb:L2.IsL H2 (Ts.map V.ref) (told.map patD):=jnc_ s2 (hN.same s1) hTl hTs
 walk_at "go"
 refine ys_ ?_
 walk_at "go"
 refine yy_ (s02 _ _ e1) O.cl O.n_head rfl ?_
 walk_at "go"
 refine ys_ ?_
 walk_at "go"
 refine yy_ (s02 _ _ e1) O.cl O.n_tail rfl ?_
 walk_at "go"
 intro x dx hx hdx hne
 have s3:Same H2 (upd (upd H2 dx (.own x)) x (.ins cO dx [])):=fun b o e=>by
  rw[jf_ (jg_ e hx),jf_ (jg_ e hdx)];exact e
 have e4:=jb_ (H:=upd H2 dx (.own x)) (a:=x) (o:=.ins cO dx [])
 generalize upd (upd H2 dx (.own x)) x (.ins cO dx [])=H3 at s3 e4 ⊢
 have s03:=s02.trans s3
 refine⟨x,a,l,dx,ya,Ts.map V.ref,pats,told,hd,tl,rfl,e4,s03 _ _ ha,s3 _ _ el,IsL.same s03 hya,IsL.same s3 hyb,hnd,htl,hpl,fun kd ld H5 hkd hld hB5 off=>⟨rfl,?_⟩⟩
 walk_at "go"
 exact q x kd ld H5 (s02.free hx) (s03.free hkd) (s03.free hld) hB5 fun b o e=>off b o (jg_ (s02 _ _ e) hx) (s03 _ _ e)
theorem jbv_ (T:Txt mg tk) (O2:Ow2 K mg cO2) (F:Fun K "__init__" "Tongues.__init__" s_Tongues_init f fd):FnOk P w K mg base CX0 1 f fd ["self"] (jsn_ cO2):=by
 refine F.ok sc_Tongues_init (fun vs H Q E h=>?_) (fun cdv A outer s H vs Q E hr h=>?_)
 ·obtain⟨p,dx,rfl,_⟩:=h
  rfl
 obtain⟨p,dx,rfl,hp,q⟩:=h
 have nd:=sc_Tongues_init.nd
 refine⟨_,(jh_ (jde_ (pv 0) jcy_ rfl)),?_⟩
 rw[show L2.start ["self"] [.ref p]=[some (.ref p)] from rfl]
 refine jea_ ?_
 refine jho_ fun td htd=>?_
 have s1:=ji_ htd (.dK [])
 have etd:=jb_ (H:=H) (a:=td) (o:=.dK [])
 generalize upd H td (.dK [])=H1 at s1 etd ⊢
 walk_at "go"
 refine jdm_ (s1 _ _ hp) O2.cl O2.n_breakers (by decide) ?_
 walk_at "go"
 have hne:td≠p:=fun z=>by rw[z,hp] at htd;cases htd
 exact q td _ htd ⟨dx,jb_,by rw[jf_ hne];exact etd⟩ (ui_ fun b o _ e=>s1 b o e)
theorem jcm_ (T:Txt mg tk) (O:Ow K mg cO) (O2:Ow2 K mg cO2) (F:Fun K "put" "Tongues.put" s_Tongues_put f fd) (D_with_patterns:Dn P w K mg base "with_patterns" 4 ["breaker","patterns"] (spWP cO)):FnOk P w K mg base CX0 5 f fd ["self","name","breaker"] (jsx_ cO cO2):=by
 refine F.ok sc_Tongues_put (fun vs H Q E h=>?_) (fun cdv A outer s H vs Q E hr h=>?_)
 ·obtain⟨tp,td,bp,bkd,bld,kvs,nm,pats,told,hd,tl,rfl,_⟩:=h
  rfl
 obtain⟨tp,td,bp,bkd,bld,kvs,nm,pats,told,hd,tl,rfl,hT,hB,hpl,htl,hnd,hkl,q⟩:=h
 obtain⟨dxt,t1,t2⟩:=id hT
 obtain⟨dx0,ys0,kvs0,e1,e2,hN,e3,hys0⟩:=id hB
 have nd:=sc_Tongues_put.nd
 refine⟨_,(jh_ (jcd_ (xa_ hr) (yv_ (pv 0) rfl) (pv 1) (jj_ D_with_patterns hr.mo_ rfl (ja_ (pv 2) (ja_ (yv_ (pv 2) rfl) jc_))) rfl)),?_⟩
 rw[show L2.start ["self","name","breaker"] [.ref tp,.str (S nm),.ref bp]=[some (.ref tp),some (.str (S nm)),some (.ref bp)] from rfl]
 refine jgl_ ?_
 walk_at "go"
 refine ys_ ?_
 walk_at "go"
 refine yy_ e1 O.cl O.n_patterns rfl ?_
 walk_at "go"
 refine⟨bp,bkd,bld,bld,ys0,pats,pats,told,hd,tl,rfl,hB,e3,hys0,hpl,htl,hnd,fun p kd ld H1 hp hkd hld hB1 s1=>?_⟩
 walk_at "go"
 refine ys_ ?_
 walk_at "go"
 refine yy_ (s1 _ _ t1) O2.cl O2.n_breakers rfl ?_
 walk_at "go"
 refine⟨td,_,rfl,DPut.k (k:=Sum.inr (S nm)) (s1 _ _ t2) (rp_ hkl (by decide)),?_⟩
 walk_at "go"
 have kne:kd≠td:=fun z=>by rw[z,t2] at hkd;cases hkd
 have pne:p≠td:=fun z=>by rw[z,t2] at hp;cases hp
 have lne:ld≠td:=fun z=>by rw[z,t2] at hld;cases hld
 have up:∀ b o,H1 b=some o->b≠td->(upd H1 td (.dK (putK kvs (Sum.inr (S nm)) (.ref p)))) b=some o:=fun b o e hb=>by rw[jf_ hb];exact e
 have tks:∀ b zs,H1 b=some (.tup zs)->(upd H1 td (.dK (putK kvs (Sum.inr (S nm)) (.ref p)))) b=some (.tup zs):=fun b zs e=>up b _ e fun z=>by
  have:=s1 _ _ t2
  rw[z,this] at e;cases e
 obtain⟨dx1,ys1,kvs1,b1,b2,b3,b4,b5⟩:=hB1
 exact q p kd ld _ hp hkd hld ⟨dx1,ys1,kvs1,up _ _ b1 pne,up _ _ b2 kne,NT.tups tks b3,up _ _ b4 lne,xt_ tks b5⟩ jb_ fun b o hb e=>up b o (s1 _ _ e) hb
end
structure Bp where
 pats:List Pat
 told:List Pat
 hd:Int
 tl:Int
def TR (C:Addr) (H:Hp):List (Key×V)->List (Key×V)->List (List Nat×Bp)->Prop
 | [],[],[]=>True
 | kv::kvs,kw::kws,m::ms=>kv.1=Sum.inr (S m.1)/\kw.1=Sum.inr (S m.1)/\(∃ p kd ld,kv.2=.ref p/\BrkAt C H p kd ld m.2.pats m.2.told m.2.hd m.2.tl)/\(∃ pa,kw.2=.ref pa/\PartsAt H pa m.2.pats m.2.told m.2.hd m.2.tl)/\OkB m.2.pats m.2.told/\TR C H kvs kws ms
 | _,_,_=>False
theorem TR.ind {C:Addr} {H:Hp} {M:List (Key×V)->List (Key×V)->List (List Nat×Bp)->Prop} (h0:M [] [] [])
  (h1:∀ kv kvs kw kws m ms,kv.1=Sum.inr (S m.1)->kw.1=Sum.inr (S m.1)->(∃ p kd ld,kv.2=.ref p/\BrkAt C H p kd ld m.2.pats m.2.told m.2.hd m.2.tl)->(∃ pa,kw.2=.ref pa/\PartsAt H pa m.2.pats m.2.told m.2.hd m.2.tl)->OkB m.2.pats m.2.told->TR C H kvs kws ms->M kvs kws ms->M (kv::kvs) (kw::kws) (m::ms)) :
  ∀{kvs kws:List (Key×V)} {ms:List (List Nat×Bp)},TR C H kvs kws ms->M kvs kws ms
 | [],[],[],_=>h0
 | [],[],_::_,h=>h.elim
 | [],_::_,_,h=>h.elim
 | _::_,[],_,h=>h.elim
 | _::_,_::_,[],h=>h.elim
 | kv::kvs,kw::kws,m::ms,h=>h1 kv kvs kw kws m ms h.1 h.2.1 h.2.2.1 h.2.2.2.1 h.2.2.2.2.1 h.2.2.2.2.2 (TR.ind h0 h1 h.2.2.2.2.2)
theorem TR.same {C:Addr} {H H':Hp} (s:Same H H') {kvs kws:List (Key×V)} {ms:List (List Nat×Bp)} (h:TR C H kvs kws ms):TR C H' kvs kws ms :=
 TR.ind (M:=fun kvs kws ms=>TR C H' kvs kws ms) trivial (fun _ _ _ _ _ _ a b ⟨p,kd,ld,c1,c2⟩ ⟨pa,d1,d2⟩ e _ ih=>⟨a,b,⟨p,kd,ld,c1,c2.same s⟩,⟨pa,d1,d2.same s⟩,e,ih⟩) h
theorem TR.keys {C:Addr} {H:Hp} {kvs kws:List (Key×V)} {ms:List (List Nat×Bp)} (h:TR C H kvs kws ms):kvs.map (·.1)=(ms.map fun m=>S m.1).map Sum.inr/\kws.map (·.1)=(ms.map fun m=>S m.1).map Sum.inr :=
 TR.ind (M:=fun kvs kws ms=>kvs.map (·.1)=(ms.map fun m=>S m.1).map Sum.inr/\kws.map (·.1)=(ms.map fun m=>S m.1).map Sum.inr) ⟨rfl,rfl⟩ (fun _ _ _ _ _ _ a b _ _ _ _ ih=>by
  simp only[pj_]
  rw[ih.1,ih.2,a,b]
  exact⟨rfl,rfl⟩) h
theorem TR.lens {C:Addr} {H:Hp} {kvs kws:List (Key×V)} {ms:List (List Nat×Bp)} (h:TR C H kvs kws ms):kvs.length=ms.length/\kws.length=ms.length:=by
 have:=h.keys
 have a:=congrArg sm_ this.1
 have b:=congrArg sm_ this.2
 simp only[pc_] at a b
 exact⟨a,b⟩
def putM (ms:List (List Nat×Bp)) (z:List Nat) (b:Bp):List (List Nat×Bp):=if (ms.any fun m=>decide (m.1=z))=true then ms.map (fun m=>if m.1=z then (m.1,b) else m) else ms++[(z,b)]
theorem jrk_ (ms:List (List Nat×Bp)) (z:List Nat) (b:Bp):(putM ms z b).length<=ms.length+1:=by
 unfold putM
 split
 ·rw[pc_];omega
 ·rw[pd_];simp
theorem TR.any {C:Addr} {H:Hp} (z:List Nat) {kvs kws:List (Key×V)} {ms:List (List Nat×Bp)} (h:TR C H kvs kws ms) :
  (kvs.any fun kv=>decide (kv.1=(Sum.inr (S z):Key)))=(ms.any fun m=>decide (m.1=z))/\(kws.any fun kv=>decide (kv.1=(Sum.inr (S z):Key)))=(ms.any fun m=>decide (m.1=z)):=by
 refine TR.ind (M:=fun kvs kws ms=>(kvs.any fun kv=>decide (kv.1=(Sum.inr (S z):Key)))=(ms.any fun m=>decide (m.1=z))/\(kws.any fun kv=>decide (kv.1=(Sum.inr (S z):Key)))=(ms.any fun m=>decide (m.1=z))) ⟨rfl,rfl⟩ ?_ h
 intro kv kvs kw kws m ms a b _ _ _ _ ih
 rw[qv_,qv_,qv_,ih.1,ih.2,a,b]
 have e:decide ((Sum.inr (S m.1):Key)=Sum.inr (S z))=decide (m.1=z):=by
  by_cases e:m.1=z
  ·rw[decide_eq_true e,decide_eq_true (by rw[e])]
  ·rw[decide_eq_false e,decide_eq_false fun q=>e (x6_ q)]
 rw[e]
 exact⟨rfl,rfl⟩
theorem TR.append {C:Addr} {H:Hp} {kvs kws kvs' kws':List (Key×V)} {ms ms':List (List Nat×Bp)} (h:TR C H kvs kws ms) (h':TR C H kvs' kws' ms'):TR C H (kvs++kvs') (kws++kws') (ms++ms') :=
 TR.ind (M:=fun kvs kws ms=>TR C H (kvs++kvs') (kws++kws') (ms++ms')) h' (fun _ _ _ _ _ _ a b c d e _ ih=>⟨a,b,c,d,e,ih⟩) h
def offH (H:Hp) (D:List Addr):Hp:=fun b=>if b∈D then none else H b
theorem yf_ {H:Hp} {D:List Addr} {b:Addr} (h:b∉D):offH H D b=H b:=by unfold offH;rw[if_neg h]
theorem jas_ {H:Hp} {D:List Addr} {b:Addr} {o:HO} (h:offH H D b=some o):b∉D/\H b=some o:=by
 unfold offH at h
 split at h
 ·cases h
 ·rename_i hb;exact⟨hb,h⟩
theorem u8_ (H:Hp) (D:List Addr):Same (offH H D) H:=fun b o e=>(jas_ e).2
theorem y5_ {H H':Hp} {D D':List Addr} (h:∀ b o,b∉D->H b=some o->b∉D'/\H' b=some o):Same (offH H D) (offH H' D'):=fun b o e=>by
 obtain⟨h1,h2⟩:=jas_ e
 obtain⟨h3,h4⟩:=h b o h1 h2
 rw[yf_ h3];exact h4
theorem BrkAt.offD {C:Addr} {H:Hp} {D:List Addr} {p kd ld:Addr} {pats told:List Pat} {hd tl:Int} (hD:∀ b∈D,∀ zs,H b≠some (.tup zs)) (h1:p∉D) (h2:kd∉D) (h3:ld∉D) (h:BrkAt C H p kd ld pats told hd tl):BrkAt C (offH H D) p kd ld pats told hd tl:=by
 obtain⟨dx,ys,kvs,b1,b2,b3,b4,b5⟩:=h
 have tks:∀ b zs,H b=some (.tup zs)->offH H D b=some (.tup zs):=fun b zs e=>by rw[yf_ fun hb=>hD b hb zs e];exact e
 exact⟨dx,ys,kvs,by rw[yf_ h1];exact b1,by rw[yf_ h2];exact b2,NT.tups tks b3,by rw[yf_ h3];exact b4,xt_ tks b5⟩
theorem PartsX.offD {H:Hp} {D:List Addr} {pa pl tdl:Addr} {pats told:List Pat} {hd tl:Int} (hD:∀ b∈D,∀ zs,H b≠some (.tup zs)) (h2:pl∉D) (h3:tdl∉D) (h:PartsX H pa pl tdl pats told hd tl):PartsAt (offH H D) pa pats told hd tl:=by
 obtain⟨yp,yt,a1,a2,a3,a4,a5⟩:=h
 have tks:∀ b zs,H b=some (.tup zs)->offH H D b=some (.tup zs):=fun b zs e=>by rw[yf_ fun hb=>hD b hb zs e];exact e
 exact⟨pl,tdl,yp,yt,tks _ _ a1,by rw[yf_ h2];exact a2,xt_ tks a3,by rw[yf_ h3];exact a4,xt_ tks a5⟩
abbrev s_is_letter:Stmt:=top 17
theorem sc_is_letter:FnScope ["sign"] ["sign"] (jl_ s_is_letter):=by walk_at "f"
abbrev s_is_word:Stmt:=top 18
theorem sc_is_word:FnScope ["text"] ["text"] (jl_ s_is_word):=by walk_at "f"
def ue_:Sp:=fun vs H Q _=>∃ c:Nat,vs=[.str (S [c])]/\Q (.bl (vb_ c)) H
def u1_:Sp:=fun vs H Q _=>∃ l:List Nat,vs=[.str (S l)]/\l.length<=1000/\∀ H',Same H H'->Q (.bl (xl_ l)) H'
section
variable {P:Program} {w:World} {K:pb_} {mg:Str->Option Value} {base:Heap} {f:Addr} {fd:FuncData} {tk:Nat->Tok}
theorem jgs_ (T:Txt mg tk) (F:Fun K "is_letter" "is_letter" s_is_letter f fd):FnOk P w K mg base CX0 1 f fd ["sign"] ue_:=by
 refine F.ok sc_is_letter (fun vs H Q E h=>?_) (fun cdv A outer s H vs Q E hr h=>?_)
 ·obtain⟨c,rfl,_⟩:=h
  rfl
 obtain⟨c,rfl,q⟩:=h
 have nd:=sc_is_letter.nd
 refine⟨_,(jh_ (jr_ (uk_ o_in (pv 0) (yp_ (v:=.str "abcdefghijklmnopqrstuvwxyz") rfl T.m_LETTERS ⟨_,rfl⟩) (by with_unfolding_all rfl)))),?_⟩
 rw[show L2.start ["sign"] [.str (S [c])]=[some (.str (S [c]))] from rfl]
 rw[jub_]
 walk_at "go"
 rw[zah_,Bool.false_xor]
 exact q
theorem jmp_ (T:Txt mg tk) (F:Fun K "is_word" "is_word" s_is_word f fd) (D_is_letter:Dn P w K mg base "is_letter" 1 ["sign"] ue_):FnOk P w K mg base CX0 2 f fd ["text"] u1_:=by
 refine F.ok sc_is_word (fun vs H Q E h=>?_) (fun cdv A outer s H vs Q E hr h=>?_)
 ·obtain⟨l,rfl,_⟩:=h
  rfl
 obtain⟨l,rfl,hl,q⟩:=h
 have nd:=sc_is_word.nd
 refine⟨_,(jh_ (jr_ (jtb_ (uk_ o_gt (jp_ (zo_ (K:=K)) rfl T.z_len (by decide +kernel) (ja_ (pv 0) jc_)) jd_ (jv_ _)) (jvi_ (jp_ (c_all rfl) rfl T.z_all (by decide +kernel) (ja_ (zu_ ["sign"] [none] rfl (by kernel_rfl) rfl (zt_ (K:=K) (pv 0)) (fun _ _ _ _=>(jm_ (i:=0) (show (["sign"]:List Str).Nodup by decide +kernel) rfl (Or.inl rfl) (Or.inr rfl))) (fun _ _ _ _=>xg_) (fun _ _ _ _=>(jj_ D_is_letter hr.mo_ rfl (ja_ (pv 0) jc_)))) jc_)))))),?_⟩
 rw[show L2.start ["text"] [.str (S l)]=[some (.str (S l))] from rfl]
 have hll:(S l).length<=sizeLine:=szn (by rw[js_];omega)
 walk_at "go"
 try rw[js_]
 refine iteD (fun c=>?_) (fun c=>?_)
 ·walk_at "go"
  intro r hr0
  refine jrn_ (fun i acc σ H'=>∃ v,σ=[v]/\acc=((l.take i).map vb_).map V.bl/\Same H H'/\H' r=some (.lst acc))
   ⟨none,rfl,rfl,ji_ hr0 _,jb_⟩ (fun i acc σ H' ⟨_,_,e,_,e2⟩=>⟨e2,by rw[e];simp;omega⟩) (szn (by rw[ua_,js_];omega)) ?_ ?_
  ·rintro i acc σ H' hi ⟨v,rfl,rfl,s1,e1⟩
   rw[ua_,js_] at hi
   rw[jvy_ hi]
   walk_at "go"
   refine⟨l[i],rfl,e1,_,rfl,?_,fun c o e=>?_,jb_⟩
   ·rw[qb_,pa_ hi,pi_,pi_];rfl
   ·have hcr:c≠r:=fun z=>by rw[z,hr0] at e;cases e
    rw[jf_ hcr];exact s1 _ _ e
  ·rintro acc σ H' ⟨v,rfl,rfl,s1,e1⟩
   walk_at "go"
   refine i_allL (x5_ e1) ?_
   walk_at "go"
   rw[ua_,js_,qc_]
   have e:(l.map vb_).all id=xl_ l:=by
    unfold xl_
    rw[decide_eq_true (by omega),so_,List.all_map];rfl
   rw[e]
   exact q H' s1
 ·have e:xl_ l=false:=by
   unfold xl_
   rw[decide_eq_false (by omega),r8_]
  walk_at "go"
  rw[<- e]
  exact q H (Same.refl H)
end
abbrev s_mark_of:Stmt:=top 29
theorem sc_mark_of:FnScope ["thing","last"] ["thing"] (jl_ s_mark_of):=by walk_at "f"
abbrev s_word_of:Stmt:=top 30
theorem sc_word_of:FnScope ["thing"] ["thing"] (jl_ s_word_of):=by walk_at "f"
abbrev s_is_name:Stmt:=top 25
theorem sc_is_name:FnScope ["text"] ["text"] (jl_ s_is_name):=by walk_at "f"
abbrev s_is_thing:Stmt:=top 31
theorem sc_is_thing:FnScope ["thing"] ["thing"] (jl_ s_is_thing):=by walk_at "f"
abbrev s_check_things:Stmt:=top 32
theorem sc_check_things:FnScope ["text","place","thing"] ["text"] (jl_ s_check_things):=by walk_at "f"
abbrev s_pieces:Stmt:=top 33
theorem sc_pieces:FnScope ["tongues","text","told","breaker","place","thing","word"] ["tongues","text"] (jl_ s_pieces):=by walk_at "f"
structure Tc (K:pb_) (mg:Str->Option Value) (mkT:Addr):Prop where
 m:mg "MARKS"=some (.ref mkT)
 s:∀ H,SqT K H mkT [V.str ",",V.str ".",V.str ";",V.str ":",V.str "!",V.str "?"]
def z3_ (c:Nat):Bool:=[44,46,59,58,33,63].contains c
def v5_ (l:List Nat):List Nat:=l.drop (l.length - 1)
def ye_ (l:List Nat):List Nat:=if (v5_ l).any z3_=true then v5_ l else []
def v2_ (l:List Nat):List Nat:=l.take (l.length - (ye_ l).length)
def isAt (l:List Nat):Bool:=l.head? == some 64
def isNm (l:List Nat):Bool:=xl_ l&&decide (l.length<=8)
def xe_ (l:List Nat):Bool:=if isAt l=true then isNm l.tail else xl_ (v2_ l)
theorem jfa_ (l:List Nat):(v5_ l).length<=1:=by unfold v5_;rw[px_];omega
theorem jqb_ (l:List Nat):(ye_ l).length<=1:=by
 unfold ye_
 split
 ·exact jfa_ l
 ·exact qe_ _
theorem jux_ (l:List Nat):cutA l (some (-1)) none=v5_ l:=by
 unfold cutA v5_
 have h1:sx l.length 0 (some (-1))=l.length - 1:=by simp only[sx];rw[if_pos (by decide)];omega
 have h2:sx l.length l.length none=l.length:=rfl
 rw[h1,h2]
 exact rj_ (by rw[px_];exact pg_ _)
theorem jsa_ {x:List Nat} (hx:x.length<=1):inV (.str (S x)) [V.str ",",V.str ".",V.str ";",V.str ":",V.str "!",V.str "?"]=x.any z3_:=by
 match x,hx with
 | [],_=>decide +kernel
 | [c],_ =>
  have e:[V.str ",",V.str ".",V.str ";",V.str ":",V.str "!",V.str "?"]=[44,46,59,58,33,63].map fun d=>V.str (S [d]):=by decide +kernel
  rw[e]
  unfold inV z3_
  rw[List.any_map]
  simp only[qv_,l5_,w9_,ti_]
  have q:∀ d:Nat,(eqV (V.str (S [d])) (V.str (S [c])))=(c == d):=fun d=>by
   by_cases h:c=d
   ·subst h;simp[eqV]
   ·have h2:(S [d] == S [c])=false:=by
     rw[beq_eq_false_iff_ne]
     intro z
     have:=jge_ z
     injection this with this
     exact h this.symm
    rw[show (c == d)=false by rw[beq_eq_false_iff_ne];exact h]
    simp[eqV,h2]
  simp only[lu_,q]
def jgr_:Sp:=fun vs H Q _=>∃ l:List Nat,vs=[.str (S l)]/\l.length<=1000/\Q (.str (S (ye_ l))) H
def u2_:Sp:=fun vs H Q _=>∃ l:List Nat,vs=[.str (S l)]/\l.length<=1000/\Q (.str (S (v2_ l))) H
def jdf_:Sp:=fun vs H Q _=>∃ l:List Nat,vs=[.str (S l)]/\l.length<=1000/\∀ H',Same H H'->Q (.bl (isNm l)) H'
def jaj_:Sp:=fun vs H Q _=>∃ l:List Nat,vs=[.str (S l)]/\l.length<=1000/\∀ H',Same H H'->Q (.bl (xe_ l)) H'
def jhz_:Sp:=fun vs H Q _=>∃(a:Addr) (ls:List (List Nat)),vs=[.ref a]/\H a=some (.lst (ls.map fun l=>V.str (S l)))/\ls.length<=1000/\(∀ l∈ls,l.length<=1000/\xe_ l=true)/\∀ H',Same H H'->Q .non H'
theorem t_at:qd_ "@"=S [64]:=by decide +kernel
theorem jai_ (l:List Nat):ld_ (S l) (S [64])=isAt l:=by
 unfold ld_
 rw[jhm_,js_,js_]
 cases l with
 | nil=>rfl
 | cons x r =>
  simp only[rd_,pr_,p1_,isAt,List.head?_cons]
  by_cases h:x=64
  ·subst h;simp
  ·simp[h]
section
variable {P:Program} {w:World} {K:pb_} {mg:Str->Option Value} {base:Heap} {f:Addr} {fd:FuncData} {tk:Nat->Tok} {cO cO2 mkT:Addr}
theorem jmq_ (T:Txt mg tk) (TC:Tc K mg mkT) (F:Fun K "mark_of" "mark_of" s_mark_of f fd):FnOk P w K mg base CX0 1 f fd ["thing"] jgr_:=by
 refine F.ok sc_mark_of (fun vs H Q E h=>?_) (fun cdv A outer s H vs Q E hr h=>?_)
 ·obtain⟨l,rfl,_⟩:=h
  rfl
 obtain⟨l,rfl,hl,q⟩:=h
 have nd:=sc_mark_of.nd
 refine⟨_,(je_ (jk_ (i:=1) nd rfl (Or.inl rfl) (j0_ (zc_ (K:=K)) (pv 0) (jz_ (u3_ uj_ jd_)) zj_))
  (jh_ (jr_ (jiv_ (jq_ (o_inK (K:=K)) (pv 1) (yp_ (v:=.ref mkT) rfl TC.m rfl) (by with_unfolding_all rfl)) (pv 1) j1_)))),?_⟩
 rw[show L2.start ["thing","last"] [.str (S l)]=[some (.str (S l)),none] from rfl]
 rw[x1_]
 walk_at "go"
 rw[jux_]
 walk_at "go"
 refine⟨mkT,_,rfl,.inr (TC.s H),rfl,rfl,?_⟩
 rw[if_neg ph_,jsa_ (jfa_ l)]
 walk_at "go"
 refine iteB (fun c=>?_) (fun c=>?_)
 ·have e:ye_ l=v5_ l:=by unfold ye_;rw[if_pos c]
  rw[e] at q
  walk_at "go"
  exact q
 ·have e:ye_ l=[]:=by unfold ye_;rw[if_neg (by rw[c];exact ph_)]
  rw[e] at q
  walk_at "go"
  exact q
theorem jlf_ (T:Txt mg tk) (F:Fun K "word_of" "word_of" s_word_of f fd) (D_mark_of:Dn P w K mg base "mark_of" 1 ["thing"] jgr_):FnOk P w K mg base CX0 2 f fd ["thing"] u2_:=by
 refine F.ok sc_word_of (fun vs H Q E h=>?_) (fun cdv A outer s H vs Q E hr h=>?_)
 ·obtain⟨l,rfl,_⟩:=h
  rfl
 obtain⟨l,rfl,hl,q⟩:=h
 have nd:=sc_word_of.nd
 have hm:=jqb_ l
 refine⟨_,(jh_ (jr_ (j0_ (zc_ (K:=K)) (pv 0) zj_ (jz_ (jn_ vl_ (jp_ (zo_ (K:=K)) rfl T.z_len (by decide +kernel) (ja_ (pv 0) jc_)) (jp_ (zo_ (K:=K)) rfl T.z_len (by decide +kernel) (ja_ (jj_ D_mark_of hr.mo_ rfl (ja_ (pv 0) jc_)) jc_))))))),?_⟩
 rw[show L2.start ["thing"] [.str (S l)]=[some (.str (S l))] from rfl]
 walk_at "go"
 refine⟨l,rfl,hl,?_⟩
 walk_at "go"
 have hle:(ye_ l).length<=l.length:=by
  unfold ye_
  split
  ·unfold v5_;rw[px_];omega
  ·exact qe_ _
 have e:cutA l none (some ((l.length:Int) - ((ye_ l).length:Int)))=v2_ l:=by
  rw[show (l.length:Int) - ((ye_ l).length:Int)=((l.length - (ye_ l).length:Nat):Int) by omega]
  exact cut_to l _ (by omega)
 rw[e]
 walk_at "go"
 exact q
theorem jkz_ (T:Txt mg tk) (F:Fun K "is_name" "is_name" s_is_name f fd) (D_is_word:Dn P w K mg base "is_word" 2 ["text"] u1_):FnOk P w K mg base CX0 3 f fd ["text"] jdf_:=by
 refine F.ok sc_is_name (fun vs H Q E h=>?_) (fun cdv A outer s H vs Q E hr h=>?_)
 ·obtain⟨l,rfl,_⟩:=h
  rfl
 obtain⟨l,rfl,hl,q⟩:=h
 have nd:=sc_is_name.nd
 refine⟨_,(jh_ (jr_ (jtb_ (jj_ D_is_word hr.mo_ rfl (ja_ (pv 0) jc_)) (jvi_ (uk_ o_le (jp_ (zo_ (K:=K)) rfl T.z_len (by decide +kernel) (ja_ (pv 0) jc_)) (yp_ (v:=.int 8) rfl T.m_MOST_LETTERS ⟨_,rfl⟩) (jv_ _)))))),?_⟩
 rw[show L2.start ["text"] [.str (S l)]=[some (.str (S l))] from rfl]
 walk_at "go"
 refine⟨l,rfl,hl,fun H1 s1=>?_⟩
 have q1:=q H1 s1
 walk_at "go"
 cases e:xl_ l with
 | false =>
  walk_at "go"
  have:isNm l=false:=by unfold isNm;rw[e];rfl
  rw[this] at q1
  exact q1
 | true =>
  walk_at "go"
  have:isNm l=decide ((l.length:Int)<=8):=by
   unfold isNm;rw[e,so_]
   by_cases c:l.length<=8
   ·rw[decide_eq_true c,decide_eq_true (by omega)]
   ·rw[decide_eq_false c,decide_eq_false (by omega)]
  rw[this] at q1
  exact q1
theorem jjn_ (T:Txt mg tk) (F:Fun K "is_thing" "is_thing" s_is_thing f fd) (D_is_word:Dn P w K mg base "is_word" 2 ["text"] u1_) (D_is_name:Dn P w K mg base "is_name" 3 ["text"] jdf_) (D_word_of:Dn P w K mg base "word_of" 2 ["thing"] u2_):FnOk P w K mg base CX0 4 f fd ["thing"] jaj_:=by
 refine F.ok sc_is_thing (fun vs H Q E h=>?_) (fun cdv A outer s H vs Q E hr h=>?_)
 ·obtain⟨l,rfl,_⟩:=h
  rfl
 obtain⟨l,rfl,hl,q⟩:=h
 have nd:=sc_is_thing.nd
 refine⟨_,(je_ (ze_ (x0_ (zn_ (K:=K) qk_ r1_ r2_ xm_ (pv 0) (ja_ j1_ jc_)) (fun _=>rfl))
   (jh_ (jr_ (jj_ D_is_name hr.mo_ rfl (ja_ (j0_ (zc_ (K:=K)) (pv 0) (jz_ jd_) zj_) jc_))))
   j2_)
  (jh_ (jr_ (jj_ D_is_word hr.mo_ rfl (ja_ (jj_ D_word_of hr.mo_ rfl (ja_ (pv 0) jc_)) jc_))))),?_⟩
 rw[show L2.start ["thing"] [.str (S l)]=[some (.str (S l))] from rfl]
 rw[t_at]
 walk_at "go"
 rw[jai_]
 walk_at "go"
 cases e:isAt l with
 | true =>
  walk_at "go"
  have hc:cutA l (some 1) none=l.tail:=by
   have:=vn_ l 1 (by
    cases l with
    | nil=>simp[isAt] at e
    | cons x r=>simp)
   rw[lv_] at this
   exact this
  rw[hc]
  refine⟨l.tail,rfl,by rw[List.length_tail];omega,fun H1 s1=>?_⟩
  walk_at "go"
  have q1:=q H1 s1
  unfold xe_ at q1
  rw[e,if_pos rfl] at q1
  exact q1
 | false =>
  walk_at "go"
  refine⟨l,rfl,hl,?_⟩
  walk_at "go"
  refine⟨v2_ l,rfl,by unfold v2_;rw[p2_];omega,fun H1 s1=>?_⟩
  walk_at "go"
  have q1:=q H1 s1
  unfold xe_ at q1
  rw[e,if_neg ph_] at q1
  exact q1
theorem jbq_ (T:Txt mg tk) (F:Fun K "check_things" "check_things" s_check_things f fd) (D_is_thing:Dn P w K mg base "is_thing" 4 ["thing"] jaj_):FnOk P w K mg base CX0 5 f fd ["text"] jhz_:=by
 refine F.ok sc_check_things (fun vs H Q E h=>?_) (fun cdv A outer s H vs Q E hr h=>?_)
 ·obtain⟨a,ls,rfl,_⟩:=h
  rfl
 obtain⟨a,ls,rfl,ha,hll,hls,q⟩:=h
 have nd:=sc_check_things.nd
 refine⟨_,(jh_ (zm_ p6_ rfl (vk_ rfl T.z_enumerate (pv 0)) (yu_ rfl (jy_ (jm_ (i:=1) nd rfl (Or.inl rfl)) (jy_ (jm_ (i:=2) nd rfl (Or.inl rfl)) z7_)))
   (jh_ (ze_ (jlp_ (x0_ (jj_ D_is_thing hr.mo_ rfl (ja_ (pv 2) jc_)) (fun _=>rfl)))
   (jh_ u0_)
   j2_)))),?_⟩
 rw[show L2.start ["text","place","thing"] [.ref a]=[some (.ref a),none,none] from rfl]
 walk_at "go"
 refine uo_ ?_
 walk_at "go"
 refine jav_ ha ?_
 refine jah_ (fun i σ H'=>∃(v1 v2:Option V),σ=[some (.ref a),v1,v2]/\Same H H')
  ⟨none,none,rfl,Same.refl _⟩ (fun _ _ H' _ ⟨_,_,_,s⟩=>s _ _ ha) ?_ ?_
 ·rintro i v σ H2 T2 hv ⟨v1,v2,rfl,s2⟩ hT
  rw[pm_] at hv
  obtain⟨l,hl,rfl⟩:∃ l,ls[i]?=some l/\v=V.str (S l):=by
   cases e:ls[i]? with
   | none=>rw[e] at hv;cases hv
   | some l=>rw[e] at hv;cases hv;exact⟨l,rfl,rfl⟩
  obtain⟨h1,h2⟩:=hls l (qs_ hl)
  refine y0_ jb_ rfl (j4_ (j7_ (j4_ (j7_ (yz_ ?_)))))
  have s3:=s2.trans (ji_ hT (.tup [.int (((0:Nat):Int)+(i:Int)),.str (S l)]))
  walk_at "go"
  refine⟨l,rfl,h1,fun H3 s4=>?_⟩
  rw[h2]
  walk_at "go"
  exact⟨_,_,rfl,s3.trans s4⟩
 ·rintro σ H2 ⟨v1,v2,rfl,s2⟩
  walk_at "go"
  exact q H2 s2
end
theorem List.reverseRec' {α:Type} {M:List α->Prop} (nil:M []) (snoc:∀ l a,M l->M (l++[a])) (l:List α):M l:=by
 have h:∀ r:List α,M r.reverse:=fun r=>by
  induction r with
  | nil=>exact nil
  | cons x r ih=>rw[List.reverse_cons];exact snoc _ _ ih
 have:=h l.reverse
 rwa [List.reverse_reverse] at this
theorem jhe_ {H:Hp} {t:Addr} {ns:List Int} (h:H t=some (.tup (ns.map V.int))):Is H (.ref t) (.tup (ns.map Dt.int)):=by
 simp only[Is]
 refine⟨t,_,rfl,h,?_⟩
 clear h
 induction ns with
 | nil=>simp only[p8_,L2.IsL]
 | cons x ns ih=>simp only[pj_,L2.IsL,Is];exact⟨by first | rfl | trivial,ih⟩
def yt_ (k:Nat) (w m:List Nat) (g:List Int):Dt:=.tup [.int (k:Int),.str (S w),.str (S m),.tup (g.map Dt.int)]
def jin_ (b:Bp) (w:List Nat):List Int:=x3_ b.pats b.told b.hd b.tl w
def zw_ (ms:List (List Nat×Bp)) (z:List Nat):Option Bp:=(ms.find? fun m=>decide (m.1=z)).map (·.2)
structure Pc where
 b:Option (List Nat×Bp)
 ds:List Dt
 k:Nat
def y1_ (ms:List (List Nat×Bp)) (s:Pc) (l:List Nat):Pc :=
 if isAt l=true then ⟨(zw_ ms l.tail).map fun b=>(l.tail,b),s.ds,s.k+1⟩
 else ⟨s.b,s.ds++(match s.b with | some b=>[yt_ s.k (v2_ l) (ye_ l) (jin_ b.2 (v2_ l))] | none=>[]),s.k+1⟩
def prun (ms:List (List Nat×Bp)) (ls:List (List Nat)):Pc:=ls.foldl (y1_ ms) ⟨none,[],0⟩
theorem zi_ (ms:List (List Nat×Bp)) (ls:List (List Nat)) (l:List Nat):prun ms (ls++[l])=y1_ ms (prun ms ls) l:=by unfold prun;rw[tx_];rfl
theorem jml_ (ms:List (List Nat×Bp)) (ls:List (List Nat)):(prun ms ls).k=ls.length:=by
 induction ls using List.reverseRec' with
 | nil=>rfl
 | snoc ls l ih =>
  rw[zi_,pd_]
  unfold y1_
  split <;> (simp only[ih];rfl)
def ThOk (ms:List (List Nat×Bp)) (l:List Nat):Prop:=(∃ nm,l=64::nm/\isNm nm=true/\zw_ ms nm≠none)∨(∃ w m,GW w/\(m=[]∨∃ c,z3_ c=true/\m=[c])/\l=w++m)
theorem jqf_ {c:Nat} (h:z3_ c=true):vb_ c=false:=by
 unfold z3_ at h
 simp only[ti_,qv_,l5_,w9_,Bool.or_eq_true,beq_iff_eq] at h
 rcases h with rfl | rfl | rfl | rfl | rfl | rfl <;> decide
theorem jjf_ {c:Nat} (h:vb_ c=true):z3_ c=false:=by
 cases e:z3_ c with
 | false=>rfl
 | true=>rw[jqf_ e] at h;cases h
theorem jft_ (w:List Nat) (c:Nat):v5_ (w++[c])=[c]:=by
 unfold v5_
 rw[pd_,ps_,Nat.add_sub_cancel,List.drop_left]
theorem yj_ {w m:List Nat} (hw:GW w) (hm:m=[]∨∃ c,z3_ c=true/\m=[c]):ye_ (w++m)=m/\v2_ (w++m)=w/\isAt (w++m)=false/\xe_ (w++m)=true:=by
 have hl1:=hw.2.1
 have h1:ye_ (w++m)=m:=by
  rcases hm with rfl | ⟨c,hc,rfl⟩
  ·rw[py_]
   have hne:w≠[]:=fun z=>by rw[z] at hl1;simp at hl1
   have e:w=w.dropLast++[w.getLast hne]:=(wf_ hne).symm
   unfold ye_
   rw[e,jft_]
   have:=jjf_ (hw.1 _ (List.getLast_mem hne))
   rw[if_neg (by simp[this])]
  ·unfold ye_
   rw[jft_,if_pos (by simp[hc])]
 have h2:v2_ (w++m)=w:=by
  unfold v2_
  rw[h1,pd_,Nat.add_sub_cancel,lf_]
 have h3:isAt (w++m)=false:=by
  cases w with
  | nil=>simp at hl1
  | cons x r =>
   have hx:=hw.1 x p5_
   unfold isAt
   rw[q3_,List.head?_cons]
   by_cases e:x=64
   ·subst e;cases hx
   ·simp[e]
 refine⟨h1,h2,h3,?_⟩
 unfold xe_
 rw[h3,if_neg ph_,h2]
 unfold xl_
 rw[decide_eq_true (by omega),so_,r5_]
 exact hw.1
theorem ThOk.thing {ms:List (List Nat×Bp)} {l:List Nat} (h:ThOk ms l):l.length<=30/\xe_ l=true:=by
 rcases h with ⟨nm,rfl,h1,_⟩ | ⟨w,m,hw,hm,rfl⟩
 ·refine⟨?_,?_⟩
  ·unfold isNm at h1
   simp only[qi_,decide_eq_true_eq] at h1
   rw[pr_];omega
  ·unfold xe_
   rw[if_pos (by simp[isAt])]
   exact h1
 ·refine⟨?_,(yj_ hw hm).2.2.2⟩
  have:=hw.2.2
  rw[pd_]
  rcases hm with rfl | ⟨c,_,rfl⟩ <;> simp <;> omega
def TxOk (ms:List (List Nat×Bp)) (ls:List (List Nat)):Prop:=(∀ l∈ls,ThOk ms l)/\∀ l,ls[0]?=some l->isAt l=true
theorem ud_ {ms:List (List Nat×Bp)} {z:List Nat} (h:zw_ ms z≠none):∃ b,zw_ ms z=some b:=by
 cases e:zw_ ms z with
 | none=>exact absurd e h
 | some b=>exact⟨b,rfl⟩
theorem jog_ {ms:List (List Nat×Bp)} {ls:List (List Nat)} (h:TxOk ms ls):∀ i,1<=i->i<=ls.length->∃ nb,(prun ms (ls.take i)).b=some nb/\zw_ ms nb.1=some nb.2
 | 0,h1,_=>by omega
 | i+1,_,h2=>by
  have hi:i < ls.length:=by omega
  rw[qb_,pa_ hi]
  show ∃ nb,(prun ms (ls.take i++[ls[i]])).b=some nb/\_
  rw[zi_]
  unfold y1_
  have hth:=h.1 _ (pw_ hi)
  by_cases ha:isAt ls[i]=true
  ·rw[if_pos ha]
   rcases hth with ⟨nm,e,_,hk⟩ | ⟨w,m,hw,hm,e⟩
   ·obtain⟨b,hb⟩:=ud_ hk
    rw[e]
    simp only[lg_,hb,rf_]
    exact⟨_,rfl,hb⟩
   ·rw[e,(yj_ hw hm).2.2.1] at ha;cases ha
  ·rw[if_neg ha]
   have hi1:1<=i:=by
    rcases qh_ i with rfl | h
    ·exact absurd (h.2 _ (pa_ hi)) ha
    ·exact h
   exact jog_ h i hi1 (by omega)
theorem TR.look {C:Addr} {H:Hp} (z:List Nat) {kvs kws:List (Key×V)} {ms:List (List Nat×Bp)} (h:TR C H kvs kws ms):∀ b,zw_ ms z=some b->∃ p kd ld pa:Addr,valV kvs (Sum.inr (S z))=some (.ref p)/\valV kws (Sum.inr (S z))=some (.ref pa)/\BrkAt C H p kd ld b.pats b.told b.hd b.tl/\PartsAt H pa b.pats b.told b.hd b.tl/\OkB b.pats b.told:=by
 refine TR.ind (M:=fun kvs kws ms=>∀ b,zw_ ms z=some b->∃ p kd ld pa:Addr,valV kvs (Sum.inr (S z))=some (.ref p)/\valV kws (Sum.inr (S z))=some (.ref pa)/\BrkAt C H p kd ld b.pats b.told b.hd b.tl/\PartsAt H pa b.pats b.told b.hd b.tl/\OkB b.pats b.told) (fun b e=>by cases e) ?_ h
 rintro kv kvs kw kws m ms a b ⟨p,kd,ld,c1,c2⟩ ⟨pa,d1,d2⟩ e _ ih b' hb
 by_cases hz:m.1=z
 ·have e1:zw_ (m::ms) z=some m.2:=by unfold zw_;rw[qq_,decide_eq_true hz];rfl
  rw[e1] at hb
  cases hb
  exact⟨p,kd,ld,pa,by rw[zd_ (by rw[a,hz]),c1],by rw[zd_ (by rw[b,hz]),d1],c2,d2,e⟩
 ·have e1:zw_ (m::ms) z=zw_ ms z:=by unfold zw_;rw[qq_,decide_eq_false hz]
  rw[e1] at hb
  rw[zk_ fun q=>hz (x6_ (a.symm.trans q)),zk_ fun q=>hz (x6_ (b.symm.trans q))]
  exact ih b' hb
theorem xj_ (k:Nat) (w m:List Nat) (g:List Int):uv_ (yt_ k w m g)=true:=by
 have hi:∀ g:List Int,zv_ (g.map Dt.int)=true:=fun g=>by
  induction g with
  | nil=>rfl
  | cons x g ih=>simp only[pj_,zv_,uv_,ih];rfl
 unfold yt_
 simp only[uv_,zv_,hi g];rfl
theorem jlz_ (l1 l2:List Dt):zv_ (l1++l2)=(zv_ l1&&zv_ l2):=by
 induction l1 with
 | nil=>simp[zv_]
 | cons x l ih=>simp[zv_,ih,Bool.and_assoc]
theorem jan_ (ms:List (List Nat×Bp)) (ls:List (List Nat)):zv_ (prun ms ls).ds=true:=by
 induction ls using List.reverseRec' with
 | nil=>rfl
 | snoc ls l ih =>
  rw[zi_]
  unfold y1_
  split
  ·exact ih
  ·rw[jlz_,ih]
   cases (prun ms ls).b with
   | none=>rfl
   | some b=>simp only[zv_,xj_];rfl
def jld_ (CT:Addr):Sp:=fun vs H Q _=>∃(tp td:Addr) (kvs:List (Key×V)) (nm:List Nat) (v:V),vs=[.ref tp,.str (S nm)]/\TgAt CT H tp td kvs/\valV kvs (Sum.inr (S nm))=some v/\Q v H
def jch_ (C CT:Addr):Sp:=fun vs H Q _=>∃(tp td a:Addr) (kvs kws:List (Key×V)) (ms:List (List Nat×Bp)) (ls:List (List Nat)),vs=[.ref tp,.ref a]/\TgAt CT H tp td kvs/\TR C H kvs kws ms/\H a=some (.lst (ls.map fun l=>V.str (S l)))/\ls.length<=1000/\TxOk ms ls /\
 ∀(r:Addr) (xs:List V) (H':Hp),H r=none->H' r=some (.lst xs)->L2.IsL H' xs (prun ms ls).ds->xs.length<=ls.length->Same H H'->Q (.ref r) H'
section
variable {P:Program} {w:World} {K:pb_} {mg:Str->Option Value} {base:Heap} {f:Addr} {fd:FuncData} {tk:Nat->Tok} {cO cO2 mkT:Addr}
theorem vh_ (T:Txt mg tk) (O2:Ow2 K mg cO2) (F:Fun K "breaker_of" "Tongues.breaker_of" s_Tongues_breaker_of f fd):FnOk P w K mg base CX0 1 f fd ["self","name"] (jld_ cO2):=by
 refine F.ok sc_Tongues_breaker_of (fun vs H Q E h=>?_) (fun cdv A outer s H vs Q E hr h=>?_)
 ·obtain⟨tp,td,kvs,nm,v,rfl,_⟩:=h
  rfl
 obtain⟨tp,td,kvs,nm,v,rfl,hT,hv,q⟩:=h
 obtain⟨dxt,t1,t2⟩:=id hT
 have nd:=sc_Tongues_breaker_of.nd
 refine⟨_,(je_ (ze_ (jmg_ (jpu_ (xa_ hr) (pv 1) (yv_ (pv 0) rfl)))
   (jh_ u0_)
   j2_)
  (jh_ (jr_ (v1_ (xa_ hr) (yv_ (pv 0) rfl) (pv 1) (fun _ _=>rfl))))),?_⟩
 rw[show L2.start ["self","name"] [.ref tp,.str (S nm)]=[some (.ref tp),some (.str (S nm))] from rfl]
 walk_at "go"
 refine i_tB (jra_ ?_)
 walk_at "go"
 refine ys_ ?_
 walk_at "go"
 refine yy_ t1 O2.cl O2.n_breakers rfl ?_
 refine⟨td,_,rfl,DGet.k (k:=Sum.inr (S nm)) t2,?_⟩
 rw[hv]
 walk_at "go"
 refine jcb_ ?_
 walk_at "go"
 refine ys_ ?_
 walk_at "go"
 refine yy_ t1 O2.cl O2.n_breakers rfl ?_
 walk_at "go"
 refine⟨td,_,rfl,hv▸DGet.k (k:=Sum.inr (S nm)) t2,?_⟩
 walk_at "go"
 exact q
theorem jpe_ (T:Txt mg tk) (O:Ow K mg cO) (O2:Ow2 K mg cO2) (F:Fun K "pieces" "pieces" s_pieces f fd) (D_check_things:Dn P w K mg base "check_things" 5 ["text"] jhz_) (D_mark_of:Dn P w K mg base "mark_of" 1 ["thing"] jgr_) (D_word_of:Dn P w K mg base "word_of" 2 ["thing"] u2_) (D_Tongues_breaker_of:Dm P w K mg base cO2 "breaker_of" 1 ["self","name"] (jld_ cO2)) (D_Breaker_gaps:Dm P w K mg base cO "gaps" 4 ["self","word"] (jlw_ cO)):FnOk P w K mg base CX0 6 f fd ["tongues","text"] (jch_ cO cO2):=by
 refine F.ok sc_pieces (fun vs H Q E h=>?_) (fun cdv A outer s H vs Q E hr h=>?_)
 ·obtain⟨tp,td,a,kvs,kws,ms,ls,rfl,_⟩:=h
  rfl
 obtain⟨tp,td,a,kvs,kws,ms,ls,rfl,hT,hR,ha,hll,hX,q⟩:=h
 have nd:=sc_pieces.nd
 refine⟨_,(je_ (zq_ (jj_ D_check_things hr.mo_ rfl (ja_ (pv 1) jc_)))
  (je_ (jk_ (i:=2) nd rfl (Or.inl rfl) (j5_ jc_))
  (je_ (jk_ (i:=3) nd rfl (Or.inl rfl) jaw_)
  (je_ (zm_ p6_ rfl (vk_ rfl T.z_enumerate (pv 1)) (yu_ rfl (jy_ (jm_ (i:=4) nd rfl (Or.inl rfl)) (jy_ (jm_ (i:=5) nd rfl (Or.inl rfl)) z7_)))
   (jh_ (ze_ (x0_ (zn_ (K:=K) qk_ r1_ r2_ xm_ (pv 5) (ja_ j1_ jc_)) (fun _=>rfl))
   (jh_ (jk_ (i:=3) nd rfl (Or.inl rfl) (jef_ (pv 0) O2.cl D_Tongues_breaker_of hr.mo_ (ja_ (j0_ (zc_ (K:=K)) (pv 5) (jz_ jd_) zj_) jc_))))
   (jh_ (ze_ (jq_ o_is (pv 3) jaw_ (jv_ _))
   (jh_ u0_)
   (je_ (jk_ (i:=6) nd rfl (Or.inl rfl) (jj_ D_word_of hr.mo_ rfl (ja_ (pv 5) jc_)))
  (jh_ (zq_ (zn_ (K:=K) p7_ p9_ qa_ zh_ (pv 2) (ja_ (z4_ (ja_ (pv 4) (ja_ (pv 6) (ja_ (jj_ D_mark_of hr.mo_ rfl (ja_ (pv 5) jc_)) (ja_ (jef_ (pv 3) O.cl D_Breaker_gaps hr.mo_ (ja_ (pv 6) jc_)) jc_))))) jc_))))))))))
  (jh_ (jr_ (pv 2))))))),?_⟩
 rw[show L2.start ["tongues","text","told","breaker","place","thing","word"] [.ref tp,.ref a]=[some (.ref tp),some (.ref a),none,none,none,none,none] from rfl]
 rw[t_at]
 walk_at "go"
 refine⟨a,ls,rfl,ha,hll,fun l hl=>by have:=(hX.1 l hl).thing;exact⟨by omega,this.2⟩,fun H1 s1=>?_⟩
 walk_at "go"
 intro r hr0
 have s2:=s1.trans (ji_ hr0 (.lst []))
 have er:=jb_ (H:=H1) (a:=r) (o:=.lst [])
 have hrH:H r=none:=s1.free hr0
 generalize upd H1 r (.lst [])=H2 at s2 er ⊢
 walk_at "go"
 refine uo_ ?_
 walk_at "go"
 refine jav_ (s2 _ _ ha) ?_
 refine jah_ (fun i σ H'=>∃(v3:V) (v4 v5 v6:Option V) (xs:List V),σ=[some (.ref tp),some (.ref a),some (.ref r),some v3,v4,v5,v6]/\H' r=some (.lst xs)/\L2.IsL H' xs (prun ms (ls.take i)).ds/\xs.length<=i/\Same H H' /\
   (match (prun ms (ls.take i)).b with | none=>v3=.non | some nb=>zw_ ms nb.1=some nb.2/\∃ p,v3=.ref p/\valV kvs (Sum.inr (S nb.1))=some (.ref p)))
  ⟨.non,none,none,none,[],rfl,er,(by simp only[wz_,prun,List.foldl_nil,L2.IsL]),pg_ _,s2,rfl⟩ (fun _ _ H' _ ⟨_,_,_,_,_,_,_,_,_,s,_⟩=>s _ _ ha) ?_ ?_
 ·rintro i v σ H3 T3 hv ⟨v3,v4,v5,v6,xs,rfl,er3,hxs,hxl,s3,hb⟩ hT3
  rw[pm_] at hv
  obtain⟨l,hl,rfl⟩:∃ l,ls[i]?=some l/\v=V.str (S l):=by
   cases e:ls[i]? with
   | none=>rw[e] at hv;cases hv
   | some l=>rw[e] at hv;cases hv;exact⟨l,rfl,rfl⟩
  have hi:=(pl_.mp hl).1
  have htk:ls.take (i+1)=ls.take i++[l]:=by rw[qb_,hl];rfl
  have hpk:(prun ms (ls.take i)).k=i:=by rw[jml_,p2_];omega
  have hth:=hX.1 l (qs_ hl)
  have hlen:=hth.thing.1
  have sT:=ji_ hT3 (.tup [.int (((0:Nat):Int)+(i:Int)),.str (S l)])
  refine y0_ jb_ rfl (j4_ (j7_ (j4_ (j7_ (yz_ ?_)))))
  have s4:=s3.trans sT
  have er4:=sT _ _ er3
  have hxs4:=IsL.same sT hxs
  generalize upd H3 T3 (.tup [.int (((0:Nat):Int)+(i:Int)),.str (S l)])=H4 at s4 er4 hxs4 ⊢
  have hii:V.int (((0:Nat):Int)+(i:Int))=V.int (i:Int):=by congr 1;omega
  rw[hii]
  walk_at "go"
  rw[jai_]
  walk_at "go"
  rcases hth with ⟨nm,rfl,hnm,hlk⟩ | ⟨wd,m,hw,hm,rfl⟩
  ·have hat:isAt (64::nm)=true:=by simp[isAt]
   obtain⟨b,hb2⟩:=ud_ hlk
   obtain⟨p,kd,ld,pa,q1,q2,hB,hP,hO⟩:=(hR.same s4).look nm b hb2
   rw[hat]
   walk_at "go"
   refine jks_ ?_
   walk_at "go"
   obtain⟨dxt,t1,t2⟩:=id (hT.same s4)
   refine jkn_ t1 rfl ?_
   walk_at "go"
   have hc:cutA (64::nm) (some 1) none=nm:=by
    have:=vn_ (64::nm) 1 (by simp)
    rw[lv_] at this
    exact this
   rw[hc]
   refine⟨tp,td,kvs,nm,.ref p,rfl,hT.same s4,q1,?_⟩
   walk_at "go"
   refine⟨.ref p,_,_,_,xs,rfl,er4,?_,by omega,s4,?_⟩
   ·rw[htk,zi_]
    unfold y1_
    rw[if_pos hat]
    exact hxs4
   ·rw[htk,zi_]
    unfold y1_
    rw[if_pos hat]
    simp only[lg_,hb2,rf_]
    exact⟨trivial,p,rfl,q1⟩
  ·obtain⟨e1,e2,e3,_⟩:=yj_ hw hm
   rw[e3]
   have hi1:1<=i:=by
    rcases qh_ i with rfl | h
    ·have:=hX.2 _ hl
     rw[e3] at this;cases this
    ·exact h
   obtain⟨nb,hnb,hnl⟩:=jog_ hX i hi1 (by omega)
   rw[hnb] at hb
   obtain⟨_,p,rfl,q1'⟩:=hb
   obtain⟨p',kd,ld,pa,q1,q2,hB,hP,hO⟩:=(hR.same s4).look nb.1 nb.2 hnl
   have ep:p'=p:=by rw[q1'] at q1;injection q1 with q1;injection q1 with q1;exact q1.symm
   subst ep
   walk_at "go"
   refine⟨wd++m,rfl,by omega,?_⟩
   rw[e2]
   walk_at "go"
   refine⟨wd++m,rfl,by omega,?_⟩
   rw[e1]
   walk_at "go"
   refine jks_ ?_
   walk_at "go"
   obtain⟨dxb,ysb,kvb,b1,_⟩:=id hB
   refine jkn_ b1 rfl ?_
   walk_at "go"
   have hz:=hO.pl
   have hW2:=hw.2.2
   refine⟨p',kd,ld,nb.2.pats,nb.2.told,nb.2.hd,nb.2.tl,wd,rfl,hB,hO.ps,by omega,hw.2.1,by omega,fun t H5 et s5=>?_⟩
   walk_at "go"
   intro t6 ht6
   have s6:=ji_ ht6 (.tup [.int (i:Int),.str (S wd),.str (S m),.ref t])
   have et6:=jb_ (H:=H5) (a:=t6) (o:=.tup [.int (i:Int),.str (S wd),.str (S m),.ref t])
   have s46:=s5.trans s6
   have et':=s6 _ _ et
   generalize upd H5 t6 (.tup [.int (i:Int),.str (S wd),.str (S m),.ref t])=H6 at s6 et6 s46 et' ⊢
   have er6:=s46 _ _ er4
   have hszx:xs.length < sizeLine:=szn (by omega)
   walk_at "go"
   have tks:Tk H6 (upd H6 r (.lst (xs++[.ref t6]))):=fun b zs e=>by
    have hb:b≠r:=fun z=>by rw[z,er6] at e;cases e
    rw[jf_ hb];exact e
   have hp:Is H6 (.ref t6) (yt_ i wd m (jin_ nb.2 wd)):=by
    unfold yt_
    have:=jhe_ et'
    simp only[Is,L2.IsL] at this ⊢
    exact⟨t6,_,rfl,et6,rfl,rfl,rfl,this,trivial⟩
   refine⟨.ref p',_,_,_,xs++[.ref t6],rfl,jb_,?_,by rw[pd_];show _+1<=_;omega,fun b o e=>?_,?_⟩
   ·rw[htk,zi_]
    unfold y1_
    rw[e3,if_neg ph_,hnb,hpk,e1,e2]
    refine IsL.append (IsL.tk tks (jan_ ms _) (IsL.same s46 hxs4)) ?_
    simp only[L2.IsL]
    exact⟨Is.tk tks (xj_ _ _ _ _) hp,trivial⟩
   ·have hbr:b≠r:=fun z=>by rw[z,hrH] at e;cases e
    rw[jf_ hbr];exact s46 _ _ (s4 _ _ e)
   ·rw[htk,zi_]
    unfold y1_
    rw[e3,if_neg ph_,hnb]
    exact⟨hnl,p',rfl,q1⟩
 ·rintro σ H3 ⟨v3,v4,v5,v6,xs,rfl,er3,hxs,hxl,s3,hb⟩
  rw[pc_] at hxs hxl
  rw[qc_] at hxs
  walk_at "go"
  exact q r xs H3 hrH er3 hxs hxl s3
end
abbrev s_law_parts:Stmt:=top 48
theorem sc_law_parts:FnScope ["_law_feed_here","_law_letters_here","_law_words","_law_patterns","_law_k","_law_word_here","_law_told","_law_head"] ["_law_feed_here","_law_letters_here","_law_words"] (jl_ s_law_parts):=by walk_at "f"
def jhx_:Sp:=fun vs H Q _=>∃(p:Addr) (n:Nat) (l:List Nat) (wa:Addr) (ws:List (List Nat)),vs=[.ref p,.str (S l),.ref wa]/\FeedAt H p n/\n+5000 < zz_/\Low l/\1<=l.length/\l.length<=26/\H wa=some (.lst (ws.map fun w=>V.str (S w)))/\ws.length=6/\(∀ w∈ws,GW w)/\wa≠p /\
 ∀(pa pl tdl:Addr) (pats told:List Pat) (hd tl:Int) (H':Hp),H pl=none->H tdl=none->PartsX H' pa pl tdl pats told hd tl->OkB pats told->FeedAt H' p (n+5000)->Kept p H H'->Q (.ref pa) H'
theorem jqe_ (l:List Pat):(l.map fun x=>V.str (S x.1)).all xr_=true:=by
 rw[List.all_map,r5_];intro x _;rfl
structure TwoL (H:Hp) (r r2:Addr) (ys yt:List V) (xs told:List Pat):Prop where
 a:H r=some (.lst ys)
 b:L2.IsL H ys (xs.map patD)
 c:H r2=some (.lst yt)
 d:L2.IsL H yt (told.map patD)
theorem TwoL.same {H H':Hp} {r r2:Addr} {ys yt:List V} {xs told:List Pat} (s:Same H H') (h:TwoL H r r2 ys yt xs told):TwoL H' r r2 ys yt xs told:=⟨s _ _ h.a,IsL.same s h.b,s _ _ h.c,IsL.same s h.d⟩
theorem TwoL.kept {H H':Hp} {p r r2:Addr} {n:Nat} {ys yt:List V} {xs told:List Pat} (k:Kept p H H') (hf:FeedAt H p n) (h1:r≠p) (h2:r2≠p) (h:TwoL H r r2 ys yt xs told):TwoL H' r r2 ys yt xs told :=
 ⟨k _ _ h1 h.a,xo_ (fun b o e hb=>k b o hb e) (FeedAt.ex hf) h.b,k _ _ h2 h.c,xo_ (fun b o e hb=>k b o hb e) (FeedAt.ex hf) h.d⟩
def OkT (x:Pat):Prop:=GW x.1/\∃ g:List Nat,x.2=g.map (fun k:Nat=>(k:Int))/\Rise 0 x.1.length g
section
variable {P:Program} {w:World} {K:pb_} {mg:Str->Option Value} {base:Heap} {f:Addr} {fd:FuncData} {tk:Nat->Tok} {cO:Addr}
theorem jhg_ (T:Txt mg tk) (F:Fun K "_law_parts" "_law_parts" s_law_parts f fd) (D_law_next:Dn P w K mg base "_law_next" 1 ["_law_feed_here","_law_many"] yo_) (D_law_pattern:Dn P w K mg base "_law_pattern" 3 ["_law_feed_here","_law_letters_here","_law_word_here","_law_most"] jag_) (D_law_some_gaps:Dn P w K mg base "_law_some_gaps" 2 ["_law_feed_here","_law_word_here"] spSG):FnOk P w K mg base CX0 4 f fd ["_law_feed_here","_law_letters_here","_law_words"] jhx_:=by
 refine F.ok sc_law_parts (fun vs H Q E h=>?_) (fun cdv A outer s H vs Q E hr h=>?_)
 ·obtain⟨p,n,l,a,ws,rfl,_⟩:=h
  rfl
 obtain⟨p,n,l,a,ws,rfl,hf,hn,hl,hl1,hl2,ha,hws1,hws3,hap,q⟩:=h
 have nd:=sc_law_parts.nd
 refine⟨_,(je_ (jk_ (i:=3) nd rfl (Or.inl rfl) (j5_ jc_))
  (je_ (zm_ p6_ rfl (z0_ rfl T.z_range (ja_ (jj_ D_law_next hr.mo_ rfl (ja_ (pv 0) (ja_ jd_ jc_))) jc_)) (jm_ (i:=4) nd rfl (Or.inl rfl))
   (je_ (jk_ (i:=5) nd rfl (Or.inl rfl) (jt_ (jo_ (K:=K)) (pv 2) (jj_ D_law_next hr.mo_ rfl (ja_ (pv 0) (ja_ (jp_ (zo_ (K:=K)) rfl T.z_len (by decide +kernel) (ja_ (pv 2) jc_)) jc_))) (fun _ _=>rfl)))
  (jh_ (zq_ (zn_ (K:=K) p7_ p9_ qa_ zh_ (pv 3) (ja_ (jj_ D_law_pattern hr.mo_ rfl (ja_ (pv 0) (ja_ (pv 1) (ja_ (pv 5) (ja_ (jt_ (jo_ (K:=K)) (j5_ (ja_ jd_ (ja_ jd_ (ja_ jd_ jc_)))) (jj_ D_law_next hr.mo_ rfl (ja_ (pv 0) (ja_ jd_ jc_))) (fun _ _=>rfl)) jc_))))) jc_))))))
  (je_ (jk_ (i:=6) nd rfl (Or.inl rfl) (j5_ jc_))
  (je_ (zm_ p6_ rfl (z0_ rfl T.z_range (ja_ (jj_ D_law_next hr.mo_ rfl (ja_ (pv 0) (ja_ (jt_ (jo_ (K:=K)) (j5_ (ja_ jd_ (ja_ jd_ (ja_ jd_ jc_)))) (jj_ D_law_next hr.mo_ rfl (ja_ (pv 0) (ja_ jd_ jc_))) (fun _ _=>rfl)) jc_))) jc_)) (jm_ (i:=4) nd rfl (Or.inl rfl))
   (je_ (jk_ (i:=5) nd rfl (Or.inl rfl) (jt_ (jo_ (K:=K)) (pv 2) (jj_ D_law_next hr.mo_ rfl (ja_ (pv 0) (ja_ (jp_ (zo_ (K:=K)) rfl T.z_len (by decide +kernel) (ja_ (pv 2) jc_)) jc_))) (fun _ _=>rfl)))
  (jh_ (ze_ (jq_ jxq_ (pv 5) (zu_ ["_law_one"] [none] rfl (by kernel_rfl) rfl (zt_ (K:=K) (pv 6)) (fun _ _ _ _=>(jm_ (i:=0) (show (["_law_one"]:List Str).Nodup by decide +kernel) rfl (Or.inl rfl) (Or.inr rfl))) (fun _ _ _ _=>xg_) (fun _ _ _ _=>(jt_ (jo_ (K:=K)) (pv 0) jd_ (fun _ _=>rfl)))) (by with_unfolding_all rfl))
   (jh_ (zq_ (zn_ (K:=K) p7_ p9_ qa_ zh_ (pv 6) (ja_ (z4_ (ja_ (pv 5) (ja_ (jj_ D_law_some_gaps hr.mo_ rfl (ja_ (pv 0) (ja_ (pv 5) jc_))) jc_))) jc_))))
   j2_))))
  (je_ (jk_ (i:=7) nd rfl (Or.inl rfl) (jn_ jx_ jd_ (jj_ D_law_next hr.mo_ rfl (ja_ (pv 0) (ja_ (jt_ (jo_ (K:=K)) (j5_ (ja_ jd_ (ja_ jd_ (ja_ jd_ jc_)))) (jj_ D_law_next hr.mo_ rfl (ja_ (pv 0) (ja_ jd_ jc_))) (fun _ _=>rfl)) jc_)))))
  (jh_ (jr_ (z4_ (ja_ (pv 3) (ja_ (pv 6) (ja_ (pv 7) (ja_ (jn_ jx_ jd_ (jj_ D_law_next hr.mo_ rfl (ja_ (pv 0) (ja_ (jt_ (jo_ (K:=K)) (j5_ (ja_ jd_ (ja_ jd_ (ja_ jd_ jc_)))) (jj_ D_law_next hr.mo_ rfl (ja_ (pv 0) (ja_ jd_ jc_))) (fun _ _=>rfl)) jc_)))) jc_)))))))))))),?_⟩
 rw[show L2.start ["_law_feed_here","_law_letters_here","_law_words","_law_patterns","_law_k","_law_word_here","_law_told","_law_head"] [.ref p,.str (S l),.ref a]=[some (.ref p),some (.str (S l)),some (.ref a),none,none,none,none,none] from rfl]
 walk_at "go"
 intro r hr0
 have pr:p≠r:=by obtain⟨o,e⟩:=hf.some;exact jg_ e hr0
 have ar:a≠r:=jg_ ha hr0
 walk_at "go"
 refine⟨p,_,n,rfl,hf.new hr0,by omega,by omega,by omega,fun d H1 hd0 hd1 hf1 o1=>?_⟩
 have e1:H1 r=some (.lst []):=(o1 r pr.symm).trans jb_
 have k1:Kept p H H1:=((Kept.refl p H).new hr0 _).off o1
 walk_at "go"
 refine z9_ (fun i σ H'=>∃(v4 v5:Option V) (ys:List V) (xs:List Pat),σ=[some (.ref p),some (.str (S l)),some (.ref a),some (.ref r),v4,v5,none,none]/\xs.length=i/\H' r=some (.lst ys)/\L2.IsL H' ys (xs.map patD)/\(∀ x∈xs,GP x)/\FeedAt H' p (n+1+300 * i)/\Kept p H H')
  ⟨none,none,[],[],rfl,rfl,e1,(by simp only[p8_,L2.IsL]),(fun x hx=>nomatch hx),hf1,k1⟩ ?_ ?_
 ·rintro i σ H2 hi ⟨v4,v5,ys,xs,rfl,hxl,e2,hys,hgp,hf2,k2⟩
  have ha2:=k2 a _ hap ha
  have hyl:=hys.length
  rw[pc_] at hyl
  walk_at "go"
  rw[pc_]
  refine⟨p,_,n+1+300 * i,rfl,hf2,by omega,by omega,by omega,fun c H3 hc0 hc1 hf3 o3=>?_⟩
  have ha3:H3 a=_:=(o3 a hap).trans ha2
  have hcl:c.toNat < ws.length:=by omega
  refine z1_ (v:=.str (S ws[c.toNat])) (jw_ ha3) (zy_ hc0 (by rw[pm_,pa_ hcl];rfl)) ?_
  have hg:=hws3 _ (pw_ hcl)
  have e3:H3 r=some (.lst ys):=(o3 r pr.symm).trans e2
  have hys3:L2.IsL H3 ys (xs.map patD):=xo_ (fun b o e hb=>(o3 b hb).trans e) (FeedAt.ex hf2) hys
  walk_at "go"
  intro d1 hd1
  have pd1:p≠d1:=by obtain⟨o,e⟩:=hf3.some;exact jg_ e hd1
  have rd1:r≠d1:=jg_ e3 hd1
  have sd:=ji_ hd1 (.lst [.int 3,.int 4,.int 22])
  walk_at "go"
  refine⟨p,3,n+2+300 * i,rfl,(hf3.mono (by omega)).new hd1,by omega,by decide,by decide,fun c1 Hb hb0 hb1 hfb ob=>?_⟩
  obtain⟨m1,hm2,hm3⟩:=jbn_ (a:=3) (b:=4) (c:=22) hb0 hb1
  refine z1_ (jw_ ((ob d1 pd1.symm).trans jb_)) hm2 ?_
  have eb:Hb r=some (.lst ys):=(ob r pr.symm).trans (sd _ _ e3)
  have hysb:L2.IsL Hb ys (xs.map patD):=xo_ (fun b o e hb=>(ob b hb).trans e) (FeedAt.ex (hf3.new hd1)) (IsL.same sd hys3)
  walk_at "go"
  refine⟨p,n+3+300 * i,l,ws[c.toNat],m1,rfl,hfb.mono (by omega),by omega,hl,hl1,hl2,hg.1,hg.2.1,hg.2.2,by omega,by omega,fun v x H4 hv hx hf4 k4=>?_⟩
  have e4:H4 r=some (.lst ys):=k4 r _ pr.symm eb
  have hys4:L2.IsL H4 ys (xs.map patD):=xo_ (fun b o e hb=>k4 b o hb e) (FeedAt.ex hfb) hysb
  have hsz:ys.length < sizeLine:=szn (by omega)
  walk_at "go"
  have up:∀ b o,H4 b=some o->b≠r->(upd H4 r (.lst (ys++[v]))) b=some o:=fun b o e hb=>by rw[jf_ hb];exact e
  refine⟨_,_,ys++[v],xs++[x],rfl,by simp[hxl],jb_,?_,?_,?_,fun b o hb e=>?_⟩
  ·rw[pi_]
   refine IsL.append (xp_ up e4 hys4) ?_
   have h1:L2.IsL H4 [v] ([x].map patD):=by simp only[pj_,p8_,L2.IsL];exact⟨hv,trivial⟩
   exact xp_ up e4 h1
  ·intro z hz
   rcases p0_.mp hz with h | h
   ·exact hgp z h
   ·have:z=x:=by simpa using h
    rw[this];exact hx
  ·obtain⟨a1,b1,c1,g1,g2⟩:=hf4
   exact⟨a1,b1,c1,by rw[jf_ pr];exact g1,by omega⟩
  ·have hbr:b≠r:=fun z=>by rw[z,hr0] at e;cases e
   rw[jf_ hbr]
   exact k4 b o hb ((ob b hb).trans (sd _ _ ((o3 b hb).trans (k2 b o hb e))))
 ·rintro σ H2 ⟨v4,v5,ys,xs,rfl,hxl,e2,hys,hgp,hf2,k2⟩
  have hxl8:xs.length<=8:=by omega
  have hf2':FeedAt H2 p (n+2500):=hf2.mono (by omega)
  clear hf2
  walk_at "go"
  intro r2 hr20
  have pr2:p≠r2:=by obtain⟨o,e⟩:=hf2'.some;exact jg_ e hr20
  have rr2:r≠r2:=jg_ e2 hr20
  have sr:=ji_ hr20 (.lst [])
  have er2:=jb_ (H:=H2) (a:=r2) (o:=.lst [])
  have e2':=sr _ _ e2
  have hys':=IsL.same sr hys
  have hf3:FeedAt (upd H2 r2 (.lst [])) p (n+2500):=hf2'.new hr20
  have k3:Kept p H (upd H2 r2 (.lst [])):=k2.new hr20 _
  have hr2H:H r2=none:=by
   cases e:H r2 with
   | none=>rfl
   | some o=>exact absurd (k2 r2 o pr2.symm e) (by rw[hr20];exact fun z=>nomatch z)
  have tw3:TwoL (upd H2 r2 (.lst [])) r r2 ys [] xs []:=⟨e2',hys',er2,by simp only[p8_,L2.IsL]⟩
  generalize upd H2 r2 (.lst [])=H3 at tw3 hf3 k3 ⊢
  walk_at "go"
  intro d2 hd2
  have pd2:p≠d2:=by obtain⟨o,e⟩:=hf3.some;exact jg_ e hd2
  have sd2:=ji_ hd2 (.lst [.int 4,.int 4,.int 9])
  have kd2:Kept p H (upd H3 d2 (.lst [.int 4,.int 4,.int 9])):=k3.new hd2 _
  walk_at "go"
  refine⟨p,3,n+2500,rfl,hf3.new hd2,by omega,by decide,by decide,fun c1 H4 hb0 hb1 hf4 o4=>?_⟩
  obtain⟨m1,hm2,hm3⟩:=jbn_ (a:=4) (b:=4) (c:=9) hb0 hb1
  refine z1_ (jw_ ((o4 d2 pd2.symm).trans jb_)) hm2 ?_
  have tw4:TwoL H4 r r2 ys [] xs []:=(tw3.same sd2).kept o4.kept (hf3.new hd2) pr.symm pr2.symm
  have k4:Kept p H H4:=kd2.trans o4.kept
  walk_at "go"
  refine⟨p,m1,n+2501,rfl,hf4,by omega,by omega,by omega,fun cnt H5 hc0 hc1 hf5 o5=>?_⟩
  have tw5:TwoL H5 r r2 ys [] xs []:=tw4.kept o5.kept hf4 pr.symm pr2.symm
  have k5:Kept p H H5:=k4.trans o5.kept
  have hcnt:cnt.toNat<=8:=by omega
  walk_at "go"
  refine z9_ (fun i σ H'=>∃(v4 v5:Option V) (yt:List V) (told:List Pat),σ=[some (.ref p),some (.str (S l)),some (.ref a),some (.ref r),v4,v5,some (.ref r2),none]/\TwoL H' r r2 ys yt xs told/\told.length<=i/\(told.map (·.1)).Nodup/\(∀ x∈told,OkT x)/\FeedAt H' p (n+2502+100 * i)/\Kept p H H')
   ⟨_,_,[],[],rfl,tw5,pg_ _,le_,(fun x hx=>nomatch hx),hf5,k5⟩ ?_ ?_
  ·rintro i σ H6 hi ⟨v4,v5,yt,told,rfl,tw6,htl,hnd,hok,hf6,k6⟩
   have ha6:=k6 a _ hap ha
   walk_at "go"
   rw[pc_]
   refine⟨p,_,n+2502+100 * i,rfl,hf6,by omega,by omega,by omega,fun c H7 hc0 hc1 hf7 o7=>?_⟩
   have ha7:H7 a=_:=(o7 a hap).trans ha6
   have hcl:c.toNat < ws.length:=by omega
   refine z1_ (v:=.str (S ws[c.toNat])) (jw_ ha7) (zy_ hc0 (by rw[pm_,pa_ hcl];rfl)) ?_
   have hg:=hws3 _ (pw_ hcl)
   generalize ws[c.toNat]=wd at hg ⊢
   have tw7:=tw6.kept o7.kept hf6 pr.symm pr2.symm
   have k7:Kept p H H7:=k6.trans o7.kept
   have et7:=tw7.c
   have hyt7:=tw7.d
   have hytl:yt.length=told.length:=by have:=hyt7.length;simpa using this
   walk_at "go"
   intro m hm0
   refine yl_ (K:=K) (xs:=yt) (fun j acc σ H'=>∃(v:Option V),σ=[v]/\acc=(told.take j).map (fun x=>V.str (S x.1))/\H' m=some (.lst acc)/\Same H7 H')
    (fun j acc σ H' _ ⟨_,_,_,_,s3⟩=>SqL.of (s3 _ _ et7)) ⟨none,rfl,rfl,jb_,ji_ hm0 _⟩ (fun j acc σ H' ⟨_,_,e,e3,_⟩=>⟨e3,by rw[e,pc_,p2_];omega⟩) (szn (by omega)) ?_ ?_
   ·rintro j acc σ H8 hj ⟨v,rfl,rfl,e8,s8⟩
    have hjl:j < told.length:=by omega
    obtain⟨x',d,hx1,hx2,hx3⟩:=IsL.get hyt7 (i:=j) (by rw[pc_];exact hjl)
    rw[pm_,pa_ hjl] at hx2
    cases hx2
    have hgd:yt.getD j .non=x':=by rw[pe_,hx1];rfl
    rw[hgd]
    obtain⟨pa,nt,rfl,hpa,hnt⟩:=jbk_ hx3
    have hpa8:=s8 _ _ hpa
    walk_at "go"
    refine⟨e8,_,rfl,?_,jb_,fun b' o e=>?_⟩
    ·rw[qb_,pa_ hjl,pi_];rfl
    ·have hbr:b'≠m:=fun z=>by rw[z,hm0] at e;cases e
     rw[jf_ hbr];exact s8 b' o e
   ·rintro acc σ H8 ⟨v,rfl,rfl,e8,s8⟩
    rw[hytl,qc_] at e8
    have tw8:=tw7.same s8
    have e8c:=tw8.c
    have k8:Kept p H H8:=fun b o hb e=>s8 _ _ (k7 b o hb e)
    have hf8:FeedAt H8 p (n+2502+100 * i+1):=by
     obtain⟨a1,b1,c1,g1,g2⟩:=hf7
     exact⟨a1,b1,c1,s8 _ _ g1,g2⟩
    refine i_inR (jw_ e8) ⟨rfl,jqe_ _⟩ ?_
    walk_at "go"
    refine iteB (fun c=>?_) (fun c=>?_)
    ·have hfr:wd∉told.map (·.1):=fun hm=>by
      obtain⟨x,hx,rfl⟩:=qj_.mp hm
      have:inV (.str (S x.1)) (told.map fun x=>V.str (S x.1))=true:=by
       unfold inV
       rw[ki_]
       exact⟨V.str (S x.1),qj_.mpr ⟨x,hx,rfl⟩,by simp[eqV]⟩
      rw[this] at c
      simp at c
     walk_at "go"
     refine⟨p,n+2502+100 * i+1,wd,rfl,hf8,by omega,hg.2.1,hg.2.2,fun t g H9 ht hR hf9 k9 htp=>?_⟩
     have tw9:=tw8.kept k9 hf8 pr.symm pr2.symm
     walk_at "go"
     intro y hy0
     have yr:r2≠y:=jg_ tw9.c hy0
     have e10:(upd H9 y (.tup [.str (S wd),.ref t])) r2=some (.lst yt):=by rw[jf_ yr];exact tw9.c
     have hsz:yt.length < sizeLine:=szn (by omega)
     walk_at "go"
     have up:∀ b o,(upd H9 y (.tup [.str (S wd),.ref t])) b=some o->b≠r2->(upd (upd H9 y (.tup [.str (S wd),.ref t])) r2 (.lst (yt++[.ref y]))) b=some o:=fun b o e hb=>by rw[jf_ hb];exact e
     have sy:=ji_ hy0 (.tup [.str (S wd),.ref t])
     have py:p≠y:=by obtain⟨o,e⟩:=hf9.some;exact jg_ e hy0
     refine⟨_,_,yt++[.ref y],told++[(wd,g.map fun k:Nat=>(k:Int))],rfl,⟨up _ _ (sy _ _ tw9.a) rr2,xp_ up e10 (IsL.same sy tw9.b),jb_,?_⟩,by rw[pd_];show _+1<=_;omega,?_,fun x hx=>?_,?_,fun b o hb e=>?_⟩
     ·rw[pi_]
      refine IsL.append (xp_ up e10 (IsL.same sy tw9.d)) ?_
      have h1:L2.IsL (upd H9 y (.tup [.str (S wd),.ref t])) [.ref y] ([(wd,g.map fun k:Nat=>(k:Int))].map patD):=by
       simp only[pj_,p8_,L2.IsL]
       refine⟨yg_ (x:=(wd,g.map fun k:Nat=>(k:Int))) jb_ ?_,trivial⟩
       have:=sy _ _ ht
       rw[qn_]
       exact this
      exact xp_ up e10 h1
     ·rw[pi_,List.nodup_append]
      refine⟨hnd,by simp,fun x hx y hy=>?_⟩
      have:y=wd:=by simpa using hy
      rw[this]
      exact fun z=>hfr (z▸hx)
     ·rcases p0_.mp hx with h | h
      ·exact hok x h
      ·have:x=(wd,g.map fun k:Nat=>(k:Int)):=by simpa using h
       rw[this];exact⟨hg,g,rfl,hR⟩
     ·obtain⟨a1,b1,c1,g1,g2⟩:=hf9
      exact⟨a1,b1,c1,by rw[jf_ pr2,jf_ py];exact g1,by omega⟩
     ·have hbr:b≠r2:=fun z=>by rw[z,hr2H] at e;cases e
      rw[jf_ hbr];exact sy _ _ (k9 b o hb (k8 b o hb e))
    ·walk_at "go"
     exact⟨_,_,yt,told,rfl,tw8,by omega,hnd,hok,hf8.mono (by omega),k8⟩
  ·rintro σ H6 ⟨v4,v5,yt,told,rfl,tw6,htl,hnd,hok,hf6,k6⟩
   have hf6':FeedAt H6 p (n+3400):=hf6.mono (by omega)
   clear hf6
   walk_at "go"
   intro d3 hd3
   have pd3:p≠d3:=by obtain⟨o,e⟩:=hf6'.some;exact jg_ e hd3
   have sd3:=ji_ hd3 (.lst [.int 1,.int 3,.int 20])
   walk_at "go"
   refine⟨p,3,n+3400,rfl,hf6'.new hd3,by omega,by decide,by decide,fun c1 H7 hb0 hb1 hf7 o7=>?_⟩
   obtain⟨m1,hm2,hm3⟩:=jbn_ (a:=1) (b:=3) (c:=20) hb0 hb1
   refine z1_ (jw_ ((o7 d3 pd3.symm).trans jb_)) hm2 ?_
   have tw7:=(tw6.same sd3).kept o7.kept (hf6'.new hd3) pr.symm pr2.symm
   have k7:Kept p H H7:=(k6.new hd3 _).trans o7.kept
   walk_at "go"
   refine⟨p,m1,n+3401,rfl,hf7,by omega,by omega,by omega,fun hd H8 hc0 hc1 hf8 o8=>?_⟩
   have tw8:=tw7.kept o8.kept hf7 pr.symm pr2.symm
   have k8:Kept p H H8:=k7.trans o8.kept
   walk_at "go"
   intro d4 hd4
   have pd4:p≠d4:=by obtain⟨o,e⟩:=hf8.some;exact jg_ e hd4
   have sd4:=ji_ hd4 (.lst [.int 1,.int 3,.int 20])
   walk_at "go"
   refine⟨p,3,n+3402,rfl,hf8.new hd4,by omega,by decide,by decide,fun c2 H9 hb2 hb3 hf9 o9=>?_⟩
   obtain⟨m2,hm4,hm5⟩:=jbn_ (a:=1) (b:=3) (c:=20) hb2 hb3
   refine z1_ (jw_ ((o9 d4 pd4.symm).trans jb_)) hm4 ?_
   have tw9:=(tw8.same sd4).kept o9.kept (hf8.new hd4) pr.symm pr2.symm
   have k9:Kept p H H9:=(k8.new hd4 _).trans o9.kept
   walk_at "go"
   refine⟨p,m2,n+3403,rfl,hf9,by omega,by omega,by omega,fun tl H10 hc2 hc3 hf10 o10=>?_⟩
   have tw10:=tw9.kept o10.kept hf9 pr.symm pr2.symm
   have k10:Kept p H H10:=k9.trans o10.kept
   walk_at "go"
   intro pa hpa
   have sp:=ji_ hpa (.tup [.ref r,.ref r2,.int (1+hd),.int (1+tl)])
   walk_at "go"
   have tw11:=tw10.same sp
   refine q pa r r2 xs told (1+hd) (1+tl) _ hr0 hr2H ⟨ys,yt,jb_,tw11.a,tw11.b,tw11.c,tw11.d⟩ ⟨fun x hx=>jwj_ (hgp x hx),by omega,by omega,hnd,fun x hx=>(hgp x hx).cs,fun x hx=>jlt_ (hok x hx).1.1,fun x hx=>(hok x hx).2⟩ ((hf10.new hpa).mono (by omega)) (k10.new hpa _)
end
abbrev s_law_names:Stmt:=top 50
theorem sc_law_names:FnScope ["_law_feed_here","_law_letters_here","_law_base","_law_at","_law_first","_law_found","_law_k","_law_sign"] ["_law_feed_here"] (jl_ s_law_names):=by walk_at "f"
theorem jhc_ {α:Type} (l:List α) (lo hi:Option Int):(cutA l lo hi).length<=l.length:=by
 rw[zp_]
 have:=jiu_ l.length l.length (pg_ _) hi
 omega
theorem zac_ {α:Type} {l:List α} {lo hi:Option Int} {c:α} (h:c∈cutA l lo hi):c∈l:=se_ (ta_ h)
def GN (nm:List Nat):Prop:=Low nm/\1<=nm.length/\nm.length<=8
def jhd_:Sp:=fun vs H Q _=>∃(p:Addr) (n:Nat),vs=[.ref p]/\FeedAt H p n/\n+20 < zz_/\∀(r:Addr) (nms:List (List Nat)) (H':Hp),H' r=some (.lst (nms.map fun z=>V.str (S z)))->nms.length=4->(∀ z∈nms,GN z)->FeedAt H' p (n+20)->Kept p H H'->r≠p->Q (.ref r) H'
section
variable {P:Program} {w:World} {K:pb_} {mg:Str->Option Value} {base:Heap} {f:Addr} {fd:FuncData} {tk:Nat->Tok} {cO cO2:Addr} {ad:Nat->Addr}
theorem jhv_ (T:Txt mg tk) (F:Fun K "_law_names" "_law_names" s_law_names f fd) (D_law_next:Dn P w K mg base "_law_next" 1 ["_law_feed_here","_law_many"] yo_):FnOk P w K mg base CX0 2 f fd ["_law_feed_here"] jhd_:=by
 refine F.ok sc_law_names (fun vs H Q E h=>?_) (fun cdv A outer s H vs Q E hr h=>?_)
 ·obtain⟨p,n,rfl,_⟩:=h
  rfl
 obtain⟨p,n,rfl,hf,hn,q⟩:=h
 have nd:=sc_law_names.nd
 refine⟨_,(je_ (jk_ (i:=1) nd rfl (Or.inr rfl) j1_)
  (je_ (jk_ (i:=2) nd rfl (Or.inr rfl) (zn_ (K:=K) qk_ sz_ s0_ jgw_ j1_ (ja_ (zu_ ["_law_letters_here","_law_feed_here","_law_k"] [some 1,some 0,none] rfl (by kernel_rfl) rfl (z0_ rfl T.z_range (ja_ jd_ jc_)) (fun _ _ _ _=>(jm_ (i:=2) (show (["_law_letters_here","_law_feed_here","_law_k"]:List Str).Nodup by decide +kernel) rfl (Or.inl rfl) (Or.inr rfl))) (fun _ _ _ _=>xg_) (fun _ _ _ _=>(jt_ (jo_ (K:=K)) (pv 0) (jj_ D_law_next hr.mo_ rfl (ja_ (pv 1) (ja_ jd_ jc_))) (fun _ _=>rfl)))) jc_)))
  (je_ (ze_ (jq_ (o_eq hr.units) (jj_ D_law_next hr.mo_ rfl (ja_ (pv 0) (ja_ jd_ jc_))) jd_ (jv_ _))
   (jh_ (jr_ (zu_ ["_law_base","_law_k"] [some 2,none] rfl (by kernel_rfl) rfl (zt_ (K:=K) (j5_ (ja_ jd_ (ja_ jd_ (ja_ jd_ (ja_ jd_ jc_)))))) (fun _ _ _ _=>(jm_ (i:=1) (show (["_law_base","_law_k"]:List Str).Nodup by decide +kernel) rfl (Or.inl rfl) (Or.inr rfl))) (fun _ _ _ _=>xg_) (fun _ _ _ _=>(j0_ (zc_ (K:=K)) (pv 0) zj_ (jz_ (pv 1)))))))
   j2_)
  (je_ (jk_ (i:=3) nd rfl (Or.inl rfl) (jj_ D_law_next hr.mo_ rfl (ja_ (pv 0) (ja_ jd_ jc_))))
  (je_ (jk_ (i:=4) nd rfl (Or.inl rfl) (jj_ D_law_next hr.mo_ rfl (ja_ (pv 0) (ja_ jd_ jc_))))
  (je_ (jk_ (i:=5) nd rfl (Or.inl rfl) (j5_ jc_))
  (je_ (zm_ p6_ rfl (z0_ rfl T.z_range (ja_ jd_ jc_)) (jm_ (i:=6) nd rfl (Or.inl rfl))
   (je_ (jk_ (i:=7) nd rfl (Or.inl rfl) (jt_ (jo_ (K:=K)) (pv 1) (jn_ vq_ (jn_ jx_ (pv 4) (jn_ ux_ jd_ (pv 6))) jd_) (fun _ _=>rfl)))
  (jh_ (zq_ (zn_ (K:=K) p7_ p9_ qa_ zh_ (pv 5) (ja_ (jn_ jx_ (jn_ jx_ (j0_ (zc_ (K:=K)) (pv 2) zj_ (jz_ (pv 3))) (pv 7)) (j0_ (zc_ (K:=K)) (pv 2) (jz_ (jn_ jx_ (pv 3) jd_)) (jz_ (jn_ vl_ jd_ (pv 6))))) jc_))))))
  (jh_ (jr_ (pv 5)))))))))),?_⟩
 rw[show L2.start ["_law_feed_here","_law_letters_here","_law_base","_law_at","_law_first","_law_found","_law_k","_law_sign"] [.ref p]=[some (.ref p),none,none,none,none,none,none,none] from rfl]
 rw[jub_,x1_]
 have hl26:LETL.length=26:=rfl
 walk_at "go"
 intro r hr0
 have pr:p≠r:=by obtain⟨o,e⟩:=hf.some;exact jg_ e hr0
 have k1:Kept p H (upd H r (.lst [])):=(Kept.refl p H).new hr0 _
 refine x8_ (fun i acc σ H'=>∃(v:Option V) (ws:List Nat),σ=[some (.str (S LETL)),some (.ref p),v]/\acc=(ws.map fun c=>V.str (S [c]))/\ws.length=i/\Low ws/\FeedAt H' p (n+i)/\Kept p H H'/\H' r=some (.lst acc))
  ⟨none,[],rfl,rfl,rfl,(fun c hc=>nomatch hc),hf.new hr0,k1,jb_⟩ (fun i acc σ H' ⟨_,ws,_,e,e1,_,_,_,e2⟩=>⟨e2,by rw[e,pc_];omega⟩) (szn (by omega)) ?_ ?_
 ·rintro i acc σ H' hi ⟨v,ws,rfl,rfl,hw1,hw2,hf2,k2,e2⟩
  have hll:(S LETL).length<=sizeLine:=szn (by rw[js_];decide)
  walk_at "go"
  refine⟨p,_,n+i,rfl,hf2,by omega,by omega,by omega,fun c H3 hc0 hc1 hf3 o3=>?_⟩
  have hcl:c.toNat < LETL.length:=by rw[hl26];omega
  refine jrb_ (c:=LETL[c.toNat]) hll (zy_ hc0 (by rw[jyn_];simp[hcl])) ?_
  have e3:H3 r=some (.lst (ws.map fun c=>V.str (S [c]))):=(o3 r pr.symm).trans e2
  refine⟨e3,_,ws++[LETL[c.toNat]],rfl,by rw[pi_];rfl,by rw[pd_,hw1];rfl,xu_ hw2 (fun x hx=>?_),?_,?_,jb_⟩
  ·have:x=LETL[c.toNat]:=by simpa using hx
   rw[this]
   exact uw_ _ (pw_ _)
  ·obtain⟨a1,b1,c1,g1,g2⟩:=hf3
   exact⟨a1,b1,c1,by rw[jf_ pr];exact g1,by omega⟩
  ·intro b o hb e
   have hbr:b≠r:=fun z=>by rw[z,hr0] at e;cases e
   rw[jf_ hbr]
   exact(o3 b hb).trans (k2 b o hb e)
 ·rintro acc σ H1 ⟨v,bs,rfl,rfl,hb1,hb2,hf1,kk1,e1⟩
  have hb8:bs.length=8:=by omega
  have hf1:FeedAt H1 p (n+8):=hf1.mono (by omega)
  walk_at "go"
  have hs:=joi_ bs
  refine jmh_ (ys:=bs.map fun c=>S [c]) (by rw[<- jmy_];exact x5_ e1) ?_ ?_
  ·rw[hs,pc_,js_]
   simp only[p1_,l3_]
   omega
  rw[jce_]
  walk_at "go"
  refine⟨p,2,n+8,rfl,hf1,by omega,by decide,by decide,fun d H2 hd0 hd1 hf2 o2=>?_⟩
  have k2:=kk1.trans o2.kept
  have cutOk:∀ k:Int,1<=k->k<=8->GN (cutA bs none (some k)):=fun k h1 h2=>by
   have hc:=zp_ bs none (some k)
   have e1:sx bs.length 0 none=0:=rfl
   have e2:sx bs.length bs.length (some k)=min k.toNat bs.length:=by simp only[sx];rw[if_neg (by omega)]
   rw[e1,e2] at hc
   exact⟨ul_ hb2 _ _,by omega,by omega⟩
  walk_at "go"
  refine iteD (fun cc=>?_) (fun cc=>?_)
  ·walk_at "go"
   intro l1 hl1
   have p1:p≠l1:=by obtain⟨o,e⟩:=hf2.some;exact jg_ e hl1
   have s1:=ji_ hl1 (.lst [.int 1,.int 2,.int 8,.int 5])
   have el1:=jb_ (H:=H2) (a:=l1) (o:=.lst [.int 1,.int 2,.int 8,.int 5])
   have k3:=k2.new hl1 (.lst [.int 1,.int 2,.int 8,.int 5])
   have hf3:FeedAt (upd H2 l1 (.lst [.int 1,.int 2,.int 8,.int 5])) p (n+8+1):=hf2.new hl1
   generalize upd H2 l1 (.lst [.int 1,.int 2,.int 8,.int 5])=H3 at s1 el1 k3 hf3 ⊢
   walk_at "go"
   intro m hm0
   have pm:p≠m:=by obtain⟨o,e⟩:=hf3.some;exact jg_ e hm0
   refine yl_ (K:=K) (xs:=[V.int 1,.int 2,.int 8,.int 5]) (fun j acc σ H'=>∃(v:Option V) (zs:List (List Nat)),σ=[some (.str (S bs)),v]/\acc=zs.map (fun z=>V.str (S z))/\zs.length=j/\(∀ z∈zs,GN z)/\H' m=some (.lst acc)/\Same H3 H')
    (fun j acc σ H' _ ⟨_,_,_,_,_,_,_,s3⟩=>SqL.of (s3 _ _ el1)) ⟨none,[],rfl,rfl,rfl,(fun z hz=>nomatch hz),jb_,ji_ hm0 _⟩ (fun j acc σ H' ⟨_,_,_,e,e0,_,e3,_⟩=>⟨e3,by rw[e,pc_];omega⟩) (szn (by decide)) ?_ ?_
   ·rintro j acc σ H4 hj ⟨v,zs,rfl,rfl,hz1,hz2,e4,s4⟩
    have hj4:j < 4:=hj
    obtain⟨k,hk,hk1,hk2⟩:∃ k:Int,([V.int 1,.int 2,.int 8,.int 5]:List V).getD j .non=.int k/\1<=k/\k<=8:=by
     match j,hj4 with
     | 0,_=>exact⟨1,rfl,by decide,by decide⟩
     | 1,_=>exact⟨2,rfl,by decide,by decide⟩
     | 2,_=>exact⟨8,rfl,by decide,by decide⟩
     | 3,_=>exact⟨5,rfl,by decide,by decide⟩
    rw[hk]
    walk_at "go"
    refine⟨e4,_,zs++[cutA bs none (some k)],rfl,by rw[pi_];rfl,by rw[pd_,hz1];rfl,fun z hz=>?_,jb_,fun b o e=>?_⟩
    ·rcases p0_.mp hz with h | h
     ·exact hz2 z h
     ·have:z=cutA bs none (some k):=by simpa using h
      rw[this];exact cutOk k hk1 hk2
    ·have hbr:b≠m:=fun z=>by rw[z,hm0] at e;cases e
     rw[jf_ hbr];exact s4 b o e
   ·rintro acc σ H4 ⟨v,zs,rfl,rfl,hz1,hz2,e4,s4⟩
    walk_at "go"
    exact q m zs H4 e4 (by simpa using hz1) hz2 ((FeedAt.same hf3 s4).mono (by omega)) (k3.same s4) pm.symm
  ·walk_at "go"
   refine⟨p,8,n+8+1,rfl,hf2,by omega,by decide,by decide,fun at_ H3 ha0 ha1 hf3 o3=>?_⟩
   walk_at "go"
   refine⟨p,26,n+8+1+1,rfl,hf3,by omega,by decide,by decide,fun fi H4 hi0 hi1 hf4 o4=>?_⟩
   have k4:=(k2.trans o3.kept).trans o4.kept
   walk_at "go"
   intro m hm0
   have pm:p≠m:=by obtain⟨o,e⟩:=hf4.some;exact jg_ e hm0
   have s5:=ji_ hm0 (.lst [])
   have em:=jb_ (H:=H4) (a:=m) (o:=.lst [])
   generalize upd H4 m (.lst [])=H5 at s5 em ⊢
   walk_at "go"
   refine z9_ (fun i σ H'=>∃(v5 v6:Option V) (zs:List (List Nat)),σ=[some (.ref p),some (.str (S LETL)),some (.str (S bs)),some (.int at_),some (.int fi),some (.ref m),v5,v6]/\zs.length=i/\(∀ z∈zs,GN z)/\H' m=some (.lst (zs.map fun z=>V.str (S z)))/\Same H4 H')
    ⟨none,none,[],rfl,rfl,(fun z hz=>nomatch hz),em,s5⟩ ?_ ?_
   ·rintro i σ H6 hi ⟨v5,v6,zs,rfl,hz1,hz2,e6,s6⟩
    have hi4:i < 4:=by omega
    walk_at "go"
    have hm0':0<=(fi+5 * (0+(i:Int))) % 26:=s2_ _ (by decide)
    have hm1':(fi+5 * (0+(i:Int))) % 26 < 26:=su_ _ (by decide)
    have hcl:((fi+5 * (0+(i:Int))) % 26).toNat < LETL.length:=by rw[hl26];omega
    refine jev_ (l:=LETL) (c:=LETL[((fi+5 * (0+(i:Int))) % 26).toNat]) (by decide) (zy_ hm0' (pa_ hcl)) ?_
    have hlow:=uw_ _ (pw_ hcl)
    generalize LETL[((fi+5 * (0+(i:Int))) % 26).toNat]=c at hlow ⊢
    have hc1:=jhc_ bs none (some at_)
    have hc2:=jhc_ bs (some (at_+1)) (some (8 - (0+(i:Int))))
    walk_at "go"
    try refine xk_ (by simp only[pr_,p1_];omega) ?_
    walk_at "go"
    try refine xk_ (by simp only[pd_,pr_,p1_];omega) ?_
    have hsz:(zs.map fun z=>V.str (S z)).length < sizeLine:=szn (by rw[pc_];omega)
    walk_at "go"
    refine⟨_,_,zs++[cutA bs none (some at_)++[c]++cutA bs (some (at_+1)) (some (8 - (0+(i:Int))))],rfl,by rw[pd_,hz1];rfl,fun z hz=>?_,by rw[pi_];exact jb_,fun b o e=>?_⟩
    ·rcases p0_.mp hz with h | h
     ·exact hz2 z h
     ·have:z=cutA bs none (some at_)++[c]++cutA bs (some (at_+1)) (some (8 - (0+(i:Int)))):=by simpa using h
      rw[this]
      have g1:=zp_ bs none (some at_)
      have g2:=zp_ bs (some (at_+1)) (some (8 - (0+(i:Int))))
      have e1:sx bs.length 0 none=0:=rfl
      have e2:sx bs.length bs.length (some at_)=min at_.toNat bs.length:=by simp only[sx];rw[if_neg (by omega)]
      have e3:sx bs.length bs.length (some (8 - (0+(i:Int))))=min (8 - (0+(i:Int))).toNat bs.length:=by simp only[sx];rw[if_neg (by omega)]
      have e4:sx bs.length 0 (some (at_+1))=min (at_+1).toNat bs.length:=by simp only[sx];rw[if_neg (by omega)]
      rw[e1,e2] at g1
      rw[e3,e4] at g2
      refine⟨xu_ (xu_ (ul_ hb2 _ _) (fun d hd=>?_)) (ul_ hb2 _ _),?_,?_⟩
      ·have:d=c:=by simpa using hd
       rw[this];exact hlow
      ·simp only[pd_,pr_,p1_];omega
      ·simp only[pd_,pr_,p1_];omega
    ·have hbr:b≠m:=fun z=>by rw[z,hm0] at e;cases e
     rw[jf_ hbr];exact s6 b o e
   ·rintro σ H6 ⟨v5,v6,zs,rfl,hz1,hz2,e6,s6⟩
    walk_at "go"
    exact q m zs H6 e6 (by simpa using hz1) hz2 ((FeedAt.same hf4 s6).mono (by omega)) (k4.same s6) pm.symm
end
abbrev s_law_some:Stmt:=top 52
theorem sc_law_some:FnScope ["_law_feed_here","_law_letters_here","_law_words","_law_some_here","_law_name"] ["_law_feed_here","_law_letters_here","_law_words"] (jl_ s_law_some):=by walk_at "f"
abbrev s_law_made:Stmt:=top 51
theorem sc_law_made:FnScope ["_law_some_here","_law_tongues","_law_name","_law_parts_here"] ["_law_some_here"] (jl_ s_law_made):=by walk_at "f"
abbrev s_law_things:Stmt:=top 53
theorem sc_law_things:FnScope ["_law_feed_here","_law_some_here","_law_words","_law_letters_here","_law_names_here","_law_things_here","_law_k","_law_way","_law_word_here"] ["_law_feed_here","_law_some_here","_law_words","_law_letters_here"] (jl_ s_law_things):=by walk_at "f"
abbrev s_law_pieces:Stmt:=top 54
theorem sc_law_pieces:FnScope ["_law_some_here","_law_things_here","_law_found","_law_name","_law_place","_law_thing","_law_word_here","_law_mark"] ["_law_some_here","_law_things_here"] (jl_ s_law_pieces):=by walk_at "f"
abbrev s_law_right:Stmt:=top 61
theorem sc_law_right:FnScope ["_law_tongues","_law_some_here","_law_things_here","_law_width_here","_law_words_here","_law_due","_law_told"] ["_law_tongues","_law_some_here","_law_things_here","_law_width_here"] (jl_ s_law_right):=by walk_at "f"
theorem jqh_ {X:Cx} {k:Nat} {C:Addr} {ps:List Str} {sp:Sp} {x:Str} {p pos:Pos} (D:Dk X.prog X.w X.K X.mg X.base C k ps sp) (hr:Room (k+1) X.A) (hg:Gl X x) (hm:X.mg x=some (.ref C))
  (hdb:(x == ("__debug__":Str))=false:=by decide):PE X (.Call (.Name x p) [] [] pos) (jiy_ C sp [] E0 tNil):=by
 obtain⟨f,fd,h1,h2,h3⟩:=D.ex
 exact jrh_ h1 h3 hr hg hm h2 .nil jig_ hdb
theorem GN.nm {nm:List Nat} (h:GN nm):isNm nm=true:=by
 unfold isNm xl_
 rw[decide_eq_true (by have:=h.2.1;omega),decide_eq_true h.2.2,so_,ls_,r5_]
 exact h.1
def Ndk (H H':Hp):Prop:=∀ b o,(∀ kk,o≠.dK kk)->H b=some o->H' b=some o
theorem PartsAt.ndk {H H':Hp} {pa:Addr} {pats told:List Pat} {hd tl:Int} (s:Ndk H H') (h:PartsAt H pa pats told hd tl):PartsAt H' pa pats told hd tl:=by
 obtain⟨pl,tdl,yp,yt,a1,a2,a3,a4,a5⟩:=h
 have tks:∀ b zs,H b=some (.tup zs)->H' b=some (.tup zs):=fun b zs e=>s b _ (fun kk z=>nomatch z) e
 exact⟨pl,tdl,yp,yt,tks _ _ a1,s _ _ (fun kk z=>nomatch z) a2,xt_ tks a3,s _ _ (fun kk z=>nomatch z) a4,xt_ tks a5⟩
def PR (H:Hp):List (Key×V)->List (List Nat×Bp)->Prop
 | [],[]=>True
 | kw::kws,m::ms=>kw.1=Sum.inr (S m.1)/\(∃ pa,kw.2=.ref pa/\PartsAt H pa m.2.pats m.2.told m.2.hd m.2.tl)/\OkB m.2.pats m.2.told/\PR H kws ms
 | _,_=>False
theorem PR.ind {H:Hp} {M:List (Key×V)->List (List Nat×Bp)->Prop} (h0:M [] []) (h1:∀ kw kws m ms,kw.1=Sum.inr (S m.1)->(∃ pa,kw.2=.ref pa/\PartsAt H pa m.2.pats m.2.told m.2.hd m.2.tl)->OkB m.2.pats m.2.told->PR H kws ms->M kws ms->M (kw::kws) (m::ms)) :
  ∀{kws:List (Key×V)} {ms:List (List Nat×Bp)},PR H kws ms->M kws ms
 | [],[],_=>h0
 | [],_::_,h=>h.elim
 | _::_,[],h=>h.elim
 | kw::kws,m::ms,h=>h1 kw kws m ms h.1 h.2.1 h.2.2.1 h.2.2.2 (PR.ind h0 h1 h.2.2.2)
theorem PR.ndk {H H':Hp} (s:Ndk H H') {kws:List (Key×V)} {ms:List (List Nat×Bp)} (h:PR H kws ms):PR H' kws ms :=
 PR.ind (M:=fun kws ms=>PR H' kws ms) trivial (fun _ _ _ _ a ⟨pa,d1,d2⟩ e _ ih=>⟨a,⟨pa,d1,d2.ndk s⟩,e,ih⟩) h
theorem Same.ndk {H H':Hp} (s:Same H H'):Ndk H H':=fun b o _ e=>s b o e
theorem PR.same {H H':Hp} (s:Same H H') {kws:List (Key×V)} {ms:List (List Nat×Bp)} (h:PR H kws ms):PR H' kws ms:=h.ndk (Same.ndk s)
theorem TR.pr {C:Addr} {H:Hp} {kvs kws:List (Key×V)} {ms:List (List Nat×Bp)} (h:TR C H kvs kws ms):PR H kws ms :=
 TR.ind (M:=fun _ kws ms=>PR H kws ms) trivial (fun _ _ _ _ _ _ _ b _ d e _ ih=>⟨b,d,e,ih⟩) h
theorem PR.keys {H:Hp} {kws:List (Key×V)} {ms:List (List Nat×Bp)} (h:PR H kws ms):kws.map (·.1)=(ms.map fun m=>S m.1).map Sum.inr :=
 PR.ind (M:=fun kws ms=>kws.map (·.1)=(ms.map fun m=>S m.1).map Sum.inr) rfl (fun _ _ _ _ a _ _ _ ih=>by
  simp only[pj_]
  rw[ih,a]) h
theorem PR.len {H:Hp} {kws:List (Key×V)} {ms:List (List Nat×Bp)} (h:PR H kws ms):kws.length=ms.length:=by
 have a:=congrArg sm_ h.keys
 simpa only [pc_] using a
theorem PR.get {H:Hp} {kws:List (Key×V)} {ms:List (List Nat×Bp)} (h:PR H kws ms):∀(i:Nat) (kw:Key×V),kws[i]?=some kw->∃ m,ms[i]?=some m/\kw.1=Sum.inr (S m.1)/\(∃ pa,kw.2=.ref pa/\PartsAt H pa m.2.pats m.2.told m.2.hd m.2.tl)/\OkB m.2.pats m.2.told:=by
 refine PR.ind (M:=fun kws ms=>∀(i:Nat) (kw:Key×V),kws[i]?=some kw->∃ m,ms[i]?=some m/\kw.1=Sum.inr (S m.1)/\(∃ pa,kw.2=.ref pa/\PartsAt H pa m.2.pats m.2.told m.2.hd m.2.tl)/\OkB m.2.pats m.2.told) (fun i kw e=>by simp at e) ?_ h
 intro kw kws m ms a b c _ ih i kw' e
 cases i with
 | zero =>
  have e:kw=kw':=by simpa using e
  subst e
  exact⟨m,rfl,a,b,c⟩
 | succ i =>
  obtain⟨m',h1,h2⟩:=ih i kw' (by simpa using e)
  exact⟨m',by simpa using h1,h2⟩
theorem PR.look {H:Hp} (z:List Nat) {kws:List (Key×V)} {ms:List (List Nat×Bp)} (h:PR H kws ms):∀ b,zw_ ms z=some b->∃ pa:Addr,valV kws (Sum.inr (S z))=some (.ref pa)/\PartsAt H pa b.pats b.told b.hd b.tl/\OkB b.pats b.told:=by
 refine PR.ind (M:=fun kws ms=>∀ b,zw_ ms z=some b->∃ pa:Addr,valV kws (Sum.inr (S z))=some (.ref pa)/\PartsAt H pa b.pats b.told b.hd b.tl/\OkB b.pats b.told) (fun b e=>by cases e) ?_ h
 rintro kw kws m ms b ⟨pa,d1,d2⟩ e _ ih b' hb
 by_cases hz:m.1=z
 ·have e1:zw_ (m::ms) z=some m.2:=by unfold zw_;rw[qq_,decide_eq_true hz];rfl
  rw[e1] at hb
  cases hb
  exact⟨pa,by rw[zd_ (by rw[b,hz]),d1],d2,e⟩
 ·have e1:zw_ (m::ms) z=zw_ ms z:=by unfold zw_;rw[qq_,decide_eq_false hz]
  rw[e1] at hb
  rw[zk_ fun q=>hz (x6_ (b.symm.trans q))]
  exact ih b' hb
theorem PR.any {H:Hp} (z:List Nat) {kws:List (Key×V)} {ms:List (List Nat×Bp)} (h:PR H kws ms):(kws.any fun kv=>decide (kv.1=(Sum.inr (S z):Key)))=(ms.any fun m=>decide (m.1=z)):=by
 refine PR.ind (M:=fun kws ms=>(kws.any fun kv=>decide (kv.1=(Sum.inr (S z):Key)))=(ms.any fun m=>decide (m.1=z))) rfl ?_ h
 intro kw kws m ms b _ _ _ ih
 rw[qv_,qv_,ih,b]
 congr 1
 by_cases e:m.1=z
 ·rw[decide_eq_true e,decide_eq_true (by rw[e])]
 ·rw[decide_eq_false e,decide_eq_false fun q=>e (x6_ q)]
theorem PR.append {H:Hp} {kws kws':List (Key×V)} {ms ms':List (List Nat×Bp)} (h:PR H kws ms) (h':PR H kws' ms'):PR H (kws++kws') (ms++ms') :=
 PR.ind (M:=fun kws ms=>PR H (kws++kws') (ms++ms')) h' (fun _ _ _ _ b d e _ ih=>⟨b,d,e,ih⟩) h
theorem PR.put {H:Hp} {z:List Nat} {pa:Addr} {b:Bp} {kws:List (Key×V)} {ms:List (List Nat×Bp)} (h:PR H kws ms) (hP:PartsAt H pa b.pats b.told b.hd b.tl) (hO:OkB b.pats b.told):PR H (putK kws (Sum.inr (S z)) (.ref pa)) (putM ms z b):=by
 unfold putK putM
 rw[h.any z]
 by_cases c:(ms.any fun m=>decide (m.1=z))=true
 ·rw[if_pos c,if_pos c]
  refine PR.ind (M:=fun kws ms=>PR H (kws.map fun kv=>if kv.1=(Sum.inr (S z):Key) then (kv.1,.ref pa) else kv) (ms.map fun m=>if m.1=z then (m.1,b) else m)) trivial ?_ h
  intro kw kws m ms b' d e _ ih
  simp only[pj_]
  by_cases hz:m.1=z
  ·rw[if_pos (by rw[b',hz]),if_pos hz]
   exact⟨b',⟨pa,rfl,hP⟩,hO,ih⟩
  ·rw[if_neg (by rw[b'];exact fun q=>hz (x6_ q)),if_neg hz]
   exact⟨b',d,e,ih⟩
 ·rw[if_neg c,if_neg c]
  exact h.append ⟨rfl,⟨pa,rfl,hP⟩,hO,trivial⟩
theorem jlk_ {ms:List (List Nat×Bp)} {z:List Nat} {b:Bp} {M:List Nat->Prop} (h:∀ m∈ms,M m.1) (hz:M z):∀ m∈putM ms z b,M m.1:=fun m hm=>by
 unfold putM at hm
 split at hm
 ·obtain⟨m',h1,rfl⟩:=qj_.mp hm
  split
  ·exact h m' h1
  ·exact h m' h1
 ·rcases p0_.mp hm with h1 | h1
  ·exact h m h1
  ·have:m=(z,b):=by simpa using h1
   rw[this];exact hz
theorem jxp_ {ms:List (List Nat×Bp)} {z:List Nat} {b:Bp} (h:(ms.map (·.1)).Nodup):((putM ms z b).map (·.1)).Nodup:=by
 unfold putM
 split
 ·have e:(ms.map fun m=>if m.1=z then (m.1,b) else m).map (·.1)=ms.map (·.1):=by
   rw[qn_]
   apply rz_
   intro m _
   simp only[lu_]
   split <;> rfl
  rw[e];exact h
 ·rename_i c
  rw[pi_,List.nodup_append]
  refine⟨h,by simp,fun x hx y hy=>?_⟩
  have:y=z:=by simpa using hy
  rw[this]
  intro e
  obtain⟨m,hm,rfl⟩:=qj_.mp hx
  exact c (ki_.mpr ⟨m,hm,by simpa using e⟩)
theorem jpz_ (ms:List (List Nat×Bp)) (z:List Nat) (b:Bp):1<=(putM ms z b).length:=by
 unfold putM
 split
 ·rename_i c
  obtain⟨m,hm,_⟩:=ki_.mp c
  rw[pc_]
  exact List.length_pos_of_mem hm
 ·rw[pd_];simp
theorem jqw_ {ms:List (List Nat×Bp)} {m:List Nat×Bp} (h:m∈ms):zw_ ms m.1≠none:=by
 unfold zw_
 intro e
 have:=Option.map_eq_none_iff.mp e
 exact tr_.mp this m h (by simp)
def jkp_:Sp:=fun vs H Q _=>∃(p:Addr) (n:Nat) (l:List Nat) (wa:Addr) (ws:List (List Nat)),vs=[.ref p,.str (S l),.ref wa]/\FeedAt H p n/\n+30000 < zz_/\Low l/\1<=l.length/\l.length<=26/\H wa=some (.lst (ws.map fun w=>V.str (S w)))/\ws.length=6/\(∀ w∈ws,GW w)/\wa≠p /\
 ∀(sd:Addr) (kws:List (Key×V)) (ms:List (List Nat×Bp)) (H':Hp),H sd=none->sd≠p->H' sd=some (.dK kws)->PR (offH H' [p,sd]) kws ms->(ms.map (·.1)).Nodup->1<=ms.length->ms.length<=10->(∀ m∈ms,GN m.1)->FeedAt H' p (n+30000)->Kept p H H'->Q (.ref sd) H'
def jgv_ (C CT:Addr):Sp:=fun vs H Q _=>∃(sd:Addr) (kws:List (Key×V)) (ms:List (List Nat×Bp)) (D:List Addr),vs=[.ref sd]/\H sd=some (.dK kws)/\sd∈D/\(∀ b∈D,∃ o,H b=some o/\∀ zs,o≠.tup zs)/\PR (offH H D) kws ms/\(ms.map (·.1)).Nodup/\ms.length<=100 /\
 ∀(tp td:Addr) (kvs:List (Key×V)) (H':Hp),H tp=none->H td=none->TgAt CT H' tp td kvs->TR C (offH H' (td::D)) kvs kws ms->Same H H'->Q (.ref tp) H'
def jee_:Sp:=fun vs H Q _=>∃(p sd wa:Addr) (n:Nat) (l:List Nat) (ws:List (List Nat)) (kws:List (Key×V)) (ms:List (List Nat×Bp)),vs=[.ref p,.ref sd,.ref wa,.str (S l)]/\FeedAt H p n/\n+5000 < zz_/\Low l/\1<=l.length/\l.length<=26/\H wa=some (.lst (ws.map fun w=>V.str (S w)))/\ws.length=6/\(∀ w∈ws,GW w)/\wa≠p/\H sd=some (.dK kws)/\kws.map (·.1)=(ms.map fun m=>S m.1).map Sum.inr/\1<=ms.length/\ms.length<=100/\(∀ m∈ms,GN m.1) /\
 ∀(r:Addr) (ls:List (List Nat)) (H':Hp),H r=none->r≠p->H' r=some (.lst (ls.map fun l=>V.str (S l)))->ls.length<=100->TxOk ms ls->FeedAt H' p (n+5000)->Kept p H H'->Q (.ref r) H'
def jac_:Sp:=fun vs H Q _=>∃(sd a:Addr) (kws:List (Key×V)) (ms:List (List Nat×Bp)) (ls:List (List Nat)),vs=[.ref sd,.ref a]/\H sd=some (.dK kws)/\PR H kws ms/\H a=some (.lst (ls.map fun l=>V.str (S l)))/\ls.length<=1000/\TxOk ms ls /\
 ∀(r:Addr) (xs:List V) (H':Hp),H r=none->H' r=some (.lst xs)->L2.IsL H' xs (prun ms ls).ds->Same H H'->Q (.ref r) H'
def MKL:List Nat:=[44,46,59,58,33,63]
theorem jop_:qd_ ",.;:!?"=S MKL:=by decide +kernel
theorem jez_ (c:Nat):sx_ (S MKL) (S [c])=z3_ c:=by
 rw[jku_]
 show decide (c∈MKL)=MKL.contains c
 first | exact(List.elem_eq_mem _ _).symm | simp
theorem jnv_ {κ:Type} [DecidableEq κ]:∀{kws:List (κ×V)} {i:Nat} {kw:κ×V},(kws.map (·.1)).Nodup->kws[i]?=some kw->valV kws kw.1=some kw.2
 | [],_,_,_,h=>by simp at h
 | k::kws,0,kw,_,h=>by
  have h:k=kw:=by simpa using h
  subst h
  exact zd_ rfl
 | k::kws,i+1,kw,hn,h=>by
  have h:kws[i]?=some kw:=by simpa using h
  have hn2:=tn_.mp hn
  rw[zk_ fun e=>hn2.1 (by show k.1∈kws.map (·.1);rw[e];exact qj_.mpr ⟨kw,qs_ h,rfl⟩)]
  exact jnv_ hn2.2 h
section
variable {P:Program} {w:World} {K:pb_} {mg:Str->Option Value} {base:Heap} {f:Addr} {fd:FuncData} {tk:Nat->Tok} {cO cO2 mkT:Addr}
theorem jje_ (T:Txt mg tk) (F:Fun K "_law_some" "_law_some" s_law_some f fd) (D_law_names:Dn P w K mg base "_law_names" 2 ["_law_feed_here"] jhd_) (D_law_next:Dn P w K mg base "_law_next" 1 ["_law_feed_here","_law_many"] yo_) (D_law_parts:Dn P w K mg base "_law_parts" 4 ["_law_feed_here","_law_letters_here","_law_words"] jhx_):FnOk P w K mg base CX0 5 f fd ["_law_feed_here","_law_letters_here","_law_words"] jkp_:=by
 refine F.ok sc_law_some (fun vs H Q E h=>?_) (fun cdv A outer s H vs Q E hr h=>?_)
 ·obtain⟨p,n,l,wa,ws,rfl,_⟩:=h
  rfl
 obtain⟨p,n,l,wa,ws,rfl,hf,hn,hl,hl1,hl2,hwa,hws,hgw,hwp,q⟩:=h
 have nd:=sc_law_some.nd
 refine⟨_,(je_ (jk_ (i:=3) nd rfl (Or.inl rfl) jcy_)
  (je_ (zm_ p6_ rfl (zt_ (K:=K) (j0_ (zc_ (K:=K)) (jj_ D_law_names hr.mo_ rfl (ja_ (pv 0) jc_)) zj_ (jz_ (jn_ jx_ jd_ (jj_ D_law_next hr.mo_ rfl (ja_ (pv 0) (ja_ jd_ jc_))))))) (jm_ (i:=4) nd rfl (Or.inl rfl))
   (jh_ (jcd_ (xa_ hr) (pv 3) (pv 4) (jj_ D_law_parts hr.mo_ rfl (ja_ (pv 0) (ja_ (pv 1) (ja_ (pv 2) jc_)))) rfl)))
  (jh_ (jr_ (pv 3))))),?_⟩
 rw[show L2.start ["_law_feed_here","_law_letters_here","_law_words","_law_some_here","_law_name"] [.ref p,.str (S l),.ref wa]=[some (.ref p),some (.str (S l)),some (.ref wa),none,none] from rfl]
 walk_at "go"
 refine jho_ fun sd hsd=>?_
 have psd:p≠sd:=by obtain⟨o,e⟩:=hf.some;exact jg_ e hsd
 have k1:Kept p H (upd H sd (.dK [])):=(Kept.refl p H).new hsd _
 have esd:=jb_ (H:=H) (a:=sd) (o:=.dK [])
 have hf1:FeedAt (upd H sd (.dK [])) p n:=hf.new hsd
 generalize upd H sd (.dK [])=H1 at k1 esd hf1 ⊢
 walk_at "go"
 refine⟨p,n,rfl,hf1,by omega,fun na nms H2 ena hnl hnms hf2 k2 hnp=>?_⟩
 have esd2:=k2 _ _ psd.symm esd
 walk_at "go"
 refine⟨p,3,n+20,rfl,hf2,by omega,by decide,by decide,fun d H3 hd0 hd1 hf3 o3=>?_⟩
 have ena3:H3 na=_:=(o3 na hnp).trans ena
 walk_at "go"
 refine jtq_ (SqL.of ena3) fun sl hsl=>?_
 obtain⟨zs,hzs,hzl1,hzl2,hzg⟩:∃ zs:List (List Nat),cutV (nms.map fun z=>V.str (S z)) none (some (1+d))=zs.map (fun z=>V.str (S z))/\1<=zs.length/\zs.length<=4/\∀ z∈zs,GN z:=by
  refine⟨cutA nms none (some (1+d)),by rw[jhy_,jdq_],?_,?_,fun z hz=>hnms z (zac_ hz)⟩
  ·have hc:=zp_ nms none (some (1+d))
   have e1:sx nms.length 0 none=0:=rfl
   have e2:sx nms.length nms.length (some (1+d))=min (1+d).toNat nms.length:=by simp only[sx];rw[if_neg (by omega)]
   rw[e1,e2] at hc
   omega
  ·have:=jhc_ nms none (some (1+d))
   omega
 rw[hzs]
 have k3:=((k1.trans k2).trans o3.kept).new hsl (.lst (zs.map fun z=>V.str (S z)))
 have esl:=jb_ (H:=H3) (a:=sl) (o:=.lst (zs.map fun z=>V.str (S z)))
 have esd3:=ji_ hsl (.lst (zs.map fun z=>V.str (S z))) _ _ ((o3 sd psd.symm).trans esd2)
 have psl:p≠sl:=by obtain⟨o,e⟩:=hf3.some;exact jg_ e hsl
 have ssl:sl≠sd:=fun z=>by rw[z] at hsl;rw[(o3 sd psd.symm).trans esd2] at hsl;cases hsl
 have hf4:FeedAt (upd H3 sl (.lst (zs.map fun z=>V.str (S z)))) p (n+20+1):=hf3.new hsl
 generalize upd H3 sl (.lst (zs.map fun z=>V.str (S z)))=H4 at k3 esl esd3 hf4 ⊢
 walk_at "go"
 refine yr_ (K:=K) (xs:=zs.map fun z=>V.str (S z)) (fun i σ H'=>∃(v4:Option V) (kws:List (Key×V)) (ms:List (List Nat×Bp)),σ=[some (.ref p),some (.str (S l)),some (.ref wa),some (.ref sd),v4]/\H' sd=some (.dK kws)/\PR (offH H' [p,sd]) kws ms/\(ms.map (·.1)).Nodup/\(1<=i->1<=ms.length)/\ms.length<=i/\(∀ m∈ms,GN m.1)/\FeedAt H' p (n+21+5000 * i)/\Kept p H H'/\H' sl=some (.lst (zs.map fun z=>V.str (S z))))
  ⟨none,[],[],rfl,esd3,trivial,le_,by omega,pg_ _,(fun m hm=>nomatch hm),hf4,k3,esl⟩ (fun i σ H' _ ⟨_,_,_,_,_,_,_,_,_,_,_,_,e⟩=>SqL.of e) ?_ ?_
 ·rintro i x σ Ha hx ⟨v4,kws,ms,rfl,esda,hR,hnd,_,hml,hgn,hfa,ka,esla⟩
  rw[pm_] at hx
  obtain⟨z,hz,rfl⟩:∃ z,zs[i]?=some z/\x=V.str (S z):=by
   cases e:zs[i]? with
   | none=>rw[e] at hx;cases hx
   | some z=>rw[e] at hx;cases hx;exact⟨z,rfl,rfl⟩
  have hi:=(pl_.mp hz).1
  have hkl:=hR.len
  walk_at "go"
  refine jgl_ ?_
  walk_at "go"
  refine⟨p,n+21+5000 * i,l,wa,ws,rfl,hfa,by omega,hl,hl1,hl2,ka _ _ hwp hwa,hws,hgw,hwp,fun pa pl tdl pats told hd tl Hb hpl htdl hP hO hfb kb=>?_⟩
  have esdb:=kb _ _ psd.symm esda
  walk_at "go"
  refine⟨sd,_,rfl,DPut.k (k:=Sum.inr (S z)) esdb (rp_ (show kws.length<=1000 by omega) (by decide)),?_⟩
  have up:∀ b o,b≠sd->Hb b=some o->(upd Hb sd (.dK (putK kws (Sum.inr (S z)) (.ref pa)))) b=some o:=fun b o hb e=>by rw[jf_ hb];exact e
  have esdc:=jb_ (H:=Hb) (a:=sd) (o:=.dK (putK kws (Sum.inr (S z)) (.ref pa)))
  generalize upd Hb sd (.dK (putK kws (Sum.inr (S z)) (.ref pa)))=Hc at up esdc ⊢
  obtain⟨z1,z2,z3,ezp⟩:=FeedAt.ex hfb
  have hDb:∀ b∈[p,sd],∀ zs,Hb b≠some (.tup zs):=fun b hb zs e=>by
   simp only[pz_,kj_,or_false] at hb
   rcases hb with rfl | rfl
   ·rw[ezp] at e;cases e
   ·rw[esdb] at e;cases e
  have noA:∀ b,Ha b=none->b∉[p,sd]:=fun b e hb=>by
   simp only[pz_,kj_,or_false] at hb
   rcases hb with rfl | rfl
   ·obtain⟨_,_,_,e2⟩:=FeedAt.ex hfa
    rw[e] at e2;cases e2
   ·rw[esda] at e;cases e
  have hPc:PartsAt (offH Hc [p,sd]) pa pats told hd tl:=(hP.offD hDb (noA _ hpl) (noA _ htdl)).same (y5_ fun b o hb e=>⟨hb,up b o (fun q=>hb (by simp[q])) e⟩)
  have hRc:PR (offH Hc [p,sd]) kws ms:=hR.same (y5_ fun b o hb e=>⟨hb,up b o (fun q=>hb (by simp[q])) (kb b o (fun q=>hb (by simp[q])) e)⟩)
  refine⟨_,_,_,rfl,esdc,hRc.put (b:=⟨pats,told,hd,tl⟩) hPc hO,jxp_ hnd,fun _=>jpz_ _ _ _,by have:=jrk_ ms z ⟨pats,told,hd,tl⟩;omega,jlk_ hgn (hzg z (qs_ hz)),?_,fun b o hb e=>?_,?_⟩
  ·obtain⟨a1,b1,c1,f1,f2⟩:=hfb
   exact⟨a1,b1,c1,up _ _ psd f1,by omega⟩
  ·exact up _ _ (jg_ e hsd) (kb b o hb (ka b o hb e))
  ·exact up _ _ ssl (kb _ _ psl.symm esla)
 ·rintro σ Ha ⟨v4,kws,ms,rfl,esda,hR,hnd,hm1,hml,hgn,hfa,ka,esla⟩
  rw[pc_] at hm1 hml hfa
  walk_at "go"
  exact q sd kws ms Ha hsd psd.symm esda hR hnd (hm1 hzl1) (by omega) hgn (hfa.mono (by omega)) ka
theorem jih_ (T:Txt mg tk) (O:Ow K mg cO) (O2:Ow2 K mg cO2) (F:Fun K "_law_made" "_law_made" s_law_made f fd) (D_Tongues_init:Dk P w K mg base cO2 1 ["self"] (jsn_ cO2)) (D_Breaker_init:Dk P w K mg base cO 2 ["self","patterns","told","head","tail"] (jgz_ cO)) (D_Tongues_put:Dm P w K mg base cO2 "put" 5 ["self","name","breaker"] (jsx_ cO cO2)):FnOk P w K mg base CX0 6 f fd ["_law_some_here"] (jgv_ cO cO2):=by
 refine F.ok sc_law_made (fun vs H Q E h=>?_) (fun cdv A outer s H vs Q E hr h=>?_)
 ·obtain⟨sd,kws,ms,D,rfl,_⟩:=h
  rfl
 obtain⟨sd,kws,ms,D,rfl,hsd,hsD,hDo,hR0,hnd,hml,q⟩:=h
 have hR:PR H kws ms:=hR0.same (u8_ _ _)
 have nd:=sc_law_made.nd
 have hkl:=hR.len
 refine⟨_,(je_ (jk_ (i:=1) nd rfl (Or.inl rfl) (jqh_ D_Tongues_init hr.mo_ rfl O2.m_Tongues))
  (je_ (jyc_ (zm_ p6_ rfl (jvv_ (pv 0)) (jm_ (i:=2) nd rfl (Or.inl rfl))
   (je_ (jk_ (i:=3) nd rfl (Or.inl rfl) (v1_ (xa_ hr) (pv 0) (pv 2) (fun _ _=>rfl)))
  (jh_ (zq_ (jef_ (pv 1) O2.cl D_Tongues_put hr.mo_ (ja_ (pv 2) (ja_ (jka_ D_Breaker_init hr.mo_ rfl O.m_Breaker (ja_ (jt_ (jo_ (K:=K)) (pv 3) jd_ (fun _ _=>rfl)) (ja_ (jt_ (jo_ (K:=K)) (pv 3) jd_ (fun _ _=>rfl)) (ja_ (jt_ (jo_ (K:=K)) (pv 3) jd_ (fun _ _=>rfl)) (ja_ (jt_ (jo_ (K:=K)) (pv 3) jd_ (fun _ _=>rfl)) jc_))))) jc_))))))))
  (jh_ (jr_ (pv 1))))),?_⟩
 rw[show L2.start ["_law_some_here","_law_tongues","_law_name","_law_parts_here"] [.ref sd]=[some (.ref sd),none,none,none] from rfl]
 walk_at "go"
 refine jle_ ?_
 walk_at "go"
 intro tp dx0 htp hdx0 hne0
 have s1:Same H (upd (upd H dx0 (.own tp)) tp (.ins cO2 dx0 [])):=fun b o e=>by
  rw[jf_ (jg_ e htp),jf_ (jg_ e hdx0)];exact e
 have e1:=jb_ (H:=upd H dx0 (.own tp)) (a:=tp) (o:=.ins cO2 dx0 [])
 generalize upd (upd H dx0 (.own tp)) tp (.ins cO2 dx0 [])=H1 at s1 e1 ⊢
 refine⟨tp,dx0,rfl,e1,fun td H2 htd tg off=>⟨rfl,?_⟩⟩
 have s2:Same H H2:=fun b o e=>off b o (jg_ e htp) (s1 b o e)
 have htdH:H td=none:=s1.free htd
 have esd2:=s2 _ _ hsd
 walk_at "go"
 refine zaa_ sd kws (fun o u e=>by
  have e:H sd=some (.frz o u):=e
  rw[hsd] at e;cases e) ?_
 walk_at "go"
 refine i_dict ?_
 walk_at "go"
 refine⟨sd,kws,rfl,esd2,fun ob=>?_⟩
 obtain⟨dxt,t1,t2⟩:=tg
 have tpsd:tp≠sd:=yh_ t1 esd2 (by intro z;cases z)
 have tdsd:td≠sd:=fun z=>by rw[z,hsd] at htdH;cases htdH
 have up2:∀ b o,b≠sd->H2 b=some o->(upd H2 sd (.frz ob (.dK kws))) b=some o:=fun b o hb e=>by rw[jf_ hb];exact e
 have esd3:=jb_ (H:=H2) (a:=sd) (o:=.frz ob (.dK kws))
 generalize upd H2 sd (.frz ob (.dK kws))=H3 at up2 esd3 ⊢
 refine jtp_ (a:=sd) (o:=ob) (kvs:=kws) (fun i σ H'=>∃(v2 v3:Option V) (kvs:List (Key×V)),σ=[some (.ref sd),some (.ref tp),v2,v3]/\H' sd=some (.frz ob (.dK kws))/\TgAt cO2 H' tp td kvs/\TR cO (offH H' (td::D)) kvs (kws.take i) (ms.take i)/\∀ b o,b≠sd->H b=some o->H' b=some o)
  ⟨none,none,[],rfl,esd3,⟨dxt,up2 _ _ tpsd t1,up2 _ _ tdsd t2⟩,trivial,fun b o hb e=>up2 b o hb (s2 b o e)⟩ (fun i σ H' _ ⟨_,_,_,_,e,_⟩=>e) ?_ ?_
 ·rintro i kw σ Ha hkw ⟨v2,v3,kvs,rfl,esda,tga,hTR,oa⟩
  obtain⟨m,hm,hk1,⟨pa,hpa,hP0⟩,hO⟩:=hR0.get i kw hkw
  have hP:=hP0.same (u8_ _ _)
  have hi:=(pl_.mp hkw).1
  rw[show kV kw.1=V.str (S m.1) by rw[hk1];rfl]
  have hval:valV kws (Sum.inr (S m.1))=some (.ref pa):=by
   have hnd2:(kws.map (·.1)).Nodup:=by
    rw[hR.keys]
    have:(ms.map fun m=>S m.1).map Sum.inr=(ms.map (·.1)).map fun z=>(Sum.inr (S z):Key):=by rw[qn_,qn_];rfl
    rw[this]
    exact rs_.map _ (fun a b hab e=>hab (x6_ e)) hnd
   rw[<- hk1,jnv_ hnd2 hkw,hpa]
  have ndk:Ndk H Ha:=fun b o ho e=>oa b o (fun z=>by rw[z,hsd] at e;injection e with e;exact ho _ e.symm) e
  have hPa:=hP.ndk ndk
  obtain⟨pl,tdl,yp,yt,g1,g2,g3,g4,g5⟩:=id hPa
  obtain⟨dxa,ta1,ta2⟩:=id tga
  walk_at "go"
  refine jcb_ ?_
  walk_at "go"
  refine⟨sd,_,rfl,hval▸(Or.inl ⟨kws,Sum.inr (S m.1),.inr ⟨ob,esda⟩,rfl,rfl⟩:DGet Ha sd (kV (Sum.inr (S m.1))) (valV kws (Sum.inr (S m.1)))),?_⟩
  walk_at "go"
  refine jks_ ?_
  walk_at "go"
  refine jkn_ ta1 rfl ?_
  walk_at "go"
  refine jle_ ?_
  walk_at "go"
  intro x dx hx hdx hne
  have s6:Same Ha (upd (upd Ha dx (.own x)) x (.ins cO dx [])):=fun b o e=>by
   rw[jf_ (jg_ e hx),jf_ (jg_ e hdx)];exact e
  have e6:=jb_ (H:=upd Ha dx (.own x)) (a:=x) (o:=.ins cO dx [])
  generalize upd (upd Ha dx (.own x)) x (.ins cO dx [])=Hf at s6 e6 ⊢
  refine⟨x,pl,tdl,dx,yp,yt,m.2.pats,m.2.told,m.2.hd,m.2.tl,rfl,e6,s6 _ _ g2,s6 _ _ g4,IsL.same s6 g3,IsL.same s6 g5,hO.nd,by have:=hO.tl;omega,by have:=hO.pl;omega,fun kd ld Hg hkd hld hB off6=>⟨rfl,?_⟩⟩
  have sag:Same Ha Hg:=fun b o e=>off6 b o (jg_ e hx) (s6 b o e)
  have hlk:=hTR.lens
  rw[p2_] at hlk
  walk_at "go"
  refine⟨tp,td,x,kd,ld,kvs,m.1,m.2.pats,m.2.told,m.2.hd,m.2.tl,rfl,tga.same sag,hB,by have:=hO.pl;omega,by have:=hO.tl;omega,hO.nd,by omega,fun p2 kd2 ld2 Hh hp2 hkd2 hld2 hB2 etd keep=>?_⟩
  walk_at "go"
  have hmi:ms.take (i+1)=ms.take i++[m]:=by rw[qb_,hm];rfl
  have hki:kws.take (i+1)=kws.take i++[kw]:=by rw[qb_,hkw];rfl
  have hnew:((ms.take i).any fun g=>decide (g.1=m.1))=false:=by
   rw[tv_]
   intro g hg hd
   obtain⟨j,hj⟩:=lb_ hg
   rw[wr_] at hj
   split at hj
   ·rename_i hji
    have hjl:=(pl_.mp hj).1
    have hil:=(pl_.mp hm).1
    have:=w0_.mp hnd j i (by simpa using hjl) (by simpa using hil) hji
    apply this
    rw[t9_,t9_]
    rw[pa_ hjl] at hj
    rw[pa_ hil] at hm
    cases hj;cases hm
    simpa using hd
   ·cases hj
  have hputE:putK kvs (Sum.inr (S m.1):Key) (V.ref p2)=kvs++[(Sum.inr (S m.1),.ref p2)]:=jkd_ (by rw[(hTR.any m.1).1];exact hnew)
  have tdg:Hg td=some (.dK kvs):=sag _ _ ta2
  have hTRh:TR cO (offH Hh (td::D)) kvs (kws.take i) (ms.take i):=hTR.same (y5_ fun b o hb e=>⟨hb,keep b o (fun z=>hb (by simp[z])) (sag _ _ e)⟩)
  have sdg:=sag _ _ esda
  have sdh:=keep _ _ (rq_ tdsd) sdg
  have exg:∀ b∈D,b≠sd->∃ o,Hg b=some o/\∀ zs,o≠.tup zs:=fun b hb hbs=>by
   obtain⟨o,e,h⟩:=hDo b hb
   exact⟨o,sag _ _ (oa b o hbs e),h⟩
  have ntd:∀ b,Hg b=none->b∉td::D:=fun b e hb=>by
   rcases pz_.mp hb with rfl | hb
   ·rw[tdg] at e;cases e
   ·by_cases hbs:b=sd
    ·rw[hbs,sdg] at e;cases e
    ·obtain⟨o,e2,_⟩:=exg b hb hbs
     rw[e] at e2;cases e2
  have hBh:BrkAt cO (offH Hh (td::D)) p2 kd2 ld2 m.2.pats m.2.told m.2.hd m.2.tl:=hB2.offD (fun b hb zs e=>by
   rcases pz_.mp hb with rfl | hb
   ·rw[etd] at e;cases e
   ·by_cases hbs:b=sd
    ·rw[hbs,sdh] at e;cases e
    ·obtain⟨o,e2,h2⟩:=exg b hb hbs
     have hbt:b≠td:=fun z=>by obtain⟨o',e',_⟩:=hDo b hb;rw[z,htdH] at e';cases e'
     rw[keep b o hbt e2] at e
     exact h2 zs (by injection e)) (ntd _ hp2) (ntd _ hkd2) (ntd _ hld2)
  have hPh:PartsAt (offH Hh (td::D)) pa m.2.pats m.2.told m.2.hd m.2.tl:=hP0.same (y5_ fun b o hb e=>by
   have hbt:b≠td:=jg_ e htdH
   have hbs:b≠sd:=fun z=>hb (z▸hsD)
   exact⟨by simp[hbt,hb],keep b o hbt (sag _ _ (oa b o hbs e))⟩)
  refine⟨_,_,_,rfl,keep _ _ (rq_ tdsd) (sag _ _ esda),⟨dxa,keep _ _ (yh_ ta1 ta2 (by intro z;cases z)) (sag _ _ ta1),etd⟩,?_,fun b o hb e=>keep b o (jg_ e htdH) (sag _ _ (oa b o hb e))⟩
  rw[hputE,hki,hmi]
  exact hTRh.append ⟨rfl,hk1,⟨p2,kd2,ld2,rfl,hBh⟩,⟨pa,hpa,hPh⟩,hO,trivial⟩
 ·rintro σ Ha ⟨v2,v3,kvs,rfl,esda,tga,hTR,oa⟩
  rw[qc_,hkl,qc_] at hTR
  refine⟨⟨ob,esda⟩,?_⟩
  have up3:∀ b o,b≠sd->Ha b=some o->(upd Ha sd (.dK kws)) b=some o:=fun b o hb e=>by rw[jf_ hb];exact e
  have esd4:=jb_ (H:=Ha) (a:=sd) (o:=.dK kws)
  generalize upd Ha sd (.dK kws)=Hb at up3 esd4 ⊢
  obtain⟨dxa,ta1,ta2⟩:=id tga
  walk_at "go"
  refine q tp td kvs Hb htp htdH ⟨dxa,up3 _ _ tpsd ta1,up3 _ _ tdsd ta2⟩ (hTR.same fun b o e=>?_) fun b o e=>?_
  ·obtain⟨h1,h2⟩:=jas_ e
   rw[yf_ h1]
   exact up3 b o (fun z=>h1 (pt_ _ (z▸hsD))) h2
  ·by_cases hb:b=sd
   ·rw[hb,hsd] at e
    cases e
    rw[hb];exact esd4
   ·exact up3 b o hb (oa b o hb e)
end
abbrev s_farthest_end:Stmt:=top 35
theorem sc_farthest_end:FnScope ["gaps","begin","room"] ["gaps","begin","room"] (jl_ s_farthest_end):=by walk_at "f"
abbrev s_pressed:Stmt:=top 36
theorem sc_pressed:FnScope ["tongues","text","width","lines","ahead","place","word","mark","gaps","begin","end"] ["tongues","text","width"] (jl_ s_pressed):=by walk_at "f"
abbrev s_joined:Stmt:=top 37
theorem sc_joined:FnScope ["lines"] ["lines"] (jl_ s_joined):=by walk_at "f"
theorem isTupZ {H:Hp} {v:V} {ns:List Int} (h:Is H v (.tup (ns.map Dt.int))):∃ t,v=.ref t/\H t=some (.tup (ns.map V.int)):=by
 simp only[Is] at h
 obtain⟨t,vs,rfl,e,h⟩:=h
 refine⟨t,rfl,?_⟩
 rw[e]
 congr 2
 clear e
 induction ns generalizing vs with
 | nil =>
  cases vs with
  | nil=>rfl
  | cons x r=>simp[L2.IsL] at h
 | cons n ns ih =>
  cases vs with
  | nil=>simp[L2.IsL] at h
  | cons x r =>
   simp only[pj_,L2.IsL,Is] at h
   rw[h.1,ih r h.2];rfl
def inR (b:Nat) (room:Int) (k:Nat):Bool:=decide ((b:Int) < (k:Int))&&decide ((k:Int) < (b:Int)+room)
def jrr_:Sp:=fun vs H Q _=>∃(t:Addr) (g:List Nat) (b:Nat) (room:Int),vs=[.ref t,.int (b:Int),.int room]/\H t=some (.tup (g.map fun k:Nat=>V.int (k:Int)))/\g.length<=1000 /\
 ∀(H':Hp) (e:Nat),Same H H'->((e=b/\∀ x∈g,inR b room x=false)∨(e∈g/\inR b room e=true/\∀ y∈g,inR b room y=true->y<=e))->Q (.int (e:Int)) H'
theorem jnq_ {H:Hp} {v:V} {k:Nat} {w m:List Nat} {g:List Int} (h:Is H v (yt_ k w m g)):∃ t6 t:Addr,v=.ref t6/\H t6=some (.tup [.int (k:Int),.str (S w),.str (S m),.ref t])/\H t=some (.tup (g.map V.int)):=by
 unfold yt_ at h
 have h:∃ a xs,v=.ref a/\H a=some (.tup xs)/\L2.IsL H xs [.int (k:Int),.str (S w),.str (S m),.tup (g.map Dt.int)]:=by
  rw[L2.Is.eq_def] at h
  exact h
 obtain⟨t6,vs,rfl,e,h⟩:=h
 match vs,h with
 | [a,b,c,d],h =>
  simp only[L2.IsL] at h
  obtain⟨h1,h2,h3,h4,_⟩:=h
  have h1:a=.int (k:Int):=by simpa only [Is] using h1
  have h2:b=.str (S w):=by simpa only [Is] using h2
  have h3:c=.str (S m):=by simpa only [Is] using h3
  subst h1 h2 h3
  obtain⟨t,rfl,et⟩:=isTupZ h4
  exact⟨t6,t,rfl,e,et⟩
 | [],h=>simp[L2.IsL] at h
 | [_],h=>simp[L2.IsL] at h
 | [_,_],h=>simp[L2.IsL] at h
 | [_,_,_],h=>simp[L2.IsL] at h
 | _::_::_::_::_::_,h=>simp[L2.IsL] at h
theorem jck_ {n:Nat}:∀{b:Nat} {g:List Nat},Rise b n g->b<=n->g.length<=n - b
 | b,[],_,_=>by simp
 | b,x::g,r,h=>by
  have:=jck_ r.2.2 (q6_ r.2.1)
  have h1:=r.1
  have h2:=r.2.1
  simp;omega
theorem jrl_ {n:Nat} (h:n<=1000):okTx (.int (n:Int)):=.inl ⟨(n:Int),rfl,by
 have h2:((n:Int)).natAbs=n:=by omega
 rw[h2]
 by_cases z:n=0
 ·rw[z];decide
 ·have:=(Nat.log2_lt z).mpr (show n < 2 ^ 10 by omega)
  omega⟩
def jxv_ (C:Addr) (f:Str) (y:V) (H:Hp) (E:XK):Prop:=∀ e d H',H' e=some (XO e C (some d) false)->H' d=some (.xd [(f,y)])->Same H H'->E (.ref e) (some d) H'
theorem jeb_ {α:Type} (y:List α) (c:α):cutA (y++[c]) none (some (-1))=y:=by
 have h1:sx (y++[c]).length 0 none=0:=rfl
 have h2:sx (y++[c]).length (y++[c]).length (some (-1))=y.length:=by simp only[sx];rw[if_pos (by decide),pd_,ps_];omega
 unfold cutA
 rw[h1,h2,rd_,ws_,lf_]
theorem joc_ {α:Type} (l:List α) (i j:Nat) (h:i<=j) (h2:j<=l.length):cutA l (some (i:Int)) (some (j:Int))=(l.take j).drop i:=by
 have e1:sx l.length 0 (some (i:Int))=i:=by simp only[sx];rw[if_neg (by omega)];omega
 have e2:sx l.length l.length (some (j:Int))=j:=by simp only[sx];rw[if_neg (by omega)];omega
 unfold cutA
 rw[e1,e2,List.drop_take]
theorem jxz_ {ps:List Pi4} {wd n b k x:Nat}:inR (at_ n b k) ((wd:Int) - ((j3_ ps n b k).length:Int)) x=vf_ ps wd n b k x:=by
 unfold inR vf_
 by_cases c:at_ n b k < x
 ·rw[decide_eq_true c,decide_eq_true (by omega),so_,so_]
  congr 1
  simp only[eq_iff_iff]
  omega
 ·rw[decide_eq_false c,decide_eq_false (by omega),r8_,r8_]
theorem jfp_ {ps:List Pi4} {n b k:Nat} (h:j3_ ps n b k=[]):k<=n:=by
 unfold j3_ at h
 by_cases c:k<=n
 ·exact c
 ·rw[if_neg c] at h
  simp at h
def pD (p:Pi4):Dt:=yt_ p.1 p.2.1 p.2.2.1 (p.2.2.2.map fun j:Nat=>(j:Int))
def PsB (ps:List Pi4):Prop:=PsOk ps/\ps.length<=100/\∀ p∈ps,p.1<=1000/\1<=p.2.1.length/\p.2.1.length<=100/\p.2.2.1.length<=1/\p.2.2.2.length<=100
def jdv_ (C CT TN:Addr):Sp:=fun vs H Q E=>∃(tp td a:Addr) (kvs kws:List (Key×V)) (ms:List (List Nat×Bp)) (ls:List (List Nat)) (ps:List Pi4) (wd:Nat),vs=[.ref tp,.ref a,.int (wd:Int)]/\TgAt CT H tp td kvs/\TR C H kvs kws ms/\H a=some (.lst (ls.map fun l=>V.str (S l)))/\ls.length<=100/\TxOk ms ls/\(prun ms ls).ds=ps.map pD/\PsB ps/\1<=wd/\wd<=1000 /\
 (∀(lns:List (List Nat)) (r:Addr) (H':Hp),Prs ps wd 0 0 lns none->H r=none->H' r=some (.lst (lns.map fun l=>V.str (S l)))->Same H H'->Q (.ref r) H') /\
 (∀(lns:List (List Nat)) (k:Nat),Prs ps wd 0 0 lns (some k)->jxv_ TN "place" (.int (k:Int)) H E)
theorem jst_:qd_ "-"=S [45]:=by decide +kernel
theorem jgx_:qd_ " "=S [32]:=by decide +kernel
section
variable {P:Program} {w:World} {K:pb_} {mg:Str->Option Value} {base:Heap} {f:Addr} {fd:FuncData} {tk:Nat->Tok} {cO cO2 mkT:Addr} {ad:Nat->Addr}
theorem jbu_ (T:Txt mg tk) (F:Fun K "farthest_end" "farthest_end" s_farthest_end f fd):FnOk P w K mg base CX0 1 f fd ["gaps","begin","room"] jrr_:=by
 refine F.ok sc_farthest_end (fun vs H Q E h=>?_) (fun cdv A outer s H vs Q E hr h=>?_)
 ·obtain⟨t,g,b,room,rfl,_⟩:=h
  rfl
 obtain⟨t,g,b,room,rfl,ht,hgl,q⟩:=h
 have nd:=sc_farthest_end.nd
 refine⟨_,(jh_ (jr_ (jwk_ rfl rfl T.z_max (zu_ ["begin","room","gap"] [some 1,some 2,none] rfl (by kernel_rfl) rfl (zt_ (K:=K) (pv 0)) (fun _ _ _ _=>(jm_ (i:=2) (show (["begin","room","gap"]:List Str).Nodup by decide +kernel) rfl (Or.inl rfl) (Or.inr rfl))) (fun _ _ _ _=>(y2_ (jcp_ o_lt o_lt (pv 0) (pv 2) (jn_ jx_ (pv 0) (pv 1))))) (fun _ _ _ _=>(pv 2))) (pv 1)))),?_⟩
 rw[show L2.start ["gaps","begin","room"] [.ref t,.int (b:Int),.int room]=[some (.ref t),some (.int (b:Int)),some (.int room)] from rfl]
 walk_at "go"
 refine jzy_ ?_
 walk_at "go"
 intro r hr0
 refine ug_ (K:=K) (xs:=g.map fun k:Nat=>V.int (k:Int)) (fun i acc σ H'=>∃(v:Option V),σ=[some (.int (b:Int)),some (.int room),v]/\acc=((g.take i).filter (inR b room)).map (fun k:Nat=>V.int (k:Int))/\H' r=some (.lst acc)/\Same H H')
  (fun i acc σ H' _ ⟨_,_,_,_,s⟩=>SqT.of (s _ _ ht)) ⟨none,rfl,rfl,jb_,ji_ hr0 _⟩ (fun i acc σ H' ⟨_,_,e,e2,_⟩=>⟨e2,by
   rw[e,pc_]
   exact qg_ (q2_ _ _) (by rw[p2_];omega)⟩) (szn (by rw[pc_];omega)) ?_ ?_
 ·rintro i acc σ H1 hi ⟨v,rfl,rfl,e1,s1⟩
  rw[pc_] at hi
  have hgi:(g.map fun k:Nat=>V.int (k:Int)).getD i .non=.int (g[i]:Int):=by
   rw[pe_,pm_,pa_ hi];rfl
  rw[hgi]
  have htk:g.take (i+1)=g.take i++[g[i]]:=by rw[qb_,pa_ hi];rfl
  generalize g[i]=x at htk ⊢
  walk_at "go"
  have keep:∀ b' o,H b'=some o->b'≠r:=fun b' o e z=>by rw[z,hr0] at e;cases e
  have no:inR b room x=false->∃ v_1,[some (V.int (b:Int)),some (V.int room),some (V.int (x:Int))]=[some (V.int (b:Int)),some (V.int room),v_1]/\((g.take i).filter (inR b room)).map (fun k:Nat=>V.int (k:Int))=((g.take (i+1)).filter (inR b room)).map (fun k:Nat=>V.int (k:Int))/\H1 r=some (.lst (((g.take i).filter (inR b room)).map (fun k:Nat=>V.int (k:Int))))/\Same H H1:=fun hl =>
   ⟨_,rfl,by rw[htk,qf_];simp[hl],e1,s1⟩
  by_cases c:(b:Int) < (x:Int)
  ·rw[if_pos (decide_eq_true c)]
   walk_at "go"
   by_cases c2:(x:Int) < (b:Int)+room
   ·rw[if_pos (decide_eq_true c2)]
    walk_at "go"
    have hl:inR b room x=true:=by unfold inR;rw[decide_eq_true c,decide_eq_true c2];rfl
    exact⟨e1,_,rfl,by rw[htk,qf_,pi_];simp[hl],jb_,fun b' o e=>by rw[jf_ (keep b' o e)];exact s1 b' o e⟩
   ·rw[if_neg (by rw[decide_eq_false c2];exact ph_)]
    exact no (by unfold inR;rw[decide_eq_false c2,td_])
  ·rw[if_neg (by rw[decide_eq_false c];exact ph_)]
   refine⟨false,rfl,?_⟩
   rw[if_neg ph_]
   exact no (by unfold inR;rw[decide_eq_false c,r8_])
 ·rintro acc σ H1 ⟨v,rfl,rfl,e1,s1⟩
  rw[pc_,qc_] at e1
  walk_at "go"
  have hm:((g.filter (inR b room)).map fun k:Nat=>V.int (k:Int))=((g.filter (inR b room)).map fun k:Nat=>(k:Int)).map V.int:=by rw[qn_];rfl
  rw[hm] at e1
  refine⟨r,_,rfl,e1,fun h0=>?_,fun m hm1 hm2=>?_⟩
  ·refine q H1 b s1 (.inl ⟨rfl,fun x hx=>?_⟩)
   have h0:g.filter (inR b room)=[]:=by simpa using h0
   have:=sr_.mp h0 x hx
   simpa using this
  ·obtain⟨e,he,rfl⟩:=qj_.mp hm1
   obtain⟨h1,h2⟩:=qu_.mp he
   refine q H1 e s1 (.inr ⟨h1,h2,fun y hy hy2=>?_⟩)
   have:=hm2 (y:Int) (qj_.mpr ⟨y,qu_.mpr ⟨hy,hy2⟩,rfl⟩)
   omega
theorem jmf_ (T:Txt mg tk) (Z:Cs K mg ad) (F:Fun K "pressed" "pressed" s_pressed f fd) (D_pieces:Dn P w K mg base "pieces" 6 ["tongues","text"] (jch_ cO cO2)) (D_farthest_end:Dn P w K mg base "farthest_end" 1 ["gaps","begin","room"] jrr_) (D_TooNarrow_init:Ini P w K mg base (ad 4) 1 ["self","place"] (jnd_ okTx (ad 4) "place")):FnOk P w K mg base (CXx P w) 7 f fd ["tongues","text","width"] (jdv_ cO cO2 (ad 4)):=by
 refine F.okX sc_pressed (fun vs H Q E h=>?_) (fun cdv A outer s H vs Q E hr h=>?_)
 ·obtain⟨tp,td,a,kvs,kws,ms,ls,ps,wd,rfl,_⟩:=h
  rfl
 obtain⟨tp,td,a,kvs,kws,ms,ls,ps,wd,rfl,hT,hR,ha,hll,hX,hds,hps,hw1,hw2,q,qw⟩:=h
 obtain⟨hpo,hpl,hpb⟩:=hps
 have nd:=sc_pressed.nd
 refine⟨_,(je_ (jk_ (i:=3) nd rfl (Or.inl rfl) (j5_ jc_))
  (je_ (jk_ (i:=4) nd rfl (Or.inl rfl) j1_)
  (je_ (zm_ lz_ rfl (zt_ (K:=K) (jj_ D_pieces hr.mo_ rfl (ja_ (pv 0) (ja_ (pv 1) jc_)))) (yu_ rfl (jy_ (jm_ (i:=5) nd rfl (Or.inl rfl)) (jy_ (jm_ (i:=6) nd rfl (Or.inl rfl)) (jy_ (jm_ (i:=7) nd rfl (Or.inl rfl)) (jy_ (jm_ (i:=8) nd rfl (Or.inl rfl)) z7_)))))
   (je_ (jk_ (i:=9) nd rfl (Or.inl rfl) jd_)
  (je_ (jdo_ lz_ (jq_ o_gt (jp_ (zo_ (K:=K)) rfl T.z_len (by decide +kernel) (ja_ (jn_ jx_ (jn_ jx_ (pv 4) (j0_ (zc_ (K:=K)) (pv 6) (jz_ (pv 9)) zj_)) (pv 7)) jc_)) (pv 2) (jv_ _))
   (je_ (jk_ (i:=10) nd rfl (Or.inl rfl) (jj_ D_farthest_end hr.mo_ rfl (ja_ (pv 8) (ja_ (pv 9) (ja_ (jn_ vl_ (pv 2) (jp_ (zo_ (K:=K)) rfl T.z_len (by decide +kernel) (ja_ (pv 4) jc_))) jc_)))))
  (je_ (ze_ (jq_ o_gt (pv 10) (pv 9) (jv_ _))
   (jh_ (zq_ (zn_ (K:=K) p7_ p9_ qa_ zh_ (pv 3) (ja_ (jn_ jx_ (jn_ jx_ (pv 4) (j0_ (zc_ (K:=K)) (pv 6) (jz_ (pv 9)) (jz_ (pv 10)))) j1_) jc_))))
   (jh_ (ze_ (jq_ (o_ne hr.units) (pv 4) j1_ (jv_ _))
   (jh_ (zq_ (zn_ (K:=K) p7_ p9_ qa_ zh_ (pv 3) (ja_ (j0_ (zc_ (K:=K)) (pv 4) zj_ (jz_ (u3_ uj_ jd_))) jc_))))
   (jh_ (jue_ rfl juo_ (jvd_ Z.x_TooNarrow D_TooNarrow_init hr.mo_ rfl Z.m_TooNarrow (ja_ (pv 5) jc_)))))))
  (je_ (jk_ (i:=4) nd rfl (Or.inl rfl) j1_)
  (jh_ (jk_ (i:=9) nd rfl (Or.inl rfl) (pv 10)))))))
  (jh_ (jk_ (i:=4) nd rfl (Or.inl rfl) (jn_ jx_ (jn_ jx_ (jn_ jx_ (pv 4) (j0_ (zc_ (K:=K)) (pv 6) (jz_ (pv 9)) zj_)) (pv 7)) j1_))))))
  (je_ (ze_ (jq_ (o_ne hr.units) (pv 4) j1_ (jv_ _))
   (jh_ (zq_ (zn_ (K:=K) p7_ p9_ qa_ zh_ (pv 3) (ja_ (j0_ (zc_ (K:=K)) (pv 4) zj_ (jz_ (u3_ uj_ jd_))) jc_))))
   j2_)
  (jh_ (jr_ (pv 3))))))),?_⟩
 rw[show L2.start ["tongues","text","width","lines","ahead","place","word","mark","gaps","begin","end"] [.ref tp,.ref a,.int (wd:Int)]=[some (.ref tp),some (.ref a),some (.int (wd:Int)),none,none,none,none,none,none,none,none] from rfl]
 rw[x1_,jst_,jgx_]
 walk_at "go"
 intro r hr0
 have s1:=ji_ hr0 (.lst [])
 have er:=jb_ (H:=H) (a:=r) (o:=.lst [])
 generalize upd H r (.lst [])=H1 at s1 er ⊢
 walk_at "go"
 refine⟨tp,td,a,kvs,kws,ms,ls,rfl,hT.same s1,hR.same s1,s1 _ _ ha,by omega,hX,fun pr xs H2 hpr epr hxs hxl s2=>?_⟩
 rw[hds] at hxs
 have hxsl:=hxs.length
 rw[pc_] at hxsl
 walk_at "go"
 refine yr_ (K:=K) (xs:=xs) (fun i σ H'=>∃(n b:Nat) (v5 v6 v7 v8 v9 v10:Option V) (lns:List (List Nat)),σ=[some (.ref tp),some (.ref a),some (.int (wd:Int)),some (.ref r),some (.str (S (j3_ ps n b i))),v5,v6,v7,v8,v9,v10]/\Way ps wd lns n b i/\at_ n b i=0/\(j3_ ps n b i).length<=wd+1/\H' r=some (.lst (lns.map fun l=>V.str (S l)))/\lns.length<=300 * i/\∀ b o,b≠r->H2 b=some o->H' b=some o)
  ⟨0,0,none,none,none,none,none,none,[],rfl,Way.start,rfl,by simp[j3_],s2 _ _ er,pg_ _,fun b o _ e=>e⟩ (fun i σ H' _ ⟨_,_,_,_,_,_,_,_,_,_,_,_,_,_,_,k⟩=>SqL.of (k _ _ (fun z=>by rw[z,er] at hpr;cases hpr) epr)) ?_ ?_
 ·rintro i x σ Ha hx ⟨n,b,v5,v6,v7,v8,v9,v10,lns,rfl,hway,hat,hla,era,hlns,ka⟩
  have hil:=(pl_.mp hx).1
  have hip:i < ps.length:=by omega
  obtain⟨x',d,hx1,hx2,hx3⟩:=IsL.get hxs (i:=i) (by rw[pc_];exact hip)
  rw[hx] at hx1
  cases hx1
  rw[pm_,pa_ hip] at hx2
  cases hx2
  have hpe:pAt ps i=ps[i]:=by unfold pAt;rw[pe_,pa_ hip];rfl
  obtain⟨hk,hwl1,hwl2,hml,hgl⟩:=hpb _ (pw_ hip)
  rw[<- hpe] at hk hwl1 hwl2 hml hgl hx3
  obtain⟨t6,t,rfl,e6,et⟩:=jnq_ hx3
  have hpg:=hpo.at hip
  generalize hPi:pAt ps i=pi at hk hwl1 hwl2 hml hgl e6 et hpg
  obtain⟨k,w',m,g⟩:=pi
  simp only at hk hwl1 hwl2 hml hgl e6 et hpg
  have hw':(pAt ps i).2.1=w':=by rw[hPi]
  have hm':(pAt ps i).2.2.1=m:=by rw[hPi]
  have hg':(pAt ps i).2.2.2=g:=by rw[hPi]
  have nr:∀ b o,H2 b=some o->(∀ zs,o≠.lst zs)->b≠r:=fun b o e h z=>by
   rw[z,s2 _ _ er] at e
   cases e
   exact h _ rfl
  have e6r:=nr _ _ e6 (fun zs z=>by cases z)
  have etr:=nr _ _ et (fun zs z=>by cases z)
  refine y0_ (ka _ _ e6r e6) rfl (j4_ (j7_ (j4_ (j7_ (j4_ (j7_ (j4_ (j7_ (yz_ ?_)))))))))
  walk_at "go"
  refine jhi_ ⟨fun μ σ H'=>∃(n b:Nat) (ve:Option V) (lns:List (List Nat)),σ=[some (.ref tp),some (.ref a),some (.int (wd:Int)),some (.ref r),some (.str (S (j3_ ps n b i))),some (.int (k:Int)),some (.str (S w')),some (.str (S m)),some (.ref t),some (.int ((at_ n b i:Nat):Int)),ve]/\Way ps wd lns n b i/\(j3_ ps n b i).length<=wd+1/\at_ n b i<=w'.length/\H' r=some (.lst (lns.map fun l=>V.str (S l)))/\lns.length+μ<=300 * (i+1)/\μ=2 * (w'.length - at_ n b i)+(if j3_ ps n b i=[] then 0 else 1)/\∀ b o,b≠r->H2 b=some o->H' b=some o,⟨_,n,b,v10,lns,by rw[hat];rfl,hway,hla,by omega,era,?_,rfl,ka⟩,?_⟩
  ·split <;> omega
  rintro μ σ Hb ⟨n,b,ve,lns,rfl,hway,hla,hbw,erb,hln,hμ,kb⟩
  have hnl:=hway.le
  have hlw:=yk_ (ps:=ps) (n:=n) (b:=b) (k:=i) hnl
  unfold zr_ at hlw
  rw[hw',hm'] at hlw
  have hcut:=vn_ w' (at_ n b i) hbw
  have hdl:(w'.drop (at_ n b i)).length<=w'.length:=by rw[px_];omega
  have hsz:(lns.map fun l=>V.str (S l)).length < sizeLine:=szn (by rw[pc_];omega)
  have hfit:zg_ ps wd n b (i+1,0)=decide ((j3_ ps n b i++w'.drop (at_ n b i)++m).length<=wd):=by
   unfold zg_
   rw[hlw,qw_]
  walk_at "go"
  rw[hcut]
  walk_at "go"
  refine iteB (fun cc=>?_) (fun cc=>?_)
  ·have cc:(wd:Int) < ((j3_ ps n b i++w'.drop (at_ n b i)++m).length:Int):=by simpa using cc
   have hno:zg_ ps wd n b (i+1,0)=false:=by rw[hfit];exact decide_eq_false (by omega)
   have st:=hway.stuck hpo hip hno
   refine⟨fun σ H'=>∃ m',m' < μ/\∃(n b:Nat) (ve:Option V) (lns:List (List Nat)),σ=[some (.ref tp),some (.ref a),some (.int (wd:Int)),some (.ref r),some (.str (S (j3_ ps n b i))),some (.int (k:Int)),some (.str (S w')),some (.str (S m)),some (.ref t),some (.int ((at_ n b i:Nat):Int)),ve]/\Way ps wd lns n b i/\(j3_ ps n b i).length<=wd+1/\at_ n b i<=w'.length/\H' r=some (.lst (lns.map fun l=>V.str (S l)))/\lns.length+m'<=300 * (i+1)/\m'=2 * (w'.length - at_ n b i)+(if j3_ ps n b i=[] then 0 else 1)/\∀ b o,b≠r->H2 b=some o->H' b=some o,fun _ _ h=>h,?_⟩
   walk_at "go"
   have et2:Hb t=some (.tup (g.map fun k:Nat=>V.int (k:Int))):=by
    rw[kb _ _ etr et,qn_];rfl
   refine⟨t,g,at_ n b i,_,rfl,et2,by omega,fun Hc e sc hcase=>?_⟩
   have erc:=sc _ _ erb
   have kc:∀ b o,b≠r->H2 b=some o->Hc b=some o:=fun b o h1 h2=>sc _ _ (kb b o h1 h2)
   simp only[jxz_] at hcase
   have ha0:∀ x,j3_ ps i x i=[]:=fun x=>by unfold j3_;rw[if_pos (pg_ _)]
   have hai:∀ x,at_ i x i=x:=fun x=>by unfold at_;rw[if_pos rfl]
   rcases hcase with ⟨rfl,hno2⟩ | ⟨heg,hin,hmx⟩
   ·have hno3:∀ y∈(pAt ps i).2.2.2,vf_ ps wd n b i y=false:=by rw[hg'];exact hno2
    walk_at "go"
    refine vd_ (by simp) ?_
    walk_at "go"
    by_cases hla0:j3_ ps n b i=[]
    ·have hni:n=i:=by have:=jfp_ hla0;omega
     rw[hla0]
     try refine vd_ (by simp) ?_
     walk_at "go"
     refine jwc_ (jwi_ ?_)
     walk_at "go"
     have hprs:=hway.narrow (by omega) (st.narrow hno3 hni)
     rw[hni,hPi] at hprs
     refine mk_ini (jrl_ (by omega)) fun x d hx hd hne=>⟨x,ad 4,ad 0,some d,rfl,jb_,Z.x_TooNarrow,qw lns k hprs x d _ jb_ ?_ fun b o eb=>?_⟩
     ·rw[jf_ hne,jf_ hne,jb_]
     ·have hbr:b≠r:=fun z=>by rw[z,hr0] at eb;cases eb
      rw[jnx_]
      exact((ji_ hd _).trans (ji_ (by rw[jf_ (rq_ hne)];exact hx) _)) _ _ (kc _ _ hbr (s2 _ _ (s1 _ _ eb)))
    ·have hni:n < i:=by
      rcases r7_ n i with h | h
      ·exact h
      ·exact absurd (by unfold j3_;rw[if_pos h]) hla0
     have hbb:at_ n b i=0:=by unfold at_;rw[if_neg (by omega)]
     have hlast:=st.back hno3 hni
     have hway2:=hway.line (by omega) hlast
     refine u6_ (by rw[decide_eq_false fun z=>hla0 (jge_ (by injection z))];rfl) ?_
     rw[yn_ hni] at hla ⊢
     walk_at "go"
     rw[jeb_]
     have hmap:(lns.map fun l=>V.str (S l))++[V.str (S (za_ ps n b (i,0)))]=(lns++[za_ ps n b (i,0)]).map fun l=>V.str (S l):=by rw[pi_];rfl
     walk_at "go"
     rw[hmap]
     refine⟨_,?_,i,0,_,lns++[za_ ps n b (i,0)],(by rw[ha0,hai,hbb];rfl),hway2,by rw[ha0];simp,by rw[hai];omega,jb_,?_,rfl,fun b o h1 h2=>?_⟩
     ·rw[hμ,ha0,hai,if_pos rfl,if_neg hla0];omega
     ·rw[pd_,ps_,ha0,hai,if_pos rfl];rw[hμ,if_neg hla0] at hln;omega
     ·rw[jf_ h1];exact kc b o h1 h2
   ·have hin2:at_ n b i < e:=by
     unfold vf_ at hin
     simp only[qi_,decide_eq_true_eq] at hin
     exact hin.1
    have hin3:(j3_ ps n b i).length+(e - at_ n b i)+1<=wd:=by
     unfold vf_ at hin
     simp only[qi_,decide_eq_true_eq] at hin
     exact hin.2
    have he1:=(hpg.2 e heg).2
    have hlast:=st.gap (x:=e) (by rw[hg'];exact heg) hin (by rw[hg'];exact hmx)
    have hway2:=hway.line (by omega) hlast
    have hlg:=y7_ (ps:=ps) (n:=n) (b:=b) (k:=i) (x:=e) (by omega)
    rw[hw'] at hlg
    have hcm:=joc_ w' (at_ n b i) e (by omega) (by omega)
    have hcl2:((w'.take e).drop (at_ n b i)).length<=w'.length:=by rw[px_,p2_];omega
    walk_at "go"
    refine u6_ (by simp;omega) ?_
    walk_at "go"
    rw[hcm]
    walk_at "go"
    have hmap:(lns.map fun l=>V.str (S l))++[V.str (S (j3_ ps n b i++(w'.take e).drop (at_ n b i)++[45]))]=(lns++[za_ ps n b (i,e)]).map fun l=>V.str (S l):=by rw[pi_,hlg,qw_];rfl
    rw[hmap]
    refine⟨_,?_,i,e,_,lns++[za_ ps n b (i,e)],(by rw[ha0,hai];rfl),hway2,by rw[ha0];simp,by rw[hai];omega,jb_,?_,rfl,fun b o h1 h2=>?_⟩
    ·rw[hμ,ha0,hai,if_pos rfl];split <;> omega
    ·rw[pd_,ps_,ha0,hai,if_pos rfl];rw[hμ] at hln;split at hln <;> omega
    ·rw[jf_ h1];exact kc b o h1 h2
  ·have cc:¬ (wd:Int) < ((j3_ ps n b i++w'.drop (at_ n b i)++m).length:Int):=by simpa using cc
   have hyes:zg_ ps wd n b (i+1,0)=true:=by rw[hfit];exact decide_eq_true (by omega)
   have has:=jdl_ (ps:=ps) (n:=n) (b:=b) (k:=i) hnl
   unfold zr_ at has
   rw[hw',hm',<- qw_] at has
   walk_at "go"
   rw[hcut]
   walk_at "go"
   rw[<- has]
   refine⟨n,b,_,_,_,_,_,_,lns,rfl,hway.next hyes,?_,?_,erb,by omega,kb⟩
   ·unfold at_;rw[if_neg (by omega)]
   ·rw[has,pd_,ps_];omega
 ·rintro σ Ha ⟨n,b,v5,v6,v7,v8,v9,v10,lns,rfl,hway,hat,hla,era,hlns,ka⟩
  rw[hxsl] at hway hat hla hlns
  rw[hxsl]
  have hsz:(lns.map fun l=>V.str (S l)).length < sizeLine:=szn (by rw[pc_];omega)
  have hdone:=hway.done
  have fin:∀ H',(∀ b o,b≠r->H2 b=some o->H' b=some o)->Same H H':=fun H' k b o eb=>by
   have hbr:b≠r:=fun z=>by rw[z,hr0] at eb;cases eb
   exact k _ _ hbr (s2 _ _ (s1 _ _ eb))
  have hnl:=hway.le
  walk_at "go"
  by_cases hla0:j3_ ps n b ps.length=[]
  ·have hni:=jfp_ hla0
   rw[if_neg (by omega),py_] at hdone
   rw[hla0]
   try refine vd_ (by simp) ?_
   walk_at "go"
   exact q lns r Ha hdone hr0 era (fin Ha ka)
  ·have hni:n < ps.length:=by
    rcases r7_ n ps.length with h | h
    ·exact h
    ·exact absurd (by unfold j3_;rw[if_pos h]) hla0
   rw[if_pos hni] at hdone
   refine u6_ (by rw[decide_eq_false fun z=>hla0 (jge_ (by injection z))];rfl) ?_
   rw[yn_ hni] at hla ⊢
   walk_at "go"
   rw[jeb_]
   have hmap:(lns.map fun l=>V.str (S l))++[V.str (S (za_ ps n b (ps.length,0)))]=(lns++[za_ ps n b (ps.length,0)]).map fun l=>V.str (S l):=by rw[pi_];rfl
   walk_at "go"
   rw[hmap]
   exact q _ r _ hdone hr0 jb_ (fin _ fun b o h1 h2=>by rw[jf_ h1];exact ka b o h1 h2)
end
def jci_:Sp:=fun vs H Q _=>∃(a:Addr) (lns ws:List (List Nat)),vs=[.ref a]/\H a=some (.lst (lns.map fun l=>V.str (S l)))/\(lns.map (·.length)).sum+lns.length<=50000/\strk (ju_ lns)=ju_ ws/\(∀ w∈ws,NoSp w)/\ws.length<=1000/\(ju_ ws).length<=100000 /\
 ∀(r:Addr) (H':Hp),H r=none->H' r=some (.lst (ws.map fun w=>V.str (S w)))->Same H H'->Q (.ref r) H'
theorem i_jr {i:Nat} {sep a b:Str} {σ:St} {H:Hp} {Q:VK} (h:tVar i σ H fun x H1=>∃(p:Addr) (ys:List Str),x=.ref p/\H1 p=some (.lst (ys.map V.str))/\(ys.map (·.length)).sum+ys.length * sep.length<=100000/\Q (.str (lm_ (te_ sep ys) a b)) H1):tJR i sep a b σ H Q:=h
theorem jec_:∀(w:List Nat) (r:List (List Nat)),ju_ (w::r)=w++(r.map fun x=>32::x).flatten
 | w,[]=>by simp[ju_]
 | w,v::r=>by
  have ih:=jec_ v r
  have e:ju_ (w::v::r)=w++32::ju_ (v::r):=rfl
  rw[e,ih]
  simp
theorem jfu_:∀(r:List (List Nat)) (acc:Array Nat),((r.map S).foldl (fun acc p=>acc++(S [32]).cps++p.cps) acc).toList=acc.toList++(r.map fun x=>32::x).flatten
 | [],acc=>by simp
 | x::r,acc=>by
  rw[pj_,to_,jfu_ r]
  simp[S]
theorem jve_ (ws:List (List Nat)):te_ (S [32]) (ws.map S)=S (ju_ ws):=by
 unfold te_ PySem.Builtin.Str.glued
 cases ws with
 | nil=>rfl
 | cons w r =>
  rw[jec_]
  simp only[pj_,wl_,rd_,List.headD_cons]
  have:=jfu_ r (S w).cps
  unfold S at this ⊢
  congr 1
  apply Array.ext'
  exact this
theorem jya_:qd_ "- "=S [45,32]:=by decide +kernel
section
variable {P:Program} {w:World} {K:pb_} {mg:Str->Option Value} {base:Heap} {f:Addr} {fd:FuncData} {tk:Nat->Tok} {cO cO2 mkT:Addr} {ad:Nat->Addr}
theorem jpb_ (T:Txt mg tk) (F:Fun K "joined" "joined" s_joined f fd):FnOk P w K mg base CX0 1 f fd ["lines"] jci_:=by
 refine F.ok sc_joined (fun vs H Q E h=>?_) (fun cdv A outer s H vs Q E hr h=>?_)
 ·obtain⟨a,lns,ws,rfl,_⟩:=h
  rfl
 obtain⟨a,lns,ws,rfl,ha,hsz,hst,hws,hwl,hwt,q⟩:=h
 have nd:=sc_joined.nd
 refine⟨_,(jh_ (jr_ (joo_ (K:=K) qk_ PySem.F.slot_str_split PySem.F.type_str_split jyf_ (jju_ (i:=0) rfl (by first | exact Or.inl rfl | exact Or.inr (Or.inl rfl) | exact Or.inr (Or.inr rfl)) (by decide) (by decide) (by decide +kernel) rfl (by decide) ⟨rfl,rfl,rfl,rfl⟩ ⟨rfl,rfl,rfl,rfl⟩)))),?_⟩
 rw[show L2.start ["lines"] [.ref a]=[some (.ref a)] from rfl]
 rw[jgx_,jya_,x1_]
 walk_at "go"
 refine i_jr ?_
 walk_at "go"
 refine⟨a,lns.map S,rfl,by rw[qn_];exact ha,?_,?_⟩
 ·have e:((lns.map S).map (·.length)).sum=(lns.map (·.length)).sum:=by
   rw[qn_]
   first | rfl | (congr 1;exact rz_ fun x _=>js_ x)
  rw[e,pc_]
  have:(S [32]).length=1:=rfl
  rw[this];omega
 rw[jve_,jhu_,hst]
 walk_at "go"
 refine jrq_ rfl hws (by omega) (by omega) fun p hp=>?_
 exact q p _ hp jb_ (ji_ hp _)
end
theorem pick2 {a b:Nat} {d:Int} (h0:0<=d) (h1:d < 2):∃ m:Nat,atI [V.int (a:Int),.int (b:Int)] d=some (.int (m:Int))/\(m=a∨m=b):=by
 have hc:d=0∨d=1:=by omega
 rcases hc with rfl | rfl
 ·exact⟨a,jnr_ _ _,.inl rfl⟩
 ·exact⟨b,jmw_ _ _ _,.inr rfl⟩
theorem TxOk.snoc {ms:List (List Nat×Bp)} {ls:List (List Nat)} {l:List Nat} (h:TxOk ms ls) (h1:1<=ls.length) (hl:ThOk ms l):TxOk ms (ls++[l]):=by
 refine⟨fun x hx=>?_,fun x hx=>?_⟩
 ·rcases p0_.mp hx with h2 | h2
  ·exact h.1 x h2
  ·have:x=l:=by simpa using h2
   rw[this];exact hl
 ·rw[tb_ (by omega)] at hx
  exact h.2 x hx
theorem jji_ {ms:List (List Nat×Bp)} {m:List Nat×Bp} (hm:m∈ms) (hg:GN m.1):ThOk ms ([64]++m.1):=.inl ⟨m.1,rfl,hg.nm,jqw_ hm⟩
theorem uy_ {α:Type} (y:List α) (c:α):atI (y++[c]) (-1)=some c:=by
 have h:ixN (y++[c]).length (-1)=some y.length:=by
  unfold ixN
  rw[pd_,ps_]
  simp
  try omega
 unfold atI
 rw[h]
 simp
section
variable {P:Program} {w:World} {K:pb_} {mg:Str->Option Value} {base:Heap} {f:Addr} {fd:FuncData} {tk:Nat->Tok} {cO cO2 mkT:Addr}
theorem jel_ (T:Txt mg tk) (F:Fun K "_law_things" "_law_things" s_law_things f fd) (D_law_next:Dn P w K mg base "_law_next" 1 ["_law_feed_here","_law_many"] yo_) (D_law_word:Dn P w K mg base "_law_word" 2 ["_law_feed_here","_law_letters_here","_law_most"] jdd_):FnOk P w K mg base CX0 3 f fd ["_law_feed_here","_law_some_here","_law_words","_law_letters_here"] jee_:=by
 refine F.ok sc_law_things (fun vs H Q E h=>?_) (fun cdv A outer s H vs Q E hr h=>?_)
 ·obtain⟨p,sd,wa,n,l,ws,kws,ms,rfl,_⟩:=h
  rfl
 obtain⟨p,sd,wa,n,l,ws,kws,ms,rfl,hf,hn,hl,hl1,hl2,hwa,hws,hgw,hwp,hsd,hkeys,hm1,hm2,hgn,q⟩:=h
 have nd:=sc_law_things.nd
 have hkn:(kws.map fun kv=>kV kv.1)=ms.map fun m=>V.str (S m.1):=by
  have:=congrArg (List.map kV) hkeys
  rw[qn_,qn_,qn_] at this
  exact this
 refine⟨_,(je_ (jk_ (i:=4) nd rfl (Or.inl rfl) (yb_ (jwl_ rfl) rfl T.z_list (by decide +kernel) (ja_ (pv 1) jc_)))
  (je_ (jk_ (i:=5) nd rfl (Or.inl rfl) (j5_ (ja_ (jn_ jx_ j1_ (jt_ (jo_ (K:=K)) (pv 4) (jj_ D_law_next hr.mo_ rfl (ja_ (pv 0) (ja_ (jp_ (zo_ (K:=K)) rfl T.z_len (by decide +kernel) (ja_ (pv 4) jc_)) jc_))) (fun _ _=>rfl))) jc_)))
  (je_ (zm_ p6_ rfl (z0_ rfl T.z_range (ja_ (jj_ D_law_next hr.mo_ rfl (ja_ (pv 0) (ja_ (jt_ (jo_ (K:=K)) (j5_ (ja_ jd_ (ja_ jd_ (ja_ jd_ jc_)))) (jj_ D_law_next hr.mo_ rfl (ja_ (pv 0) (ja_ jd_ jc_))) (fun _ _=>rfl)) jc_))) jc_)) (jm_ (i:=6) nd rfl (Or.inl rfl))
   (je_ (jk_ (i:=7) nd rfl (Or.inl rfl) (jj_ D_law_next hr.mo_ rfl (ja_ (pv 0) (ja_ jd_ jc_))))
  (je_ (jk_ (i:=8) nd rfl (Or.inl rfl) (jt_ (jo_ (K:=K)) (pv 2) (jj_ D_law_next hr.mo_ rfl (ja_ (pv 0) (ja_ jd_ jc_))) (fun _ _=>rfl)))
  (je_ (ze_ (jq_ (o_eq hr.units) (pv 7) jd_ (jv_ _))
   (jh_ (jk_ (i:=8) nd rfl (Or.inl rfl) (jj_ D_law_word hr.mo_ rfl (ja_ (pv 0) (ja_ (pv 3) (ja_ (jt_ (jo_ (K:=K)) (j5_ (ja_ jd_ (ja_ jd_ jc_))) (jj_ D_law_next hr.mo_ rfl (ja_ (pv 0) (ja_ jd_ jc_))) (fun _ _=>rfl)) jc_))))))
   j2_)
  (je_ (ze_ (jq_ (o_eq hr.units) (jj_ D_law_next hr.mo_ rfl (ja_ (pv 0) (ja_ jd_ jc_))) jd_ (jv_ _))
   (jh_ (jk_ (i:=8) nd rfl (Or.inl rfl) (jn_ jx_ (pv 8) (jt_ (jo_ (K:=K)) j1_ (jj_ D_law_next hr.mo_ rfl (ja_ (pv 0) (ja_ jd_ jc_))) (fun _ _=>rfl)))))
   j2_)
  (je_ (ze_ (jq_ (o_eq hr.units) (pv 7) jd_ (jv_ _))
   (jh_ (jk_ (i:=8) nd rfl (Or.inl rfl) (jn_ jx_ j1_ (jt_ (jo_ (K:=K)) (pv 4) (jj_ D_law_next hr.mo_ rfl (ja_ (pv 0) (ja_ (jp_ (zo_ (K:=K)) rfl T.z_len (by decide +kernel) (ja_ (pv 4) jc_)) jc_))) (fun _ _=>rfl)))))
   j2_)
  (jh_ (zq_ (zn_ (K:=K) p7_ p9_ qa_ zh_ (pv 5) (ja_ (pv 8) jc_))))))))))
  (jh_ (jr_ (pv 5)))))),?_⟩
 rw[show L2.start ["_law_feed_here","_law_some_here","_law_words","_law_letters_here","_law_names_here","_law_things_here","_law_k","_law_way","_law_word_here"] [.ref p,.ref sd,.ref wa,.str (S l)]=[some (.ref p),some (.ref sd),some (.ref wa),some (.str (S l)),none,none,none,none,none] from rfl]
 rw[t_at,jop_]
 walk_at "go"
 refine jyd_ hsd fun nk hnk=>?_
 rw[hkn]
 have pnk:p≠nk:=by obtain⟨o,e⟩:=hf.some;exact jg_ e hnk
 have k1:Kept p H (upd H nk (.lst (ms.map fun m=>V.str (S m.1)))):=(Kept.refl p H).new hnk _
 have enk:=jb_ (H:=H) (a:=nk) (o:=.lst (ms.map fun m=>V.str (S m.1)))
 have hf1:FeedAt (upd H nk (.lst (ms.map fun m=>V.str (S m.1)))) p n:=hf.new hnk
 generalize upd H nk (.lst (ms.map fun m=>V.str (S m.1)))=H1 at k1 enk hf1 ⊢
 walk_at "go"
 rw[pc_]
 refine⟨p,_,n,rfl,hf1,by omega,by omega,by omega,fun d H2 hd0 hd1 hf2 o2=>?_⟩
 have enk2:H2 nk=_:=(o2 nk pnk.symm).trans enk
 have hdl:d.toNat < ms.length:=by omega
 refine z1_ (v:=.str (S ms[d.toNat].1)) (jw_ enk2) (zy_ hd0 (by rw[pm_,pa_ hdl];rfl)) ?_
 have hmem:=pw_ hdl
 have hg0:=hgn _ hmem
 have hT0:=jji_ hmem hg0
 generalize ms[d.toNat]=m0 at hmem hg0 hT0 ⊢
 have hgl:=hg0.2.2
 walk_at "go"
 try refine xk_ (by simp only[pr_,p1_];omega) ?_
 walk_at "go"
 intro r hr0
 have pr:p≠r:=by obtain⟨o,e⟩:=hf2.some;exact jg_ e hr0
 have k2:=k1.trans o2.kept
 have hrH:H r=none:=by
  cases e:H r with
  | none=>rfl
  | some o=>exact absurd (k2 r o pr.symm e) (by rw[hr0];exact fun z=>nomatch z)
 have rnk:nk≠r:=jg_ enk2 hr0
 have s3:=ji_ hr0 (.lst [.str (S ([64]++m0.1))])
 have er:=jb_ (H:=H2) (a:=r) (o:=.lst [.str (S ([64]++m0.1))])
 have k3:=k2.new hr0 (.lst [.str (S ([64]++m0.1))])
 have hf3:FeedAt (upd H2 r (.lst [.str (S ([64]++m0.1))])) p (n+1):=hf2.new hr0
 have enk3:=s3 _ _ enk2
 generalize upd H2 r (.lst [.str (S ([64]++m0.1))])=H3 at er k3 hf3 enk3 ⊢
 walk_at "go"
 intro d1 hd1'
 have pd1:p≠d1:=by obtain⟨o,e⟩:=hf3.some;exact jg_ e hd1'
 have s4:=ji_ hd1' (.lst [.int 4,.int 9,.int 21])
 have k4:=k3.new hd1' (.lst [.int 4,.int 9,.int 21])
 walk_at "go"
 refine⟨p,3,n+1,rfl,hf3.new hd1',by omega,by decide,by decide,fun c1 H5 hb0 hb1 hf5 o5=>?_⟩
 obtain⟨mx1,hm2',hm3⟩:=jbn_ (a:=4) (b:=9) (c:=21) hb0 hb1
 refine z1_ (jw_ ((o5 d1 pd1.symm).trans jb_)) hm2' ?_
 have er5:H5 r=_:=(o5 r pr.symm).trans (s4 _ _ er)
 have enk5:H5 nk=_:=(o5 nk pnk.symm).trans (s4 _ _ enk3)
 have k5:=k4.trans o5.kept
 walk_at "go"
 refine⟨p,mx1,n+2,rfl,hf5,by omega,by omega,by omega,fun cnt H6 hc0 hc1 hf6 o6=>?_⟩
 walk_at "go"
 have hTX0:TxOk ms [[64]++m0.1]:=by
  refine⟨fun x hx=>?_,fun x hx=>?_⟩
  ·have:x=[64]++m0.1:=by simpa using hx
   rw[this];exact hT0
  ·have:[64]++m0.1=x:=by simpa using hx
   rw[<- this];simp[isAt]
 refine z9_ (fun i σ H'=>∃(v6 v7 v8:Option V) (ls:List (List Nat)),σ=[some (.ref p),some (.ref sd),some (.ref wa),some (.str (S l)),some (.ref nk),some (.ref r),v6,v7,v8]/\ls.length=i+1/\H' r=some (.lst (ls.map fun l=>V.str (S l)))/\TxOk ms ls/\FeedAt H' p (n+3+60 * i)/\Kept p H H'/\H' nk=some (.lst (ms.map fun m=>V.str (S m.1))))
  ⟨none,none,none,[[64]++m0.1],rfl,rfl,(o6 r pr.symm).trans er5,hTX0,hf6.mono (by omega),k5.trans o6.kept,(o6 nk pnk.symm).trans enk5⟩ ?_ ?_
 ·rintro i σ Ha hi ⟨v6,v7,v8,ls,rfl,hlsl,era,hTX,hfa,ka,enka⟩
  have hi60:i < 60:=by omega
  walk_at "go"
  refine⟨p,12,n+3+60 * i,rfl,hfa,by omega,by decide,by decide,fun wy Hb hy0 hy1 hfb ob=>?_⟩
  walk_at "go"
  refine⟨p,6,n+3+60 * i+1,rfl,hfb,by omega,by decide,by decide,fun c6 Hc hc60 hc61 hfc oc=>?_⟩
  have kc:=(ka.trans ob.kept).trans oc.kept
  have hc6l:c6.toNat < ws.length:=by omega
  refine z1_ (v:=.str (S ws[c6.toNat])) (jw_ (kc _ _ hwp hwa)) (zy_ hc60 (by rw[pm_,pa_ hc6l];rfl)) ?_
  have hGW1:=hgw _ (pw_ hc6l)
  generalize ws[c6.toNat]=w0 at hGW1 ⊢
  have erc:Hc r=_:=(oc r pr.symm).trans ((ob r pr.symm).trans era)
  have enkc:Hc nk=_:=(oc nk pnk.symm).trans ((ob nk pnk.symm).trans enka)
  walk_at "go"
  refine iteD (fun cy=>?_) (fun cy=>?_)
  ·walk_at "go"
   intro d2 hd2
   have pd2:p≠d2:=by obtain⟨o,e⟩:=hfc.some;exact jg_ e hd2
   have s7:=ji_ hd2 (.lst [.int 2,.int 20])
   have k7:=kc.new hd2 (.lst [.int 2,.int 20])
   walk_at "go"
   refine⟨p,2,n+3+60 * i+1+1,rfl,hfc.new hd2,by omega,by decide,by decide,fun c2 Hd hc20 hc21 hfd od=>?_⟩
   obtain⟨m2,hmm2,hmm3⟩:=pick2 (a:=2) (b:=20) hc20 hc21
   refine z1_ (jw_ ((od d2 pd2.symm).trans jb_)) hmm2 ?_
   have erd:Hd r=_:=(od r pr.symm).trans (s7 _ _ erc)
   have enkd:Hd nk=_:=(od nk pnk.symm).trans (s7 _ _ enkc)
   walk_at "go"
   refine⟨p,n+3+60 * i+1+1+1,l,m2,rfl,hfd,by omega,hl,hl1,hl2,by omega,by omega,fun wd Hx hw0 hw1 hw2 hfx kx0=>?_⟩
   have hg:GW wd:=⟨hw0,hw1,by omega⟩
   have hfx:FeedAt Hx p (n+3+60 * i+40):=hfx.mono (by omega)
   have kx:=(k7.trans od.kept).trans kx0
   have erx:=kx0 _ _ pr.symm erd
   have enkx:=kx0 _ _ pnk.symm enkd
   walk_at "go"
   refine⟨p,5,n+3+60 * i+40,rfl,hfx,by omega,by decide,by decide,fun e5 Hy he50 he51 hfy oy=>?_⟩
   have ky:=kx.trans oy.kept
   have ery:Hy r=_:=(oy r pr.symm).trans erx
   have enky:Hy nk=_:=(oy nk pnk.symm).trans enkx
   have hgl2:=hg.2.2
   walk_at "go"
   refine iteD (fun c5=>?_) (fun c5=>?_)
   ·walk_at "go"
    refine⟨p,6,n+3+60 * i+40+1,rfl,hfy,by omega,by decide,by decide,fun e6 Hz he60 he61 hfz oz=>?_⟩
    have h6:e6.toNat < MKL.length:=by show e6.toNat < 6;omega
    refine jev_ (l:=MKL) (c:=MKL[e6.toNat]) (by decide) (zy_ he60 (pa_ h6)) ?_
    have hmk:z3_ MKL[e6.toNat]=true:=by
     have:∀ c∈MKL,z3_ c=true:=by decide
     exact this _ (pw_ h6)
    generalize MKL[e6.toNat]=mk at hmk ⊢
    have kz:=ky.trans oz.kept
    have erz:Hz r=_:=(oz r pr.symm).trans ery
    have enkz:Hz nk=_:=(oz nk pnk.symm).trans enky
    have hfz:FeedAt Hz p (n+3+60 * i+45):=hfz.mono (by omega)
    have hth:ThOk ms (wd++[mk]):=.inr ⟨wd,[mk],hg,.inr ⟨mk,hmk,rfl⟩,rfl⟩
    walk_at "go"
    try refine xk_ (by simp only[pr_,p1_];omega) ?_
    have htl:(wd++[mk]).length<=30:=by rw[pd_];simp;omega
    generalize wd++[mk]=th at hth htl ⊢
    walk_at "go"
    refine iteD (fun c1'=>?_) (fun c1'=>?_)
    ·walk_at "go"
     rw[pc_]
     refine⟨p,_,n+3+60 * i+45,rfl,hfz,by omega,by omega,by omega,fun e7 Hu he70 he71 hfu ou=>?_⟩
     have enku:Hu nk=_:=(ou nk pnk.symm).trans enkz
     have h7:e7.toNat < ms.length:=by omega
     refine z1_ (v:=.str (S ms[e7.toNat].1)) (jw_ enku) (zy_ he70 (by rw[pm_,pa_ h7];rfl)) ?_
     have hmem7:=pw_ h7
     have hg7:=hgn _ hmem7
     have hT7:=jji_ hmem7 hg7
     generalize ms[e7.toNat]=m7 at hmem7 hg7 hT7 ⊢
     have hg7l:=hg7.2.2
     have ku:=kz.trans ou.kept
     have eru:Hu r=_:=(ou r pr.symm).trans erz
     have hszl:(ls.map fun l=>V.str (S l)).length < sizeLine:=szn (by rw[pc_];omega)
     walk_at "go"
     try refine xk_ (by simp only[pr_,p1_];omega) ?_
     walk_at "go"
     refine⟨_,_,_,ls++[[64]++m7.1],rfl,by rw[pd_,hlsl];rfl,by rw[pi_];exact jb_,hTX.snoc (by omega) hT7,?_,fun b o hb e=>?_,?_⟩
     ·obtain⟨a1,b1,f1,g1,g2⟩:=hfu
      exact⟨a1,b1,f1,by rw[jf_ pr];exact g1,by omega⟩
     ·have hbr:b≠r:=fun z=>by rw[z,hrH] at e;cases e
      rw[jf_ hbr];exact ku b o hb e
     ·rw[jf_ rnk];exact enku
    ·have hszl:(ls.map fun l=>V.str (S l)).length < sizeLine:=szn (by rw[pc_];omega)
     walk_at "go"
     refine⟨_,_,_,ls++[th],rfl,by rw[pd_,hlsl];rfl,by rw[pi_];exact jb_,hTX.snoc (by omega) hth,?_,fun b o hb e=>?_,?_⟩
     ·obtain⟨a1,b1,f1,g1,g2⟩:=hfz
      exact⟨a1,b1,f1,by rw[jf_ pr];exact g1,by omega⟩
     ·have hbr:b≠r:=fun z=>by rw[z,hrH] at e;cases e
      rw[jf_ hbr];exact kz b o hb e
     ·rw[jf_ rnk];exact enkz
   ·have hth:ThOk ms wd:=.inr ⟨wd,[],hg,.inl rfl,by rw[py_]⟩
    obtain⟨th,hthd⟩:∃ th,th=wd:=⟨_,rfl⟩
    have htl:wd.length<=30:=by omega
    rw[<- hthd] at hth htl ⊢
    obtain⟨Hz,hHz⟩:∃ Hz,Hz=Hy:=⟨_,rfl⟩
    have hfz:FeedAt Hy p (n+3+60 * i+45):=hfy.mono (by omega)
    have kz:=ky
    have erz:=ery
    have enkz:=enky
    rw[<- hHz] at hfz kz erz enkz ⊢
    walk_at "go"
    refine iteD (fun c1'=>?_) (fun c1'=>?_)
    ·walk_at "go"
     rw[pc_]
     refine⟨p,_,n+3+60 * i+45,rfl,hfz,by omega,by omega,by omega,fun e7 Hu he70 he71 hfu ou=>?_⟩
     have enku:Hu nk=_:=(ou nk pnk.symm).trans enkz
     have h7:e7.toNat < ms.length:=by omega
     refine z1_ (v:=.str (S ms[e7.toNat].1)) (jw_ enku) (zy_ he70 (by rw[pm_,pa_ h7];rfl)) ?_
     have hmem7:=pw_ h7
     have hg7:=hgn _ hmem7
     have hT7:=jji_ hmem7 hg7
     generalize ms[e7.toNat]=m7 at hmem7 hg7 hT7 ⊢
     have hg7l:=hg7.2.2
     have ku:=kz.trans ou.kept
     have eru:Hu r=_:=(ou r pr.symm).trans erz
     have hszl:(ls.map fun l=>V.str (S l)).length < sizeLine:=szn (by rw[pc_];omega)
     walk_at "go"
     try refine xk_ (by simp only[pr_,p1_];omega) ?_
     walk_at "go"
     refine⟨_,_,_,ls++[[64]++m7.1],rfl,by rw[pd_,hlsl];rfl,by rw[pi_];exact jb_,hTX.snoc (by omega) hT7,?_,fun b o hb e=>?_,?_⟩
     ·obtain⟨a1,b1,f1,g1,g2⟩:=hfu
      exact⟨a1,b1,f1,by rw[jf_ pr];exact g1,by omega⟩
     ·have hbr:b≠r:=fun z=>by rw[z,hrH] at e;cases e
      rw[jf_ hbr];exact ku b o hb e
     ·rw[jf_ rnk];exact enku
    ·have hszl:(ls.map fun l=>V.str (S l)).length < sizeLine:=szn (by rw[pc_];omega)
     walk_at "go"
     refine⟨_,_,_,ls++[th],rfl,by rw[pd_,hlsl];rfl,by rw[pi_];exact jb_,hTX.snoc (by omega) hth,?_,fun b o hb e=>?_,?_⟩
     ·obtain⟨a1,b1,f1,g1,g2⟩:=hfz
      exact⟨a1,b1,f1,by rw[jf_ pr];exact g1,by omega⟩
     ·have hbr:b≠r:=fun z=>by rw[z,hrH] at e;cases e
      rw[jf_ hbr];exact kz b o hb e
     ·rw[jf_ rnk];exact enkz
  ·obtain⟨wd,hwd⟩:∃ wd,wd=w0:=⟨_,rfl⟩
   rw[<- hwd] at hGW1 ⊢
   have hg:=hGW1
   obtain⟨Hx,hHx⟩:∃ Hx,Hx=Hc:=⟨_,rfl⟩
   have hfx:FeedAt Hc p (n+3+60 * i+40):=hfc.mono (by omega)
   have kx:=kc
   have erx:=erc
   have enkx:=enkc
   rw[<- hHx] at hfx kx erx enkx ⊢
   walk_at "go"
   refine⟨p,5,n+3+60 * i+40,rfl,hfx,by omega,by decide,by decide,fun e5 Hy he50 he51 hfy oy=>?_⟩
   have ky:=kx.trans oy.kept
   have ery:Hy r=_:=(oy r pr.symm).trans erx
   have enky:Hy nk=_:=(oy nk pnk.symm).trans enkx
   have hgl2:=hg.2.2
   walk_at "go"
   refine iteD (fun c5=>?_) (fun c5=>?_)
   ·walk_at "go"
    refine⟨p,6,n+3+60 * i+40+1,rfl,hfy,by omega,by decide,by decide,fun e6 Hz he60 he61 hfz oz=>?_⟩
    have h6:e6.toNat < MKL.length:=by show e6.toNat < 6;omega
    refine jev_ (l:=MKL) (c:=MKL[e6.toNat]) (by decide) (zy_ he60 (pa_ h6)) ?_
    have hmk:z3_ MKL[e6.toNat]=true:=by
     have:∀ c∈MKL,z3_ c=true:=by decide
     exact this _ (pw_ h6)
    generalize MKL[e6.toNat]=mk at hmk ⊢
    have kz:=ky.trans oz.kept
    have erz:Hz r=_:=(oz r pr.symm).trans ery
    have enkz:Hz nk=_:=(oz nk pnk.symm).trans enky
    have hfz:FeedAt Hz p (n+3+60 * i+45):=hfz.mono (by omega)
    have hth:ThOk ms (wd++[mk]):=.inr ⟨wd,[mk],hg,.inr ⟨mk,hmk,rfl⟩,rfl⟩
    walk_at "go"
    try refine xk_ (by simp only[pr_,p1_];omega) ?_
    have htl:(wd++[mk]).length<=30:=by rw[pd_];simp;omega
    generalize wd++[mk]=th at hth htl ⊢
    walk_at "go"
    refine iteD (fun c1'=>?_) (fun c1'=>?_)
    ·walk_at "go"
     rw[pc_]
     refine⟨p,_,n+3+60 * i+45,rfl,hfz,by omega,by omega,by omega,fun e7 Hu he70 he71 hfu ou=>?_⟩
     have enku:Hu nk=_:=(ou nk pnk.symm).trans enkz
     have h7:e7.toNat < ms.length:=by omega
     refine z1_ (v:=.str (S ms[e7.toNat].1)) (jw_ enku) (zy_ he70 (by rw[pm_,pa_ h7];rfl)) ?_
     have hmem7:=pw_ h7
     have hg7:=hgn _ hmem7
     have hT7:=jji_ hmem7 hg7
     generalize ms[e7.toNat]=m7 at hmem7 hg7 hT7 ⊢
     have hg7l:=hg7.2.2
     have ku:=kz.trans ou.kept
     have eru:Hu r=_:=(ou r pr.symm).trans erz
     have hszl:(ls.map fun l=>V.str (S l)).length < sizeLine:=szn (by rw[pc_];omega)
     walk_at "go"
     try refine xk_ (by simp only[pr_,p1_];omega) ?_
     walk_at "go"
     refine⟨_,_,_,ls++[[64]++m7.1],rfl,by rw[pd_,hlsl];rfl,by rw[pi_];exact jb_,hTX.snoc (by omega) hT7,?_,fun b o hb e=>?_,?_⟩
     ·obtain⟨a1,b1,f1,g1,g2⟩:=hfu
      exact⟨a1,b1,f1,by rw[jf_ pr];exact g1,by omega⟩
     ·have hbr:b≠r:=fun z=>by rw[z,hrH] at e;cases e
      rw[jf_ hbr];exact ku b o hb e
     ·rw[jf_ rnk];exact enku
    ·have hszl:(ls.map fun l=>V.str (S l)).length < sizeLine:=szn (by rw[pc_];omega)
     walk_at "go"
     refine⟨_,_,_,ls++[th],rfl,by rw[pd_,hlsl];rfl,by rw[pi_];exact jb_,hTX.snoc (by omega) hth,?_,fun b o hb e=>?_,?_⟩
     ·obtain⟨a1,b1,f1,g1,g2⟩:=hfz
      exact⟨a1,b1,f1,by rw[jf_ pr];exact g1,by omega⟩
     ·have hbr:b≠r:=fun z=>by rw[z,hrH] at e;cases e
      rw[jf_ hbr];exact kz b o hb e
     ·rw[jf_ rnk];exact enkz
   ·have hth:ThOk ms wd:=.inr ⟨wd,[],hg,.inl rfl,by rw[py_]⟩
    obtain⟨th,hthd⟩:∃ th,th=wd:=⟨_,rfl⟩
    have htl:wd.length<=30:=by omega
    rw[<- hthd] at hth htl ⊢
    obtain⟨Hz,hHz⟩:∃ Hz,Hz=Hy:=⟨_,rfl⟩
    have hfz:FeedAt Hy p (n+3+60 * i+45):=hfy.mono (by omega)
    have kz:=ky
    have erz:=ery
    have enkz:=enky
    rw[<- hHz] at hfz kz erz enkz ⊢
    walk_at "go"
    refine iteD (fun c1'=>?_) (fun c1'=>?_)
    ·walk_at "go"
     rw[pc_]
     refine⟨p,_,n+3+60 * i+45,rfl,hfz,by omega,by omega,by omega,fun e7 Hu he70 he71 hfu ou=>?_⟩
     have enku:Hu nk=_:=(ou nk pnk.symm).trans enkz
     have h7:e7.toNat < ms.length:=by omega
     refine z1_ (v:=.str (S ms[e7.toNat].1)) (jw_ enku) (zy_ he70 (by rw[pm_,pa_ h7];rfl)) ?_
     have hmem7:=pw_ h7
     have hg7:=hgn _ hmem7
     have hT7:=jji_ hmem7 hg7
     generalize ms[e7.toNat]=m7 at hmem7 hg7 hT7 ⊢
     have hg7l:=hg7.2.2
     have ku:=kz.trans ou.kept
     have eru:Hu r=_:=(ou r pr.symm).trans erz
     have hszl:(ls.map fun l=>V.str (S l)).length < sizeLine:=szn (by rw[pc_];omega)
     walk_at "go"
     try refine xk_ (by simp only[pr_,p1_];omega) ?_
     walk_at "go"
     refine⟨_,_,_,ls++[[64]++m7.1],rfl,by rw[pd_,hlsl];rfl,by rw[pi_];exact jb_,hTX.snoc (by omega) hT7,?_,fun b o hb e=>?_,?_⟩
     ·obtain⟨a1,b1,f1,g1,g2⟩:=hfu
      exact⟨a1,b1,f1,by rw[jf_ pr];exact g1,by omega⟩
     ·have hbr:b≠r:=fun z=>by rw[z,hrH] at e;cases e
      rw[jf_ hbr];exact ku b o hb e
     ·rw[jf_ rnk];exact enku
    ·have hszl:(ls.map fun l=>V.str (S l)).length < sizeLine:=szn (by rw[pc_];omega)
     walk_at "go"
     refine⟨_,_,_,ls++[th],rfl,by rw[pd_,hlsl];rfl,by rw[pi_];exact jb_,hTX.snoc (by omega) hth,?_,fun b o hb e=>?_,?_⟩
     ·obtain⟨a1,b1,f1,g1,g2⟩:=hfz
      exact⟨a1,b1,f1,by rw[jf_ pr];exact g1,by omega⟩
     ·have hbr:b≠r:=fun z=>by rw[z,hrH] at e;cases e
      rw[jf_ hbr];exact kz b o hb e
     ·rw[jf_ rnk];exact enkz
 ·rintro σ Ha ⟨v6,v7,v8,ls,rfl,hlsl,era,hTX,hfa,ka,enka⟩
  walk_at "go"
  exact q r ls Ha hrH pr.symm era (by omega) hTX (hfa.mono (by omega)) ka
theorem jen_ (T:Txt mg tk) (F:Fun K "_law_pieces" "_law_pieces" s_law_pieces f fd) (D_law_gaps:Dn P w K mg base "_law_gaps" 2 ["_law_parts_here","_law_word_here"] spLG):FnOk P w K mg base CX0 3 f fd ["_law_some_here","_law_things_here"] jac_:=by
 refine F.ok sc_law_pieces (fun vs H Q E h=>?_) (fun cdv A outer s H vs Q E hr h=>?_)
 ·obtain⟨sd,a,kws,ms,ls,rfl,_⟩:=h
  rfl
 obtain⟨sd,a,kws,ms,ls,rfl,hsd,hR,ha,hll,hX,q⟩:=h
 have nd:=sc_law_pieces.nd
 refine⟨_,(je_ (jk_ (i:=2) nd rfl (Or.inl rfl) (j5_ jc_))
  (je_ (jk_ (i:=3) nd rfl (Or.inl rfl) j1_)
  (je_ (zm_ p6_ rfl (vk_ rfl T.z_enumerate (pv 1)) (yu_ rfl (jy_ (jm_ (i:=4) nd rfl (Or.inl rfl)) (jy_ (jm_ (i:=5) nd rfl (Or.inl rfl)) z7_)))
   (jh_ (ze_ (x0_ (zn_ (K:=K) qk_ r1_ r2_ xm_ (pv 5) (ja_ j1_ jc_)) (fun _=>rfl))
   (jh_ (jk_ (i:=3) nd rfl (Or.inl rfl) (j0_ (zc_ (K:=K)) (pv 5) (jz_ jd_) zj_)))
   (je_ (jk_ (i:=6) nd rfl (Or.inl rfl) (pv 5))
  (je_ (jk_ (i:=7) nd rfl (Or.inl rfl) j1_)
  (je_ (ze_ (jq_ o_in (jt_ (jo_ (K:=K)) (pv 5) (u3_ uj_ jd_) (fun _ _=>rfl)) j1_ (by with_unfolding_all rfl))
   (je_ (jk_ (i:=6) nd rfl (Or.inl rfl) (j0_ (zc_ (K:=K)) (pv 5) zj_ (jz_ (u3_ uj_ jd_))))
  (jh_ (jk_ (i:=7) nd rfl (Or.inl rfl) (jt_ (jo_ (K:=K)) (pv 5) (u3_ uj_ jd_) (fun _ _=>rfl)))))
   j2_)
  (jh_ (zq_ (zn_ (K:=K) p7_ p9_ qa_ zh_ (pv 2) (ja_ (z4_ (ja_ (pv 4) (ja_ (pv 6) (ja_ (pv 7) (ja_ (jj_ D_law_gaps hr.mo_ rfl (ja_ (v1_ (xa_ hr) (pv 0) (pv 3) (fun _ _=>rfl)) (ja_ (pv 6) jc_))) jc_))))) jc_))))))))))
  (jh_ (jr_ (pv 2)))))),?_⟩
 rw[show L2.start ["_law_some_here","_law_things_here","_law_found","_law_name","_law_place","_law_thing","_law_word_here","_law_mark"] [.ref sd,.ref a]=[some (.ref sd),some (.ref a),none,none,none,none,none,none] from rfl]
 rw[t_at,jop_,x1_]
 walk_at "go"
 intro r hr0
 have s2:=ji_ hr0 (.lst [])
 have er:=jb_ (H:=H) (a:=r) (o:=.lst [])
 generalize upd H r (.lst [])=H2 at s2 er ⊢
 walk_at "go"
 refine uo_ ?_
 walk_at "go"
 refine jav_ (s2 _ _ ha) ?_
 refine jah_ (fun i σ H'=>∃(nm:List Nat) (v4 v5 v6 v7:Option V) (xs:List V),σ=[some (.ref sd),some (.ref a),some (.ref r),some (.str (S nm)),v4,v5,v6,v7]/\H' r=some (.lst xs)/\L2.IsL H' xs (prun ms (ls.take i)).ds/\xs.length<=i/\Same H H' /\
   (∀ nb,(prun ms (ls.take i)).b=some nb->nm=nb.1/\zw_ ms nb.1=some nb.2))
  ⟨[],none,none,none,none,[],rfl,er,(by simp only[wz_,prun,List.foldl_nil,L2.IsL]),pg_ _,s2,fun nb h=>by cases h⟩ (fun _ _ H' _ ⟨_,_,_,_,_,_,_,_,_,_,s,_⟩=>s _ _ ha) ?_ ?_
 ·rintro i v σ H3 T3 hv ⟨nm0,v4,v5,v6,v7,xs,rfl,er3,hxs,hxl,s3,hb⟩ hT3
  rw[pm_] at hv
  obtain⟨l,hl,rfl⟩:∃ l,ls[i]?=some l/\v=V.str (S l):=by
   cases e:ls[i]? with
   | none=>rw[e] at hv;cases hv
   | some l=>rw[e] at hv;cases hv;exact⟨l,rfl,rfl⟩
  have hi:=(pl_.mp hl).1
  have htk:ls.take (i+1)=ls.take i++[l]:=by rw[qb_,hl];rfl
  have hpk:(prun ms (ls.take i)).k=i:=by rw[jml_,p2_];omega
  have hth:=hX.1 l (qs_ hl)
  have hlen:=hth.thing.1
  have sT:=ji_ hT3 (.tup [.int (((0:Nat):Int)+(i:Int)),.str (S l)])
  refine y0_ jb_ rfl (j4_ (j7_ (j4_ (j7_ (yz_ ?_)))))
  have s4:=s3.trans sT
  have er4:=sT _ _ er3
  have hxs4:=IsL.same sT hxs
  generalize upd H3 T3 (.tup [.int (((0:Nat):Int)+(i:Int)),.str (S l)])=H4 at s4 er4 hxs4 ⊢
  have hii:V.int (((0:Nat):Int)+(i:Int))=V.int (i:Int):=by congr 1;omega
  rw[hii]
  walk_at "go"
  rw[jai_]
  walk_at "go"
  rcases hth with ⟨nm,rfl,hnm,hlk⟩ | ⟨wd,m,hw,hm,rfl⟩
  ·have hat:isAt (64::nm)=true:=by simp[isAt]
   obtain⟨b,hb2⟩:=ud_ hlk
   rw[hat]
   walk_at "go"
   have hc:cutA (64::nm) (some 1) none=nm:=by
    have:=vn_ (64::nm) 1 (by simp)
    rw[lv_] at this
    exact this
   rw[hc]
   refine⟨nm,_,_,_,_,xs,rfl,er4,?_,by omega,s4,?_⟩
   ·rw[htk,zi_]
    unfold y1_
    rw[if_pos hat]
    exact hxs4
   ·rw[htk,zi_]
    unfold y1_
    rw[if_pos hat]
    simp only[lg_,hb2,rf_,s5_]
    rintro nb rfl
    exact⟨rfl,hb2⟩
  ·obtain⟨e1,e2,e3,_⟩:=yj_ hw hm
   rw[e3]
   have hi1:1<=i:=by
    rcases qh_ i with rfl | h
    ·have:=hX.2 _ hl
     rw[e3] at this;cases this
    ·exact h
   obtain⟨nb,hnb,hnl⟩:=jog_ hX i hi1 (by omega)
   obtain⟨rfl,_⟩:=hb nb hnb
   obtain⟨pa,q2,hP,hO⟩:=(hR.same s4).look nb.1 nb.2 hnl
   have esd4:=s4 _ _ hsd
   have hz1:=hO.pl
   have hz2:=hO.tl
   have hW2:=hw.2.2
   walk_at "go"
   rcases hm with rfl | ⟨c,hc,rfl⟩
   ·have hne:wd≠[]:=fun z=>by have:=hw.2.1;rw[z] at this;simp at this
    have ewd:wd=wd.dropLast++[wd.getLast hne]:=(wf_ hne).symm
    have hlast:=jjf_ (hw.1 _ (List.getLast_mem hne))
    rw[py_] at e1 e2 e3 htk hlen ⊢
    refine jev_ (c:=wd.getLast hne) (by omega) (by (conv=>lhs;rw[ewd]);exact uy_ _ _) ?_
    walk_at "go"
    rw[jez_,hlast]
    walk_at "go"
    obtain⟨m,hm⟩:∃ m:List Nat,m=[]:=⟨_,rfl⟩
    rw[<- hm] at e1 ⊢
    refine jcb_ ?_
    walk_at "go"
    refine⟨sd,_,rfl,q2▸DGet.k (k:=Sum.inr (S nb.1)) esd4,?_⟩
    walk_at "go"
    refine⟨pa,nb.2.pats,nb.2.told,nb.2.hd,nb.2.tl,wd,rfl,hP,hO.ps,by omega,by omega,hw.2.1,by omega,fun t H5 et s5=>?_⟩
    walk_at "go"
    intro t6 ht6
    have s6:=ji_ ht6 (.tup [.int (i:Int),.str (S wd),.str (S m),.ref t])
    have et6:=jb_ (H:=H5) (a:=t6) (o:=.tup [.int (i:Int),.str (S wd),.str (S m),.ref t])
    have s46:=s5.trans s6
    have et':=s6 _ _ et
    generalize upd H5 t6 (.tup [.int (i:Int),.str (S wd),.str (S m),.ref t])=H6 at s6 et6 s46 et' ⊢
    have er6:=s46 _ _ er4
    have hszx:xs.length < sizeLine:=szn (by omega)
    walk_at "go"
    have tks:Tk H6 (upd H6 r (.lst (xs++[.ref t6]))):=fun b zs e=>by
     have hb:b≠r:=fun z=>by rw[z,er6] at e;cases e
     rw[jf_ hb];exact e
    have hp:Is H6 (.ref t6) (yt_ i wd m (jin_ nb.2 wd)):=by
     unfold yt_
     have:=jhe_ et'
     simp only[Is,L2.IsL] at this ⊢
     exact⟨t6,_,rfl,et6,rfl,rfl,rfl,this,trivial⟩
    refine⟨nb.1,_,_,_,_,xs++[.ref t6],rfl,jb_,?_,by rw[pd_];show _+1<=_;omega,fun b o e=>?_,?_⟩
    ·rw[htk,zi_]
     unfold y1_
     rw[e3,if_neg ph_,hnb,hpk,e1,e2]
     refine IsL.append (IsL.tk tks (jan_ ms _) (IsL.same s46 hxs4)) ?_
     simp only[L2.IsL]
     exact⟨Is.tk tks (xj_ _ _ _ _) hp,trivial⟩
    ·have hbr:b≠r:=fun z=>by rw[z,hr0] at e;cases e
     rw[jf_ hbr];exact s46 _ _ (s4 _ _ e)
    ·rw[htk,zi_]
     unfold y1_
     rw[e3,if_neg ph_,hnb]
     rintro nb' h
     cases h
     exact⟨rfl,hnl⟩
   ·refine jev_ (c:=c) (by omega) (uy_ _ _) ?_
    walk_at "go"
    rw[jez_,hc]
    walk_at "go"
    rw[jeb_]
    walk_at "go"
    refine jev_ (c:=c) (by omega) (uy_ _ _) ?_
    walk_at "go"
    obtain⟨m,hm⟩:∃ m:List Nat,m=[c]:=⟨_,rfl⟩
    have e1:ye_ (wd++[c])=m:=by rw[hm];exact e1
    rw[<- hm]
    refine jcb_ ?_
    walk_at "go"
    refine⟨sd,_,rfl,q2▸DGet.k (k:=Sum.inr (S nb.1)) esd4,?_⟩
    walk_at "go"
    refine⟨pa,nb.2.pats,nb.2.told,nb.2.hd,nb.2.tl,wd,rfl,hP,hO.ps,by omega,by omega,hw.2.1,by omega,fun t H5 et s5=>?_⟩
    walk_at "go"
    intro t6 ht6
    have s6:=ji_ ht6 (.tup [.int (i:Int),.str (S wd),.str (S m),.ref t])
    have et6:=jb_ (H:=H5) (a:=t6) (o:=.tup [.int (i:Int),.str (S wd),.str (S m),.ref t])
    have s46:=s5.trans s6
    have et':=s6 _ _ et
    generalize upd H5 t6 (.tup [.int (i:Int),.str (S wd),.str (S m),.ref t])=H6 at s6 et6 s46 et' ⊢
    have er6:=s46 _ _ er4
    have hszx:xs.length < sizeLine:=szn (by omega)
    walk_at "go"
    have tks:Tk H6 (upd H6 r (.lst (xs++[.ref t6]))):=fun b zs e=>by
     have hb:b≠r:=fun z=>by rw[z,er6] at e;cases e
     rw[jf_ hb];exact e
    have hp:Is H6 (.ref t6) (yt_ i wd m (jin_ nb.2 wd)):=by
     unfold yt_
     have:=jhe_ et'
     simp only[Is,L2.IsL] at this ⊢
     exact⟨t6,_,rfl,et6,rfl,rfl,rfl,this,trivial⟩
    refine⟨nb.1,_,_,_,_,xs++[.ref t6],rfl,jb_,?_,by rw[pd_];show _+1<=_;omega,fun b o e=>?_,?_⟩
    ·rw[htk,zi_]
     unfold y1_
     rw[e3,if_neg ph_,hnb,hpk,e1,e2]
     refine IsL.append (IsL.tk tks (jan_ ms _) (IsL.same s46 hxs4)) ?_
     simp only[L2.IsL]
     exact⟨Is.tk tks (xj_ _ _ _ _) hp,trivial⟩
    ·have hbr:b≠r:=fun z=>by rw[z,hr0] at e;cases e
     rw[jf_ hbr];exact s46 _ _ (s4 _ _ e)
    ·rw[htk,zi_]
     unfold y1_
     rw[e3,if_neg ph_,hnb]
     rintro nb' h
     cases h
     exact⟨rfl,hnl⟩
 ·rintro σ H3 ⟨nm0,v4,v5,v6,v7,xs,rfl,er3,hxs,hxl,s3,hb⟩
  rw[pc_] at hxs
  rw[qc_] at hxs
  walk_at "go"
  exact q r xs H3 hr0 er3 hxs s3
end
abbrev s_law_line:Stmt:=top 55
theorem sc_law_line:FnScope ["_law_some_here","_law_number","_law_begin","_law_end","_law_parts_here","_law_k"] ["_law_some_here","_law_number","_law_begin","_law_end"] (jl_ s_law_line):=by walk_at "f"
abbrev s_law_ends:Stmt:=top 56
theorem sc_law_ends:FnScope ["_law_some_here","_law_number","_law_begin","_law_width_here","_law_found","_law_k","_law_ends_here","_law_good"] ["_law_some_here","_law_number","_law_begin","_law_width_here"] (jl_ s_law_ends):=by walk_at "f"
theorem um_ {H:Hp} {xs:List V} {ps:List Pi4} (h:L2.IsL H xs (ps.map pD)) {k:Nat} (hk:k < ps.length):∃ t6 t:Addr,atI xs (k:Int)=some (.ref t6)/\H t6=some (.tup [.int ((pAt ps k).1:Int),.str (S (pAt ps k).2.1),.str (S (pAt ps k).2.2.1),.ref t])/\H t=some (.tup ((pAt ps k).2.2.2.map fun j:Nat=>V.int (j:Int))):=by
 obtain⟨x,d,h1,h2,h3⟩:=IsL.get h (i:=k) (by rw[pc_];exact hk)
 have hpe:pAt ps k=ps[k]:=by unfold pAt;rw[pe_,pa_ hk];rfl
 rw[pm_,pa_ hk,<- hpe] at h2
 cases h2
 obtain⟨t6,t,rfl,e6,et⟩:=jnq_ h3
 refine⟨t6,t,xc_ h1,e6,?_⟩
 rw[et,qn_];rfl
theorem PsB.at {ps:List Pi4} (h:PsB ps) {k:Nat} (hk:k < ps.length):(pAt ps k).1<=1000/\1<=(pAt ps k).2.1.length/\(pAt ps k).2.1.length<=100/\(pAt ps k).2.2.1.length<=1/\(pAt ps k).2.2.2.length<=100:=by
 have hpe:pAt ps k=ps[k]:=by unfold pAt;rw[pe_,pa_ hk];rfl
 rw[hpe]
 exact h.2.2 _ (pw_ hk)
theorem jtk_ {ps:List Pi4} (h:PsB ps) {k b:Nat} (hk:k < ps.length):(zr_ ps k b).length<=101:=by
 have:=h.at hk
 unfold zr_
 rw[pd_,px_]
 omega
theorem vx_ {ps:List Pi4} (h:PsB ps) {n b:Nat}:∀{k:Nat},k<=ps.length->((zl_ ps n b k).map (·.length)).sum<=101 * k/\(zl_ ps n b k).length<=k
 | 0,_=>by simp[zl_]
 | k+1,hk=>by
  by_cases c:n<=k
  ·have ih:=vx_ h (n:=n) (b:=b) (k:=k) (by omega)
   have h1:=jtk_ h (k:=k) (b:=at_ n b k) (by omega)
   rw[ym_ c,pi_,tt_,pd_,pj_,p8_,ru_,tj_,ps_]
   omega
  ·rw[yi_ (by omega)]
   simp
def jtv_ (ps:List Pi4) (n b:Nat) (e:Nat×Nat):Prop:=n<=ps.length/\e.1<=ps.length/\b<=(pAt ps n).2.1.length/\(0 < e.2->n<=e.1/\e.1 < ps.length/\at_ n b e.1<=e.2/\e.2<=(pAt ps e.1).2.1.length)
def jlh_:Sp:=fun vs H Q _=>∃(a t:Addr) (xs:List V) (ps:List Pi4) (n b K x:Nat),vs=[.ref a,.int (n:Int),.int (b:Int),.ref t]/\H a=some (.lst xs)/\L2.IsL H xs (ps.map pD)/\PsB ps/\H t=some (.tup [.int (K:Int),.int (x:Int)])/\jtv_ ps n b (K,x) /\
 ∀ H',Same H H'->Q (.str (S (za_ ps n b (K,x)))) H'
section
variable {P:Program} {w:World} {K:pb_} {mg:Str->Option Value} {base:Heap} {f:Addr} {fd:FuncData} {tk:Nat->Tok} {cO cO2 mkT:Addr} {ad:Nat->Addr}
theorem jil_ (T:Txt mg tk) (F:Fun K "_law_line" "_law_line" s_law_line f fd):FnOk P w K mg base CX0 1 f fd ["_law_some_here","_law_number","_law_begin","_law_end"] jlh_:=by
 refine F.ok sc_law_line (fun vs H Q E h=>?_) (fun cdv A outer s H vs Q E hr h=>?_)
 ·obtain⟨a,t,xs,ps,n,b,K,x,rfl,_⟩:=h
  rfl
 obtain⟨a,t,xs,ps,n,b,M,x,rfl,ha,hxs,hB,ht,⟨hn,hM,hb,hx⟩,q⟩:=h
 simp only at hM hx
 have nd:=sc_law_line.nd
 have hpl:=hB.2.1
 refine⟨_,(je_ (jk_ (i:=4) nd rfl (Or.inl rfl) (j5_ jc_))
  (je_ (zm_ p6_ rfl (jad_ rfl T.z_range (ja_ (pv 1) (ja_ (jt_ (jo_ (K:=K)) (pv 3) jd_ (fun _ _=>rfl)) jc_))) (jm_ (i:=5) nd rfl (Or.inl rfl))
   (je_ (zq_ (zn_ (K:=K) p7_ p9_ qa_ zh_ (pv 4) (ja_ (jn_ jx_ (j0_ (zc_ (K:=K)) (jt_ (jo_ (K:=K)) (jt_ (jo_ (K:=K)) (pv 0) (pv 5) (fun _ _=>rfl)) jd_ (fun _ _=>rfl)) (jz_ (pv 2)) zj_) (jt_ (jo_ (K:=K)) (jt_ (jo_ (K:=K)) (pv 0) (pv 5) (fun _ _=>rfl)) jd_ (fun _ _=>rfl))) jc_)))
  (jh_ (jk_ (i:=2) nd rfl (Or.inl rfl) jd_))))
  (je_ (ze_ (jq_ o_gt (jt_ (jo_ (K:=K)) (pv 3) jd_ (fun _ _=>rfl)) jd_ (jv_ _))
   (jh_ (zq_ (zn_ (K:=K) p7_ p9_ qa_ zh_ (pv 4) (ja_ (jn_ jx_ (j0_ (zc_ (K:=K)) (jt_ (jo_ (K:=K)) (jt_ (jo_ (K:=K)) (pv 0) (jt_ (jo_ (K:=K)) (pv 3) jd_ (fun _ _=>rfl)) (fun _ _=>rfl)) jd_ (fun _ _=>rfl)) (jz_ (pv 2)) (jz_ (jt_ (jo_ (K:=K)) (pv 3) jd_ (fun _ _=>rfl)))) j1_) jc_))))
   j2_)
  (jh_ (jr_ (zn_ (K:=K) qk_ sz_ s0_ jgw_ j1_ (ja_ (pv 4) jc_))))))),?_⟩
 rw[show L2.start ["_law_some_here","_law_number","_law_begin","_law_end","_law_parts_here","_law_k"] [.ref a,.int (n:Int),.int (b:Int),.ref t]=[some (.ref a),some (.int (n:Int)),some (.int (b:Int)),some (.ref t),none,none] from rfl]
 rw[jst_,jgx_]
 walk_at "go"
 intro r hr0
 have s1:=ji_ hr0 (.lst [])
 have er:=jb_ (H:=H) (a:=r) (o:=.lst [])
 generalize upd H r (.lst [])=H1 at s1 er ⊢
 have ht1:=s1 _ _ ht
 walk_at "go"
 refine z9_ (fun i σ H'=>∃(v5:Option V),n+i<=max n M/\σ=[some (.ref a),some (.int (n:Int)),some (.int ((at_ n b (n+i):Nat):Int)),some (.ref t),some (.ref r),v5]/\H' r=some (.lst ((zl_ ps n b (n+i)).map fun l=>V.str (S l)))/\Same H H')
  ⟨none,by omega,by simp[at_],by rw[er,yi_ (by omega)];rfl,s1⟩ ?_ ?_
 ·rintro i σ Ha hi ⟨v5,hni,rfl,era,sa⟩
  have hk:n+i < ps.length:=by omega
  obtain⟨t6,tg,e1,e6,eg⟩:=um_ (hxs.same sa) hk
  have hPk:=hB.at hk
  have haa:=sa _ _ ha
  have hii:V.int ((n:Int)+(i:Int))=V.int ((n+i:Nat):Int):=by congr 1
  rw[hii]
  have hsz:((zl_ ps n b (n+i)).map fun l=>V.str (S l)).length < sizeLine:=szn (by rw[pc_];have:=(vx_ hB (n:=n) (b:=b) (k:=n+i) (by omega)).2;omega)
  have hat:at_ n b (n+i)<=(pAt ps (n+i)).2.1.length:=by
   unfold at_
   split
   ·rename_i e
    rw[e];exact hb
   ·omega
  have hcut:=vn_ (pAt ps (n+i)).2.1 (at_ n b (n+i)) hat
  walk_at "go"
  rw[hcut]
  have hl1:((pAt ps (n+i)).2.1.drop (at_ n b (n+i))).length<=100:=by rw[px_];omega
  walk_at "go"
  have hat1:at_ n b (n+(i+1))=0:=by unfold at_;rw[if_neg (by omega)]
  refine⟨_,by omega,by rw[hat1];rfl,?_,fun b' o e=>?_⟩
  ·rw[jb_,show n+(i+1)=n+i+1 by omega,ym_ (by omega),pi_];rfl
  ·rw[jf_ (fun z=>by rw[z,hr0] at e;cases e)];exact sa _ _ e
 ·rintro σ Ha ⟨v5,hni,rfl,era,sa⟩
  have hPM:zl_ ps n b (n+((M:Int) - (n:Int)).toNat)=zl_ ps n b M:=by
   rcases r7_ n M with h | h
   ·rw[show n+((M:Int) - (n:Int)).toNat=M by omega]
   ·rw[yi_ (by omega),yi_ (by omega)]
  rw[hPM] at era
  have hta:=sa _ _ ht
  have hsum:=vx_ hB (n:=n) (b:=b) (k:=M) (by omega)
  have hsz:((zl_ ps n b M).map fun l=>V.str (S l)).length < sizeLine:=szn (by rw[pc_];omega)
  have fin:∀(ys:List (List Nat)) (H':Hp),ys=zl_ ps n b M++(if 0 < x then [((pAt ps M).2.1.take x).drop (at_ n b M)++[45]] else [])->H' r=some (.lst (ys.map fun l=>V.str (S l)))->(ys.map (·.length)).sum+ys.length<=100000->Same H H'->jod_ (V.str (S [32])) [V.ref r] H' Q:=fun ys H' ey er' hs s'=>by
   refine jmh_ (ys:=ys.map S) (by rw[qn_];exact x5_ er') ?_ ?_
   ·have e:((ys.map S).map (·.length)).sum=(ys.map (·.length)).sum:=by
     rw[qn_]
     first | rfl | (congr 1;exact rz_ fun x _=>js_ x)
    rw[e,pc_]
    have:(S [32]).length=1:=rfl
    rw[this];omega
   ·rw[jve_,ey]
    exact q H' s'
  walk_at "go"
  by_cases c:0 < x
  ·obtain⟨h1,h2,h3,h4⟩:=hx c
   rw[show n+((M:Int) - (n:Int)).toNat=M by omega]
   obtain⟨t6,tg,e1,e6,eg⟩:=um_ (hxs.same sa) h2
   have hPk:=hB.at h2
   have haa:=sa _ _ ha
   have hcm:=joc_ (pAt ps M).2.1 (at_ n b M) x h3 h4
   have hl1:(((pAt ps M).2.1.take x).drop (at_ n b M)).length<=100:=by rw[px_,p2_];omega
   refine u6_ (by simp;omega) ?_
   walk_at "go"
   rw[hcm]
   walk_at "go"
   refine fin _ _ rfl (by rw[jb_,if_pos c,pi_];rfl) ?_ fun b' o e=>?_
   ·rw[if_pos c,pi_,tt_,pd_,pj_,p8_,ru_,tj_,pd_,ps_,ps_]
    omega
   ·rw[jf_ (fun z=>by rw[z,hr0] at e;cases e)];exact sa _ _ e
  ·refine vd_ (by simp;omega) ?_
   walk_at "go"
   exact fin _ Ha rfl (by rw[era,if_neg c,py_]) (by rw[if_neg c,py_];omega) sa
end
def cz (e:Nat×Nat):Int×Int:=((e.1:Int),(e.2:Int))
theorem jcr_ {H H':Hp} (h:∀ a i j,H a=some (.tup [.int i,.int j])->H' a=some (.tup [.int i,.int j])):∀{zs:List V} {es:List (Int×Int)},zs.map (prOf H)=es.map some->zs.map (prOf H')=es.map some
 | [],es,e=>by simpa using e
 | z::zs,[],e=>by simp at e
 | z::zs,x::es,e=>by
  simp only[pj_,r0_] at e ⊢
  refine⟨?_,jcr_ h e.2⟩
  obtain⟨a,rfl,ha⟩:=ur_ (i:=x.1) (j:=x.2) e.1
  exact jns_ (h _ _ _ ha)
theorem z5_ {H H':Hp} (h:Same H H') {zs:List V} {es:List (Int×Int)} (e:zs.map (prOf H)=es.map some):zs.map (prOf H')=es.map some:=jcr_ (fun a i j e=>h _ _ e) e
theorem jha_ {H:Hp} {c:Addr} {ys ys':List V} (hc:H c=some (.lst ys)) {zs:List V} {es:List (Int×Int)} (e:zs.map (prOf H)=es.map some):zs.map (prOf (upd H c (.lst ys')))=es.map some:=jcr_ (fun a i j e=>by
 rw[jf_ (fun z=>by rw[z,hc] at e;cases e)];exact e) e
theorem vp_ {H:Hp} {zs:List V} {es:List (Int×Int)} {a:Addr} {i j:Int} (e:zs.map (prOf H)=es.map some) (ha:H a=some (.tup [.int i,.int j])):(zs++[V.ref a]).map (prOf H)=(es++[(i,j)]).map some:=by
 rw[pi_,pi_,e,pj_,pj_,jns_ ha];rfl
theorem jua_ {ps:List Pi4} (h:PsB ps) {n b k:Nat} (hk:k < ps.length):(here ps n b k).length<=101:=by
 have:=h.at hk
 unfold here
 rw[pd_,pc_,ps_]
 have:=q2_ (fun x=>decide (n < k∨b < x)) (pAt ps k).2.2.2
 omega
theorem jvx_ {ps:List Pi4} (h:PsB ps) {n b k:Nat} (hn:n<=k) (hk:k < ps.length) (hb:b<=(pAt ps n).2.1.length):∀ e∈here ps n b k,jtv_ ps n b e:=by
 intro e he
 unfold here at he
 rcases p0_.mp he with he | he
 ·obtain⟨x,hx,rfl⟩:=qj_.mp he
  obtain⟨h1,h2⟩:=qu_.mp hx
  have h2:n < k∨b < x:=by simpa using h2
  have h3:=(h.1.at hk).2 x h1
  refine⟨by omega,by simp only;omega,hb,fun _=>⟨hn,hk,?_,by simp only;omega⟩⟩
  show at_ n b k<=x
  unfold at_
  split <;> omega
 ·have:e=(k+1,0):=by simpa using he
  rw[this]
  exact⟨by omega,by simp only;omega,hb,fun z=>absurd z (by simp)⟩
theorem jbz_ {H:Hp}:∀{zs:List V} {es:List (Nat×Nat)} {j:Nat},zs.map (prOf H)=(es.map cz).map some->(hj:j < es.length)->∃ t:Addr,zs.getD j .non=.ref t/\H t=some (.tup [.int (es[j].1:Int),.int (es[j].2:Int)])
 | [],[],j,_,hj=>absurd hj (by simp)
 | [],_::_,_,e,_=>by simp at e
 | _::_,[],_,_,hj=>absurd hj (by simp)
 | z::zs,x::es,0,e,_=>by
  simp only[pj_,r0_] at e
  obtain⟨a,rfl,ha⟩:=ur_ (i:=(x.1:Int)) (j:=(x.2:Int)) e.1
  exact⟨a,rfl,ha⟩
 | z::zs,x::es,j+1,e,hj=>by
  simp only[pj_,r0_] at e
  exact jbz_ (j:=j) e.2 (by simpa using hj)
theorem jby_ {H:Hp} {zs:List V} {es:List (Nat×Nat)} (e:zs.map (prOf H)=(es.map cz).map some):zs.length=es.length:=by
 have:=congrArg sm_ e
 simpa using this
theorem xq_:∀(ws:List (List Nat)),(ju_ ws).length<=(ws.map (·.length)).sum+ws.length
 | []=>by simp[ju_]
 | [w]=>by simp[ju_]
 | w::v::r=>by
  have ih:=xq_ (v::r)
  have e:ju_ (w::v::r)=w++32::ju_ (v::r):=rfl
  rw[e,pd_,pr_,pj_,ru_,pr_]
  omega
theorem jsm_ {ps:List Pi4} (h:PsB ps) {n b:Nat} {e:Nat×Nat} (he:jtv_ ps n b e):(za_ ps n b e).length<=102 * e.1+103:=by
 obtain⟨_,h1,_,h2⟩:=he
 have h3:=vx_ h (n:=n) (b:=b) (k:=e.1) h1
 unfold za_
 have h4:=xq_ (zl_ ps n b e.1++(if 0 < e.2 then [((pAt ps e.1).2.1.take e.2).drop (at_ n b e.1)++[45]] else []))
 rw[pi_,tt_,pd_ (as:=zl_ ps n b e.1)] at h4
 by_cases c:0 < e.2
 ·have h5:=(h.at (h2 c).2.1).2.2.1
  rw[if_pos c] at h4 ⊢
  rw[pj_,p8_,ru_,tj_,pd_ (bs:=[45]),px_,p2_,ps_,ps_] at h4
  omega
 ·rw[if_neg c] at h4 ⊢
  simp only[p8_,tj_,p1_] at h4
  omega
theorem cz_inj {a b:Nat×Nat} (h:cz a=cz b):a=b:=by
 unfold cz at h
 simp only[Prod.mk.injEq] at h
 exact Prod.ext (by omega) (by omega)
theorem jrz_ {ps:List Pi4} {wd n b k:Nat}:decide (cz (k+1,0)∈(good ps wd n b k).map cz)=zg_ ps wd n b (k+1,0):=by
 cases c:zg_ ps wd n b (k+1,0) with
 | true =>
  refine decide_eq_true (qj_.mpr ⟨_,qu_.mpr ⟨?_,c⟩,rfl⟩)
  unfold here
  simp
 | false =>
  refine decide_eq_false fun h=>?_
  obtain⟨x,hx,e⟩:=qj_.mp h
  have:=(qu_.mp hx).2
  rw[cz_inj e,c] at this
  cases this
def jli_:Sp:=fun vs H Q _=>∃(a:Addr) (xs:List V) (ps:List Pi4) (n b wd:Nat),vs=[.ref a,.int (n:Int),.int (b:Int),.int (wd:Int)]/\H a=some (.lst xs)/\L2.IsL H xs (ps.map pD)/\PsB ps/\n<=ps.length/\b<=(pAt ps n).2.1.length /\
 ∀(r:Addr) (zs:List V) (H':Hp),H' r=some (.lst zs)->zs.map (prOf H')=((ends ps wd n b).map cz).map some->zs.length<=20000->Same H H'->Q (.ref r) H'
section
variable {P:Program} {w:World} {K:pb_} {mg:Str->Option Value} {base:Heap} {f:Addr} {fd:FuncData} {tk:Nat->Tok} {cO cO2 mkT:Addr} {ad:Nat->Addr}
theorem jke_ (T:Txt mg tk) (F:Fun K "_law_ends" "_law_ends" s_law_ends f fd) (D_law_line:Dn P w K mg base "_law_line" 1 ["_law_some_here","_law_number","_law_begin","_law_end"] jlh_):FnOk P w K mg base CX0 2 f fd ["_law_some_here","_law_number","_law_begin","_law_width_here"] jli_:=by
 refine F.ok sc_law_ends (fun vs H Q E h=>?_) (fun cdv A outer s H vs Q E hr h=>?_)
 ·obtain⟨a,xs,ps,n,b,wd,rfl,_⟩:=h
  rfl
 obtain⟨a,xs,ps,n,b,wd,rfl,ha,hxs,hB,hn,hb,q⟩:=h
 have nd:=sc_law_ends.nd
 have hpl:=hB.2.1
 have hxl:=hxs.length
 rw[pc_] at hxl
 refine⟨_,(je_ (jk_ (i:=4) nd rfl (Or.inl rfl) (j5_ jc_))
  (je_ (zm_ p6_ rfl (jad_ rfl T.z_range (ja_ (pv 1) (ja_ (jp_ (zo_ (K:=K)) rfl T.z_len (by decide +kernel) (ja_ (pv 0) jc_)) jc_))) (jm_ (i:=5) nd rfl (Or.inr rfl))
   (je_ (jk_ (i:=6) nd rfl (Or.inl rfl) (jn_ jx_ (zu_ ["_law_k","_law_number","_law_begin","_law_gap"] [some 5,some 1,some 2,none] rfl (by kernel_rfl) rfl (zt_ (K:=K) (jt_ (jo_ (K:=K)) (jt_ (jo_ (K:=K)) (pv 0) (pv 5) (fun _ _=>rfl)) jd_ (fun _ _=>rfl))) (fun _ _ _ _=>(jm_ (i:=3) (show (["_law_k","_law_number","_law_begin","_law_gap"]:List Str).Nodup by decide +kernel) rfl (Or.inl rfl) (Or.inr rfl))) (fun _ _ _ _=>(y2_ (PW.pt (jnj_ (jq_ o_gt (pv 0) (pv 1) (jv_ _)) (jhf_ (jq_ o_gt (pv 3) (pv 2) (jv_ _))))))) (fun _ _ _ _=>(z4_ (ja_ (pv 0) (ja_ (pv 3) jc_))))) (j5_ (ja_ (z4_ (ja_ (jn_ jx_ (pv 5) jd_) (ja_ jd_ jc_))) jc_))))
  (je_ (jne_ (i:=7) ["_law_some_here","_law_number","_law_begin","_law_width_here","_law_end"] [some 0,some 1,some 2,some 3,none] rfl (by kernel_rfl) rfl nd rfl rfl (zt_ (K:=K) (pv 6)) (fun _ _ _ _=>(jm_ (i:=4) (show (["_law_some_here","_law_number","_law_begin","_law_width_here","_law_end"]:List Str).Nodup by decide +kernel) rfl (Or.inl rfl) (Or.inr rfl))) (fun _ _ _ _=>(y2_ (jq_ o_le (jp_ (zo_ (K:=K)) rfl T.z_len (by decide +kernel) (ja_ (jj_ D_law_line hr.mo_ rfl (ja_ (pv 0) (ja_ (pv 1) (ja_ (pv 2) (ja_ (pv 4) jc_))))) jc_)) (pv 3) (jv_ _)))) (fun _ _ _ _=>(pv 4)))
  (je_ (jk_ (i:=4) nd rfl (Or.inl rfl) (jn_ jx_ (pv 4) (pv 7)))
  (jh_ (ze_ (jq_ (jtl_ hr.units) (jt_ (jo_ (K:=K)) (pv 6) (u3_ uj_ jd_) (fun _ _=>rfl)) (pv 7) (by with_unfolding_all rfl))
   (jh_ (jr_ (pv 4)))
   j2_))))))
  (jh_ (jr_ (pv 4))))),?_⟩
 rw[show L2.start ["_law_some_here","_law_number","_law_begin","_law_width_here","_law_found","_law_k","_law_ends_here","_law_good"] [.ref a,.int (n:Int),.int (b:Int),.int (wd:Int)]=[some (.ref a),some (.int (n:Int)),some (.int (b:Int)),some (.int (wd:Int)),none,none,none,none] from rfl]
 walk_at "go"
 intro r hr0
 have s1:=ji_ hr0 (.lst [])
 have er:=jb_ (H:=H) (a:=r) (o:=.lst [])
 generalize upd H r (.lst [])=H1 at s1 er ⊢
 have ha1:=s1 _ _ ha
 walk_at "go"
 rw[hxl]
 refine z9_ (fun i σ H'=>∃(v5 v6 v7:Option V) (fo:Addr) (zs:List V) (es:List (Nat×Nat)),n+i<=ps.length/\σ=[some (.ref a),some (.int (n:Int)),some (.int (b:Int)),some (.int (wd:Int)),some (.ref fo),v5,v6,v7]/\H' fo=some (.lst zs)/\zs.map (prOf H')=(es.map cz).map some/\zs.length<=101 * i/\ends ps wd n b=es++yc_ ps wd n b (ps.length - (n+i)) (n+i)/\Same H H')
  ⟨none,none,none,r,[],[],by omega,rfl,er,rfl,by simp,rfl,s1⟩ ?_ ?_
 ·rintro i σ Ha hi ⟨v5,v6,v7,fo,zs,es,hni,rfl,efo,hzs,hzl,hends,sa⟩
  have hk:n+i < ps.length:=by omega
  obtain⟨t6,tg,e1,e6,eg⟩:=um_ (hxs.same sa) hk
  have hPk:=hB.at hk
  have haa:=sa _ _ ha
  have hii:V.int ((n:Int)+(i:Int))=V.int ((n+i:Nat):Int):=by congr 1
  rw[hii]
  have hzn:n+i=n+i:=rfl
  generalize hkk:n+i=k at hk e1 e6 eg hPk hends ⊢
  generalize hgg:(pAt ps k).2.2.2=g at e6 eg hPk
  walk_at "go"
  intro c1 hc1
  refine ug_ (K:=K) (xs:=g.map fun j:Nat=>V.int (j:Int)) (fun j acc σ H'=>∃(v:Option V),σ=[some (.int (k:Int)),some (.int (n:Int)),some (.int (b:Int)),v]/\acc.map (prOf H')=((((g.take j).filter fun x=>decide (n < k∨b < x)).map fun x=>(k,x)).map cz).map some/\H' c1=some (.lst acc)/\acc.length<=j/\Same Ha H')
   (fun j acc σ H' _ ⟨_,_,_,_,_,s⟩=>SqT.of (s _ _ eg)) ⟨none,rfl,rfl,jb_,pg_ _,ji_ hc1 _⟩ (fun j acc σ H' ⟨_,_,_,e,l,_⟩=>⟨e,l⟩) (szn (by rw[pc_];omega)) ?_ ?_
  ·rintro j acc σ Hb hj ⟨v,rfl,hacc,ec,hal,sb⟩
   rw[pc_] at hj
   have hgi:(g.map fun j:Nat=>V.int (j:Int)).getD j .non=.int (g[j]:Int):=by
    rw[pe_,pm_,pa_ hj];rfl
   rw[hgi]
   have htk:g.take (j+1)=g.take j++[g[j]]:=by rw[qb_,pa_ hj];rfl
   generalize g[j]=x at htk ⊢
   have put:(n < k∨b < x)->(tTup (jnt_ (tVar 0) (jnt_ (tVar 3) tNil))) [some (.int (k:Int)),some (.int (n:Int)),some (.int (b:Int)),some (.int (x:Int))] Hb fun v H5=>H5 c1=some (.lst acc)/\∃(v_1:Option V),[some (V.int (k:Int)),some (.int (n:Int)),some (.int (b:Int)),some (.int (x:Int))]=[some (.int (k:Int)),some (.int (n:Int)),some (.int (b:Int)),v_1]/\(acc++[v]).map (prOf (upd H5 c1 (.lst (acc++[v]))))=((((g.take (j+1)).filter fun x=>decide (n < k∨b < x)).map fun x=>(k,x)).map cz).map some/\upd H5 c1 (.lst (acc++[v])) c1=some (.lst (acc++[v]))/\(acc++[v]).length<=j+1/\Same Ha (upd H5 c1 (.lst (acc++[v]))):=fun hc=>by
    walk_at "go"
    intro p hp
    have sp:=ji_ hp (.tup [.int (k:Int),.int (x:Int)])
    have ep:=jb_ (H:=Hb) (a:=p) (o:=.tup [.int (k:Int),.int (x:Int)])
    generalize upd Hb p (.tup [.int (k:Int),.int (x:Int)])=Hc at sp ep ⊢
    refine⟨sp _ _ ec,_,rfl,?_,jb_,by rw[pd_,ps_];omega,fun b' o e=>?_⟩
    ·have:=jha_ (ys':=acc++[.ref p]) (sp _ _ ec) (vp_ (z5_ sp hacc) ep)
     rw[this,htk,qf_,qp_,if_pos (decide_eq_true hc),ts_]
     simp only[pi_,pj_,p8_];rfl
    ·rw[jf_ (fun z=>by rw[z,hc1] at e;cases e)];exact sp _ _ (sb _ _ e)
   walk_at "go"
   by_cases c:(n:Int) < (k:Int)
   ·refine u6_ (by simpa using c) ?_
    exact put (.inl (by omega))
   ·refine vd_ (by simpa using c) ?_
    walk_at "go"
    by_cases c2:(b:Int) < (x:Int)
    ·refine u6_ (by simpa using c2) ?_
     exact put (.inr (by omega))
    ·refine vd_ (by simpa using c2) ?_
     refine⟨_,rfl,?_,ec,by omega,sb⟩
     rw[hacc,htk,qf_,qp_,if_neg (by simp;omega),ts_,py_]
  ·rintro acc σ Hb ⟨v,rfl,hacc,ec,hal,sb⟩
   rw[pc_] at hacc hal
   rw[qc_] at hacc
   have kk:V.int ((k:Int)+1)=V.int ((k+1:Nat):Int):=by congr 1
   walk_at "go"
   try rw[kk]
   intro p2 hp2
   have s2:=ji_ hp2 (.tup [.int ((k+1:Nat):Int),.int 0])
   have ep2:=jb_ (H:=Hb) (a:=p2) (o:=.tup [.int ((k+1:Nat):Int),.int 0])
   generalize upd Hb p2 (.tup [.int ((k+1:Nat):Int),.int 0])=Hc at s2 ep2 ⊢
   walk_at "go"
   intro l2 hl2
   have s3:=ji_ hl2 (.lst [.ref p2])
   have el2:=jb_ (H:=Hc) (a:=l2) (o:=.lst [.ref p2])
   generalize upd Hc l2 (.lst [.ref p2])=Hd at s3 el2 ⊢
   refine jdx_ (s3 _ _ (s2 _ _ ec)) el2 (by (have:acc.length+[V.ref p2].length < sizeLine:=szn (by rw[ps_];omega));omega) fun l3 hl3=>?_
   have s4:=ji_ hl3 (.lst (acc++[.ref p2]))
   have el3:=jb_ (H:=Hd) (a:=l3) (o:=.lst (acc++[.ref p2]))
   generalize upd Hd l3 (.lst (acc++[.ref p2]))=He at s4 el3 ⊢
   have sae:Same Ha He:=((sb.trans s2).trans s3).trans s4
   have hus:(acc++[V.ref p2]).map (prOf He)=((here ps n b k).map cz).map some:=by
    have:=vp_ (z5_ ((s2.trans s3).trans s4) hacc) ((s3.trans s4) _ _ ep2)
    rw[this]
    unfold here
    rw[hgg]
    simp only[pi_,pj_,p8_];rfl
   have ep2e:=(s3.trans s4) _ _ ep2
   have hul:=jby_ hus
   have hhl:=jua_ hB (n:=n) (b:=b) hk
   have hlast:atI (acc++[V.ref p2]) (-1)=some (.ref p2):=uy_ _ _
   generalize acc++[V.ref p2]=us at el3 hus hul hlast ⊢
   walk_at "go"
   intro c2 hc2
   refine yl_ (K:=K) (xs:=us) (fun j acc σ H'=>∃(v:Option V),σ=[some (.ref a),some (.int (n:Int)),some (.int (b:Int)),some (.int (wd:Int)),v]/\acc.map (prOf H')=((((here ps n b k).take j).filter (zg_ ps wd n b)).map cz).map some/\H' c2=some (.lst acc)/\acc.length<=j/\Same He H')
    (fun j acc σ H' _ ⟨_,_,_,_,_,s⟩=>SqL.of (s _ _ el3)) ⟨none,rfl,rfl,jb_,pg_ _,ji_ hc2 _⟩ (fun j acc σ H' ⟨_,_,_,e,l,_⟩=>⟨e,l⟩) (szn (by omega)) ?_ ?_
   ·rintro j acc2 σ Hf hj ⟨v',rfl,hacc2,ec2,hal2,sf⟩
    rw[hul] at hj
    obtain⟨t,ht,het⟩:=jbz_ hus hj
    rw[ht]
    have htk:(here ps n b k).take (j+1)=(here ps n b k).take j++[(here ps n b k)[j]]:=by rw[qb_,pa_ hj];rfl
    have hok:=jvx_ hB (by omega) hk hb _ (pw_ hj)
    generalize (here ps n b k)[j]=e at htk het hok ⊢
    have hll:=jsm_ hB hok
    have he1:=hok.2.1
    have saf:=sae.trans sf
    walk_at "go"
    refine⟨a,t,xs,ps,n,b,e.1,e.2,rfl,saf _ _ haa,hxs.same (sa.trans saf),hB,sf _ _ het,hok,fun Hg sg=>?_⟩
    have e_e:(e.1,e.2)=e:=rfl
    rw[e_e]
    walk_at "go"
    have ec2g:=sg _ _ ec2
    have hacc2g:=z5_ sg hacc2
    have hfit:zg_ ps wd n b e=decide (((za_ ps n b e).length:Int)<=(wd:Int)):=by
     unfold zg_
     congr 1
     simp only[eq_iff_iff]
     omega
    by_cases c:((za_ ps n b e).length:Int)<=(wd:Int)
    ·rw[decide_eq_true c] at hfit
     refine u6_ (by simpa using c) ?_
     walk_at "go"
     refine⟨ec2g,_,rfl,?_,jb_,by rw[pd_,ps_];omega,fun b' o eo=>?_⟩
     ·have:=jha_ (ys':=acc2++[.ref t]) ec2g (vp_ hacc2g (sg _ _ (sf _ _ het)))
      rw[this,htk,qf_,qp_,if_pos hfit,ts_]
      simp only[pi_,pj_,p8_];rfl
     ·rw[jf_ (fun z=>by rw[z,hc2] at eo;cases eo)];exact sg _ _ (sf _ _ eo)
    ·rw[decide_eq_false c] at hfit
     refine vd_ (by simpa using c) ?_
     refine⟨_,rfl,?_,ec2g,by omega,sf.trans sg⟩
     rw[hacc2g,htk,qf_,qp_,if_neg (by rw[hfit];exact ph_),ts_,py_]
   ·rintro acc2 σ Hf ⟨v',rfl,hacc2,ec2,hal2,sf⟩
    rw[hul,qc_] at hacc2
    have saf:=sae.trans sf
    walk_at "go"
    refine jdx_ (saf _ _ efo) ec2 (by (have:zs.length+acc2.length < sizeLine:=szn (by omega));omega) fun l4 hl4=>?_
    have s5:=ji_ hl4 (.lst (zs++acc2))
    have el4:=jb_ (H:=Hf) (a:=l4) (o:=.lst (zs++acc2))
    generalize upd Hf l4 (.lst (zs++acc2))=Hg at s5 el4 ⊢
    have el3g:=s5 _ _ (sf _ _ el3)
    walk_at "go"
    have hgd:acc2.map (prOf Hg)=((good ps wd n b k).map cz).map some:=z5_ s5 hacc2
    have hzg:(zs++acc2).map (prOf Hg)=((es++good ps wd n b k).map cz).map some:=by
     rw[pi_,z5_ (saf.trans s5) hzs,hgd,pi_,pi_]
    have hzgl:(zs++acc2).length<=101 * (i+1):=by rw[pd_];omega
    have sag:=(sa.trans saf).trans s5
    refine⟨p2,c2,((k+1:Nat):Int),0,acc2,(good ps wd n b k).map cz,rfl,s5 _ _ (sf _ _ ep2e),rfl,s5 _ _ ec2,hgd,?_⟩
    have hmg:decide ((((k+1:Nat):Int),(0:Int))∈(good ps wd n b k).map cz)=zg_ ps wd n b (k+1,0):=jrz_
    rw[hmg]
    have hstep:yc_ ps wd n b (ps.length - k) k=if zg_ ps wd n b (k+1,0)=true then good ps wd n b k++yc_ ps wd n b (ps.length - (k+1)) (k+1) else good ps wd n b k:=by
     rw[show ps.length - k=ps.length - (k+1)+1 by omega]
     simp only[yc_]
     rw[if_pos hk]
    rw[hstep] at hends
    cases c:zg_ ps wd n b (k+1,0) with
    | true =>
     rw[c,if_pos rfl,<- qw_] at hends
     walk_at "go"
     exact⟨_,_,_,l4,zs++acc2,es++good ps wd n b k,by omega,rfl,el4,hzg,hzgl,by rw[show n+(i+1)=k+1 by omega];exact hends,sag⟩
    | false =>
     rw[c,if_neg ph_] at hends
     walk_at "go"
     rw[<- hends] at hzg
     exact q l4 (zs++acc2) Hg el4 hzg (by omega) sag
 ·rintro σ Ha ⟨v5,v6,v7,fo,zs,es,hni,rfl,efo,hzs,hzl,hends,sa⟩
  walk_at "go"
  have e0:ps.length - (n+((ps.length:Int) - (n:Int)).toNat)=0:=by omega
  rw[e0] at hends
  simp only[yc_,py_] at hends
  rw[<- hends] at hzs
  exact q fo zs Ha efo hzs (by omega) sa
end
abbrev s_law_begins:Stmt:=top 59
theorem sc_law_begins:FnScope ["_law_some_here","_law_found","_law_k","_law_one"] ["_law_some_here"] (jl_ s_law_begins):=by walk_at "f"
abbrev s_law_fewest:Stmt:=top 60
theorem sc_law_fewest:FnScope ["_law_some_here","_law_width_here","_law_least","_law_at","_law_counts"] ["_law_some_here","_law_width_here"] (jl_ s_law_fewest):=by walk_at "f"
def jdg_:Sp:=fun vs H Q _=>∃(a:Addr) (xs:List V) (ps:List Pi4),vs=[.ref a]/\H a=some (.lst xs)/\L2.IsL H xs (ps.map pD)/\PsB ps /\
 ∀(r:Addr) (zs:List V) (H':Hp),H' r=some (.lst zs)->zs.map (prOf H')=((j8_ ps ps.length).map cz).map some->Same H H'->Q (.ref r) H'
theorem jgc_ {ps:List Pi4} (h:PsB ps) {k:Nat} (hk:k<=ps.length):(j8_ ps k).length<=101 * k:=jcx_ (c:=100) (fun k hk=>(h.at hk).2.2.2.2) hk
section
variable {P:Program} {w:World} {K:pb_} {mg:Str->Option Value} {base:Heap} {f:Addr} {fd:FuncData} {tk:Nat->Tok} {cO cO2 mkT:Addr} {ad:Nat->Addr}
theorem jeh_ (T:Txt mg tk) (F:Fun K "_law_begins" "_law_begins" s_law_begins f fd):FnOk P w K mg base CX0 1 f fd ["_law_some_here"] jdg_:=by
 refine F.ok sc_law_begins (fun vs H Q E h=>?_) (fun cdv A outer s H vs Q E hr h=>?_)
 ·obtain⟨a,xs,ps,rfl,_⟩:=h
  rfl
 obtain⟨a,xs,ps,rfl,ha,hxs,hB,q⟩:=h
 have nd:=sc_law_begins.nd
 have hpl:=hB.2.1
 have hxl:=hxs.length
 rw[pc_] at hxl
 refine⟨_,(je_ (jk_ (i:=1) nd rfl (Or.inl rfl) (j5_ jc_))
  (je_ (zm_ p6_ rfl (vk_ rfl T.z_enumerate (pv 0)) (yu_ rfl (jy_ (jm_ (i:=2) nd rfl (Or.inr rfl)) (jy_ (jm_ (i:=3) nd rfl (Or.inl rfl)) z7_)))
   (jh_ (jk_ (i:=1) nd rfl (Or.inl rfl) (jn_ jx_ (jn_ jx_ (pv 1) (j5_ (ja_ (z4_ (ja_ (pv 2) (ja_ jd_ jc_))) jc_))) (zu_ ["_law_k","_law_gap"] [some 2,none] rfl (by kernel_rfl) rfl (zt_ (K:=K) (jt_ (jo_ (K:=K)) (pv 3) jd_ (fun _ _=>rfl))) (fun _ _ _ _=>(jm_ (i:=1) (show (["_law_k","_law_gap"]:List Str).Nodup by decide +kernel) rfl (Or.inl rfl) (Or.inr rfl))) (fun _ _ _ _=>xg_) (fun _ _ _ _=>(z4_ (ja_ (pv 0) (ja_ (pv 1) jc_)))))))))
  (jh_ (jr_ (pv 1))))),?_⟩
 rw[show L2.start ["_law_some_here","_law_found","_law_k","_law_one"] [.ref a]=[some (.ref a),none,none,none] from rfl]
 walk_at "go"
 intro r hr0
 have s1:=ji_ hr0 (.lst [])
 have er:=jb_ (H:=H) (a:=r) (o:=.lst [])
 generalize upd H r (.lst [])=H1 at s1 er ⊢
 walk_at "go"
 refine uo_ ?_
 walk_at "go"
 refine jav_ (s1 _ _ ha) ?_
 refine jah_ (fun i σ H'=>∃(v2 v3:Option V) (fo:Addr) (zs:List V),σ=[some (.ref a),some (.ref fo),v2,v3]/\i<=ps.length/\H' fo=some (.lst zs)/\zs.map (prOf H')=((j8_ ps i).map cz).map some/\Same H H')
  ⟨none,none,r,[],rfl,by omega,er,rfl,s1⟩ (fun _ _ H' _ ⟨_,_,_,_,_,_,_,_,s⟩=>s _ _ ha) ?_ ?_
 ·rintro i v σ H3 T3 hv ⟨v2,v3,fo,zs,rfl,hi0,efo,hzs,s3⟩ hT3
  have hi:i < ps.length:=by rw[<- hxl];exact(pl_.mp hv).1
  obtain⟨t6,tg,e1,e6,eg⟩:=um_ (hxs.same s3) hi
  have hvt:v=.ref t6:=by
   rw[xc_ hv] at e1
   exact Option.some.inj e1
  subst hvt
  have hPk:=hB.at hi
  have hzl:zs.length<=101 * i:=by rw[jby_ hzs];exact jgc_ hB (by omega)
  have sT:=ji_ hT3 (.tup [.int (((0:Nat):Int)+(i:Int)),.ref t6])
  refine y0_ jb_ rfl (j4_ (j7_ (j4_ (j7_ (yz_ ?_)))))
  have s4:=s3.trans sT
  have efo4:=sT _ _ efo
  have e64:=sT _ _ e6
  have eg4:=sT _ _ eg
  have hzs4:=z5_ sT hzs
  generalize upd H3 T3 (.tup [.int (((0:Nat):Int)+(i:Int)),.ref t6])=H4 at s4 efo4 hzs4 e64 eg4 ⊢
  have hii:V.int (((0:Nat):Int)+(i:Int))=V.int (i:Int):=by congr 1;omega
  rw[hii]
  generalize hgg:(pAt ps i).2.2.2=g at e64 eg4 hPk
  walk_at "go"
  intro p2 hp2
  have s5:=ji_ hp2 (.tup [.int (i:Int),.int 0])
  have ep2:=jb_ (H:=H4) (a:=p2) (o:=.tup [.int (i:Int),.int 0])
  generalize upd H4 p2 (.tup [.int (i:Int),.int 0])=H5 at s5 ep2 ⊢
  walk_at "go"
  intro l2 hl2
  have s6:=ji_ hl2 (.lst [.ref p2])
  have el2:=jb_ (H:=H5) (a:=l2) (o:=.lst [.ref p2])
  generalize upd H5 l2 (.lst [.ref p2])=H6 at s6 el2 ⊢
  refine jdx_ (s6 _ _ (s5 _ _ efo4)) el2 (by (have:zs.length+[V.ref p2].length < sizeLine:=szn (by rw[ps_];omega));omega) fun l3 hl3=>?_
  have s7:=ji_ hl3 (.lst (zs++[.ref p2]))
  have el3:=jb_ (H:=H6) (a:=l3) (o:=.lst (zs++[.ref p2]))
  generalize upd H6 l3 (.lst (zs++[.ref p2]))=H7 at s7 el3 ⊢
  have s47:=(s5.trans s6).trans s7
  have e67:=s47 _ _ e64
  have eg7:=s47 _ _ eg4
  have hus:(zs++[V.ref p2]).map (prOf H7)=((j8_ ps i++[(i,0)]).map cz).map some:=by
   have:=vp_ (z5_ s47 hzs4) ((s6.trans s7) _ _ ep2)
   rw[this]
   simp only[pi_,pj_,p8_];rfl
  have hul:(zs++[V.ref p2]).length<=101 * i+1:=by rw[pd_,ps_];omega
  generalize zs++[V.ref p2]=us at el3 hus hul ⊢
  walk_at "go"
  intro c1 hc1
  refine ug_ (K:=K) (xs:=g.map fun j:Nat=>V.int (j:Int)) (fun j acc σ H'=>∃(v:Option V),σ=[some (.int (i:Int)),v]/\acc.map (prOf H')=(((g.take j).map fun x=>(i,x)).map cz).map some/\H' c1=some (.lst acc)/\acc.length<=j/\Same H7 H')
   (fun j acc σ H' _ ⟨_,_,_,_,_,s⟩=>SqT.of (s _ _ eg7)) ⟨none,rfl,rfl,jb_,pg_ _,ji_ hc1 _⟩ (fun j acc σ H' ⟨_,_,_,e,l,_⟩=>⟨e,l⟩) (szn (by rw[pc_];omega)) ?_ ?_
  ·rintro j acc σ Hb hj ⟨v,rfl,hacc,ec,hal,sb⟩
   rw[pc_] at hj
   have hgi:(g.map fun j:Nat=>V.int (j:Int)).getD j .non=.int (g[j]:Int):=by
    rw[pe_,pm_,pa_ hj];rfl
   rw[hgi]
   have htk:g.take (j+1)=g.take j++[g[j]]:=by rw[qb_,pa_ hj];rfl
   generalize g[j]=x at htk ⊢
   walk_at "go"
   intro p hp
   have sp:=ji_ hp (.tup [.int (i:Int),.int (x:Int)])
   have ep:=jb_ (H:=Hb) (a:=p) (o:=.tup [.int (i:Int),.int (x:Int)])
   generalize upd Hb p (.tup [.int (i:Int),.int (x:Int)])=Hc at sp ep ⊢
   refine⟨sp _ _ ec,_,rfl,?_,jb_,by rw[pd_,ps_];omega,fun b' o e=>?_⟩
   ·have:=jha_ (ys':=acc++[.ref p]) (sp _ _ ec) (vp_ (z5_ sp hacc) ep)
    rw[this,htk]
    simp only[pi_,pj_,p8_];rfl
   ·rw[jf_ (fun z=>by rw[z,hc1] at e;cases e)];exact sp _ _ (sb _ _ e)
  ·rintro acc σ Hb ⟨v,rfl,hacc,ec,hal,sb⟩
   rw[pc_] at hacc hal
   rw[qc_] at hacc
   walk_at "go"
   refine jdx_ (sb _ _ el3) ec (by (have:us.length+acc.length < sizeLine:=szn (by omega));omega) fun l4 hl4=>?_
   have s8:=ji_ hl4 (.lst (us++acc))
   have el4:=jb_ (H:=Hb) (a:=l4) (o:=.lst (us++acc))
   generalize upd Hb l4 (.lst (us++acc))=Hd at s8 el4 ⊢
   walk_at "go"
   refine⟨_,_,l4,us++acc,rfl,hi,el4,?_,(s4.trans s47).trans (sb.trans s8)⟩
   rw[pi_,z5_ (sb.trans s8) hus,z5_ s8 hacc]
   simp only[j8_,hgg,pi_]
 ·rintro σ H3 ⟨v2,v3,fo,zs,rfl,hi0,efo,hzs,s3⟩
  rw[hxl] at hzs
  walk_at "go"
  exact q fo zs H3 efo hzs s3
end
def posK (e:Nat×Nat):List Key:=[Sum.inl (e.1:Int),Sum.inl (e.2:Int)]
theorem jsy_ {a b:Nat×Nat} (h:posK a=posK b):a=b:=by
 unfold posK at h
 simp only[r0_,Sum.inl.injEq,and_true] at h
 exact Prod.ext (by omega) (by omega)
def cV:Option Nat->V
 | some n=>.int (n:Int)
 | none=>.non
def vK (kvs:List (List Key×V)) (e:Nat×Nat):Option Nat:=match valV kvs (posK e) with
 | some (.int n)=>some n.toNat
 | _=>none
theorem vK_of {kvs:List (List Key×V)} {e:Nat×Nat} {o:Option Nat} (h:valV kvs (posK e)=some (cV o)):vK kvs e=o:=by
 unfold vK
 rw[h]
 cases o with
 | none=>rfl
 | some n=>simp[cV]
theorem jxg_ {td ty tx:TE} {σ:St} {H:Hp} {Q:VK} (h:td σ H fun x H1=>∃ a,x=.ref a/\IsD H1 a/\ty σ H1 fun y H2=>tx σ H2 fun z H3=>∃ o,DGet H3 a y o/\Q (o.getD z) H3):juj_ td ty tx σ H Q:=h
def jdt_:Sp:=fun vs H Q _=>∃(a:Addr) (xs:List V) (ps:List Pi4) (wd:Nat),vs=[.ref a,.int (wd:Int)]/\H a=some (.lst xs)/\L2.IsL H xs (ps.map pD)/\PsB ps /\
 ∀(o:Option Nat) (H':Hp),Cnt ps wd (0,0) o->Same H H'->Q (cV o) H'
theorem jiw_ {H:Hp}:∀(ns:List Nat),L2.IsL H (ns.map fun n:Nat=>V.int (n:Int)) (ns.map fun n:Nat=>Dt.int (n:Int))
 | []=>by simp only[p8_,L2.IsL]
 | n::ns=>by simp only[pj_,L2.IsL,Is];exact⟨by first | rfl | trivial,jiw_ ns⟩
section
variable {P:Program} {w:World} {K:pb_} {mg:Str->Option Value} {base:Heap} {f:Addr} {fd:FuncData} {tk:Nat->Tok} {cO cO2 mkT:Addr} {ad:Nat->Addr}
theorem jeo_ (T:Txt mg tk) (F:Fun K "_law_fewest" "_law_fewest" s_law_fewest f fd) (D_law_begins:Dn P w K mg base "_law_begins" 1 ["_law_some_here"] jdg_) (D_law_ends:Dn P w K mg base "_law_ends" 2 ["_law_some_here","_law_number","_law_begin","_law_width_here"] jli_):FnOk P w K mg base CX0 3 f fd ["_law_some_here","_law_width_here"] jdt_:=by
 refine F.ok sc_law_fewest (fun vs H Q E h=>?_) (fun cdv A outer s H vs Q E hr h=>?_)
 ·obtain⟨a,xs,ps,wd,rfl,_⟩:=h
  rfl
 obtain⟨a,xs,ps,wd,rfl,ha,hxs,hB,q⟩:=h
 have nd:=sc_law_fewest.nd
 have hpl:=hB.2.1
 have hxl:=hxs.length
 rw[pc_] at hxl
 refine⟨_,(je_ (jk_ (i:=2) nd rfl (Or.inr rfl) (jtm_ (xa_ hr) (z4_ (ja_ (jp_ (zo_ (K:=K)) rfl T.z_len (by decide +kernel) (ja_ (pv 0) jc_)) (ja_ jd_ jc_))) jd_))
  (je_ (zm_ p6_ rfl (jxj_ (K:=K) rfl rfl T.z_reversed (jj_ D_law_begins hr.mo_ rfl (ja_ (pv 0) jc_))) (jm_ (i:=3) nd rfl (Or.inl rfl))
   (je_ (jne_ (i:=4) ["_law_least","_law_end"] [some 2,none] rfl (by kernel_rfl) rfl nd rfl rfl (zt_ (K:=K) (jj_ D_law_ends hr.mo_ rfl (ja_ (pv 0) (ja_ (jt_ (jo_ (K:=K)) (pv 3) jd_ (fun _ _=>rfl)) (ja_ (jt_ (jo_ (K:=K)) (pv 3) jd_ (fun _ _=>rfl)) (ja_ (pv 1) jc_)))))) (fun _ _ _ _=>(jm_ (i:=1) (show (["_law_least","_law_end"]:List Str).Nodup by decide +kernel) rfl (Or.inl rfl) (Or.inr rfl))) (fun _ _ _ _=>(y2_ (jq_ jxw_ (v1_ (xa_ hr) (pv 0) (pv 1) (fun _ _=>rfl)) jaw_ (jv_ _)))) (fun _ _ _ _=>(v1_ (xa_ hr) (pv 0) (pv 1) (fun _ _=>rfl))))
  (jh_ (jcd_ (xa_ hr) (pv 2) (pv 3) (jiv_ (jq_ (o_ne hr.units) (pv 4) (j5_ jc_) (jv_ _)) (jn_ jx_ jd_ (jp_ (c_minL rfl) rfl T.z_min (by decide +kernel) (ja_ (pv 4) jc_))) jaw_) rfl))))
  (jh_ (jr_ (jsj_ (xa_ hr) (pv 2) (z4_ (ja_ jd_ (ja_ jd_ jc_))) jd_ ⟨rfl,rfl,rfl,rfl⟩))))),?_⟩
 rw[show L2.start ["_law_some_here","_law_width_here","_law_least","_law_at","_law_counts"] [.ref a,.int (wd:Int)]=[some (.ref a),some (.int (wd:Int)),none,none,none] from rfl]
 walk_at "go"
 refine jxx_ fun d hd0=>?_
 have s1:=ji_ hd0 (.dT [])
 have ed1:=jb_ (H:=H) (a:=d) (o:=.dT [])
 generalize upd H d (.dT [])=H1 at s1 ed1 ⊢
 have ha1:=s1 _ _ ha
 walk_at "go"
 rw[hxl]
 intro t0 ht0
 have s2:=ji_ ht0 (.tup [.int (ps.length:Int),.int 0])
 have et0:=jb_ (H:=H1) (a:=t0) (o:=.tup [.int (ps.length:Int),.int 0])
 generalize upd H1 t0 (.tup [.int (ps.length:Int),.int 0])=H2 at s2 et0 ⊢
 walk_at "go"
 refine⟨s2 _ _ ed1,t0,posK (ps.length,0),rfl,et0,?_⟩
 have s3:Same H (upd H2 d (.dT [(posK (ps.length,0),.int 0)])):=fun b o e=>by
  rw[jf_ (jg_ e hd0)];exact(s1.trans s2) _ _ e
 have ed3:=jb_ (H:=H2) (a:=d) (o:=.dT [(posK (ps.length,0),.int 0)])
 generalize upd H2 d (.dT [(posK (ps.length,0),.int 0)])=H3 at s3 ed3 ⊢
 walk_at "go"
 refine jsl_ ?_
 walk_at "go"
 refine⟨a,xs,ps,rfl,s3 _ _ ha,hxs.same s3,hB,fun fo zs Hb efo hzs sb=>?_⟩
 have hzl:=jby_ hzs
 have hbl:=jgc_ hB (k:=ps.length) (pg_ _)
 refine⟨fo,zs,rfl,SqL.of efo,?_⟩
 have edb:=sb _ _ ed3
 have hfd:fo≠d:=fun z=>by rw[z,edb] at efo;cases efo
 refine jta_ (K:=K) (a:=fo) (xs:=zs) (fun i σ H'=>∃(v3 v4:Option V) (kvs:List (List Key×V)),σ=[some (.ref a),some (.int (wd:Int)),some (.ref d),v3,v4]/\i<=zs.length/\H' d=some (.dT kvs)/\kvs.length<=i+1/\(∀ e,(e∈(j8_ ps ps.length).drop (zs.length - i)∨e=(ps.length,0))->∃ o,Cnt ps wd e o/\valV kvs (posK e)=some (cV o))/\Kept d Hb H'/\Same H H')
  ⟨none,none,_,rfl,qe_ _,edb,by simp,fun e he=>?_,fun b o _ e=>e,s3.trans sb⟩ (fun i σ H' _ ⟨_,_,_,_,_,_,_,_,k,_⟩=>SqL.of (k _ _ hfd efo)) ?_ ?_
 ·rcases he with he | he
  ·rw[ws_,hzl,List.drop_length] at he;cases he
  ·subst he
   exact⟨some 0,Cnt.done (pg_ _),by rw[zd_ rfl];rfl⟩
 ·rintro i v σ Ha hv ⟨v3,v4,kvs,rfl,hi0,eda,hkl,hval,ka,sa⟩
  have hi:i < zs.length:=by
   have:=(pl_.mp hv).1
   rw[List.length_reverse] at this;exact this
  rw[k1_ hi] at hv
  obtain⟨j,hj⟩:∃ j,j=zs.length - 1 - i:=⟨_,rfl⟩
  rw[<- hj] at hv
  have hjl:j < (j8_ ps ps.length).length:=by omega
  obtain⟨t,ht,het⟩:=jbz_ hzs hjl
  have hvt:v=.ref t:=by
   rw[pe_,hv] at ht
   exact ht
  subst hvt
  have hsplit:j8_ ps ps.length=(j8_ ps ps.length).take j++(j8_ ps ps.length)[j]::(j8_ ps ps.length).drop (j+1):=by
   rw[<- rm_ hjl,s1_]
  have hdrop:(j8_ ps ps.length).drop (zs.length - (i+1))=(j8_ ps ps.length)[j]::(j8_ ps ps.length).drop (zs.length - i):=by
   rw[show zs.length - (i+1)=j by omega,show zs.length - i=j+1 by omega,rm_ hjl]
  rw[show j+1=zs.length - i by omega] at hsplit
  generalize (j8_ ps ps.length)[j]=p at het hsplit hdrop
  obtain⟨hPl,hpn,hends⟩:=jhj_ hB.1 (wd:=wd) hsplit
  have het':=ka t _ (fun z=>by rw[z,edb] at het;cases het) het
  have hpb:p.2<=(pAt ps p.1).2.1.length:=by
   rcases hPl with ⟨_,h2 | h2⟩ | ⟨_,h2⟩
   ·omega
   ·exact q6_ ((hB.1.at hpn).2 _ h2).2
   ·omega
  have hvk:∀ e∈ends ps wd p.1 p.2,Cnt ps wd e (vK kvs e)/\valV kvs (posK e)=some (cV (vK kvs e)):=fun e he=>by
   obtain⟨o,ho,hv⟩:=hval e (hends e he)
   rw[vK_of hv];exact⟨ho,hv⟩
  obtain⟨po,hpo⟩:=Cnt.ex hB.1 (wd:=wd) hPl
  have hstep:=Cnt.step hB.1 hPl hpn (vK kvs) (fun e he=>(hvk e he).1) hpo
  refine j7_ ?_
  walk_at "go"
  refine⟨a,xs,ps,p.1,p.2,wd,rfl,sa _ _ ha,hxs.same sa,hB,by omega,hpb,fun fe ze Hc efe hze hzel sc=>?_⟩
  have edc:=sc _ _ eda
  have hzel2:=jby_ hze
  walk_at "go"
  intro c hc
  refine yl_ (K:=K) (xs:=ze) (fun k acc σ H'=>∃(v:Option V),σ=[some (.ref d),v]/\acc=(((ends ps wd p.1 p.2).take k).filterMap (vK kvs)).map (fun n:Nat=>V.int (n:Int))/\H' c=some (.lst acc)/\acc.length<=k/\Same Hc H')
   (fun k acc σ H' _ ⟨_,_,_,_,_,s⟩=>SqL.of (s _ _ efe)) ⟨none,rfl,rfl,jb_,pg_ _,ji_ hc _⟩ (fun k acc σ H' ⟨_,_,_,e,l,_⟩=>⟨e,l⟩) (szn (by omega)) ?_ ?_
  ·rintro k acc σ Hd hk ⟨v,rfl,hacc,ec,hal,sd⟩
   rw[hzel2] at hk
   obtain⟨te,hte,hete⟩:=jbz_ hze hk
   rw[hte]
   have htk:(ends ps wd p.1 p.2).take (k+1)=(ends ps wd p.1 p.2).take k++[(ends ps wd p.1 p.2)[k]]:=by rw[qb_,pa_ hk];rfl
   obtain⟨hv1,hv2⟩:=hvk _ (pw_ hk)
   generalize (ends ps wd p.1 p.2)[k]=e at htk hete hv1 hv2
   have eted:=sd _ _ hete
   have edd:=sd _ _ edc
   walk_at "go"
   refine jlm_ ?_
   walk_at "go"
   refine⟨d,_,rfl,hv2▸DGet.t (k:=posK e) edd eted,?_⟩
   walk_at "go"
   cases hve:vK kvs e with
   | none =>
    refine vd_ (by simp[cV]) ?_
    refine⟨_,rfl,?_,ec,by omega,sd⟩
    rw[hacc,htk,k4_]
    simp[hve]
   | some n =>
    rw[hve] at hv2
    refine u6_ (by simp[cV]) ?_
    walk_at "go"
    refine jlm_ ?_
    walk_at "go"
    refine⟨d,_,rfl,hv2▸DGet.t (k:=posK e) edd eted,?_⟩
    refine⟨ec,_,rfl,?_,jb_,by rw[pd_,ps_];omega,fun b' o eo=>?_⟩
    ·rw[hacc,htk,k4_]
     simp[hve,cV]
    ·rw[jf_ (fun z=>by rw[z,hc] at eo;cases eo)];exact sd _ _ eo
  ·rintro acc σ Hd ⟨v,rfl,hacc,ec,hal,sd⟩
   rw[hzel2,qc_] at hacc
   generalize hLL:(ends ps wd p.1 p.2).filterMap (vK kvs)=L at hacc hstep
   have edd:=sd _ _ edc
   have hetd:=(sc.trans sd) _ _ het'
   walk_at "go"
   refine jgl_ ?_
   walk_at "go"
   intro l0 hl0
   have s5:=ji_ hl0 (.lst [])
   have el0:=jb_ (H:=Hd) (a:=l0) (o:=.lst [])
   generalize upd Hd l0 (.lst [])=He at s5 el0 ⊢
   have ede:=s5 _ _ edd
   have hete:=s5 _ _ hetd
   have ece:=s5 _ _ ec
   have sae:=(sc.trans sd).trans s5
   have ok0:okD (.lst []):=(Lay.lst (n:=0) fun d hd=>by simp at hd).ok (by decide)
   have okz:okD (.lst (L.map fun n:Nat=>Dt.int (n:Int))):=(Lay.lst (n:=0) fun d hd=>by
    obtain⟨x,_,rfl⟩:=qj_.mp hd
    exact Lay.int).ok (by decide)
   refine i_neE (d:=.lst (L.map fun n:Nat=>Dt.int (n:Int))) (e:=.lst []) (by simp only[Is];exact⟨c,acc,rfl,ece,by rw[hacc];exact jiw_ L⟩) (by simp only[Is];exact⟨l0,[],rfl,el0,by simp only[L2.IsL]⟩) okz ok0 ?_
   have nxt:∃(v3 v4:Option V) (kvs':List (List Key×V)),[some (V.ref a),some (V.int (wd:Int)),some (V.ref d),some (V.ref t),some (V.ref c)]=[some (V.ref a),some (V.int (wd:Int)),some (V.ref d),v3,v4]/\i+1<=zs.length/\upd He d (.dT (putK kvs (posK p) (cV po))) d=some (.dT kvs')/\kvs'.length<=i+1+1/\(∀ e,(e∈(j8_ ps ps.length).drop (zs.length - (i+1))∨e=(ps.length,0))->∃ o,Cnt ps wd e o/\valV kvs' (posK e)=some (cV o))/\Kept d Hb (upd He d (.dT (putK kvs (posK p) (cV po))))/\Same H (upd He d (.dT (putK kvs (posK p) (cV po)))):=by
    refine⟨_,_,_,rfl,hi,jb_,by have:=xb_ kvs (posK p) (cV po);omega,fun e he=>?_,fun b o hb eo=>?_,fun b o eo=>?_⟩
    ·by_cases c1:e=p
     ·subst c1
      exact⟨po,hpo,by rw[jjo_,if_pos rfl]⟩
     ·have he':e∈(j8_ ps ps.length).drop (zs.length - i)∨e=(ps.length,0):=by
       rcases he with he | he
       ·rw[hdrop] at he
        rcases pz_.mp he with h | h
        ·exact absurd h c1
        ·exact .inl h
       ·exact .inr he
      obtain⟨o,ho,hv⟩:=hval e he'
      exact⟨o,ho,by rw[jjo_,if_neg (fun z=>c1 (jsy_ z))];exact hv⟩
    ·rw[jf_ hb];exact sae _ _ (ka _ _ hb eo)
    ·rw[jf_ (jg_ eo hd0)];exact sae _ _ (sa _ _ eo)
   have hkz:kvs.length < sizeLine:=szn (by omega)
   rcases hstep with ⟨hL,ho⟩ | ⟨m,hm,hmin,ho⟩
   ·have hq:eqD (.lst (L.map fun n:Nat=>Dt.int (n:Int))) (.lst [])=true:=by rw[hL];exact jed_ ok0
    rw[hq]
    rw[ho] at nxt
    walk_at "go"
    exact⟨d,_,rfl,DPut.t (k:=posK p) ede hete hkz,nxt⟩
   ·have hLne:L≠[]:=fun z=>by rw[z] at hm;cases hm
    have hq:eqD (.lst (L.map fun n:Nat=>Dt.int (n:Int))) (.lst [])=false:=by
     cases hE:L with
     | nil=>exact absurd hE hLne
     | cons x r=>unfold eqD;simp[toP,toPs,PyData.eqv,PyData.eqvAll]
    rw[hq]
    walk_at "go"
    refine jxl_ (ns:=L.map fun n:Nat=>(n:Int)) (by rw[ece,hacc,qn_];rfl) (by simpa using hLne) fun m' hm' hle=>?_
    have em:m'=(m:Int):=by
     obtain⟨n,hn,rfl⟩:=qj_.mp hm'
     have h1:=hmin n hn
     have h2:=hle (m:Int) (qj_.mpr ⟨m,hm,rfl⟩)
     omega
    subst em
    walk_at "go"
    have e1:V.int (1+(m:Int))=cV po:=by rw[ho];show V.int _=V.int ((1+m:Nat):Int);congr 1
    rw[e1]
    exact⟨d,_,rfl,DPut.t (k:=posK p) ede hete hkz,nxt⟩
 ·rintro σ Ha ⟨v3,v4,kvs,rfl,hi0,eda,hkl,hval,ka,sa⟩
  rw[l4_,rd_] at hval
  obtain⟨o,ho,hv⟩:=hval (0,0) (by
   rcases qh_ ps.length with z | z
   ·exact .inr (by rw[z])
   ·exact .inl (begins_mem.mpr ⟨z,.inl rfl⟩))
  walk_at "go"
  refine jxg_ ?_
  walk_at "go"
  refine⟨d,rfl,.inr ⟨_,.inl eda⟩,?_⟩
  walk_at "go"
  intro t1 ht1
  have s6:=ji_ ht1 (.tup [.int 0,.int 0])
  have et1:=jb_ (H:=Ha) (a:=t1) (o:=.tup [.int 0,.int 0])
  generalize upd Ha t1 (.tup [.int 0,.int 0])=Hb' at s6 et1 ⊢
  walk_at "go"
  refine⟨_,DGet.t (k:=posK (0,0)) (s6 _ _ eda) et1,?_⟩
  rw[hv]
  exact q o Hb' ho (sa.trans s6)
end
abbrev s_law_asked:Stmt:=top 57
theorem sc_law_asked:FnScope ["_law_tongues","_law_things_here","_law_width_here","_law_told","e","_law_others"] ["_law_tongues","_law_things_here","_law_width_here"] (jl_ s_law_asked):=by walk_at "f"
def u4_ (C CT:Addr):Sp:=fun vs H Q _=>∃(tp td a:Addr) (kvs kws:List (Key×V)) (ms:List (List Nat×Bp)) (ls:List (List Nat)) (ps:List Pi4) (wd:Nat),vs=[.ref tp,.ref a,.int (wd:Int)]/\TgAt CT H tp td kvs/\TR C H kvs kws ms/\H a=some (.lst (ls.map fun l=>V.str (S l)))/\ls.length<=100/\TxOk ms ls/\(prun ms ls).ds=ps.map pD/\PsB ps/\1<=wd/\wd<=1000 /\
 (∀(lns:List (List Nat)) (r l:Addr) (H':Hp),Prs ps wd 0 0 lns none->H l=none->H' r=some (.tup [.str (qd_ "lines"),.ref l])->H' l=some (.lst (lns.map fun l=>V.str (S l)))->Same H H'->Q (.ref r) H') /\
 (∀(lns:List (List Nat)) (k:Nat) (r:Addr) (H':Hp),Prs ps wd 0 0 lns (some k)->H' r=some (.tup [.str (qd_ "narrow"),.int (k:Int)])->Same H H'->Q (.ref r) H')
section
variable {P:Program} {w:World} {K:pb_} {mg:Str->Option Value} {base:Heap} {f:Addr} {fd:FuncData} {tk:Nat->Tok} {cO cO2 mkT:Addr} {ad:Nat->Addr}
theorem Cs.ne (Z:Cs K mg ad) (i j:Nat) (hi:i < 8) (hj:j < 8) (h:i≠j):ad i≠ad j:=fun e=>by
 have nd:=Z.nd
 have h1:∀ k,k < 8->([ad 0,ad 1,ad 2,ad 3,ad 4,ad 5,ad 6,ad 7]:List Addr)[k]?=some (ad k):=fun k hk=>by
  match k,hk with
  | 0,_=>rfl
  | 1,_=>rfl
  | 2,_=>rfl
  | 3,_=>rfl
  | 4,_=>rfl
  | 5,_=>rfl
  | 6,_=>rfl
  | 7,_=>rfl
 exact h ((List.getElem?_inj (by show i < 8;exact hi) nd).mp (by rw[h1 i hi,h1 j hj,e]))
theorem jhn_ (T:Txt mg tk) (Z:Cs K mg ad) (F:Fun K "_law_asked" "_law_asked" s_law_asked f fd) (D_pressed:DnX P w K mg base "pressed" 7 ["tongues","text","width"] (jdv_ cO cO2 (ad 4))):FnOk P w K mg base CX0 8 f fd ["_law_tongues","_law_things_here","_law_width_here"] (u4_ cO cO2):=by
 refine F.ok sc_law_asked (fun vs H Q E h=>?_) (fun cdv A outer s H vs Q E hr h=>?_)
 ·obtain⟨tp,td,a,kvs,kws,ms,ls,ps,wd,rfl,_⟩:=h
  rfl
 obtain⟨tp,td,a,kvs,kws,ms,ls,ps,wd,rfl,hT,hR,ha,hll,hTx,hds,hps,hw1,hw2,q,qn⟩:=h
 have nd:=sc_law_asked.nd
 obtain⟨EXC,hX⟩:∃ EXC:XK,EXC=fun v od H'=>∃(e d:Addr) (k:Nat) (lns:List (List Nat)),v=.ref e/\od=some d/\Prs ps wd 0 0 lns (some k)/\H' e=some (XO e (ad 4) (some d) false)/\H' d=some (.xd [((qd_ "place":Str),.int (k:Int))])/\Same H H':=⟨_,rfl⟩
 have hEXC:∀ x od H',EXC (.ref x) od H'->∃ C,H' x=some (XO x C od false)/\Exc K (ad 0) C:=fun x od H' h=>by
  rw[hX] at h
  obtain⟨e,d,k,lns,e1,rfl,_,h1,_,_⟩:=h
  cases e1
  exact⟨ad 4,h1,Z.x_TooNarrow⟩
 refine⟨_,(je_ (jk_ (i:=3) nd rfl (Or.inl rfl) (z4_ (ja_ j1_ (ja_ jaw_ jc_))))
  (je_ (jzr_ (i:=4) (EX:=EXC) rfl rfl nd rfl rfl rfl Z.m_WordError Z.w_WordError hEXC (fun pn xe hxe=>(jh_ (jk_ (i:=3) nd rfl (Or.inl rfl) (z4_ (ja_ j1_ (ja_ (jva_ D_pressed hr.mo_ rfl hxe (ja_ (pv 0) (ja_ (pv 1) (ja_ (pv 2) jc_)))) jc_))))))
   (fun xx=>(je_ (jk_ (i:=5) nd rfl (Or.inl rfl) (jp_ (jwd_ (K:=K)) rfl T.z_isinstance (by decide +kernel) (ja_ (pv 4) (ja_ (z4_ (ja_ (yp_ (v:=.ref _) rfl Z.m_NoPattern rfl) (ja_ (yp_ (v:=.ref _) rfl Z.m_NoRow rfl) (ja_ (yp_ (v:=.ref _) rfl Z.m_NoThing rfl) (ja_ (yp_ (v:=.ref _) rfl Z.m_NoTongue rfl) (ja_ (yp_ (v:=.ref _) rfl Z.m_NoWord rfl) (ja_ (yp_ (v:=.ref _) rfl Z.m_Twice rfl) jc_))))))) jc_))))
  (jh_ (ze_ (PW.pt (jaq_ (x0_ (jp_ (juy_ (K:=K)) rfl T.z_isinstance (by decide +kernel) (ja_ (pv 4) (ja_ (yp_ (v:=.ref _) rfl Z.m_TooNarrow rfl) jc_))) (fun _=>rfl)) (jaq_ (jlp_ (x0_ (pv 5) (fun _=>rfl))) (jbx_ (x0_ (jp_ (juy_ (K:=K)) rfl T.z_isinstance (by decide +kernel) (ja_ (pv 4) (ja_ (jxr_ (v:=.ty "ValueError") rfl T.z_ValueError (by decide +kernel) rfl) jc_))) (fun _=>rfl))))))
   (jh_ (jk_ (i:=3) nd rfl (Or.inl rfl) (z4_ (ja_ j1_ (ja_ (jxa_ (K:=K) (pv 4) rfl) jc_)))))
   j2_)))))
  (jh_ (jr_ (pv 3))))),?_⟩
 rw[show L2.start ["_law_tongues","_law_things_here","_law_width_here","_law_told","e","_law_others"] [.ref tp,.ref a,.int (wd:Int)]=[some (.ref tp),some (.ref a),some (.int (wd:Int)),none,none,none] from rfl]
 walk_at "go"
 intro t0 ht0
 have s1:=ji_ ht0 (.tup [.str (qd_ "other"),.non])
 generalize upd H t0 (.tup [.str (qd_ "other"),.non])=H1 at s1 ⊢
 walk_at "go"
 refine i_try ?_ ?_
 ·walk_at "go"
  refine⟨tp,td,a,kvs,kws,ms,ls,ps,wd,rfl,hT.same s1,hR.same s1,s1 _ _ ha,hll,hTx,hds,hps,hw1,hw2,fun lns r H2 hp hr0 er s2=>?_,fun lns k hp e d H' h1 h2 s'=>?_⟩
  ·have hrH:H r=none:=by
    cases e:H r with
    | none=>rfl
    | some o=>exact absurd (s1 r o e) (by rw[hr0];exact fun z=>nomatch z)
   walk_at "go"
   intro t3 ht3
   have s3:=ji_ ht3 (.tup [.str (qd_ "lines"),.ref r])
   walk_at "go"
   exact q lns t3 r _ hp hrH jb_ (s3 _ _ er) ((s1.trans s2).trans s3)
  ·rw[hX]
   exact⟨e,d,k,lns,rfl,rfl,hp,h1,h2,s1.trans s'⟩
 ·intro σ' v x od H' hlen hE hv
  rw[hX] at hE
  obtain⟨x',d,k,lns,e1,rfl,hp,h1,h2,s'⟩:=hE
  cases e1
  subst hv
  obtain⟨a0,a1,a2,a3,a4,a5,rfl⟩:∃ a0 a1 a2 a3 a4 a5,σ'=[a0,a1,a2,a3,a4,a5]:=by
   match σ',hlen with
   | [a0,a1,a2,a3,a4,a5],_=>exact⟨a0,a1,a2,a3,a4,a5,rfl⟩
  have hne:=Z.ne
  walk_at "go"
  intro t ht
  have st:=ji_ ht (.tup [.ref (ad 2),.ref (ad 7),.ref (ad 3),.ref (ad 6),.ref (ad 1),.ref (ad 5)])
  have ett:=jb_ (H:=H') (a:=t) (o:=.tup [.ref (ad 2),.ref (ad 7),.ref (ad 3),.ref (ad 6),.ref (ad 1),.ref (ad 5)])
  have h1':=st _ _ h1
  have h2':=st _ _ h2
  have s2:=s'.trans st
  generalize upd H' t (.tup [.ref (ad 2),.ref (ad 7),.ref (ad 3),.ref (ad 6),.ref (ad 1),.ref (ad 5)])=H2 at ett h1' h2' s2 ⊢
  have hD:∀ d',some d=some d'->∃ fs,H2 d'=some (.xd fs):=fun d' e=>by cases e;exact⟨_,h2'⟩
  walk_at "go"
  refine jxs_ (cs:=[ad 2,ad 7,ad 3,ad 6,ad 1,ad 5]) ett h1' hD Z.x_TooNarrow ?_ ?_
  ·intro c hc
   simp only[pz_,kj_,or_false] at hc
   rcases hc with rfl | rfl | rfl | rfl | rfl | rfl
   ·exact y4_ Z.x_TooNarrow Z.x_NoPattern (hne 4 2 (by decide) (by decide) (by decide)) (hne 2 0 (by decide) (by decide) (by decide))
   ·exact y4_ Z.x_TooNarrow Z.x_NoRow (hne 4 7 (by decide) (by decide) (by decide)) (hne 7 0 (by decide) (by decide) (by decide))
   ·exact y4_ Z.x_TooNarrow Z.x_NoThing (hne 4 3 (by decide) (by decide) (by decide)) (hne 3 0 (by decide) (by decide) (by decide))
   ·exact y4_ Z.x_TooNarrow Z.x_NoTongue (hne 4 6 (by decide) (by decide) (by decide)) (hne 6 0 (by decide) (by decide) (by decide))
   ·exact y4_ Z.x_TooNarrow Z.x_NoWord (hne 4 1 (by decide) (by decide) (by decide)) (hne 1 0 (by decide) (by decide) (by decide))
   ·exact y4_ Z.x_TooNarrow Z.x_Twice (hne 4 5 (by decide) (by decide) (by decide)) (hne 5 0 (by decide) (by decide) (by decide))
  walk_at "go"
  refine jul_ h1' hD Z.x_TooNarrow (fun u h=>h) (juw_ Z.x_TooNarrow) ?_
  walk_at "go"
  refine jul_ h1' hD Z.x_TooNarrow (fun u h=>h) (kit_ve Z.x_TooNarrow) ?_
  walk_at "go"
  refine i_fldX ?_
  walk_at "go"
  refine⟨x,ad 4,ad 0,d,false,_,.int (k:Int),rfl,h1',h2',Z.x_TooNarrow,Z.n_TooNarrow,rfl,?_⟩
  walk_at "go"
  intro t4 ht4
  have s4:=ji_ ht4 (.tup [.str (qd_ "narrow"),.int (k:Int)])
  walk_at "go"
  exact qn lns k t4 _ hp jb_ (s2.trans s4)
end
def jba_ (p:Pi4):Prop:=GW p.2.1/\(p.2.2.1=[]∨∃ c,z3_ c=true/\p.2.2.1=[c])/\Rise 0 p.2.1.length p.2.2.2
theorem jga_ {ms:List (List Nat×Bp)} {ls:List (List Nat)} (hO:∀ z b,zw_ ms z=some b->OkB b.pats b.told) (hX:TxOk ms ls):∀ i,i<=ls.length->∃ ps:List Pi4,(prun ms (ls.take i)).ds=ps.map pD/\ps.length<=i/\∀ p∈ps,p.1<=i/\jba_ p
 | 0,_=>⟨[],by simp[prun],pg_ _,fun p hp=>nomatch hp⟩
 | i+1,h2=>by
  have hi:i < ls.length:=by omega
  obtain⟨ps,e1,e2,e3⟩:=jga_ hO hX i (by omega)
  have htk:ls.take (i+1)=ls.take i++[ls[i]]:=by rw[qb_,pa_ hi];rfl
  rw[htk,zi_]
  unfold y1_
  by_cases ha:isAt ls[i]=true
  ·rw[if_pos ha]
   exact⟨ps,e1,by omega,fun p hp=>⟨by have:=(e3 p hp).1;omega,(e3 p hp).2⟩⟩
  ·rw[if_neg ha]
   rcases hX.1 _ (pw_ hi) with ⟨nm,e,_,_⟩ | ⟨w,m,hw,hm,e⟩
   ·rw[e] at ha;exact absurd (by simp[isAt]) ha
   ·have hi1:1<=i:=by
     rcases qh_ i with rfl | h
     ·exact absurd (hX.2 _ (pa_ hi)) ha
     ·exact h
    obtain⟨nb,hnb,hnl⟩:=jog_ hX i hi1 (by omega)
    obtain⟨g,hg,hR⟩:=jqo_ (hO _ _ hnl) nb.2.hd nb.2.tl (w:=w) hw.2.1
    refine⟨ps++[(i,w,m,g)],?_,by rw[pd_,ps_];omega,fun p hp=>?_⟩
    ·simp only[hnb]
     rw[e1,pi_,e,(yj_ hw hm).2.1,(yj_ hw hm).1,jml_,p2_,wm_ (by omega)]
     unfold jin_
     rw[hg];rfl
    ·rcases p0_.mp hp with hp | hp
     ·exact⟨by have:=(e3 p hp).1;omega,(e3 p hp).2⟩
     ·have:p=(i,w,m,g):=by simpa using hp
      subst this
      exact⟨by simp only;omega,hw,hm,hR⟩
theorem jov_ {n:Nat}:∀{b:Nat} {g:List Nat},Rise b n g->g.Pairwise (· < ·)
 | _,[],_=>rs_.nil
 | b,x::g,r=>List.pairwise_cons.mpr ⟨fun y hy=>(Rise.mem r.2.2 y hy).1,jov_ r.2.2⟩
theorem psB_of {ps:List Pi4} (hl:ps.length<=100) (h:∀ p∈ps,p.1<=100/\jba_ p):PsB ps:=by
 refine⟨fun p hp=>?_,hl,fun p hp=>?_⟩
 ·obtain⟨_,_,_,hR⟩:=h p hp
  exact⟨jov_ hR,fun x hx=>Rise.mem hR x hx⟩
 ·obtain⟨h1,hw,hm,hR⟩:=h p hp
  have:=jck_ hR (qe_ _)
  have h2:=hw.2.1
  have h3:=hw.2.2
  refine⟨by omega,by omega,by omega,?_,by omega⟩
  rcases hm with e | ⟨c,_,e⟩ <;> rw[e] <;> simp
theorem jam_ {p:Pi4} (h:jba_ p):∀ c∈p.2.1++p.2.2.1,c=33∨c=44∨c=46∨c=58∨c=59∨c=63∨(97<=c/\c<=122):=fun c hc=>by
 rcases p0_.mp hc with hc | hc
 ·have:=h.1.1 c hc
  unfold vb_ at this
  have:=of_decide_eq_true this
  omega
 ·rcases h.2.1 with e | ⟨d,hd,e⟩
  ·rw[e] at hc;cases hc
  ·rw[e] at hc
   have:c=d:=by simpa using hc
   subst this
   unfold z3_ at hd
   simp only[ti_,qv_,l5_,w9_,Bool.or_eq_true,beq_iff_eq] at hd
   omega
theorem psC_of {ps:List Pi4} (h:∀ p∈ps,jba_ p):PsC ps:=fun p hp c hc=>by
 have:=jam_ (h p hp) c hc
 omega
theorem sp_no {c:Nat} (h:c=33∨c=44∨c=46∨c=58∨c=59∨c=63∨(97<=c/\c<=122)):sp c=false:=by
 have h2:c < 128:=by omega
 have h3:∀ c,c < 128->(c=33∨c=44∨c=46∨c=58∨c=59∨c=63∨(97<=c/\c<=122))->sp c=false:=by decide +kernel
 exact h3 c h2 h
theorem jvr_ {p:Pi4} (h:jba_ p):NoSp (p.2.1++p.2.2.1):=⟨fun z=>by
 have:=h.1.2.1
 have:=congrArg sm_ z
 rw[pd_,p1_] at this
 omega,fun c hc=>sp_no (jam_ h c hc)⟩
theorem jug_ (ps:List Pi4):vc_ ps 0 0=ps.map fun p=>p.2.1++p.2.2.1:=by
 unfold vc_
 rw[rd_,List.mapIdx_eq_zipIdx_map]
 have:∀(l:List Pi4) (n:Nat),(l.zipIdx n).map (fun x=>x.1.2.1.drop (if x.2=0 then 0 else 0)++x.1.2.2.1)=l.map fun p=>p.2.1++p.2.2.1:=by
  intro l
  induction l with
  | nil=>intro n;rfl
  | cons x l ih=>intro n;rw[List.zipIdx_cons,pj_,ih,pj_];simp
 exact this ps 0
theorem jng_ {ps:List Pi4} (h:∀ p∈ps,jba_ p) {n b:Nat} (hb:b<=(pAt ps n).2.1.length):∀{k:Nat},n < k->k<=ps.length->((zl_ ps n b k).map (·.length)).sum+b<=21 * (k - n)/\(zl_ ps n b k).length=k - n
 | 0,hk,_=>by omega
 | k+1,hk,hl=>by
  have hgk:GW (pAt ps k).2.1/\(pAt ps k).2.2.1.length<=1:=by
   have hpe:pAt ps k=ps[k]:=by unfold pAt;rw[pe_,pa_ (by omega)];rfl
   have:=h _ (pw_ (show k < ps.length by omega))
   rw[hpe]
   refine⟨this.1,?_⟩
   rcases this.2.1 with e | ⟨c,_,e⟩ <;> rw[e] <;> simp
  have h20:=hgk.1.2.2
  have hr:(zr_ ps k (at_ n b k)).length+at_ n b k<=21+(if k=n then 0 else 0)∨True:=.inr trivial
  rw[ym_ (by omega),pi_,tt_,pd_,pj_,p8_,ru_,tj_,ps_]
  by_cases c:k=n
  ·subst c
   rw[yi_ (pg_ _)]
   have:at_ k b k=b:=by unfold at_;rw[if_pos rfl]
   rw[this]
   unfold zr_
   rw[pd_,px_]
   simp only[p8_,tj_,p1_]
   omega
  ·have ih:=jng_ h hb (k:=k) (by omega) (by omega)
   have:at_ n b k=0:=by unfold at_;rw[if_neg c]
   rw[this]
   unfold zr_
   rw[rd_,pd_]
   omega
theorem jlo_ {ps:List Pi4} (hB:PsB ps) (h:∀ p∈ps,jba_ p) {wd n b:Nat} {ls:List (List Nat)} {r:Option Nat} (hp:Prs ps wd n b ls r):b<=(pAt ps n).2.1.length->(ls.map (·.length)).sum+ls.length+4 * b<=100 * (ps.length - n):=by
 have hat:∀ k,k < ps.length->(pAt ps k).2.1.length<=20:=fun k hk=>by
  have hpe:pAt ps k=ps[k]:=by unfold pAt;rw[pe_,pa_ hk];rfl
  rw[hpe]
  exact(h _ (pw_ hk)).1.2.2
 induction hp with
 | @done n b hn =>
  intro hb
  have:pAt ps n=p0:=by unfold pAt;rw[pe_,t7_ hn];rfl
  rw[this] at hb
  have:b<=0:=hb
  simp;omega
 | @narrow n b hn he =>
  intro hb
  have:=hat n hn
  simp;omega
 | @line n b e ls r hn he hr ih =>
  intro hb
  obtain⟨h1,h2,h3,h4⟩:=joj_ hB.1 he
  have hb20:=hat n hn
  have hx2:e.2<=(pAt ps e.1).2.1.length:=by
   rcases qh_ e.2 with z | z
   ·omega
   ·exact q6_ (h3 z).2.2
  have ih:=ih hx2
  rw[pj_,ru_,pr_]
  have hll:(za_ ps n b e).length+1+4 * b<=100 * (e.1 - n)+4 * e.2:=by
   unfold za_
   rcases r7_ n e.1 with c | c
   ·have hp20:=jng_ h hb c h2
    rcases qh_ e.2 with z | z
    ·rw[if_neg (by omega),py_]
     have:=xq_ (zl_ ps n b e.1)
     omega
    ·rw[if_pos z]
     have:=xq_ (zl_ ps n b e.1++[((pAt ps e.1).2.1.take e.2).drop (at_ n b e.1)++[45]])
     rw[pi_,tt_,pd_ (as:=zl_ ps n b e.1),pj_,p8_,ru_,tj_,pd_ (bs:=[45]),px_,p2_,ps_,ps_] at this
     have:=Nat.min_le_left e.2 (pAt ps e.1).2.1.length
     omega
   ·have e1:e.1=n:=by omega
    rcases qh_ e.2 with z | z
    ·have:=h4 z;omega
    ·have h5:=(h3 z).2.1
     have:at_ n b e.1=b:=by unfold at_;rw[if_pos e1]
     rw[this] at h5 ⊢
     rw[if_pos z,yi_ (by omega)]
     show (((pAt ps e.1).2.1.take e.2).drop b++[45]).length+1+4 * b<=_
     rw[pd_,px_,p2_,ps_]
     have:=Nat.min_le_left e.2 (pAt ps e.1).2.1.length
     omega
  omega
def ToldAt (ps:List Pi4) (wd:Nat) (H H':Hp) (r:Addr):Prop:=(∃(lns:List (List Nat)) (l:Addr),Prs ps wd 0 0 lns none/\H l=none/\H' r=some (.tup [.str (qd_ "lines"),.ref l])/\H' l=some (.lst (lns.map fun l=>V.str (S l))))∨(∃(lns:List (List Nat)) (k:Nat),Prs ps wd 0 0 lns (some k)/\H' r=some (.tup [.str (qd_ "narrow"),.int (k:Int)]))
theorem jox_ {C CT:Addr} {vs:List V} {H:Hp} {Q:VK} {E:XK} (h:∃(tp td a:Addr) (kvs kws:List (Key×V)) (ms:List (List Nat×Bp)) (ls:List (List Nat)) (ps:List Pi4) (wd:Nat),vs=[.ref tp,.ref a,.int (wd:Int)]/\TgAt CT H tp td kvs/\TR C H kvs kws ms/\H a=some (.lst (ls.map fun l=>V.str (S l)))/\ls.length<=100/\TxOk ms ls/\(prun ms ls).ds=ps.map pD/\PsB ps/\1<=wd/\wd<=1000/\∀(r:Addr) (H':Hp),ToldAt ps wd H H' r->Same H H'->Q (.ref r) H'):u4_ C CT vs H Q E:=by
 obtain⟨tp,td,a,kvs,kws,ms,ls,ps,wd,h1,h2,h3,h4,h5,h6,h7,h8,h9,h10,h11⟩:=h
 exact⟨tp,td,a,kvs,kws,ms,ls,ps,wd,h1,h2,h3,h4,h5,h6,h7,h8,h9,h10,fun lns r l H' hp hn hr hl s=>h11 r H' (.inl ⟨lns,l,hp,hn,hr,hl⟩) s,fun lns k r H' hp hr s=>h11 r H' (.inr ⟨lns,k,hp,hr⟩) s⟩
theorem jdu_ {H:Hp}:∀ ls:List (List Nat),L2.IsL H (ls.map fun l=>V.str (S l)) (ls.map fun l=>Dt.str (S l))
 | []=>by simp only[p8_,L2.IsL]
 | x::ls=>by simp only[pj_,L2.IsL,Is];exact⟨by first | rfl | trivial,jdu_ ls⟩
def jco_ (C CT:Addr):Sp:=fun vs H Q _=>∃(tp td sd a:Addr) (kvs kws:List (Key×V)) (ms:List (List Nat×Bp)) (ls:List (List Nat)) (wd:Nat),vs=[.ref tp,.ref sd,.ref a,.int (wd:Int)]/\TgAt CT H tp td kvs/\H sd=some (.dK kws)/\TR C H kvs kws ms/\H a=some (.lst (ls.map fun l=>V.str (S l)))/\ls.length<=100/\TxOk ms ls/\1<=wd/\wd<=1000/\∀ H',Same H H'->Q (.bl true) H'
section
variable {P:Program} {w:World} {K:pb_} {mg:Str->Option Value} {base:Heap} {f:Addr} {fd:FuncData} {tk:Nat->Tok} {cO cO2 mkT:Addr} {ad:Nat->Addr}
theorem jid_ (T:Txt mg tk) (F:Fun K "_law_right" "_law_right" s_law_right f fd) (D_law_pieces:Dn P w K mg base "_law_pieces" 3 ["_law_some_here","_law_things_here"] jac_) (D_law_fewest:Dn P w K mg base "_law_fewest" 3 ["_law_some_here","_law_width_here"] jdt_) (D_law_asked:Dn P w K mg base "_law_asked" 8 ["_law_tongues","_law_things_here","_law_width_here"] (u4_ cO cO2)) (D_joined:Dn P w K mg base "joined" 1 ["lines"] jci_):FnOk P w K mg base CX0 9 f fd ["_law_tongues","_law_some_here","_law_things_here","_law_width_here"] (jco_ cO cO2):=by
 refine F.ok sc_law_right (fun vs H Q E h=>?_) (fun cdv A outer s H vs Q E hr h=>?_)
 ·obtain⟨tp,td,sd,a,kvs,kws,ms,ls,wd,rfl,_⟩:=h
  rfl
 obtain⟨tp,td,sd,a,kvs,kws,ms,ls,wd,rfl,hT,hsd,hR,ha,hll,hX,hw1,hw2,q⟩:=h
 have nd:=sc_law_right.nd
 obtain⟨ps,hds,hpl,hpg⟩:=jga_ (fun z b e=>by obtain⟨_,_,_,_,h⟩:=hR.look z b e;exact h.2.2.2.2) hX ls.length (pg_ _)
 rw[qc_] at hds
 have hB:PsB ps:=psB_of (by omega) fun p hp=>⟨by have:=(hpg p hp).1;omega,(hpg p hp).2⟩
 have hPg:∀ p∈ps,jba_ p:=fun p hp=>(hpg p hp).2
 refine⟨_,(je_ (jk_ (i:=4) nd rfl (Or.inl rfl) (jj_ D_law_pieces hr.mo_ rfl (ja_ (pv 1) (ja_ (pv 2) jc_))))
  (je_ (jk_ (i:=5) nd rfl (Or.inl rfl) (jj_ D_law_fewest hr.mo_ rfl (ja_ (pv 4) (ja_ (pv 3) jc_))))
  (je_ (jk_ (i:=6) nd rfl (Or.inl rfl) (jj_ D_law_asked hr.mo_ rfl (ja_ (pv 0) (ja_ (pv 2) (ja_ (pv 3) jc_)))))
  (je_ (ze_ (jq_ o_is (pv 5) jaw_ (jv_ _))
   (jh_ (jr_ (uk_ (o_eq hr.units) (jt_ (jo_ (K:=K)) (pv 6) jd_ (fun _ _=>rfl)) j1_ (jv_ _))))
   j2_)
  (je_ (ze_ (PW.pt (jnj_ (jq_ (o_ne hr.units) (jt_ (jo_ (K:=K)) (pv 6) jd_ (fun _ _=>rfl)) j1_ (jv_ _)) (jhf_ (jq_ (o_ne hr.units) (jp_ (zo_ (K:=K)) rfl T.z_len (by decide +kernel) (ja_ (jt_ (jo_ (K:=K)) (pv 6) jd_ (fun _ _=>rfl)) jc_)) (pv 5) (jv_ _)))))
   (jh_ (jr_ jnu_))
   j2_)
  (je_ (ze_ (jq_ (o_ne hr.units) (zu_ ["_law_width_here","_law_line_here"] [some 3,none] rfl (by kernel_rfl) rfl (zt_ (K:=K) (jt_ (jo_ (K:=K)) (pv 6) jd_ (fun _ _=>rfl))) (fun _ _ _ _=>(jm_ (i:=1) (show (["_law_width_here","_law_line_here"]:List Str).Nodup by decide +kernel) rfl (Or.inl rfl) (Or.inr rfl))) (fun _ _ _ _=>(y2_ (PW.pt (jnj_ (jq_ o_gt (jp_ (zo_ (K:=K)) rfl T.z_len (by decide +kernel) (ja_ (pv 1) jc_)) (pv 0) (jv_ _)) (jhf_ (jq_ (o_eq hr.units) (pv 1) j1_ (jv_ _))))))) (fun _ _ _ _=>(pv 1))) (j5_ jc_) (jv_ _))
   (jh_ (jr_ jnu_))
   j2_)
  (jh_ (jr_ (uk_ (o_eq hr.units) (jj_ D_joined hr.mo_ rfl (ja_ (jt_ (jo_ (K:=K)) (pv 6) jd_ (fun _ _=>rfl)) jc_)) (zu_ ["_law_one"] [none] rfl (by kernel_rfl) rfl (zt_ (K:=K) (pv 4)) (fun _ _ _ _=>(jm_ (i:=0) (show (["_law_one"]:List Str).Nodup by decide +kernel) rfl (Or.inl rfl) (Or.inr rfl))) (fun _ _ _ _=>xg_) (fun _ _ _ _=>(jn_ jx_ (jt_ (jo_ (K:=K)) (pv 0) jd_ (fun _ _=>rfl)) (jt_ (jo_ (K:=K)) (pv 0) jd_ (fun _ _=>rfl))))) (jv_ _)))))))))),?_⟩
 rw[show L2.start ["_law_tongues","_law_some_here","_law_things_here","_law_width_here","_law_words_here","_law_due","_law_told"] [.ref tp,.ref sd,.ref a,.int (wd:Int)]=[some (.ref tp),some (.ref sd),some (.ref a),some (.int (wd:Int)),none,none,none] from rfl]
 rw[x1_]
 walk_at "go"
 refine⟨sd,a,kws,ms,ls,rfl,hsd,hR.pr,ha,by omega,hX,fun pc xs H1 hpc epc hxs s1=>?_⟩
 rw[hds] at hxs
 have hxl:=hxs.length
 rw[pc_] at hxl
 walk_at "go"
 refine⟨pc,xs,ps,wd,rfl,epc,hxs,hB,fun o H2 hcnt s2=>?_⟩
 have s02:=s1.trans s2
 walk_at "go"
 refine jox_ ⟨tp,td,a,kvs,kws,ms,ls,ps,wd,rfl,hT.same s02,hR.same s02,s02 _ _ ha,hll,hX,hds,hB,hw1,hw2,fun to H3 hto s3=>?_⟩
 have s03:=s02.trans s3
 have s13:=s2.trans s3
 rcases hto with ⟨lns,l,hp,hl,er,el⟩ | ⟨lns,k,hp,er⟩
 ·have ho:o=some lns.length:=hcnt.one ⟨lns,none,hp,rfl⟩
  subst ho
  have hwt:=jlo_ hB hPg hp (qe_ _)
  have hlns:=hp.lines hB.1 (by
   rcases qh_ ps.length with z | z
   ·exact .inr ⟨z.symm,rfl⟩
   ·exact .inl ⟨z,.inl rfl⟩) fun k hk=>(hB.at hk).2.1
  simp only[cV]
  walk_at "go"
  try rw[pc_]
  try refine vd_ (by simp) ?_
  walk_at "go"
  intro c hc
  refine yl_ (K:=K) (xs:=lns.map fun l=>V.str (S l)) (fun j acc σ H'=>∃(v:Option V),σ=[some (.int (wd:Int)),v]/\acc=[]/\H' c=some (.lst acc)/\Same H3 H')
   (fun j acc σ H' _ ⟨_,_,_,_,s⟩=>SqL.of (s _ _ el)) ⟨none,rfl,rfl,jb_,ji_ hc _⟩ (fun j acc σ H' ⟨_,_,e,e2,_⟩=>⟨e2,by rw[e];exact qe_ _⟩) (szn (by rw[pc_];omega)) ?_ ?_
  ·rintro j acc σ Hf hj ⟨v,rfl,rfl,ec,sf⟩
   rw[pc_] at hj
   have hgi:(lns.map fun l=>V.str (S l)).getD j .non=.str (S lns[j]):=by
    rw[pe_,pm_,pa_ hj];rfl
   rw[hgi]
   obtain⟨h1,h2⟩:=hlns _ (pw_ hj)
   generalize lns[j]=z at h1 h2 ⊢
   have hz:z.length<=1000:=by omega
   walk_at "go"
   refine vd_ (by simp;omega) ?_
   walk_at "go"
   refine vd_ (by
    refine decide_eq_false fun e=>h2 ?_
    injection e with e
    exact jge_ e) ?_
   exact⟨_,rfl,rfl,ec,sf⟩
  ·rintro acc σ H4 ⟨v,rfl,rfl,ec,s4⟩
   walk_at "go"
   intro l0 hl0
   have s5:=ji_ hl0 (.lst [])
   have el0:=jb_ (H:=H4) (a:=l0) (o:=.lst [])
   generalize upd H4 l0 (.lst [])=H5 at s5 el0 ⊢
   have ec5:=s5 _ _ ec
   have er5:=s5 _ _ (s4 _ _ er)
   have el5:=s5 _ _ (s4 _ _ el)
   have ok0:okD (.lst []):=(Lay.lst (n:=0) fun d hd=>by simp at hd).ok (by decide)
   refine i_neD (d:=.lst []) (by simp only[Is];exact⟨c,[],rfl,ec5,by simp only[L2.IsL]⟩) (by simp only[Is];exact⟨l0,[],rfl,el0,by simp only[L2.IsL]⟩) ok0 ?_
   walk_at "go"
   have hws:∀ w∈(ps.map fun p=>p.2.1++p.2.2.1),NoSp w:=fun w hw=>by
    obtain⟨p,hp,rfl⟩:=qj_.mp hw
    exact jvr_ (hPg p hp)
   have hpl2:∀ p∈ps,(p.2.1++p.2.2.1).length<=21:=fun p hp=>by
    have h1:=(hPg p hp).1.2.2
    rw[pd_]
    rcases (hPg p hp).2.1 with e | ⟨c,_,e⟩ <;> rw[e] <;> simp <;> omega
   have hsum:((ps.map fun p=>p.2.1++p.2.2.1).map (·.length)).sum<=21 * ps.length:=by
    clear hwt hds hxl hB hPg hpg hxs hpl hws hp hcnt hlns
    induction ps with
    | nil=>simp
    | cons p ps ih =>
     have:=ih fun p hp=>hpl2 p (pt_ _ hp)
     have:=hpl2 p p5_
     simp only[pj_,ru_,pr_]
     omega
   have hjl:=xq_ (ps.map fun p=>p.2.1++p.2.2.1)
   rw[pc_] at hjl
   have hst:strk (ju_ lns)=ju_ (ps.map fun p=>p.2.1++p.2.2.1):=by
    rw[jmc_ hB.1 (psC_of hPg) hp,jug_]
   refine⟨l,lns,_,rfl,el5,by omega,hst,hws,by rw[pc_];omega,by omega,fun fo H6 hfo efo s6=>?_⟩
   have s16:=((s13.trans s4).trans s5).trans s6
   have ep6:=s16 _ _ epc
   have hx6:=IsL.same s16 hxs
   walk_at "go"
   intro cq hcq
   refine yl_ (K:=K) (xs:=xs) (fun j acc σ H'=>∃(v:Option V),σ=[v]/\acc=(((ps.take j).map fun p=>p.2.1++p.2.2.1).map fun l=>V.str (S l))/\H' cq=some (.lst acc)/\Same H6 H')
    (fun j acc σ H' _ ⟨_,_,_,_,s⟩=>SqL.of (s _ _ ep6)) ⟨none,rfl,rfl,jb_,ji_ hcq _⟩ (fun j acc σ H' ⟨_,_,e,e2,_⟩=>⟨e2,by rw[e,pc_,pc_,p2_];omega⟩) (szn (by omega)) ?_ ?_
   ·rintro j acc σ Hf hj ⟨v,rfl,rfl,ec,sf⟩
    rw[hxl] at hj
    obtain⟨t6,tg,e1,e6,eg⟩:=um_ (hx6.same sf) hj
    have hgi:xs.getD j .non=.ref t6:=by
     obtain⟨x',d,hx1,_,_⟩:=IsL.get hx6 (i:=j) (by rw[pc_];exact hj)
     have:=xc_ hx1
     rw[this] at e1
     cases e1
     rw[pe_,hx1];rfl
    rw[hgi]
    have hpe:pAt ps j=ps[j]:=by unfold pAt;rw[pe_,pa_ hj];rfl
    have htk:ps.take (j+1)=ps.take j++[ps[j]]:=by rw[qb_,pa_ hj];rfl
    have hl21:=hpl2 _ (pw_ hj)
    rw[hpe] at e6
    rw[pd_] at hl21
    generalize ps[j]=p at htk e6 hl21
    walk_at "go"
    refine⟨ec,_,rfl,by rw[htk,pi_,pi_];rfl,jb_,fun b o e=>?_⟩
    rw[jf_ (fun z=>by rw[z,hcq] at e;cases e)];exact sf _ _ e
   ·rintro acc σ Hf ⟨v,rfl,rfl,ec,sf⟩
    rw[hxl,qc_] at ec
    have efof:=sf _ _ efo
    have okw:okD (.lst ((ps.map fun p=>p.2.1++p.2.2.1).map fun l=>Dt.str (S l))):=(Lay.lst (n:=0) fun d hd=>by
     obtain⟨l,hl,rfl⟩:=qj_.mp hd
     obtain⟨p,hp,rfl⟩:=qj_.mp hl
     exact Lay.str fun c hc=>by have:=jam_ (hPg p hp) c hc;omega).ok (by decide)
    walk_at "go"
    refine i_eqD (d:=.lst ((ps.map fun p=>p.2.1++p.2.2.1).map fun l=>Dt.str (S l))) (e:=.lst ((ps.map fun p=>p.2.1++p.2.2.1).map fun l=>Dt.str (S l))) (by simp only[Is];exact⟨fo,_,rfl,efof,jdu_ _⟩) (by simp only[Is];exact⟨cq,_,rfl,ec,jdu_ _⟩) okw okw ?_
    rw[jed_ okw]
    walk_at "go"
    exact q Hf ((s1.trans s16).trans sf)
 ·have ho:o=none:=hcnt.one ⟨lns,some k,hp,by simp⟩
  subst ho
  simp only[cV]
  walk_at "go"
  try rw[decide_eq_true rfl]
  exact q H3 s03
end
abbrev s_law_width:Stmt:=top 58
theorem sc_law_width:FnScope ["_law_feed_here"] ["_law_feed_here"] (jl_ s_law_width):=by walk_at "f"
abbrev s_law:Stmt:=top 62
theorem sc_law:FnScope ["_law_script","_law_cell","_law_feed_here","_law_letters_here","_law_words","_law_some_here","_law_things_here"] ["_law_script"] (jl_ s_law):=by walk_at "f"
def jow_ (K:pb_):Sp:=fun vs H Q _=>∃(a:Addr) (ns:List Int),vs=[.ref a]/\SqL K H a (ns.map V.int)/\ns.length<=63/\∀ H',Q (.bl true) H'
def jgt_:Sp:=fun vs H Q _=>∃(p:Addr) (n:Nat),vs=[.ref p]/\FeedAt H p n/\n+10 < zz_/\∀(wd:Nat) (H':Hp),2<=wd->wd<=1000->FeedAt H' p (n+4)->Kept p H H'->Q (.int (wd:Int)) H'
section
variable {P:Program} {w:World} {K:pb_} {mg:Str->Option Value} {base:Heap} {f:Addr} {fd:FuncData} {tk:Nat->Tok} {cO cO2 mkT:Addr} {ad:Nat->Addr}
theorem jhb_ (T:Txt mg tk) (F:Fun K "_law_width" "_law_width" s_law_width f fd) (D_law_next:Dn P w K mg base "_law_next" 1 ["_law_feed_here","_law_many"] yo_):FnOk P w K mg base CX0 2 f fd ["_law_feed_here"] jgt_:=by
 refine F.ok sc_law_width (fun vs H Q E h=>?_) (fun cdv A outer s H vs Q E hr h=>?_)
 ·obtain⟨p,n,rfl,_⟩:=h
  rfl
 obtain⟨p,n,rfl,hf,hn,q⟩:=h
 have nd:=sc_law_width.nd
 refine⟨_,(jh_ (jr_ (jt_ (jo_ (K:=K)) (j5_ (ja_ (jn_ jx_ jd_ (jj_ D_law_next hr.mo_ rfl (ja_ (pv 0) (ja_ jd_ jc_)))) (ja_ (jn_ jx_ jd_ (jj_ D_law_next hr.mo_ rfl (ja_ (pv 0) (ja_ jd_ jc_)))) (ja_ (jn_ jx_ jd_ (jj_ D_law_next hr.mo_ rfl (ja_ (pv 0) (ja_ jd_ jc_)))) jc_)))) (jj_ D_law_next hr.mo_ rfl (ja_ (pv 0) (ja_ jd_ jc_))) (fun _ _=>rfl)))),?_⟩
 rw[show L2.start ["_law_feed_here"] [.ref p]=[some (.ref p)] from rfl]
 walk_at "go"
 refine⟨p,12,n,rfl,hf,by omega,by decide,by decide,fun c1 H1 h10 h11 hf1 o1=>?_⟩
 walk_at "go"
 refine⟨p,30,n+1,rfl,hf1,by omega,by decide,by decide,fun c2 H2 h20 h21 hf2 o2=>?_⟩
 walk_at "go"
 refine⟨p,199,n+1+1,rfl,hf2,by omega,by decide,by decide,fun c3 H3 h30 h31 hf3 o3=>?_⟩
 walk_at "go"
 intro l hl
 have s4:=ji_ hl (.lst [.int (2+c1),.int (8+c2),.int (2+c3)])
 have el:=jb_ (H:=H3) (a:=l) (o:=.lst [.int (2+c1),.int (8+c2),.int (2+c3)])
 have hf4:FeedAt (upd H3 l (.lst [.int (2+c1),.int (8+c2),.int (2+c3)])) p (n+1+1+1):=hf3.new hl
 have pl:p≠l:=by obtain⟨o,e⟩:=hf3.some;exact jg_ e hl
 have k4:=((o1.kept.trans o2.kept).trans o3.kept).new hl (.lst [.int (2+c1),.int (8+c2),.int (2+c3)])
 generalize upd H3 l (.lst [.int (2+c1),.int (8+c2),.int (2+c3)])=H4 at s4 el hf4 k4 ⊢
 walk_at "go"
 refine⟨p,3,n+1+1+1,rfl,hf4,by omega,by decide,by decide,fun c4 H5 h40 h41 hf5 o5=>?_⟩
 have el5:H5 l=_:=(o5 l pl.symm).trans el
 have hc1:V.int (2+c1)=V.int ((2+c1.toNat:Nat):Int):=by congr 1;omega
 have hc2:V.int (8+c2)=V.int ((8+c2.toNat:Nat):Int):=by congr 1;omega
 have hc3:V.int (2+c3)=V.int ((2+c3.toNat:Nat):Int):=by congr 1;omega
 rw[hc1,hc2,hc3] at el5
 obtain⟨m,hm,hm2⟩:=jbn_ (a:=2+c1.toNat) (b:=8+c2.toNat) (c:=2+c3.toNat) h40 h41
 refine z1_ (jw_ el5) hm ?_
 walk_at "go"
 exact q m H5 (by omega) (by omega) (hf5.mono (by omega)) (k4.trans o5.kept)
theorem ok_law (T:Txt mg tk) (O2:Ow2 K mg cO2) (O:Ow K mg cO) (F:Fun K "law" "law" s_law f fd) (D_law_feed:Dn P w K mg base "_law_feed" 1 ["_law_script","_law_k"] (jlj_ K)) (D_law_letters:Dn P w K mg base "_law_letters" 2 ["_law_feed_here"] jap_) (D_law_six:Dn P w K mg base "_law_six" 3 ["_law_feed_here","_law_letters_here"] jsv_) (D_law_some:Dn P w K mg base "_law_some" 5 ["_law_feed_here","_law_letters_here","_law_words"] jkp_) (D_law_made:Dn P w K mg base "_law_made" 6 ["_law_some_here"] (jgv_ cO cO2)) (D_law_things:Dn P w K mg base "_law_things" 3 ["_law_feed_here","_law_some_here","_law_words","_law_letters_here"] jee_) (D_law_width:Dn P w K mg base "_law_width" 2 ["_law_feed_here"] jgt_) (D_law_right:Dn P w K mg base "_law_right" 9 ["_law_tongues","_law_some_here","_law_things_here","_law_width_here"] (jco_ cO cO2)):FnOk P w K mg base CX0 10 f fd ["_law_script"] (jow_ K):=by
 refine F.ok sc_law (fun vs H Q E h=>?_) (fun cdv A outer s H vs Q E hr h=>?_)
 ·obtain⟨a,ns,rfl,_⟩:=h
  rfl
 obtain⟨a,ns,rfl,hS,hlen,q⟩:=h
 have nd:=sc_law.nd
 refine⟨_,(je_ (zm_ p6_ rfl (zt_ (K:=K) (jn_ jx_ (j5_ (ja_ jd_ jc_)) (j0_ (zc_ (K:=K)) (pv 0) zj_ (jz_ jd_)))) (jm_ (i:=1) nd rfl (Or.inl rfl))
   (je_ (jk_ (i:=2) nd rfl (Or.inl rfl) (jj_ D_law_feed hr.mo_ rfl (ja_ (j5_ (ja_ (pv 1) jc_)) (ja_ jd_ jc_))))
  (je_ (jk_ (i:=3) nd rfl (Or.inl rfl) (jj_ D_law_letters hr.mo_ rfl (ja_ (pv 2) jc_)))
  (je_ (jk_ (i:=4) nd rfl (Or.inl rfl) (jj_ D_law_six hr.mo_ rfl (ja_ (pv 2) (ja_ (pv 3) jc_))))
  (je_ (jk_ (i:=5) nd rfl (Or.inl rfl) (jj_ D_law_some hr.mo_ rfl (ja_ (pv 2) (ja_ (pv 3) (ja_ (pv 4) jc_)))))
  (je_ (jk_ (i:=6) nd rfl (Or.inl rfl) (jj_ D_law_things hr.mo_ rfl (ja_ (pv 2) (ja_ (pv 5) (ja_ (pv 4) (ja_ (pv 3) jc_))))))
  (jh_ (ze_ (jlp_ (x0_ (jj_ D_law_right hr.mo_ rfl (ja_ (jj_ D_law_made hr.mo_ rfl (ja_ (pv 5) jc_)) (ja_ (pv 5) (ja_ (pv 6) (ja_ (jj_ D_law_width hr.mo_ rfl (ja_ (pv 2) jc_)) jc_))))) (fun _=>rfl)))
   (jh_ (jr_ jnu_))
   j2_))))))))
  (jh_ (jr_ jnu_))),?_⟩
 rw[show L2.start ["_law_script","_law_cell","_law_feed_here","_law_letters_here","_law_words","_law_some_here","_law_things_here"] [.ref a]=[some (.ref a),none,none,none,none,none,none] from rfl]
 walk_at "go"
 intro k0 hk0
 have s10:=ji_ hk0 (.lst [.int 0])
 have ek0:=jb_ (H:=H) (a:=k0) (o:=.lst [.int 0])
 have hS10:=s10.seq hS
 generalize upd H k0 (.lst [.int 0])=H10 at s10 ek0 hS10 ⊢
 walk_at "go"
 refine jtq_ hS10 fun l1 hl1'=>?_
 have s11:=ji_ hl1' (.lst (cutV (ns.map V.int) none (some 8)))
 have el1:=jb_ (H:=H10) (a:=l1) (o:=.lst (cutV (ns.map V.int) none (some 8)))
 have ek01:=s11 _ _ ek0
 generalize upd H10 l1 (.lst (cutV (ns.map V.int) none (some 8)))=H11 at s11 el1 ek01 ⊢
 obtain⟨cs,hcs,hcl⟩:∃ cs:List Int,cutV (ns.map V.int) none (some 8)=cs.map V.int/\cs.length<=63:=⟨cutA ns none (some 8),by rw[jhy_,jdq_],by have:=jhc_ ns none (some 8);omega⟩
 rw[hcs] at el1
 refine jdx_ ek01 el1 (szn (by rw[pc_];simp;omega)) fun l2 hl2'=>?_
 have s12:=ji_ hl2' (.lst ([V.int 0]++cs.map V.int))
 have el2:=jb_ (H:=H11) (a:=l2) (o:=.lst ([V.int 0]++cs.map V.int))
 generalize upd H11 l2 (.lst ([V.int 0]++cs.map V.int))=H12 at s12 el2 ⊢
 have hint:∀ i x,([V.int 0]++cs.map V.int)[i]?=some x->∃ c:Int,x=V.int c:=fun i x hx=>by
  have hm:=qs_ hx
  rcases p0_.mp hm with h | h
  ·exact⟨0,by simpa using h⟩
  ·obtain⟨c,_,rfl⟩:=qj_.mp h
   exact⟨c,rfl⟩
 walk_at "go"
 refine yr_ (K:=K) (xs:=[V.int 0]++cs.map V.int) (fun i σ H'=>∃(v1 v2 v3 v4 v5 v6:Option V),σ=[some (.ref a),v1,v2,v3,v4,v5,v6]/\Same H12 H')
  ⟨none,none,none,none,none,none,rfl,Same.refl _⟩ (fun i σ H' _ ⟨_,_,_,_,_,_,_,s⟩=>SqL.of (s _ _ el2)) ?_ ?_
 ·rintro i x σ Ha hx ⟨v1,v2,v3,v4,v5,v6,rfl,sa⟩
  obtain⟨c,rfl⟩:=hint i x hx
  walk_at "go"
  intro lc hlc
  have sb:=ji_ hlc (.lst [.int c])
  have elc:=jb_ (H:=Ha) (a:=lc) (o:=.lst [.int c])
  generalize upd Ha lc (.lst [.int c])=Hb at sb elc ⊢
  walk_at "go"
  refine⟨lc,[c],1,rfl,SqL.of elc,by decide,by decide,fun p Hc hp0 hfc oc=>?_⟩
  have sX:∀ H',Kept p Hc H'->Same Ha H':=fun H' k b u e=>k b u (jg_ (sb _ _ e) hp0) ((oc b (jg_ (sb _ _ e) hp0)).trans (sb _ _ e))
  walk_at "go"
  refine⟨p,0,rfl,hfc,by decide,fun l H2 hl hl1 hl2 hf2 o2=>?_⟩
  walk_at "go"
  refine⟨p,0+3,l,rfl,hf2,by decide,hl,by omega,hl2,fun wa ws H3 ewa hws hgw hf3 k3 hwp=>?_⟩
  walk_at "go"
  refine⟨p,0+3+400,l,wa,ws,rfl,hf3,by decide,hl,by omega,hl2,ewa,hws,hgw,hwp,fun sd kws ms H4 hsd hsp esd hPR hnd hm1 hm2 hgn hf4 k4=>?_⟩
  have s04:Same Ha H4:=sX _ ((o2.kept.trans k3).trans k4)
  have ewa4:=k4 _ _ hwp ewa
  have hmk:=hPR.keys
  walk_at "go"
  refine⟨p,sd,wa,0+3+400+30000,l,ws,kws,ms,rfl,hf4,by decide,hl,by omega,hl2,ewa4,hws,hgw,hwp,esd,hmk,hm1,by omega,hgn,fun r ls H6 hr hrp er hll hX hf6 k6=>?_⟩
  have esd6:=k6 _ _ hsp esd
  have s06:Same Ha H6:=fun b o e=>k6 b o (jg_ (sb _ _ e) hp0) (s04 _ _ e)
  obtain⟨z1,z2,z3,ezp⟩:=FeedAt.ex hf6
  have hPR6:=hPR.same (y5_ (D':=[p,sd]) fun b o hb e=>⟨hb,k6 b o (fun z=>hb (by simp[z])) e⟩)
  walk_at "go"
  refine⟨sd,kws,ms,[p,sd],rfl,esd6,by simp,fun b hb=>?_,hPR6,hnd,by omega,fun tp td kvs H7 htp htd tg hTR s7=>?_⟩
  ·have:b=p∨b=sd:=by simpa using hb
   rcases this with rfl | rfl
   ·exact⟨_,ezp,fun zs z=>nomatch z⟩
   ·exact⟨_,esd6,fun zs z=>nomatch z⟩
  have esd7:=s7 _ _ esd6
  have er7:=s7 _ _ er
  have hf7:FeedAt H7 p (0+3+400+30000+5000):=FeedAt.same hf6 s7
  have hTR7:TR cO H7 kvs kws ms:=hTR.same (u8_ _ _)
  obtain⟨dxa,ta1,ta2⟩:=id tg
  have ptd:td≠p:=fun z=>by
   obtain⟨_,_,_,e2⟩:=FeedAt.ex hf7
   rw[z,e2] at ta2;cases ta2
  have tpp:tp≠p:=fun z=>by
   obtain⟨_,_,_,e2⟩:=FeedAt.ex hf7
   rw[z,e2] at ta1;cases ta1
  walk_at "go"
  refine⟨p,0+3+400+30000+5000,rfl,hf7,by decide,fun wd H8 hw1 hw2 hf8 k8=>?_⟩
  have tg8:TgAt cO2 H8 tp td kvs:=⟨dxa,k8 _ _ tpp ta1,k8 _ _ ptd ta2⟩
  have hTR8:TR cO H8 kvs kws ms:=(hTR.same (y5_ (D':=td::[p,sd]) fun b o hb e=>⟨hb,k8 b o (fun z=>hb (by simp[z])) e⟩)).same (u8_ _ _)
  have esd8:=k8 _ _ hsp esd7
  have er8:=k8 _ _ hrp er7
  have s08:Same Ha H8:=fun b o e=>k8 b o (jg_ (sb _ _ e) hp0) (s7 _ _ (s06 _ _ e))
  walk_at "go"
  refine⟨tp,td,sd,r,kvs,kws,ms,ls,wd,rfl,tg8,esd8,hTR8,er8,hll,hX,by omega,hw2,fun H9 s9=>?_⟩
  walk_at "go"
  exact⟨_,_,_,_,_,_,rfl,(sa.trans s08).trans s9⟩
 ·rintro σ Ha ⟨v1,v2,v3,v4,v5,v6,rfl,sa⟩
  walk_at "go"
  exact q Ha
end
def FuE (K:pb_) (x qual:Str) (st:Stmt) (f:Addr):Prop:=∃ fd,Fun K x qual st f fd
theorem exc_mk {K:pb_} {c0 c:Addr} {nm q:Str} {N:Addr} {bs sub:List Value} {ab:Bool} {sn:List Str} {col:Option Bool} {dd:Option Addr} {ua ub uc ud ue:Option Value} (o:K.lookup c=some (excClassObj nm q c N bs (.ref c0::vBM) true sn sub ab col dd ua ub uc ud ue xNew)) (p:po_ K (.ref c) "__getattribute__"=some (some (.builtin xGa))) (r:po_ K (.ref c) "__getattr__"=some none) (s:po_ K (.ref c) "__setattr__"=some (some (.builtin "object.__setattr__"))) (k:q9_ K (.ref c)=true) (l:po_ K (.ref c) "__class__"=some (some (.builtin "object.__class__"))):Exc K c0 c:=⟨⟨_,_,_,_,_,_,_,_,_,_,_,_,_,_,o⟩,p,r,s,k,l⟩
theorem bn1 {α:Type} {P:List α->Prop} (h:∀ a,P [a]):∀ us:List α,us.length=1->P us
 | [a],_=>h a
theorem bn2 {α:Type} {P:List α->Prop} (h:∀ a b,P [a,b]):∀ us:List α,us.length=2->P us
 | [a,b],_=>h a b
theorem bn3 {α:Type} {P:List α->Prop} (h:∀ a b c,P [a,b,c]):∀ us:List α,us.length=3->P us
 | [a,b,c],_=>h a b c
theorem bn4 {α:Type} {P:List α->Prop} (h:∀ a b c d,P [a,b,c,d]):∀ us:List α,us.length=4->P us
 | [a,b,c,d],_=>h a b c d
theorem bn5 {α:Type} {P:List α->Prop} (h:∀ a b c d e,P [a,b,c,d,e]):∀ us:List α,us.length=5->P us
 | [a,b,c,d,e],_=>h a b c d e
theorem all_mk {l:kt_} {w:World} {K:pb_} {h:Heap} {mg:Str->Option Value} {fa f1 f2 f3 f4 f5 f6 f7 f8 f9 f10 f11 f12 f13 f14 f15 f16 f17 f18 f19 f20 f21 f22 f23 f24 f25 f26 f27 f28 f29 f30 f31 f32 f33 f34 f35 f36 f37 f38 f39 f40 f41 f42 f43 f44 f45 f46:Addr} (X:K.In h) (G:h.Ns mainGlobals mg) (hfa:mg "law"=some (.ref fa))
  {c0:Addr} {nm0 q0:Str} {N0:Addr} {bs0 sub0:List Value} {hd0 ab0:Bool} {sn0:List Str} {col0:Option Bool} {dd0:Option Addr} {u0a u0b u0c u0d u0e:Option Value} {nw0:String}
  (aC0:pk_ K mainGlobals "WordError"=some (some (.ref c0))) (oC0:K.lookup c0=some (excClassObj nm0 q0 c0 N0 bs0 vBM hd0 sn0 sub0 ab0 col0 dd0 u0a u0b u0c u0d u0e nw0)) (rC0:PySem.W.readsIn K c0 (.type "type")=true) (gC0:s4_ K (.ref c0) "__getattribute__"=some (some (.builtin "type.__getattribute__"))) (iC0:PySem.W.findCls K (.ref c0) (.type "type") "__init__"=some (.val (.builtin xIni)))
  {c1:Addr} (aC1:pk_ K mainGlobals "NoWord"=some (some (.ref c1))) (xC1:Exc K c0 c1)
  {g1:Addr} (iC1:po_ K (.ref c1) "__init__"=some (some (.ref g1))) (fC1:qx_ K (.ref g1)=true) (nC1:po_ K (.ref c1) "place"=some none)
  {c2:Addr} (aC2:pk_ K mainGlobals "NoPattern"=some (some (.ref c2))) (xC2:Exc K c0 c2)
  {g2:Addr} (iC2:po_ K (.ref c2) "__init__"=some (some (.ref g2))) (fC2:qx_ K (.ref g2)=true) (nC2:po_ K (.ref c2) "place"=some none)
  {c3:Addr} (aC3:pk_ K mainGlobals "NoThing"=some (some (.ref c3))) (xC3:Exc K c0 c3)
  {g3:Addr} (iC3:po_ K (.ref c3) "__init__"=some (some (.ref g3))) (fC3:qx_ K (.ref g3)=true) (nC3:po_ K (.ref c3) "place"=some none)
  {c4:Addr} (aC4:pk_ K mainGlobals "TooNarrow"=some (some (.ref c4))) (xC4:Exc K c0 c4)
  {g4:Addr} (iC4:po_ K (.ref c4) "__init__"=some (some (.ref g4))) (fC4:qx_ K (.ref g4)=true) (nC4:po_ K (.ref c4) "place"=some none)
  {c5:Addr} (aC5:pk_ K mainGlobals "Twice"=some (some (.ref c5))) (xC5:Exc K c0 c5)
  {g5:Addr} (iC5:po_ K (.ref c5) "__init__"=some (some (.ref g5))) (fC5:qx_ K (.ref g5)=true) (nC5:po_ K (.ref c5) "word"=some none)
  {c6:Addr} (aC6:pk_ K mainGlobals "NoTongue"=some (some (.ref c6))) (xC6:Exc K c0 c6)
  {g6:Addr} (iC6:po_ K (.ref c6) "__init__"=some (some (.ref g6))) (fC6:qx_ K (.ref g6)=true) (nC6:po_ K (.ref c6) "name"=some none)
  {c7:Addr} (aC7:pk_ K mainGlobals "NoRow"=some (some (.ref c7))) (xC7:Exc K c0 c7)
  (iC7:po_ K (.ref c7) "__init__"=some (some (.builtin xIni)))
  (ndC:([c0,c1,c2,c3,c4,c5,c6,c7]:List Addr).Nodup)
  {cO:Addr} (aO:pk_ K mainGlobals "Breaker"=some (some (.ref cO))) (pO:sp_ K cO Str.empty=true) (dO:rw_ K cO=true) (vO:tw_ K cO=true) (sO:po_ K (.ref cO) "__setattr__"=some (some (.builtin "object.__setattr__"))) (mO:wh_ K cO=true) (kO:q9_ K (.ref cO)=true)
  (n_told_gaps:po_ K (.ref cO) "told_gaps"=some none)
  (n_patterns:po_ K (.ref cO) "patterns"=some none)
  (n_head:po_ K (.ref cO) "head"=some none)
  (n_tail:po_ K (.ref cO) "tail"=some none)
  {cO2:Addr} (aO2:pk_ K mainGlobals "Tongues"=some (some (.ref cO2))) (pO2:sp_ K cO2 Str.empty=true) (dO2:rw_ K cO2=true) (vO2:tw_ K cO2=true) (sO2:po_ K (.ref cO2) "__setattr__"=some (some (.builtin "object.__setattr__"))) (mO2:wh_ K cO2=true) (kO2:q9_ K (.ref cO2)=true)
  (n2_breakers:po_ K (.ref cO2) "breakers"=some none)
  (F0:FuE K "__init__" "TooNarrow.__init__" s_TooNarrow_init g4)
  (a1:pk_ K mainGlobals "fitting_places"=some (some (.ref f1))) (F1:FuE K "fitting_places" "fitting_places" s_fitting_places f1)
  (a2:pk_ K mainGlobals "values_by_fits"=some (some (.ref f2))) (F2:FuE K "values_by_fits" "values_by_fits" s_values_by_fits f2)
  (a3:pk_ K mainGlobals "values"=some (some (.ref f3))) (F3:FuE K "values" "values" s_values f3)
  (a4:pk_ K mainGlobals "breaks"=some (some (.ref f4))) (F4:FuE K "breaks" "breaks" s_breaks f4)
  (a5:pk_ K mainGlobals "is_letter"=some (some (.ref f5))) (F5:FuE K "is_letter" "is_letter" s_is_letter f5)
  (a6:pk_ K mainGlobals "is_word"=some (some (.ref f6))) (F6:FuE K "is_word" "is_word" s_is_word f6)
  (a7:pk_ K mainGlobals "gaps_by_word"=some (some (.ref f7))) (F7:FuE K "gaps_by_word" "gaps_by_word" s_gaps_by_word f7)
  (iOX8:po_ K (.ref cO) "__init__"=some (some (.ref f8))) (fOX8:qx_ K (.ref f8)=true) (F8:FuE K "__init__" "Breaker.__init__" s_Breaker_init f8)
  (iOX9:po_ K (.ref cO) "gaps"=some (some (.ref f9))) (fOX9:qx_ K (.ref f9)=true) (F9:FuE K "gaps" "Breaker.gaps" s_Breaker_gaps f9)
  (a10:pk_ K mainGlobals "with_patterns"=some (some (.ref f10))) (F10:FuE K "with_patterns" "with_patterns" s_with_patterns f10)
  (iOX11:po_ K (.ref cO2) "__init__"=some (some (.ref f11))) (fOX11:qx_ K (.ref f11)=true) (F11:FuE K "__init__" "Tongues.__init__" s_Tongues_init f11)
  (iOX12:po_ K (.ref cO2) "put"=some (some (.ref f12))) (fOX12:qx_ K (.ref f12)=true) (F12:FuE K "put" "Tongues.put" s_Tongues_put f12)
  (iOX13:po_ K (.ref cO2) "breaker_of"=some (some (.ref f13))) (fOX13:qx_ K (.ref f13)=true) (F13:FuE K "breaker_of" "Tongues.breaker_of" s_Tongues_breaker_of f13)
  (a14:pk_ K mainGlobals "mark_of"=some (some (.ref f14))) (F14:FuE K "mark_of" "mark_of" s_mark_of f14)
  (a15:pk_ K mainGlobals "word_of"=some (some (.ref f15))) (F15:FuE K "word_of" "word_of" s_word_of f15)
  (a16:pk_ K mainGlobals "is_name"=some (some (.ref f16))) (F16:FuE K "is_name" "is_name" s_is_name f16)
  (a17:pk_ K mainGlobals "is_thing"=some (some (.ref f17))) (F17:FuE K "is_thing" "is_thing" s_is_thing f17)
  (a18:pk_ K mainGlobals "check_things"=some (some (.ref f18))) (F18:FuE K "check_things" "check_things" s_check_things f18)
  (a19:pk_ K mainGlobals "pieces"=some (some (.ref f19))) (F19:FuE K "pieces" "pieces" s_pieces f19)
  (a20:pk_ K mainGlobals "farthest_end"=some (some (.ref f20))) (F20:FuE K "farthest_end" "farthest_end" s_farthest_end f20)
  (a21:pk_ K mainGlobals "pressed"=some (some (.ref f21))) (F21:FuE K "pressed" "pressed" s_pressed f21)
  (a22:pk_ K mainGlobals "joined"=some (some (.ref f22))) (F22:FuE K "joined" "joined" s_joined f22)
  (a23:pk_ K mainGlobals "_law_feed"=some (some (.ref f23))) (F23:FuE K "_law_feed" "_law_feed" s_law_feed f23)
  (a24:pk_ K mainGlobals "_law_next"=some (some (.ref f24))) (F24:FuE K "_law_next" "_law_next" s_law_next f24)
  (a25:pk_ K mainGlobals "_law_letters"=some (some (.ref f25))) (F25:FuE K "_law_letters" "_law_letters" s_law_letters f25)
  (a26:pk_ K mainGlobals "_law_word"=some (some (.ref f26))) (F26:FuE K "_law_word" "_law_word" s_law_word f26)
  (a27:pk_ K mainGlobals "_law_numbers"=some (some (.ref f27))) (F27:FuE K "_law_numbers" "_law_numbers" s_law_numbers f27)
  (a28:pk_ K mainGlobals "_law_pattern"=some (some (.ref f28))) (F28:FuE K "_law_pattern" "_law_pattern" s_law_pattern f28)
  (a29:pk_ K mainGlobals "_law_values"=some (some (.ref f29))) (F29:FuE K "_law_values" "_law_values" s_law_values f29)
  (a30:pk_ K mainGlobals "_law_some_gaps"=some (some (.ref f30))) (F30:FuE K "_law_some_gaps" "_law_some_gaps" s_law_some_gaps f30)
  (a31:pk_ K mainGlobals "_law_six"=some (some (.ref f31))) (F31:FuE K "_law_six" "_law_six" s_law_six f31)
  (a32:pk_ K mainGlobals "_law_parts"=some (some (.ref f32))) (F32:FuE K "_law_parts" "_law_parts" s_law_parts f32)
  (a33:pk_ K mainGlobals "_law_gaps"=some (some (.ref f33))) (F33:FuE K "_law_gaps" "_law_gaps" s_law_gaps f33)
  (a34:pk_ K mainGlobals "_law_names"=some (some (.ref f34))) (F34:FuE K "_law_names" "_law_names" s_law_names f34)
  (a35:pk_ K mainGlobals "_law_made"=some (some (.ref f35))) (F35:FuE K "_law_made" "_law_made" s_law_made f35)
  (a36:pk_ K mainGlobals "_law_some"=some (some (.ref f36))) (F36:FuE K "_law_some" "_law_some" s_law_some f36)
  (a37:pk_ K mainGlobals "_law_things"=some (some (.ref f37))) (F37:FuE K "_law_things" "_law_things" s_law_things f37)
  (a38:pk_ K mainGlobals "_law_pieces"=some (some (.ref f38))) (F38:FuE K "_law_pieces" "_law_pieces" s_law_pieces f38)
  (a39:pk_ K mainGlobals "_law_line"=some (some (.ref f39))) (F39:FuE K "_law_line" "_law_line" s_law_line f39)
  (a40:pk_ K mainGlobals "_law_ends"=some (some (.ref f40))) (F40:FuE K "_law_ends" "_law_ends" s_law_ends f40)
  (a41:pk_ K mainGlobals "_law_begins"=some (some (.ref f41))) (F41:FuE K "_law_begins" "_law_begins" s_law_begins f41)
  (a42:pk_ K mainGlobals "_law_fewest"=some (some (.ref f42))) (F42:FuE K "_law_fewest" "_law_fewest" s_law_fewest f42)
  (a43:pk_ K mainGlobals "_law_asked"=some (some (.ref f43))) (F43:FuE K "_law_asked" "_law_asked" s_law_asked f43)
  (a44:pk_ K mainGlobals "_law_width"=some (some (.ref f44))) (F44:FuE K "_law_width" "_law_width" s_law_width f44)
  (a45:pk_ K mainGlobals "_law_right"=some (some (.ref f45))) (F45:FuE K "_law_right" "_law_right" s_law_right f45)
  {od46 an46:Option Addr} {sl46:Array (Option Value)} {oc46 kV46 dc46 pm46 cd46 ct46:Value}
  (a46:pk_ K mainGlobals "law"=some (some (.ref f46))) (l46:K.lookup f46=some ⟨oc46,od46,.func (sw_ "law" "law" (vv_ s_law) (xf_ s_law) (jl_ s_law) .none kV46 dc46 pm46 an46 cd46 ct46),sl46⟩) (c_46:wx_ K cd46 "law"=true) (k46:q9_ K (.ref f46)=true)
  {mkT:Addr} {odT:Option Addr} {slT:Array (Option Value)} {nT tT0 tT1 tT2 tT3 tT4 tT5:Nat} (aT:pk_ K mainGlobals "MARKS"=some (some (.ref mkT))) (lT:K.lookup mkT=some ⟨.type "tuple",odT,.seq #[.str "," tT0,.str "." tT1,.str ";" tT2,.str ":" tT3,.str "!" tT4,.str "?" tT5] nT,slT⟩)
  {tkLETTERS:Tok} (gLETTERS:pk_ K mainGlobals "LETTERS"=some (some (.str "abcdefghijklmnopqrstuvwxyz" tkLETTERS)))
  {tkMOST_LETTERS:Tok} (gMOST_LETTERS:pk_ K mainGlobals "MOST_LETTERS"=some (some (.int 8 tkMOST_LETTERS)))
  (z_len:pk_ K mainGlobals "len"=some none)
  (z_abs:pk_ K mainGlobals "abs"=some none)
  (z_all:pk_ K mainGlobals "all"=some none)
  (z_range:pk_ K mainGlobals "range"=some none)
  (z_enumerate:pk_ K mainGlobals "enumerate"=some none)
  (z_isinstance:pk_ K mainGlobals "isinstance"=some none)
  (z_tuple:pk_ K mainGlobals "tuple"=some none)
  (z_list:pk_ K mainGlobals "list"=some none)
  (z_bool:pk_ K mainGlobals "bool"=some none)
  (z_str:pk_ K mainGlobals "str"=some none)
  (z_int:pk_ K mainGlobals "int"=some none)
  (z_min:pk_ K mainGlobals "min"=some none)
  (z_max:pk_ K mainGlobals "max"=some none)
  (z_reversed:pk_ K mainGlobals "reversed"=some none)
  (z_ValueError:pk_ K mainGlobals "ValueError"=some none)
  : ∃ fd:FuncData,(∀(s:Shared) (v:Value),BindsTo s fd ⟨[v],[]⟩ [("_law_script",v)])/\∀ base:Heap,K.In base->base.Ns mainGlobals mg->FnOk l.prog w K mg base CX0 10 fa fd ["_law_script"] (jow_ K):=by
 have e:=hfa.symm.trans (pn_ X G a46)
 cases e
 have T:Txt mg (fun i=>([tkLETTERS,tkMOST_LETTERS]:List Tok).getD i 0):=⟨ql_ X G z_len,ql_ X G z_abs,ql_ X G z_all,ql_ X G z_range,ql_ X G z_enumerate,ql_ X G z_isinstance,ql_ X G z_tuple,ql_ X G z_list,ql_ X G z_bool,ql_ X G z_str,ql_ X G z_int,ql_ X G z_min,ql_ X G z_max,ql_ X G z_reversed,ql_ X G z_ValueError,pn_ X G gLETTERS,pn_ X G gMOST_LETTERS⟩
 have TC:Tc K mg mkT:=⟨pn_ X G aT,fun H=>.inr ⟨_,_,_,lT,rfl,rfl,by show 6<=sizeLine;decide,.cons ⟨_,rfl⟩ (.cons ⟨_,rfl⟩ (.cons ⟨_,rfl⟩ (.cons ⟨_,rfl⟩ (.cons ⟨_,rfl⟩ (.cons ⟨_,rfl⟩ (.nil))))))⟩⟩
 have Z:Cs K mg (fun i=>([c0,c1,c2,c3,c4,c5,c6,c7]:List Addr).getD i 0):=⟨pn_ X G aC0,⟨rC0,gC0,iC0⟩,⟨_,_,_,_,_,_,_,_,_,_,_,_,_,_,_,_,oC0⟩,pn_ X G aC1,xC1,nC1,pn_ X G aC2,xC2,nC2,pn_ X G aC3,xC3,nC3,pn_ X G aC4,xC4,nC4,pn_ X G aC5,xC5,nC5,pn_ X G aC6,xC6,nC6,pn_ X G aC7,xC7,iC7,ndC⟩
 have O:Ow K mg cO:=⟨pn_ X G aO,⟨pO,dO,vO,sO⟩,n_told_gaps,n_patterns,n_head,n_tail⟩
 have O2:Ow2 K mg cO2:=⟨pn_ X G aO2,⟨pO2,dO2,vO2,sO2⟩,n2_breakers⟩
 obtain⟨fd0,F_TooNarrow_init⟩:=F0
 have b_TooNarrow_init:=F_TooNarrow_init.binds (ps:=["self","place"]) fun _ _ _ _ _ _=>bn2 fun _ _=>rfl
 obtain⟨fd1,F_fitting_places⟩:=F1
 have b_fitting_places:=F_fitting_places.binds (ps:=["signs","framed"]) fun _ _ _ _ _ _=>bn2 fun _ _=>rfl
 have m_fitting_places:=pn_ X G a1
 obtain⟨fd2,F_values_by_fits⟩:=F2
 have b_values_by_fits:=F_values_by_fits.binds (ps:=["fits","word"]) fun _ _ _ _ _ _=>bn2 fun _ _=>rfl
 have m_values_by_fits:=pn_ X G a2
 obtain⟨fd3,F_values⟩:=F3
 have b_values:=F_values.binds (ps:=["patterns","word"]) fun _ _ _ _ _ _=>bn2 fun _ _=>rfl
 have m_values:=pn_ X G a3
 obtain⟨fd4,F_breaks⟩:=F4
 have b_breaks:=F_breaks.binds (ps:=["patterns","word"]) fun _ _ _ _ _ _=>bn2 fun _ _=>rfl
 have m_breaks:=pn_ X G a4
 obtain⟨fd5,F_is_letter⟩:=F5
 have b_is_letter:=F_is_letter.binds (ps:=["sign"]) fun _ _ _ _ _ _=>bn1 fun _=>rfl
 have m_is_letter:=pn_ X G a5
 obtain⟨fd6,F_is_word⟩:=F6
 have b_is_word:=F_is_word.binds (ps:=["text"]) fun _ _ _ _ _ _=>bn1 fun _=>rfl
 have m_is_word:=pn_ X G a6
 obtain⟨fd7,F_gaps_by_word⟩:=F7
 have b_gaps_by_word:=F_gaps_by_word.binds (ps:=["told"]) fun _ _ _ _ _ _=>bn1 fun _=>rfl
 have m_gaps_by_word:=pn_ X G a7
 obtain⟨fd8,F_Breaker_init⟩:=F8
 have b_Breaker_init:=F_Breaker_init.binds (ps:=["self","patterns","told","head","tail"]) fun _ _ _ _ _ _=>bn5 fun _ _ _ _ _=>rfl
 obtain⟨fd9,F_Breaker_gaps⟩:=F9
 have b_Breaker_gaps:=F_Breaker_gaps.binds (ps:=["self","word"]) fun _ _ _ _ _ _=>bn2 fun _ _=>rfl
 obtain⟨fd10,F_with_patterns⟩:=F10
 have b_with_patterns:=F_with_patterns.binds (ps:=["breaker","patterns"]) fun _ _ _ _ _ _=>bn2 fun _ _=>rfl
 have m_with_patterns:=pn_ X G a10
 obtain⟨fd11,F_Tongues_init⟩:=F11
 have b_Tongues_init:=F_Tongues_init.binds (ps:=["self"]) fun _ _ _ _ _ _=>bn1 fun _=>rfl
 obtain⟨fd12,F_Tongues_put⟩:=F12
 have b_Tongues_put:=F_Tongues_put.binds (ps:=["self","name","breaker"]) fun _ _ _ _ _ _=>bn3 fun _ _ _=>rfl
 obtain⟨fd13,F_Tongues_breaker_of⟩:=F13
 have b_Tongues_breaker_of:=F_Tongues_breaker_of.binds (ps:=["self","name"]) fun _ _ _ _ _ _=>bn2 fun _ _=>rfl
 obtain⟨fd14,F_mark_of⟩:=F14
 have b_mark_of:=F_mark_of.binds (ps:=["thing"]) fun _ _ _ _ _ _=>bn1 fun _=>rfl
 have m_mark_of:=pn_ X G a14
 obtain⟨fd15,F_word_of⟩:=F15
 have b_word_of:=F_word_of.binds (ps:=["thing"]) fun _ _ _ _ _ _=>bn1 fun _=>rfl
 have m_word_of:=pn_ X G a15
 obtain⟨fd16,F_is_name⟩:=F16
 have b_is_name:=F_is_name.binds (ps:=["text"]) fun _ _ _ _ _ _=>bn1 fun _=>rfl
 have m_is_name:=pn_ X G a16
 obtain⟨fd17,F_is_thing⟩:=F17
 have b_is_thing:=F_is_thing.binds (ps:=["thing"]) fun _ _ _ _ _ _=>bn1 fun _=>rfl
 have m_is_thing:=pn_ X G a17
 obtain⟨fd18,F_check_things⟩:=F18
 have b_check_things:=F_check_things.binds (ps:=["text"]) fun _ _ _ _ _ _=>bn1 fun _=>rfl
 have m_check_things:=pn_ X G a18
 obtain⟨fd19,F_pieces⟩:=F19
 have b_pieces:=F_pieces.binds (ps:=["tongues","text"]) fun _ _ _ _ _ _=>bn2 fun _ _=>rfl
 have m_pieces:=pn_ X G a19
 obtain⟨fd20,F_farthest_end⟩:=F20
 have b_farthest_end:=F_farthest_end.binds (ps:=["gaps","begin","room"]) fun _ _ _ _ _ _=>bn3 fun _ _ _=>rfl
 have m_farthest_end:=pn_ X G a20
 obtain⟨fd21,F_pressed⟩:=F21
 have b_pressed:=F_pressed.binds (ps:=["tongues","text","width"]) fun _ _ _ _ _ _=>bn3 fun _ _ _=>rfl
 have m_pressed:=pn_ X G a21
 obtain⟨fd22,F_joined⟩:=F22
 have b_joined:=F_joined.binds (ps:=["lines"]) fun _ _ _ _ _ _=>bn1 fun _=>rfl
 have m_joined:=pn_ X G a22
 obtain⟨fd23,F_law_feed⟩:=F23
 have b_law_feed:=F_law_feed.binds (ps:=["_law_script","_law_k"]) fun _ _ _ _ _ _=>bn2 fun _ _=>rfl
 have m_law_feed:=pn_ X G a23
 obtain⟨fd24,F_law_next⟩:=F24
 have b_law_next:=F_law_next.binds (ps:=["_law_feed_here","_law_many"]) fun _ _ _ _ _ _=>bn2 fun _ _=>rfl
 have m_law_next:=pn_ X G a24
 obtain⟨fd25,F_law_letters⟩:=F25
 have b_law_letters:=F_law_letters.binds (ps:=["_law_feed_here"]) fun _ _ _ _ _ _=>bn1 fun _=>rfl
 have m_law_letters:=pn_ X G a25
 obtain⟨fd26,F_law_word⟩:=F26
 have b_law_word:=F_law_word.binds (ps:=["_law_feed_here","_law_letters_here","_law_most"]) fun _ _ _ _ _ _=>bn3 fun _ _ _=>rfl
 have m_law_word:=pn_ X G a26
 obtain⟨fd27,F_law_numbers⟩:=F27
 have b_law_numbers:=F_law_numbers.binds (ps:=["_law_feed_here","_law_signs","_law_few"]) fun _ _ _ _ _ _=>bn3 fun _ _ _=>rfl
 have m_law_numbers:=pn_ X G a27
 obtain⟨fd28,F_law_pattern⟩:=F28
 have b_law_pattern:=F_law_pattern.binds (ps:=["_law_feed_here","_law_letters_here","_law_word_here","_law_most"]) fun _ _ _ _ _ _=>bn4 fun _ _ _ _=>rfl
 have m_law_pattern:=pn_ X G a28
 obtain⟨fd29,F_law_values⟩:=F29
 have b_law_values:=F_law_values.binds (ps:=["_law_patterns","_law_word_here"]) fun _ _ _ _ _ _=>bn2 fun _ _=>rfl
 have m_law_values:=pn_ X G a29
 obtain⟨fd30,F_law_some_gaps⟩:=F30
 have b_law_some_gaps:=F_law_some_gaps.binds (ps:=["_law_feed_here","_law_word_here"]) fun _ _ _ _ _ _=>bn2 fun _ _=>rfl
 have m_law_some_gaps:=pn_ X G a30
 obtain⟨fd31,F_law_six⟩:=F31
 have b_law_six:=F_law_six.binds (ps:=["_law_feed_here","_law_letters_here"]) fun _ _ _ _ _ _=>bn2 fun _ _=>rfl
 have m_law_six:=pn_ X G a31
 obtain⟨fd32,F_law_parts⟩:=F32
 have b_law_parts:=F_law_parts.binds (ps:=["_law_feed_here","_law_letters_here","_law_words"]) fun _ _ _ _ _ _=>bn3 fun _ _ _=>rfl
 have m_law_parts:=pn_ X G a32
 obtain⟨fd33,F_law_gaps⟩:=F33
 have b_law_gaps:=F_law_gaps.binds (ps:=["_law_parts_here","_law_word_here"]) fun _ _ _ _ _ _=>bn2 fun _ _=>rfl
 have m_law_gaps:=pn_ X G a33
 obtain⟨fd34,F_law_names⟩:=F34
 have b_law_names:=F_law_names.binds (ps:=["_law_feed_here"]) fun _ _ _ _ _ _=>bn1 fun _=>rfl
 have m_law_names:=pn_ X G a34
 obtain⟨fd35,F_law_made⟩:=F35
 have b_law_made:=F_law_made.binds (ps:=["_law_some_here"]) fun _ _ _ _ _ _=>bn1 fun _=>rfl
 have m_law_made:=pn_ X G a35
 obtain⟨fd36,F_law_some⟩:=F36
 have b_law_some:=F_law_some.binds (ps:=["_law_feed_here","_law_letters_here","_law_words"]) fun _ _ _ _ _ _=>bn3 fun _ _ _=>rfl
 have m_law_some:=pn_ X G a36
 obtain⟨fd37,F_law_things⟩:=F37
 have b_law_things:=F_law_things.binds (ps:=["_law_feed_here","_law_some_here","_law_words","_law_letters_here"]) fun _ _ _ _ _ _=>bn4 fun _ _ _ _=>rfl
 have m_law_things:=pn_ X G a37
 obtain⟨fd38,F_law_pieces⟩:=F38
 have b_law_pieces:=F_law_pieces.binds (ps:=["_law_some_here","_law_things_here"]) fun _ _ _ _ _ _=>bn2 fun _ _=>rfl
 have m_law_pieces:=pn_ X G a38
 obtain⟨fd39,F_law_line⟩:=F39
 have b_law_line:=F_law_line.binds (ps:=["_law_some_here","_law_number","_law_begin","_law_end"]) fun _ _ _ _ _ _=>bn4 fun _ _ _ _=>rfl
 have m_law_line:=pn_ X G a39
 obtain⟨fd40,F_law_ends⟩:=F40
 have b_law_ends:=F_law_ends.binds (ps:=["_law_some_here","_law_number","_law_begin","_law_width_here"]) fun _ _ _ _ _ _=>bn4 fun _ _ _ _=>rfl
 have m_law_ends:=pn_ X G a40
 obtain⟨fd41,F_law_begins⟩:=F41
 have b_law_begins:=F_law_begins.binds (ps:=["_law_some_here"]) fun _ _ _ _ _ _=>bn1 fun _=>rfl
 have m_law_begins:=pn_ X G a41
 obtain⟨fd42,F_law_fewest⟩:=F42
 have b_law_fewest:=F_law_fewest.binds (ps:=["_law_some_here","_law_width_here"]) fun _ _ _ _ _ _=>bn2 fun _ _=>rfl
 have m_law_fewest:=pn_ X G a42
 obtain⟨fd43,F_law_asked⟩:=F43
 have b_law_asked:=F_law_asked.binds (ps:=["_law_tongues","_law_things_here","_law_width_here"]) fun _ _ _ _ _ _=>bn3 fun _ _ _=>rfl
 have m_law_asked:=pn_ X G a43
 obtain⟨fd44,F_law_width⟩:=F44
 have b_law_width:=F_law_width.binds (ps:=["_law_feed_here"]) fun _ _ _ _ _ _=>bn1 fun _=>rfl
 have m_law_width:=pn_ X G a44
 obtain⟨fd45,F_law_right⟩:=F45
 have b_law_right:=F_law_right.binds (ps:=["_law_tongues","_law_some_here","_law_things_here","_law_width_here"]) fun _ _ _ _ _ _=>bn4 fun _ _ _ _=>rfl
 have m_law_right:=pn_ X G a45
 have F_law:=jtt_ (st:=s_law) l46 c_46 k46
 have b_law:=F_law.binds (ps:=["_law_script"]) fun _ _ _ _ _ _=>bn1 fun _=>rfl
 have m_law:=pn_ X G a46
 refine⟨sw_ "law" "law" (vv_ s_law) (xf_ s_law) (jl_ s_law) .none kV46 dc46 pm46 an46 cd46 ct46,fun s v=>.of_eq rfl,fun base _ _=>?_⟩
 have D_TooNarrow_init:Ini l.prog w K mg base ((fun i=>([c0,c1,c2,c3,c4,c5,c6,c7]:List Addr).getD i 0) 4) 1 ["self","place"] (jnd_ okTx ((fun i=>([c0,c1,c2,c3,c4,c5,c6,c7]:List Addr).getD i 0) 4) "place"):=⟨_,_,iC4,fC4,b_TooNarrow_init,u7_ Z F_TooNarrow_init⟩
 have D_fitting_places:Dn l.prog w K mg base "fitting_places" 1 ["signs","framed"] jsi_:=⟨_,_,m_fitting_places,F_fitting_places.kp,b_fitting_places,un_ T F_fitting_places⟩
 have D_values_by_fits:Dn l.prog w K mg base "values_by_fits" 1 ["fits","word"] jdn_:=⟨_,_,m_values_by_fits,F_values_by_fits.kp,b_values_by_fits,uh_ T F_values_by_fits⟩
 have D_values:Dn l.prog w K mg base "values" 2 ["patterns","word"] xn_:=⟨_,_,m_values,F_values.kp,b_values,jpr_ T F_values D_fitting_places D_values_by_fits⟩
 have D_breaks:Dn l.prog w K mg base "breaks" 3 ["patterns","word"] jcv_:=⟨_,_,m_breaks,F_breaks.kp,b_breaks,joz_ T F_breaks D_values⟩
 have D_is_letter:Dn l.prog w K mg base "is_letter" 1 ["sign"] ue_:=⟨_,_,m_is_letter,F_is_letter.kp,b_is_letter,jgs_ T F_is_letter⟩
 have D_is_word:Dn l.prog w K mg base "is_word" 2 ["text"] u1_:=⟨_,_,m_is_word,F_is_word.kp,b_is_word,jmp_ T F_is_word D_is_letter⟩
 have D_gaps_by_word:Dn l.prog w K mg base "gaps_by_word" 1 ["told"] jvc_:=⟨_,_,m_gaps_by_word,F_gaps_by_word.kp,b_gaps_by_word,jbr_ T F_gaps_by_word⟩
 have D_Breaker_init:Dk l.prog w K mg base cO 2 ["self","patterns","told","head","tail"] (jgz_ cO):=⟨_,_,⟨mO,iOX8,fOX8,kO⟩,b_Breaker_init,jbs_ T O F_Breaker_init D_gaps_by_word⟩
 have D_Breaker_gaps:Dm l.prog w K mg base cO "gaps" 4 ["self","word"] (jlw_ cO):=⟨_,_,⟨iOX9,fOX9,F_Breaker_gaps.kp⟩,b_Breaker_gaps,jbt_ T O F_Breaker_gaps D_breaks⟩
 have D_with_patterns:Dn l.prog w K mg base "with_patterns" 4 ["breaker","patterns"] (spWP cO):=⟨_,_,m_with_patterns,F_with_patterns.kp,b_with_patterns,jab_ T O F_with_patterns D_Breaker_init⟩
 have D_Tongues_init:Dk l.prog w K mg base cO2 1 ["self"] (jsn_ cO2):=⟨_,_,⟨mO2,iOX11,fOX11,kO2⟩,b_Tongues_init,jbv_ T O2 F_Tongues_init⟩
 have D_Tongues_put:Dm l.prog w K mg base cO2 "put" 5 ["self","name","breaker"] (jsx_ cO cO2):=⟨_,_,⟨iOX12,fOX12,F_Tongues_put.kp⟩,b_Tongues_put,jcm_ T O O2 F_Tongues_put D_with_patterns⟩
 have D_Tongues_breaker_of:Dm l.prog w K mg base cO2 "breaker_of" 1 ["self","name"] (jld_ cO2):=⟨_,_,⟨iOX13,fOX13,F_Tongues_breaker_of.kp⟩,b_Tongues_breaker_of,vh_ T O2 F_Tongues_breaker_of⟩
 have D_mark_of:Dn l.prog w K mg base "mark_of" 1 ["thing"] jgr_:=⟨_,_,m_mark_of,F_mark_of.kp,b_mark_of,jmq_ T TC F_mark_of⟩
 have D_word_of:Dn l.prog w K mg base "word_of" 2 ["thing"] u2_:=⟨_,_,m_word_of,F_word_of.kp,b_word_of,jlf_ T F_word_of D_mark_of⟩
 have D_is_name:Dn l.prog w K mg base "is_name" 3 ["text"] jdf_:=⟨_,_,m_is_name,F_is_name.kp,b_is_name,jkz_ T F_is_name D_is_word⟩
 have D_is_thing:Dn l.prog w K mg base "is_thing" 4 ["thing"] jaj_:=⟨_,_,m_is_thing,F_is_thing.kp,b_is_thing,jjn_ T F_is_thing D_is_word D_is_name D_word_of⟩
 have D_check_things:Dn l.prog w K mg base "check_things" 5 ["text"] jhz_:=⟨_,_,m_check_things,F_check_things.kp,b_check_things,jbq_ T F_check_things D_is_thing⟩
 have D_pieces:Dn l.prog w K mg base "pieces" 6 ["tongues","text"] (jch_ cO cO2):=⟨_,_,m_pieces,F_pieces.kp,b_pieces,jpe_ T O O2 F_pieces D_check_things D_mark_of D_word_of D_Tongues_breaker_of D_Breaker_gaps⟩
 have D_farthest_end:Dn l.prog w K mg base "farthest_end" 1 ["gaps","begin","room"] jrr_:=⟨_,_,m_farthest_end,F_farthest_end.kp,b_farthest_end,jbu_ T F_farthest_end⟩
 have D_pressed:DnX l.prog w K mg base "pressed" 7 ["tongues","text","width"] (jdv_ cO cO2 c4):=⟨_,_,m_pressed,F_pressed.kp,b_pressed,jmf_ T Z F_pressed D_pieces D_farthest_end D_TooNarrow_init⟩
 have D_joined:Dn l.prog w K mg base "joined" 1 ["lines"] jci_:=⟨_,_,m_joined,F_joined.kp,b_joined,jpb_ T F_joined⟩
 have D_law_feed:Dn l.prog w K mg base "_law_feed" 1 ["_law_script","_law_k"] (jlj_ K):=⟨_,_,m_law_feed,F_law_feed.kp,b_law_feed,jjz_ T F_law_feed⟩
 have D_law_next:Dn l.prog w K mg base "_law_next" 1 ["_law_feed_here","_law_many"] yo_:=⟨_,_,m_law_next,F_law_next.kp,b_law_next,jjh_ F_law_next⟩
 have D_law_letters:Dn l.prog w K mg base "_law_letters" 2 ["_law_feed_here"] jap_:=⟨_,_,m_law_letters,F_law_letters.kp,b_law_letters,jcu_ T F_law_letters D_law_next⟩
 have D_law_word:Dn l.prog w K mg base "_law_word" 2 ["_law_feed_here","_law_letters_here","_law_most"] jdd_:=⟨_,_,m_law_word,F_law_word.kp,b_law_word,jkj_ T F_law_word D_law_next⟩
 have D_law_numbers:Dn l.prog w K mg base "_law_numbers" 2 ["_law_feed_here","_law_signs","_law_few"] jaf_:=⟨_,_,m_law_numbers,F_law_numbers.kp,b_law_numbers,jda_ T F_law_numbers D_law_next⟩
 have D_law_pattern:Dn l.prog w K mg base "_law_pattern" 3 ["_law_feed_here","_law_letters_here","_law_word_here","_law_most"] jag_:=⟨_,_,m_law_pattern,F_law_pattern.kp,b_law_pattern,jdb_ T F_law_pattern D_law_next D_law_word D_law_numbers⟩
 have D_law_values:Dn l.prog w K mg base "_law_values" 1 ["_law_patterns","_law_word_here"] xn_:=⟨_,_,m_law_values,F_law_values.kp,b_law_values,jek_ T F_law_values⟩
 have D_law_some_gaps:Dn l.prog w K mg base "_law_some_gaps" 2 ["_law_feed_here","_law_word_here"] spSG:=⟨_,_,m_law_some_gaps,F_law_some_gaps.kp,b_law_some_gaps,jat_ T F_law_some_gaps D_law_next⟩
 have D_law_six:Dn l.prog w K mg base "_law_six" 3 ["_law_feed_here","_law_letters_here"] jsv_:=⟨_,_,m_law_six,F_law_six.kp,b_law_six,jmo_ T F_law_six D_law_next D_law_word⟩
 have D_law_parts:Dn l.prog w K mg base "_law_parts" 4 ["_law_feed_here","_law_letters_here","_law_words"] jhx_:=⟨_,_,m_law_parts,F_law_parts.kp,b_law_parts,jhg_ T F_law_parts D_law_next D_law_pattern D_law_some_gaps⟩
 have D_law_gaps:Dn l.prog w K mg base "_law_gaps" 2 ["_law_parts_here","_law_word_here"] spLG:=⟨_,_,m_law_gaps,F_law_gaps.kp,b_law_gaps,jki_ T F_law_gaps D_law_values⟩
 have D_law_names:Dn l.prog w K mg base "_law_names" 2 ["_law_feed_here"] jhd_:=⟨_,_,m_law_names,F_law_names.kp,b_law_names,jhv_ T F_law_names D_law_next⟩
 have D_law_made:Dn l.prog w K mg base "_law_made" 6 ["_law_some_here"] (jgv_ cO cO2):=⟨_,_,m_law_made,F_law_made.kp,b_law_made,jih_ T O O2 F_law_made D_Tongues_init D_Breaker_init D_Tongues_put⟩
 have D_law_some:Dn l.prog w K mg base "_law_some" 5 ["_law_feed_here","_law_letters_here","_law_words"] jkp_:=⟨_,_,m_law_some,F_law_some.kp,b_law_some,jje_ T F_law_some D_law_names D_law_next D_law_parts⟩
 have D_law_things:Dn l.prog w K mg base "_law_things" 3 ["_law_feed_here","_law_some_here","_law_words","_law_letters_here"] jee_:=⟨_,_,m_law_things,F_law_things.kp,b_law_things,jel_ T F_law_things D_law_next D_law_word⟩
 have D_law_pieces:Dn l.prog w K mg base "_law_pieces" 3 ["_law_some_here","_law_things_here"] jac_:=⟨_,_,m_law_pieces,F_law_pieces.kp,b_law_pieces,jen_ T F_law_pieces D_law_gaps⟩
 have D_law_line:Dn l.prog w K mg base "_law_line" 1 ["_law_some_here","_law_number","_law_begin","_law_end"] jlh_:=⟨_,_,m_law_line,F_law_line.kp,b_law_line,jil_ T F_law_line⟩
 have D_law_ends:Dn l.prog w K mg base "_law_ends" 2 ["_law_some_here","_law_number","_law_begin","_law_width_here"] jli_:=⟨_,_,m_law_ends,F_law_ends.kp,b_law_ends,jke_ T F_law_ends D_law_line⟩
 have D_law_begins:Dn l.prog w K mg base "_law_begins" 1 ["_law_some_here"] jdg_:=⟨_,_,m_law_begins,F_law_begins.kp,b_law_begins,jeh_ T F_law_begins⟩
 have D_law_fewest:Dn l.prog w K mg base "_law_fewest" 3 ["_law_some_here","_law_width_here"] jdt_:=⟨_,_,m_law_fewest,F_law_fewest.kp,b_law_fewest,jeo_ T F_law_fewest D_law_begins D_law_ends⟩
 have D_law_asked:Dn l.prog w K mg base "_law_asked" 8 ["_law_tongues","_law_things_here","_law_width_here"] (u4_ cO cO2):=⟨_,_,m_law_asked,F_law_asked.kp,b_law_asked,jhn_ T Z F_law_asked D_pressed⟩
 have D_law_width:Dn l.prog w K mg base "_law_width" 2 ["_law_feed_here"] jgt_:=⟨_,_,m_law_width,F_law_width.kp,b_law_width,jhb_ T F_law_width D_law_next⟩
 have D_law_right:Dn l.prog w K mg base "_law_right" 9 ["_law_tongues","_law_some_here","_law_things_here","_law_width_here"] (jco_ cO cO2):=⟨_,_,m_law_right,F_law_right.kp,b_law_right,jid_ T F_law_right D_law_pieces D_law_fewest D_law_asked D_joined⟩
 exact ok_law T O2 O F_law D_law_feed D_law_letters D_law_six D_law_some D_law_made D_law_things D_law_width D_law_right
theorem walk {l:kt_} {q:Program} {loose:List Str} {XP:(Str->Option Value)->Heap->Prop} {YP:World->Heap->Prop} {d:DefRec} {K:Params->pb_} (hn:l.most=some 63) (hdf:d.params.defaults=[])
  (hY:∀(w:World) (h:Heap),YP w h->(K w.params).In h)
  (F:∀(w:World) (mg:Str->Option Value) (fa:Addr) (h:Heap),(K w.params).In h->h.Ns mainGlobals mg->mg d.name=some (.ref fa) ->
   ∃ fd:FuncData,(∀(s:Shared) (u:Value),BindsTo s fd ⟨[u],[]⟩ [("_law_script",u)])/\∀ base:Heap,(K w.params).In base->base.Ns mainGlobals mg->FnOk l.prog w (K w.params) mg base CX0 10 fa fd ["_law_script"] (jow_ (K w.params))) :
  PySem.W.WalkO q loose XP YP l.row.toRowW d [] (fun f vs=>PySem.call f vs) :=
 L2.jno_ (n:=63) (k:=10) (x:="_law_script") (CX:=fun _=>CX0) (sp:=fun w=>jow_ (K w.params)) hn (by decide) hdf ⟨rfl,by decide,by decide⟩ hY F (fun _ _ a ns hl _ hS=>⟨a,ns,rfl,hS,hl,fun _=>rfl⟩) fun _ _ _ _ _ z=>z
end K75
local macro_rules | `(tactic| walk_at "w")=>`(tactic| (refine' ⟨_,L2.jtt_ ?l ?c ?k⟩;(case l=>k_is);(case c=>k_is);(case k=>k_is)))
local macro_rules | `(tactic| walk_at "x")=>`(tactic| (refine' K75.exc_mk ?o ?p ?r ?s ?k ?l;(case o=>k_is);(case p=>k_is);(case r=>k_is);(case s=>k_is);(case k=>k_is);(case l=>k_is)))
open PySem PySem.W PyProof.Rows
set_option maxRecDepth 100000 in
set_option maxHeartbeats 0 in
theorem PySem.Challenge.cw_breakwords_k75_whole_fewest_lines_holds : PySem.Challenge.rw_breakwords_k75_whole_fewest_lines.Holds := by
 w_on;o_law;k_head;(case hw=>w_witness2)
 k_fill
 refine K75.walk (l:=PySem.Challenge.rw_breakwords_k75_whole_fewest_lines) rfl rfl (fun w h Y=>PySem.W.kIn_of Y) ?F
 case F =>
  intro w mg fa h KX G hmg
  refine' K75.all_mk KX G hmg ?aC0 ?oC0 ?rC0 ?gC0 ?iC0 ?aC1 ?xC1 ?iC1 ?fC1 ?nC1 ?aC2 ?xC2 ?iC2 ?fC2 ?nC2 ?aC3 ?xC3 ?iC3 ?fC3 ?nC3 ?aC4 ?xC4 ?iC4 ?fC4 ?nC4 ?aC5 ?xC5 ?iC5 ?fC5 ?nC5 ?aC6 ?xC6 ?iC6 ?fC6 ?nC6 ?aC7 ?xC7 ?iC7 ?ndC ?aO ?pO ?dO ?vO ?sO ?mO ?kO ?n_told_gaps ?n_patterns ?n_head ?n_tail ?aO2 ?pO2 ?dO2 ?vO2 ?sO2 ?mO2 ?kO2 ?n2_breakers ?F0 ?a1 ?F1 ?a2 ?F2 ?a3 ?F3 ?a4 ?F4 ?a5 ?F5 ?a6 ?F6 ?a7 ?F7 ?iOX8 ?fOX8 ?F8 ?iOX9 ?fOX9 ?F9 ?a10 ?F10 ?iOX11 ?fOX11 ?F11 ?iOX12 ?fOX12 ?F12 ?iOX13 ?fOX13 ?F13 ?a14 ?F14 ?a15 ?F15 ?a16 ?F16 ?a17 ?F17 ?a18 ?F18 ?a19 ?F19 ?a20 ?F20 ?a21 ?F21 ?a22 ?F22 ?a23 ?F23 ?a24 ?F24 ?a25 ?F25 ?a26 ?F26 ?a27 ?F27 ?a28 ?F28 ?a29 ?F29 ?a30 ?F30 ?a31 ?F31 ?a32 ?F32 ?a33 ?F33 ?a34 ?F34 ?a35 ?F35 ?a36 ?F36 ?a37 ?F37 ?a38 ?F38 ?a39 ?F39 ?a40 ?F40 ?a41 ?F41 ?a42 ?F42 ?a43 ?F43 ?a44 ?F44 ?a45 ?F45 ?a46 ?l46 ?c_46 ?k46 ?aT ?lT ?gLETTERS ?gMOST_LETTERS ?z_len ?z_abs ?z_all ?z_range ?z_enumerate ?z_isinstance ?z_tuple ?z_list ?z_bool ?z_str ?z_int ?z_min ?z_max ?z_reversed ?z_ValueError
  case aC0 | oC0 | rC0 | gC0 | iC0 | aC1=>k_is
  case xC1=>walk_at "x"
  case iC1 | fC1 | nC1 | aC2=>k_is
  case xC2=>walk_at "x"
  case iC2 | fC2 | nC2 | aC3=>k_is
  case xC3=>walk_at "x"
  case iC3 | fC3 | nC3 | aC4=>k_is
  case xC4=>walk_at "x"
  case iC4 | fC4 | nC4 | aC5=>k_is
  case xC5=>walk_at "x"
  case iC5 | fC5 | nC5 | aC6=>k_is
  case xC6=>walk_at "x"
  case iC6 | fC6 | nC6 | aC7=>k_is
  case xC7=>walk_at "x"
  case iC7=>k_is
  case ndC=>decide
  case aO | pO | dO | vO | sO | mO | kO | n_told_gaps | n_patterns | n_head | n_tail | aO2 | pO2 | dO2 | vO2 | sO2 | mO2 | kO2 | n2_breakers=>k_is
  case F0=>walk_at "w"
  case a1=>k_is
  case F1=>walk_at "w"
  case a2=>k_is
  case F2=>walk_at "w"
  case a3=>k_is
  case F3=>walk_at "w"
  case a4=>k_is
  case F4=>walk_at "w"
  case a5=>k_is
  case F5=>walk_at "w"
  case a6=>k_is
  case F6=>walk_at "w"
  case a7=>k_is
  case F7=>walk_at "w"
  case iOX8 | fOX8=>k_is
  case F8=>walk_at "w"
  case iOX9 | fOX9=>k_is
  case F9=>walk_at "w"
  case a10=>k_is
  case F10=>walk_at "w"
  case iOX11 | fOX11=>k_is
  case F11=>walk_at "w"
  case iOX12 | fOX12=>k_is
  case F12=>walk_at "w"
  case iOX13 | fOX13=>k_is
  case F13=>walk_at "w"
  case a14=>k_is
  case F14=>walk_at "w"
  case a15=>k_is
  case F15=>walk_at "w"
  case a16=>k_is
  case F16=>walk_at "w"
  case a17=>k_is
  case F17=>walk_at "w"
  case a18=>k_is
  case F18=>walk_at "w"
  case a19=>k_is
  case F19=>walk_at "w"
  case a20=>k_is
  case F20=>walk_at "w"
  case a21=>k_is
  case F21=>walk_at "w"
  case a22=>k_is
  case F22=>walk_at "w"
  case a23=>k_is
  case F23=>walk_at "w"
  case a24=>k_is
  case F24=>walk_at "w"
  case a25=>k_is
  case F25=>walk_at "w"
  case a26=>k_is
  case F26=>walk_at "w"
  case a27=>k_is
  case F27=>walk_at "w"
  case a28=>k_is
  case F28=>walk_at "w"
  case a29=>k_is
  case F29=>walk_at "w"
  case a30=>k_is
  case F30=>walk_at "w"
  case a31=>k_is
  case F31=>walk_at "w"
  case a32=>k_is
  case F32=>walk_at "w"
  case a33=>k_is
  case F33=>walk_at "w"
  case a34=>k_is
  case F34=>walk_at "w"
  case a35=>k_is
  case F35=>walk_at "w"
  case a36=>k_is
  case F36=>walk_at "w"
  case a37=>k_is
  case F37=>walk_at "w"
  case a38=>k_is
  case F38=>walk_at "w"
  case a39=>k_is
  case F39=>walk_at "w"
  case a40=>k_is
  case F40=>walk_at "w"
  case a41=>k_is
  case F41=>walk_at "w"
  case a42=>k_is
  case F42=>walk_at "w"
  case a43=>k_is
  case F43=>walk_at "w"
  case a44=>k_is
  case F44=>walk_at "w"
  case a45=>k_is
  case F45=>walk_at "w"
  case a46 | l46 | c_46 | k46 | aT | lT | gLETTERS | gMOST_LETTERS | z_len | z_abs | z_all | z_range | z_enumerate | z_isinstance | z_tuple | z_list | z_bool | z_str | z_int | z_min | z_max | z_reversed | z_ValueError=>k_is
#print axioms PySem.Challenge.cw_breakwords_k75_whole_fewest_lines_holds
namespace K75
end K75
