import PyProof.Rows.All
import Wide.All
import OpenK.AllK
import Wide.FinOn
import Lean
import PyProof.EqAt
import PyProof.EqKinds
import PyProof.TupleCall
import PyProof.CompFree
import PyProof.P3Eq
import PyProof.Draws
import PyProof.EnumMake
import PyProof.WalksMore
import PyProof.StrLawsIn
import PyProof.ZipIter
import PyProof.Rows.SortShellK
import PyProof.Rows.SortStr
import KE.KDictOf
import KE.KDictSum
import PyProof.CollectIter
import PyProof.TupleOfGen
import PyProof.ListRange
import KE.KRevIter
import PyProof.CollectWalk
import PyProof.ListNew
import KE.KItemsList
import KE.KDictList
import PyProof.DictTruth
import PyProof.DictWalks
import KE.KDictLaws
import PyProof.WalkInts
import PyProof.SeqI3
import KE.KIntText
import PyProof.Rows.TupDisplay
import KE.KMinKey
import PyProof.Rows.CallKwBuiltin
import PyProof.MeetsSeq
import PyProof.FactsAll.list_4
import PyProof.FactsAll.tuple_2
import PyProof.FactsAll.tuple_3
import PyProof.AutoListH
import PyProof.Rows.Range3
import PySem.Challenge.RW_breakwords_k44_whole_full_patterns
local macro_rules | `(tactic| omega)=>`(tactic| lia)
namespace PySem.W.Fast
def tw13073496134452573636:=0
def tw526187941757626721:=0
def tw16550370745723417705:=0
def tw8930808171628558552:=0
def tw17201506922558809943:=0
def tw234531177442731747:=0
def tw14585275684539822567:=0
def tw6256270379776686085:=0
def tw17660279586485191611:=0
def tw7167629149708008563:=0
def tw354719444798531497:=0
def tw4167769080046364485:=0
def tw15156814460154382760:=0
def tw11081267379705155873:=0
def tw17276740883724269968:=0
def tw11774432692610757502:=0
def tw1632935691189313199:=0
def tw9218610153776853332:=0
def tw11411288824539547784:=0
def tw11799883731293521103:=0
def tw6346057655543822459:=0
def tw4123965799487108573:=0
def tw6233139306155305829:=0
def tw3168943156484535993:=0
def tw5537331883894235538:=0
def tw17285208072268401203:=0
def tw12504456361542531289:=0
def tw2521371408757118546:=0
def tw189937134925742554:=0
def tw13507922173476766815:=0
def tw14276782111069259830:=0
def tw4187235320075998362:=0
def tw14423360508057612077:=0
def tw6484199108293750361:=0
def tw3841648313997310746:=0
def tw4521750373823296145:=0
def tw10456374953263405468:=0
def tw16494111759085520288:=0
def tw10159842285110042753:=0
def tw2771246925234100175:=0
def tw1427045273954852801:=0
def tw10775344469658932488:=0
def tw10365710291998436409:=0
def tw1081506154324645210:=0
def tw9908808972700307578:=0
def tw2969916343196788499:=0
def tw320046033810409716:=0
def tw1579262995686047659:=0
def tw14909702268273696833:=0
def tw4723046992963512963:=0
def tw3601430598858296170:=0
def tw3715842009632293519:=0
def tw15312774874972910240:=0
def tw18430330272810289016:=0
def tw14872001322567180063:=0
def tw6963633194722757452:=0
def tw2082902818202104464:=0
def tw4479123048102103094:=0
def tw15574184355202337565:=0
def tw5471729113131115251:=0
def tw16837958932752919380:=0
def tw12150906204051812975:=0
def tw4352619972897261349:=0
def tw12335606100434357579:=0
def tw11074644541879312442:=0
def tw5651318769434217840:=0
def tw12189423642107152849:=0
def tw6417329536764871717:=0
def tw11371659337981789000:=0
def tw8978720199235076648:=0
def tw17299080664107385560:=0
def tw3070605967528188588:=0
def tw6980124442330319637:=0
def tw2828088491733416663:=0
def tw7352315933977312752:=0
def tw9927384451550138715:=0
def tw9768974889161200407:=0
def tw90435964557742124:=0
def tw18081801717033009082:=0
def tw18270788888154985903:=0
def tw14553064678455368071:=0
def tw10622516067000460943:=0
def tw11192655918644468347:=0
def tw9766174904513875161:=0
def tw3345443245551873666:=0
def tw14631988479902600616:=0
def tw818259286784828986:=0
def tw14923992385053620329:=0
def tw9841567035947529239:=0
def tw10705282198156214009:=0
def tw12880836992847794756:=0
def tw16637657728886785914:=0
def tw17610561738379141044:=0
def tw11692846133655452801:=0
def tw15534375994727109578:=0
def tw1379563149813437912:=0
def tw17262299879164972204:=0
def tw13614727516226408541:=0
def tw11834419870220798934:=0
def tw10660643936113943263:=0
def tw4200848337822134405:=0
def tw6808271799500412804:=0
def tw16020065201403627454:=0
def tw11589848329224699702:=0
def tw3887173303002719444:=0
def tw3135204091077039607:=0
def tw17578549932738437659:=0
def tw8013840239266756202:=0
def tw855642905227184288:=0
def tw46479677289646489:=0
def tw17646926404360720031:=0
def tw1547924810541358840:=0
def tw6668346434909116081:=0
def tw11602070388509533579:=0
def tw2852838050979551824:=0
def tw17124643010200954401:=0
def tw2582557366542068281:=0
def tw5693400185688142005:=0
def tw8457234648753391029:=0
def tw4022496023690536847:=0
def tw2253994709251727310:=0
def tw15669766595065257896:=0
def tw7520410929786599001:=0
def tw16567859276724672185:=0
def tw13259468455834835199:=0
def tw5354138674602383234:=0
def tw14876133209720353152:=0
def tw13951350867364115977:=0
def tw12026906268040728350:=0
def tw3461470002760088763:=0
def tw7999850870256005903:=0
def tw15221162480495912444:=0
def tw5908740461697994306:=0
def tw11541228616003217318:=0
def tw4760298688979635160:=0
end PySem.W.Fast
set_option Elab.async false
set_option linter.all false
set_option maxRecDepth 100000
open List renaming getElem?_eq_getElem→pa_,length_map→pb_,getD_eq_getElem?_getD→pd_,length_append→pe_,getElem?_map→pf_,replicate→pg_,map_append→ph_,getElem?_eq_some_iff→pj_,mem_cons_of_mem→pl_,mem_cons_self→pn_,range→po_,size_toArray→pp_,mem_map→pq_,map_cons→pr_,getElem_mem→ps_,mem_append→pt_,mem_singleton→pv_,length_take→pw_,mem_filter→py_,filter_cons→pz_,take_length→p0_,length_cons→p3_,mem_range→p5_,mem_cons→p6_,take_succ→p8_,mem_flatMap→qa_,length_range→qb_,filter_append→qd_,length_filter_le→qf_,flatMap_cons→qi_,append_nil→qk_,range_succ→qm_,filter_nil→qn_,mem_append_right→qo_,nodup_append→qq_,lookup_cons→qr_,map_nil→qs_,mem_append_left→qt_,mem_of_mem_take→qu_,append_assoc→qw_,map_map→qy_,map_congr_left→qz_,length_drop→q1_,any_eq_true→q4_,find?_eq_none→q6_,length_replicate→q9_,flatMap_append→ra_,getElem?_append_right→rb_,nodup_cons→rd_,drop_eq_getElem_cons→re_,cons_lt_cons_iff→ri_,find?_cons→rp_,filter_eq_nil_iff→rs_,replicate_succ→rt_,getElem?_append_left→rw_,cons_append→rz_,flatten_cons→r2_,filterMap_cons→r4_,length_nil→r7_,mem_map_of_mem→r9_,all_eq_true→sd_,getElem?_eq_none→sg_,take_append_drop→sh_,nil_append→sq_,length_erase_of_mem→ss_,take_of_length_le→sy_,sum_cons→s4_,pairwise_map→s5_,mem_of_getElem?→s6_,length_pos_iff→tf_,getElem_of_mem→tg_,filter_sublist→th_,getElem?_replicate→tj_,Pairwise→tk_,forIn_cons→tl_,map_replicate→to_,length_pos_of_mem→tt_,lookup→tw_,length→tx_,find?_append→t1_,not_lt→t3_,filter_congr→t4_,length_singleton→t8_,getElem?_reverse→wb_,nodup_range→wf_,getElem?_set_ne→wg_,mem_of_mem_drop→wh_,perm_cons_erase→wi_,any_cons→wl_,mem_replicate→w4_,filter_filter→w5_,lt_irrefl→ka_,drop_zero→kb_,mem_of_find?_eq_some→kc_,getElem?_take_of_lt→kf_,foldl_append→kh_,ext_getElem?→ki_,Nodup→kk_,all_cons→ko_,eraseIdx_cons_succ→kp_,length_eq_zero_iff→kr_,range'→ks_,getElem?_cons_zero→kv_,getElem?_cons_succ→kx_,le_antisymm→ky_,getElem?_set_self→k1_,of_mem_zip→lb_,foldl_cons→lc_,filter_map→lm_,mem_iff_getElem→ln_,erase_cons_head→lp_,nodup_nil→lq_,take_zero→lr_,all_map→md_,Sublist→mf_
open PySem.W renaming Frag→pc_,nsIn→p1_,mg_of→qc_,mg_none_of→ql_,findIn→qp_,emptyDict→rh_,instObj→r3_,keepIn→si_,fnOf→s2_,plainGet→ta_,hasDictIn→tv_,isFn→t7_,plainGet_of→wq_,callWith_K→w1_,lookIn→w6_,codeIn→w7_,methodObj→kd_,plainOver→ke_,cellsFrom_some→k3_,takerIn→k8_,makesIn→k9_,methodCall_KW→la_,OpenLaw→le_,specialIn→l4_,kitx_list→l5_
open PySem.Heap renaming get?_push_of_some→pi_,get?_push_size→px_,lt_size→p2_,SameBut→qx_,get?_update_other→q0_,get?_update_self→rx_,size_push→r1_
open Bool renaming false_ne_true→pk_,false_eq_true→p4_,and_eq_true→qe_,not_true→rg_,eq_iff_iff→r5_,and_true→sv_,not_false→t5_,true_and→kq_
open Nat renaming le_refl→pm_,le_trans→p7_,ne_of_lt→qg_,lt_of_lt_of_le→qh_,zero_le→qj_,succ_mul→q3_,add_sub_cancel_left→ro_,mul_le_mul_right→rr_,mul_le_mul_left→ru_,lt_irrefl→se_,lt_succ_self→sw_,lt_of_le_of_lt→sz_,le_of_lt→s0_,le_of_eq→s1_,le_of_not_lt→tb_,lt_succ_of_lt→t0_,mul_le_mul→t6_,sub_self→t9_,pos_iff_ne_zero→wu_,add_mul→kt_,exists_eq_add_of_le→kw_,le_add_left→lj_,le_succ→ls_,add_comm→mb_
open PySem.PassesOwn renaming never→pu_
open PySem.F renaming plainAttrs_list→p9_,slot_list_append→q7_,type_list_append→q8_,plain_max_loop→rc_,slot_list_extend→rj_,type_list_extend→rk_,slot_dict_keyiterator_next→rl_,slot_tuple_iterator_next→sb_,called_enumerate→sf_,slot_NoneType_hash→s8_,entry_max_loop→tu_,slot_tuple_hash→t2_,args_dict_keyiterator_next_1→wa_,entry_dict_keyiterator_next→we_,args_tuple_iterator_next_1→wm_,slot_dict_setdefault→wp_,entry_tuple_iterator_next→wr_,slot_tuple_eq→wt_,args_tuple_add_2→kg_,slot_list_remove→kl_,type_list_remove→km_,entry_tuple_add→kn_,plainAttrs_dict→ku_,slot_tuple_add→k4_,plainAttrs_str→k6_,slot_dict_get→li_
open PySem.SeqAt renaming EqAt→qv_
open PySem.Str renaming ofString→q2_
open PySem.Builtin.SmallTypes renaming fitsIndex→q5_,nextOf→sk_
open PySem.Builtin.Tuple renaming tupleHashOf→rf_,tupleExact→so_,tupleItemsOf→wy_
open PyProof.Rows renaming callWith_type1→rm_,slot_tuple_getitem→sn_,KeyKind→lo_
open PySem.Calls renaming spliced_cons→rn_,callWith_builtin→sa_,spliced_nil→sm_,evalArgs_plain→s7_,Name_function_global→ww_
open Int renaming emod_lt_of_pos→rq_,emod_nonneg→r8_,toNat_natCast→sr_,le_refl→s3_,le_antisymm→tq_,add_comm→w3_,natCast_add→lh_,zero_add→ll_,ediv_one→ma_
open PySem.Heap.SameBut renaming update→rv_
open PyProof.Rows.KeyOrd renaming kle_refl→ry_,kle_of_klt→tz_,kle_trans→wc_,kle_antisymm→lx_
open Option renaming toList→r0_,map_some→r6_,getD_some→sx_,map_eq_some_iff→ts_,map_eq_none_iff→k5_
open False renaming elim→sc_
open PySem.Builtin.Slice renaming slicePlaces→sj_,sliceAdjust→s9_,sliceApplied→wx_
open Classical renaming byContradiction→sl_
open PySem.Builtin.List renaming listTooLong→sp_,listItems→tr_,listFitsIndex→w0_
open PySem.Builtin.Range renaming rangeSize→st_,small→ly_
open PySem renaming mem_of_lookup→su_,Within→k7_,KeyKind→lz_
open PySem.Value renaming isInt→tc_
open Ne renaming symm→td_
open Array renaming length_toList→te_,toList_inj→wd_,perm_iff_toList_perm→wz_,forIn_toList→w2_,getElem?_eq_getElem→w9_,getElem?_toList→ld_
open PySem.Builtin.Str renaming occurrences→ti_
open PySem.Obj renaming data_mapFields→tm_,mapSeq→ty_,isFreed_of_fields→lg_
open PySem.StrLaws renaming occBody→tn_
open List.Nodup renaming sublist→tp_
open PySem.Around renaming under_plainId→wj_,under→l8_
open PySem.Paired renaming length→wk_
open Function renaming comp→wn_
open PySem.Builtin.Dict_items renaming ownsTuple→wo_
open List.cons renaming injEq→ws_
open PySem.Builtin.Builtins renaming bindParams→wv_
open PySem.PyData renaming canLay0→w8_,depth→me_
open List.Pairwise renaming imp_of_mem→kj_
open PySem.MeetsSeq renaming EqGives→kz_
open Std.Legacy renaming Range→k0_
open PyProof renaming noPylong_small→k2_
open PySem.Txt renaming startswith3→lf_,slice→l3_,contains→mc_,join→mg_
open PySem.Builtin.Dict renaming showsAll→lk_
open PySem.SeqAt.EqAt renaming none_int→lt_,none_str→lu_,int_none→lv_,str_none→lw_,int_str→l0_,str_int→l1_,str_str→l2_
open Option.some renaming injEq→l6_
open List.Sublist renaming refl→l7_
open PySem.Code renaming isFrame→l9_
namespace L2
open PySem PySem.Spec PyProof.Rows
noncomputable abbrev Key:=Sum Int Str
noncomputable def vk_:Key->Value->Bool
 | .inl k,v=>tc_ k v
 | .inr x,v=>Value.isStrOf x v
noncomputable def keyH (w:World):Key->Int
 | .inl k=>hashInt k
 | .inr x=>hashStr w x
theorem za_:∀{k:Key}{v:Value},vk_ k v=true->(∃ i t,k=Sum.inl i/\v=Value.int i t)∨(∃ x t,k=Sum.inr x/\v=Value.str x t)
 | .inl i,v,h=>by
  obtain⟨t,e⟩:=Value.isInt_shape (k:=i) (v:=v) h
  exact .inl ⟨i,t,rfl,e⟩
 | .inr x,v,h=>by
  obtain⟨t,e⟩:=Value.isStrOf_shape (x:=x) (v:=v) h
  exact .inr ⟨x,t,rfl,e⟩
theorem jnq_ (i:Int)(t:Tok):vk_ (.inl i) (.int i t)=true:=by simp[vk_,tc_]
theorem jof_ (x:Str)(t:Tok):vk_ (.inr x) (.str x t)=true:=by simp[vk_,Value.isStrOf]
theorem key_ll (a b:Int):decide ((Sum.inl a:Key)=Sum.inl b)=(a == b):=by
 by_cases e:a=b
 ·subst e;simp
 ·have h:¬ (Sum.inl a:Key)=Sum.inl b:=fun q=>e (Sum.inl.inj q)
  rw[decide_eq_false h]
  exact(beq_eq_false_iff_ne.mpr e).symm
theorem jyg_ (a b:Str):decide ((Sum.inr a:Key)=Sum.inr b)=decide (a=b):=by
 by_cases e:a=b
 ·subst e;simp
 ·have h:¬ (Sum.inr a:Key)=Sum.inr b:=fun q=>e (Sum.inr.inj q)
  rw[decide_eq_false h,decide_eq_false e]
theorem jzo_ (a:Int)(b:Str):decide ((Sum.inl a:Key)=Sum.inr b)=false:=decide_eq_false (fun q=>nomatch q)
theorem jyk_ (a:Str)(b:Int):decide ((Sum.inr a:Key)=Sum.inl b)=false:=decide_eq_false (fun q=>nomatch q)
noncomputable def j9_ (prog:Program)(w:World):lz_ prog w Key where
 is:=vk_
 hash:=keyH w
 inj:=fun v a b ha hb=>by
  rcases za_ ha with ⟨i,t,rfl,rfl⟩ | ⟨x,t,rfl,rfl⟩
  ·rcases za_ hb with ⟨j,u,rfl,e⟩ | ⟨y,u,rfl,e⟩
   ·injection e with e1 _;rw[e1]
   ·exact nomatch e
  ·rcases za_ hb with ⟨j,u,rfl,e⟩ | ⟨y,u,rfl,e⟩
   ·exact nomatch e
   ·injection e with e1 _;rw[e1]
 byValue:=fun k v h=>by
  rcases za_ h with ⟨i,t,rfl,rfl⟩ | ⟨x,t,rfl,rfl⟩ <;> rfl
 pyHash:=fun hv h=>by
  rcases za_ hv with ⟨i,t,rfl,rfl⟩ | ⟨x,t,rfl,rfl⟩
  ·exact wpAny_pyHash_int h
  ·exact wpAny_pyHash_str h
 eqBool:=fun hu hv h=>by
  rcases za_ hu with ⟨i,t,rfl,rfl⟩ | ⟨x,t,rfl,rfl⟩
  ·rcases za_ hv with ⟨j,u,rfl,rfl⟩ | ⟨y,u,rfl,rfl⟩
   ·rw[key_ll] at h;exact wpAny_eqBool_int h
   ·rw[jzo_] at h;exact l0_ i t y u _ _ _ _ h
  ·rcases za_ hv with ⟨j,u,rfl,rfl⟩ | ⟨y,u,rfl,rfl⟩
   ·rw[jyk_] at h;exact l1_ x t j u _ _ _ _ h
   ·rw[jyg_] at h;exact wpAny_eqBool_str h
 «strs»:=fun k x t v h=>by
  rcases za_ h with ⟨i,u,rfl,e⟩ | ⟨y,u,rfl,e⟩
  ·exact nomatch e
  ·injection e with e1 _
   subst e1
   cases v <;> rfl
theorem jjb_ (prog:Program)(w:World)(i:Int)(t:Tok):(j9_ prog w).is (.inl i) (.int i t)=true:=jnq_ i t
theorem xo_ (prog:Program)(w:World)(x:Str)(t:Tok):(j9_ prog w).is (.inr x) (.str x t)=true:=jof_ x t
end L2
namespace L2
open PySem PySem.Spec PyProof.Rows
inductive V where
 | non | bl (b:Bool) | int (i:Int) | str (x:Str) | byt (b:Array UInt8) | flt (b:UInt64) | ref (a:Addr) | ty (n:String)
 deriving DecidableEq
def RelV:V->Value->Prop
 | .non,u=>u=Value.none
 | .bl b,u=>u=Value.bool b
 | .int i,u=>∃ t,u=Value.int i t
 | .str x,u=>∃ t,u=Value.str x t
 | .byt b,u=>∃ t,u=Value.bytes b t
 | .flt b,u=>∃ t,u=Value.float b t
 | .ref a,u=>u=Value.ref a
 | .ty n,u=>u=Value.type n
abbrev Vals:List V->List Value->Prop:=Paired RelV
theorem Vals.length {xs:List V}{us:List Value}(r:Vals xs us):xs.length=us.length:=wk_ r
theorem Vals.get:∀{xs:List V}{us:List Value}{i:Nat}{x:V},Vals xs us->xs[i]?=some x->∃ u,us[i]?=some u/\RelV x u
 | _,_,_,_,.nil,e=>by simp at e
 | _,_,0,_,.cons r _,e=>by simp at e;subst e;exact⟨_,rfl,r⟩
 | _,_,i+1,x,.cons _ t,e=>by
  obtain⟨u,h1,h2⟩:=Vals.get (i:=i) (x:=x) t (by simpa using e)
  exact⟨u,by simpa using h1,h2⟩
theorem Vals.set {x:V}{u:Value}(r:RelV x u):∀{xs:List V}{us:List Value} (i:Nat),Vals xs us->Vals (xs.set i x) (us.set i u)
 | _,_,_,.nil=>.nil
 | _,_,0,.cons _ t=>.cons r t
 | _,_,i+1,.cons q t=>.cons q (Vals.set r i t)
theorem Vals.append:∀{xs ys:List V}{us ws:List Value},Vals xs us->Vals ys ws->Vals (xs++ys) (us++ws)
 | _,_,_,_,.nil,s=>s
 | _,_,_,_,.cons r t,s=>.cons r (Vals.append t s)
theorem Vals.take:∀{xs:List V}{us:List Value} (n:Nat),Vals xs us->Vals (xs.take n) (us.take n)
 | _,_,0,_=>.nil
 | _,_,_+1,.nil=>.nil
 | _,_,n+1,.cons r t=>.cons r (Vals.take n t)
theorem Vals.drop:∀{xs:List V}{us:List Value} (n:Nat),Vals xs us->Vals (xs.drop n) (us.drop n)
 | _,_,0,r=>r
 | _,_,_+1,.nil=>.nil
 | _,_,n+1,.cons _ t=>Vals.drop n t
def RelO:Option V->Option Value->Prop
 | some v,some u=>RelV v u
 | none,none=>True
 | _,_=>False
def KV {κ:Type}:List (κ×V)->List (κ×Value)->Prop:=Paired fun(p:κ×V) (q:κ×Value)=>p.1=q.1/\RelV p.2 q.2
noncomputable def kV:Key->V
 | .inl i=>.int i
 | .inr x=>.str x
inductive HO where
 | lst (xs:List V)
 | tup (xs:List V)
 | dK (kvs:List (Key×V)) | dT (kvs:List (List Key×V))
 | set (S:Int->Bool) (n:Nat)
 | ins (C dx:Addr) (fs:List (Str×V))
 | own (x:Addr)
 | xd (fs:List (Str×V))
 | met (f x:Addr)
 | rng (lo hi:Int)
 | frz (o:Obj) (u:HO)
 | tbl (ps:Array Value)
 | ext (φ:Heap->Prop)
noncomputable abbrev Hp:=Addr->Option HO
noncomputable def upd (H:Hp)(a:Addr)(o:HO):Hp:=fun b=>if b=a then some o else H b
theorem jb_ {H:Hp}{a:Addr}{o:HO}:upd H a o a=some o:=by unfold upd;rw[if_pos rfl]
theorem jh_ {H:Hp}{a b:Addr}{o:HO}(h:b≠a):upd H a o b=H b:=by unfold upd;rw[if_neg h]
theorem jja_ {H:Hp}{a b:Addr}{o u:HO}(h:H a=some o)(h':H b=some u)(d:o≠u):a≠b:=by
 intro e;subst e;rw[h] at h';exact d (Option.some.inj h')
theorem jg_ {H:Hp}{a b:Addr}{o:HO}(h:H a=some o)(h':H b=none):a≠b:=by
 intro e;subst e;rw[h] at h';cases h'
def DcN (h:Heap)(a:Addr):Prop:=∀ o,h.get? a=some o->o.dict=none
theorem DcN.new (h:Heap)(items:Array Value){n:Nat}:DcN (h.push { cls:=.type "tuple",data:=.seq items n }) h.objs.size:=fun o e=>by
 rw[px_ _ rfl] at e;cases e;rfl
section
variable (P:Program) (w:World)
def ObjOk (H:Hp)(h:Heap)(a:Addr):HO->Prop
 | .lst xs=>xs.length<=sizeLine/\∃(its:List Value) (n:Nat),Vals xs its/\h.get? a=some { cls:=.type "list",data:=.seq its.toArray n }
 | .tup xs=>xs.length<=sizeLine/\∃ its:List Value,Vals xs its/\IsTup h a its.toArray/\DcN h a
 | .dK kvs=>kvs.length<=sizeLine/\(a == sysModules)=false/\∃ vs,KV kvs vs/\h.DictOf (j9_ P w) a vs
 | .dT kvs=>kvs.length<=sizeLine/\(a == sysModules)=false/\∃ xs:List (List Key×Addr×Value),
   Paired (fun(p:List Key×V) (q:List Key×Addr×Value)=>p.1=q.1/\H q.2.1=some (.tup (p.1.map kV))/\RelV p.2 q.2.2) kvs xs /\
   ∃ o es ep,h.get? a=some o/\o.ExactDict/\o.data=.dict es ep/\es.toList=xs.map (entryOfKey (tupleKind (j9_ P w)))/\(xs.map (·.1)).Nodup
 | .set S n=>h.SetOf (intKind P w) a S n
 | .ins C dx fs=>H dx=some (.own a)/\fs.length<=1000/\dx≠a/\h.get? a=some (r3_ C dx) /\
   ∃ mA,h.Ns1 dx mA/\(∀ f,RelO (fs.lookup f) (mA f))/\k7_ mA (fs.map (·.1))
 | .own _=>∃ o,h.get? a=some o
 | .xd fs=>∃ mA,h.Ns1 a mA/\∀ f,RelO (fs.lookup f) (mA f)
 | .rng lo hi=>∃ t u v,h.get? a=some { cls:=.type "range",data:=.fields #[.int lo t,.int hi u,.int 1 v] }
 | .frz o u=>h.get? a=some o/\ObjOk H h a u
 | .tbl ps=>h.get? a=some { cls:=.none,data:=.fields ps }
 | .met f x=>h.get? a=some (kd_ (.ref f) (.ref x))
 | .ext φ=>φ h/\(∃ o,h.get? a=some o)/\∀ h1 h2:Heap,φ h1->(∀ o,h1.get? a=some o->h2.get? a=some o)->φ h2
def HOk (H:Hp)(h:Heap):Prop:=∀ a o,H a=some o->ObjOk P w H h a o
end
section
variable {P:Program}{w:World}{H H':Hp}{h h':Heap}{a:Addr}{o:HO}
theorem ObjOk.lt (x:ObjOk P w H h a o):a < h.objs.size:=by
 cases o with
 | lst xs=>obtain⟨_,_,_,_,e⟩:=x;exact p2_ e
 | tup xs=>obtain⟨_,_,_,p⟩:=x;exact p.1.lt
 | dK kvs=>obtain⟨_,_,_,_,o,_,_,e,_⟩:=x;exact p2_ e
 | dT kvs=>obtain⟨_,_,_,_,o,_,_,e,_⟩:=x;exact p2_ e
 | set S n=>obtain⟨o,_,_,_,e,_⟩:=x;exact p2_ e
 | ins C dx fs=>obtain⟨_,_,_,e,_⟩:=x;exact p2_ e
 | own y=>obtain⟨_,e⟩:=x;exact p2_ e
 | xd fs=>obtain⟨_,⟨_,_,_,e,_⟩,_⟩:=x;exact p2_ e
 | rng lo hi=>obtain⟨_,_,_,e⟩:=x;exact p2_ e
 | frz ob u=>obtain⟨e,_⟩:=x;exact p2_ e
 | tbl ps=>exact p2_ (show h.get? a=some _ from x)
 | met f y=>exact p2_ (show h.get? a=some _ from x)
 | ext φ=>obtain⟨_,⟨_,e⟩,_⟩:=x;exact p2_ e
theorem Paired.mapP {α β:Type}{F G:α->β->Prop}:∀{l₁:List α}{l₂:List β},Paired F l₁ l₂->(∀ a b,F a b->G a b)->Paired G l₁ l₂
 | _,_,.nil,_=>.nil
 | _,_,.cons r t,f=>.cons (f _ _ r) (Paired.mapP t f)
theorem ObjOk.stay (x:ObjOk P w H h a o)(k:∀ b u,(b=a∨H b=some (.own a))->h.get? b=some u->h'.get? b=some u)
  (ho:∀ b,H b=some (.own a)->H' b=some (.own a)) (ht:∀ b xs,H b=some (.tup xs)->H' b=some (.tup xs)):ObjOk P w H' h' a o:=by
 induction o with
 | lst xs=>obtain⟨z,its,n,r,e⟩:=x;exact⟨z,its,n,r,k _ _ (.inl rfl) e⟩
 | tup xs=>obtain⟨z,its,r,⟨ob,e,c⟩,dn⟩:=x;exact⟨z,its,r,⟨ob,k _ _ (.inl rfl) e,c⟩,fun o' e'=>by rw[k _ _ (.inl rfl) e] at e';cases e';exact dn ob e⟩
 | dK kvs=>obtain⟨z,y,vs,r,ob,es,ep,e,c⟩:=x;exact⟨z,y,vs,r,ob,es,ep,k _ _ (.inl rfl) e,c⟩
 | dT kvs =>
  obtain⟨z,y,xs,r,ob,es,ep,e,c⟩:=x
  exact⟨z,y,xs,Paired.mapP r fun p q z=>⟨z.1,ht _ _ z.2.1,z.2.2⟩,ob,es,ep,k _ _ (.inl rfl) e,c⟩
 | set S n=>obtain⟨ob,es,ep,t,e,c⟩:=x;exact⟨ob,es,ep,t,k _ _ (.inl rfl) e,c⟩
 | ins C dx fs =>
  obtain⟨d,z,ne,e,mA,⟨od,es,ep,e2,c⟩,r⟩:=x
  exact⟨ho _ d,z,ne,k _ _ (.inl rfl) e,mA,⟨od,es,ep,k _ _ (.inr d) e2,c⟩,r⟩
 | own y=>obtain⟨ob,e⟩:=x;exact⟨ob,k _ _ (.inl rfl) e⟩
 | xd fs=>obtain⟨mA,⟨od,es,ep,e,c⟩,r⟩:=x;exact⟨mA,⟨od,es,ep,k _ _ (.inl rfl) e,c⟩,r⟩
 | rng lo hi=>obtain⟨t,u,v,e⟩:=x;exact⟨t,u,v,k _ _ (.inl rfl) e⟩
 | frz ob u ih=>obtain⟨e,q⟩:=x;exact⟨k _ _ (.inl rfl) e,ih q⟩
 | tbl ps =>
  have e:h.get? a=some { cls:=.none,data:=.fields ps }:=x
  show h'.get? a=some { cls:=.none,data:=.fields ps }
  exact k a _ (.inl rfl) e
 | met f y =>
  have e:h.get? a=some (kd_ (.ref f) (.ref y)):=x
  show h'.get? a=some (kd_ (.ref f) (.ref y))
  exact k a _ (.inl rfl) e
 | ext φ=>obtain⟨p,⟨o,e⟩,st⟩:=x;exact⟨st _ _ p fun o q=>k _ _ (.inl rfl) q,⟨o,k _ _ (.inl rfl) e⟩,st⟩
theorem HOk.lt (x:HOk P w H h)(e:H a=some o):a < h.objs.size:=(x a o e).lt
theorem HOk.fresh (x:HOk P w H h)(e:h.objs.size<=a):H a=none:=by
 cases q:H a with
 | none=>rfl
 | some u=>exact absurd (qh_ (x.lt q) e) (se_ _)
theorem HOk.kept (x:HOk P w H h)(k:∀ b u,h.get? b=some u->h'.get? b=some u):HOk P w H h':=fun a o e =>
 (x a o e).stay (fun b u _ q=>k b u q) (fun _ q=>q) fun _ _ q=>q
theorem HOk.laid (x:HOk P w H h)(k:∀ b u,h.get? b=some u->h'.get? b=some u)(hp:h.objs.size<=a)(new:ObjOk P w (upd H a o) h' a o):HOk P w (upd H a o) h':=fun b u e=>by
 have hn:=x.fresh hp
 by_cases hb:b=a
 ·subst hb;rw[jb_] at e;cases e;exact new
 ·rw[jh_ hb] at e
  exact(x b u e).stay (fun c v _ q=>k c v q) (fun c q=>by rw[jh_ (jg_ q hn)];exact q) fun c xs q=>by rw[jh_ (jg_ q hn)];exact q
end
def Rd (H:Hp)(a:Addr)(u:HO):Prop:=H a=some u∨∃ o,H a=some (.frz o u)
theorem Rd.ok {P:Program}{w:World}{H:Hp}{h:Heap}{a:Addr}{u:HO}(r:Rd H a u)(x:HOk P w H h):ObjOk P w H h a u:=by
 rcases r with r | ⟨o,r⟩
 ·exact x a u r
 ·obtain⟨_,q⟩:=x a _ r
  exact q
def Mut:Option HO->Prop
 | some (.lst _)=>True
 | some (.dK _)=>True
 | some (.dT _)=>True
 | some (.set _ _)=>True
 | some (.ins _ _ _)=>True
 | some (.ext _)=>True
 | _=>False
section
variable {P:Program}{w:World}{H:Hp}{h h':Heap}{x e:Addr}{o':HO}
theorem HOk.write (ok:HOk P w H h)(mu:Mut (H x))(he:e=x∨H e=some (.own x))(k:∀ b u,b≠e->h.get? b=some u->h'.get? b=some u)(heo:∃ u,h'.get? e=some u)
  (new:ObjOk P w (upd H x o') h' x o'):HOk P w (upd H x o') h':=fun b u q=>by
 have nown:∀ c y,H c=some (.own y)->c≠x:=fun c y r z=>by subst z;rw[r] at mu;exact mu
 have ntup:∀ c xs,H c=some (.tup xs)->c≠x:=fun c xs r z=>by subst z;rw[r] at mu;exact mu
 by_cases hb:b=x
 ·subst hb;rw[jb_] at q;cases q;exact new
 ·rw[jh_ hb] at q
  by_cases hbe:b=e
  ·have q':H b=some (.own x):=by
    rcases he with z | z
    ·exact absurd (hbe.trans z) hb
    ·rw[hbe];exact z
   rw[q] at q';cases q'
   obtain⟨v,hv⟩:=heo
   exact⟨v,by rw[hbe];exact hv⟩
  ·refine(ok b u q).stay (fun c v hc r=>k c v ?_ r) (fun c r=>by rw[jh_ (nown c b r)];exact r) fun c xs r=>by rw[jh_ (ntup c xs r)];exact r
   rcases hc with rfl | hc
   ·exact hbe
   ·rintro rfl
    rcases he with z | z
    ·exact nown c b hc z
    ·rw[hc] at z;cases z;exact hb rfl
end
structure Un (fs ex:List Addr)(H H':Hp)(h h':Heap):Prop where
 keep:∀ b o,h.get? b=some o->H b=none->b∉fs->b∉ex->h'.get? b=some o
 slot:∀ b o,h.get? b=some o->H b=none->b∈fs->b∉ex->∃ sl,h'.get? b=some { o with slots:=sl }
 free:∀ b o,h.get? b=some o->H b=none->b∉ex->H' b=none
 there:∀ b o,h.get? b=some o->b∉ex->∃ o',h'.get? b=some o'
 tups:∀ b xs,H b=some (.tup xs)->H' b=some (.tup xs)
 frzs:∀ b o u,H b=some (.frz o u)->H' b=some (.frz o u)
 tbls:∀ b ps,H b=some (.tbl ps)->∃ more,H' b=some (.tbl (ps++more))
section
variable {fs fs' ex ex':List Addr}{H H1 H2:Hp}{h h1 h2 h':Heap}{a x e:Addr}{o:HO}
theorem Un.any (u:Un fs ex H H1 h h1){b:Addr}{ob:Obj}(q:h.get? b=some ob)(n:H b=none)(hx:b∉ex):∃ sl,h1.get? b=some { ob with slots:=sl }:=by
 by_cases hb:b∈fs
 ·exact u.slot b ob q n hb hx
 ·exact⟨ob.slots,u.keep b ob q n hb hx⟩
theorem Un.kept (k:∀ b u,h.get? b=some u->h'.get? b=some u):Un fs ex H H h h' :=
 ⟨fun b ob q _ _ _=>k b ob q,fun b ob q _ _ _=>⟨ob.slots,k b ob q⟩,fun _ _ _ n _=>n,fun b ob q _=>⟨ob,k b ob q⟩,fun _ _ q=>q,fun _ _ _ q=>q,fun _ ps q=>⟨#[],by rw[q];simp⟩⟩
theorem Un.refl:Un fs ex H H h h:=Un.kept fun _ _ q=>q
theorem Un.laid (k:∀ b u,h.get? b=some u->h'.get? b=some u)(hp:h.objs.size<=a)(hn:H a=none):Un fs ex H (upd H a o) h h' where
 keep:=fun b u q _ _ _=>k b u q
 slot:=fun b u q _ _ _=>⟨u.slots,k b u q⟩
 free:=fun b u q n _=>by rw[jh_ (qg_ (qh_ (p2_ q) hp))];exact n
 there:=fun b u q _=>⟨u,k b u q⟩
 tups:=fun b xs q=>by rw[jh_ (jg_ q hn)];exact q
 frzs:=fun b u xs q=>by rw[jh_ (jg_ q hn)];exact q
 tbls:=fun b ps q=>⟨#[],by rw[jh_ (jg_ q hn),q];simp⟩
theorem Un.write (mu:Mut (H x))(he:e=x∨H e=some (.own x))(k:∀ b u,b≠e->h.get? b=some u->h'.get? b=some u)(heo:∃ u,h'.get? e=some u):Un fs ex H (upd H x o) h h':=by
 have hx:∀ b,H b=none->b≠x:=fun b n z=>by subst z;rw[n] at mu;exact mu
 have hb:∀ b,H b=none->b≠e:=fun b n z=>by
  subst z
  rcases he with r | r
  ·exact hx b n r
  ·rw[n] at r;cases r
 have hm:∀ b u,H b=some u->¬ Mut (some u)->b≠x:=fun b u q nm z=>by subst z;rw[q] at mu;exact nm mu
 refine⟨fun b u q n _ _=>k b u (hb b n) q,fun b u q n _ _=>⟨u.slots,k b u (hb b n) q⟩,fun b u q n _=>by rw[jh_ (hx b n)];exact n,fun b u q _=>?_,
  fun b xs q=>by rw[jh_ (hm b _ q fun z=>z)];exact q,fun b u xs q=>by rw[jh_ (hm b _ q fun z=>z)];exact q,fun b ps q=>⟨#[],by rw[jh_ (hm b _ q fun z=>z),q];simp⟩⟩
 by_cases hbe:b=e
 ·subst hbe;exact heo
 ·exact⟨u,k b u hbe q⟩
end
noncomputable def trk (h:Heap)(H:Hp):List Addr:=(po_ h.objs.size).filter fun a=>(H a).isSome
noncomputable def hidT (h:Heap)(H:Hp):Heap:=PySem.W.hideAll h (trk h H)
theorem jpv_ (h:Heap)(H:Hp):(hidT h H).objs.size=h.objs.size:=PySem.W.hideAll_size _ _
theorem jqz_ {h:Heap}{H:Hp}{b:Addr}{o:Obj}(e:h.get? b=some o)(n:H b=none):(hidT h H).get? b=some o :=
 PySem.W.hideAll_get _ e fun hm=>by
  have q:(H b).isSome=true:=(py_.mp hm).2
  rw[n] at q;simp at q
theorem jvg_ {h:Heap}{H:Hp}{b:Addr}{o:Obj}(e:(hidT h H).get? b=some o):h.get? b=some o/\H b=none:=by
 have e':h.get? b=some o:=PySem.W.of_hideAll (trk h H) e
 refine⟨e',?_⟩
 cases q:H b with
 | none=>rfl
 | some x =>
  have hm:b∈trk h H:=py_.mpr ⟨p5_.mpr (p2_ e'),by simp[q]⟩
  have z:(hidT h H).get? b=none:=PySem.W.hideAll_none (trk h H) hm
  rw[z] at e;cases e
end L2
namespace L2
open PySem PySem.Spec PyProof.Rows
structure Mod (K:pc_)(mg:Str->Option Value)(base:Heap):Prop where
 kin:K.In base
 glob:base.Ns mainGlobals mg
 blt:∃ mb,base.Ns builtinsNs mb/\∀ x:Str,x≠"__name__"->mb x=bootBuiltins x
 nolimit:base.NoLimit
structure Cx where
 prog:Program
 w:World
 K:pc_
 mg:Str->Option Value
 base:Heap
 A:Around
 N:List Str
 s₀:Shared
 H₀:Hp
 env:Env
 outer:List Env
 stack:List Env
 ex:List Addr
 fn:Str->Bool
 calm:Bool
 pn:List (Addr×Obj)
 xe:Value->Shared->Prop
noncomputable def frs (l:List Env):List Addr:=l.filterMap (·.frame)
noncomputable abbrev Cx.fs (X:Cx):List Addr:=frs X.outer
def Vis (sc:Scope)(x:Str):Prop:=sc.names.lookup x=some .local∨sc.names.lookup x=some .cell∨sc.names.lookup x=some .free
def Loc (sc:Scope)(x:Str):Prop:=sc.names.lookup x=some .local∨sc.names.lookup x=some .cell
noncomputable def Look (env:Env)(h:Heap)(m:Str->Option Value)(x:Str)(u:Value):Prop :=
 (env.kindOf x=some .local/\m x=some u)∨((env.kindOf x=some .cell∨env.kindOf x=some .free)/\∃ c,env.cells.lookup x=some c/\h.IsCell c (some u))
structure Cx.Ok (X:Cx):Prop where
 mod:Mod X.K X.mg X.base
 kind:X.env.scope.kind=.function
 glob:X.env.globals=mainGlobals
 blt:X.env.builtins=builtinsNs
 above:X.s₀.heap.objs.size<=X.env.locals
 inj:∀ x y c,X.env.cells.lookup x=some c->X.env.cells.lookup y=some c->x=y
 has:∀ x,(X.env.kindOf x=some .cell∨X.env.kindOf x=some .free)->∃ c,X.env.cells.lookup x=some c
 cab:∀ x c,X.fn x=true->X.env.cells.lookup x=some c->X.s₀.heap.objs.size<=c
 hd:X.calm=true->X.A.handled=none
 frames:X.A.frames=some X.stack
 stk:X.stack=X.outer∨(X.stack=X.env::X.outer/\X.env.frame=some X.env.locals)
 exf:∀ b∈X.ex,b≠X.env.locals/\∀ x c,X.env.cells.lookup x=some c->c≠b
 bs:∀ b o,X.base.get? b=some o->X.s₀.heap.get? b=some o/\X.H₀ b=none
 bsz:X.base.objs.size<=X.s₀.heap.objs.size
 noex:∀ b o,X.base.get? b=some o->b∉X.ex
 exfs:∀ b∈X.ex,b∉X.fs
 funs:X.s₀.heap.FunFrames X.base X.outer
 frf:∀ b∈X.fs,X.H₀ b=none
structure Inv (X:Cx)(pins:List (Addr×Obj))(σ:List (Option V))(H:Hp)(s:Shared):Prop where
 ok:X.Ok
 os:s.os=X.s₀.os
 bare:AllBare s.gens
 base:Un X.fs X.ex X.H₀ H X.s₀.heap s.heap
 loc:∃ m,s.heap.Ns X.env.locals m/\∀(i:Nat) (x:Str) (v:V),X.N[i]?=some x->σ[i]?=some (some v)->Vis X.env.scope x->∃ u,RelV v u/\Look X.env s.heap m x u
 cell:∀ x c,X.env.cells.lookup x=some c->∃ v,s.heap.IsCell c v
 free:H X.env.locals=none
 freeC:∀ x c,X.env.cells.lookup x=some c->H c=none
 pin:∀ p∈X.pn++pins,s.heap.get? p.1=some p.2/\H p.1=none/\p.1≠X.env.locals/\p.1∉X.fs/\∀ v,p.2.data≠.cell v
 hok:HOk X.prog X.w H s.heap
 len:σ.length=X.N.length
section
variable {X:Cx}{pins:List (Addr×Obj)}{σ:List (Option V)}{H H':Hp}{s:Shared}{h':Heap}
theorem Cx.Ok.nofr (ok:X.Ok){b:Addr}{o:Obj}(e:X.base.get? b=some o):b∉X.fs:=fun hb=>by
 have:=(ok.funs.mem hb).1
 rw[e] at this;cases this
theorem Inv.bs (I:Inv X pins σ H s):∀ b o,X.base.get? b=some o->s.heap.get? b=some o/\H b=none:=fun b o e =>
 ⟨I.base.keep b o (I.ok.bs b o e).1 (I.ok.bs b o e).2 (I.ok.nofr e) (I.ok.noex b o e),I.base.free b o (I.ok.bs b o e).1 (I.ok.bs b o e).2 (I.ok.noex b o e)⟩
theorem Inv.bk (I:Inv X pins σ H s):∀ b o,X.base.get? b=some o->s.heap.get? b=some o:=fun b o e=>(I.bs b o e).1
theorem Inv.mod (I:Inv X pins σ H s):Mod X.K X.mg X.base:=I.ok.mod
theorem Inv.kIn (I:Inv X pins σ H s):X.K.In s.heap:=I.ok.mod.kin.keeps I.bk
theorem Inv.lt (I:Inv X pins σ H s):X.env.locals < s.heap.objs.size:=let ⟨_,hn,_⟩:=I.loc;hn.lt
theorem Inv.sz (I:Inv X pins σ H s):X.s₀.heap.objs.size<=s.heap.objs.size:=p7_ I.ok.above (s0_ I.lt)
theorem Inv.nofs (I:Inv X pins σ H s){a:Addr}(h:s.heap.objs.size<=a):a∉X.fs:=fun hb=>by
 obtain⟨_,o,ho,_⟩:=I.ok.funs.mem hb
 exact absurd (qh_ (p2_ ho) (p7_ I.sz h)) (se_ _)
theorem Inv.cne (I:Inv X pins σ H s):∀ x c,X.env.cells.lookup x=some c->c≠X.env.locals:=fun x c e z=>by
 obtain⟨v,o,ho,hd⟩:=I.cell x c e
 obtain⟨m,⟨o',es,ep,ho',hd',_⟩,_⟩:=I.loc
 rw[z,ho'] at ho;cases ho;rw[hd'] at hd;cases hd
theorem Inv.funs (I:Inv X pins σ H s):s.heap.FunFrames X.base X.outer:=by
 have all:∀(l:List Env),(∀ b∈frs l,b∈X.fs)->X.s₀.heap.FunFrames X.base l->s.heap.FunFrames X.base l:=by
  intro l
  induction l with
  | nil=>intro _ _;trivial
  | cons env r ih =>
   intro hs hl
   obtain⟨hk,⟨L,o,hf,hn,ho,hd⟩,hr⟩:=hl
   have hL:L∈X.fs:=hs L (by unfold frs;rw[r4_,hf];exact pn_)
   obtain⟨sl,e⟩:=I.base.slot L o ho (I.ok.frf L hL) hL fun z=>I.ok.exfs L z hL
   exact⟨hk,⟨L,_,hf,hn,e,hd⟩,ih (fun b hb=>hs b (by unfold frs;rw[r4_,hf];exact pl_ _ hb)) hr⟩
 exact all X.outer (fun _ hb=>hb) I.ok.funs
theorem Inv.stack (I:Inv X pins σ H s):s.heap.FunFrames X.base X.stack:=by
 rcases I.ok.stk with e | ⟨e,hf⟩
 ·rw[e];exact I.funs
 ·rw[e]
  obtain⟨m,hn,_⟩:=I.loc
  refine .cons (by rw[I.ok.kind];decide) hf hn ?_ I.funs
  exact Heap.get?_none_of_le (p7_ I.ok.bsz I.ok.above)
theorem Inv.stkSub (I:Inv X pins σ H s):∀ b∈frs X.stack,b∈X.env.locals::X.fs:=fun b hb=>by
 rcases I.ok.stk with e | ⟨e,hf⟩
 ·rw[e] at hb;exact pl_ _ hb
 ·rw[e] at hb
  unfold frs at hb
  rw[r4_,hf] at hb
  exact hb
theorem Inv.stkFree (I:Inv X pins σ H s):∀ b∈frs X.stack,H b=none:=fun b hb=>by
 rcases p6_.mp (I.stkSub b hb) with e | hb
 ·rw[e];exact I.free
 ·obtain⟨_,o,ho,_⟩:=I.ok.funs.mem hb
  exact I.base.free b o ho (I.ok.frf b hb) fun z=>I.ok.exfs b z hb
theorem Inv.step {g':Array GenState}{t':Nat}{d':Drawn}{ch:List Addr}(I:Inv X pins σ H s)
  (hch:∀ b∈ch,(b∈X.ex∨X.s₀.heap.objs.size<=b)/\b≠X.env.locals/\(∀ x c,X.env.cells.lookup x=some c->c≠b)/\∀ p∈X.pn++pins,p.1≠b)
  (keep:∀ b o,b≠X.env.locals->b∉X.fs->b∉ch->s.heap.get? b=some o->H b=none->h'.get? b=some o)
  (slot:∀ b o,b≠X.env.locals->b∈X.fs->b∉ch->s.heap.get? b=some o->H b=none->∃ sl,h'.get? b=some { o with slots:=sl }) (free:∀ b o,b∉ch->s.heap.get? b=some o->H b=none->H' b=none)
  (there:∀ b o,b∉ch->s.heap.get? b=some o->∃ o',h'.get? b=some o')
  (tups:∀ b xs,H b=some (.tup xs)->H' b=some (.tup xs)) (frzs:∀ b o u,H b=some (.frz o u)->H' b=some (.frz o u)) (tbls:∀ b ps,H b=some (.tbl ps)->∃ more,H' b=some (.tbl (ps++more)))
  (ns:∀ m,s.heap.Ns X.env.locals m->h'.Ns X.env.locals m) (hok:HOk X.prog X.w H' h') (hg:AllBare g') :
  Inv X pins σ H' { s with heap:=h',gens:=g',drawn:=d',toks:=t' }:=by
 have neL:∀ b o,X.s₀.heap.get? b=some o->b≠X.env.locals:=fun b o e=>qg_ (qh_ (p2_ e) I.ok.above)
 have neC:∀ b o,X.s₀.heap.get? b=some o->b∉X.ex->b∉ch:=fun b o e hx hb=>by
  rcases (hch b hb).1 with z | z
  ·exact hx z
  ·exact absurd (qh_ (p2_ e) z) (se_ _)
 have cellK:∀ x c,X.env.cells.lookup x=some c->∀ v,s.heap.IsCell c v->h'.IsCell c v:=fun x c e v ⟨o,ho,hd⟩=>by
  have nch:c∉ch:=fun z=>(hch c z).2.2.1 x c e rfl
  by_cases hc:c∈X.fs
  ·obtain⟨sl,q⟩:=slot c o (I.cne x c e) hc nch ho (I.freeC x c e)
   exact⟨_,q,hd⟩
  ·exact⟨o,keep c o (I.cne x c e) hc nch ho (I.freeC x c e),hd⟩
 refine⟨I.ok,I.os,hg,⟨fun b o e n hb hx=>?_,fun b o e n hb hx=>?_,fun b o e n hx=>?_,fun b o e hx=>?_,fun b xs e=>tups b xs (I.base.tups b xs e),fun b o xs e=>frzs b o xs (I.base.frzs b o xs e),fun b ps e=>?_⟩,?_,fun x c e=>?_,?_,fun x c e=>?_,fun p hp=>?_,hok,I.len⟩
 ·exact keep b o (neL b o e) hb (neC b o e hx) (I.base.keep b o e n hb hx) (I.base.free b o e n hx)
 ·obtain⟨sl,e1⟩:=I.base.slot b o e n hb hx
  obtain⟨sl',e2⟩:=slot b _ (neL b o e) hb (neC b o e hx) e1 (I.base.free b o e n hx)
  exact⟨sl',e2⟩
 ·obtain⟨o',e1⟩:=I.base.there b o e hx
  exact free b o' (neC b o e hx) e1 (I.base.free b o e n hx)
 ·obtain⟨o',e1⟩:=I.base.there b o e hx
  exact there b o' (neC b o e hx) e1
 ·obtain⟨m1,e1⟩:=I.base.tbls b ps e
  obtain⟨m2,e2⟩:=tbls b _ e1
  exact⟨m1++m2,by rw[e2,Array.append_assoc]⟩
 ·obtain⟨m,hn,hl⟩:=I.loc
  refine⟨m,ns m hn,fun i x v e1 e2 e3=>?_⟩
  obtain⟨u,r,l⟩:=hl i x v e1 e2 e3
  refine⟨u,r,?_⟩
  rcases l with l | ⟨k,c,e,z⟩
  ·exact .inl l
  ·exact .inr ⟨k,c,e,cellK x c e _ z⟩
 ·obtain⟨v,z⟩:=I.cell x c e
  exact⟨v,cellK x c e v z⟩
 ·obtain⟨m,⟨o,_,_,ho,_⟩,_⟩:=I.loc
  exact free _ o (fun z=>(hch _ z).2.1 rfl) ho I.free
 ·obtain⟨v,o,ho,hd⟩:=I.cell x c e
  exact free c o (fun z=>(hch c z).2.2.1 x c e rfl) ho (I.freeC x c e)
 ·obtain⟨e,n,ne,nf,d⟩:=I.pin p hp
  have nch:p.1∉ch:=fun z=>(hch p.1 z).2.2.2 p hp rfl
  exact⟨keep p.1 p.2 ne nf nch e n,free p.1 p.2 nch e n,ne,nf,d⟩
theorem Inv.un {t':Nat}(I:Inv X pins σ H s)(u:Un X.fs [] H H' s.heap h')(hok:HOk X.prog X.w H' h'):Inv X pins σ H' { s with heap:=h',toks:=t' }:=by
 obtain⟨m,⟨o,es,ep,ho,r⟩,_⟩:=id I.loc
 obtain⟨sl,hL⟩:=u.any ho I.free (by simp)
 exact I.step (g':=s.gens) (d':=s.drawn) (ch:=[]) (fun _ z=>nomatch z) (fun b o _ hb _ e n=>u.keep b o e n hb (by simp)) (fun b o _ hb _ e n=>u.slot b o e n hb (by simp)) (fun b o _ e n=>u.free b o e n (by simp)) (fun b o _ e=>u.there b o e (by simp)) u.tups u.frzs u.tbls (fun m' hm=>by
  obtain⟨o',es',ep',ho',r'⟩:=hm
  rw[ho] at ho';cases ho'
  exact⟨_,es',ep',hL,r'⟩) hok I.bare
theorem Inv.call {g':Array GenState}{t':Nat}{d':Drawn}{ch:List Addr}(I:Inv X pins σ H s)(u:Un (frs X.stack) ch H H' s.heap h')(hok:HOk X.prog X.w H' h')(hg:AllBare g')
  (hch:∀ b∈ch,(b∈X.ex∨X.s₀.heap.objs.size<=b)/\b≠X.env.locals/\(∀ x c,X.env.cells.lookup x=some c->c≠b)/\∀ p∈X.pn++pins,p.1≠b) :
  Inv X pins σ H' { s with heap:=h',gens:=g',drawn:=d',toks:=t' }:=by
 obtain⟨m,⟨o,es,ep,ho,r⟩,_⟩:=id I.loc
 obtain⟨sl,hL⟩:=u.any ho I.free fun z=>(hch _ z).2.1 rfl
 exact I.step (ch:=ch) hch (fun b o hL hb hc e n=>u.keep b o e n (fun z=>(p6_.mp (I.stkSub b z)).elim hL hb) hc) (fun b o _ _ hc e n=>u.any e n hc) (fun b o hc e n=>u.free b o e n hc) (fun b o hc e=>u.there b o e hc) u.tups u.frzs u.tbls (fun m' hm=>by
  obtain⟨o',es',ep',ho',r'⟩:=hm
  rw[ho] at ho';cases ho'
  exact⟨_,es',ep',hL,r'⟩) hok hg
theorem Inv.turned {t':Nat}{it:Addr}(I:Inv X pins σ H s)(k:∀ b o,b≠it->s.heap.get? b=some o->h'.get? b=some o)(hn:H it=none)(hL:it≠X.env.locals)
  (h1:it∈X.ex∨X.s₀.heap.objs.size<=it) (h2:∀ x c,X.env.cells.lookup x=some c->c≠it) (h3:∀ p∈X.pn++pins,p.1≠it):Inv X pins σ H { s with heap:=h',toks:=t' }:=by
 have nit:∀ b u,H b=some u->b≠it:=fun b u e z=>by rw[z,hn] at e;cases e
 refine I.step (g':=s.gens) (d':=s.drawn) (ch:=[it]) (fun b hb=>?_) (fun b o _ _ hc e _=>k b o (fun z=>hc (by simp[z])) e) (fun b o _ _ hc e _=>⟨o.slots,k b o (fun z=>hc (by simp[z])) e⟩) (fun _ _ _ _ n=>n)
  (fun b o hc e=>⟨o,k b o (fun z=>hc (by simp[z])) e⟩) (fun _ _ e=>e) (fun _ _ _ e=>e) (fun b ps e=>⟨#[],by rw[e];simp⟩) (fun m hm=>?_) (fun b u e=>?_) I.bare
 ·have e:b=it:=by simpa using hb
  subst e
  exact⟨h1,hL,h2,h3⟩
 ·obtain⟨o,es,ep,ho,r⟩:=hm
  exact⟨o,es,ep,k _ o (td_ hL) ho,r⟩
 ·refine(I.hok b u e).stay (fun c v hc q=>k c v ?_ q) (fun _ q=>q) fun _ _ q=>q
  rcases hc with z | z
  ·rw[z];exact nit b u e
  ·exact nit c _ z
theorem Inv.tok (I:Inv X pins σ H s)(t:Nat):Inv X pins σ H { s with toks:=t }:=I.un (h':=s.heap) (t':=t) Un.refl I.hok
theorem Inv.kept {t':Nat}(I:Inv X pins σ H s)(k:∀ b u,s.heap.get? b=some u->h'.get? b=some u):Inv X pins σ H { s with heap:=h',toks:=t' }:=I.un (Un.kept k) (I.hok.kept k)
theorem Inv.laid {a:Addr}{o:HO}{t':Nat}(I:Inv X pins σ H s)(k:∀ b u,s.heap.get? b=some u->h'.get? b=some u)(hp:s.heap.objs.size<=a)(new:ObjOk X.prog X.w (upd H a o) h' a o) :
  Inv X pins σ (upd H a o) { s with heap:=h',toks:=t' }:=I.un (Un.laid k hp (I.hok.fresh hp)) (I.hok.laid k hp new)
theorem Inv.write {x e:Addr}{o:HO}{t':Nat}(I:Inv X pins σ H s)(mu:Mut (H x))(he:e=x∨H e=some (.own x))(k:∀ b u,b≠e->s.heap.get? b=some u->h'.get? b=some u)(heo:∃ u,h'.get? e=some u)
  (new:ObjOk X.prog X.w (upd H x o) h' x o):Inv X pins σ (upd H x o) { s with heap:=h',toks:=t' }:=I.un (Un.write mu he k heo) (I.hok.write mu he k heo new)
theorem Inv.pins_of {pins':List (Addr×Obj)}(I:Inv X pins σ H s)(h:∀ p∈pins',s.heap.get? p.1=some p.2/\H p.1=none/\p.1≠X.env.locals/\p.1∉X.fs/\∀ v,p.2.data≠.cell v):Inv X pins' σ H s :=
 ⟨I.ok,I.os,I.bare,I.base,I.loc,I.cell,I.free,I.freeC,fun p hp=>(pt_.mp hp).elim (fun z=>I.pin p (qt_ _ z)) (h p),I.hok,I.len⟩
theorem jim_ {N:List Str}(hN:N.Nodup){i j:Nat}{x:Str}(a:N[i]?=some x)(b:N[j]?=some x):i=j:=by
 obtain⟨h1,e1⟩:=pj_.mp a
 obtain⟨h2,e2⟩:=pj_.mp b
 exact(List.getElem_inj hN).mp (e1.trans e2.symm)
theorem jes_ {M:Model}{A:Around}{E:Value->Shared->Prop}{i:Nat}{x:Str}{v:V}{u:Value}{Q:Unit->Shared->Prop}(I:Inv X pins σ H s)(hN:X.N.Nodup)(hi:X.N[i]?=some x)(hx:Loc X.env.scope x)(r:RelV v u)
  (h:∀ s',Inv X pins (σ.set i (some v)) H s'->(∃ a,qx_ a s.heap s'.heap/\(a=X.env.locals∨X.env.cells.lookup x=some a))->Q () s') (hf:X.fn x=true∨X.env.scope.names.lookup x=some .local:=by first | exact .inl rfl | exact .inr rfl | assumption):wpAny M A (storeName X.env x u) Q E s:=by
 obtain⟨m,hn,hl⟩:=id I.loc
 have hcls:(X.env.scope.kind == .class || (X.env.scope.kind == .module&&X.env.locals != X.env.globals))=false:=by rw[I.ok.kind];rfl
 have hiσ:i < σ.length:=by rw[I.len];exact(pj_.mp hi).1
 have cne:=I.cne
 have tracked:∀{a:Addr}{h':Heap},(∃ o,s.heap.get? a=some o/\H a=none)->qx_ a s.heap h'->HOk X.prog X.w H h':=fun{a h'} ha hs b ob e=>by
  obtain⟨_,_,hfree⟩:=ha
  refine(I.hok b ob e).stay (fun c w' hc q=>(hs.2 c ?_).trans q) (fun _ q=>q) fun _ _ q=>q
  rintro rfl
  rcases hc with rfl | hc
  ·rw[hfree] at e;cases e
  ·rw[hfree] at hc;cases hc
 rcases hx with hk | hk
 ·refine wpAny_storeName_local hk hn (fun h' hn' hs=>?_) hcls
  obtain⟨oL,_,_,hoL,_⟩:=id hn
  refine h _ ⟨I.ok,I.os,I.bare,⟨fun b o e n hb hx=>?_,fun b o e n hb hx=>?_,I.base.free,fun b o e hx=>?_,I.base.tups,I.base.frzs,I.base.tbls⟩,⟨_,hn',fun j y v' e1 e2 e3=>?_⟩,fun y c e=>?_,I.free,I.freeC,fun p hp=>?_,tracked ⟨oL,hoL,I.free⟩ hs,by simpa using I.len⟩ ⟨_,hs,.inl rfl⟩
  ·exact(hs.2 b (qg_ (qh_ (p2_ e) I.ok.above))).trans (I.base.keep b o e n hb hx)
  ·obtain⟨sl,e1⟩:=I.base.slot b o e n hb hx
   exact⟨sl,(hs.2 b (qg_ (qh_ (p2_ e) I.ok.above))).trans e1⟩
  ·obtain⟨o',e1⟩:=I.base.there b o e hx
   exact⟨o',(hs.2 b (qg_ (qh_ (p2_ e) I.ok.above))).trans e1⟩
  ·by_cases hj:j=i
   ·subst hj
    rw[hi] at e1;cases e1
    rw[k1_ hiσ] at e2
    cases e2
    exact⟨u,r,.inl ⟨hk,by simp⟩⟩
   ·rw[wg_ (td_ hj)] at e2
    obtain⟨u',r',q⟩:=hl j y v' e1 e2 e3
    refine⟨u',r',?_⟩
    rcases q with ⟨k,e⟩ | ⟨k,c,e,z⟩
    ·refine .inl ⟨k,?_⟩
     have:y≠x:=fun e=>hj (jim_ hN e1 (e▸hi))
     simp[this,e]
    ·exact .inr ⟨k,c,e,z.sameBut hs (cne y c e)⟩
  ·obtain⟨w',z⟩:=I.cell y c e
   exact⟨w',z.sameBut hs (cne y c e)⟩
  ·obtain⟨e,n,ne,nf,d⟩:=I.pin p hp
   exact⟨(hs.2 p.1 ne).trans e,n,ne,nf,d⟩
 ·have hfn:X.fn x=true:=by
   rcases hf with z | z
   ·exact z
   ·rw[z] at hk;cases hk
  obtain⟨c,hc⟩:=I.ok.has x (.inl hk)
  obtain⟨w',z⟩:=I.cell x c hc
  refine wpAny_storeName_cell I.ok.kind hk hc z (fun h' hc' hs=>?_)
  obtain⟨oc,hoc,hocd⟩:=id z
  refine h { s with heap:=h' } ⟨I.ok,I.os,I.bare,⟨fun b o e n hb hx=>?_,fun b o e n hb hx=>?_,I.base.free,fun b o e hx=>?_,I.base.tups,I.base.frzs,I.base.tbls⟩,⟨m,hn.sameBut hs (td_ (cne x c hc)),fun j y v' e1 e2 e3=>?_⟩,fun y c' e=>?_,I.free,I.freeC,fun p hp=>?_,tracked ⟨oc,hoc,I.freeC x c hc⟩ hs,by simpa using I.len⟩ ⟨c,hs,.inr hc⟩
  ·exact(hs.2 b (qg_ (qh_ (p2_ e) (I.ok.cab x c hfn hc)))).trans (I.base.keep b o e n hb hx)
  ·obtain⟨sl,e1⟩:=I.base.slot b o e n hb hx
   exact⟨sl,(hs.2 b (qg_ (qh_ (p2_ e) (I.ok.cab x c hfn hc)))).trans e1⟩
  ·obtain⟨o',e1⟩:=I.base.there b o e hx
   exact⟨o',(hs.2 b (qg_ (qh_ (p2_ e) (I.ok.cab x c hfn hc)))).trans e1⟩
  ·by_cases hj:j=i
   ·subst hj
    rw[hi] at e1;cases e1
    rw[k1_ hiσ] at e2
    cases e2
    exact⟨u,r,.inr ⟨.inl hk,c,hc,hc'⟩⟩
   ·rw[wg_ (td_ hj)] at e2
    obtain⟨u',r',q⟩:=hl j y v' e1 e2 e3
    refine⟨u',r',?_⟩
    rcases q with q | ⟨k,c',e,z'⟩
    ·exact .inl q
    ·refine .inr ⟨k,c',e,z'.sameBut hs ?_⟩
     rintro rfl
     exact hj (jim_ hN e1 (I.ok.inj _ _ _ e hc▸hi))
  ·by_cases hcc:c'=c
   ·subst hcc;exact⟨_,hc'⟩
   ·obtain⟨w2,z2⟩:=I.cell y c' e
    exact⟨w2,z2.sameBut hs hcc⟩
  ·obtain⟨e,n,ne,nf,d⟩:=I.pin p hp
   refine⟨(hs.2 p.1 ?_).trans e,n,ne,nf,d⟩
   intro q
   rw[q,hoc] at e
   have q':oc=p.2:=Option.some.inj e
   exact d w' (by rw[<- q'];exact hocd)
theorem jjh_ {M:Model}{A:Around}{E:Value->Shared->Prop}{i:Nat}{x:Str}{v:V}{u:Value}{Q:Unit->Shared->Prop}(I:Inv X pins σ H s)(hN:X.N.Nodup)(hi:X.N[i]?=some x)(hx:Loc X.env.scope x)(r:RelV v u)
  (h:∀ s',Inv X pins (σ.set i (some v)) H s'->Q () s') (hf:X.fn x=true∨X.env.scope.names.lookup x=some .local:=by first | exact .inl rfl | exact .inr rfl | assumption):wpAny M A (storeName X.env x u) Q E s :=
 jes_ I hN hi hx r (fun s' I' _=>h s' I') hf
theorem Inv.call' {s':Shared}{ch:List Addr}(I:Inv X pins σ H s)(ho:s'.os=s.os)(u:Un (frs X.stack) ch H H' s.heap s'.heap)(hok:HOk X.prog X.w H' s'.heap)(hg:AllBare s'.gens)
  (hch:∀ b∈ch,(b∈X.ex∨X.s₀.heap.objs.size<=b)/\b≠X.env.locals/\(∀ x c,X.env.cells.lookup x=some c->c≠b)/\∀ p∈X.pn++pins,p.1≠b):Inv X pins σ H' s':=by
 obtain⟨h',g',d',t',o'⟩:=s'
 have e:o'=s.os:=ho
 subst e
 exact I.call (g':=g') (t':=t') (d':=d') u hok hg hch
end
abbrev XK:=Value->Option Addr->Hp->Prop
noncomputable abbrev St:=List (Option V)
abbrev VK:=V->Hp->Prop
abbrev TE:=St->Hp->VK->Prop
abbrev TT:=St->Hp->(Bool->Hp->Prop)->Prop
abbrev TA:=St->Hp->(List V->Hp->Prop)->Prop
structure Ends where
 nx:St->Hp->Prop
 rt:VK
 bk:St->Hp->Prop:=fun _ _=>False
 ct:St->Hp->Prop:=fun _ _=>False
abbrev TS:=Ends->St->Hp->Prop
def EP (X:Cx)(pins:List (Addr×Obj))(σ:St)(Q:VK)(u:Value)(s':Shared):Prop:=∃ v H',Inv X pins σ H' s'/\RelV v u/\Q v H'
def TP (X:Cx)(pins:List (Addr×Obj))(σ:St)(Q:Bool->Hp->Prop)(b:Bool)(s':Shared):Prop:=∃ H',Inv X pins σ H' s'/\Q b H'
def AP (X:Cx)(pins:List (Addr×Obj))(σ:St)(Q:List V->Hp->Prop)(us:List Value)(s':Shared):Prop:=∃ vs H',Inv X pins σ H' s'/\Vals vs us/\Q vs H'
noncomputable def SP (X:Cx)(pins:List (Addr×Obj))(D:Ends)(f:Flow)(s':Shared):Prop :=
 match f with
 | .next=>∃ σ' H',Inv X pins σ' H' s'/\D.nx σ' H'
 | .brk=>∃ σ' H',Inv X pins σ' H' s'/\D.bk σ' H'
 | .cont=>∃ σ' H',Inv X pins σ' H' s'/\D.ct σ' H'
 | .ret u=>∃ v σ' H',Inv X pins σ' H' s'/\RelV v u/\D.rt v H'
noncomputable def PE (X:Cx)(e:Expr)(t:TE):Prop :=
 ∀(pins:List (Addr×Obj)) (s:Shared) (σ:St) (H:Hp) (Q:VK),Inv X pins σ H s->t σ H Q->wpAny (model X.prog X.w) X.A (eval e X.env) (EP X pins σ Q) X.xe s
noncomputable def PT (X:Cx)(e:Expr)(t:TT):Prop :=
 ∀(pins:List (Addr×Obj)) (s:Shared) (σ:St) (H:Hp) (Q:Bool->Hp->Prop),Inv X pins σ H s->t σ H Q->wpAny (model X.prog X.w) X.A (isTrue e X.env (eval e X.env)) (TP X pins σ Q) X.xe s
noncomputable def PW (X:Cx)(e:Expr)(t:TT):Prop :=
 ∀(whole:Sem Value) (pins:List (Addr×Obj)) (s:Shared) (σ:St) (H:Hp) (Q:Bool->Hp->Prop),Inv X pins σ H s->t σ H Q->wpAny (model X.prog X.w) X.A (isTrue e X.env whole) (TP X pins σ Q) X.xe s
theorem PW.pt {X:Cx}{e:Expr}{t:TT}(h:PW X e t):PT X e t:=h _
noncomputable def PA (X:Cx)(es:List Expr)(t:TA):Prop :=
 ∀(pos:Pos) (pins:List (Addr×Obj)) (s:Shared) (σ:St) (H:Hp) (Q:List V->Hp->Prop),Inv X pins σ H s->t σ H Q->wpAny (model X.prog X.w) X.A (spliced (backTo pos (starEach es X.env))) (AP X pins σ Q) X.xe s
noncomputable def PS (X:Cx)(st:Stmt)(t:TS):Prop :=
 ∀(pins:List (Addr×Obj)) (s:Shared) (σ:St) (H:Hp) (D:Ends),Inv X pins σ H s->t D σ H->wpAny (model X.prog X.w) X.A (exec st X.env) (SP X pins D) X.xe s
noncomputable def PSs (X:Cx)(st:List Stmt)(t:TS):Prop :=
 ∀(pins:List (Addr×Obj)) (s:Shared) (σ:St) (H:Hp) (D:Ends),Inv X pins σ H s->t D σ H->wpAny (model X.prog X.w) X.A (execs st X.env) (SP X pins D) X.xe s
theorem thn {α:Type}{t:Sem α}{Q Q':α->Shared->Prop}{M:Model}{A:Around}{E:Value->Shared->Prop}{s:Shared}(h:wpAny M A t Q E s)(hQ:∀ a s,Q a s->Q' a s):wpAny M A t Q' E s:=wpAny_mono h hQ fun _ _ x=>x
end L2
namespace L2
open PySem PySem.Spec PyProof.Rows
section
variable {X:Cx}
theorem bin {a b:Expr}{ta tb:TE}(ha:PE X a ta)(hb:PE X b tb){pins:List (Addr×Obj)}{s:Shared}{σ:St}{H:Hp}{R:V->V->Hp->Prop}(I:Inv X pins σ H s)(h:ta σ H fun x H1=>tb σ H1 fun y H2=>R x y H2)
  {α:Type}{Q:α->Shared->Prop}{f:Value->Value->Sem α}
  (hf:∀ v u s2 x y H2,Inv X pins σ H2 s2->RelV x v->RelV y u->R x y H2->wpAny (model X.prog X.w) X.A (f v u) Q X.xe s2) :
  wpAny (model X.prog X.w) X.A (eval a X.env) (fun v s₁=>wpAny (model X.prog X.w) X.A (eval b X.env) (fun u s₂=>wpAny (model X.prog X.w) X.A (f v u) Q X.xe s₂) X.xe s₁) X.xe s:=by
 refine thn (ha pins s σ H _ I h) fun v s1 ⟨x,H1,I1,r1,q1⟩=>?_
 refine thn (hb pins s1 σ H1 _ I1 q1) fun u s2 ⟨y,H2,I2,r2,q2⟩=>?_
 exact hf v u s2 x y H2 I2 r1 r2 q2
def tVar (i:Nat):TE:=fun σ H Q=>∃ v,σ[i]?=some (some v)/\Q v H
def tC (v:V):TE:=fun _ H Q=>Q v H
theorem jzl_ {i:Nat}{x:Str}{pos:Pos}(hN:X.N[i]?=some x)(hv:Vis X.env.scope x)(hd:(x == ("__debug__":Str))=false:=by decide)(hcd:(x == ("__classdict__":Str))=false:=by decide):PE X (.Name x pos) (tVar i):=by
 intro pins s σ H Q I h
 obtain⟨v,e,h⟩:=h
 obtain⟨m,hn,hl⟩:=I.loc
 obtain⟨u,r,l⟩:=hl i x v hN e hv
 have fin:EP X pins σ Q u s:=⟨v,H,I,r,h⟩
 rcases l with ⟨hk,hm⟩ | ⟨hk,c,hc,hcell⟩
 ·exact wpAny_Name (wpAny_loadName_local I.ok.kind hk hn hm fin) hd
 ·rcases hk with hk | hk
  ·exact wpAny_Name (wpAny_loadName_cell I.ok.kind hk hc hcell fin) hd
  ·exact wpAny_Name (wpAny_loadName_free I.ok.kind hk hc hcell fin hcd) hd
theorem jf_ {i j pos}:PE X (.Constant (.int i) j pos) (tC (.int i)):=fun _ _ _ H _ I h=>wpAny_Constant_int ⟨.int i,H,I.tok _,⟨_,rfl⟩,h⟩
theorem uh_ {b j pos}:PE X (.Constant (.bool b) j pos) (tC (.bl b)):=fun _ _ _ H _ I h=>Constant_bool ⟨.bl b,H,I,rfl,h⟩
theorem xx_ {j pos}:PE X (.Constant .none j pos) (tC .non):=fun _ _ _ H _ I h=>Constant_none ⟨.non,H,I,rfl,h⟩
theorem y5_ {x j pos}:PE X (.Constant (.str x) j pos) (tC (.str x)):=fun _ _ _ H _ I h=>Calls.Constant_str ⟨.str x,H,I.tok _,⟨_,rfl⟩,h⟩
def Gl (X:Cx)(x:Str):Prop:=X.env.kindOf x=some .globalImplicit
theorem jnb_ {E:Value->Shared->Prop}{pins:List (Addr×Obj)}{s:Shared}{σ:St}{H:Hp}{x:Str}{u:Value}{pos:Pos}{Q:Value->Shared->Prop}(I:Inv X pins σ H s)(hg:Gl X x)(hm:X.mg x=some u)(h:Q u s)
  (hd:(x == ("__debug__":Str))=false:=by decide):wpAny (model X.prog X.w) X.A (eval (.Name x pos) X.env) Q E s :=
 ww_ I.ok.kind hg (Calls.loadGlobal_global (by rw[I.ok.glob];exact I.mod.glob.keeps I.bk) hm h) hd
theorem x8_ {E:Value->Shared->Prop}{pins:List (Addr×Obj)}{s:Shared}{σ:St}{H:Hp}{x:Str}{u:Value}{pos:Pos}{Q:Value->Shared->Prop}(I:Inv X pins σ H s)(hg:Gl X x)(hm:X.mg x=none)(hv:bootBuiltins x=some u)(h:Q u s)
  (hn:x≠"__name__":=by decide) (hd:(x == ("__debug__":Str))=false:=by decide):wpAny (model X.prog X.w) X.A (eval (.Name x pos) X.env) Q E s:=by
 obtain⟨mb,h1,h2⟩:=I.mod.blt
 exact ww_ I.ok.kind hg (Calls.loadGlobal_builtin (by rw[I.ok.glob];exact I.mod.glob.keeps I.bk) hm (by rw[I.ok.blt];exact h1.keeps I.bk) ((h2 x hn).trans hv) h) hd
theorem jgj_ {x:Str}{v:V}{u:Value}{pos:Pos}(hg:Gl X x)(hm:X.mg x=none)(hv:bootBuiltins x=some u)(r:RelV v u)(hn:x≠"__name__":=by decide)(hd:(x == ("__debug__":Str))=false:=by decide):PE X (.Name x pos) (tC v) :=
 fun _ _ _ H _ I h=>x8_ I hg hm hv ⟨v,H,I,r,h⟩ hn hd
variable {a b:Expr}{ta tb:TE}{pos:Pos}
noncomputable def PC (X:Cx)(op:CmpOp)(a b:Expr)(t:TE):Prop :=
 ∀(pins:List (Addr×Obj)) (s:Shared) (σ:St) (H:Hp) (Q:VK),Inv X pins σ H s->t σ H Q ->
  wpAny (model X.prog X.w) X.A (eval a X.env) (fun v s₁=>wpAny (model X.prog X.w) X.A (eval b X.env) (fun u s₂=>wpAny (model X.prog X.w) X.A (compareOp op v u) (EP X pins σ Q) X.xe s₂) X.xe s₁) X.xe s
theorem jxx_ {op:CmpOp}{t:TE}(h:PC X op a b t)(h1:behindInMarks op b=false:=by first | exact nobehind _ (by decide) (by decide) | rfl):PE X (.Compare a [op] [b] pos) t:=fun pins s σ H Q I hw=>wpAny_Compare1 (h pins s σ H Q I hw) h1
variable {tA tB':TT}{rest:List Expr}
def tAnd (t u:TT):TT:=fun σ H Q=>t σ H fun c H1=>if c=true then u σ H1 Q else Q false H1
def tOr (t u:TT):TT:=fun σ H Q=>t σ H fun c H1=>if c=true then Q true H1 else u σ H1 Q
def tNot (t:TT):TT:=fun σ H Q=>t σ H fun c H1=>Q (!c) H1
theorem jch_ (ha:PT X a tA):PW X (.BoolOp .And [a] pos) tA:=by
 intro wh pins s σ H Q I h
 refine isTrue_and (thn (ha pins s σ H Q I h) fun c s1 e=>?_)
 cases c with
 | true=>exact isTrue_and_nil e
 | false=>exact e
theorem jzj_ (ha:PT X a tA):PW X (.BoolOp .Or [a] pos) tA:=by
 intro wh pins s σ H Q I h
 refine isTrue_or (thn (ha pins s σ H Q I h) fun c s1 e=>?_)
 cases c with
 | false=>exact isTrue_or_nil e
 | true=>exact e
theorem jgf_ (ha:PT X a tA)(hb:PW X (.BoolOp .And (b::rest) pos) tB'):PW X (.BoolOp .And (a::b::rest) pos) (tAnd tA tB'):=by
 intro wh pins s σ H Q I h
 refine isTrue_and (thn (ha pins s σ H _ I h) fun c s1 ⟨H1,I1,q1⟩=>?_)
 cases c with
 | true=>exact hb wh pins s1 σ H1 Q I1 q1
 | false=>exact⟨H1,I1,q1⟩
theorem jwr_ (ha:PT X a tA)(hb:PW X (.BoolOp .Or (b::rest) pos) tB'):PW X (.BoolOp .Or (a::b::rest) pos) (tOr tA tB'):=by
 intro wh pins s σ H Q I h
 refine isTrue_or (thn (ha pins s σ H _ I h) fun c s1 ⟨H1,I1,q1⟩=>?_)
 cases c with
 | true=>exact⟨H1,I1,q1⟩
 | false=>exact hb wh pins s1 σ H1 Q I1 q1
theorem jll_ (ha:PT X a tA):PT X (.UnaryOp .Not a pos) (tNot tA):=by
 intro pins s σ H Q I h
 exact isTrue_not (ha pins s σ H (fun c H1=>Q (!c) H1) I h)
def jxa_ (ta tb:TE):TE:=fun σ H Q=>ta σ H fun x H1=>∃ c,x=.bl c/\if c=true then tb σ H1 Q else Q (.bl false) H1
theorem pe_one {op}{t:TE}(h:PE X a t):PE X (.BoolOp op [a] pos) t:=fun pins s σ H Q I hw=>BoolOp_one (h pins s σ H Q I hw)
theorem jyp_ (ha:PE X a ta)(hb:PE X (.BoolOp .And (b::rest) pos) tb):PE X (.BoolOp .And (a::b::rest) pos) (jxa_ ta tb):=by
 intro pins s σ H Q I h
 refine BoolOp_and (thn (ha pins s σ H _ I h) fun v s1 ⟨x,H1,I1,r1,q1⟩=>?_)
 obtain⟨c,rfl,q1⟩:=q1
 cases r1
 refine wpAny_truthy_bool ?_
 cases c with
 | true=>exact hb pins s1 σ H1 Q I1 q1
 | false=>exact⟨.bl false,H1,I1,rfl,q1⟩
def tIf (t:TT)(ta tb:TE):TE:=fun σ H Q=>t σ H fun c H1=>if c=true then ta σ H1 Q else tb σ H1 Q
theorem jtf_ {c:Expr}(hc:PT X c tA)(ha:PE X a ta)(hb:PE X b tb):PE X (.IfExp c a b pos) (tIf tA ta tb):=by
 intro pins s σ H Q I h
 refine wpAny_IfExp (thn (hc pins s σ H _ I h) fun d s1 ⟨H1,I1,q1⟩=>?_)
 cases d with
 | true=>exact ha pins s1 σ H1 Q I1 q1
 | false=>exact hb pins s1 σ H1 Q I1 q1
end
end L2
namespace L2
open PySem PySem.Spec PyProof.Rows
noncomputable def SqL (K:pc_)(H:Hp)(a:Addr)(xs:List V):Prop :=
 Rd H a (.lst xs) ∨
  ∃(o:Obj) (its:Array Value) (n:Nat),K.lookup a=some o/\o.cls=.type "list"/\o.dict=none/\o.data=.seq its n/\its.size<=sizeLine/\Vals xs its.toList
noncomputable def SqT (K:pc_)(H:Hp)(a:Addr)(xs:List V):Prop :=
 Rd H a (.tup xs) ∨
  ∃(o:Obj) (its:Array Value) (n:Nat),K.lookup a=some o/\o.cls=.type "tuple"/\o.data=.seq its n/\its.size<=sizeLine/\Vals xs its.toList
noncomputable def absV:Value->Option V
 | .none=>some .non
 | .bool b=>some (.bl b)
 | .int i _=>some (.int i)
 | .str x _=>some (.str x)
 | .bytes b _=>some (.byt b)
 | .float b _=>some (.flt b)
 | .ref a=>some (.ref a)
 | .type n=>some (.ty n)
 | _=>none
theorem RelV.abs {x:V}{u:Value}(r:RelV x u):absV u=some x:=by
 cases x with
 | non=>cases r;rfl
 | bl _=>cases r;rfl
 | int _=>obtain⟨t,rfl⟩:=r;rfl
 | str _=>obtain⟨t,rfl⟩:=r;rfl
 | byt _=>obtain⟨t,rfl⟩:=r;rfl
 | flt _=>obtain⟨t,rfl⟩:=r;rfl
 | ref _=>cases r;rfl
 | ty _=>cases r;rfl
theorem RelV.inj {x y:V}{u:Value}(r:RelV x u)(q:RelV y u):x=y:=Option.some.inj (r.abs.symm.trans q.abs)
theorem Vals.inj:∀{xs ys:List V}{us:List Value},Vals xs us->Vals ys us->xs=ys
 | _,_,_,.nil,.nil=>rfl
 | _,_,_,.cons r t,.cons r' t'=>by rw[r.inj r',Vals.inj t t']
section
variable {X:Cx}{pins:List (Addr×Obj)}{σ:St}{H:Hp}{s:Shared}{a:Addr}{xs ys:List V}
theorem SqL.of {K:pc_}(h:H a=some (.lst xs)):SqL K H a xs:=.inl (.inl h)
theorem SqT.of {K:pc_}(h:H a=some (.tup xs)):SqT K H a xs:=.inl (.inl h)
theorem Inv.list (I:Inv X pins σ H s)(h:SqL X.K H a xs):∃ its:List Value,Vals xs its/\PlainL s.heap a its.toArray/\xs.length<=sizeLine:=by
 rcases h with h | ⟨o,its,n,hk,hc,hd,hs,hz,r⟩
 ·obtain⟨z,its,n,r,e⟩:=h.ok I.hok
  exact⟨its,r,⟨_,n,e,rfl,rfl,rfl⟩,z⟩
 ·refine⟨its.toList,r,⟨o,n,I.kIn a o hk,hc,hd,by simpa using hs⟩,?_⟩
  have e:=r.length
  simp only[te_] at e
  omega
theorem Inv.tuple (I:Inv X pins σ H s)(h:SqT X.K H a xs):∃ its:List Value,Vals xs its/\IsTup s.heap a its.toArray/\xs.length<=sizeLine:=by
 rcases h with h | ⟨o,its,n,hk,hc,hs,hz,r⟩
 ·obtain⟨z,its,r,p⟩:=h.ok I.hok
  exact⟨its,r,p.1,z⟩
 ·refine⟨its.toList,r,⟨o,I.kIn a o hk,hc,n,by simpa using hs⟩,?_⟩
  have e:=r.length
  simp only[te_] at e
  omega
theorem Inv.list_inj (I:Inv X pins σ H s)(h:SqL X.K H a xs)(h':SqL X.K H a ys):xs=ys:=by
 obtain⟨its,r,⟨o,n,e,_,_,d⟩,_⟩:=I.list h
 obtain⟨its',r',⟨o',n',e',_,_,d'⟩,_⟩:=I.list h'
 rw[e] at e';cases e'
 rw[d] at d'
 injection d' with d1 _
 have:its=its':=by simpa using congrArg Array.toList d1
 subst this
 exact r.inj r'
theorem Inv.tuple_inj (I:Inv X pins σ H s)(h:SqT X.K H a xs)(h':SqT X.K H a ys):xs=ys:=by
 obtain⟨its,r,⟨o,e,_,n,d⟩,_⟩:=I.tuple h
 obtain⟨its',r',⟨o',e',_,n',d'⟩,_⟩:=I.tuple h'
 rw[e] at e';cases e'
 rw[d] at d'
 injection d' with d1 _
 have:its=its':=by simpa using congrArg Array.toList d1
 subst this
 exact r.inj r'
end
noncomputable abbrev Cx.wish (X:Cx)(E:Value->Shared->Prop):Cx:={ X with xe:=E }
noncomputable abbrev Cx.nox (X:Cx):Cx:=X.wish fun _ _=>False
theorem Cx.Ok.wish {X:Cx}(ok:X.Ok)(E:Value->Shared->Prop):(X.wish E).Ok :=
 ⟨ok.mod,ok.kind,ok.glob,ok.blt,ok.above,ok.inj,ok.has,ok.cab,ok.hd,ok.frames,ok.stk,ok.exf,ok.bs,ok.bsz,ok.noex,ok.exfs,ok.funs,ok.frf⟩
theorem Cx.Ok.unwish {X:Cx}{E:Value->Shared->Prop}(ok:(X.wish E).Ok):X.Ok :=
 ⟨ok.mod,ok.kind,ok.glob,ok.blt,ok.above,ok.inj,ok.has,ok.cab,ok.hd,ok.frames,ok.stk,ok.exf,ok.bs,ok.bsz,ok.noex,ok.exfs,ok.funs,ok.frf⟩
section
variable {X:Cx}{pins:List (Addr×Obj)}{σ:St}{H:Hp}{s:Shared}{E:Value->Shared->Prop}
theorem Inv.wish (I:Inv X pins σ H s)(E:Value->Shared->Prop):Inv (X.wish E) pins σ H s:=⟨I.ok.wish E,I.os,I.bare,I.base,I.loc,I.cell,I.free,I.freeC,I.pin,I.hok,I.len⟩
theorem Inv.unwish (I:Inv (X.wish E) pins σ H s):Inv X pins σ H s:=⟨I.ok.unwish,I.os,I.bare,I.base,I.loc,I.cell,I.free,I.freeC,I.pin,I.hok,I.len⟩
theorem SP.unwish {D:Ends}{f:Flow}{s':Shared}(h:SP (X.wish E) pins D f s'):SP X pins D f s':=by
 cases f with
 | next=>obtain⟨σ',H',I,q⟩:=h;exact⟨σ',H',I.unwish,q⟩
 | brk=>obtain⟨σ',H',I,q⟩:=h;exact⟨σ',H',I.unwish,q⟩
 | cont=>obtain⟨σ',H',I,q⟩:=h;exact⟨σ',H',I.unwish,q⟩
 | ret u=>obtain⟨v,σ',H',I,r,q⟩:=h;exact⟨v,σ',H',I.unwish,r,q⟩
theorem PSs.nox {st:List Stmt}{t:TS}(h:PSs X.nox st t):PSs X st t:=fun pins s σ H D I hw =>
 wpAny_mono (h pins s σ H D (I.wish _) hw) (fun _ _ q=>q.unwish) fun _ _ z=>sc_ z
end
section
variable {X:Cx}{st:Stmt}{rest:List Stmt}{t u:TS}{e:Expr}{te:TE}{pos:Pos}
def jxf_:TS:=fun D σ H=>D.nx σ H
def tSeq (t u:TS):TS:=fun D σ H=>t { D with nx:=u D } σ H
theorem z1_:PSs X [] jxf_:=fun _ _ σ H _ I h=>wpAny_execs_nil ⟨σ,H,I,h⟩
theorem je_ (h1:PS X st t)(h2:PSs X rest u):PSs X (st::rest) (tSeq t u):=by
 intro pins s σ H D I h
 refine wpAny_execs_cons (thn (h1 pins s σ H { D with nx:=u D } I h) fun f s1 q=>?_)
 cases f with
 | next =>
  obtain⟨σ',H',I',q⟩:=q
  exact h2 pins s1 σ' H' D I' q
 | ret v=>exact q
 | brk=>exact q
 | cont=>exact q
theorem ji_ (h1:PS X st t):PSs X [st] t:=by
 intro pins s σ H D I h
 refine wpAny_execs_cons (thn (h1 pins s σ H D I h) fun f s1 q=>?_)
 cases f with
 | next=>exact wpAny_execs_nil q
 | ret v=>exact q
 | brk=>exact q
 | cont=>exact q
theorem Inv.quiet {pins:List (Addr×Obj)}{σ:St}{H:Hp}{s:Shared}(I:Inv X pins σ H s):interactive X.env=false:=by simp[interactive,I.ok.kind]
def jsj_ (te:TE):TS:=fun D σ H=>te σ H fun _ H1=>D.nx σ H1
theorem zp_ (he:PE X e te)(hs:swapsWith e none pos.line X.env=pure false:=by rfl):PS X (.Expr e pos) (jsj_ te):=by
 intro pins s σ H D I h
 exact wpAny_Expr_any (thn (he pins s σ H _ I h) fun v s1 ⟨x,H1,I1,r1,q1⟩=>⟨σ,H1,I1,q1⟩) I.quiet hs
def tRet (te:TE):TS:=fun D σ H=>te σ H D.rt
theorem j2_ (he:PE X e te):PS X (.Return (some e) pos) (tRet te):=by
 intro pins s σ H D I h
 exact wpAny_Return_some (thn (he pins s σ H _ I h) fun v s1 ⟨x,H1,I1,r1,q1⟩=>⟨x,σ,H1,I1,r1,q1⟩)
def tIfS (c:TT)(t u:TS):TS:=fun D σ H=>c σ H fun b H1=>if b=true then t D σ H1 else u D σ H1
theorem y1_ {c:Expr}{a b:List Stmt}{tc:TT}(hc:PT X c tc)(ha:PSs X a t)(hb:PSs X b u):PS X (.If c a b pos) (tIfS tc t u):=by
 intro pins s σ H D I h
 refine wpAny_If (thn (hc pins s σ H _ I h) fun d s1 ⟨H1,I1,q1⟩=>?_)
 cases d with
 | true=>exact ha pins s1 σ H1 D I1 q1
 | false=>exact hb pins s1 σ H1 D I1 q1
end
abbrev TG:=V->St->Hp->(St->Hp->Prop)->Prop
abbrev TGs:=List V->St->Hp->(St->Hp->Prop)->Prop
noncomputable def PG (X:Cx)(target:Expr)(t:TG):Prop :=
 ∀(pins:List (Addr×Obj)) (s:Shared) (σ:St) (H:Hp) (v:V) (u:Value) (Q:St->Hp->Prop),Inv X pins σ H s->RelV v u->t v σ H Q ->
  wpAny (model X.prog X.w) X.A (assign target X.env u) (fun _ s'=>∃ σ' H',Inv X pins σ' H' s'/\Q σ' H') X.xe s
noncomputable def PGs (X:Cx)(ts:List Expr)(t:TGs):Prop :=
 ∀(pins:List (Addr×Obj)) (s:Shared) (σ:St) (H:Hp) (vs:List V) (us:List Value) (Q:St->Hp->Prop),Inv X pins σ H s->Vals vs us->t vs σ H Q ->
  wpAny (model X.prog X.w) X.A (assignInOrder ((assignEach ts X.env).map (·.2)) us) (fun _ s'=>∃ σ' H',Inv X pins σ' H' s'/\Q σ' H') X.xe s
abbrev TSet:=V->V->V->Hp->(Hp->Prop)->Prop
noncomputable def PSet (X:Cx)(t:TSet):Prop :=
 ∀(pins:List (Addr×Obj)) (s:Shared) (σ:St) (H:Hp) (o i v:V) (ov iv u:Value) (Q:Hp->Prop),Inv X pins σ H s->RelV o ov->RelV i iv->RelV v u->t o i v H Q ->
  wpAny (model X.prog X.w) X.A (setItem ov iv u) (fun _ s'=>∃ H',Inv X pins σ H' s'/\Q H') X.xe s
section
variable {X:Cx}{pos:Pos}
def jdi_ (i:Nat):TG:=fun v σ H Q=>Q (σ.set i (some v)) H
theorem jj_ {i:Nat}{x:Str}(hN:X.N.Nodup)(hi:X.N[i]?=some x)(hx:Loc X.env.scope x)(hf:X.fn x=true∨X.env.scope.names.lookup x=some .local:=by first | exact .inl rfl | exact .inr rfl | assumption):PG X (.Name x pos) (jdi_ i):=by
 intro pins s σ H v u Q I r h
 exact wpAny_assign_Name (jjh_ I hN hi hx r (fun s' I'=>⟨_,H,I',h⟩) hf)
def gNil:TGs:=fun vs σ H Q=>vs=[]/\Q σ H
def jwq_ (t:TG)(u:TGs):TGs:=fun vs σ H Q=>∃ v r,vs=v::r/\t v σ H fun σ' H'=>u r σ' H' Q
theorem zu_:PGs X [] gNil:=by
 intro pins s σ H vs us Q I r h
 obtain⟨e,h⟩:=h
 subst e
 cases r
 exact assignInOrder_nil ⟨σ,H,I,h⟩
theorem jr_ {e:Expr}{es:List Expr}{t:TG}{u:TGs}(h1:PG X e t)(h2:PGs X es u)
  (hs:(assignEach (e::es) X.env).map (·.2)=assign e X.env::(assignEach es X.env).map (·.2):=by rfl):PGs X (e::es) (jwq_ t u):=by
 intro pins s σ H vs us Q I r h
 obtain⟨v,vr,e1,h⟩:=h
 subst e1
 cases r with
 | cons r rr =>
  rw[hs]
  refine assignInOrder_cons (thn (h1 pins s σ H _ _ _ I r h) fun _ s1 ⟨σ1,H1,I1,q1⟩=>?_)
  exact h2 pins s1 σ1 H1 _ _ Q I1 rr q1
noncomputable def PrX (a:Addr)(xs:List V):HO:=.ext fun h=>xs.length<=sizeLine/\∃ its:List Value,Vals xs its/\IsTup h a its.toArray
def gTup (K:pc_)(n:Nat)(t:TGs):TG:=fun v σ H Q=>∃ a xs,v=.ref a/\(SqT K H a xs∨H a=some (PrX a xs))/\xs.length=n/\t xs σ H Q
theorem yi_ {es:List Expr}{k:Nat}{t:TGs}{n:Nat}(hc:X.calm=true)(h:PGs X es t)
  (hn:(assignEach es X.env).length=n:=by rfl) (hst:(assignEach es X.env).findIdx? (·.1)=none:=by rfl):PG X (.Tuple es k pos) (gTup X.K n t):=by
 intro pins s σ H v u Q I r hw
 obtain⟨a,xs,e1,hq,hl,hw⟩:=hw
 subst e1
 cases r
 obtain⟨its,rv,ht,hz⟩:∃ its:List Value,Vals xs its/\IsTup s.heap a its.toArray/\xs.length<=sizeLine:=hq.elim (fun q=>I.tuple q) fun q=>by
  obtain⟨⟨z,its,r,p⟩,_⟩:=(show ObjOk X.prog X.w H s.heap a (PrX a xs) from I.hok a _ q)
  exact⟨its,r,p,z⟩
 refine assign_Tuple_tuple (I.ok.hd hc) ht (by simp[hn,<- hl,rv.length]) hst fun h' hx=>?_
 have I1:Inv X pins σ H { s with heap:=h' }:=I.kept (t':=s.toks) fun b o e=>hx b o (qg_ (p2_ e)) e
 exact h pins _ σ H xs _ Q I1 (by simpa using rv) hw
def gSub (to ti:TE)(t:TSet):TG:=fun v σ H Q=>to σ H fun o H1=>ti σ H1 fun i H2=>t o i v H2 fun H3=>Q σ H3
theorem jkv_ {o i:Expr}{to ti:TE}{t:TSet}(ho:PE X o to)(hi:PE X i ti)(hs:PSet X t)
  (ha:∀ v,assign (.Subscript o i pos) X.env v=(do
   let ov <- holding [v] (eval o X.env)
   let iv <- holding [v,ov] (eval i X.env)
   standAt pos
   holding [v,ov,iv] (setItem ov iv v)
   release [v,ov,iv] []):=by intro _;rfl):PG X (.Subscript o i pos) (gSub to ti t):=by
 intro pins s σ H v u Q I r h
 rw[ha]
 refine wpAny_bind (wpAny_holding (thn (ho pins s σ H _ I h) fun ov s1 ⟨x,H1,I1,r1,q1⟩=>?_))
 refine wpAny_bind (wpAny_holding (thn (hi pins s1 σ H1 _ I1 q1) fun iv s2 ⟨y,H2,I2,r2,q2⟩=>?_))
 refine wpAny_bind (wpAny_standAt (wpAny_bind (wpAny_holding (thn (hs pins s2 σ H2 x y v ov iv u _ I2 r1 r2 r q2) fun _ s3 ⟨H3,I3,q3⟩=>?_))))
 exact wpAny_release ⟨σ,H3,I3,q3⟩
def tAsg (te:TE)(g:TG):TS:=fun D σ H=>te σ H fun x H1=>g x σ H1 D.nx
theorem jct_ {tg e:Expr}{te:TE}{g:TG}(he:PE X e te)(hg:PG X tg g)(hs:swapsWithSole [tg] e pos.line X.env=pure false:=by rfl)(hw:swappedStores [tg] e X.env=pure none:=by rfl)
  (h1:(assignEach [tg] X.env).map (·.2)=[assign tg X.env]:=by rfl):PS X (.Assign [tg] e pos) (tAsg te g):=by
 intro pins s σ H D I h
 refine wpAny_Assign_stores (thn (he pins s σ H _ I h) fun v s1 ⟨x,H1,I1,r1,q1⟩=>?_) hs hw
 rw[h1]
 exact thn (hg pins s1 σ H1 x v _ I1 r1 q1) fun _ s2 q=>q
theorem jm_ {i:Nat}{x:Str}{e:Expr}{te:TE}{pos':Pos}(hN:X.N.Nodup)(hi:X.N[i]?=some x)(hx:Loc X.env.scope x)(he:PE X e te)(hs:swapsWith e (some (.Name x pos')) pos.line X.env=pure false:=by rfl)(hf:X.fn x=true∨X.env.scope.names.lookup x=some .local:=by first | exact .inl rfl | exact .inr rfl | assumption) :
  PS X (.Assign [.Name x pos'] e pos) (tAsg te (jdi_ i)):=by
 intro pins s σ H D I h
 refine wpAny_Assign_Name (thn (he pins s σ H _ I h) fun v s1 ⟨y,H1,I1,r1,q1⟩=>?_) hs
 exact jjh_ I1 hN hi hx r1 (fun s2 I2=>⟨_,H1,I2,q1⟩) hf
end
section
variable {X:Cx}{pos:Pos}
def jyz_ (c:TT)(tb:TS):TS:=fun D σ H=>∃ W:Nat->St->Hp->Prop,(∃ m,W m σ H)/\∀ m σ H,W m σ H ->
 c σ H fun b H1=>if b=true then ∃ N:St->Hp->Prop,(∀ σ' H',N σ' H'->∃ m',m' < m/\W m' σ' H')/\tb { D with nx:=N,ct:=N,bk:=D.nx } σ H1 else D.nx σ H1
theorem jjg_ {c:Expr}{body:List Stmt}{tc:TT}{tb:TS}(hp:PassesOwn (model X.prog X.w) X.A X.env X.xe)(hc:PT X c tc)(hb:PSs X body tb):PS X (.While c body [] pos) (jyz_ tc tb):=by
 intro pins s σ H D I h
 obtain⟨W,⟨m0,w0⟩,turn⟩:=h
 refine wpAny_While (codeAny_whileLoop (fun n s'=>∃ σ' H',Inv X pins σ' H' s'/\W n σ' H') ?_ m0 ⟨σ,H,I,w0⟩)
 rintro n s1 ⟨σ1,H1,I1,w1⟩
 refine wpAny_passesOwn hp (thn (hc pins s1 σ1 H1 _ I1 (turn n σ1 H1 w1)) fun b s2 ⟨H2,I2,q2⟩=>?_)
 cases b with
 | true =>
  obtain⟨N,hN,q2⟩:=q2
  rw[if_pos rfl]
  refine wpAny_passesOwn hp (thn (hb pins s2 σ1 H2 _ I2 q2) fun f s3 q3=>?_)
  cases f with
  | next =>
   obtain⟨σ3,H3,I3,n3⟩:=q3
   obtain⟨m',hm,w3⟩:=hN σ3 H3 n3
   exact⟨m',hm,σ3,H3,I3,w3⟩
  | cont =>
   obtain⟨σ3,H3,I3,n3⟩:=q3
   obtain⟨m',hm,w3⟩:=hN σ3 H3 n3
   exact⟨m',hm,σ3,H3,I3,w3⟩
  | brk=>exact q3
  | ret v=>exact q3
 | false =>
  rw[if_neg pk_]
  exact wpAny_execs_nil ⟨σ1,H2,I2,q2⟩
end
structure It where
 go:Nat->Hp->Prop
 yld:Nat->Hp->V->Hp->Prop
 stop:Nat->Hp->Prop
noncomputable def FpOk (X:Cx)(pins:List (Addr×Obj))(H:Hp)(b:Addr):Prop :=
 H b=none/\b≠X.env.locals/\b∉X.fs/\(b∈X.ex∨X.s₀.heap.objs.size<=b)/\(∀ x c,X.env.cells.lookup x=some c->c≠b)/\∀ p∈X.pn++pins,p.1≠b
theorem Inv.fpOk {X:Cx}{pins:List (Addr×Obj)}{σ:St}{H H':Hp}{s:Shared}{b:Addr}(I:Inv X pins σ H s)(hb:s.heap.objs.size<=b)(hn:H' b=none):FpOk X pins H' b:=by
 refine⟨hn,Nat.ne_of_gt (qh_ I.lt hb),I.nofs hb,.inr (p7_ I.sz hb),fun x c e z=>?_,fun p hp z=>?_⟩
 ·obtain⟨v,q⟩:=I.cell x c e
  exact absurd (qh_ q.lt (by rw[z];exact hb)) (se_ _)
 ·exact absurd (qh_ (p2_ (I.pin p hp).1) (by rw[z];exact hb)) (se_ _)
structure Turn (P:Program)(w:World)(K:pc_)(tg:Expr)(J:It)(fp:List Addr)(it:Addr)(tn:Nat->Heap->Prop):Prop where
 mem:it∈fp
 obj:∀ i h,tn i h->∀ b∈fp,∃ o,h.get? b=some o/\∀ v,o.data≠.cell v
 keep:∀ i h h',tn i h->(∀ b∈fp,∀ o,h.get? b=some o->h'.get? b=some o)->tn i h'
 item:∀(X:Cx),X.prog=P->X.w=w->X.K=K->X.calm=true->∀(i:Nat) (pins:List (Addr×Obj)) (s:Shared) (σ:St) (H:Hp) (E:Value->Shared->Prop),Inv X pins σ H s->(∀ b∈fp,FpOk X pins H b)->tn i s.heap->J.go i H ->
  wpAny (model P w) X.A (pyNext (.ref it)) (fun r s1=>∃ u,r=some u /\
   wpAny (model P w) X.A (letOwnedTupleGo tg (.ref it) u) (fun _ s2=>∃ x H',Inv X pins σ H' s2/\RelV x u/\J.yld i H x H'/\tn (i+1) s2.heap/\∀ b∈fp,H' b=none) E s1) E s
 done:∀(X:Cx),X.prog=P->X.w=w->X.K=K->X.calm=true->∀(i:Nat) (pins:List (Addr×Obj)) (s:Shared) (σ:St) (H:Hp) (E:Value->Shared->Prop),Inv X pins σ H s->(∀ b∈fp,FpOk X pins H b)->tn i s.heap->J.stop i H ->
  wpAny (model P w) X.A (pyNext (.ref it)) (fun r s1=>r=none/\Inv X pins σ H s1) E s
 self:∀(A:Around) (i:Nat) (s:Shared) (Q:Value->Shared->Prop) (E:Value->Shared->Prop),tn i s.heap->Q (.ref it) s->wpAny (model P w) A (pyIter (.ref it)) Q E s
abbrev TI:=St->Hp->(It->Hp->Prop)->Prop
noncomputable def PIE (X:Cx)(pins:List (Addr×Obj))(σ:St)(tg:Expr)(R:It->Hp->Prop)(itv:Value)(s2:Shared):Prop :=
 ∃(it:Addr) (fp:List Addr) (tn:Nat->Heap->Prop) (J:It) (H':Hp),itv=.ref it/\Inv X pins σ H' s2/\Turn X.prog X.w X.K tg J fp it tn/\tn 0 s2.heap/\(∀ b∈fp,FpOk X pins H' b)/\R J H'
noncomputable def PI (X:Cx)(tg iter:Expr)(wi:TI):Prop :=
 ∀(pins:List (Addr×Obj)) (s:Shared) (σ:St) (H:Hp) (R:It->Hp->Prop),Inv X pins σ H s->wi σ H R ->
  wpAny (model X.prog X.w) X.A (eval iter X.env) (fun v s1=>wpAny (model X.prog X.w) X.A (pyIter v) (PIE X pins σ tg R) X.xe s1) X.xe s
theorem jdj_ {M:Model}{A:Around}{E:Value->Shared->Prop}{s:Shared}{tg:Expr}{it:Addr}{u:Value}{o:Obj}{n:String}{vs:Array Value}{Q:Unit->Shared->Prop}(ho:s.heap.get? it=some o)(hc:o.cls=.type n)(hd:o.data=.fields vs)
  (hn:["enumerate","zip","dict_itemiterator","dict_reverseitemiterator","odict_iterator","itertools.zip_longest","itertools.pairwise"].contains n=false) (hQ:Q () s):wpAny M A (letOwnedTupleGo tg (.ref it) u) Q E s:=by
 unfold letOwnedTupleGo
 cases tg <;> first
  | exact wpAny_pure hQ
  | (cases u <;> first
    | exact wpAny_pure hQ
    | (refine wpAny_bind (wpAny_load ho ?_)
       rw[hc,hd]
       show wpAny M A (if (["enumerate","zip","dict_itemiterator","dict_reverseitemiterator","odict_iterator","itertools.zip_longest","itertools.pairwise"].contains n&&vs[0]? == some (rawInt _))=true then _ else _) Q E s
       rw[if_neg (by intro h;rw[hn,Bool.false_and] at h;cases h)]
       exact wpAny_pure hQ))
noncomputable def Itl (K:pc_)(a:Addr):It :=
 ⟨fun i H=>∃ xs x,SqL K H a xs/\xs[i]?=some x,fun i H x H'=>H'=H/\∀ xs,SqL K H a xs->xs[i]?=some x,fun i H=>∃ xs,SqL K H a xs/\xs.length<=i⟩
noncomputable def Itt (K:pc_)(a:Addr):It :=
 ⟨fun i H=>∃ xs x,SqT K H a xs/\xs[i]?=some x,fun i H x H'=>H'=H/\∀ xs,SqT K H a xs->xs[i]?=some x,fun i H=>∃ xs,SqT K H a xs/\xs.length<=i⟩
noncomputable def Itr (lo:Int)(n:Nat):It:=⟨fun i _=>i < n,fun i H x H'=>H'=H/\x=.int (lo+i),fun i _=>n<=i⟩
theorem jpi_ {P:Program}{w:World}{K:pc_}{tg:Expr}(a it:Addr):Turn P w K tg (Itl K a) [it] it (fun i h=>h.IsListIter it a i) where
 mem:=by simp
 obj:=fun i h st b hb=>by
  have e:b=it:=by simpa using hb
  subst e
  obtain⟨o,e,c,d⟩:=st
  exact⟨o,e,fun v z=>by rw[d] at z;cases z⟩
 keep:=fun i h h' st k=>st.at fun o e=>k it (by simp) o e
 item:=by
  intro X hP hw hK hc i pins s σ H E I hf st hg
  subst hP hw hK
  obtain⟨xs,x,hq,hx⟩:=hg
  obtain⟨its,rv,p,hz⟩:=I.list hq
  obtain⟨u,hu,ru⟩:=rv.get hx
  obtain⟨f0,f1,f2,f3,f4,f5⟩:=hf it (by simp)
  refine wpAny_pyNext_list_item st p.isList (x:=u) (by simpa using hu) fun h' st' sb=>?_
  have I1:Inv X pins σ H { s with heap:=h' }:=I.turned (t':=s.toks) (fun b o hb e=>(sb.2 b hb).trans e) f0 f1 f3 f4 f5
  obtain⟨o,e,c,d⟩:=id st'
  exact⟨u,rfl,jdj_ (s:={ s with heap:=h' }) e c d (by decide) ⟨x,H,I1,ru,⟨rfl,fun ys hy=>by rw[I.list_inj hy hq];exact hx⟩,st',fun b hb=>(hf b hb).1⟩⟩
 done:=by
  intro X hP hw hK hc i pins s σ H E I hf st hg
  subst hP hw hK
  obtain⟨xs,hq,hx⟩:=hg
  obtain⟨its,rv,p,hz⟩:=I.list hq
  obtain⟨f0,f1,f2,f3,f4,f5⟩:=hf it (by simp)
  have hl:=rv.length
  exact wpAny_pyNext_list_end (I.ok.hd hc) st p.isList (by simp;omega) fun h' eb=>⟨rfl,I.turned (t':=s.toks) (fun b o hb e=>eb b o hb e) f0 f1 f3 f4 f5⟩
 self:=fun _ _ _ _ _ st h=>wpAny_pyIter_listiter st h
theorem jlg_ {P:Program}{w:World}{K:pc_}{tg:Expr}(a it:Addr):Turn P w K tg (Itt K a) [it] it (fun i h=>h.IsTupleIter it a i) where
 mem:=by simp
 obj:=fun i h st b hb=>by
  have e:b=it:=by simpa using hb
  subst e
  obtain⟨o,e,c,d⟩:=st
  exact⟨o,e,fun v z=>by rw[d] at z;cases z⟩
 keep:=fun i h h' st k=>st.at fun o e=>k it (by simp) o e
 item:=by
  intro X hP hw hK hc i pins s σ H E I hf st hg
  subst hP hw hK
  obtain⟨xs,x,hq,hx⟩:=hg
  obtain⟨its,rv,p,hz⟩:=I.tuple hq
  obtain⟨u,hu,ru⟩:=rv.get hx
  obtain⟨f0,f1,f2,f3,f4,f5⟩:=hf it (by simp)
  refine wpAny_pyNext_tuple_item st (show s.heap.IsTuple a its.toArray from p) (x:=u) (by simpa using hu) fun h' st' sb=>?_
  have I1:Inv X pins σ H { s with heap:=h' }:=I.turned (t':=s.toks) (fun b o hb e=>(sb.2 b hb).trans e) f0 f1 f3 f4 f5
  obtain⟨o,e,c,d⟩:=id st'
  exact⟨u,rfl,jdj_ (s:={ s with heap:=h' }) e c d (by decide) ⟨x,H,I1,ru,⟨rfl,fun ys hy=>by rw[I.tuple_inj hy hq];exact hx⟩,st',fun b hb=>(hf b hb).1⟩⟩
 done:=by
  intro X hP hw hK hc i pins s σ H E I hf st hg
  subst hP hw hK
  obtain⟨xs,hq,hx⟩:=hg
  obtain⟨its,rv,p,hz⟩:=I.tuple hq
  obtain⟨f0,f1,f2,f3,f4,f5⟩:=hf it (by simp)
  have hl:=rv.length
  exact wpAny_pyNext_tuple_end (I.ok.hd hc) st (show s.heap.IsTuple a its.toArray from p) (by simp;omega) fun h' eb=>⟨rfl,I.turned (t':=s.toks) (fun b o hb e=>eb b o hb e) f0 f1 f3 f4 f5⟩
 self:=fun _ _ _ _ _ st h=>wpAny_pyIter_tupleiter st h
theorem jlf_ {P:Program}{w:World}{K:pc_}{tg:Expr}(it:Addr)(lo:Int)(n:Nat):Turn P w K tg (Itr lo n) [it] it (fun i h=>IsRangeIter h it (lo+(i:Nat) * 1) ((n:Int) - (i:Nat)) 1) where
 mem:=by simp
 obj:=fun i h st b hb=>by
  have e:b=it:=by simpa using hb
  subst e
  exact⟨_,st,fun v z=>by
   have z':Data.fields _=Data.cell v:=z
   cases z'⟩
 keep:=fun i h h' st k=>k it (by simp) _ st
 item:=by
  intro X hP hw hK hc i pins s σ H E I hf st hg
  subst hP hw hK
  obtain⟨f0,f1,f2,f3,f4,f5⟩:=hf it (by simp)
  have W:=Walks.range (prog:=X.prog) (w:=X.w) (I.ok.hd hc) it lo 1 n
  refine W.item i s _ _ hg st fun v h' tk hv st' kk=>?_
  obtain⟨t,rfl⟩:=hv
  have I1:Inv X pins σ H { s with heap:=h',toks:=tk }:=I.turned (fun b o hb e=>kk b o (by simpa using hb) e) f0 f1 f3 f4 f5
  refine⟨_,rfl,jdj_ (s:={ s with heap:=h',toks:=tk }) (n:="range_iterator") st' rfl rfl (by decide) ⟨.int (lo+i),H,I1,⟨t,?_⟩,⟨rfl,rfl⟩,st',fun b hb=>(hf b hb).1⟩⟩
  rw[Int.mul_one]
 done:=by
  intro X hP hw hK hc i pins s σ H E I hf st hg
  subst hP hw hK
  obtain⟨f0,f1,f2,f3,f4,f5⟩:=hf it (by simp)
  exact wpAny_pyNext_range_end (I.ok.hd hc) st (by have:n<=i:=hg;omega) fun h' eb=>⟨rfl,I.turned (t':=s.toks) (fun b o hb e=>eb b o hb e) f0 f1 f3 f4 f5⟩
 self:=fun _ _ _ _ _ st h=>wpAny_pyIter_rangeiter st h
end L2
namespace L2
open PySem PySem.Spec PyProof.Rows
section
variable {X:Cx}{tg:Expr}
theorem jin_ {pins:List (Addr×Obj)}{σ:St}{H:Hp}{s:Shared}{R:It->Hp->Prop}{E:Value->Shared->Prop}{lo hi:Int}{t u v:Tok}{tk:Nat}(I:Inv X pins σ H s)(h1:-(2 ^ 62)<=lo)(h2:lo < 2 ^ 62)(h3:-(2 ^ 62)<=hi)(h4:hi < 2 ^ 62)
  (q:R (Itr lo (hi - lo).toNat) H):wpAny (model X.prog X.w) X.A (pyIter (.ref s.heap.objs.size)) (PIE X pins σ tg R) E { s with heap:=s.heap.push { cls:=.type "range",data:=.fields #[.int lo t,.int hi u,.int 1 v] },toks:=tk }:=by
 refine wpAny_pyIter_range (IsRange.new ..) (small_one h1 h2 h3 h4) ?_
 have I1:Inv X pins σ H { s with heap:=s.heap.push { cls:=.type "range",data:=.fields #[.int lo t,.int hi u,.int 1 v] },toks:=tk }:=I.kept fun b o e=>pi_ _ e
 refine⟨(s.heap.push { cls:=.type "range",data:=.fields #[.int lo t,.int hi u,.int 1 v] }).objs.size,[(s.heap.push { cls:=.type "range",data:=.fields #[.int lo t,.int hi u,.int 1 v] }).objs.size],_,_,H,rfl,
  I1.kept (t':=tk) fun b o e=>pi_ _ e,jlf_ _ lo (hi - lo).toNat,?_,fun b hb=>?_,q⟩
 ·have e1:lo+((0:Nat):Int) * 1=lo:=by simp
  have e2:(((hi - lo).toNat:Nat):Int) - ((0:Nat):Int)=st_ lo hi 1:=by rw[rangeSize_one];split <;> omega
  show IsRangeIter _ _ (lo+((0:Nat):Int) * 1) ((((hi - lo).toNat:Nat):Int) - ((0:Nat):Int)) 1
  rw[e1,e2]
  exact px_ _ rfl
 ·have e:b=(s.heap.push { cls:=.type "range",data:=.fields #[.int lo t,.int hi u,.int 1 v] }).objs.size:=by simpa using hb
  subst e
  exact I1.fpOk (pm_ _) (I1.hok.fresh (pm_ _))
def jwn_ (ta:TA):TI:=fun σ H R=>ta σ H fun vs H1=>∃ j:Int,vs=[.int j]/\-(2 ^ 62)<=j/\j < 2 ^ 62/\R (Itr 0 j.toNat) H1
def jxo_ (ta:TA):TI:=fun σ H R=>ta σ H fun vs H1=>∃ i j:Int,vs=[.int i,.int j]/\(-(2 ^ 62)<=i/\i < 2 ^ 62/\-(2 ^ 62)<=j/\j < 2 ^ 62)/\R (Itr i (j - i).toNat) H1
theorem zi_ {a:Expr}{ta:TA}{p pos:Pos}(hg:Gl X "range")(hm:X.mg "range"=none)(ha:PA X [a] ta)(hs:starEach [a] X.env=[(false,eval a X.env)]:=by rfl):PI X tg (.Call (.Name "range" p) [a] [] pos) (jwn_ ta):=by
 intro pins s σ H R I h
 refine Call_ (x8_ I hg hm boot_range (rm_ (thn (ha pos pins s σ H _ I h) fun us s1 ⟨vs,H1,I1,r1,q1⟩=>?_) hs rfl))
 obtain⟨j,e,q1,q2,q⟩:=q1
 subst e
 cases r1 with
 | cons r rr =>
  cases rr
  obtain⟨t,rfl⟩:=r
  exact call_range_1 (jin_ I1 (by omega) (by omega) q1 q2 (by simpa using q))
theorem ym_ {a b:Expr}{ta:TA}{p pos:Pos}(hg:Gl X "range")(hm:X.mg "range"=none)(ha:PA X [a,b] ta)(hs:starEach [a,b] X.env=[(false,eval a X.env),(false,eval b X.env)]:=by rfl)(hs2:starEach [b] X.env=[(false,eval b X.env)]:=by rfl) :
  PI X tg (.Call (.Name "range" p) [a,b] [] pos) (jxo_ ta):=by
 intro pins s σ H R I h
 refine Call_ (x8_ I hg hm boot_range (rm_ (thn (ha pos pins s σ H _ I h) fun us s1 ⟨vs,H1,I1,r1,q1⟩=>?_) (by rw[hs,hs2]) (by rw[hs2];rfl)))
 obtain⟨i,j,e,⟨q1,q2,q3,q4⟩,q⟩:=q1
 subst e
 cases r1 with
 | cons r rr =>
  cases rr with
  | cons r' rr =>
   cases rr
   obtain⟨t,rfl⟩:=r
   obtain⟨t',rfl⟩:=r'
   exact call_range_2 (jin_ I1 q1 q2 q3 q4 q)
def tFor (wi:TI)(g:TG)(tb:TS):TS:=fun D σ H=>wi σ H fun J H1=>∃ W:Nat->Nat->St->Hp->Prop,(∃ m,W 0 m σ H1)/\∀ i m σ H,W i m σ H ->
 (J.stop i H/\D.nx σ H)∨(J.go i H/\∃ N:St->Hp->Prop,(∀ σ' H',N σ' H'->∃ m',m' < m/\W (i+1) m' σ' H')/\∀ x H',J.yld i H x H'->g x σ H' fun σ2 H2=>tb { D with nx:=N,ct:=N,bk:=D.nx } σ2 H2)
noncomputable def jdx_ (fp:List Addr)(h:Heap):List (Addr×Obj):=fp.filterMap fun b=>(h.get? b).map fun o=>(b,o)
theorem x5_ {fp:List Addr}{h:Heap}{b:Addr}{o:Obj}(hb:b∈fp)(e:h.get? b=some o):(b,o)∈jdx_ fp h:=List.mem_filterMap.mpr ⟨b,hb,by rw[e];rfl⟩
theorem jpx_ {fp:List Addr}{h:Heap}{p:Addr×Obj}(hp:p∈jdx_ fp h):p.1∈fp/\h.get? p.1=some p.2:=by
 obtain⟨b,hb,e⟩:=List.mem_filterMap.mp hp
 cases q:h.get? b with
 | none=>rw[q] at e;cases e
 | some o =>
  rw[q] at e
  have e':(b,o)=p:=Option.some.inj e
  subst e'
  exact⟨hb,q⟩
theorem Inv.pinned {pins:List (Addr×Obj)}{σ:St}{H:Hp}{s:Shared}{fp:List Addr}(I:Inv X pins σ H s)(hf:∀ b∈fp,FpOk X pins H b)(ho:∀ b∈fp,∃ o,s.heap.get? b=some o/\∀ v,o.data≠.cell v):Inv X (pins++jdx_ fp s.heap) σ H s :=
 I.pins_of fun p hp=>(pt_.mp hp).elim (fun z=>I.pin p (qo_ _ z)) fun z=>by
  obtain⟨hb,e⟩:=jpx_ z
  obtain⟨f0,f1,f2,_⟩:=hf p.1 hb
  obtain⟨o,e',d⟩:=ho p.1 hb
  rw[e] at e';cases e'
  exact⟨e,f0,f1,f2,d⟩
theorem Inv.unpinned {pins pl:List (Addr×Obj)}{σ:St}{H:Hp}{s:Shared}(I:Inv X (pins++pl) σ H s):Inv X pins σ H s:=I.pins_of fun p hp=>I.pin p (qo_ _ (qt_ _ hp))
theorem j1_ {iter:Expr}{body:List Stmt}{wi:TI}{g:TG}{tb:TS}{pos:Pos}(hp:PassesOwn (model X.prog X.w) X.A X.env X.xe)(hc:X.calm=true)(hi:PI X tg iter wi)(hg:PG X tg g)(hb:PSs X body tb)
  (hs:∀ x,foldedSetIterable iter X.env x=pure x:=by intro _;rfl):PS X (.For tg iter body [] pos) (tFor wi g tb):=by
 intro pins s σ H D I h
 refine wpAny_For (thn (hi pins s σ H _ I h) fun v s1 h1=>thn h1 fun itv s2 h2=>?_) hs
 obtain⟨it,fp,tn,J,H2,e,I2,T,st2,f2,W,⟨m0,w0⟩,turn⟩:=h2
 subst e
 -- what stays true of the iterator's objects through the loop
 have stat:∀{H':Hp},(∀ b∈fp,H' b=none)->∀ b∈fp,FpOk X pins H' b:=fun hn b hb=>⟨hn b hb,(f2 b hb).2⟩
 refine codeAny_forLoop_any (fun n s'=>∃ i σ' H',Inv X pins σ' H' s'/\tn i s'.heap/\(∀ b∈fp,H' b=none)/\W i n σ' H') ?_ m0 ⟨0,σ,H2,I2,st2,fun b hb=>(f2 b hb).1,w0⟩
 rintro n s3 ⟨i,σ3,H3,I3,st3,fr3,w3⟩
 rcases turn i n σ3 H3 w3 with ⟨stop,qn⟩ | ⟨go,N,hN,step⟩
 ·refine wpAny_passesOwn hp (thn (T.done X rfl rfl rfl hc i pins s3 σ3 H3 X.xe I3 (stat fr3) st3 stop) fun r s4 ⟨hr,I4⟩=>?_)
  subst hr
  exact wpAny_execs_nil ⟨σ3,H3,I4,qn⟩
 ·refine wpAny_passesOwn hp (thn (T.item X rfl rfl rfl hc i pins s3 σ3 H3 X.xe I3 (stat fr3) st3 go) fun r s4 ⟨u,hr,h4⟩=>?_)
  subst hr
  refine wpAny_passesOwn hp (thn h4 fun _ s5 ⟨x,H5,I5,r5,y5,st5,fr5⟩=>?_)
  have I5':=I5.pinned (stat fr5) (T.obj _ _ st5)
  refine wpAny_passesOwn hp (thn (hg _ s5 σ3 H5 x u _ I5' r5 (step x H5 y5)) fun _ s6 ⟨σ6,H6,I6,q6⟩=>?_)
  refine wpAny_passesOwn hp (thn (hb _ s6 σ6 H6 _ I6 q6) fun f s7 q7=>?_)
  have again:∀{σ7:St}{H7:Hp},Inv X (pins++jdx_ fp s5.heap) σ7 H7 s7->N σ7 H7->∃ m,m < n/\∃ i σ' H',Inv X pins σ' H' s7/\tn i s7.heap/\(∀ b∈fp,H' b=none)/\W i m σ' H':=fun{σ7 H7} I7 n7=>by
   obtain⟨m',hm,w7⟩:=hN σ7 H7 n7
   refine⟨m',hm,i+1,σ7,H7,I7.unpinned,T.keep _ _ _ st5 fun b hb o e=>(I7.pin (b,o) (qo_ _ (qo_ _ (x5_ hb e)))).1,fun b hb=>?_,w7⟩
   obtain⟨o,e,d⟩:=T.obj _ _ st5 b hb
   exact(I7.pin (b,o) (qo_ _ (qo_ _ (x5_ hb e)))).2.1
  cases f with
  | next=>obtain⟨σ7,H7,I7,n7⟩:=q7;exact again I7 n7
  | cont=>obtain⟨σ7,H7,I7,n7⟩:=q7;exact again I7 n7
  | brk=>obtain⟨σ7,H7,I7,q7⟩:=q7;exact⟨σ7,H7,I7.unpinned,q7⟩
  | ret v=>obtain⟨x7,σ7,H7,I7,r7,q7⟩:=q7;exact⟨x7,σ7,H7,I7.unpinned,r7,q7⟩
end
theorem zh_ {K:pc_}{a:Addr}{xs:List V}{g:TG}{tb:TS}{D:Ends}{σ:St}{H:Hp}(Pv:Nat->St->Hp->Prop)(h0:Pv 0 σ H)(hl:∀ i σ H,i<=xs.length->Pv i σ H->SqL K H a xs)
  (hs:∀ i x σ H,xs[i]?=some x->Pv i σ H->g x σ H fun σ2 H2=>tb { D with nx:=Pv (i+1),ct:=Pv (i+1),bk:=D.nx } σ2 H2) (hd:∀ σ H,Pv xs.length σ H->D.nx σ H) :
  ∃ W:Nat->Nat->St->Hp->Prop,(∃ m,W 0 m σ H)/\∀ i m σ H,W i m σ H ->
   ((Itl K a).stop i H/\D.nx σ H)∨((Itl K a).go i H/\∃ N:St->Hp->Prop,(∀ σ' H',N σ' H'->∃ m',m' < m/\W (i+1) m' σ' H')/\∀ x H',(Itl K a).yld i H x H'->g x σ H' fun σ2 H2=>tb { D with nx:=N,ct:=N,bk:=D.nx } σ2 H2):=by
 refine⟨fun i m σ H=>m=xs.length - i/\i<=xs.length/\Pv i σ H,⟨xs.length,by simp,qj_ _,h0⟩,?_⟩
 rintro i m σ H ⟨rfl,hi,p⟩
 have q:=hl i σ H hi p
 by_cases hlt:i < xs.length
 ·refine .inr ⟨⟨xs,xs[i],q,by simp[hlt]⟩,Pv (i+1),fun σ' H' p'=>⟨xs.length - (i+1),by omega,rfl,hlt,p'⟩,fun x H' y=>?_⟩
  obtain⟨e,y⟩:=y
  subst e
  exact hs i x σ _ (y xs q) p
 ·have e:i=xs.length:=by omega
  subst e
  exact .inl ⟨⟨xs,q,pm_ _⟩,hd σ H p⟩
theorem jmx_ {K:pc_}{a:Addr}{xs:List V}{g:TG}{tb:TS}{D:Ends}{σ:St}{H:Hp}(Pv:Nat->St->Hp->Prop)(h0:Pv 0 σ H)(hl:∀ i σ H,i<=xs.length->Pv i σ H->SqT K H a xs)
  (hs:∀ i x σ H,xs[i]?=some x->Pv i σ H->g x σ H fun σ2 H2=>tb { D with nx:=Pv (i+1),ct:=Pv (i+1),bk:=D.nx } σ2 H2) (hd:∀ σ H,Pv xs.length σ H->D.nx σ H) :
  ∃ W:Nat->Nat->St->Hp->Prop,(∃ m,W 0 m σ H)/\∀ i m σ H,W i m σ H ->
   ((Itt K a).stop i H/\D.nx σ H)∨((Itt K a).go i H/\∃ N:St->Hp->Prop,(∀ σ' H',N σ' H'->∃ m',m' < m/\W (i+1) m' σ' H')/\∀ x H',(Itt K a).yld i H x H'->g x σ H' fun σ2 H2=>tb { D with nx:=N,ct:=N,bk:=D.nx } σ2 H2):=by
 refine⟨fun i m σ H=>m=xs.length - i/\i<=xs.length/\Pv i σ H,⟨xs.length,by simp,qj_ _,h0⟩,?_⟩
 rintro i m σ H ⟨rfl,hi,p⟩
 have q:=hl i σ H hi p
 by_cases hlt:i < xs.length
 ·refine .inr ⟨⟨xs,xs[i],q,by simp[hlt]⟩,Pv (i+1),fun σ' H' p'=>⟨xs.length - (i+1),by omega,rfl,hlt,p'⟩,fun x H' y=>?_⟩
  obtain⟨e,y⟩:=y
  subst e
  exact hs i x σ _ (y xs q) p
 ·have e:i=xs.length:=by omega
  subst e
  exact .inl ⟨⟨xs,q,pm_ _⟩,hd σ H p⟩
theorem ze_ {lo:Int}{n:Nat}{g:TG}{tb:TS}{D:Ends}{σ:St}{H:Hp}(Pv:Nat->St->Hp->Prop)(h0:Pv 0 σ H)
  (hs:∀ i σ H,i < n->Pv i σ H->g (.int (lo+i)) σ H fun σ2 H2=>tb { D with nx:=Pv (i+1),ct:=Pv (i+1),bk:=D.nx } σ2 H2) (hd:∀ σ H,Pv n σ H->D.nx σ H) :
  ∃ W:Nat->Nat->St->Hp->Prop,(∃ m,W 0 m σ H)/\∀ i m σ H,W i m σ H ->
   ((Itr lo n).stop i H/\D.nx σ H)∨((Itr lo n).go i H/\∃ N:St->Hp->Prop,(∀ σ' H',N σ' H'->∃ m',m' < m/\W (i+1) m' σ' H')/\∀ x H',(Itr lo n).yld i H x H'->g x σ H' fun σ2 H2=>tb { D with nx:=N,ct:=N,bk:=D.nx } σ2 H2):=by
 refine⟨fun i m σ H=>m=n - i/\i<=n/\Pv i σ H,⟨n,by simp,qj_ _,h0⟩,?_⟩
 rintro i m σ H ⟨rfl,hi,p⟩
 by_cases hlt:i < n
 ·refine .inr ⟨hlt,Pv (i+1),fun σ' H' p'=>⟨n - (i+1),by omega,rfl,hlt,p'⟩,fun x H' y=>?_⟩
  obtain⟨e,y⟩:=y
  subst e y
  exact hs i σ _ hlt p
 ·have e:i=n:=by omega
  subst e
  exact .inl ⟨pm_ _,hd σ H p⟩
end L2
namespace L2
open PySem PySem.Spec PyProof.Rows
abbrev R2:=V->V->Hp->VK->Prop
noncomputable def OpR (X:Cx)(f:Value->Value->Sem Value)(r:R2):Prop :=
 ∀(pins:List (Addr×Obj)) (s:Shared) (σ:St) (H:Hp) (x y:V) (v u:Value) (Q:VK),Inv X pins σ H s->RelV x v->RelV y u->r x y H Q ->
  wpAny (model X.prog X.w) X.A (f v u) (EP X pins σ Q) X.xe s
noncomputable def UnR (X:Cx)(f:Value->Sem Value)(r:V->Hp->VK->Prop):Prop :=
 ∀(pins:List (Addr×Obj)) (s:Shared) (σ:St) (H:Hp) (x:V) (v:Value) (Q:VK),Inv X pins σ H s->RelV x v->r x H Q ->
  wpAny (model X.prog X.w) X.A (f v) (EP X pins σ Q) X.xe s
noncomputable def CallR (X:Cx)(f:Value)(r:List V->Hp->VK->Prop):Prop :=
 ∀(pins:List (Addr×Obj)) (s:Shared) (σ:St) (H:Hp) (xs:List V) (us:List Value) (Q:VK),Inv X pins σ H s->Vals xs us->r xs H Q ->
  wpAny (model X.prog X.w) X.A (call f us) (EP X pins σ Q) X.xe s
noncomputable def TruR (X:Cx)(r:V->Hp->(Bool->Hp->Prop)->Prop):Prop :=
 ∀(pins:List (Addr×Obj)) (s:Shared) (σ:St) (H:Hp) (x:V) (v:Value) (Q:Bool->Hp->Prop),Inv X pins σ H s->RelV x v->r x H Q ->
  wpAny (model X.prog X.w) X.A (truthy v) (TP X pins σ Q) X.xe s
def tOp (r:R2)(ta tb:TE):TE:=fun σ H Q=>ta σ H fun x H1=>tb σ H1 fun y H2=>r x y H2 Q
def tUn (r:V->Hp->VK->Prop)(ta:TE):TE:=fun σ H Q=>ta σ H fun x H1=>r x H1 Q
def rI (C:Int->Int->Prop)(g:Int->Int->V):R2:=fun x y H Q=>∃ i j,x=.int i/\y=.int j/\C i j/\Q (g i j) H
def rI0 (g:Int->Int->V):R2:=fun x y H Q=>∃ i j,x=.int i/\y=.int j/\Q (g i j) H
def rU (g:Int->V):V->Hp->VK->Prop:=fun x H Q=>∃ i,x=.int i/\Q (g i) H
section
variable {X:Cx}{a b c:Expr}{ta tb tc:TE}{pos:Pos}
theorem binT (ha:PE X a ta)(hb:PE X b tb){pins:List (Addr×Obj)}{s:Shared}{σ:St}{H:Hp}{R:V->V->Hp->Prop}(I:Inv X pins σ H s)
  (h:ta σ H fun x H1=>tb σ H1 fun y H2=>R x y H2) {Q:Value->Shared->Prop}{f:Value->Value->Sem Value}
  (hf:∀ v u s2 x y H2,Inv X pins σ H2 s2->RelV x v->RelV y u->R x y H2->wpAny (model X.prog X.w) X.A (f v u) Q X.xe s2) :
  wpAny (model X.prog X.w) X.A (eval a X.env) (fun v s₁=>wpAny (model X.prog X.w) X.A (eval b X.env) (fun u s₂=>wpAny (model X.prog X.w) X.A (f v u) Q X.xe s₂) X.xe s₁) X.xe s:=by
 refine thn (ha pins s σ H _ I h) fun v s1 ⟨x,H1,I1,r1,q1⟩=>?_
 refine thn (hb pins s1 σ H1 _ I1 q1) fun u s2 ⟨y,H2,I2,r2,q2⟩=>?_
 exact hf v u s2 x y H2 I2 r1 r2 q2
theorem jk_ {op:Operator}{r:R2}(ho:OpR X (binaryOp op) r)(ha:PE X a ta)(hb:PE X b tb):PE X (.BinOp a op b pos) (tOp r ta tb):=by
 intro pins s σ H Q I h
 exact wpAny_BinOp (binT ha hb I h fun v u s2 x y H2 I2 rx ry q=>ho pins s2 σ H2 x y v u Q I2 rx ry q)
theorem jmn_ {op:UnaryOp}{r:V->Hp->VK->Prop}(ho:UnR X (unaryOp op) r)(ha:PE X a ta):PE X (.UnaryOp op a pos) (tUn r ta):=by
 intro pins s σ H Q I h
 exact UnaryOp_ (thn (ha pins s σ H _ I h) fun v s1 ⟨x,H1,I1,r1,q1⟩=>ho pins s1 σ H1 x v Q I1 r1 q1)
theorem opI {f:Value->Value->Sem Value}{C:Int->Int->Prop}{g:Int->Int->Int}
  (rule:∀(i j:Int) (t u:Tok) (s:Shared) (Q:Value->Shared->Prop) (E:Value->Shared->Prop),C i j->Q (.int (g i j) s.toks) { s with toks:=s.toks+1 }->wpAny (model X.prog X.w) X.A (f (.int i t) (.int j u)) Q E s) :
  OpR X f (rI C fun i j=>.int (g i j)):=by
 intro pins s σ H x y v u Q I rx ry h
 obtain⟨i,j,rfl,rfl,hc,q⟩:=h
 obtain⟨t,rfl⟩:=rx
 obtain⟨t',rfl⟩:=ry
 exact rule i j t t' s _ _ hc ⟨.int (g i j),H,I.tok _,⟨_,rfl⟩,q⟩
theorem opI0 {f:Value->Value->Sem Value}{g:Int->Int->Int}
  (rule:∀(i j:Int) (t u:Tok) (s:Shared) (Q:Value->Shared->Prop) (E:Value->Shared->Prop),Q (.int (g i j) s.toks) { s with toks:=s.toks+1 }->wpAny (model X.prog X.w) X.A (f (.int i t) (.int j u)) Q E s) :
  OpR X f (rI0 fun i j=>.int (g i j)):=by
 intro pins s σ H x y v u Q I rx ry h
 obtain⟨i,j,rfl,rfl,q⟩:=h
 obtain⟨t,rfl⟩:=rx
 obtain⟨t',rfl⟩:=ry
 exact rule i j t t' s _ _ ⟨.int (g i j),H,I.tok _,⟨_,rfl⟩,q⟩
theorem opB0 {f:Value->Value->Sem Value}{g:Int->Int->Bool}
  (rule:∀(i j:Int) (t u:Tok) (s:Shared) (Q:Value->Shared->Prop) (E:Value->Shared->Prop),Q (.bool (g i j)) s->wpAny (model X.prog X.w) X.A (f (.int i t) (.int j u)) Q E s) :
  OpR X f (rI0 fun i j=>.bl (g i j)):=by
 intro pins s σ H x y v u Q I rx ry h
 obtain⟨i,j,rfl,rfl,q⟩:=h
 obtain⟨t,rfl⟩:=rx
 obtain⟨t',rfl⟩:=ry
 exact rule i j t t' s _ _ ⟨.bl (g i j),H,I,rfl,q⟩
def CDiv (i j:Int):Prop:=0 < j/\j < 1073741824
def CPow (i j:Int):Prop:=0<=j/\j<=1000000/\i.natAbs < 2 ^ 64
def CMul (i j:Int):Prop:=(-(2 ^ 64) < i/\i < 2 ^ 64)∨(-(2 ^ 64) < j/\j < 2 ^ 64)
theorem CMul.ok {i j:Int}(h:CMul i j):IntMulOk i j:=by
 rcases h with ⟨h1,h2⟩ | ⟨h1,h2⟩
 ·exact .of_left (intBits_le_64 h1 h2)
 ·exact .of_right (intBits_le_64 h1 h2)
theorem jyt_:OpR X (binaryOp .Add) (rI0 fun i j=>.int (i+j)):=opI0 fun _ _ _ _ _ _ _ q=>add_int q
theorem op_sub:OpR X (binaryOp .Sub) (rI0 fun i j=>.int (i - j)):=opI0 fun _ _ _ _ _ _ _ q=>sub_int q
theorem jzz_:OpR X (binaryOp .Mult) (rI CMul fun i j=>.int (i * j)):=opI fun _ _ _ _ _ _ _ hc q=>mul_int q hc.ok
theorem op_fdiv:OpR X (binaryOp .FloorDiv) (rI CDiv fun i j=>.int (i / j)):=opI fun i j _ _ _ _ _ hc q=>by
 have h1:(0:Int) < j:=hc.1
 have h2:j < 1073741824:=hc.2
 exact floordiv_int (by omega) (by rw[Int.fdiv_eq_ediv_of_nonneg i (by omega)];exact q) (.inl (k2_ (by omega)))
theorem op_mod:OpR X (binaryOp .Mod) (rI (fun _ j=>0 < j) fun i j=>.int (i % j)):=opI fun i j _ _ _ _ _ hc q=>by
 have h1:(0:Int) < j:=hc
 exact mod_int' (by omega) (by rw[Int.fmod_eq_emod_of_nonneg i (by omega)];exact q)
theorem op_pow:OpR X (binaryOp .Pow) (rI CPow fun i j=>.int (i ^ j.toNat)):=opI fun _ _ _ _ _ _ _ hc q=>pow_int_small hc.1 hc.2.1 hc.2.2 q
theorem unI {f:Value->Sem Value}{g:Int->Int}
  (rule:∀(i:Int) (t:Tok) (s:Shared) (Q:Value->Shared->Prop) (E:Value->Shared->Prop),Q (.int (g i) s.toks) { s with toks:=s.toks+1 }->wpAny (model X.prog X.w) X.A (f (.int i t)) Q E s) :
  UnR X f (rU fun i=>.int (g i)):=by
 intro pins s σ H x v Q I rx h
 obtain⟨i,rfl,q⟩:=h
 obtain⟨t,rfl⟩:=rx
 exact rule i t s _ _ ⟨.int (g i),H,I.tok _,⟨_,rfl⟩,q⟩
theorem jzg_:UnR X (unaryOp .USub) (rU fun i=>.int (-i)):=unI fun _ _ _ _ _ q=>neg_int q
end
noncomputable def scal:V->V->Bool
 | .non,.non=>true | .non,.int _=>true | .int _,.non=>true | .non,.bl _=>true | .bl _,.non=>true | .non,.str _=>true | .str _,.non=>true
 | .int _,.int _=>true | .bl _,.bl _=>true | .str _,.str _=>true | .byt _,.byt _=>true
 | .int _,.str _=>true | .str _,.int _=>true | .bl _,.str _=>true | .str _,.bl _=>true
 | _,_=>false
def rEq:R2:=fun x y H Q=>scal x y=true/\Q (.bl (decide (x=y))) H
def rNe:R2:=fun x y H Q=>scal x y=true/\Q (.bl (!decide (x=y))) H
theorem jnj_ {i j:Int}:decide (V.int i=V.int j)=(i == j):=by
 rw[r5_]
 simp
theorem jta_ {i j:Bool}:decide (V.bl i=V.bl j)=(i == j):=by
 rw[r5_]
 simp
theorem jml_ {i j:Str}:decide (V.str i=V.str j)=(i == j):=by
 rw[r5_]
 simp
theorem jmh_ {i j:Array UInt8}:decide (V.byt i=V.byt j)=(i.toList == j.toList):=by
 rw[r5_]
 cases i
 cases j
 simp
section
variable {X:Cx}{a b c:Expr}{ta tb tc:TE}{pos:Pos}
theorem j4_ {pins:List (Addr×Obj)}{σ:St}{H:Hp}{s:Shared}{Q:VK}{k k':Bool}(I:Inv X pins σ H s)(q:Q (.bl k) H)(e:k=k'):EP X pins σ Q (.bool k') s:=by
 subst e
 exact⟨.bl k,H,I,rfl,q⟩
theorem op_eq:OpR X (compareOp .Eq) rEq:=by
 intro pins s σ H x y v u Q I rx ry h
 obtain⟨hs,q⟩:=h
 cases x with
 | non =>
  cases rx
  cases y with
  | non=>cases ry;exact PySem.EqNone.eq_none_none (j4_ I q (by simp))
  | bl j=>cases ry;exact PySem.EqNone.eq_none_bool (j4_ I q (by simp))
  | int j=>obtain⟨t',rfl⟩:=ry;exact PySem.EqNone.eq_none_int (j4_ I q (by simp))
  | str j=>obtain⟨t',rfl⟩:=ry;exact PySem.EqNone.eq_none_str (j4_ I q (by simp))
  | _=>exact absurd (show false=true from hs) pk_
 | bl i =>
  cases rx
  cases y with
  | non=>cases ry;exact PySem.EqNone.eq_bool_none (j4_ I q (by simp))
  | bl j=>cases ry;exact eq_bool (j4_ I q jta_)
  | str j=>obtain⟨t',rfl⟩:=ry;exact PySem.EqMixed.eq_bool_str (j4_ I q (by simp))
  | _=>exact absurd (show false=true from hs) pk_
 | int i =>
  obtain⟨t,rfl⟩:=rx
  cases y with
  | non=>cases ry;exact PySem.EqNone.eq_int_none (j4_ I q (by simp))
  | int j=>obtain⟨t',rfl⟩:=ry;exact eq_int (j4_ I q jnj_)
  | str j=>obtain⟨t',rfl⟩:=ry;exact PySem.EqMixed.eq_int_str (j4_ I q (by simp))
  | _=>exact absurd (show false=true from hs) pk_
 | str i =>
  obtain⟨t,rfl⟩:=rx
  cases y with
  | non=>cases ry;exact PySem.EqNone.eq_str_none (j4_ I q (by simp))
  | bl j=>cases ry;exact PySem.EqMixed.eq_str_bool (j4_ I q (by simp))
  | int j=>obtain⟨t',rfl⟩:=ry;exact PySem.EqMixed.eq_str_int (j4_ I q (by simp))
  | str j=>obtain⟨t',rfl⟩:=ry;exact eq_str (j4_ I q jml_)
  | _=>exact absurd (show false=true from hs) pk_
 | byt i =>
  obtain⟨t,rfl⟩:=rx
  cases y with
  | byt j=>obtain⟨t',rfl⟩:=ry;exact PySem.W.eq_bytes (j4_ I q jmh_)
  | _=>exact absurd (show false=true from hs) pk_
 | _=>cases y <;> exact absurd (show false=true from hs) pk_
theorem op_ne:OpR X (compareOp .NotEq) rNe:=by
 intro pins s σ H x y v u Q I rx ry h
 obtain⟨hs,q⟩:=h
 cases x with
 | non =>
  cases rx
  cases y with
  | non=>cases ry;exact PySem.EqNone.ne_none_none (j4_ I q (by simp))
  | bl j=>cases ry;exact PySem.EqNone.ne_none_bool (j4_ I q (by simp))
  | int j=>obtain⟨t',rfl⟩:=ry;exact PySem.EqNone.ne_none_int (j4_ I q (by simp))
  | str j=>obtain⟨t',rfl⟩:=ry;exact PySem.EqNone.ne_none_str (j4_ I q (by simp))
  | _=>exact absurd (show false=true from hs) pk_
 | bl i =>
  cases rx
  cases y with
  | non=>cases ry;exact PySem.EqNone.ne_bool_none (j4_ I q (by simp))
  | bl j=>cases ry;exact ne_bool (j4_ I q (congrArg not jta_))
  | str j=>obtain⟨t',rfl⟩:=ry;exact PySem.EqMixed.ne_bool_str (j4_ I q (by simp))
  | _=>exact absurd (show false=true from hs) pk_
 | int i =>
  obtain⟨t,rfl⟩:=rx
  cases y with
  | non=>cases ry;exact PySem.EqNone.ne_int_none (j4_ I q (by simp))
  | int j=>obtain⟨t',rfl⟩:=ry;exact ne_int (j4_ I q (congrArg not jnj_))
  | str j=>obtain⟨t',rfl⟩:=ry;exact PySem.EqMixed.ne_int_str (j4_ I q (by simp))
  | _=>exact absurd (show false=true from hs) pk_
 | str i =>
  obtain⟨t,rfl⟩:=rx
  cases y with
  | non=>cases ry;exact PySem.EqNone.ne_str_none (j4_ I q (by simp))
  | bl j=>cases ry;exact PySem.EqMixed.ne_str_bool (j4_ I q (by simp))
  | int j=>obtain⟨t',rfl⟩:=ry;exact PySem.EqMixed.ne_str_int (j4_ I q (by simp))
  | str j=>obtain⟨t',rfl⟩:=ry;exact ne_str (j4_ I q (congrArg not jml_))
  | _=>exact absurd (show false=true from hs) pk_
 | byt i =>
  obtain⟨t,rfl⟩:=rx
  cases y with
  | byt j=>obtain⟨t',rfl⟩:=ry;exact PySem.W.ne_bytes (j4_ I q (congrArg not jmh_))
  | _=>exact absurd (show false=true from hs) pk_
 | _=>cases y <;> exact absurd (show false=true from hs) pk_
theorem op_lt:OpR X (compareOp .Lt) (rI0 fun i j=>.bl (decide (i < j))):=opB0 fun _ _ _ _ _ _ _ q=>lt_int q
theorem op_le:OpR X (compareOp .LtE) (rI0 fun i j=>.bl (decide (i<=j))):=opB0 fun _ _ _ _ _ _ _ q=>le_int q
theorem op_gt:OpR X (compareOp .Gt) (rI0 fun i j=>.bl (decide (j < i))):=opB0 fun _ _ _ _ _ _ _ q=>gt_int q
theorem op_ge:OpR X (compareOp .GtE) (rI0 fun i j=>.bl (decide (j<=i))):=opB0 fun _ _ _ _ _ _ _ q=>ge_int q
theorem jop_:OpR X (compareOp .In) (fun x y H Q=>∃ i j,x=.str i/\y=.str j/\Q (.bl (!(ti_ j i 0 j.length 1).isEmpty)) H):=by
 intro pins s σ H x y v u Q I rx ry h
 obtain⟨i,j,rfl,rfl,q⟩:=h
 obtain⟨t,rfl⟩:=rx
 obtain⟨t',rfl⟩:=ry
 exact in_str (j4_ I q rfl)
theorem zab_:OpR X (compareOp .Is) (fun x y H Q=>y=.non/\Q (.bl (decide (x=.non))) H):=by
 intro pins s σ H x y v u Q I rx ry h
 obtain⟨rfl,q⟩:=h
 cases ry
 refine is_none_gen (j4_ I q ?_)
 cases x <;> first
  | (cases rx;rfl)
  | (obtain⟨t,rfl⟩:=rx;rfl)
theorem jut_:OpR X (compareOp .IsNot) (fun x y H Q=>y=.non/\Q (.bl (!decide (x=.non))) H):=by
 intro pins s σ H x y v u Q I rx ry h
 obtain⟨rfl,q⟩:=h
 cases ry
 refine isnot_none_gen (j4_ I q ?_)
 cases x <;> first
  | (cases rx;rfl)
  | (obtain⟨t,rfl⟩:=rx;rfl)
theorem jhb_:OpR X (compareOp .NotIn) (fun x y H Q=>∃ i j,x=.str i/\y=.str j/\Q (.bl (!(!(ti_ j i 0 j.length 1).isEmpty))) H):=by
 intro pins s σ H x y v u Q I rx ry h
 obtain⟨i,j,rfl,rfl,q⟩:=h
 obtain⟨t,rfl⟩:=rx
 obtain⟨t',rfl⟩:=ry
 exact notIn_str (j4_ I q rfl)
theorem j3_ (b:Expr){op:CmpOp}(h:op≠.In:=by decide)(h2:op≠.NotIn:=by decide):behindInMarks op b=false:=by
 have e1:(op == CmpOp.In)=false:=by cases op <;> first | rfl | exact absurd rfl h
 have e2:(op == CmpOp.NotIn)=false:=by cases op <;> first | rfl | exact absurd rfl h2
 cases b <;> simp[behindInMarks,e1,e2]
theorem zs_ {op:CmpOp}{r:R2}(ho:OpR X (compareOp op) r)(ha:PE X a ta)(hb:PE X b tb)(hm:behindInMarks op b=false):PE X (.Compare a [op] [b] pos) (tOp r ta tb):=by
 intro pins s σ H Q I h
 exact wpAny_Compare1 (binT ha hb I h fun v u s2 x y H2 I2 rx ry q=>ho pins s2 σ H2 x y v u Q I2 rx ry q) hm
def jst_ (t:TE):TT:=fun σ H Q=>t σ H fun x H'=>∃ k,x=.bl k/\Q k H'
theorem zd_ {op:CmpOp}{r:R2}(ho:OpR X (compareOp op) r)(ha:PE X a ta)(hb:PE X b tb)(hm:behindInMarks op b=false):PT X (.Compare a [op] [b] pos) (jst_ (tOp r ta tb)):=by
 intro pins s σ H Q I h
 refine wpAny_isTrue_Compare1 (thn (ha pins s σ H _ I h) fun v s1 ⟨x,H1,I1,r1,q1⟩=>thn (hb pins s1 σ H1 _ I1 q1) fun u s2 ⟨y,H2,I2,r2,q2⟩ =>
  thn (ho pins s2 σ H2 x y v u _ I2 r1 r2 q2) fun c s3 ⟨z,H3,I3,r3,k,e,q3⟩=>?_) hm
 subst e
 cases r3
 exact wpAny_truthy_bool ⟨H3,I3,q3⟩
def jsx_ (r r':R2)(ta tb tc:TE):TE:=fun σ H Q=>ta σ H fun x H1=>tb σ H1 fun y H2=>r x y H2 fun z H3=>∃ k,z=.bl k /\
 (if k=true then tc σ H3 fun w' H4=>r' y w' H4 Q else Q (.bl false) H3)
theorem jjp_ {op op':CmpOp}{r r':R2}(ho:OpR X (compareOp op) r)(ho':OpR X (compareOp op') r')(ha:PE X a ta)(hb:PE X b tb)(hc:PE X c tc)
  (hm:lastMarks [op,op'] [b,c]=false:=by with_unfolding_all rfl):PT X (.Compare a [op,op'] [b,c] pos) (jst_ (jsx_ r r' ta tb tc)):=by
 intro pins s σ H Q I h
 refine isTrue_chain (thn (ha pins s σ H _ I h) fun v s1 ⟨x,H1,I1,r1,q1⟩=>test_link (thn (hb pins s1 σ H1 _ I1 q1) fun u s2 ⟨y,H2,I2,r2,q2⟩ =>
  thn (ho pins s2 σ H2 x y v u _ I2 r1 r2 q2) fun d s3 ⟨z,H3,I3,r3,k,e,q3⟩=>?_)) hm
 subst e
 cases r3
 refine wpAny_truthy_bool ?_
 cases k with
 | false =>
  obtain⟨k',e',q'⟩:=q3
  cases e'
  exact ite_ff ⟨H3,I3,q'⟩
 | true =>
  refine ite_tt (test_last (thn (hc pins s3 σ H3 _ I3 q3) fun w' s4 ⟨z',H4,I4,r4,q4⟩=>thn (ho' pins s4 σ H4 y z' u w' _ I4 r2 r4 q4) fun d' s5 ⟨z2,H5,I5,r5,k2,e2,q5⟩=>?_))
  subst e2
  cases r5
  exact wpAny_truthy_bool ⟨H5,I5,q5⟩
noncomputable def TruV (K:pc_)(x:V)(H:Hp)(k:Bool):Prop :=
 match x with
 | .non=>k=false
 | .bl b=>k=b
 | .int i=>k=(i != 0)
 | .str y=>y.length<=sizeLine/\k=((y.length:Int) != 0)
 | .byt y=>y.size<=sizeLine/\k=((y.size:Int) != 0)
 | .ref p=>(∃ xs,SqL K H p xs/\k=!xs.isEmpty)∨(∃ xs,SqT K H p xs/\k=!xs.isEmpty)∨∃ kvs,H p=some (.dK kvs)/\k=!kvs.isEmpty
 | _=>False
theorem jjv_ {κ:Type}{kvs:List (κ×V)}{vs:List (κ×Value)}(r:KV kvs vs):(!vs.isEmpty)=!kvs.isEmpty:=by
 cases r <;> rfl
theorem jcq_ {xs:List V}{its:List Value}(r:Vals xs its):(!its.toArray.isEmpty)=!xs.isEmpty:=by
 cases r <;> simp
theorem uu_:(sizeLine:Nat) < 2 ^ 63:=by rw[sizeLine_eq];decide
theorem jxv_:TruR X (fun x H Q=>∃ k,TruV X.K x H k/\Q k H):=by
 intro pins s σ H x v Q I rx h
 obtain⟨k,e,q⟩:=h
 have hl:=uu_
 have hs:sizeLine=16777216:=sizeLine_eq
 cases x with
 | non =>
  cases rx
  have e':k=false:=e
  subst e'
  exact truthy_none ⟨H,I,q⟩
 | bl b =>
  cases rx
  have e':k=b:=e
  subst e'
  exact wpAny_truthy_bool ⟨H,I,q⟩
 | int i =>
  obtain⟨t,rfl⟩:=rx
  have e':k=(i != 0):=e
  subst e'
  exact PySem.P.truthy_int ⟨H,I,q⟩
 | str y =>
  obtain⟨t,rfl⟩:=rx
  obtain⟨hy,e'⟩:y.length<=sizeLine/\k=((y.length:Int) != 0):=e
  subst e'
  exact PySem.P.truthy_str (by omega) ⟨H,I.tok _,q⟩
 | byt y =>
  obtain⟨t,rfl⟩:=rx
  obtain⟨hy,e'⟩:y.size<=sizeLine/\k=((y.size:Int) != 0):=e
  subst e'
  exact PySem.W.truthy_bytes (by omega) ⟨H,I.tok _,q⟩
 | ref p =>
  cases rx
  have e':(∃ xs,SqL X.K H p xs/\k=!xs.isEmpty)∨(∃ xs,SqT X.K H p xs/\k=!xs.isEmpty)∨∃ kvs,H p=some (.dK kvs)/\k=!kvs.isEmpty:=e
  rcases e' with ⟨xs,hx,e'⟩ | ⟨xs,hx,e'⟩ | ⟨kvs,hx,e'⟩
  ·subst e'
   obtain⟨its,r,pl,hz⟩:=I.list hx
   have hlen:=r.length
   exact wpAny_truthy_list pl.isList (by simp only[pp_];omega) ⟨H,I.tok _,by rw[jcq_ r];exact q⟩
  ·subst e'
   obtain⟨its,r,pl,hz⟩:=I.tuple hx
   have hlen:=r.length
   exact truthy_tuple pl (by simp only[pp_];omega) ⟨H,I.tok _,by rw[jcq_ r];exact q⟩
  ·subst e'
   obtain⟨hz,hS,vs,r,m⟩:kvs.length<=sizeLine/\(p == sysModules)=false/\∃ vs,KV kvs vs/\s.heap.DictOf (j9_ X.prog X.w) p vs:=I.hok p _ hx
   have hlen:kvs.length=vs.length:=wk_ r
   exact wpAny_truthy_dict hS m (by omega) ⟨H,I.tok _,by rw[jjv_ r];exact q⟩
 | _=>exact(show False from e).elim
theorem jkf_:OpR X (binaryOp .Add) (fun x y H Q=>∃ i j,x=.str i/\y=.str j/\i.length+j.length<=sizeLine/\Q (.str (i++j)) H):=by
 intro pins s σ H x y v u Q I rx ry h
 obtain⟨i,j,rfl,rfl,hz,q⟩:=h
 obtain⟨t,rfl⟩:=rx
 obtain⟨t',rfl⟩:=ry
 exact add_str (fun t' tk=>⟨.str (i++j),H,I.tok _,⟨_,rfl⟩,q⟩) hz
theorem ug_ {x:V}{us:List Value}(r:Vals [x] us):∃ u,us=[u]/\RelV x u:=by
 cases r with
 | cons r1 r2=>cases r2;exact⟨_,rfl,r1⟩
theorem jio_ {x y:V}{us:List Value}(r:Vals [x,y] us):∃ u w',us=[u,w']/\RelV x u/\RelV y w':=by
 cases r with
 | cons r1 r2 =>
  cases r2 with
  | cons r3 r4=>cases r4;exact⟨_,_,rfl,r1,r3⟩
theorem jny_ (hc:X.calm=true):CallR X (.builtin "max") (fun xs H Q=>∃ i j,xs=[.int i,.int j]/\Q (.int (if j > i then j else i)) H):=by
 intro pins s σ H xs us Q I r h
 obtain⟨i,j,rfl,q⟩:=h
 obtain⟨u,w',rfl,⟨t,rfl⟩,⟨t',rfl⟩⟩:=jio_ r
 refine max_two_ints (I.ok.hd hc) fun h' tk k=>⟨_,H,I.kept k,?_,q⟩
 by_cases hj:j > i
 ·rw[if_pos hj,if_pos hj];exact⟨_,rfl⟩
 ·rw[if_neg hj,if_neg hj];exact⟨_,rfl⟩
theorem jpm_ (hc:X.calm=true):CallR X (.builtin "min") (fun xs H Q=>∃ i j,xs=[.int i,.int j]/\Q (.int (if j < i then j else i)) H):=by
 intro pins s σ H xs us Q I r h
 obtain⟨i,j,rfl,q⟩:=h
 obtain⟨u,w',rfl,⟨t,rfl⟩,⟨t',rfl⟩⟩:=jio_ r
 refine min_two_ints (I.ok.hd hc) fun h' tk k=>⟨_,H,I.kept k,?_,q⟩
 by_cases hj:j < i
 ·rw[if_pos hj,if_pos hj];exact⟨_,rfl⟩
 ·rw[if_neg hj,if_neg hj];exact⟨_,rfl⟩
theorem call_int1:CallR X (.type "int") (fun xs H Q=>(∃ i,xs=[.int i]/\Q (.int i) H)∨∃ k,xs=[.bl k]/\Q (.int (if k then 1 else 0)) H):=by
 intro pins s σ H xs us Q I r h
 rcases h with ⟨i,rfl,q⟩ | ⟨k,rfl,q⟩
 ·obtain⟨u,rfl,t,rfl⟩:=ug_ r
  exact call_int_int ⟨.int i,H,I,⟨_,rfl⟩,q⟩
 ·obtain⟨u,rfl,r1⟩:=ug_ r
  cases r1
  exact call_int_bool ⟨.int (if k then 1 else 0),H,I.tok _,⟨_,rfl⟩,q⟩
end
end L2
namespace L2
open PySem PySem.Spec PyProof.Rows
structure ObjM (h:Heap)(x dx C:Addr)(mA:Str->Option Value):Prop where
 obj:h.get? x=some (r3_ C dx)
 ns:h.Ns1 dx mA
 ne:dx≠x
theorem jpp_ {h:Heap}{dx:Addr}{mA:Str->Option Value}(n:h.Ns1 dx mA):∃ od,h.get? dx=some od/\∀ name,w6_ name od=some (mA name):=by
 obtain⟨o,es,ep,ho,hd,hk,_,hm⟩:=n
 refine⟨o,ho,fun name=>?_⟩
 have e:=hm name
 unfold nsFind findBy at e
 rw[<- Array.find?_toList] at e
 unfold w6_
 rw[hd]
 dsimp only
 split
 ·rename_i y q
  rw[q] at e
  exact congrArg some e
 ·rename_i q
  rw[q] at e
  have a:es.toList.any (·.refKey)=false:=by
   rw[List.any_eq_false]
   intro y hy
   obtain⟨z,t,hkey⟩:=hk y (Array.mem_toList_iff.mp hy)
   simp[DictEntry.refKey,hkey]
  have a':¬ es.toList.any (·.refKey)=true:=by rw[a];exact pk_
  rw[if_neg a']
  exact congrArg some e
theorem ObjM.look {h:Heap}{x dx C:Addr}{mA:Str->Option Value}(I:ObjM h x dx C mA):∃ od,PySem.W.InstAt h x (r3_ C dx) C (some od)/\∀ name,w6_ name od=some (mA name) :=
 let ⟨od,ho,hl⟩:=jpp_ I.ns
 ⟨od,⟨I.obj,rfl,rfl,ho⟩,hl⟩
section
variable {prog:Program}{w:World}{A:Around}{E:Value->Shared->Prop}{s:Shared}{K:pc_}{x dx C f:Addr}{mA:Str->Option Value}{name:Str}{v:Value}
theorem jwd_ {expr:Bool}{Q:Value->Shared->Prop}(X:K.In s.heap)(I:ObjM s.heap x dx C mA)(hg:ta_ K C name=true)(hh:tv_ K C=true)
  (ha:qp_ K (.ref C) name=some none) (hv:mA name=some v) (hv':PySem.W.handedIn v=true) (h:Q v { s with toks:=s.toks+1 }) :
  wpAny (model prog w) A (getAttr (.ref x) name expr) Q E s:=by
 obtain⟨od,J,hl⟩:=I.look
 exact PySem.W.get_value X J (wq_ hg).1 (PySem.W.findObj_own hh ha rfl (by rw[hl,hv])) hv' h
theorem jru_ {pl:Sem Bool}{Q:Value×List Value->Shared->Prop}(X:K.In s.heap)(I:ObjM s.heap x dx C mA)(hg:ta_ K C name=true)
  (hf:qp_ K (.ref C) name=some (some (.ref f))) (ht:t7_ K (.ref f)=true) (hv:mA name=none) (h:Q (.ref f,[.ref x]) s) :
  wpAny (model prog w) A (getMethod (.ref x) name pl) Q E s:=by
 obtain⟨od,J,hl⟩:=I.look
 exact PySem.W.method_fn X J (wq_ hg).1 (wq_ hg).2 hf (beq_iff_eq.mp ht) (by show (w6_ name od).map (·.isSome)=some false;rw[hl,hv];rfl) h
theorem jva_ {ns:List Str}{Q:Unit->Shared->Prop}(X:K.In s.heap)(I:ObjM s.heap x dx C mA)
  (hs:qp_ K (.ref C) "__setattr__"=some (some (.builtin "object.__setattr__"))) (hp:ke_ K C=true) (ht:k8_ K C name=some none) (hh:tv_ K C=true)
  (hw:k7_ mA ns) (hsz:ns.length<=sizeLine)
  (h:∀ h',ObjM h' x dx C (fun y=>if y=name then some v else mA y)->qx_ dx s.heap h'->Q () { s with heap:=h',toks:=s.toks+2 }) :
  wpAny (model prog w) A (setAttr (.ref x) name v) Q E s:=by
 obtain⟨od,J,hl⟩:=I.look
 refine PySem.W.set_plain X J hs (PySem.W.osa_open (s:={ s with toks:=s.toks+1 }) (r:=none) X J hp ht fun b=>?_)
 obtain⟨cd,hc,hd'⟩:=PySem.W.any_some hh
 have hx:s.heap.get? x=some ⟨.ref C,some dx,.plain,#[]⟩:=I.obj
 refine wpAny_bind (wpAny_pure (wpAny_bind (wpAny_bind (wpAny_loadPart hx (wpAny_bind (PySem.W.Looks.here (s:={ s with toks:=s.toks+1 }) (PySem.W.looks_clsIn X hc) ?_))))))
 rw[hd']
 refine wpAny_pure (a:=some dx) (wpAny_bind (wpAny_pure (wpAny_bind ?_)))
 refine wpAny_nsSet1 (s:={ s with toks:=s.toks+1 }) I.ns fun h' hn2 hs2=>?_
 obtain⟨oD,esD,epD,hoD,hdD,hcD⟩:=hn2.count (k7_.cons name v hw)
 refine wpAny_bind (wpAny_lookBehind hoD (by rw[hdD];exact pastItsLine_dict (p7_ hcD (by rw[p3_];omega))) ?_)
 exact wpAny_pure (h _ ⟨(hs2.2 _ (td_ I.ne)).trans I.obj,hn2,I.ne⟩ hs2)
theorem jrq_ {R:Result->Shared->Prop}{vs:List Value}{kw:List (Str×Value)}(X:K.In s.heap)(hm:k9_ K C=true)
  (hi:qp_ K (.ref C) "__init__"=some (some (.ref f))) (hf:PySem.W.typeIn K (.ref f)=some (.type "function"))
  (h:codeAny (model prog w) (A.under (.builtin "type.__call__" ⟨.ref C::vs,kw⟩)) (.call (.ref f) ⟨.ref (s.heap.objs.size+1)::vs,kw⟩) (PySem.W.InitBack (s.heap.objs.size+1) R)
   { s with heap:=(s.heap.push rh_).push (r3_ C s.heap.objs.size) }) :
  codeAny (model prog w) A (.call (.ref C) ⟨vs,kw⟩) R s:=by
 obtain⟨hh,g,d,t,os⟩:=s
 exact PySem.W.make_core (PySem.W.makes_of X hm) (PySem.W.looks_findIn X hi) (fun self=>PySem.W.bind_fn X self hf) (.inl rfl) h
end
noncomputable def putF (f:Str)(v:V):List (Str×V)->List (Str×V)
 | []=>[(f,v)]
 | (g,x)::r=>if g=f then (g,v)::r else (g,x)::putF f v r
theorem jbg_ (f g:Str)(v:V):∀ fs:List (Str×V),(putF f v fs).lookup g=if g=f then some v else fs.lookup g
 | []=>by
  show tw_ g [(f,v)]=_
  by_cases h:g=f
  ·have hb:(g == f)=true:=beq_iff_eq.mpr h
   simp only[tw_,hb,if_pos h]
  ·have hb:(g == f)=false:=beq_eq_false_iff_ne.mpr h
   simp only[tw_,hb,if_neg h]
 | (k,x)::r=>by
  have ih:=jbg_ f g v r
  rw[show putF f v ((k,x)::r)=(if k=f then (k,v)::r else (k,x)::putF f v r) from rfl]
  by_cases hk:k=f
  ·rw[if_pos hk]
   by_cases h:g=k
   ·have hb:(g == k)=true:=beq_iff_eq.mpr h
    simp only[tw_,hb,if_pos (h.trans hk)]
   ·have hb:(g == k)=false:=beq_eq_false_iff_ne.mpr h
    simp only[tw_,hb,if_neg (fun e:g=f=>h (e.trans hk.symm))]
  ·rw[if_neg hk]
   by_cases h:g=k
   ·have hb:(g == k)=true:=beq_iff_eq.mpr h
    simp only[tw_,hb,if_neg (fun e:g=f=>hk (h.symm.trans e))]
   ·have hb:(g == k)=false:=beq_eq_false_iff_ne.mpr h
    simp only[tw_,hb]
    exact ih
theorem jan_ (f:Str)(v:V):∀ fs:List (Str×V),f∈(putF f v fs).map (·.1)/\∀ g,g∈fs.map (·.1)->g∈(putF f v fs).map (·.1)
 | []=>⟨by simp[putF],fun g h=>by simp at h⟩
 | (k,x)::r=>by
  obtain⟨i1,i2⟩:=jan_ f v r
  rw[show putF f v ((k,x)::r)=(if k=f then (k,v)::r else (k,x)::putF f v r) from rfl]
  by_cases hk:k=f
  ·rw[if_pos hk]
   subst hk
   exact⟨by simp,fun g h=>by simpa using h⟩
  ·rw[if_neg hk]
   refine⟨?_,fun g h=>?_⟩
   ·rw[pr_]
    exact pl_ _ i1
   ·rw[pr_] at h ⊢
    rcases p6_.mp h with e | e
    ·exact p6_.mpr (.inl e)
    ·exact pl_ _ (i2 g e)
theorem jbi_ (f:Str)(v:V):∀ fs:List (Str×V),(putF f v fs).length<=fs.length+1
 | []=>by simp[putF]
 | (k,x)::r=>by
  have ih:=jbi_ f v r
  rw[show putF f v ((k,x)::r)=(if k=f then (k,v)::r else (k,x)::putF f v r) from rfl]
  by_cases hk:k=f
  ·rw[if_pos hk,p3_,p3_];omega
  ·rw[if_neg hk,p3_,p3_];omega
theorem RelO.some_of {v:V}{o:Option Value}(r:RelO (some v) o):∃ u,o=some u/\RelV v u:=by
 cases o with
 | none=>exact(show False from r).elim
 | some u=>exact⟨u,rfl,r⟩
theorem RelO.none_of {o:Option Value}(r:RelO none o):o=none:=by
 cases o with
 | none=>rfl
 | some u=>exact(show False from r).elim
theorem jol_ {v:V}{u:Value}(r:RelV v u):PySem.W.handedIn u=true:=by
 cases v with
 | non=>cases (show u=Value.none from r);rfl
 | bl b=>cases (show u=Value.bool b from r);rfl
 | int i=>obtain⟨t,e⟩:=(show ∃ t,u=Value.int i t from r);cases e;rfl
 | str x=>obtain⟨t,e⟩:=(show ∃ t,u=Value.str x t from r);cases e;rfl
 | byt b=>obtain⟨t,e⟩:=(show ∃ t,u=Value.bytes b t from r);cases e;rfl
 | flt b=>obtain⟨t,e⟩:=(show ∃ t,u=Value.float b t from r);cases e;rfl
 | ref a=>cases (show u=Value.ref a from r);rfl
 | ty n=>cases (show u=Value.type n from r);rfl
section
variable {P:Program}{w:World}{H H':Hp}{h h':Heap}{a C dx:Addr}{fs fs':List (Str×V)}
theorem jgw_ (hok:HOk P w H h)(e:H a=some (.ins C dx fs)):∃ mA,ObjM h a dx C mA/\(∀ f,RelO (fs.lookup f) (mA f))/\k7_ mA (fs.map (·.1))/\fs.length<=1000/\H dx=some (.own a):=by
 obtain⟨d,z,ne,ob,mA,n,r,q⟩:=(show ObjOk P w H h a (.ins C dx fs) from hok a _ e)
 exact⟨mA,⟨ob,n,ne⟩,r,q,z,d⟩
end
structure Cls (K:pc_)(C:Addr):Prop where
 pg:ta_ K C Str.empty=true
 hd:tv_ K C=true
 po:ke_ K C=true
 sa:qp_ K (.ref C) "__setattr__"=some (some (.builtin "object.__setattr__"))
theorem Cls.get {K:pc_}{C:Addr}(c:Cls K C)(f:Str):ta_ K C f=true:=c.pg
def NoAttr (K:pc_)(C:Addr)(f:Str):Prop:=qp_ K (.ref C) f=some none
theorem NoAttr.taker {K:pc_}{C:Addr}{f:Str}(n:NoAttr K C f):k8_ K C f=some none:=by
 unfold k8_
 rw[show qp_ K (.ref C) f=some none from n]
 rfl
structure Con (K:pc_)(C:Addr)(f:Str)(v:V)(u:Value):Prop where
 at_:qp_ K (.ref C) f=some (some u)
 rel:RelV v u
 get:l4_ K u "__get__"=some none
 cp:PySem.W.copiedNames.contains f=false
structure Meth (K:pc_)(C:Addr)(m:Str)(f:Addr):Prop where
 at_:qp_ K (.ref C) m=some (some (.ref f))
 fn:t7_ K (.ref f)=true
 kp:si_ K (.ref f)=true
section
variable {X:Cx}{pins:List (Addr×Obj)}{σ:St}{H:Hp}{s:Shared}{a C dx:Addr}{fs:List (Str×V)}{f:Str}{v:V}{A:Around}{E:Value->Shared->Prop}
theorem jjs_ {b:Bool}{Q:Value->Shared->Prop}(I:Inv X pins σ H s)(e:H a=some (.ins C dx fs))(c:Cls X.K C)(n:NoAttr X.K C f)(l:fs.lookup f=some v)
  (h:∀ u s',Inv X pins σ H s'->RelV v u->Q u s'):wpAny (model X.prog X.w) A (getAttr (.ref a) f b) Q E s:=by
 obtain⟨mA,O,r,_,_,_⟩:=jgw_ I.hok e
 obtain⟨u,hu,ru⟩:=RelO.some_of (v:=v) (o:=mA f) (by rw[<- l];exact r f)
 exact jwd_ I.kIn O (c.get f) c.hd n hu (jol_ ru) (h u _ (I.tok _) ru)
theorem jcx_ {m:Str}{g:Addr}{pl:Sem Bool}{Q:Value×List Value->Shared->Prop}(I:Inv X pins σ H s)(e:H a=some (.ins C dx fs))(c:Cls X.K C)(k:Meth X.K C m g)(l:fs.lookup m=none)
  (h:Q (.ref g,[.ref a]) s):wpAny (model X.prog X.w) A (getMethod (.ref a) m pl) Q E s:=by
 obtain⟨mA,O,r,_,_,_⟩:=jgw_ I.hok e
 have hn:mA m=none:=RelO.none_of (by rw[<- l];exact r m)
 exact jru_ I.kIn O (c.get m) k.at_ k.fn hn h
theorem jkg_ {y:V}{u:Value}{Q:Unit->Shared->Prop}(I:Inv X pins σ H s)(e:H a=some (.ins C dx fs))(c:Cls X.K C)(n:NoAttr X.K C f)(hl:fs.length < 1000)(ry:RelV y u)
  (h:∀ s',Inv X pins σ (upd H a (.ins C dx (putF f y fs))) s'->Q () s'):wpAny (model X.prog X.w) A (setAttr (.ref a) f u) Q E s:=by
 obtain⟨mA,O,r,wi,_,ho⟩:=jgw_ I.hok e
 have hz:(fs.map (·.1)).length<=sizeLine:=by rw[pb_,sizeLine_eq];omega
 refine jva_ I.kIn O c.sa c.po n.taker c.hd wi hz fun h' O' sb=>h _ ?_
 have hd:∃ o,h'.get? dx=some o:=let ⟨o,_,_,e',_⟩:=O'.ns;⟨o,e'⟩
 refine I.write (x:=a) (e:=dx) (by rw[e];exact True.intro) (.inr ho) (fun b q hb z=>(sb.2 b hb).trans z) hd ?_
 refine⟨by rw[jh_ O.ne];exact ho,?_,O.ne,O'.obj,_,O'.ns,fun g=>?_,fun g hg=>?_⟩
 ·have:=jbi_ f y fs;omega
 ·show RelO ((putF f y fs).lookup g) (if g=f then some u else mA g)
  rw[jbg_]
  by_cases q:g=f
  ·rw[if_pos q,if_pos q];exact ry
  ·rw[if_neg q,if_neg q];exact r g
 ·by_cases q:g=f
  ·rw[q];exact(jan_ f y fs).1
  ·refine(jan_ f y fs).2 g (wi g fun z=>hg ?_)
   show (if g=f then some u else mA g)=none
   rw[if_neg q];exact z
theorem Inv.made (I:Inv X pins σ H s):Inv X pins σ (upd (upd H s.heap.objs.size (.own (s.heap.objs.size+1))) (s.heap.objs.size+1) (.ins C s.heap.objs.size []))
  { s with heap:=(s.heap.push rh_).push (r3_ C s.heap.objs.size) }:=by
 have e1:(s.heap.push rh_).get? s.heap.objs.size=some rh_:=px_ s.heap rfl
 have e2:((s.heap.push rh_).push (r3_ C s.heap.objs.size)).get? (s.heap.objs.size+1)=some (r3_ C s.heap.objs.size):=by
  have:=px_ (s.heap.push rh_) (o:=r3_ C s.heap.objs.size) rfl
  rwa [r1_] at this
 have e3:(s.heap.push rh_).Ns s.heap.objs.size (fun _=>none):=⟨rh_,#[],_,e1,rfl,(fun e he=>absurd he (by simp)),fun _=>rfl⟩
 have I1:=I.laid (a:=s.heap.objs.size) (o:=.own (s.heap.objs.size+1)) (h':=s.heap.push rh_) (t':=s.toks) (fun b u q=>pi_ _ q) (pm_ _) ⟨_,e1⟩
 refine I1.laid (a:=s.heap.objs.size+1) (o:=.ins C s.heap.objs.size []) (t':=s.toks) (fun b u q=>pi_ _ q) (s1_ (r1_ _ _)) ?_
 have ne:s.heap.objs.size≠s.heap.objs.size+1:=qg_ (sw_ _)
 refine⟨by rw[jh_ ne,jb_],qj_ _,ne,e2,fun _=>none,(Heap.Ns1.of_empty e3).at fun o q=>pi_ _ q,fun _=>True.intro,fun y hy=>absurd rfl hy⟩
theorem jvy_ {prog:Program}{w:World}{env:Env}{e:Expr}{f:Str}{pos:Pos}{s:Shared}{Q:Value->Shared->Prop}(hb:attributeBase e f env (eval e env)=eval e env)
  (h:wpAny (model prog w) A (eval e env) (fun o s₁=>wpAny (model prog w) A (getAttr o f true) Q E s₁) E s):wpAny (model prog w) A (eval (.Attribute e f pos) env) Q E s :=
 Attribute_any_ h (by rw[arm_eval_Attribute,hb])
end
def tFld (K:pc_)(ta:TE)(f:Str):TE:=fun σ H Q=>ta σ H fun x H1=>∃ a C dx fs v,x=.ref a/\H1 a=some (.ins C dx fs)/\Cls K C/\NoAttr K C f/\fs.lookup f=some v/\Q v H1
def sFld (K:pc_)(ta tv:TE)(f:Str):TS:=fun D σ H=>tv σ H fun y H1=>ta σ H1 fun x H2=>∃ a C dx fs,x=.ref a/\H2 a=some (.ins C dx fs)/\Cls K C/\NoAttr K C f/\fs.length < 1000 /\
 D.nx σ (upd H2 a (.ins C dx (putF f y fs)))
section
variable {X:Cx}{o e value:Expr}{f:Str}{pos pos' tpos:Pos}{ta tv:TE}
theorem vo_ (he:PE X e ta)(hb:attributeBase e f X.env (eval e X.env)=eval e X.env):PE X (.Attribute e f pos) (tFld X.K ta f):=by
 intro pins s σ H Q I h
 refine jvy_ hb (thn (he pins s σ H _ I h) fun u s1 ⟨x,H1,I1,rx,a,C,dx,fs,v,ex,ea,c,n,l,q⟩=>?_)
 subst ex
 obtain rfl:u=Value.ref a:=rx
 exact jjs_ I1 ea c n l fun u' s2 I2 ru=>⟨v,H1,I2,ru,q⟩
theorem jlz_ (ha:PE X o ta)(hv:PE X value tv)(hs:swapsWith value (some (.Attribute o f pos')) pos.line X.env=pure false):PS X (.Assign [.Attribute o f pos'] value pos) (sFld X.K ta tv f):=by
 intro pins s σ H D I h
 refine plainObj_wpAny_Assign_Attribute (thn (hv pins s σ H _ I h) fun u s1 ⟨y,H1,I1,ry,q⟩=>thn (ha pins s1 σ H1 _ I1 q) fun ov s2 ⟨x,H2,I2,rx,a,C,dx,fs,ex,ea,c,n,l,q2⟩=>?_) hs
 subst ex
 obtain rfl:ov=Value.ref a:=rx
 exact jkg_ I2 ea c n l ry fun s3 I3=>⟨σ,_,I3,q2⟩
theorem jwx_ {pl:Sem Bool}{m:Str}{apos:Pos}{args:List Expr}{pins:List (Addr×Obj)}{s:Shared}{σ:St}{H:Hp}{Q:Value->Shared->Prop}{te:TE}(he:PE X e te)(I:Inv X pins σ H s)
  (h:te σ H fun x H1=>∃ a C dx fs g,x=.ref a/\H1 a=some (.ins C dx fs)/\Cls X.K C/\Meth X.K C m g/\fs.lookup m=none /\
   ∀ s1,Inv X pins σ H1 s1->wpAny (model X.prog X.w) X.A (callWith pos (.ref g) [.ref a] (backTo pos (starEach args X.env)) (backToKw pos (keywordEach [] X.env))) Q X.xe s1)
  (ht:eval (.Call (.Attribute e m apos) args [] pos) X.env=(do
   let ov <- eval e X.env
   standAt apos.atName
   let (f,first) <- holding [ov] (getMethod ov m pl)
   callWith pos f first (backTo pos (starEach args X.env)) (backToKw pos (keywordEach [] X.env)))) :
  wpAny (model X.prog X.w) X.A (eval (.Call (.Attribute e m apos) args [] pos) X.env) Q X.xe s:=by
 refine la_ (pl:=pl) (thn (he pins s σ H _ I h) fun u s1 ⟨x,H1,I1,rx,a,C,dx,fs,g,ex,ea,c,k,l,q⟩=>?_) ht
 subst ex
 obtain rfl:u=Value.ref a:=rx
 exact jcx_ I1 ea c k l (q s1 I1)
end
section
variable {X:Cx}{pins:List (Addr×Obj)}{σ:St}{H:Hp}{s:Shared}{A:Around}{E:Value->Shared->Prop}{Q:Value->Shared->Prop}{c:Value}{b:Bool}
inductive TyOf (K:pc_) (H:Hp):V->Value->Prop where
 | non:TyOf K H .non (.type "NoneType")
 | bl (x:Bool):TyOf K H (.bl x) (.type "bool")
 | int (i:Int):TyOf K H (.int i) (.type "int")
 | str (x:Str):TyOf K H (.str x) (.type "str")
 | flt (x:UInt64):TyOf K H (.flt x) (.type "float")
 | lst {a:Addr}{xs:List V} (e:H a=some (.lst xs)):TyOf K H (.ref a) (.type "list")
 | frz {a:Addr}{o:Obj}{xs:List V} (e:H a=some (.frz o (.lst xs))):TyOf K H (.ref a) (.type "list")
 | tup {a:Addr}{xs:List V} (e:H a=some (.tup xs)):TyOf K H (.ref a) (.type "tuple")
 | dK {a:Addr}{kvs:List (Key×V)} (e:H a=some (.dK kvs)):TyOf K H (.ref a) (.type "dict")
 | dT {a:Addr}{kvs:List (List Key×V)} (e:H a=some (.dT kvs)):TyOf K H (.ref a) (.type "dict")
 | ins {a C dx:Addr}{fs:List (Str×V)} (e:H a=some (.ins C dx fs)) (cl:Cls K C) (ha:qp_ K (.ref C) "__class__"=some (some (.builtin "object.__class__")))
   (hn:l4_ K (.builtin "object.__class__") "__get__"=some (some (.builtin "getset_descriptor.__get__"))) (htk:PySem.W.takesIn K (.builtin "object.__class__")=some true)
   (hm:PySem.W.mroIn K C (.type "object")=some true):TyOf K H (.ref a) (.ref C)
end
end L2
namespace L2
open PySem PySem.Spec PyProof.Rows
structure Room (k:Nat)(A:Around):Prop where
 hd:A.handled=none
 dp:A.depth+3 * k+5 < recursionLimit
 un:A.units+16 * k+200 < cLine
theorem Room.mono {j k:Nat}{A:Around}(r:Room k A)(h:j<=k):Room j A:=⟨r.hd,by have:=r.dp;omega,by have:=r.un;omega⟩
theorem Room.deeper {k:Nat}{A:Around}(r:Room (k+1) A)(env:Env):Room k (A.deeper env) :=
 ⟨r.hd,by have:=r.dp;show A.depth+1+3 * k+5 < _;omega,by have:=r.un;show A.units+3+16 * k+200 < _;omega⟩
theorem jlw_ {A:Around}{C:Addr}{us:List Value}{kw:List (Str×Value)}:(A.under (.builtin "type.__call__" ⟨.ref C::us,kw⟩)).depth=A.depth+1:=by
 first | rfl | simp[l8_,Code.weight,Code.isCreation,Code.isGuard,Code.isCaller,Code.frames,l9_,guardIds]
theorem jkz_ {A:Around}{C:Addr}{us:List Value}{kw:List (Str×Value)}:(A.under (.builtin "type.__call__" ⟨.ref C::us,kw⟩)).units=A.units+1:=by
 first | rfl | simp[l8_,Code.cUnits,Code.frames,l9_]
theorem Room.make {k:Nat}{A:Around}(r:Room (k+1) A)(C:Addr)(us:List Value)(kw:List (Str×Value)):Room k (A.under (.builtin "type.__call__" ⟨.ref C::us,kw⟩)) :=
 ⟨r.hd,by have:=r.dp;rw[jlw_];omega,by have:=r.un;rw[jkz_];omega⟩
theorem Room.depth {k:Nat}{A:Around}(r:Room k A):A.depth < recursionLimit:=by have:=r.dp;omega
theorem Room.units {k:Nat}{A:Around}(r:Room k A):A.units+64 < cLine:=by have:=r.un;omega
def tNil:TA:=fun _ H Q=>Q [] H
def ye_ (ta:TE)(tr:TA):TA:=fun σ H Q=>ta σ H fun x H1=>tr σ H1 fun xs H2=>Q (x::xs) H2
section
variable {X:Cx}{e:Expr}{es:List Expr}{te:TE}{t:TA}{pos:Pos}
theorem jc_:PA X [] tNil:=fun _ _ _ _ H Q I h=>sm_ ⟨[],H,I,.nil,h⟩
theorem ja_ (ha:PE X e te)(hr:PA X es t)(hs:starEach (e::es) X.env=(false,eval e X.env)::starEach es X.env:=by rfl):PA X (e::es) (ye_ te t):=by
 intro pos pins s σ H Q I h
 rw[hs]
 show wpAny _ _ (spliced ((false,eval e X.env)::backTo pos (starEach es X.env))) _ _ s
 refine rn_ (thn (ha pins s σ H _ I h) fun u s1 ⟨x,H1,I1,r1,q1⟩=>?_)
 exact thn (hr pos pins s1 σ H1 _ I1 q1) fun us s2 ⟨xs,H2,I2,r2,q2⟩=>⟨x::xs,H2,I2,.cons r1 r2,q2⟩
def tTup (t:TA):TE:=fun σ H Q=>t σ H fun xs H1=>xs.length<=sizeLine/\∀ p,H1 p=none->Q (.ref p) (upd H1 p (.tup xs))
def tLst (t:TA):TE:=fun σ H Q=>t σ H fun xs H1=>xs.length<=sizeLine/\∀ p,H1 p=none->Q (.ref p) (upd H1 p (.lst xs))
theorem zx_ {x1}(h:PA X es t):PE X (.Tuple es x1 pos) (tTup t):=by
 intro pins s σ H Q I hq
 refine wpAny_Tuple_spliced (thn (h pos pins s σ H _ I hq) fun us s1 ⟨xs,H1,I1,r,z,q⟩=>⟨by rw[<- r.length];exact z,?_⟩)
 have hf:H1 s1.heap.objs.size=none:=I1.hok.fresh (pm_ _)
 refine⟨.ref s1.heap.objs.size,upd H1 s1.heap.objs.size (.tup xs),I1.laid (t':=s1.toks) (fun b u e=>pi_ _ e) (pm_ _) ?_,rfl,q _ hf⟩
 exact⟨z,us,r,⟨_,px_ _ rfl,rfl,_,rfl⟩,DcN.new _ _⟩
theorem j6_ (h:PA X es t):PE X (.List es pos) (tLst t):=by
 intro pins s σ H Q I hq
 refine wpAny_List_spliced (thn (h pos pins s σ H _ I hq) fun us s1 ⟨xs,H1,I1,r,z,q⟩=>⟨by rw[<- r.length];exact z,?_⟩)
 have hf:H1 s1.heap.objs.size=none:=I1.hok.fresh (pm_ _)
 refine⟨.ref s1.heap.objs.size,upd H1 s1.heap.objs.size (.lst xs),I1.laid (t':=s1.toks) (fun b u e=>pi_ _ e) (pm_ _) ?_,rfl,q _ hf⟩
 exact⟨z,us,0,r,px_ _ rfl⟩
end
abbrev Sp:=List V->Hp->VK->XK->Prop
abbrev CXT:=List Env->Hp->Shared->XK->Value->Shared->Prop
structure Env0 (P:Program)(w:World)(K:pc_)(mg:Str->Option Value)(base:Heap)(A:Around)(outer:List Env)(s:Shared)(H:Hp):Prop where
 frames:A.frames=some outer
 mod:Mod K mg base
 bs:∀ b o,base.get? b=some o->s.heap.get? b=some o/\H b=none
 bsz:base.objs.size<=s.heap.objs.size
 funs:s.heap.FunFrames base outer
 frf:∀ b∈frs outer,H b=none
 hok:HOk P w H s.heap
 bare:AllBare s.gens
noncomputable def CE (outer:List Env)(P:Program)(w:World)(H:Hp)(s:Shared)(Q:VK)(u:Value)(s':Shared):Prop :=
 ∃ v H',s'.os=s.os/\AllBare s'.gens/\Un (frs outer) [] H H' s.heap s'.heap/\HOk P w H' s'.heap/\RelV v u/\Q v H'
noncomputable def CR (CX:CXT)(outer:List Env)(P:Program)(w:World)(H:Hp)(s:Shared)(Q:VK)(E:XK)(r:Result)(s':Shared):Prop :=
 match r with
 | .ok (.ret u)=>CE outer P w H s Q u s'
 | .ok _=>False
 | .error e=>CX outer H s E e s'
structure FnOk (P:Program)(w:World)(K:pc_)(mg:Str->Option Value)(base:Heap)(CX:CXT)(k:Nat)(f:Addr)(fd:FuncData)(ps:List Str)(sp:Sp):Prop where
 len:∀ vs H Q E,sp vs H Q E->vs.length=ps.length
 run:∀(A:Around) (outer:List Env) (s:Shared) (H:Hp) (args:Args) (us:List Value) (vs:List V) (Q:VK) (E:XK),Room k A->Env0 P w K mg base A outer s H->BindsTo s fd args (ps.zip us)->Vals vs us->sp vs H Q E ->
  codeAny (model P w) A (.call (.ref f) args) (CR CX outer P w H s Q E) s
theorem Env0.make {P:Program}{w:World}{K:pc_}{mg:Str->Option Value}{base:Heap}{A:Around}{outer:List Env}{s:Shared}{H:Hp}(e:Env0 P w K mg base A outer s H)(C:Addr)(us:List Value)(kw:List (Str×Value)) :
  Env0 P w K mg base (A.under (.builtin "type.__call__" ⟨.ref C::us,kw⟩)) outer s H:=⟨by first | exact e.frames | (simpa [l8_,Code.envs,l9_,pushEnvs] using e.frames),e.mod,e.bs,e.bsz,e.funs,e.frf,e.hok,e.bare⟩
section
variable {X:Cx}{pins:List (Addr×Obj)}{σ:St}{H:Hp}{s s':Shared}
theorem Inv.env0 (I:Inv X pins σ H s):Env0 X.prog X.w X.K X.mg X.base X.A X.stack s H :=
 ⟨I.ok.frames,I.ok.mod,I.bs,p7_ I.ok.bsz I.sz,I.stack,I.stkFree,I.hok,I.bare⟩
theorem Inv.after {Q:VK}{u:Value}(I:Inv X pins σ H s)(h:CE X.stack X.prog X.w H s Q u s'):EP X pins σ Q u s':=by
 obtain⟨v,H',os,bare,un,hok,r,q⟩:=h
 obtain⟨hh,g,d,t,os'⟩:=s'
 obtain rfl:os'=s.os:=os
 exact⟨v,H',I.call (h':=hh) (g':=g) (d':=d) (t':=t) (ch:=[]) un hok bare (fun b z=>absurd z (by simp)),r,q⟩
end
def jfg_ (sp:Sp)(dvs:List V)(E:XK)(t:TA):TE:=fun σ H Q=>t σ H fun vs H1=>sp (vs++dvs) H1 Q E
def jsz_ (C:Addr)(m:Str)(sp:Sp)(dvs:List V)(E:XK)(ta:TE)(t:TA):TE:=fun σ H Q=>ta σ H fun x H1=>∃ a dx fs,x=.ref a/\H1 a=some (.ins C dx fs)/\fs.lookup m=none /\
 t σ H1 fun vs H2=>sp (x::(vs++dvs)) H2 Q E
def jtb_ (C:Addr)(sp:Sp)(dvs:List V)(E:XK)(t:TA):TE:=fun σ H Q=>t σ H fun vs H1=>∀ x dx,H1 x=none->H1 dx=none->dx≠x ->
 sp (.ref x::(vs++dvs)) (upd (upd H1 dx (.own x)) x (.ins C dx [])) (fun v H2=>v=.non/\Q (.ref x) H2) E
noncomputable def Binds (K:pc_)(fd:FuncData)(ps:List Str)(ds:List Value):Prop :=
 ∀(s:Shared) (us:List Value),K.In s.heap->(us++ds).length=ps.length->BindsTo s fd ⟨us,[]⟩ (ps.zip (us++ds))
theorem Binds.all {K:pc_}{fd:FuncData}{ps:List Str}(h:∀ us:List Value,us.length=ps.length->bindArgs fd ⟨us,[]⟩=pure (ps.zip us)):Binds K fd ps []:=fun s us _ hl=>by
 rw[qk_] at hl ⊢
 exact .of_eq (h us hl)
def jbb_ (CX:CXT)(X:Cx)(E:XK):Prop:=∀(pins:List (Addr×Obj)) (σ:St) (H:Hp) (s:Shared) (e:Value) (s':Shared),Inv X pins σ H s->CX X.stack H s E e s'->X.xe e s'
section
variable {X:Cx}{CX:CXT}{k:Nat}{f C:Addr}{fd:FuncData}{ps:List Str}{sp:Sp}{dvs:List V}{ds:List Value}{E:XK}{x m:Str}{p pos apos:Pos}{e o:Expr}{es:List Expr}{ta:TE}{t:TA}
theorem jtp_ {pins:List (Addr×Obj)}{σ:St}{H:Hp}{s:Shared}{Q:VK}{us:List Value}{vs:List V}(F:FnOk X.prog X.w X.K X.mg X.base CX k f fd ps sp)(hr:Room k X.A)(hb:Binds X.K fd ps ds)(hd:Vals dvs ds)(hx:jbb_ CX X E)
  (I:Inv X pins σ H s) (r:Vals vs us) (h:sp (vs++dvs) H Q E):wpAny (model X.prog X.w) X.A (call (.ref f) us) (EP X pins σ Q) X.xe s:=by
 have r2:Vals (vs++dvs) (us++ds):=r.append hd
 have hl:(us++ds).length=ps.length:=by rw[<- r2.length];exact F.len _ _ _ _ h
 refine wpAny_call (codeAny_mono (F.run X.A X.stack s H ⟨us,[]⟩ (us++ds) (vs++dvs) Q E hr I.env0 (hb s us I.kIn hl) r2 h) fun r s' hq=>?_)
 cases r with
 | error e=>exact hx pins σ H s e s' I hq
 | ok fl =>
  cases fl with
  | ret u=>exact I.after hq
  | next=>exact sc_ hq
  | brk=>exact sc_ hq
  | cont=>exact sc_ hq
theorem jug_ (F:FnOk X.prog X.w X.K X.mg X.base CX k f fd ps sp)(hr:Room k X.A)(hg:Gl X x)(hm:X.mg x=some (.ref f))(hk:si_ X.K (.ref f)=true)(hb:Binds X.K fd ps ds)(hd:Vals dvs ds)(hx:jbb_ CX X E)
  (ha:PA X (e::es) t) (hdb:(x == ("__debug__":Str))=false:=by decide) (he:starEach (e::es) X.env=(false,eval e X.env)::starEach es X.env:=by rfl) (hpl:(backTo pos (starEach es X.env)).any (·.1)=false:=by rfl) :
  PE X (.Call (.Name x p) (e::es) [] pos) (jfg_ sp dvs E t):=by
 intro pins s σ H Q I h
 refine wpAny_Call_Name_kw (jnb_ I hg hm ?_ hdb)
 refine w1_ (h₀:=X.base) I.ok.mod.kin hk (thn (ha pos pins s σ H _ I h) fun us s1 ⟨vs,H1,I1,r,q⟩=>⟨I1.kIn,?_⟩) he hpl
 exact jtp_ F hr hb hd hx I1 r q
theorem jwc_ {pl:Sem Bool}(he:PE X o ta)(c:Cls X.K C)(hm:Meth X.K C m f)(F:FnOk X.prog X.w X.K X.mg X.base CX k f fd ps sp)(hr:Room k X.A)(hb:Binds X.K fd ps ds)(hd:Vals dvs ds)(hx:jbb_ CX X E)(ha:PA X (e::es) t)
  (hst:starEach (e::es) X.env=(false,eval e X.env)::starEach es X.env:=by rfl) (hpl:(backTo pos (starEach es X.env)).any (·.1)=false:=by rfl)
  (ht:eval (.Call (.Attribute o m apos) (e::es) [] pos) X.env=(do
   let ov <- eval o X.env
   standAt apos.atName
   let (f,first) <- holding [ov] (getMethod ov m pl)
   callWith pos f first (backTo pos (starEach (e::es) X.env)) (backToKw pos (keywordEach [] X.env))):=by rfl) :
  PE X (.Call (.Attribute o m apos) (e::es) [] pos) (jsz_ C m sp dvs E ta t):=by
 intro pins s σ H Q I h
 refine la_ (pl:=pl) (thn (he pins s σ H _ I h) fun u s1 ⟨x,H1,I1,rx,a,dx,fs,ex,ea,l,q⟩=>?_) ht
 subst ex
 obtain rfl:u=Value.ref a:=rx
 refine jcx_ I1 ea c hm l ?_
 refine w1_ (first:=[.ref a]) (h₀:=X.base) I.ok.mod.kin hm.kp (thn (ha pos pins s1 σ H1 _ I1 q) fun us s2 ⟨vs,H2,I2,r,q2⟩=>⟨I2.kIn,?_⟩) hst hpl
 exact jtp_ (us:=.ref a::us) (vs:=.ref a::vs) F hr hb hd hx I2 (.cons rfl r) q2
structure Mk (K:pc_)(C f:Addr):Prop where
 makes:k9_ K C=true
 init:qp_ K (.ref C) "__init__"=some (some (.ref f))
 fn:t7_ K (.ref f)=true
 kp:si_ K (.ref C)=true
theorem jri_ {pins:List (Addr×Obj)}{σ:St}{H:Hp}{s:Shared}{Q:VK}{us:List Value}{vs:List V}(M:Mk X.K C f)(F:FnOk X.prog X.w X.K X.mg X.base CX k f fd ps sp)(hr:Room (k+1) X.A)(hb:Binds X.K fd ps ds)(hd:Vals dvs ds)
  (hx:jbb_ CX X E) (I:Inv X pins σ H s) (r:Vals vs us)
  (h:∀ x dx,H x=none->H dx=none->dx≠x->sp (.ref x::(vs++dvs)) (upd (upd H dx (.own x)) x (.ins C dx [])) (fun v H2=>v=.non/\Q (.ref x) H2) E) :
  wpAny (model X.prog X.w) X.A (call (.ref C) us) (EP X pins σ Q) X.xe s:=by
 have hq:=h (s.heap.objs.size+1) s.heap.objs.size (I.hok.fresh (ls_ _)) (I.hok.fresh (pm_ _)) (qg_ (sw_ _))
 have I2:=Inv.made (C:=C) I
 have r2:Vals (V.ref (s.heap.objs.size+1)::(vs++dvs)) (Value.ref (s.heap.objs.size+1)::(us++ds)):=.cons rfl (r.append hd)
 have hl:(Value.ref (s.heap.objs.size+1)::us++ds).length=ps.length:=by
  have e:=r2.length
  rw[F.len _ _ _ _ hq] at e
  exact e.symm
 refine wpAny_call (jrq_ (f:=f) I.kIn M.makes M.init (beq_iff_eq.mp M.fn) (codeAny_mono (F.run _ X.stack _ _ ⟨Value.ref (s.heap.objs.size+1)::us,[]⟩ (Value.ref (s.heap.objs.size+1)::(us++ds)) _ _ E (hr.make C us [])
  (I2.env0.make C us []) (hb _ (Value.ref (s.heap.objs.size+1)::us) I2.kIn hl) r2 hq) fun r s' hq'=>?_))
 cases r with
 | error e=>exact hx pins σ _ _ e s' I2 hq'
 | ok fl =>
  cases fl with
  | ret u =>
   obtain⟨v,H',I3,rv,ev,q3⟩:=I2.after hq'
   subst ev
   exact⟨rv,⟨V.ref (s.heap.objs.size+1),H',I3,rfl,q3⟩⟩
  | next=>exact sc_ hq'
  | brk=>exact sc_ hq'
  | cont=>exact sc_ hq'
theorem jvl_ (M:Mk X.K C f)(F:FnOk X.prog X.w X.K X.mg X.base CX k f fd ps sp)(hr:Room (k+1) X.A)(hg:Gl X x)(hm:X.mg x=some (.ref C))(hb:Binds X.K fd ps ds)(hd:Vals dvs ds)(hx:jbb_ CX X E)
  (ha:PA X (e::es) t) (hdb:(x == ("__debug__":Str))=false:=by decide) (he:starEach (e::es) X.env=(false,eval e X.env)::starEach es X.env:=by rfl) (hpl:(backTo pos (starEach es X.env)).any (·.1)=false:=by rfl) :
  PE X (.Call (.Name x p) (e::es) [] pos) (jtb_ C sp dvs E t):=by
 intro pins s σ H Q I h
 refine wpAny_Call_Name_kw (jnb_ I hg hm ?_ hdb)
 refine w1_ (h₀:=X.base) I.ok.mod.kin M.kp (thn (ha pos pins s σ H _ I h) fun us s1 ⟨vs,H1,I1,r,q⟩=>⟨I1.kIn,?_⟩) he hpl
 exact jri_ M F hr hb hd hx I1 r q
end
section
variable {X:Cx}{CX:CXT}{k:Nat}{f C:Addr}{fd:FuncData}{ps ks:List Str}{sp:Sp}{E:XK}{x m:Str}{p pos apos kpos:Pos}{e o:Expr}{es:List Expr}{kws:List Keyword}{te ta:TE}{t tk:TA}{nm:Option Str}
structure KBinds (K:pc_)(fd:FuncData)(ps ks:List Str)(g:List Value->List Value->List Value)(gV:List V->List V->List V):Prop where
 to:∀(s:Shared) (us ws:List Value),K.In s.heap->(g us ws).length=ps.length->BindsTo s fd ⟨us,ks.zip ws⟩ (ps.zip (g us ws))
 rel:∀{vs:List V}{us:List Value}{zs:List V}{ws:List Value},Vals vs us->Vals zs ws->Vals (gV vs zs) (g us ws)
variable {g:List Value->List Value->List Value}{gV:List V->List V->List V}
end
structure FnScope (N P:List Str)(sc:Scope):Prop where
 kind:sc.kind=.function
 co:sc.isCoroutine=false
 gen:sc.isGenerator=false
 nd:N.Nodup
 pre:N.take P.length=P
 par:∀ x∈P,sc.names.lookup x=some .local∨sc.names.lookup x=some .cell
 nofree:∀ y∈sc.names,y.2≠.free
theorem jey_ {kindOf:Str->Option NameKind}{x:Str}:∀{binds:List (Str×Value)}{m:Str->Option Value},(∀ v,(x,v)∉binds)->bindL kindOf binds m x=m x
 | [],_,_=>rfl
 | (n,v)::r,m,h=>by
  unfold bindL
  rw[jey_ fun w hw=>h w (pl_ _ hw)]
  split
  ·have:x≠n:=by rintro rfl;exact h v pn_
   simp[this]
  ·rfl
theorem jer_ {kindOf:Str->Option NameKind}{x:Str}:∀{binds:List (Str×Value)}{m:Str->Option Value},(∀ v,(x,v)∉binds)->bindC kindOf binds m x=m x
 | [],_,_=>rfl
 | (n,v)::r,m,h=>by
  unfold bindC
  rw[jer_ fun w hw=>h w (pl_ _ hw)]
  split
  ·rfl
  ·have:x≠n:=by rintro rfl;exact h v pn_
   simp[this]
theorem jfu_ {kindOf:Str->Option NameKind}{x:Str}{v:Value}:∀{P:List Str}{vs:List Value}{i:Nat}{m:Str->Option Value},P.Nodup->P[i]?=some x->vs[i]?=some v->kindOf x=some .local ->
  bindL kindOf (P.zip vs) m x=some v
 | [],_,_,_,_,h,_,_=>by simp at h
 | _::_,[],_,_,_,_,h,_=>by simp at h
 | p::P,w::vs,0,m,nd,h1,h2,hk=>by
  simp at h1 h2;subst h1;subst h2
  show bindL kindOf ((p,w)::P.zip vs) m p=_
  unfold bindL
  rw[jey_ fun v hv=>(rd_.mp nd).1 (lb_ hv).1,if_pos hk]
  simp
 | p::P,w::vs,i+1,m,nd,h1,h2,hk=>by
  show bindL kindOf ((p,w)::P.zip vs) m x=_
  unfold bindL
  exact jfu_ (i:=i) (rd_.mp nd).2 (by simpa using h1) (by simpa using h2) hk
theorem jev_ {kindOf:Str->Option NameKind}{x:Str}{v:Value}:∀{P:List Str}{vs:List Value}{i:Nat}{m:Str->Option Value},P.Nodup->P[i]?=some x->vs[i]?=some v->kindOf x≠some .local ->
  bindC kindOf (P.zip vs) m x=some v
 | [],_,_,_,_,h,_,_=>by simp at h
 | _::_,[],_,_,_,_,h,_=>by simp at h
 | p::P,w::vs,0,m,nd,h1,h2,hk=>by
  simp at h1 h2;subst h1;subst h2
  show bindC kindOf ((p,w)::P.zip vs) m p=_
  unfold bindC
  rw[jer_ fun v hv=>(rd_.mp nd).1 (lb_ hv).1,if_neg hk]
  simp
 | p::P,w::vs,i+1,m,nd,h1,h2,hk=>by
  show bindC kindOf ((p,w)::P.zip vs) m x=_
  unfold bindC
  exact jev_ (i:=i) (rd_.mp nd).2 (by simpa using h1) (by simpa using h2) hk
noncomputable def start (N:List Str)(vs:List V):St:=vs.map some++pg_ (N.length - vs.length) none
noncomputable def cxOf (CX:CXT)(P:Program)(w:World)(K:pc_)(mg:Str->Option Value)(base:Heap)(N:List Str)(qual:Str)(scope:Scope)(f:Addr)(cd:Value)(A:Around)(outer:List Env)(s:Shared)(H:Hp)(E:XK):Cx where
 prog:=P
 w:=w
 K:=K
 mg:=mg
 base:=base
 A:=A.deeper (envOfC qual scope s.heap.objs.size f cd)
 N:=N
 s₀:=s
 H₀:=H
 env:=envOfC qual scope s.heap.objs.size f cd
 outer:=outer
 stack:=envOfC qual scope s.heap.objs.size f cd::outer
 ex:=[]
 calm:=true
 fn:=fun _=>true
 pn:=[]
 xe:=fun e s'=>wpAny (model P w) (A.deeper (envOfC qual scope s.heap.objs.size f cd)) (leaving (envOfC qual scope s.heap.objs.size f cd) e) (fun _ s''=>CX outer H s E e s'') (fun e' s''=>CX outer H s E e' s'') s'
theorem jjk_ {sc:Scope}{n:Nat}{x:Str}(h:sc.names.lookup x=some .cell):∃ c,(cellsFrom n sc.names []).lookup x=some c:=by
 have q:=k3_ sc.names n [] (.inl h)
 exact Option.isSome_iff_exists.mp q
theorem joe_ {CX:CXT}{P:Program}{w:World}{K:pc_}{mg:Str->Option Value}{base:Heap}{N ps:List Str}{qual:Str}{scope:Scope}{f:Addr}{cd:Value}{A:Around}{outer:List Env}{s s1:Shared}{H:Hp}{E:XK}{us:List Value}{vs:List V}
  (S:FnScope N ps scope) (hd:A.handled=none) (e0:Env0 P w K mg base A outer s H) (hl:vs.length=ps.length) (r:Vals vs us)
  (x:InCallC s s.heap.objs.size (bindL (envOfC qual scope s.heap.objs.size f cd).kindOf (ps.zip us) fun _=>none) (cellsFrom (s.heap.objs.size+1) scope.names []) (bindC (envOfC qual scope s.heap.objs.size f cd).kindOf (ps.zip us) fun _=>none) s1) :
  Inv (cxOf CX P w K mg base N qual scope f cd A outer s H E) [] (start N vs) H s1:=by
 have hpl:ps.length<=N.length:=by have:=congrArg tx_ S.pre;rw[pw_] at this;omega
 obtain⟨h1,tk,rfl,hk⟩:=x.done
 have noA:∀ b:Addr,b∉(cxOf CX P w K mg base N qual scope f cd A outer s H E).ex:=fun b z=>absurd (show b∈([]:List Addr) from z) (by simp)
 refine⟨⟨e0.mod,S.kind,rfl,rfl,pm_ _,fun y z c h1 h2=>?_,fun y hy=>?_,fun y c _ h=>?_,fun _=>hd,Around.frames_deeper e0.frames,.inr ⟨rfl,rfl⟩,fun b z=>absurd z (noA b),e0.bs,e0.bsz,fun b _ _=>noA b,fun b z=>absurd z (noA b),e0.funs,e0.frf⟩,
  rfl,e0.bare,Un.kept hk,⟨_,x.toInCall.ns,fun i y v h1 h2 h3=>?_⟩,fun y c h=>⟨_,x.cell y c h⟩,e0.hok.fresh (pm_ _),fun y c h=>?_,fun p hp=>absurd (show p∈([]:List (Addr×Obj)) from hp) (by simp),e0.hok.kept hk,?_⟩
 ·exact name_of_addr x.apart (su_ h1) (su_ h2)
 ·have hy:scope.names.lookup y=some .cell∨scope.names.lookup y=some .free:=hy
  rcases hy with hy | hy
  ·exact jjk_ hy
  ·exact absurd rfl (S.nofree _ (su_ hy))
 ·exact s0_ (x.above y c (su_ h))
 ·have hi:i < vs.length:=by
   unfold start at h2
   by_cases hi:i < vs.length
   ·exact hi
   ·rw[rb_ (by simpa using hi)] at h2
    rw[tj_] at h2
    split at h2 <;> cases h2
  have ha:vs[i]?=some v:=by
   unfold start at h2
   rw[rw_ (by simpa using hi),pf_] at h2
   cases e:vs[i]? with
   | none=>rw[e] at h2;cases h2
   | some a=>rw[e] at h2;cases h2;rfl
  obtain⟨u,hu,rv⟩:=r.get ha
  have hp:ps[i]?=some y:=by
   rw[<- S.pre,kf_ (by omega)];exact h1
  have ndP:ps.Nodup:=by rw[<- S.pre];exact S.nd.sublist (List.take_sublist _ _)
  refine⟨u,rv,?_⟩
  rcases S.par y (s6_ hp) with k | k
  ·exact .inl ⟨k,jfu_ ndP hp hu k⟩
  ·obtain⟨c,e⟩:=jjk_ (n:=s.heap.objs.size+1) k
   refine .inr ⟨.inl k,c,e,?_⟩
   have q:=x.cell y c e
   rw[jev_ ndP hp hu (by show scope.names.lookup y≠_;rw[k];decide)] at q
   exact q
 ·exact e0.hok.fresh (s0_ (x.above y c (su_ h)))
 ·unfold start
  show _=N.length
  rw[pe_,pb_,q9_]
  omega
theorem fn_of {CX:CXT}{P:Program}{w:World}{K:pc_}{mg:Str->Option Value}{base:Heap}{k:Nat}{f:Addr}{name qual:Str}{params:Arguments}{body:List Stmt}{scope:Scope}{dV kV doc pm cdv ct oc:Value}{an od:Option Addr}
  {osl:Array (Option Value)}{N ps:List Str}{sp:Sp} (lk:K.lookup f=some ⟨oc,od,.func (s2_ name qual params body scope dV kV doc pm an cdv ct),osl⟩) (hcd:w7_ K cdv qual=true) (S:FnScope N ps scope)
  (len:∀ vs H Q E,sp vs H Q E->vs.length=ps.length)
  (hbody:∀(A:Around) (outer:List Env) (s:Shared) (H:Hp) (vs:List V) (Q:VK) (E:XK),Room k (A.deeper (envOfC qual scope s.heap.objs.size f cdv))->sp vs H Q E ->
   ∃ t,PSs (cxOf CX P w K mg base N qual scope f cdv A outer s H E) body t/\t { nx:=fun _ H'=>Q .non H',rt:=Q } (start N vs) H) :
  FnOk P w K mg base CX (k+1) f (s2_ name qual params body scope dV kV doc pm an cdv ct) ps sp:=by
 refine⟨len,fun A outer s H args us vs Q E hr e0 hb r hsp=>?_⟩
 have hl:=len _ _ _ _ hsp
 have KX:K.In s.heap:=e0.mod.kin.keeps fun b o e=>(e0.bs b o e).1
 have lim:s.heap.NoLimit:=e0.mod.nolimit.keeps fun b o e=>(e0.bs b o e).1
 have hkind:∀ y∈ps.zip us,scope.names.lookup y.1=some .local∨(scope.names.lookup y.1=some .cell/\((cellsFrom (s.heap.objs.size+1) scope.names []).lookup y.1).isSome=true):=fun⟨n,v⟩ hy=>by
  rcases S.par n (lb_ hy).1 with q | q
  ·exact .inl q
  ·exact .inr ⟨q,k3_ _ _ _ (.inl q)⟩
 refine codeAny_call_function hr.depth (KX _ _ lk) rfl S.co S.gen rfl (PySem.W.codeRec_of KX hcd) (hb _ _ _ _ ?_)
 refine wpAny_newFunctionEnv_cells S.kind hkind fun env he s1 x=>?_
 subst he
 refine⟨lim.keeps x.toInCall.keep,codeAny_func ?_⟩
 obtain⟨t,ht,hq⟩:=hbody A outer s H vs Q E (hr.deeper _) hsp
 have I:Inv (cxOf CX P w K mg base N qual scope f cdv A outer s H E) [] (start N vs) H s1:=joe_ S hr.hd e0 hl r x
 refine wpAny_mono (ht [] s1 (start N vs) H _ I hq) (fun fl s' hs=>?_) fun e s' hs=>hs
 have fin:∀{σ':St}{H':Hp}{v:V}{u:Value},Inv (cxOf CX P w K mg base N qual scope f cdv A outer s H E) [] σ' H' s'->RelV v u->Q v H'->CE outer P w H s Q u s' :=
  fun{σ' H' v u} J rv q=>⟨v,H',J.os,J.bare,J.base,J.hok,rv,q⟩
 cases fl with
 | ret u =>
  obtain⟨v,σ',H',J,rv,q⟩:=hs
  exact fin J rv q
 | next =>
  obtain⟨σ',H',J,q⟩:=hs
  exact fin (v:=V.non) (u:=Value.none) J rfl q
 | brk =>
  obtain⟨_,_,_,q⟩:=hs
  exact sc_ q
 | cont =>
  obtain⟨_,_,_,q⟩:=hs
  exact sc_ q
end L2
namespace L2
open PySem PySem.Spec PyProof.Rows
section
variable {X:Cx}{x:Str}{p pos:Pos}{e:Expr}{es:List Expr}{t:TA}{id T:String}{r:List V->Hp->VK->Prop}
def tCB (r:List V->Hp->VK->Prop)(t:TA):TE:=fun σ H Q=>t σ H fun vs H1=>r vs H1 Q
theorem jo_ (hc:CallR X (.builtin id) r)(hg:Gl X x)(hm:X.mg x=none)(hv:bootBuiltins x=some (.builtin id))(ha:PA X (e::es) t)(hn:x≠"__name__":=by decide)(hdb:(x == ("__debug__":Str))=false:=by decide)
  (he:starEach (e::es) X.env=(false,eval e X.env)::starEach es X.env:=by rfl) (hpl:(backTo pos (starEach es X.env)).any (·.1)=false:=by rfl):PE X (.Call (.Name x p) (e::es) [] pos) (tCB r t):=by
 intro pins s σ H Q I h
 refine wpAny_Call_Name_kw (x8_ I hg hm hv ?_ hn hdb)
 exact PyProof.Rows.callWith_builtin1 (thn (ha pos pins s σ H _ I h) fun us s1 ⟨vs,H1,I1,r1,q1⟩=>hc pins s1 σ H1 vs us Q I1 r1 q1) he hpl
theorem zk_ (hc:CallR X (.type T) r)(hg:Gl X x)(hm:X.mg x=none)(hv:bootBuiltins x=some (.type T))(ha:PA X (e::es) t)(hn:x≠"__name__":=by decide)(hdb:(x == ("__debug__":Str))=false:=by decide)
  (he:starEach (e::es) X.env=(false,eval e X.env)::starEach es X.env:=by rfl) (hpl:(backTo pos (starEach es X.env)).any (·.1)=false:=by rfl):PE X (.Call (.Name x p) (e::es) [] pos) (tCB r t):=by
 intro pins s σ H Q I h
 refine wpAny_Call_Name_kw (x8_ I hg hm hv ?_ hn hdb)
 exact rm_ (thn (ha pos pins s σ H _ I h) fun us s1 ⟨vs,H1,I1,r1,q1⟩=>hc pins s1 σ H1 vs us Q I1 r1 q1) he hpl
end
end L2
namespace HT
open PySem PyProof.Rows
section
open PySem.SeqAt
open PySem.AutoSeq1 (wpAny_loadPart')
open PySem.MeetsSeq PySem.MeetsSeq2 PySem.MeetsSeq3
end
section
variable {prog:Program}{w:World}{A:Around}{E:Value->Shared->Prop}{s:Shared}
theorem cat_tup {t b:Addr}{vs ws:List Value}{Q:Value->Shared->Prop}(ht:IsTup s.heap t vs.toArray)(hb:IsTup s.heap b ws.toArray)(hv:vs≠[])
  (h1:ws=[]->Q (.ref t) s) (h2:ws≠[]->Q (.ref s.heap.objs.size) { s with heap:=s.heap.push { cls:=.type "tuple",data:=.seq (vs++ws).toArray } })
  (hsz:vs.length+ws.length<=sizeLine):wpAny (model prog w) A (binaryOp .Add (.ref t) (.ref b)) Q E s:=by
 obtain⟨⟨cls,dd,data,sl⟩,ho,hc,n,hd⟩:=id ht
 obtain⟨⟨cls2,dd2,data2,sl2⟩,ho2,hc2,n2,hd2⟩:=id hb
 simp only at hc hd hc2 hd2
 subst hc hd hc2 hd2
 have e:vs.toArray++ws.toArray=(vs++ws).toArray:=by simp
 by_cases hw:ws=[]
 ·exact concat_meets ⟨_,ho,rfl⟩ ⟨_,ho2,rfl⟩ noFill_tuple_add seq_tuple_add k4_ kn_ (kg_ _ _)
   (tuple_addW1 t b vs.toArray ws.toArray n n2 dd dd2 sl sl2 (by simpa using hv) (by simp[hw])) ⟨ho,ho2,h1 hw⟩
 ·refine concat_meets ⟨_,ho,rfl⟩ ⟨_,ho2,rfl⟩ noFill_tuple_add seq_tuple_add k4_ kn_ (kg_ _ _)
   (tuple_addW2 t b vs.toArray ws.toArray n n2 dd dd2 sl sl2 (by simpa using hv) (by simpa using hw) (by rw[pp_,pp_];exact hsz)) ⟨ho,ho2,?_⟩
  rw[e]
  exact h2 hw
noncomputable def sIx (n d:Nat):Option Int->Nat
 | none=>d
 | some v=>if v < 0 then (v+(n:Int)).toNat else min v.toNat n
theorem jza_ (n d:Nat)(hd:d<=n)(o:Option Int):sIx n d o<=n:=by
 cases o with
 | none=>exact hd
 | some v =>
  show (if v < 0 then (v+(n:Int)).toNat else min v.toNat n)<=n
  by_cases hv:v < 0
  ·rw[if_pos hv];omega
  ·rw[if_neg hv];exact Nat.min_le_right _ _
theorem jna_ (v:Int)(n d:Nat):(if v < 0 then max (v+(n:Int)) 0 else min v (n:Int))=((sIx n d (some v):Nat):Int):=by
 show (if v < 0 then max (v+(n:Int)) 0 else min v (n:Int))=(((if v < 0 then (v+(n:Int)).toNat else min v.toNat n):Nat):Int)
 by_cases hv:v < 0
 ·simp only[if_pos hv];omega
 ·simp only[if_neg hv];omega
theorem jkj_ (lo hi:Option Int)(n:Nat):s9_ lo hi 1 (n:Int)=(((sIx n 0 lo:Nat):Int),((sIx n n hi:Nat):Int)):=by
 have h1:¬ ((1:Int) < 0):=by omega
 unfold s9_
 simp only[h1,if_false]
 refine Prod.ext ?_ ?_
 ·cases lo with
  | none=>rfl
  | some v=>exact jna_ v n 0
 ·cases hi with
  | none=>rfl
  | some v=>exact jna_ v n n
theorem jlq_ (i j:Nat):sj_ (i:Int) (j:Int) 1=j - i:=by
 unfold sj_
 have h1:(1:Int) > 0:=by omega
 simp only[h1,if_true,ma_]
 split <;> omega
theorem jcy_ {v:Value}{o:Option Int}{Q:Option Int->Shared->Prop}(p:IsPart v o)(h:Q o s):wpAny (model prog w) A (Builtin.Slice.slicePartIndex v) Q E s:=by
 cases p with
 | none=>exact slicePart_none h
 | int i t=>exact slicePart_int h
theorem jbc_ {sl:Addr}{vl vu:Value}{lo hi:Option Int}{n:Nat}{Q:Int×Int×Nat->Shared->Prop}(hs:s.heap.IsSliceOf sl vl vu .none)(pl:IsPart vl lo)(pu:IsPart vu hi)
  (h:Q (((sIx n 0 lo:Nat):Int),1,sIx n n hi - sIx n 0 lo) s):wpAny (model prog w) A (wx_ (.ref sl) (pure (n:Int))) Q E s:=by
 obtain⟨os,hos,hcs,hds⟩:=id hs
 unfold wx_ Builtin.Slice.sliceFields
 refine wpAny_bind (wpAny_bind (wpAny_field hos hds (x:=vl) rfl (wpAny_bind (wpAny_field hos hds (x:=vu) rfl (wpAny_bind (wpAny_field hos hds (x:=.none) rfl (wpAny_pure ?_)))))))
 refine wpAny_bind (slicePart_none ?_)
 show wpAny _ _ (if ((1:Int) == 0)=true then _ else _) _ _ s
 rw[if_neg (by decide)]
 refine wpAny_bind (jcy_ pl (wpAny_bind (jcy_ pu (wpAny_bind (wpAny_pure ?_)))))
 show wpAny _ _ (match s9_ lo hi 1 (n:Int) with | (lo,hi)=>pure (lo,(1:Int),sj_ lo hi 1)) _ _ s
 rw[jkj_ lo hi n]
 show wpAny _ _ (pure (((sIx n 0 lo:Nat):Int),(1:Int),sj_ ((sIx n 0 lo:Nat):Int) ((sIx n n hi:Nat):Int) 1)) _ _ s
 rw[jlq_]
 exact wpAny_pure h
theorem jtd_ (xs:Array Value)(i k:Nat):((po_ k).filterMap fun(m:Nat)=>xs[((i:Int)+(m:Int) * 1).toNat]?).toArray=((xs.toList.drop i).take k).toArray:=by
 have e:(fun(m:Nat)=>xs[((i:Int)+(m:Int) * 1).toNat]?)=fun m=>xs[i+m]?:=by
  funext m
  have:((i:Int)+(m:Int) * 1).toNat=i+m:=by omega
  rw[this]
 rw[e]
 have:=pick_run xs i k
 rw[List.filterMap_map] at this
 have e2:((fun x=>xs[x]?)∘fun x=>i+x)=fun m=>xs[i+m]?:=rfl
 rw[e2] at this
 rw[this]
theorem getItem_tuple_cut {t sl:Addr}{items:Array Value}{vl vu:Value}{lo hi:Option Int}{Q:Value->Shared->Prop}(ht:IsTup s.heap t items)(hs:s.heap.IsSliceOf sl vl vu .none)(pl:IsPart vl lo)(pu:IsPart vu hi)
  (hw:¬ (sIx items.size 0 lo=0/\sIx items.size items.size hi=items.size))
  (h:Q (.ref s.heap.objs.size) { s with heap:=s.heap.push { cls:=.type "tuple",data:=.seq ((items.toList.drop (sIx items.size 0 lo)).take (sIx items.size items.size hi - sIx items.size 0 lo)).toArray } })
  (hsz:items.size<=sizeLine):wpAny (model prog w) A (getItem (.ref t) (.ref sl)) Q E s:=by
 have htake:sizeOk (.seq ((items.toList.drop (sIx items.size 0 lo)).take (sIx items.size items.size hi - sIx items.size 0 lo)).toArray):=by
  show ((items.toList.drop (sIx items.size 0 lo)).take (sIx items.size items.size hi - sIx items.size 0 lo)).toArray.size<=sizeLine
  rw[pp_,pw_,q1_,te_]
  omega
 have hj:sIx items.size items.size hi<=items.size:=jza_ _ _ (pm_ _) hi
 obtain⟨os,hos,hcs,hds⟩:=id hs
 have hTs:s.TypeIs (.ref sl) "slice":=⟨os,hos,hcs⟩
 unfold getItem
 try with_reducible refine wpAny_holding ?_
 first | refine wpAny_bind (wpAny_pure ?_) | skip
 refine wpAny_bind (wpAny_sequenceKey ht.typeIs (by decide) ?_)
 refine wpAny_bind (wpAny_callSpecial?_slot (name:=q2_ "__getitem__") ht.typeIs sn_
  (wpAny_call_entry sn_ ht.typeIs entry_tuple_getitem ?_ (args_tuple_getitem _ _)))
 show wpAny _ _ (wy_ (.ref t) >>= _) _ _ s
 refine wpAny_bind (tupleItemsOf_ ht ?_)
 refine wpAny_bind (wpAny_typeOf hTs ?_)
 rw[if_pos (by decide)]
 refine wpAny_bind (jbc_ hs pl pu ?_)
 have hno:¬ ((((sIx items.size 0 lo:Nat):Int) == 0&&(1:Int) == 1&&(sIx items.size items.size hi - sIx items.size 0 lo) == items.size)=true):=by
  intro q
  rw[qe_,qe_] at q
  have q1:((sIx items.size 0 lo:Nat):Int)=0:=eq_of_beq q.1.1
  have q2:sIx items.size items.size hi - sIx items.size 0 lo=items.size:=eq_of_beq q.2
  exact hw ⟨by omega,by omega⟩
 show wpAny _ _ (if (((sIx items.size 0 lo:Nat):Int) == 0&&(1:Int) == 1&&(sIx items.size items.size hi - sIx items.size 0 lo) == items.size)=true then _ else _) _ _ s
 rw[if_neg hno,jtd_]
 first
  | exact wpAny_bind (m:=so_ _) (wpAny_newObj_type (wpAny_pure ⟨_,rfl,wpAny_pure h⟩) htake)
  | exact wpAny_bind (m:=so_ _) (wpAny_newObj_type (wpAny_bind (wpAny_pure (wpAny_pure ⟨_,rfl,wpAny_pure h⟩))) htake)
  | exact wpAny_bind (wpAny_bind (m:=so_ _) (wpAny_newObj_type (wpAny_pure (wpAny_pure ⟨_,rfl,wpAny_pure h⟩)) htake))
  | exact wpAny_bind (wpAny_bind (m:=so_ _) (wpAny_newObj_type (wpAny_pure ⟨_,rfl,wpAny_pure h⟩) htake))
end
end HT
namespace L2
open PySem PySem.Spec PyProof.Rows
abbrev TO:=St->Hp->(Option Int->Hp->Prop)->Prop
noncomputable def PO (X:Cx)(e:Option Expr)(t:TO):Prop :=
 ∀(pins:List (Addr×Obj)) (s:Shared) (σ:St) (H:Hp) (Q:Option Int->Hp->Prop),Inv X pins σ H s->t σ H Q ->
  wpAny (model X.prog X.w) X.A (evalPart e X.env) (fun u s'=>∃ o H',Inv X pins σ H' s'/\IsPart u o/\Q o H') X.xe s
def jmv_:TO:=fun _ H Q=>Q none H
def jxd_ (t:TE):TO:=fun σ H Q=>t σ H fun x H1=>∃ i,x=.int i/\Q (some i) H1
section
variable {X:Cx}{e:Expr}{te:TE}{lo hi:Option Expr}{tl th:TO}{pos p2:Pos}
theorem jwe_:PO X none jmv_:=by
 intro pins s σ H Q I h
 rw[evalPart_none]
 exact wpAny_pure ⟨none,H,I,.none,h⟩
theorem z0_ (h:PE X e te):PO X (some e) (jxd_ te):=by
 intro pins s σ H Q I hw
 rw[evalPart_some]
 refine thn (h pins s σ H _ I hw) fun u s1 ⟨x,H1,I1,r1,q1⟩=>?_
 obtain⟨i,rfl,q⟩:=q1
 obtain⟨t,rfl⟩:=r1
 exact⟨some i,H1,I1,.int i t,q⟩
noncomputable def SlR (X:Cx)(r:V->Option Int->Option Int->Hp->VK->Prop):Prop :=
 ∀(pins:List (Addr×Obj)) (s:Shared) (σ:St) (H:Hp) (x:V) (v vl vu:Value) (lo hi:Option Int) (sl:Addr) (Q:VK),Inv X pins σ H s->RelV x v->s.heap.IsSliceOf sl vl vu .none->IsPart vl lo->IsPart vu hi->r x lo hi H Q ->
  ∃ T id,typeLookup (.type T) "__getitem__"=pure (some (.builtin id))/\s.TypeIs v T/\wpAny (model X.prog X.w) X.A (getItem v (.ref sl)) (EP X pins σ Q) X.xe s
def tSl (r:V->Option Int->Option Int->Hp->VK->Prop)(te:TE)(tl th:TO):TE:=fun σ H Q=>te σ H fun x H1=>tl σ H1 fun l H2=>th σ H2 fun u H3=>r x l u H3 Q
theorem y0_ {r:V->Option Int->Option Int->Hp->VK->Prop}(hr:SlR X r)(he:PE X e te)(hl:PO X lo tl)(hu:PO X hi th):PE X (.Subscript e (.Slice lo hi none p2) pos) (tSl r te tl th):=by
 intro pins s σ H Q I h
 refine Subscript_ (thn (he pins s σ H _ I h) fun v s1 ⟨x,H1,I1,r1,q1⟩=>?_)
 refine wpAny_Slice (thn (hl pins s1 σ H1 _ I1 q1) fun vl s2 ⟨l,H2,I2,pl,q2⟩=>thn (hu pins s2 σ H2 _ I2 q2) fun vu s3 ⟨u,H3,I3,pu,q3⟩=>?_)
 rw[evalPart_none]
 refine wpAny_pure ?_
 have I4:Inv X pins σ H3 { s3 with heap:=s3.heap.push { cls:=.type "slice",data:=.fields #[vl,vu,.none] } }:=I3.kept (t':=s3.toks) fun b ob q=>pi_ _ q
 obtain⟨T,id,hT,ht,hg⟩:=hr pins { s3 with heap:=s3.heap.push { cls:=.type "slice",data:=.fields #[vl,vu,.none] } } σ H3 x v vl vu l u s3.heap.objs.size Q I4 r1 (Heap.IsSliceOf.new ..) pl pu q3
 show wpAny (model X.prog X.w) X.A (subscriptTail e (.Slice lo hi none p2) v (.ref s3.heap.objs.size)) (EP X pins σ Q) X.xe { s3 with heap:=s3.heap.push { cls:=.type "slice",data:=.fields #[vl,vu,.none] } }
 exact tail_any (ops:=[.ref s3.heap.objs.size,v]) ht hT hg (by with_unfolding_all rfl)
noncomputable def cutV (xs:List V)(lo hi:Option Int):List V:=(xs.drop (HT.sIx xs.length 0 lo)).take (HT.sIx xs.length xs.length hi - HT.sIx xs.length 0 lo)
theorem jbk_ (xs:List V)(lo hi:Option Int):(cutV xs lo hi).length<=xs.length:=by
 unfold cutV
 rw[pw_,q1_]
 omega
def rSlT (K:pc_):V->Option Int->Option Int->Hp->VK->Prop:=fun x lo hi H Q=>∃ a xs,x=.ref a/\SqT K H a xs /\
 ¬ (HT.sIx xs.length 0 lo=0/\HT.sIx xs.length xs.length hi=xs.length)/\∀ p,H p=none->Q (.ref p) (upd H p (.tup (cutV xs lo hi)))
theorem jyu_:SlR X (rSlT X.K):=by
 intro pins s σ H x v vl vu lo hi sl Q I rx hs pl pu h
 obtain⟨a,xs,rfl,hx,hw,q⟩:=h
 cases rx
 obtain⟨its,r,ht,hz⟩:=I.tuple hx
 have hlen:its.toArray.size=xs.length:=by rw[pp_];exact r.length.symm
 refine⟨"tuple",_,sn_.lookup,ht.typeIs,?_⟩
 refine HT.getItem_tuple_cut ht hs pl pu (by rw[hlen];exact hw) ?_ (by rw[hlen];exact hz)
 rw[hlen]
 refine⟨.ref s.heap.objs.size,_,I.laid (t':=s.toks) (o:=.tup (cutV xs lo hi)) (fun b ob q=>pi_ _ q) (pm_ _) ?_,rfl,q _ (I.hok.fresh (pm_ _))⟩
 exact⟨p7_ (jbk_ xs lo hi) hz,_,(r.drop (HT.sIx xs.length 0 lo)).take (HT.sIx xs.length xs.length hi - HT.sIx xs.length 0 lo),IsTup.new _ _,DcN.new _ _⟩
def rCatT (K:pc_):R2:=fun x y H Q=>∃ a b xs ys,x=.ref a/\y=.ref b/\SqT K H a xs/\SqT K H b ys/\xs≠[]/\xs.length+ys.length<=sizeLine /\
 (ys=[]->Q (.ref a) H)/\(ys≠[]->∀ p,H p=none->Q (.ref p) (upd H p (.tup (xs++ys))))
theorem Vals.nil_iff {xs:List V}{us:List Value}(r:Vals xs us):us=[]↔xs=[]:=by
 cases r with
 | nil=>simp
 | cons _ _=>simp
theorem jvs_:OpR X (binaryOp .Add) (rCatT X.K):=by
 intro pins s σ H x y v u Q I rx ry h
 obtain⟨a,b,xs,ys,rfl,rfl,ha,hb,hx,hz,q1,q2⟩:=h
 cases rx
 cases ry
 obtain⟨its,r1,p1,_⟩:=I.tuple ha
 obtain⟨its2,r2,p2,_⟩:=I.tuple hb
 refine HT.cat_tup p1 p2 (fun z=>hx (r1.nil_iff.mp z)) (fun z=>⟨.ref a,H,I,rfl,q1 (r2.nil_iff.mp z)⟩) (fun z=>?_) (by rw[<- r1.length,<- r2.length];exact hz)
 refine⟨.ref s.heap.objs.size,_,I.laid (t':=s.toks) (o:=.tup (xs++ys)) (fun b ob q=>pi_ _ q) (pm_ _) ?_,rfl,q2 (fun w=>z (r2.nil_iff.mpr w)) _ (I.hok.fresh (pm_ _))⟩
 exact⟨by rw[pe_];exact hz,_,r1.append r2,IsTup.new _ _,DcN.new _ _⟩
end
end L2
namespace L2
open PySem PySem.Spec PyProof.Rows
noncomputable def ixN (n:Nat)(i:Int):Option Nat:=if 0<=i then (if i < n then some i.toNat else none) else if -(n:Int)<=i then some (i+n).toNat else none
noncomputable def atI {α:Type}(xs:List α)(i:Int):Option α:=(ixN xs.length i).bind fun j=>xs[j]?
theorem jnk_ {n:Nat}{i:Int}{j:Nat}(h:ixN n i=some j):seqIndex? i n=some j/\j < n/\-(n:Int)<=i/\i < n:=by
 unfold ixN at h
 by_cases h0:0<=i
 ·rw[if_pos h0] at h
  by_cases h1:i < n
  ·rw[if_pos h1] at h
   have e:i.toNat=j:=Option.some.inj h
   exact⟨by rw[seqIndex_of h0 h1,e],by omega,by omega,h1⟩
  ·rw[if_neg h1] at h;cases h
 ·rw[if_neg h0] at h
  by_cases h1:-(n:Int)<=i
  ·rw[if_pos h1] at h
   have e:(i+n).toNat=j:=Option.some.inj h
   exact⟨by rw[seqIndex_neg (by omega) h1,e],by omega,h1,by omega⟩
  ·rw[if_neg h1] at h;cases h
theorem jgq_ {α:Type}{xs:List α}{i:Int}{v:α}(h:atI xs i=some v):∃ j,seqIndex? i xs.length=some j/\xs[j]?=some v/\j < xs.length/\-(xs.length:Int)<=i/\i < xs.length:=by
 unfold atI at h
 cases e:ixN xs.length i with
 | none=>rw[e] at h;cases h
 | some j =>
  rw[e] at h
  obtain⟨h1,h2,h3,h4⟩:=jnk_ e
  exact⟨j,h1,h,h2,h3,h4⟩
theorem uw_ {α:Type}{xs:List α}{j:Nat}{v:α}(h:xs[j]?=some v):atI xs (j:Int)=some v:=by
 have hj:j < xs.length:=(pj_.mp h).1
 have e:ixN xs.length (j:Int)=some j:=by
  unfold ixN
  rw[if_pos (by omega),if_pos (by omega)];simp
 unfold atI;rw[e];exact h
def juy_ (b:Expr):Prop:=∀ o i,subscripted b false o i=operate [o,i] (getItem o i)
noncomputable def IxR (X:Cx)(r:R2):Prop :=
 ∀(value slice:Expr) (pins:List (Addr×Obj)) (s:Shared) (σ:St) (H:Hp) (x y:V) (v u:Value) (Q:VK),Inv X pins σ H s->RelV x v->RelV y u->r x y H Q ->
  subscripted slice false v u=operate [v,u] (getItem v u)->wpAny (model X.prog X.w) X.A (subscriptTail value slice v u) (EP X pins σ Q) X.xe s
noncomputable def MtR (X:Cx)(id:String)(r:V->List V->Hp->VK->Prop):Prop :=
 ∀(pins:List (Addr×Obj)) (s:Shared) (σ:St) (H:Hp) (x:V) (xs:List V) (v:Value) (us:List Value) (Q:VK),Inv X pins σ H s->RelV x v->Vals xs us->r x xs H Q ->
  wpAny (model X.prog X.w) X.A (call (.builtin id) (v::us)) (EP X pins σ Q) X.xe s
section
variable {X:Cx}{a b:Expr}{ta tb:TE}{pos:Pos}
theorem jz_ {r:R2}(hr:IxR X r)(ha:PE X a ta)(hb:PE X b tb)(hs:juy_ b):PE X (.Subscript a b pos) (tOp r ta tb):=by
 intro pins s σ H Q I h
 exact Subscript_ (binT ha hb I h fun v u s2 x y H2 I2 rx ry q=>hr a b pins s2 σ H2 x y v u Q I2 rx ry q (hs _ _))
def rIxL (K:pc_):R2:=fun x y H Q=>∃ p xs i v,x=.ref p/\y=.int i/\SqL K H p xs/\atI xs i=some v/\Q v H
def rIxT (K:pc_):R2:=fun x y H Q=>∃ p xs i v,x=.ref p/\y=.int i/\SqT K H p xs/\atI xs i=some v/\Q v H
def rIxS:R2:=fun x y H Q=>∃ z i c,x=.str z/\y=.int i/\z.length<=sizeLine/\atI z.cps.toList i=some c/\Q (.str ⟨#[c]⟩) H
theorem jvc_:IxR X (rIxL X.K):=by
 intro value slice pins s σ H x y v u Q I rx ry h hs
 obtain⟨p,xs,i,z,rfl,rfl,hq,he,q⟩:=h
 cases rx
 obtain⟨t,rfl⟩:=ry
 obtain⟨its,r,pl,hz⟩:=I.list hq
 obtain⟨j,h1,h2,h3,h4,h5⟩:=jgq_ he
 obtain⟨w,ew,rw'⟩:=r.get h2
 have hl:=r.length
 have hn:=uu_
 have fin:EP X pins σ Q w s:=⟨z,H,I,rw',q⟩
 by_cases h0:0<=i
 ·have hj:i.toNat=j:=by
   rw[seqIndex_of h0 h5] at h1
   exact Option.some.inj h1
  exact item_listR pl.isList h0 (by omega) (by rw[hj];simpa using ew) fin hs
 ·have hj:(i+(its.toArray.size:Int)).toNat=j:=by
   rw[seqIndex_neg (by omega) h4] at h1
   rw[pp_,<- hl]
   exact Option.some.inj h1
  exact subscriptTail_builtinR (x:=w) pl.isList.typeIs slot_list_getitem.lookup
   (wpAny_getItem_list_neg (Q:=fun r s'=>r=w/\EP X pins σ Q r s') pl.isList (by omega) (by rw[pp_] <;> omega) (by omega) (by rw[hj];simpa using ew) ⟨rfl,fin⟩) hs
theorem jxr_:IxR X (rIxT X.K):=by
 intro value slice pins s σ H x y v u Q I rx ry h hs
 obtain⟨p,xs,i,z,rfl,rfl,hq,he,q⟩:=h
 cases rx
 obtain⟨t,rfl⟩:=ry
 obtain⟨its,r,pl,hz⟩:=I.tuple hq
 obtain⟨j,h1,h2,h3,h4,h5⟩:=jgq_ he
 obtain⟨w,ew,rw'⟩:=r.get h2
 have hl:=r.length
 have hn:=uu_
 have fin:EP X pins σ Q w s:=⟨z,H,I,rw',q⟩
 exact subscriptTail_builtinR (x:=w) pl.typeIs slot_tuple_getitem.lookup
  (getItem_tuple (j:=j) (Q:=fun r s'=>r=w/\EP X pins σ Q r s') pl (by omega) (by omega) (by rw[pp_,<- hl];exact h1) (by simpa using ew) ⟨rfl,fin⟩) hs
theorem jym_:IxR X rIxS:=by
 intro value slice pins s σ H x y v u Q I rx ry h hs
 obtain⟨z,i,c,rfl,rfl,hz,he,q⟩:=h
 obtain⟨t,rfl⟩:=rx
 obtain⟨t',rfl⟩:=ry
 obtain⟨j,h1,h2,h3,h4,h5⟩:=jgq_ he
 have hl:z.cps.toList.length=z.length:=by simp[Str.length]
 rw[hl] at h1 h4 h5
 have hn:=uu_
 exact tail_any (typeIs_str s z t) slot_str_getitem.lookup (getItem_str (c:=c) (by
  have e1:decide (i < -(2 ^ 63:Int))=false:=decide_eq_false (by omega)
  have e2:decide (i≥2 ^ 63)=false:=decide_eq_false (by omega)
  rw[e1,e2,Bool.or_false]) (by rw[h1];simpa using h2) ⟨.str ⟨#[c]⟩,H,I.tok _,⟨_,rfl⟩,q⟩) hs
theorem jmb_ (its:List Value)(n j:Nat)(u:Value):ty_ (·.setIfInBounds j u) { cls:=.type "list",data:=.seq its.toArray n }={ cls:=.type "list",data:=.seq (its.set j u).toArray n }:=by
 simp[ty_]
theorem Inv.lst {pins:List (Addr×Obj)}{σ:St}{H:Hp}{s:Shared}{p:Addr}{xs:List V}(I:Inv X pins σ H s)(h:H p=some (.lst xs)) :
  ∃(its:List Value) (n:Nat),Vals xs its/\s.heap.get? p=some { cls:=.type "list",data:=.seq its.toArray n }/\xs.length<=sizeLine:=by
 obtain⟨z,its,n,r,e⟩:=I.hok p _ h
 exact⟨its,n,r,e,z⟩
theorem Inv.lstUpd {pins:List (Addr×Obj)}{σ:St}{H:Hp}{s:Shared}{p:Addr}{xs ys:List V}{its its':List Value}{n n':Nat}{f:Obj->Obj}(I:Inv X pins σ H s)(h:H p=some (.lst xs))
  (ho:s.heap.get? p=some { cls:=.type "list",data:=.seq its.toArray n }) (hf:f { cls:=.type "list",data:=.seq its.toArray n }={ cls:=.type "list",data:=.seq its'.toArray n' }) (r:Vals ys its') (hz:ys.length<=sizeLine) (t:Nat) :
  Inv X pins σ (upd H p (.lst ys)) { s with heap:=s.heap.update p f,toks:=t }:=by
 have e:(s.heap.update p f).get? p=some { cls:=.type "list",data:=.seq its'.toArray n' }:=by
  rw[rx_ f ho (by rw[hf] <;> rfl),hf]
 refine I.write (x:=p) (e:=p) (by rw[h];trivial) (.inl rfl) (fun b u hb q=>(q0_ _ _ (td_ hb)).trans q) ⟨_,e⟩ ?_
 exact⟨hz,its',n',r,e⟩
def rSetL:V->V->V->Hp->(Hp->Prop)->Prop:=fun o i v H Q=>∃ p xs k j,o=.ref p/\i=.int k/\H p=some (.lst xs)/\ixN xs.length k=some j/\Q (upd H p (.lst (xs.set j v)))
theorem jsf_:PSet X rSetL:=by
 intro pins s σ H o i v ov iv u Q I ro ri rv h
 obtain⟨p,xs,k,j,rfl,rfl,hp,hj,q⟩:=h
 cases ro
 obtain⟨t,rfl⟩:=ri
 obtain⟨its,n,r,ho,hz⟩:=I.lst hp
 obtain⟨h1,h2,h3,h4⟩:=jnk_ hj
 have hl:=r.length
 have hn:=uu_
 have I':Inv X pins σ (upd H p (.lst (xs.set j v))) { s with heap:=s.heap.update p (ty_ (·.setIfInBounds j u)) } :=
  I.lstUpd hp ho (jmb_ its n j u) (r.set rv j) (by rw[List.length_set];exact hz) s.toks
 by_cases h0:0<=k
 ·have hk:k.toNat=j:=by
   rw[seqIndex_of h0 h4] at h1
   exact Option.some.inj h1
  exact PySem.W.ki_setAt ho h0 (by omega) (by rw[pp_,<- hl];exact h4) (by rw[hk];exact⟨_,I',q⟩)
 ·have hk:(k+(its.toArray.size:Int)).toNat=j:=by
   rw[seqIndex_neg (by omega) h3] at h1
   rw[pp_,<- hl]
   exact Option.some.inj h1
  exact PySem.W.ki_setBack ho (by omega) (by rw[pp_,<- hl];exact h3) (by omega) (by rw[hk];exact⟨_,I',q⟩)
theorem jhk_ (lo hi:Option Int)(n:Nat):(sliceBounds lo hi none n).1=((HT.sIx n 0 lo:Nat):Int)/\(sliceBounds lo hi none n).2.1=((HT.sIx n n hi:Nat):Int)/\(sliceBounds lo hi none n).2.2=1:=by
 refine⟨?_,?_,rfl⟩
 ·cases lo with
  | none=>simp[sliceBounds,HT.sIx]
  | some i =>
   simp only[sliceBounds,HT.sIx,Option.getD_none,show (1:Int) > 0 by decide,if_true]
   by_cases h:i < 0
   ·simp only[h,if_true] <;> omega
   ·simp only[h,if_false] <;> omega
 ·cases hi with
  | none=>simp[sliceBounds,HT.sIx]
  | some i =>
   simp only[sliceBounds,HT.sIx,Option.getD_none,show (1:Int) > 0 by decide,if_true]
   by_cases h:i < 0
   ·simp only[h,if_true] <;> omega
   ·simp only[h,if_false] <;> omega
theorem jeo_ (its:List Value)(lo hi:Option Int):slicePick its.toArray lo hi none=((its.drop (HT.sIx its.length 0 lo)).take (HT.sIx its.length its.length hi - HT.sIx its.length 0 lo)).toArray:=by
 obtain⟨h1,h2,h3⟩:=jhk_ lo hi its.toArray.size
 unfold slicePick
 rw[h1,h2,h3]
 simp only[sliceRange_one,pick_run,pp_] <;> rfl
def rSlL (K:pc_):V->Option Int->Option Int->Hp->VK->Prop:=fun x lo hi H Q=>∃ a xs,x=.ref a/\SqL K H a xs/\∀ p,H p=none->Q (.ref p) (upd H p (.lst (cutV xs lo hi)))
theorem jud_:SlR X (rSlL X.K):=by
 intro pins s σ H x v vl vu lo hi sl Q I rx hs pl pu h
 obtain⟨a,xs,rfl,hx,q⟩:=h
 cases rx
 obtain⟨its,r,ht,hz⟩:=I.list hx
 have hlen:=r.length
 refine⟨"list",_,slot_list_getitem.lookup,ht.isList.typeIs,?_⟩
 refine wpAny_getItem_list_slice ht.isList hs pl pu .none (by simp) ?_ (by rw[pp_] <;> omega)
 rw[jeo_,<- hlen]
 refine⟨.ref s.heap.objs.size,_,I.laid (t':=s.toks) (o:=.lst (cutV xs lo hi)) (fun b ob q=>pi_ _ q) (pm_ _) ?_,rfl,q _ (I.hok.fresh (pm_ _))⟩
 exact⟨p7_ (jbk_ xs lo hi) hz,_,0,(r.drop (HT.sIx xs.length 0 lo)).take (HT.sIx xs.length xs.length hi - HT.sIx xs.length 0 lo),px_ _ rfl⟩
noncomputable def xq_:V->Bool
 | .non=>true
 | .bl _=>true
 | .int _=>true
 | .str _=>true
 | _=>false
noncomputable def eqV:V->V->Bool
 | .non,.non=>true
 | .bl a,.bl b=>a == b
 | .bl a,.int b=>(if a then 1 else 0) == b
 | .int a,.bl b=>a == (if b then 1 else 0)
 | .int a,.int b=>a == b
 | .str a,.str b=>a == b
 | _,_=>false
theorem jyl_ {A:Around}{s:Shared}{y x:V}{u v:Value}(ry:RelV y u)(rx:RelV x v)(fy:xq_ y=true)(fx:xq_ x=true):qv_ A s u v (eqV y x):=by
 cases y with
 | non =>
  cases ry
  cases x with
  | non=>cases rx;exact qv_.same _
  | bl b=>cases rx;exact qv_.none_bool b
  | int b=>obtain⟨t,rfl⟩:=rx;exact lt_ b t
  | str b=>obtain⟨t,rfl⟩:=rx;exact lu_ b t
  | _=>exact absurd (show false=true from fx) pk_
 | bl a =>
  cases ry
  cases x with
  | non=>cases rx;exact qv_.bool_none a
  | bl b=>cases rx;exact qv_.bool_bool a b
  | int b=>obtain⟨t,rfl⟩:=rx;exact qv_.bool_int a b t
  | str b=>obtain⟨t,rfl⟩:=rx;exact qv_.bool_str a b t
  | _=>exact absurd (show false=true from fx) pk_
 | int a =>
  obtain⟨t',rfl⟩:=ry
  cases x with
  | non=>cases rx;exact lv_ a t'
  | bl b=>cases rx;exact qv_.int_bool a t' b
  | int b=>obtain⟨t,rfl⟩:=rx;exact qv_.int_int a t' b t
  | str b=>obtain⟨t,rfl⟩:=rx;exact l0_ a t' b t
  | _=>exact absurd (show false=true from fx) pk_
 | str a =>
  obtain⟨t',rfl⟩:=ry
  cases x with
  | non=>cases rx;exact lw_ a t'
  | bl b=>cases rx;exact qv_.str_bool a t' b
  | int b=>obtain⟨t,rfl⟩:=rx;exact l1_ a t' b t
  | str b=>obtain⟨t,rfl⟩:=rx;exact l2_ a t' b t
  | _=>exact absurd (show false=true from fx) pk_
 | _=>exact absurd (show false=true from fy) pk_
noncomputable def eqU (x:V)(u:Value):Bool:=match u with
 | .none=>eqV .non x
 | .bool b=>eqV (.bl b) x
 | .int i _=>eqV (.int i) x
 | .str z _=>eqV (.str z) x
 | _=>false
theorem jsq_ {x y:V}{u:Value}(r:RelV y u)(f:xq_ y=true):eqU x u=eqV y x:=by
 cases y with
 | non=>cases r;rfl
 | bl b=>cases r;rfl
 | int i=>obtain⟨t,rfl⟩:=r;rfl
 | str z=>obtain⟨t,rfl⟩:=r;rfl
 | _=>exact absurd (show false=true from f) pk_
theorem jaa_ {x:V}:∀{xs:List V}{us:List Value},Vals xs us->xs.all xq_=true->us.any (eqU x)=xs.any fun y=>eqV y x
 | _,_,.nil,_=>rfl
 | y::xs,u::us,.cons r t,f=>by
  rw[ko_,qe_] at f
  rw[wl_,wl_,jsq_ r f.1,jaa_ t f.2]
theorem vy_ {A:Around}{s:Shared}{x:V}{v:Value}(rx:RelV x v)(fx:xq_ x=true):∀{xs:List V}{us:List Value},Vals xs us->xs.all xq_=true->∀ u∈us,qv_ A s u v (eqU x u)
 | _,_,.nil,_=>fun u hu=>by cases hu
 | y::xs,u::us,.cons r t,f=>fun u' hu=>by
  rw[ko_,qe_] at f
  rcases p6_.mp hu with rfl | hu
  ·rw[jsq_ r f.1];exact jyl_ r rx f.1 fx
  ·exact vy_ rx fx t f.2 u' hu
noncomputable def inV (x:V)(xs:List V):Bool:=xs.any fun y=>eqV y x
def rIn (K:pc_)(neg:Bool):R2:=fun x y H Q=>∃ p xs,y=.ref p/\(SqL K H p xs∨SqT K H p xs)/\xq_ x=true/\xs.all xq_=true/\Q (.bl (if neg then !inV x xs else inV x xs)) H
theorem joa_:OpR X (compareOp .In) (rIn X.K false):=by
 intro pins s σ H x y v u Q I rx ry h
 obtain⟨p,xs,rfl,hq,fx,fs,q⟩:=h
 cases ry
 rcases hq with hq | hq
 ·obtain⟨its,r,pl,hz⟩:=I.list hq
  refine SeqAt.in_listAt (eqU x) pl.isList (fun w hw=>vy_ rx fx r fs w (by simpa using hw)) ⟨.bl _,H,I,rfl,?_⟩
  rw[show its.toArray.any (eqU x)=its.any (eqU x) by simp,jaa_ r fs]
  exact q
 ·obtain⟨its,r,pl,hz⟩:=I.tuple hq
  refine SeqAt.in_tupleAt (eqU x) pl (fun w hw=>vy_ rx fx r fs w (by simpa using hw)) ⟨.bl _,H,I,rfl,?_⟩
  rw[show its.toArray.any (eqU x)=its.any (eqU x) by simp,jaa_ r fs]
  exact q
theorem jhg_:OpR X (compareOp .NotIn) (rIn X.K true):=by
 intro pins s σ H x y v u Q I rx ry h
 obtain⟨p,xs,rfl,hq,fx,fs,q⟩:=h
 cases ry
 rcases hq with hq | hq
 ·obtain⟨its,r,pl,hz⟩:=I.list hq
  refine SeqAt.notIn_listAt (eqU x) pl.isList (fun w hw=>vy_ rx fx r fs w (by simpa using hw)) ⟨.bl _,H,I,rfl,?_⟩
  rw[show its.toArray.any (eqU x)=its.any (eqU x) by simp,jaa_ r fs]
  exact q
 ·obtain⟨its,r,pl,hz⟩:=I.tuple hq
  refine SeqAt.notIn_tupleAt (eqU x) pl (fun w hw=>vy_ rx fx r fs w (by simpa using hw)) ⟨.bl _,H,I,rfl,?_⟩
  rw[show its.toArray.any (eqU x)=its.any (eqU x) by simp,jaa_ r fs]
  exact q
theorem jhi_:CallR X (.builtin "len") (fun xs H Q=>∃ p ys,xs=[.ref p]/\(SqL X.K H p ys∨SqT X.K H p ys)/\Q (.int ys.length) H):=by
 intro pins s σ H xs us Q I r h
 obtain⟨p,ys,rfl,hq,q⟩:=h
 obtain⟨u,rfl,rx⟩:=ug_ r
 cases rx
 have hn:=uu_
 rcases hq with hq | hq
 ·obtain⟨its,r',pl,hz⟩:=I.list hq
  have hlen:=r'.length
  exact Calls.call_len_list pl.isList (by simp only[pp_] <;> omega) ⟨.int ys.length,H,I.tok _,⟨s.toks+1,by rw[pp_,hlen]⟩,q⟩
 ·obtain⟨its,r',pl,hz⟩:=I.tuple hq
  have hlen:=r'.length
  exact len_tuple pl (by simp only[pp_] <;> omega) ⟨.int ys.length,H,I.tok _,⟨s.toks+1,by rw[pp_,hlen]⟩,q⟩
theorem jhj_:CallR X (.builtin "len") (fun xs H Q=>∃ z,xs=[.str z]/\z.length<=sizeLine/\Q (.int z.length) H):=by
 intro pins s σ H xs us Q I r h
 obtain⟨z,rfl,hz,q⟩:=h
 obtain⟨u,rfl,t,rfl⟩:=ug_ r
 have hn:=uu_
 exact len_str (by omega) ⟨.int z.length,H,I.tok _,⟨_,rfl⟩,q⟩
theorem call_list_of:CallR X (.type "list") (fun xs H Q=>∃ p ys,xs=[.ref p]/\(SqL X.K H p ys∨SqT X.K H p ys)/\∀ l,H l=none->Q (.ref l) (upd H l (.lst ys))):=by
 intro pins s σ H xs us Q I r h
 obtain⟨p,ys,rfl,hq,q⟩:=h
 obtain⟨u,rfl,rx⟩:=ug_ r
 cases rx
 have fin:∀(its:List Value),Vals ys its->ys.length<=sizeLine->∀(h':Heap) (c':Nat),(∀ b o',s.heap.get? b=some o'->h'.get? b=some o') ->
   h'.get? s.heap.objs.size=some { cls:=.type "list",dict:=none,data:=.seq its.toArray c',slots:=#[] }->EP X pins σ Q (.ref s.heap.objs.size) { s with heap:=h' }:=fun its r' hz h' c' kp e =>
  ⟨.ref s.heap.objs.size,_,I.laid (t':=s.toks) kp (pm_ _) (show ObjOk X.prog X.w _ h' _ (.lst ys) from ⟨hz,its,c',r',e⟩),rfl,q _ (I.hok.fresh (pm_ _))⟩
 rcases hq with hq | hq
 ·obtain⟨its,r',pl,hz⟩:=I.list hq
  have hlen:=r'.length
  obtain⟨o,ho,hc,n,hd⟩:=pl.isList
  exact call_list_seq p (.inl rfl) ho hc hd (fun h' c' kp e=>fin its r' hz h' c' kp e) (by simp only[pp_] <;> omega)
 ·obtain⟨its,r',pl,hz⟩:=I.tuple hq
  have hlen:=r'.length
  obtain⟨o,ho,hc,n,hd⟩:=pl
  exact call_list_seq p (.inr rfl) ho hc hd (fun h' c' kp e=>fin its r' hz h' c' kp e) (by simp only[pp_] <;> omega)
theorem call_tuple_of:CallR X (.type "tuple") (fun xs H Q=>∃ p ys,xs=[.ref p]/\((SqL X.K H p ys/\∀ l,H l=none->Q (.ref l) (upd H l (.tup ys)))∨(SqT X.K H p ys/\Q (.ref p) H))):=by
 intro pins s σ H xs us Q I r h
 obtain⟨p,ys,rfl,h⟩:=h
 obtain⟨u,rfl,rx⟩:=ug_ r
 cases rx
 rcases h with ⟨hq,q⟩ | ⟨hq,q⟩
 ·obtain⟨its,r',pl,hz⟩:=I.list hq
  have hlen:=r'.length
  refine call_tuple_list pl.isList (fun h' kp=>?_) (by simp only[pp_] <;> omega)
  have I1:Inv X pins σ H { s with heap:=h' }:=I.kept (t':=s.toks) kp
  have I2:Inv X pins σ (upd H h'.objs.size (.tup ys)) { s with heap:=h'.push { cls:=.type "tuple",data:=.seq its.toArray } } :=
   I1.laid (t':=s.toks) (fun b o e=>pi_ _ e) (pm_ _) (show ObjOk X.prog X.w _ _ _ (.tup ys) from ⟨hz,its,r',IsTup.new _ _,DcN.new _ _⟩)
  exact⟨.ref h'.objs.size,_,I2,rfl,q _ (I1.hok.fresh (pm_ _))⟩
 ·obtain⟨its,r',pl,hz⟩:=I.tuple hq
  exact call_tuple_same pl ⟨.ref p,H,I,rfl,q⟩
def tyV (K:pc_)(T:String)(x:V)(H:Hp):Prop:=match x with
 | .str _=>T="str"
 | .int _=>T="int"
 | .ref p=>(T="list"/\∃ xs,SqL K H p xs)∨(T="tuple"/\∃ o,K.lookup p=some o/\o.cls=.type "tuple"/\o.dict=none) ∨
   (T="dict"/\((∃ kvs,H p=some (.dK kvs))∨∃ kvs,H p=some (.dT kvs)))∨(T="set"/\∃ S n,H p=some (.set S n))
 | _=>False
theorem jte_ {pins:List (Addr×Obj)}{σ:St}{H:Hp}{s:Shared}{T:String}{x:V}{v:Value}(I:Inv X pins σ H s)(r:RelV x v)(ty:tyV X.K T x H) :
  s.TypeIs v T/\∀ a,v=.ref a->∃ ob,s.heap.get? a=some ob/\ob.dict=none:=by
 cases x with
 | str z =>
  obtain⟨t,rfl⟩:=r
  cases (show T="str" from ty)
  exact⟨typeIs_str s z t,fun _ e=>nomatch e⟩
 | int i =>
  obtain⟨t,rfl⟩:=r
  cases (show T="int" from ty)
  exact⟨typeIs_int s i t,fun _ e=>nomatch e⟩
 | ref p =>
  cases r
  rcases ty with ⟨rfl,xs,hq⟩ | ⟨rfl,o,hk,hc,hd⟩ | ⟨rfl,hk⟩ | ⟨rfl,S,n,hk⟩
  ·obtain⟨its,_,pl,_⟩:=I.list hq
   refine⟨pl.isList.typeIs,fun a e=>?_⟩
   cases e
   obtain⟨o,n,e,c,hd,_⟩:=pl
   exact⟨o,e,hd⟩
  ·refine⟨⟨o,I.kIn p o hk,hc⟩,fun a e=>?_⟩
   cases e
   exact⟨o,I.kIn _ o hk,hd⟩
  ·have z:∃ o,s.heap.get? p=some o/\o.ExactDict:=by
    rcases hk with ⟨kvs,hk⟩ | ⟨kvs,hk⟩
    ·obtain⟨_,_,_,_,o,_,_,e,ex,_⟩:=I.hok p _ hk
     exact⟨o,e,ex⟩
    ·obtain⟨_,_,_,_,o,_,_,e,ex,_⟩:=I.hok p _ hk
     exact⟨o,e,ex⟩
   obtain⟨o,e,ex⟩:=z
   refine⟨⟨o,e,ex.1⟩,fun a e2=>?_⟩
   cases e2
   exact⟨o,e,ex.2.1⟩
  ·obtain⟨o,_,_,_,e,ex,_⟩:=I.hok p _ hk
   refine⟨⟨o,e,ex.1⟩,fun a e2=>?_⟩
   cases e2
   exact⟨o,e,ex.2.1⟩
 | _=>exact sc_ ty
def tBM0 (K:pc_)(T:String)(r:V->List V->Hp->VK->Prop)(to:TE):TE:=fun σ H Q=>to σ H fun x H1=>tyV K T x H1/\r x [] H1 Q
def tBM (K:pc_)(T:String)(r:V->List V->Hp->VK->Prop)(to:TE)(t:TA):TE:=fun σ H Q=>to σ H fun x H1=>tyV K T x H1/\t σ H1 fun xs H2=>r x xs H2 Q
variable {o e:Expr}{es:List Expr}{to:TE}{t:TA}{name:Str}{apos cpos:Pos}{T id:String}{r:V->List V->Hp->VK->Prop}
theorem jzi_ (pa:PlainAttrs T)(slot:Slot T name id)(hty:typeOf (.builtin id)=pure (.type "method_descriptor"))(hm:MtR X id r)(ho:PE X o to)
  (hbase:attributeBase o name X.env (eval o X.env)=eval o X.env:=by rfl) (hline:(apos.endLine == cpos.line)=true:=by rfl):PE X (.Call (.Attribute o name apos) [] [] cpos) (tBM0 X.K T r to):=by
 intro pins s σ H Q I h
 refine wpAny_Call_method0_late hbase hline (thn (ho pins s σ H _ I h) fun v s1 ⟨x,H1,I1,r1,ty,q1⟩=>?_)
 obtain⟨h1,h2⟩:=jte_ I1 r1 ty
 exact⟨T,id,pa,slot,hty,h1,h2,sa_ rfl (PySem.evalArgs_none (hm pins s1 σ H1 x [] v [] Q I1 r1 .nil q1))⟩
theorem pe_bm (pa:PlainAttrs T)(slot:Slot T name id)(hty:typeOf (.builtin id)=pure (.type "method_descriptor"))(hm:MtR X id r)(ho:PE X o to)(ha:PA X (e::es) t)
  (hbase:attributeBase o name X.env (eval o X.env)=eval o X.env:=by rfl)
  (hfew:((backTo cpos (starEach (e::es) X.env)).all (fun x=>!x.1)&&(backToKw cpos (keywordEach [] X.env)).all (fun x=>x.1.isSome)
   && decide ((e::es).length+([]:List Keyword).length+(if ([]:List Keyword).isEmpty then 0 else 1) < 30))=true:=by rfl)
  (hline:(apos.endLine == cpos.line)=true:=by rfl) (hs:starEach (e::es) X.env=(false,eval e X.env)::starEach es X.env:=by rfl) (hplain:(backTo cpos (starEach es X.env)).any (·.1)=false:=by rfl) :
  PE X (.Call (.Attribute o name apos) (e::es) [] cpos) (tBM X.K T r to t):=by
 intro pins s σ H Q I h
 refine wpAny_Call_method_late hbase hfew hline rfl (thn (ho pins s σ H _ I h) fun v s1 ⟨x,H1,I1,r1,ty,q1⟩=>?_)
 obtain⟨h1,h2⟩:=jte_ I1 r1 ty
 refine⟨T,id,pa,slot,hty,h1,h2,?_⟩
 have hA:=ha cpos pins s1 σ H1 _ I1 q1
 rw[hs] at hA ⊢
 refine sa_ (by show (false || (backTo cpos (starEach es X.env)).any (·.1))=false;rw[hplain] <;> rfl) (s7_ ?_)
 exact thn hA fun us s2 ⟨vs,H2,I2,r2,q2⟩=>hm pins s2 σ H2 x vs v us Q I2 r1 r2 q2
/- xs.append(e),list.index on a module's tuple .. are MtR facts of 06m -/
end
end L2
namespace L2
open PySem PySem.Spec PyProof.Rows
noncomputable def MtM (X:Cx)(id:String)(r:V->List V->Hp->VK->Prop):Prop :=
 ∀(pins:List (Addr×Obj)) (s:Shared) (σ:St) (H:Hp) (x:V) (xs:List V) (v:Value) (us:List Value) (Q:VK),Inv X pins σ H s->RelV x v->Vals xs us->r x xs H Q ->
  wpAny (model X.prog X.w) X.A (call (.builtin id) (v::us)) (EP X pins σ Q) X.xe s
theorem Vals.one:∀{x:V}{us:List Value},Vals [x] us->∃ u,us=[u]/\RelV x u
 | _,_,.cons r .nil=>⟨_,rfl,r⟩
theorem Vals.zero:∀{us:List Value},Vals [] us->us=[]
 | _,.nil=>rfl
theorem Vals.dropLast {xs:List V}{us:List Value}(h:Vals xs us):Vals xs.dropLast us.dropLast:=by
 induction h with
 | nil=>exact .nil
 | cons r t ih =>
  cases t with
  | nil=>exact .nil
  | cons q t'=>exact .cons r ih
theorem Vals.eraseIdx:∀{xs:List V}{us:List Value} (i:Nat),Vals xs us->Vals (xs.eraseIdx i) (us.eraseIdx i)
 | _,_,_,.nil=>.nil
 | _,_,0,.cons _ t=>t
 | _,_,i+1,.cons r t=>.cons r (Vals.eraseIdx i t)
theorem Vals.rep {xs:List V}{us:List Value}(h:Vals xs us):∀ k:Nat,Vals (pg_ k xs).flatten (pg_ k us).flatten
 | 0=>.nil
 | k+1=>by
  rw[rt_,rt_,r2_,r2_]
  exact Vals.append h (Vals.rep h k)
theorem jkx_ {α:Type}(l:List α):l.eraseIdx (l.length - 1)=l.dropLast:=by
 induction l with
 | nil=>rfl
 | cons a r ih =>
  cases r with
  | nil=>rfl
  | cons b r =>
   have e:(a::b::r).length - 1=((b::r).length - 1)+1:=by
    have h1:(a::b::r).length=r.length+2:=rfl
    have h2:(b::r).length=r.length+1:=rfl
    omega
   rw[e,kp_,ih]
   all_goals rfl
theorem jfd_ (its:List Value):∀(k:Nat) (acc:List Value),
  List.foldl (fun x1 x2=>x1++x2) acc.toArray (pg_ k its.toArray)=(acc++(pg_ k its).flatten).toArray
 | 0,acc=>by simp
 | k+1,acc=>by
  have e:acc.toArray++its.toArray=(acc++its).toArray:=by simp
  have e2:(acc++its)++(pg_ k its).flatten=acc++(pg_ (k+1) its).flatten:=by
   rw[rt_,r2_,qw_]
  rw[<- e2,<- jfd_ its k (acc++its),<- e,rt_,lc_]
section
variable {X:Cx}{pins:List (Addr×Obj)}{σ:St}{H:Hp}{s:Shared}{l b:Addr}{xs ys zs:List V}
theorem Inv.lset {its its':List Value}{n:Nat}{f:Array Value->Array Value}{t':Nat}(I:Inv X pins σ H s)(hH:H l=some (.lst xs))
  (e:s.heap.get? l=some { cls:=.type "list",data:=.seq its.toArray n }) (hf:f its.toArray=its'.toArray) (hv:Vals ys its') (hz:ys.length<=sizeLine) :
  Inv X pins σ (upd H l (.lst ys)) { s with heap:=s.heap.update l (ty_ f),toks:=t' }:=by
 have q:=PySem.IsL.update e f
 rw[hf] at q
 refine I.write (x:=l) (e:=l) (by rw[hH];exact trivial) (.inl rfl) (fun b' u hb hu=>(q0_ s.heap (ty_ f) (td_ hb)).trans hu) ⟨_,q⟩ ?_
 exact⟨hz,its',_,hv,q⟩
theorem Inv.lnew {its:List Value}{t':Nat}(I:Inv X pins σ H s)(hv:Vals ys its)(hz:ys.length<=sizeLine) :
  Inv X pins σ (upd H s.heap.objs.size (.lst ys)) { s with heap:=s.heap.push { cls:=.type "list",data:=.seq its.toArray },toks:=t' } :=
 I.laid (fun _ _ q=>pi_ _ q) (pm_ _) ⟨hz,its,0,hv,px_ _ rfl⟩
theorem Inv.fresh (I:Inv X pins σ H s):H s.heap.objs.size=none:=I.hok.fresh (pm_ _)
theorem Inv.lstM (I:Inv X pins σ H s)(hH:H l=some (.lst xs)):xs.length<=sizeLine/\∃(its:List Value) (n:Nat),Vals xs its/\xs.length=its.length/\s.heap.get? l=some { cls:=.type "list",data:=.seq its.toArray n }:=by
 obtain⟨z,its,n,r,e⟩:=I.hok l _ hH
 exact⟨z,its,n,r,r.length,e⟩
theorem jji_ {n:Nat}(h:n<=sizeLine):sp_ n=false:=by
 unfold sp_
 exact decide_eq_false (by omega)
end
section
variable {X:Cx}
def jvf_:V->List V->Hp->VK->Prop:=fun x vs H Q=>∃ l xs y,x=.ref l/\vs=[y]/\H l=some (.lst xs)/\xs.length < sizeLine/\Q .non (upd H l (.lst (xs++[y])))
theorem jff_:MtM X "list.append" jvf_:=by
 intro pins s σ H x vs v us Q I rx rv h
 obtain⟨l,xs,y,rfl,rfl,hH,hz,q⟩:=h
 cases rx
 obtain⟨u,rfl,ru⟩:=rv.one
 obtain⟨z,its,n,r,hl,e⟩:=I.lstM hH
 refine call_meets F.slot_list_append ⟨_,e,rfl⟩ F.entry_list_append (F.args_list_append_2 _ _) (PySem.list_append l its.toArray n u (by rw[pp_];omega)) ⟨e,?_⟩
 refine⟨.non,_,I.lset (its':=its++[u]) hH e (by simp) (r.append (.cons ru .nil)) ?_,rfl,q⟩
 rw[pe_,t8_]
 omega
def jum_:V->List V->Hp->VK->Prop:=fun x vs H Q=>∃ l b xs zs,x=.ref l/\vs=[.ref b]/\H l=some (.lst xs)/\H b=some (.lst zs)/\xs.length+zs.length<=sizeLine/\Q .non (upd H l (.lst (xs++zs)))
theorem jnw_:MtM X "list.extend" jum_:=by
 intro pins s σ H x vs v us Q I rx rv h
 obtain⟨l,b,xs,zs,rfl,rfl,hH,hB,hz,q⟩:=h
 cases rx
 obtain⟨u,rfl,ru⟩:=rv.one
 cases ru
 obtain⟨z,its,n,r,hl,e⟩:=I.lstM hH
 obtain⟨z2,its2,n2,r2,hl2,e2⟩:=I.lstM hB
 have hsz:its.toArray.size+its2.toArray.size<=sizeLine:=by rw[pp_,pp_];omega
 have hlong:¬ (!its.toArray.isEmpty&&sp_ (its.toArray.size+its2.toArray.size))=true:=by
  rw[jji_ hsz,Bool.and_false]
  exact pk_
 refine call_meets F.slot_list_extend ⟨_,e,rfl⟩ F.entry_list_extend (F.args_list_extend_2 _ _)
  (AutoSeq1.list_extend_list_list_0 l its.toArray n b its2.toArray n2 hlong (by rw[pp_];omega) (by omega)) ⟨e,e2,?_⟩
 refine⟨.non,_,I.lset (its':=its++its2) hH e (by simp) (r.append r2) ?_,rfl,q⟩
 rw[pe_]
 omega
def rPop:V->List V->Hp->VK->Prop:=fun x vs H Q=>∃ l xs y,x=.ref l/\vs=[]/\H l=some (.lst xs)/\xs[xs.length - 1]?=some y/\Q y (upd H l (.lst xs.dropLast))
theorem mt_pop:MtM X "list.pop" rPop:=by
 intro pins s σ H x vs v us Q I rx rv h
 obtain⟨l,xs,y,rfl,rfl,hH,hy,q⟩:=h
 cases rx
 have hus:=rv.zero
 subst hus
 obtain⟨z,its,n,r,hl,e⟩:=I.lstM hH
 obtain⟨u,hu,ru⟩:=r.get hy
 have hy':its.toArray[its.toArray.size - 1]?=some u:=by
  show its.toArray[its.length - 1]?=some u
  rw[<- ld_,<- hl]
  exact hu
 refine call_meets F.slot_list_pop ⟨_,e,rfl⟩ F.entry_list_pop (F.args_list_pop_1 _) (MeetsSeq.list_pop_last l its.toArray n u hy' (by rw[pp_];omega)) ⟨e,?_⟩
 refine⟨y,_,I.lset (its':=its.dropLast) hH e ?_ r.dropLast ?_,ru,q⟩
 ·show its.toArray.eraseIdxIfInBounds (its.toArray.size - 1)=its.dropLast.toArray
  rw[pp_,List.eraseIdxIfInBounds_toArray,jkx_]
 ·rw[List.length_dropLast]
  omega
def jzw_:V->List V->Hp->VK->Prop:=fun x vs H Q=>∃ l xs,x=.ref l/\vs=[]/\H l=some (.lst xs)/\Q .non (upd H l (.lst []))
theorem jqv_:MtM X "list.clear" jzw_:=by
 intro pins s σ H x vs v us Q I rx rv h
 obtain⟨l,xs,rfl,rfl,hH,q⟩:=h
 cases rx
 have hus:=rv.zero
 subst hus
 obtain⟨z,its,n,r,hl,e⟩:=I.lstM hH
 refine call_meets F.slot_list_clear ⟨_,e,rfl⟩ F.entry_list_clear (F.args_list_clear_1 _) (AutoSeq1.list_clear_list_0 l its.toArray n (by rw[pp_];omega)) ⟨e,?_⟩
 exact⟨.non,_,I.lset (its':=[]) (ys:=[]) hH e rfl .nil (qj_ _),rfl,q⟩
def rCat:R2:=fun x y H Q=>∃ l b xs zs,x=.ref l/\y=.ref b/\H l=some (.lst xs)/\H b=some (.lst zs)/\xs.length+zs.length<=sizeLine/\∀ p,H p=none->Q (.ref p) (upd H p (.lst (xs++zs)))
theorem jyr_:OpR X (binaryOp .Add) rCat:=by
 intro pins s σ H x y v u Q I rx ry h
 obtain⟨l,b,xs,zs,rfl,rfl,hH,hB,hz,q⟩:=h
 cases rx
 cases ry
 obtain⟨z,its,n,r,hl,e⟩:=I.lstM hH
 obtain⟨z2,its2,n2,r2,hl2,e2⟩:=I.lstM hB
 refine PySem.P.add_list e e2 ?_ (by rw[pp_,pp_];omega)
 have ea:its.toArray++its2.toArray=(its++its2).toArray:=by simp
 rw[ea]
 exact⟨.ref _,_,I.lnew (t':=s.toks) (r.append r2) (by rw[pe_];omega),rfl,q _ I.fresh⟩
def rRep:R2:=fun x y H Q=>∃ l k xs,x=.ref l/\y=.int k/\H l=some (.lst xs)/\-(2 ^ 63)<=k/\k < 2 ^ 63/\xs.length * k.toNat<=sizeLine /\
 ∀ p,H p=none->Q (.ref p) (upd H p (.lst (pg_ k.toNat xs).flatten))
theorem jvd_ {α:Type}(xs:List α)(k:Nat):(pg_ k xs).flatten.length=k * xs.length:=by
 induction k with
 | zero=>simp
 | succ k ih=>rw[rt_,r2_,pe_,ih,q3_,mb_]
theorem jyn_:OpR X (binaryOp .Mult) rRep:=by
 intro pins s σ H x y v u Q I rx ry h
 obtain⟨l,k,xs,rfl,rfl,hH,h1,h2,hz,q⟩:=h
 cases rx
 obtain⟨t,rfl⟩:=ry
 obtain⟨z,its,n,r,hl,e⟩:=I.lstM hH
 have hlen:its.toArray.size * k.toNat<=sizeLine:=by rw[pp_,<- hl];exact hz
 have hcap:¬ its.toArray.size * k.toNat > (2 ^ 63 - 1) / 8:=by
  have:(sizeLine:Nat)<=(2 ^ 63 - 1) / 8:=by decide
  omega
 have hfit:¬ (!Builtin.List.listFitsIndex k)=true:=by
  rw[fitsIndex_both h1 h2]
  exact pk_
 have hlong:¬ sp_ (its.toArray.size * k.toNat)=true:=by
  rw[jji_ hlen]
  exact pk_
 have hnew:List.foldl (fun x1 x2=>x1++x2) #[] (pg_ (if its.toArray.isEmpty=true then 0 else k.toNat) its.toArray)=(pg_ k.toNat its).flatten.toArray:=by
  have f0:∀ m:Nat,List.foldl (fun x1 x2=>x1++x2) #[] (pg_ m its.toArray)=(pg_ m its).flatten.toArray:=fun m=>by
   have:=jfd_ its m []
   rw[sq_] at this
   exact this
  rw[f0]
  cases its with
  | nil=>simp
  | cons a r'=>rw[if_neg (by simp)]
 refine wpAny_binaryOp_repeat_ref (T:="list") (U:="int") (by decide) ⟨_,e,rfl⟩ (fun s'=>typeIs_int s' k t) noFill_list_mul F.fills_int_mul F.slot_int_rmul repeat_list F.slot_int_index.lookup
  (call_meets F.slot_int_rmul (typeIs_int s k t) F.entry_int_rmul (F.args_int_rmul_2 _ _) (int___rmul___int_list k t l its.toArray n)
   ⟨e,rfl,⟨_,e,rfl⟩,call_meets F.slot_list_mul ⟨_,e,rfl⟩ F.entry_list_mul (F.args_list_mul_2 _ _) (AutoListH.list___mul___list_int_3 l its.toArray n k t hfit hcap hlong) ⟨e,?_⟩⟩)
 rw[hnew]
 exact⟨.ref _,_,I.lnew (t':=s.toks) (r.rep k.toNat) (by rw[jvd_,Nat.mul_comm];exact hz),rfl,q _ I.fresh⟩
end
section
variable {prog:Program}{w:World}{A:Around}{E:Value->Shared->Prop}{s:Shared}
set_option maxRecDepth 100000 in
end
section
variable {X:Cx}
end
end L2
namespace Att
open PySem PySem.W PySem.Calls PyProof.Rows
theorem jbv_ {P:Params}{h:Heap}:∀(ns:List Int) (vs:List Value),WellAll P h vs (ns.map WData.int)->IntsAre vs ns:=by
 intro ns
 induction ns with
 | nil =>
  intro vs w
  rw[qs_] at w
  cases w
  exact .nil
 | cons n ns ih =>
  intro vs w
  rw[pr_] at w
  cases w with
  | cons a b =>
   cases a
   exact .cons _ _ (ih _ b)
theorem jns_ {l:OpenLaw}{n:Nat}(hn:l.most=some n){P:Params}{h:Heap}{args:List WData}{vals:List Value}
  (hpre:l.row.toRowW.claim.pre args=true) (hwl:WellAll P h vals args) :
  ∃ a vs ns,vals=[Value.ref a]/\args=[WData.list (ns.map WData.int)]/\h.get? a=some { cls:=.type "list",data:=.seq vs.toArray }/\IntsAre vs ns/\ns.length<=n:=by
 have hsh:WShape.hasAll [] args [.list .int]=true:=(pre_splitW hpre).1
 have hc:l.pre.holds [] { args:=args }=true:=(pre_splitW hpre).2
 obtain⟨d,r,rfl,h1,h2⟩:=hasAllW_cons hsh
 obtain rfl:=hasAllW_nil h2
 obtain⟨xs,rfl,h3⟩:=hasW_list h1
 obtain⟨ns,rfl⟩:=items_int h3
 have hlen:ns.length<=n:=by
  unfold OpenLaw.pre at hc
  have h4:(WTm.not (.lt (.lit (.int (n:Int))) (.len (.arg 0)))).holds [] { args:=[.list (ns.map .int)] }=true:=by
   have h4:=(holds_andW hc).1
   rw[hn] at h4
   exact h4
  have h5:=condW_of h4 (w_not (w_lt w_lit (w_len_list (w_arg rfl))))
  rw[pb_] at h5
  refine tb_ fun q=>?_
  have q':(n:Int) < ((ns.length:Nat):Int):=by omega
  first
   | (rw[decide_eq_true q'] at h5;exact absurd h5 (by decide))
   | (simp at h5;omega)
 cases hwl with
 | cons w1 w2 =>
  cases w2
  cases w1 with
  | list ho hall=>exact⟨_,_,ns,rfl,rfl,ho,jbv_ ns _ hall,hlen⟩
theorem jpw_ (l:OpenLaw)(args:List WData):l.row.toRowW.claim.post args (.bool true) args=true :=
 postW_of (r:=l.row.toRowW) (X:=(true == true))
  (show WShape.has [] (.bool true) .bool=true by first | rfl | decide | simp[WShape.has,WShape.arms,WShape.armsAll])
  (show (WTm.eq .res (.lit (.bool true))).value [] { args:=args,res:=some (.bool true),after:=args }=some (.bool (true == true)) from w_eq_bool (w_res rfl) w_lit) rfl
theorem attach_call {l:OpenLaw}{n:Nat}{q:Program}{loose:List Str}{XP:(Str->Option Value)->Heap->Prop}{YP:World->Heap->Prop}{d:DefRec}
  (hn:l.most=some n) (hdf:d.params.defaults=[])
  (call:∀(w:World) (s₀ s₁:Shared) (mg mb:Str->Option Value) (fa:Addr) (o:Obj) (pm cd doc:Value) (a:Addr) (vs:List Value) (ns:List Int),
   Ground q loose [] XP w s₀ mg mb s₁.heap->YP w s₁.heap ->
   s₁.heap.get? fa=some o->o.data=.func (docDef d.name d.params d.body d.scope pm cd doc)->s₁.heap.CodeRec cd d.name->mg d.name=some (.ref fa) ->
   s₁.heap.get? a=some { cls:=.type "list",data:=.seq vs.toArray }->IntsAre vs ns->ns.length<=n->s₁.gens=#[] ->
   codeAny (model l.prog w) callerA (.call (.ref fa) ⟨[.ref a],[]⟩) (fun r s'=>r=.ok (.ret (.bool true))/\OldK s₁.heap s'.heap/\s'.os=s₁.os/\AllBare s'.gens) s₁) :
  WalkO q loose XP YP l.row.toRowW d [] (fun f vs=>PySem.call f vs):=by
 intro w s₀ s₁ mg mb G Y fa o pm cd doc dV kV ho hd hcd hD hmg hg args vals as hpre hlay hrd hwl hlo
 obtain rfl:dV=.none:=Dflts.none hD hdf
 obtain rfl:kV=.none:=Dflts.noKw hD
 obtain⟨a,vs,ns,rfl,rfl,hobj,hints,hlen⟩:=jns_ hn hpre hwl
 refine enter_call (codeAny_mono (call w s₀ s₁ mg mb fa o pm cd doc a vs ns G Y ho (fd_plain hd) hcd hmg hobj hints hlen hg) fun r s' hq=>?_)
 obtain⟨rfl,h2,h3,h4⟩:=hq
 exact⟨.inl ⟨.bool true,.bool true,[],rfl,fun _=>rfl,.bool true,jpw_ l _,fun _=>⟨tk_.nil,fun _ hm=>(nomatch hm)⟩⟩,h2,h3,h4⟩
section
variable {prog:Program}{w:World}{A:Around}{E:Value->Shared->Prop}{s:Shared}{K:Frag}
end
end Att
namespace L2
open PySem PySem.Spec PyProof.Rows
theorem jez_:∀{vs:List Value}{ns:List Int},IntsAre vs ns->Vals (ns.map V.int) vs
 | _,_,.nil=>.nil
 | _,_,.cons n t h=>.cons ⟨t,rfl⟩ (jez_ h)
def Only (H:Hp):Prop:=∀ b,H b=none∨∃ o xs,H b=some (.frz o (.lst xs))
theorem jtm_ {P:Program}{w:World}{K:pc_}{mg mb:Str->Option Value}{CX:CXT}{k:Nat}{fa a:Addr}{fd:FuncData}{x:Str}{sp:Sp}{s₁:Shared}{vs:List Value}{ns:List Int}
  (KX:K.In s₁.heap) (hns:s₁.heap.Ns mainGlobals mg) (hb:s₁.heap.Ns builtinsNs mb) (hbb:∀ x:Str,x≠"__name__"->mb x=bootBuiltins x) (hlim:s₁.heap.NoLimit) (hg:s₁.gens=#[])
  (ha:s₁.heap.get? a=some { cls:=.type "list",data:=.seq vs.toArray }) (hi:IntsAre vs ns) (hl:ns.length<=sizeLine) (hr:Room k callerA)
  (F:∀ base:Heap,K.In base->base.Ns mainGlobals mg->FnOk P w K mg base CX k fa fd [x] sp) (hbind:∀(s:Shared) (u:Value),BindsTo s fd ⟨[u],[]⟩ [(x,u)])
  (hsp:∀ H:Hp,Only H->SqL K H a (ns.map V.int)->sp [.ref a] H (fun v _=>v=.bl true) fun _ _ _=>False)
  (hCX:∀ H e s',CX [] H s₁ (fun _ _ _=>False) e s'->False) :
  codeAny (model P w) callerA (.call (.ref fa) ⟨[.ref a],[]⟩) (fun r s'=>r=.ok (.ret (.bool true))/\OldK s₁.heap s'.heap/\s'.os=s₁.os/\AllBare s'.gens) s₁:=by
 have rv:=jez_ hi
 have lenV:=hi.length
 -- from an abstract heap in which nothing but the script may be tracked
 have core:∀ H:Hp,Only H->SqL K H a (ns.map V.int)->HOk P w H s₁.heap->(∀ b,H b≠none->b=a)->(H a≠none->K.lookup a=none) ->
   codeAny (model P w) callerA (.call (.ref fa) ⟨[.ref a],[]⟩) (fun r s'=>r=.ok (.ret (.bool true))/\OldK s₁.heap s'.heap/\s'.os=s₁.os/\AllBare s'.gens) s₁:=by
  intro H hO hS hok hA hK
  have base_of:∀{b:Addr}{o:Obj},s₁.heap.get? b=some o->H b=none->(hidT s₁.heap H).get? b=some o:=fun e n=>jqz_ e n
  have noA:∀{b:Addr}{o:Obj}{es:Array DictEntry}{ep:Nat},s₁.heap.get? b=some o->o.data=.dict es ep->H b=none:=fun{b o es ep} e d=>by
   cases q:H b with
   | none=>rfl
   | some u =>
    have e':b=a:=hA b (by rw[q];simp)
    subst e'
    rw[ha] at e;cases e
    have d':Data.seq vs.toArray _=Data.dict es ep:=d
    cases d'
  have nsK:∀{b:Addr}{m:Str->Option Value},s₁.heap.Ns b m->(hidT s₁.heap H).Ns b m:=fun{b m} ⟨o,es,ep,e,d,r⟩=>⟨o,es,ep,base_of e (noA e d),d,r⟩
  have hKb:K.In (hidT s₁.heap H):=fun b o e=>base_of (KX b o e) (by
   cases q:H b with
   | none=>rfl
   | some u =>
    have e':b=a:=hA b (by rw[q];simp)
    subst e'
    rw[hK (by rw[q];simp)] at e;cases e)
  have hM:Mod K mg (hidT s₁.heap H):=⟨hKb,nsK hns,⟨mb,nsK hb,hbb⟩,let ⟨mc,h1,h2⟩:=hlim;⟨mc,nsK h1,h2⟩⟩
  have e0:Env0 P w K mg (hidT s₁.heap H) callerA [] s₁ H:=⟨rfl,hM,fun b o e=>jvg_ e,s1_ (jpv_ _ _),trivial,fun b hb=>absurd (show b∈([]:List Addr) from hb) (by simp),hok,.of_eq hg⟩
  refine codeAny_mono ((F _ hKb (nsK hns)).run callerA [] s₁ H ⟨[.ref a],[]⟩ [.ref a] [.ref a] _ _ hr e0 (hbind s₁ (.ref a)) (.cons rfl .nil) (hsp H hO hS)) fun r s' h=>?_
  cases r with
  | error e=>exact(hCX H e s' h).elim
  | ok fl =>
   cases fl with
   | next=>exact sc_ h
   | brk=>exact sc_ h
   | cont=>exact sc_ h
   | ret u =>
    obtain⟨v,H',os,bare,un,hok',r',q⟩:=h
    have q':v=.bl true:=q
    subst q'
    obtain rfl:u=Value.bool true:=r'
    refine⟨rfl,OldK.of_keep fun b o e=>?_,os,bare⟩
    cases q:H b with
    | none=>exact un.keep b o e q (by intro z;exact absurd (show b∈([]:List Addr) from z) (by simp)) (by simp)
    | some u =>
     rcases hO b with z | ⟨ob,xs,z⟩
     ·rw[q] at z;cases z
     ·have z2:=un.frzs b ob _ z
      obtain⟨e1,_⟩:=hok b _ z
      obtain⟨e2,_⟩:=hok' b _ z2
      rw[e] at e1;cases e1
      exact e2
 cases hk:K.lookup a with
 | some o =>
  -- the script is one of the module's own objects
  have e:=KX a o hk
  rw[ha] at e
  cases e
  refine core (fun _=>none) (fun _=>.inl rfl) (.inr ⟨_,vs.toArray,_,hk,rfl,rfl,rfl,by rw[pp_,lenV];exact hl,by simpa using rv⟩) (fun b u z=>by have z':(none:Option HO)=some u:=z;cases z') (fun b z=>absurd rfl z) fun z=>absurd rfl z
 | none =>
  refine core (fun b=>if b=a then some (.frz { cls:=.type "list",data:=.seq vs.toArray } (.lst (ns.map V.int))) else none) (fun b=>?_) (.inl (.inr ⟨{ cls:=.type "list",data:=.seq vs.toArray },if_pos rfl⟩)) (fun b u z=>?_) (fun b z=>?_) fun _=>hk
  ·by_cases hb:b=a
   ·exact .inr ⟨_,_,if_pos hb⟩
   ·exact .inl (if_neg hb)
  ·by_cases hb:b=a
   ·have z':=(if_pos hb).symm.trans z
    cases z'
    subst hb
    exact⟨ha,by rw[pb_];exact hl,vs,_,rv,ha⟩
   ·have z':=(if_neg hb).symm.trans z
    cases z'
  ·by_cases hb:b=a
   ·exact hb
   ·exact absurd (if_neg hb) z
end L2
namespace L2
open PySem PySem.Spec PyProof.Rows
theorem jnm_ {l:le_}{n k:Nat}{q:Program}{loose:List Str}{XP:(Str->Option Value)->Heap->Prop}{YP:World->Heap->Prop}{d:DefRec}{K:Params->pc_}{CX:World->CXT}{sp:World->Sp}{x:Str}
  (hn:l.most=some n) (hn2:n<=sizeLine) (hdf:d.params.defaults=[]) (hr:Room k callerA)
  (hY:∀(w:World) (h:Heap),YP w h->(K w.params).In h)
  (F:∀(w:World) (mg:Str->Option Value) (fa:Addr) (h:Heap),(K w.params).In h->h.Ns mainGlobals mg->mg d.name=some (.ref fa) ->
   ∃ fd:FuncData,(∀(s:Shared) (u:Value),BindsTo s fd ⟨[u],[]⟩ [(x,u)]) /\
    ∀ base:Heap,(K w.params).In base->base.Ns mainGlobals mg->FnOk l.prog w (K w.params) mg base (CX w) k fa fd [x] (sp w))
  (hsp:∀(w:World) (H:Hp) (a:Addr) (ns:List Int),ns.length<=n->Only H->SqL (K w.params) H a (ns.map V.int)->sp w [.ref a] H (fun v _=>v=.bl true) fun _ _ _=>False)
  (hCX:∀(w:World) (H:Hp) (s:Shared) (e:Value) (s':Shared),CX w [] H s (fun _ _ _=>False) e s'->False) :
  PySem.W.WalkO q loose XP YP l.row.toRowW d [] (fun f vs=>PySem.call f vs):=by
 refine Att.attach_call hn hdf fun w s₀ s₁ mg mb fa o pm cd doc a vs ns G Y ho hd hcd hmg hobj hints hlen hg=>?_
 have KX:=hY w _ Y
 obtain⟨fd,hb,hF⟩:=F w mg fa _ KX G.T.g hmg
 exact jtm_ KX G.T.g G.T.b G.T.builtins G.T.nolimit hg hobj hints (p7_ hlen hn2) hr hF hb (fun H hO hS=>hsp w H a ns hlen hO hS) fun H e s'=>hCX w H s₁ e s'
end L2
/- THE LAST THEOREM (shape;LID,My.* are yours):
  My.Adr: a structure of the addresses that your layer names (classes,functions);My.Txt K t: a structure (Prop) of the equations over K;
  My.txt_mk:{K}{implicit addresses ..} (e1:nsIn K mainGlobals "law"=some (some (.ref f))) (e2:K.lookup f=some ⟨oc,od,.func (fnOf "law" "law" params body scope dV kV doc pm an cdv ct),sl⟩) (e3:codeIn K cdv "law"=true) ..:∃ t,My.Txt K t
set_option maxRecDepth 100000 in
set_option maxHeartbeats 0 in
theorem PySem.Challenge.cw_LID_holds : PySem.Challenge.rw_LID.Holds := by
 w_on;o_law;k_head;(case hw=>w_witness2)
 k_fill
 refine L2.jnm_ (l:=PySem.Challenge.rw_LID) (n:=63) (k:=40) (x:="script") (CX:=fun w=>..) (sp:=fun _=>My.sp_law) rfl (by decide) rfl ⟨rfl,by decide,by decide⟩ (fun w h Y=>PySem.W.kIn_of Y) ?F ?S ?C
 case F =>
  intro w mg fa h KX G hmg
  have T:∃ t,My.Txt (L2.KOf KX) t:=by
   dsimp only [L2.KOf]                          -- K must stand as «<heap const> w.params» for k_is
   refine' My.txt_mk ?e1 ?e2 ?e3 ..
   (case e1=>PySem.W.k_is)                    -- in the order: a name -> its address -> its object -> its parts
   (case e2=>PySem.W.k_is)
   ..
  obtain⟨t,T⟩:=T
  have e0:=hmg.symm.trans (qc_ KX G T.law)
  cases e0                                       -- fa is the law's own address
  exact⟨_,fun s u=>.of_eq rfl,fun base kb nb=>My.law_fn T kb nb⟩     -- if «.of_eq rfl» comes too early: refine' ⟨_,?b,fun base kb nb=>My.law_fn T kb nb⟩;exact fun s u=>.of_eq rfl
 case S=>exact fun w H a ns hl hO hS=>..
 case C=>exact ..
(the tactic k_is has no namespace: write k_is) -/
namespace L2
open PySem PySem.Spec PyProof.Rows
noncomputable def jgp_ (s:Stmt)(j:Nat):Stmt:=match s with
 | .ClassDef _ _ _ body _ _ _ _ _ _ _=>body.getD j (.Pass ⟨0,0,0,0⟩)
 | _=>.Pass ⟨0,0,0,0⟩
noncomputable def v4_ (s:Stmt):Arguments:=match s with
 | .FunctionDef _ a _ _ _ _ _ _ _ _=>a
 | _=>{ posonlyargs:=[],args:=[],vararg:=none,kwonlyargs:=[],kw_defaults:=[],kwarg:=none,defaults:=[] }
noncomputable def x9_ (s:Stmt):List Stmt:=match s with
 | .FunctionDef _ _ b _ _ _ _ _ _ _=>b
 | _=>[]
noncomputable def jp_ (s:Stmt):Scope:=match s with
 | .FunctionDef _ _ _ _ _ _ sc _ _ _=>sc
 | _=>{ kind:=.function,names:=[],isGenerator:=false,isCoroutine:=false }
noncomputable abbrev CX0:CXT:=fun _ _ _ _ _ _=>False
noncomputable abbrev E0:XK:=fun _ _ _=>False
theorem jqh_ {X:Cx}:jbb_ CX0 X E0:=fun _ _ _ _ _ _ _ h=>h.elim
structure Fun (K:pc_)(x qual:Str)(st:Stmt)(f:Addr)(fd:FuncData):Prop where
 ex:∃(oc:Value) (od:Option Addr) (kV doc pm:Value) (an:Option Addr) (cdv ct:Value) (osl:Array (Option Value)),
  fd=s2_ x qual (v4_ st) (x9_ st) (jp_ st) .none kV doc pm an cdv ct/\K.lookup f=some ⟨oc,od,.func fd,osl⟩/\w7_ K cdv qual=true
 kp:si_ K (.ref f)=true
section
variable {P:Program}{w:World}{K:pc_}{mg:Str->Option Value}{base:Heap}
theorem Fun.ok {x qual:Str}{st:Stmt}{f:Addr}{fd:FuncData}{N ps:List Str}{k:Nat}{sp:Sp}(F:Fun K x qual st f fd)(S:FnScope N ps (jp_ st))(len:∀ vs H Q E,sp vs H Q E->vs.length=ps.length)
  (hbody:∀(cdv:Value) (A:Around) (outer:List Env) (s:Shared) (H:Hp) (vs:List V) (Q:VK) (E:XK),Room k (A.deeper (envOfC qual (jp_ st) s.heap.objs.size f cdv))->sp vs H Q E ->
   ∃ t,PSs (cxOf CX0 P w K mg base N qual (jp_ st) f cdv A outer s H E).nox (x9_ st) t/\t { nx:=fun _ H'=>Q .non H',rt:=Q } (start N vs) H):FnOk P w K mg base CX0 (k+1) f fd ps sp:=by
 obtain⟨oc,od,kV,doc,pm,an,cdv,ct,osl,rfl,lk,hcd⟩:=F.ex
 refine fn_of lk hcd S len fun A outer s H vs Q E hr hsp=>?_
 obtain⟨t,h,q⟩:=hbody cdv A outer s H vs Q E hr hsp
 exact⟨t,h.nox,q⟩
theorem Fun.binds {x qual:Str}{st:Stmt}{f:Addr}{fd:FuncData}{ps:List Str}(F:Fun K x qual st f fd)
  (h:∀(kV doc pm:Value) (an:Option Addr) (cdv ct:Value) (us:List Value),us.length=ps.length->bindArgs (s2_ x qual (v4_ st) (x9_ st) (jp_ st) .none kV doc pm an cdv ct) ⟨us,[]⟩=pure (ps.zip us)):Binds K fd ps []:=by
 obtain⟨oc,od,kV,doc,pm,an,cdv,ct,osl,rfl,lk,hcd⟩:=F.ex
 exact .all (h kV doc pm an cdv ct)
theorem jrl_ {x qual:Str}{st:Stmt}{f:Addr}{oc:Value}{od an:Option Addr}{osl:Array (Option Value)}{kV doc pm cdv ct:Value}(l:K.lookup f=some ⟨oc,od,.func (s2_ x qual (v4_ st) (x9_ st) (jp_ st) .none kV doc pm an cdv ct),osl⟩)
  (c:w7_ K cdv qual=true) (k:si_ K (.ref f)=true):Fun K x qual st f (s2_ x qual (v4_ st) (x9_ st) (jp_ st) .none kV doc pm an cdv ct):=⟨⟨oc,od,kV,doc,pm,an,cdv,ct,osl,rfl,l,c⟩,k⟩
end
section
variable {X:Cx}
theorem pv (i:Nat){x:Str}{pos:Pos}(hN:X.N[i]?=some x:=by rfl)(hv:Vis X.env.scope x:=by first | exact Or.inl rfl | exact Or.inr (Or.inl rfl) | exact Or.inr (Or.inr rfl))(hd:(x == ("__debug__":Str))=false:=by decide)
  (hcd:(x == ("__classdict__":Str))=false:=by decide):PE X (.Name x pos) (tVar i):=jzl_ hN hv hd hcd
end
theorem iteF {A B:Prop}(h:B):if false=true then A else B:=by
 rw[if_neg pk_]
 exact h
theorem iteT {A B:Prop}(h:A):if true=true then A else B:=by
 rw[if_pos rfl]
 exact h
def Same (H H':Hp):Prop:=∀ b o,H b=some o->H' b=some o
theorem Same.refl (H:Hp):Same H H:=fun _ _ h=>h
theorem Same.trans {H H1 H2:Hp}(a:Same H H1)(b:Same H1 H2):Same H H2:=fun c o h=>b c o (a c o h)
theorem Same.free {H H':Hp}(e:Same H H'){l:Addr}(h:H' l=Option.none):H l=Option.none:=by
 cases q:H l with
 | none=>rfl
 | some o =>
  rw[e l o q] at h
  cases h
theorem Same.seq {K:pc_}{H H':Hp}{a:Addr}{xs:List V}(e:Same H H')(h:SqL K H a xs):SqL K H' a xs:=by
 rcases h with (h | ⟨o,h⟩) | h
 ·exact .inl (.inl (e _ _ h))
 ·exact .inl (.inr ⟨o,e _ _ h⟩)
 ·exact .inr h
end L2
namespace L2
open PySem
noncomputable def clTo (cells:List (Str×Addr)):List (Str×NameKind)->List (Str×Addr)->List (Str×Addr)
 | [],acc=>acc
 | (n,k)::r,acc=>if k == .free then clTo cells r ((n,(cells.lookup n).getD 0)::acc) else clTo cells r acc
theorem jen_ {scope:Scope}{env:Env}(h:∀ y∈scope.names,y.2=.free->∃ c,env.cells.lookup y.1=some c) :
  closureFor scope env=pure (clTo env.cells scope.names []):=by
 simp only[closureFor]
 generalize ([]:List (Str×Addr))=acc
 revert h
 generalize scope.names=l
 intro h
 have key:∀(l:List (Str×NameKind)) (acc:List (Str×Addr)),(∀ y∈l,y.2=.free->∃ c,env.cells.lookup y.1=some c) ->
   (forIn l acc (fun x r=>if (x.snd == NameKind.free)=true then do
      let a <- cellOf env x.fst
      pure (ForInStep.yield ((x.fst,a)::r)) else pure (ForInStep.yield r)):Sem _)=pure (clTo env.cells l acc):=by
  intro l
  induction l with
  | nil=>intro acc _;rfl
  | cons y l ih =>
   intro acc h
   obtain⟨n,k⟩:=y
   rw[tl_]
   have hr:=fun y hy=>h y (pl_ _ hy)
   by_cases hk:(k == NameKind.free)=true
   ·obtain⟨c,hc⟩:=h (n,k) pn_ (by simpa using hk)
    have hc':env.cells.lookup n=some c:=hc
    have e1:cellOf env n=pure c:=by unfold cellOf;rw[hc']
    simp only[hk,if_true,e1,clTo,hc',sx_,pure_bind]
    exact ih _ hr
   ·simp only[Bool.not_eq_true] at hk
    simp only[hk,p4_,if_false,clTo,pure_bind]
    exact ih _ hr
 rw[key l acc h]
 rfl
theorem v8_ {cells:List (Str×Addr)}{x:Str}:∀(l:List (Str×NameKind)) (acc:List (Str×Addr)),((x,NameKind.free)∈l∨acc.lookup x=some ((cells.lookup x).getD 0)) ->
  (clTo cells l acc).lookup x=some ((cells.lookup x).getD 0)
 | [],acc,h=>by
  rcases h with h | h
  ·cases h
  ·exact h
 | (n,k)::r,acc,h=>by
  unfold clTo
  by_cases hk:(k == NameKind.free)=true
  ·rw[if_pos hk]
   refine v8_ r _ ?_
   by_cases e:x=n
   ·subst e;right;simp
   ·rcases h with h | h
    ·left
     rcases p6_.mp h with h | h
     ·injection h with h1 _;exact absurd h1 e
     ·exact h
    ·right
     rw[qr_,beq_eq_false_iff_ne.mpr e];exact h
  ·rw[if_neg hk]
   refine v8_ r _ ?_
   rcases h with h | h
   ·left
    rcases p6_.mp h with h | h
    ·injection h with _ h2;rw[<- h2] at hk;exact absurd rfl hk
    ·exact h
   ·exact .inr h
theorem jgo_ {cells:List (Str×Addr)}{x:Str}{c:Addr}:∀(l:List (Str×NameKind)) (acc:List (Str×Addr)),(clTo cells l acc).lookup x=some c ->
  acc.lookup x=some c∨((x,NameKind.free)∈l/\c=(cells.lookup x).getD 0)
 | [],acc,h=>.inl h
 | (n,k)::r,acc,h=>by
  unfold clTo at h
  by_cases hk:(k == NameKind.free)=true
  ·rw[if_pos hk] at h
   rcases jgo_ r _ h with q | ⟨q1,q2⟩
   ·by_cases e:x=n
    ·subst e
     rw[qr_,beq_self_eq_true] at q
     have hk':k=.free:=by simpa using hk
     subst hk'
     exact .inr ⟨pn_,(Option.some.inj q).symm⟩
    ·rw[qr_,beq_eq_false_iff_ne.mpr e] at q
     exact .inl q
   ·exact .inr ⟨pl_ _ q1,q2⟩
  ·rw[if_neg hk] at h
   rcases jgo_ r _ h with q | ⟨q1,q2⟩
   ·exact .inl q
   ·exact .inr ⟨pl_ _ q1,q2⟩
section
variable {prog:Program}{w:World}{A:Around}
 {R:Result->Shared->Prop}{s:Shared}
theorem jgr_ {M:Model}(hM:M=model prog w){elt target iter:Expr}{ifs:List Expr}{scope:Scope}{pos:Pos}{it acc:Value}{env:Env}(I:Nat->Shared->Prop)
  (turn:∀ n s,I n s->wpAny M A (pyNext it) (fun r z₁=>match r with
   | none=>R (.ok .next) z₁
   | some v=>wpAny M A (letOwnedTupleGo target it v) (fun _ z₀=>wpAny M A (assign target env v) (fun _ z₂ =>
     wpAny M A (forIn ifs true fun c r=>if r=true then do let ok <- isTrue c env (eval c env);pure (ForInStep.yield ok) else pure (ForInStep.yield r)) (fun ok z₃ =>
      if ok=true then wpAny M A (eval elt env) (fun x z₄ =>
       wpAny M A (call (.builtin "list.append") [acc,x]) (fun _ z₅=>∃ m,m < n/\I m z₅) (notedBy M A env fun e s'=>R (.error e) s') z₄) (notedBy M A env fun e s'=>R (.error e) s') z₃
      else ∃ m,m < n/\I m z₃) (notedBy M A env fun e s'=>R (.error e) s') z₂) (notedBy M A env fun e s'=>R (.error e) s') z₀) (notedBy M A env fun e s'=>R (.error e) s') z₁) (notedBy M A env fun e s'=>R (.error e) s') s)
  (n:Nat) (h:I n s) :
  codeAny M A (.compLoop (.ListComp elt [⟨target,iter,ifs,0⟩] scope pos) 0 it acc env) R s:=by
 subst hM
 refine codeAny_loop rfl I (fun k z hz=>?_) n h
 show wpAny _ A (Sem.onRaise (compTurn (.ListComp elt [⟨target,iter,ifs,0⟩] scope pos) 0 it acc env) _) _ _ z
 rw[compTurn_list]
 refine wpAny_noted (wpAny_bind (wpAny_standAt (wpAny_bind (wpAny_mono (turn k z hz) (fun r z1 g1=>?_) fun _ _ e=>e))))
 match r,g1 with
 | none,g1=>exact wpAny_pure g1
 | some v,g1 =>
  refine wpAny_bind (wpAny_mono g1 (fun _ z2 g2=>wpAny_bind (wpAny_mono g2 (fun _ z3 g3=>wpAny_bind (wpAny_mono g3 (fun b z4 g4=>?_) fun _ _ e=>e)) fun _ _ e=>e)) fun _ _ e=>e)
  match b,g4 with
  | false,g4=>exact wpAny_pure ⟨rfl,g4⟩
  | true,g4 =>
   refine wpAny_bind (wpAny_bind (wpAny_mono g4 (fun y z5 g5=>wpAny_bind (wpAny_mono g5 (fun _ z6 g6=>?_) fun _ _ e=>e)) fun _ _ e=>e))
   exact wpAny_pure (wpAny_pure ⟨rfl,g6⟩)
end
end L2
namespace L2
open PySem PySem.Spec PyProof.Rows
noncomputable def jtv_ (σ:St):Option Nat->Option V
 | none=>none
 | some j=>match σ[j]? with
  | some (some v)=>some v
  | _=>none
noncomputable def pick (ix:List (Option Nat))(σ:St):St:=ix.map (jtv_ σ)
theorem jrz_ {ix:List (Option Nat)}{σ:St}{i:Nat}{v:V}(h:(pick ix σ)[i]?=some (some v)):∃ j,ix[i]?=some (some j)/\σ[j]?=some (some v):=by
 unfold pick at h
 rw[pf_] at h
 cases e:ix[i]? with
 | none=>rw[e] at h;cases h
 | some o =>
  rw[e] at h
  have h':jtv_ σ o=some v:=Option.some.inj h
  cases o with
  | none=>cases h'
  | some j =>
   refine⟨j,rfl,?_⟩
   unfold jtv_ at h'
   dsimp only at h'
   split at h'
   ·rename_i q;rw[q,h']
   ·cases h'
noncomputable def z3_ (X:Cx)(pins:List (Addr×Obj))(scope:Scope)(N':List Str)(fp:List Addr)(s3:Shared)(H3:Hp):Cx where
 prog:=X.prog
 w:=X.w
 K:=X.K
 mg:=X.mg
 base:=X.base
 A:=X.A
 N:=N'
 s₀:=s3
 H₀:=H3
 env:=compEnvC scope (clTo X.env.cells scope.names []) s3.heap.objs.size X.env
 outer:=X.stack
 stack:=X.stack
 ex:=fp
 fn:=fun _=>false
 calm:=X.calm
 pn:=X.pn++pins
 xe:=fun _ _=>False
noncomputable def yd_ (names:List (Str×NameKind))(N:List Str):List (Option Nat)->List Str->Bool
 | [],[]=>true
 | none::r,_::q=>yd_ names N r q
 | some j::r,x::q=>N[j]? == some x&&names.lookup x == some .free&&yd_ names N r q
 | _,_=>false
noncomputable def jdw_ (sc:Scope)(N:List Str)(scope:Scope)(N':List Str)(ix:List (Option Nat)):Bool :=
 scope.names.all (fun y=>y.2 != .cell)&&scope.names.all (fun y=>y.2 != .local || scope.names.lookup y.1 == some .local)
  && scope.names.all (fun y=>y.2 != .free || (sc.names.lookup y.1 == some .cell || sc.names.lookup y.1 == some .free))&&yd_ scope.names N ix N'
theorem uk_ {names:List (Str×NameKind)}{N:List Str}:∀{ix:List (Option Nat)}{N':List Str},yd_ names N ix N'=true->ix.length=N'.length
 | [],[],_=>rfl
 | none::r,_::q,h=>by simp only[yd_] at h;simp[uk_ h]
 | some j::r,x::q,h=>by simp only[yd_,qe_] at h;simp[uk_ h.2]
 | [],_::_,h=>by simp[yd_] at h
 | none::_,[],h=>by simp[yd_] at h
 | some _::_,[],h=>by simp[yd_] at h
theorem uv_ {names:List (Str×NameKind)}{N:List Str}:∀{ix:List (Option Nat)}{N':List Str}{i j:Nat}{x:Str},yd_ names N ix N'=true->ix[i]?=some (some j)->N'[i]?=some x ->
  N[j]?=some x/\names.lookup x=some .free
 | [],[],_,_,_,_,e,_=>by simp at e
 | none::r,_::q,0,_,_,_,e,_=>by simp at e
 | none::r,_::q,i+1,_,_,h,e,e'=>by
  simp only[yd_] at h
  exact uv_ h (by simpa using e) (by simpa using e')
 | some j::r,x::q,0,_,_,h,e,e'=>by
  simp only[yd_,qe_] at h
  simp at e e'
  subst e;subst e'
  exact⟨by simpa using h.1.1,by simpa using h.1.2⟩
 | some j::r,x::q,i+1,_,_,h,e,e'=>by
  simp only[yd_,qe_] at h
  exact uv_ h.2 (by simpa using e) (by simpa using e')
 | [],_::_,_,_,_,h,_,_=>by simp[yd_] at h
 | none::_,[],_,_,_,h,_,_=>by simp[yd_] at h
 | some _::_,[],_,_,_,h,_,_=>by simp[yd_] at h
theorem mem_of_lookup {α β:Type} [BEq α] [LawfulBEq α]{x:α}{k:β}:∀{l:List (α×β)},l.lookup x=some k->(x,k)∈l
 | [],h=>by cases h
 | (n,k')::r,h=>by
  rw[qr_] at h
  by_cases e:x == n
  ·rw[e] at h
   have e':x=n:=by simpa using e
   cases h
   rw[e'];exact pn_
  ·have e':(x == n)=false:=by simpa using e
   rw[e'] at h
   exact pl_ _ (mem_of_lookup h)
theorem x6_ {env:Env}{x:Str}{k:NameKind}:∀{names:List (Str×NameKind)},(∀ y∈names,y.2≠.cell) ->
  (names.map fun(n,k)=>if (k == NameKind.free&&env.scope.kind == .function&&env.kindOf n == some .cell) then (n,NameKind.cell) else (n,k)).lookup x=some k->(k=.cell∨k=.free)->(x,NameKind.free)∈names
 | [],_,h,_=>by cases h
 | (n,k')::r,hc,h,hk=>by
  rw[pr_] at h
  have hc':=fun y hy=>hc y (pl_ _ hy)
  have hk':k'≠.cell:=hc (n,k') pn_
  by_cases e:x=n
  ·subst e
   dsimp only at h
   split at h
   ·rename_i q
    rw[qr_,beq_self_eq_true] at h
    have:k'=.free:=by simp only[qe_] at q;simpa using q.1.1
    subst this;exact pn_
   ·rw[qr_,beq_self_eq_true] at h
    have hkk:k'=k:=Option.some.inj h
    subst hkk
    rcases hk with z | z
    ·exact absurd z hk'
    ·subst z;exact pn_
  ·have e':(x == n)=false:=beq_eq_false_iff_ne.mpr e
   refine pl_ _ (x6_ (env:=env) hc' ?_ hk)
   dsimp only at h
   split at h
   ·rw[qr_,e'] at h;exact h
   ·rw[qr_,e'] at h;exact h
theorem vf_ {env:Env}{x:Str}:∀{names:List (Str×NameKind)},names.lookup x=some .free ->
  (names.map fun(n,k)=>if (k == NameKind.free&&env.scope.kind == .function&&env.kindOf n == some .cell) then (n,NameKind.cell) else (n,k)).lookup x=some .cell ∨
  (names.map fun(n,k)=>if (k == NameKind.free&&env.scope.kind == .function&&env.kindOf n == some .cell) then (n,NameKind.cell) else (n,k)).lookup x=some .free
 | [],h=>by cases h
 | (n,k')::r,h=>by
  rw[pr_]
  rw[qr_] at h
  by_cases e:x=n
  ·subst e
   rw[beq_self_eq_true] at h
   have hk:k'=.free:=Option.some.inj h
   subst hk
   dsimp only
   split
   ·left;rw[qr_,beq_self_eq_true]
   ·right;rw[qr_,beq_self_eq_true]
  ·have e':(x == n)=false:=beq_eq_false_iff_ne.mpr e
   rw[e'] at h
   dsimp only
   split
   ·rw[qr_,e'];exact vf_ h
   ·rw[qr_,e'];exact vf_ h
structure CompFacts (X:Cx)(scope:Scope)(N':List Str)(ix:List (Option Nat)):Prop where
 nocell:∀ y∈scope.names,y.2≠.cell
 names:∀ y∈scope.names,y.2=.local->scope.names.lookup y.1=some .local
 free:∀ x,(x,NameKind.free)∈scope.names->X.env.kindOf x=some .cell∨X.env.kindOf x=some .free
 len:ix.length=N'.length
 link:∀{i j:Nat}{x:Str},ix[i]?=some (some j)->N'[i]?=some x->X.N[j]?=some x/\scope.names.lookup x=some .free
theorem jot_ {X:Cx}{scope:Scope}{N':List Str}{ix:List (Option Nat)}(h:jdw_ X.env.scope X.N scope N' ix=true):CompFacts X scope N' ix:=by
 simp only[jdw_,qe_,sd_] at h
 obtain⟨⟨⟨h1,h2⟩,h3⟩,h4⟩:=h
 refine⟨fun y hy=>by simpa using h1 y hy,fun y hy e=>?_,fun x hx=>?_,uk_ h4,fun e e'=>uv_ h4 e e'⟩
 ·have q:=h2 y hy
  rw[e] at q
  simpa using q
 ·have q:=h3 _ hx
  have q':X.env.scope.names.lookup x=some .cell∨X.env.scope.names.lookup x=some .free:=by simpa using q
  exact q'
section
variable {X:Cx}{pins:List (Addr×Obj)}{σ:St}{H H':Hp}{s s':Shared}{scope:Scope}{N':List Str}{ix:List (Option Nat)}{fp:List Addr}
theorem FpOk.stk {b:Addr}(I:Inv X pins σ H s)(f:FpOk X pins H b):b∉frs X.stack:=fun z=>by
 rcases p6_.mp (I.stkSub b z) with q | q
 ·exact f.2.1 q
 ·exact f.2.2.1 q
theorem xd_ (I:Inv X pins σ H s)(F:CompFacts X scope N' ix){x:Str}{c:Addr}(h:(clTo X.env.cells scope.names []).lookup x=some c):X.env.cells.lookup x=some c/\(x,NameKind.free)∈scope.names:=by
 rcases jgo_ _ _ h with q | ⟨q1,q2⟩
 ·cases q
 ·obtain⟨c',e⟩:=I.ok.has x (F.free x q1)
  rw[e] at q2
  exact⟨by rw[e,q2];rfl,q1⟩
theorem jus_ (I:Inv X pins σ H s)(F:CompFacts X scope N' ix)(hk:scope.kind=.function)(hf:∀ b∈fp,FpOk X pins H b)(ho:∀ b∈fp,∃ o,s.heap.get? b=some o):(z3_ X pins scope N' fp s H).Ok where
 mod:=I.ok.mod
 kind:=hk
 glob:=I.ok.glob
 blt:=I.ok.blt
 above:=pm_ _
 inj:=fun x y c e1 e2=>I.ok.inj x y c (xd_ I F e1).1 (xd_ I F e2).1
 has:=fun x hx=>by
  have q:(x,NameKind.free)∈scope.names:=by
   rcases hx with z | z
   ·exact x6_ F.nocell z (.inl rfl)
   ·exact x6_ F.nocell z (.inr rfl)
  exact⟨_,v8_ _ _ (.inl q)⟩
 cab:=fun x c e=>by cases e
 hd:=I.ok.hd
 frames:=I.ok.frames
 stk:=.inl rfl
 exf:=fun b hb=>by
  obtain⟨o,e⟩:=ho b hb
  exact⟨qg_ (p2_ e),fun x c q=>(hf b hb).2.2.2.2.1 x c (xd_ I F q).1⟩
 bs:=fun b o e=>I.bs b o e
 bsz:=p7_ I.ok.bsz I.sz
 noex:=fun b o e hb=>by
  rcases (hf b hb).2.2.2.1 with z | z
  ·exact I.ok.noex b o e z
  ·exact absurd (qh_ (p2_ (I.ok.bs b o e).1) z) (se_ _)
 exfs:=fun b hb=>FpOk.stk I (hf b hb)
 funs:=I.stack
 frf:=I.stkFree
theorem jsy_ {h':Heap}{m:Str->Option Value}{ob:Obj}{t:Nat}(I:Inv X pins σ H s)(F:CompFacts X scope N' ix)(hk:scope.kind=.function)(hf:∀ b∈fp,FpOk X pins H b)(ho:∀ b∈fp,∃ o,s.heap.get? b=some o)
  (hn:h'.Ns s.heap.objs.size m) (hs:qx_ s.heap.objs.size (s.heap.push ob) h') :
  Inv (z3_ X pins scope N' fp s H) [] (pick ix σ) H { s with heap:=h',toks:=t }:=by
 have k:∀ b u,s.heap.get? b=some u->h'.get? b=some u:=fun b u e =>
  (hs.2 b (qg_ (p2_ e))).trans (pi_ _ e)
 refine⟨jus_ I F hk hf ho,rfl,I.bare,Un.kept k,⟨m,hn,fun i x v e1 e2 e3=>?_⟩,fun x c e=>?_,I.fresh,fun x c e=>?_,fun p hp=>?_,I.hok.kept k,?_⟩
 ·obtain⟨j,ej,ev⟩:=jrz_ e2
  obtain⟨l1,l2⟩:=F.link ej e1
  have fr:(x,NameKind.free)∈scope.names:=mem_of_lookup l2
  obtain⟨m0,hn0,hl⟩:=I.loc
  have vis:Vis X.env.scope x:=.inr (F.free x fr)
  obtain⟨u,r,l⟩:=hl j x v l1 ev vis
  refine⟨u,r,.inr ⟨vf_ l2,?_⟩⟩
  rcases l with ⟨l,_⟩ | ⟨_,c,e,z⟩
  ·rcases F.free x fr with q | q
   ·rw[q] at l;cases l
   ·rw[q] at l;cases l
  ·refine⟨c,?_,z.keeps k⟩
   show (clTo X.env.cells scope.names []).lookup x=some c
   rw[v8_ _ _ (.inl fr),e];rfl
 ·obtain⟨v,z⟩:=I.cell x c (xd_ I F e).1
  exact⟨v,z.keeps k⟩
 ·exact I.freeC x c (xd_ I F e).1
 ·have hp':p∈X.pn++pins:=by
   have z:p∈(X.pn++pins)++[]:=hp
   rwa [qk_] at z
  obtain⟨e,n,ne,nf,d⟩:=I.pin p hp'
  refine⟨k _ _ e,n,qg_ (p2_ e),fun z=>?_,d⟩
  rcases p6_.mp (I.stkSub p.1 z) with q | q
  ·exact ne q
  ·exact nf q
 ·show (pick ix σ).length=N'.length
  unfold pick;rw[pb_];exact F.len
theorem HOk.sameBut {P:Program}{w:World}{h h':Heap}{a:Addr}(ok:HOk P w H h)(hn:H a=none)(hs:qx_ a h h'):HOk P w H h':=fun b ob e=>by
 refine(ok b ob e).stay (fun c w' hc q=>(hs.2 c ?_).trans q) (fun _ q=>q) fun _ _ q=>q
 rintro rfl
 rcases hc with rfl | hc
 ·rw[hn] at e;cases e
 ·rw[hn] at hc;cases hc
theorem jkl_ {σ':St}{ps:List (Addr×Obj)}{h':Heap}(I:Inv X pins σ H s)(hf:∀ b∈fp,FpOk X pins H b)(I':Inv (z3_ X pins scope N' fp s H) ps σ' H' s')(hs:qx_ s.heap.objs.size s'.heap h') :
  Inv X pins σ H' { s' with heap:=h' }:=by
 have bk:∀{b o o'},s.heap.get? b=some o->s'.heap.get? b=some o'->h'.get? b=some o':=fun{b o o'} e e'=>(hs.2 b (qg_ (p2_ e))).trans e'
 refine I.call' (s':={ s' with heap:=h' }) (ch:=fp) I'.os ⟨fun b o e n hb hx=>?_,fun b o e n hb hx=>?_,I'.base.free,fun b o e hx=>?_,I'.base.tups,I'.base.frzs,I'.base.tbls⟩ (I'.hok.sameBut I'.free hs) I'.bare fun b hb=>⟨(hf b hb).2.2.2.1,(hf b hb).2.1,(hf b hb).2.2.2.2.1,(hf b hb).2.2.2.2.2⟩
 ·exact bk e (I'.base.keep b o e n hb hx)
 ·obtain⟨sl,q⟩:=I'.base.slot b o e n hb hx
  exact⟨sl,bk e q⟩
 ·obtain⟨o',q⟩:=I'.base.there b o e hx
  exact⟨o',bk e q⟩
end
noncomputable def PTs (X:Cx)(ifs:List Expr)(t:TT):Prop :=
 ∀(pins:List (Addr×Obj)) (s:Shared) (σ:St) (H:Hp) (Q:Bool->Hp->Prop),Inv X pins σ H s->t σ H Q ->
  wpAny (model X.prog X.w) X.A (forIn ifs true fun c r=>if r=true then do let ok <- isTrue c X.env (eval c X.env);pure (ForInStep.yield ok) else pure (ForInStep.yield r)) (TP X pins σ Q) X.xe s
def jwp_:TT:=fun _ H Q=>Q true H
theorem z6_ {X:Cx}:PTs X [] jwp_:=fun _ _ _ H _ I h=>wpAny_tests_nil ⟨H,I,h⟩
theorem xu_ {X:Cx}{c:Expr}{t:TT}(h:PT X c t):PTs X [c] t:=fun pins s σ H Q I q=>wpAny_tests_one (h pins s σ H Q I q)
noncomputable def xe_ (J:It)(p:Addr)(g:TG)(tc:TT)(te:TE)(Q:VK)(σ0:St)(H0:Hp):Prop :=
 ∃ W:Nat->Nat->List V->St->Hp->Prop,(∃ m,W 0 m [] σ0 H0)/\∀ i m acc σ' H',W i m acc σ' H'->H' p=some (.lst acc) /\
  ((J.stop i H'/\Q (.ref p) H')∨(J.go i H'/\acc.length < sizeLine/\∃ N:List V->St->Hp->Prop,(∀ a' σ3 H3,N a' σ3 H3->∃ m',m' < m/\W (i+1) m' a' σ3 H3) /\
   ∀ x H2,J.yld i H' x H2->g x σ' H2 fun σ3 H3=>tc σ3 H3 fun b H4 =>
    if b=true then te σ3 H4 fun v H5=>H5 p=some (.lst acc)/\N (acc++[v]) σ3 (upd H5 p (.lst (acc++[v]))) else N acc σ3 H4))
def jmg_ (ix:List (Option Nat))(wi:TI)(g:TG)(tc:TT)(te:TE):TE:=fun σ H Q=>wi σ H fun J H1=>∀ p,H1 p=none->xe_ J p g tc te Q (pick ix σ) (upd H1 p (.lst []))
section
variable {X:Cx}{elt tg iter:Expr}{ifs:List Expr}{scope:Scope}{pos:Pos}{N':List Str}{ix:List (Option Nat)}{wi:TI}{g:TG}{tc:TT}{te:TE}
theorem jjl_ {use:Option (Value->Sem Unit)}{R:Value->Shared->Prop}{pins:List (Addr×Obj)}{s:Shared}{σ:St}{H:Hp}{Q:VK}(hc:X.calm=true)(ok:jdw_ X.env.scope X.N scope N' ix=true)(hk:scope.kind=.function)
  (hi:PI X tg iter wi)
  (hg:∀ pins fp s3 H3,PG (z3_ X pins scope N' fp s3 H3) tg g) (ht:∀ pins fp s3 H3,PTs (z3_ X pins scope N' fp s3 H3) ifs tc) (he:∀ pins fp s3 H3,PE (z3_ X pins scope N' fp s3 H3) elt te)
  (hs:∀ x,foldedSetIterable iter X.env x=pure x) (I:Inv X pins σ H s) (h:jmg_ ix wi g tc te σ H Q)
  (fin:∀(p C:Addr) (H':Hp) (s':Shared),(∃ m,s'.heap.Ns C m)->FpOk X pins H' C->(∀ h',qx_ C s'.heap h'->Inv X pins σ H' { s' with heap:=h' })->Q (.ref p) H'->compPost (model X.prog X.w) X.A X.xe use R (.ref p) C (.ok .next) s') :
  wpAny (model X.prog X.w) X.A (comprehension (.ListComp elt [⟨tg,iter,ifs,0⟩] scope pos) scope X.env (firstIterPos [⟨tg,iter,ifs,0⟩] pos) (newList []) (firstAsync [⟨tg,iter,ifs,0⟩]) (firstIter [⟨tg,iter,ifs,0⟩] X.env) use) R X.xe s:=by
 have F:=jot_ ok
 refine wpAny_comprehension_free (cl:=clTo X.env.cells scope.names []) rfl hs (jen_ fun y hy e=>?_) hk F.names ?_
 ·obtain⟨n,k⟩:=y
  have e':k=.free:=e
  subst e'
  exact I.ok.has n (F.free n hy)
 refine thn (hi pins s σ H _ I h) fun v s1 h1=>thn h1 fun itv s2 h2=>?_
 obtain⟨it,fp,tn,J,H2,e,I2,T,st2,f2,rd⟩:=h2
 subst e
 refine wpAny_newObj_type ?_
 have hp:=I2.fresh
 obtain⟨W,⟨m0,w0⟩,turn⟩:=rd _ hp
 have I3:=I2.lnew (ys:=[]) (its:=[]) (t':=s2.toks) Paired.nil (qj_ _)
 have hf3:∀ b∈fp,FpOk X pins (upd H2 s2.heap.objs.size (.lst [])) b:=fun b hb=>by
  obtain⟨o,e,_⟩:=T.obj _ _ st2 b hb
  exact⟨by rw[jh_ (qg_ (p2_ e))];exact(f2 b hb).1,(f2 b hb).2⟩
 have ho3:∀ b∈fp,∃ o,(s2.heap.push { cls:=.type "list",data:=.seq ([]:List Value).toArray }).get? b=some o:=fun b hb=>by
  obtain⟨o,e,_⟩:=T.obj _ _ st2 b hb
  exact⟨o,pi_ _ e⟩
 have hpC:s2.heap.objs.size≠(s2.heap.push { cls:=.type "list",data:=.seq ([]:List Value).toArray }).objs.size:=by
  rw[r1_];exact qg_ (sw_ _)
 refine wpAny_newFunctionEnv F.nocell (by intro y hy;simp at hy) (fun h4 hn4 hs4=>?_) hk
 have I4:=jsy_ (t:=s2.toks+([]:List (Str×Value)).length) I3 F hk hf3 ho3 hn4 hs4
 have k4:∀ b o,s2.heap.get? b=some o->h4.get? b=some o:=fun b o e =>
  (hs4.2 b (qg_ (qh_ (p2_ e) (by rw[r1_];exact ls_ _)))).trans (pi_ _ (pi_ _ e))
 have st4:tn 0 h4:=T.keep _ _ _ st2 fun b _ o e=>k4 b o e
 have fx:∀{H':Hp}{ps:List (Addr×Obj)},(∀ b∈fp,H' b=none)->(∀ b∈fp,∀ p∈ps,p.1≠b)->∀ b∈fp,FpOk (z3_ X pins scope N' fp { s2 with heap:=s2.heap.push { cls:=.type "list",data:=.seq ([]:List Value).toArray },toks:=s2.toks } (upd H2 s2.heap.objs.size (.lst []))) ps H' b:=fun{H' ps} hn hps b hb=>by
  obtain⟨o,e⟩:=ho3 b hb
  refine⟨hn b hb,qg_ (p2_ e),FpOk.stk I3 (hf3 b hb),.inl hb,fun x c q=>(hf3 b hb).2.2.2.2.1 x c (xd_ I3 F q).1,fun p hp=>?_⟩
  rcases pt_.mp hp with z | z
  ·exact(hf3 b hb).2.2.2.2.2 p z
  ·exact hps b hb p z
 have loop:codeAny (model X.prog X.w) X.A (.compLoop (.ListComp elt [⟨tg,iter,ifs,0⟩] scope pos) 0 (.ref it) (.ref s2.heap.objs.size) (compEnvC scope (clTo X.env.cells scope.names []) (s2.heap.push { cls:=.type "list",data:=.seq ([]:List Value).toArray }).objs.size X.env))
   (compPost (model X.prog X.w) X.A X.xe use R (.ref s2.heap.objs.size) (s2.heap.push { cls:=.type "list",data:=.seq ([]:List Value).toArray }).objs.size) { s2 with heap:=h4,toks:=s2.toks+([]:List (Str×Value)).length }:=by
  refine jgr_ rfl (fun n s'=>∃ i acc σ' H',Inv (z3_ X pins scope N' fp { s2 with heap:=s2.heap.push { cls:=.type "list",data:=.seq ([]:List Value).toArray },toks:=s2.toks } (upd H2 s2.heap.objs.size (.lst []))) [] σ' H' s'/\tn i s'.heap/\(∀ b∈fp,H' b=none)/\W i n acc σ' H')
   ?_ m0 ⟨0,[],_,_,I4,st4,fun b hb=>(hf3 b hb).1,w0⟩
  rintro n s5 ⟨i,acc,σ5,H5,I5,st5,fr5,w5⟩
  obtain⟨hacc,alt⟩:=turn i n acc σ5 H5 w5
  rcases alt with ⟨stop,q⟩ | ⟨go,hz,N,hN,step⟩
  ·refine wpAny_mono (T.done (z3_ X pins scope N' fp { s2 with heap:=s2.heap.push { cls:=.type "list",data:=.seq ([]:List Value).toArray },toks:=s2.toks } (upd H2 s2.heap.objs.size (.lst []))) rfl rfl rfl hc i [] s5 σ5 H5 (fun _ _=>False) I5 (fx (ps:=[]) fr5 (fun _ _ _ z=>nomatch z)) st5 stop) (fun r s6 ⟨hr,I6⟩=>?_) fun _ _ f=>f.elim
   subst hr
   refine fin _ _ H5 s6 ?_ (I3.fpOk (pm_ _) I6.free) (fun h' hs'=>jkl_ I3 hf3 I6 hs') q
   obtain⟨m,hm,_⟩:=I6.loc
   exact⟨m,hm⟩
  ·refine wpAny_mono (T.item (z3_ X pins scope N' fp { s2 with heap:=s2.heap.push { cls:=.type "list",data:=.seq ([]:List Value).toArray },toks:=s2.toks } (upd H2 s2.heap.objs.size (.lst []))) rfl rfl rfl hc i [] s5 σ5 H5 (fun _ _=>False) I5 (fx (ps:=[]) fr5 (fun _ _ _ z=>nomatch z)) st5 go) (fun r s6 ⟨u,hr,h6⟩=>?_) fun _ _ f=>f.elim
   subst hr
   refine wpAny_mono h6 (fun _ s7 ⟨x,H7,I7,r7,y7,st7,fr7⟩=>?_) fun _ _ f=>f.elim
   have I7':=I7.pinned (fx (ps:=[]) fr7 (fun _ _ _ z=>nomatch z)) (T.obj _ _ st7)
   refine wpAny_mono (hg _ _ _ _ _ s7 σ5 H7 x u _ I7' r7 (step x H7 y7)) (fun _ s8 ⟨σ8,H8,I8,q8⟩=>?_) fun _ _ f=>f.elim
   refine wpAny_mono (ht _ _ _ _ _ s8 σ8 H8 _ I8 q8) (fun b s9 ⟨H9,I9,q9⟩=>?_) fun _ _ f=>f.elim
   have keep:∀{σ':St}{H':Hp}{s':Shared},Inv (z3_ X pins scope N' fp { s2 with heap:=s2.heap.push { cls:=.type "list",data:=.seq ([]:List Value).toArray },toks:=s2.toks } (upd H2 s2.heap.objs.size (.lst []))) ([]++jdx_ fp s7.heap) σ' H' s' ->
     tn (i+1) s'.heap/\∀ b∈fp,H' b=none:=fun{σ' H' s'} I'=>by
    refine⟨T.keep _ _ _ st7 fun b hb o e=>(I'.pin (b,o) (qo_ _ (qo_ _ (x5_ hb e)))).1,fun b hb=>?_⟩
    obtain⟨o,e,d⟩:=T.obj _ _ st7 b hb
    exact(I'.pin (b,o) (qo_ _ (qo_ _ (x5_ hb e)))).2.1
   cases b with
   | false =>
    rw[if_neg pk_] at q9 ⊢
    obtain⟨m',hm,w9⟩:=hN _ _ _ q9
    exact⟨m',hm,i+1,acc,σ8,H9,I9.unpinned,(keep I9).1,(keep I9).2,w9⟩
   | true =>
    rw[if_pos rfl] at q9 ⊢
    refine wpAny_mono (he _ _ _ _ _ s9 σ8 H9 _ I9 q9) (fun y s10 ⟨v10,H10,I10,r10,hl10,w10⟩=>?_) fun _ _ f=>f.elim
    refine wpAny_mono (jff_ (X:=(z3_ X pins scope N' fp { s2 with heap:=s2.heap.push { cls:=.type "list",data:=.seq ([]:List Value).toArray },toks:=s2.toks } (upd H2 s2.heap.objs.size (.lst [])))) _ s10 σ8 H10 (.ref s2.heap.objs.size) [v10] (.ref s2.heap.objs.size) [y] (fun _ H'=>N (acc++[v10]) σ8 H') I10 rfl (.cons r10 .nil) ⟨_,acc,v10,rfl,rfl,hl10,hz,w10⟩) (fun _ s11 ⟨_,H11,I11,_,n11⟩=>?_) fun _ _ f=>f.elim
    obtain⟨m',hm,w11⟩:=hN _ _ _ n11
    exact⟨m',hm,i+1,acc++[v10],σ8,H11,I11.unpinned,(keep I11).1,(keep I11).2,w11⟩
 exact codeAny_compStart_list loop (T.self X.A 0 _ _ _ st4 loop)
theorem zo_ (N':List Str)(ix:List (Option Nat))(hc:X.calm=true)(ok:jdw_ X.env.scope X.N scope N' ix=true)(hk:scope.kind=.function)(hi:PI X tg iter wi)
  (hg:∀ pins fp s3 H3,PG (z3_ X pins scope N' fp s3 H3) tg g) (ht:∀ pins fp s3 H3,PTs (z3_ X pins scope N' fp s3 H3) ifs tc) (he:∀ pins fp s3 H3,PE (z3_ X pins scope N' fp s3 H3) elt te)
  (hs:∀ x,foldedSetIterable iter X.env x=pure x:=by intro _;rfl):PE X (.ListComp elt [⟨tg,iter,ifs,0⟩] scope pos) (jmg_ ix wi g tc te):=by
 intro pins s σ H Q I h
 rw[eval_ListComp]
 refine jjl_ hc ok hk hi hg ht he hs I h fun p C H' s' hm fC inv q=>?_
 obtain⟨m,hm⟩:=hm
 exact⟨m,hm,fun h' hs'=>⟨.ref p,H',inv h' hs',rfl,q⟩⟩
theorem jci_ {i:Nat}{x:Str}{pos' spos:Pos}(N':List Str)(ix:List (Option Nat))(hc:X.calm=true)(ok:jdw_ X.env.scope X.N scope N' ix=true)(hk:scope.kind=.function)(hN:X.N.Nodup)(hx1:X.N[i]?=some x)(hx:X.env.scope.names.lookup x=some .local)
  (hi:PI X tg iter wi)
  (hg:∀ pins fp s3 H3,PG (z3_ X pins scope N' fp s3 H3) tg g) (ht:∀ pins fp s3 H3,PTs (z3_ X pins scope N' fp s3 H3) ifs tc) (he:∀ pins fp s3 H3,PE (z3_ X pins scope N' fp s3 H3) elt te)
  (hw:swapsWith (.ListComp elt [⟨tg,iter,ifs,0⟩] scope pos) (some (.Name x pos')) spos.line X.env=pure true:=by rfl)
  (hs:∀ x,foldedSetIterable iter X.env x=pure x:=by intro _;rfl):PS X (.Assign [.Name x pos'] (.ListComp elt [⟨tg,iter,ifs,0⟩] scope pos) spos) (tAsg (jmg_ ix wi g tc te) (jdi_ i)):=by
 intro pins s σ H D I h
 rw[exec_Assign_Name_used _ _ _ _ hw]
 refine wpAny_bind (wpAny_standAt (wpAny_bind ?_))
 show wpAny _ X.A (do let _ <- comprehension (.ListComp elt [⟨tg,iter,ifs,0⟩] scope pos) scope X.env (firstIterPos [⟨tg,iter,ifs,0⟩] pos) (newList []) (firstAsync [⟨tg,iter,ifs,0⟩]) (firstIter [⟨tg,iter,ifs,0⟩] X.env) (some (assign (.Name x pos') X.env))) _ _ s
 refine wpAny_bind (thn (jjl_ (R:=fun _ s'=>∃ σ' H',Inv X pins σ' H' s'/\D.nx σ' H') hc ok hk hi hg ht he hs I h fun p C H' s' hm fC inv q=>?_) fun _ s' ⟨σ',H',I',q⟩=>wpAny_pure (wpAny_pure ⟨σ',H',I',q⟩))
 have inv0:Inv X pins σ H' s':=by
  have:=inv s'.heap ⟨rfl,fun _ _=>rfl⟩
  exact this
 obtain⟨m,hm⟩:=hm
 refine wpAny_assign_Name ?_
 refine jes_ (v:=.ref p) inv0 hN hx1 (.inl hx) rfl (fun s'' I'' ⟨a,sb,ha⟩=>?_) (.inr hx)
 have ne:C≠a:=by
  rcases ha with z | z
  ·rw[z];exact fC.2.1
  ·exact fun q=>fC.2.2.2.2.1 x a z q.symm
 refine⟨m,hm.sameBut sb ne,fun h' hs'=>⟨_,H',?_,q⟩⟩
 exact I''.turned (t':=s''.toks) (it:=C) (fun b o hb e=>(hs'.2 b hb).trans e) fC.1 fC.2.1 fC.2.2.2.1 fC.2.2.2.2.1 fC.2.2.2.2.2
end
end L2
namespace L2
open PySem PySem.Spec PyProof.Rows
inductive Dt where
 | non | bl (b:Bool) | int (i:Int) | str (x:Str) | tup (ds:List Dt) | lst (ds:List Dt)
mutual
def Is (H:Hp):V->Dt->Prop
 | v,.non=>v=.non
 | v,.bl b=>v=.bl b
 | v,.int i=>v=.int i
 | v,.str x=>v=.str x
 | v,.tup ds=>∃ a xs,v=.ref a/\H a=some (.tup xs)/\IsL H xs ds
 | v,.lst ds=>∃ a xs,v=.ref a/\H a=some (.lst xs)/\IsL H xs ds
def IsL (H:Hp):List V->List Dt->Prop
 | [],[]=>True
 | x::xs,d::ds=>Is H x d/\IsL H xs ds
 | _,_=>False
end
mutual
noncomputable def dep:Dt->Nat
 | .tup ds=>depL ds+1
 | .lst ds=>depL ds+1
 | _=>0
noncomputable def depL:List Dt->Nat
 | []=>0
 | d::ds=>max (dep d) (depL ds)
end
mutual
theorem Is.same {H H':Hp}(h:∀ b o,H b=some o->H' b=some o):∀{d:Dt}{v:V},Is H v d->Is H' v d
 | .non,_,k=>by simp only[Is] at k ⊢;exact k
 | .bl _,_,k=>by simp only[Is] at k ⊢;exact k
 | .int _,_,k=>by simp only[Is] at k ⊢;exact k
 | .str _,_,k=>by simp only[Is] at k ⊢;exact k
 | .tup ds,_,k=>by
  simp only[Is] at k ⊢
  obtain⟨a,xs,e,h1,h2⟩:=k
  exact⟨a,xs,e,h _ _ h1,IsL.same h h2⟩
 | .lst ds,_,k=>by
  simp only[Is] at k ⊢
  obtain⟨a,xs,e,h1,h2⟩:=k
  exact⟨a,xs,e,h _ _ h1,IsL.same h h2⟩
theorem IsL.same {H H':Hp}(h:∀ b o,H b=some o->H' b=some o):∀{ds:List Dt}{xs:List V},IsL H xs ds->IsL H' xs ds
 | [],[],_=>by simp only[IsL]
 | d::ds,x::xs,k=>by
  simp only[IsL] at k ⊢
  exact⟨Is.same h k.1,IsL.same h k.2⟩
 | [],_::_,k=>by simp only[IsL] at k
 | _::_,[],k=>by simp only[IsL] at k
end
theorem IsL.length {H:Hp}:∀{ds:List Dt}{xs:List V},IsL H xs ds->xs.length=ds.length
 | [],[],_=>rfl
 | d::ds,x::xs,k=>by
  simp only[IsL] at k
  simp only[p3_,IsL.length k.2]
 | [],_::_,k=>by simp only[IsL] at k
 | _::_,[],k=>by simp only[IsL] at k
theorem IsL.get {H:Hp}:∀{ds:List Dt}{xs:List V}{i:Nat},IsL H xs ds->i < ds.length->∃ x d,xs[i]?=some x/\ds[i]?=some d/\Is H x d
 | [],_,_,_,h=>by simp at h
 | d::ds,x::xs,0,k,_=>by
  simp only[IsL] at k
  exact⟨x,d,rfl,rfl,k.1⟩
 | d::ds,x::xs,i+1,k,h=>by
  simp only[IsL] at k
  obtain⟨y,e,h1,h2,h3⟩:=IsL.get (i:=i) k.2 (by simpa using h)
  exact⟨y,e,by simpa using h1,by simpa using h2,h3⟩
 | _::_,[],_,k,_=>by simp only[IsL] at k
theorem IsL.ints (H:Hp):∀ ns:List Int,IsL H (ns.map V.int) (ns.map Dt.int)
 | []=>by simp only[qs_,IsL]
 | n::ns=>by simp only[pr_,IsL,Is,true_and];exact IsL.ints H ns
mutual
noncomputable def toP:Dt->PyData
 | .non=>.none
 | .bl b=>.bool b
 | .int i=>.int i
 | .str x=>.str x
 | .tup ds=>.tuple (toPs ds)
 | .lst ds=>.list (toPs ds)
noncomputable def toPs:List Dt->List PyData
 | []=>[]
 | d::ds=>toP d::toPs ds
end
mutual
theorem Is.reads {P:Program}{w:World}{H:Hp}{h:Heap}(ok:HOk P w H h):∀{d:Dt}{v:V}{u:Value},Is H v d->RelV v u->∃ as,Reads h u (toP d) as
 | .non,_,_,k,r=>by simp only[Is] at k;subst k;cases r;exact⟨_,Reads.none⟩
 | .bl b,_,_,k,r=>by simp only[Is] at k;subst k;cases r;exact⟨_,Reads.bool b⟩
 | .int i,_,_,k,r=>by simp only[Is] at k;subst k;obtain⟨t,rfl⟩:=r;exact⟨_,Reads.int i t⟩
 | .str x,_,_,k,r=>by simp only[Is] at k;subst k;obtain⟨t,rfl⟩:=r;exact⟨_,Reads.str x t⟩
 | .tup ds,_,_,k,r=>by
  simp only[Is] at k
  obtain⟨a,xs,rfl,h1,h2⟩:=k
  cases r
  obtain⟨_,its,rv,⟨o,ho,hc,n,hd⟩,_⟩:=(show ObjOk P w H h a (.tup xs) from ok a _ h1)
  obtain⟨as,q⟩:=IsL.reads ok h2 rv
  exact⟨_,Reads.tuple ho hc hd (by simpa using q)⟩
 | .lst ds,_,_,k,r=>by
  simp only[Is] at k
  obtain⟨a,xs,rfl,h1,h2⟩:=k
  cases r
  obtain⟨_,its,n,rv,e⟩:=(show ObjOk P w H h a (.lst xs) from ok a _ h1)
  obtain⟨as,q⟩:=IsL.reads ok h2 rv
  exact⟨_,Reads.list e rfl rfl (by simpa using q)⟩
theorem IsL.reads {P:Program}{w:World}{H:Hp}{h:Heap}(ok:HOk P w H h):∀{ds:List Dt}{xs:List V}{us:List Value},IsL H xs ds->Vals xs us->∃ as,ReadsAll h us (toPs ds) as
 | [],[],_,_,.nil=>⟨_,ReadsAll.nil⟩
 | d::ds,x::xs,_,k,.cons r t=>by
  simp only[IsL] at k
  obtain⟨as,q⟩:=Is.reads ok k.1 r
  obtain⟨bs,q2⟩:=IsL.reads ok k.2 t
  exact⟨_,ReadsAll.cons q q2⟩
 | [],_::_,_,k,_=>by simp only[IsL] at k
 | _::_,[],_,k,_=>by simp only[IsL] at k
end
def okD (d:Dt):Prop:=SeqAt.shaped (toP d)=true
noncomputable def eqD (d e:Dt):Bool:=PyData.eqv (toP d) (toP e)
theorem jtl_ {d:Dt}(h:okD d):eqD d d=true:=SeqAt.eqv_refl _ (SeqAt.canLay_of_shaped h)
end L2
namespace L2
open PySem PySem.Spec PyProof.Rows
section
variable {X:Cx}
theorem OpR.imp {f:Value->Value->Sem Value}{r r':R2}(h:OpR X f r)(hi:∀ x y H Q,r' x y H Q->r x y H Q):OpR X f r':=fun pins s σ H x y v u Q I rx ry q=>h pins s σ H x y v u Q I rx ry (hi x y H Q q)
theorem CallR.imp {f:Value}{r r':List V->Hp->VK->Prop}(h:CallR X f r)(hi:∀ xs H Q,r' xs H Q->r xs H Q):CallR X f r':=fun pins s σ H xs us Q I rs q=>h pins s σ H xs us Q I rs (hi xs H Q q)
end
section
variable {X:Cx}{pins:List (Addr×Obj)}{σ:St}{H:Hp}{s:Shared}{Q:VK}
theorem endS {z:Str}{t:Tok}(I:Inv X pins σ H s)(q:Q (.str z) H):EP X pins σ Q (.str z t) s:=⟨.str z,H,I,⟨t,rfl⟩,q⟩
theorem endB {b:Bool}(I:Inv X pins σ H s)(q:Q (.bl b) H):EP X pins σ Q (.bool b) s:=⟨.bl b,H,I,rfl,q⟩
end
noncomputable def lstR (H:Hp)(a:Addr):Option (List V):=match H a with
 | some (.lst xs)=>some xs
 | some (.frz _ (.lst xs))=>some xs
 | _=>none
noncomputable def tupR (H:Hp)(a:Addr):Option (List V):=match H a with
 | some (.tup xs)=>some xs
 | _=>none
noncomputable def seqR (H:Hp)(a:Addr):Option (List V):=match lstR H a with
 | some xs=>some xs
 | none=>tupR H a
theorem u4_ {H:Hp}{a:Addr}{xs:List V}(h:H a=some (.lst xs)):lstR H a=some xs:=by unfold lstR;rw[h]
theorem juf_ {H:Hp}{a:Addr}{xs:List V}(h:H a=some (.tup xs)):tupR H a=some xs:=by unfold tupR;rw[h]
theorem j5_ {H:Hp}{a:Addr}{xs:List V}(h:H a=some (.lst xs)):seqR H a=some xs:=by unfold seqR;rw[u4_ h]
theorem xf_ {H:Hp}{a:Addr}{xs:List V}(h:H a=some (.tup xs)):seqR H a=some xs:=by
 have e:lstR H a=none:=by unfold lstR;rw[h]
 unfold seqR;rw[e];exact juf_ h
theorem jck_ {K:pc_}{H:Hp}{a:Addr}{xs:List V}(h:lstR H a=some xs):SqL K H a xs:=by
 unfold lstR at h
 split at h
 ·rename_i e;cases h;exact .inl (.inl e)
 ·rename_i e;cases h;exact .inl (.inr ⟨_,e⟩)
 ·cases h
theorem jcj_ {K:pc_}{H:Hp}{a:Addr}{xs:List V}(h:tupR H a=some xs):SqT K H a xs:=by
 unfold tupR at h
 split at h
 ·rename_i e;cases h;exact .inl (.inl e)
 ·cases h
theorem uc_ {K:pc_}{H:Hp}{a:Addr}{xs:List V}(h:seqR H a=some xs):SqL K H a xs∨SqT K H a xs:=by
 unfold seqR at h
 split at h
 ·rename_i e;cases h;exact .inl (jck_ e)
 ·exact .inr (jcj_ h)
def GetT (H:Hp)(xs:List V)(Q:VK):Prop:=∀ p H',H' p=some (.tup xs)->(∀ b o,H b=some o->H' b=some o)->Q (.ref p) H'
theorem GetT.new {H:Hp}{xs:List V}{Q:VK}(h:GetT H xs Q){p:Addr}(hp:H p=none):Q (.ref p) (upd H p (.tup xs)) :=
 h p _ jb_ fun b o e=>by rw[jh_ (jg_ e hp)];exact e
theorem GetT.old {H:Hp}{xs:List V}{Q:VK}(h:GetT H xs Q){p:Addr}(hp:H p=some (.tup xs)):Q (.ref p) H:=h p _ hp fun b o e=>e
def GetL (H:Hp)(xs:List V)(Q:VK):Prop:=∀ p,H p=none->Q (.ref p) (upd H p (.lst xs))
def fAdd:R2:=fun x y H Q=>match x,y with
 | .int i,.int j=>Q (.int (i+j)) H
 | .str i,.str j=>i.length+j.length<=sizeLine/\Q (.str (i++j)) H
 | .ref a,.ref b=>match H a,H b with
  | some (.lst xs),some (.lst ys)=>xs.length+ys.length<=sizeLine/\GetL H (xs++ys) Q
  | some (.tup xs),some (.tup ys)=>xs≠[]/\xs.length+ys.length<=sizeLine/\GetT H (xs++ys) Q
  | _,_=>False
 | _,_=>False
def fMul:R2:=fun x y H Q=>match x,y with
 | .int i,.int j=>CMul i j/\Q (.int (i * j)) H
 | .str z,.int n=>z.length * n.toNat<=1000000/\-(2 ^ 62) < n/\n < 2 ^ 62/\Q (.str (Txt.mul z n)) H
 | .ref a,.int k=>match H a with
  | some (.lst xs)=>-(2 ^ 63)<=k/\k < 2 ^ 63/\xs.length * k.toNat<=sizeLine/\GetL H (pg_ k.toNat xs).flatten Q
  | _=>False
 | _,_=>False
def fI (C:Int->Int->Prop)(g:Int->Int->V):R2:=fun x y H Q=>match x,y with
 | .int i,.int j=>C i j/\Q (g i j) H
 | _,_=>False
def fI0 (g:Int->Int->V):R2:=fun x y H Q=>match x,y with
 | .int i,.int j=>Q (g i j) H
 | _,_=>False
theorem u0_ {g:Int->Int->V}:∀ x y H Q,fI0 g x y H Q->rI0 g x y H Q:=fun x y H Q h=>by
 unfold fI0 at h
 split at h
 ·exact⟨_,_,rfl,rfl,h⟩
 ·exact h.elim
theorem jsc_ {C:Int->Int->Prop}{g:Int->Int->V}:∀ x y H Q,fI C g x y H Q->rI C g x y H Q:=fun x y H Q h=>by
 unfold fI at h
 split at h
 ·exact⟨_,_,rfl,rfl,h.1,h.2⟩
 ·exact h.elim
section
variable {X:Cx}
theorem jt_:OpR X (binaryOp .Add) fAdd:=by
 intro pins s σ H x y v u Q I rx ry h
 unfold fAdd at h
 split at h
 ·exact jyt_ pins s σ H _ _ v u Q I rx ry ⟨_,_,rfl,rfl,h⟩
 ·exact jkf_ pins s σ H _ _ v u Q I rx ry ⟨_,_,rfl,rfl,h.1,h.2⟩
 ·split at h
  ·rename_i h1 h2
   exact jyr_ pins s σ H _ _ v u Q I rx ry ⟨_,_,_,_,rfl,rfl,h1,h2,h.1,h.2⟩
  ·rename_i xs ys h1 h2
   refine jvs_ pins s σ H _ _ v u Q I rx ry ⟨_,_,_,_,rfl,rfl,SqT.of h1,SqT.of h2,h.1,h.2.1,fun e=>?_,fun _ p hp=>h.2.2.new hp⟩
   subst e
   have:=h.2.2
   rw[qk_] at this
   exact this.old h1
  ·exact h.elim
 ·exact h.elim
theorem xr_:OpR X (binaryOp .Sub) (fI0 fun i j=>.int (i - j)):=op_sub.imp u0_
theorem jgg_:OpR X (binaryOp .FloorDiv) (fI CDiv fun i j=>.int (i / j)):=op_fdiv.imp jsc_
theorem xp_:OpR X (binaryOp .Mod) (fI (fun _ j=>0 < j) fun i j=>.int (i % j)):=op_mod.imp jsc_
theorem jqt_:OpR X (binaryOp .Pow) (fI CPow fun i j=>.int (i ^ j.toNat)):=op_pow.imp jsc_
theorem jqj_ {z:Str}{n:Int}(h:z.length * n.toNat<=1000000)(h1:-(2 ^ 62) < n)(h2:n < 2 ^ 62):MulOk z n:=by
 have e1:((2:Int) ^ 62)=4611686018427387904:=by decide
 have e2:((2:Int) ^ 63)=9223372036854775808:=by decide
 rw[e1] at h1 h2
 refine⟨?_,fun hn _=>?_,fun hn _=>?_⟩
 ·rw[e2];simp only[Bool.or_eq_false_iff,decide_eq_false_iff_not];omega
 ·have hp:0 < n:=by omega
  have hz:(z.length:Int)<=1000000:=by
   have:z.length * 1<=z.length * n.toNat:=ru_ _ (by omega)
   omega
  have e3:((2:Int) ^ 63 - 1)=9223372036854775807:=by decide
  rw[e3]
  intro hgt
  have h3:(9223372036854775807:Int) / n < z.length:=hgt
  have h4:(9223372036854775807:Int) < z.length * n:=by
   have:=Int.lt_mul_of_ediv_lt hp h3
   exact this
  have h5:(z.length:Int) * n<=1000000:=by
   have e:((z.length * n.toNat:Nat):Int)=(z.length:Int) * n:=by
    rw[Int.natCast_mul];congr 1;omega
   omega
  omega
 ·unfold Builtin.Str.tooLong sizeLine
  have e4:(2:Nat) ^ 24=16777216:=by decide
  exact decide_eq_false (by omega)
theorem yo_:OpR X (binaryOp .Mult) fMul:=by
 intro pins s σ H x y v u Q I rx ry h
 unfold fMul at h
 split at h
 ·exact jzz_ pins s σ H _ _ v u Q I rx ry ⟨_,_,rfl,rfl,h.1,h.2⟩
 ·obtain⟨h1,h2,h3,q⟩:=h
  obtain⟨t,rfl⟩:=rx
  obtain⟨t',rfl⟩:=ry
  exact SB.mul (jqj_ h1 h2 h3) fun t' k=>endS (I.tok _) q
 ·split at h
  ·rename_i h1
   exact jyn_ pins s σ H _ _ v u Q I rx ry ⟨_,_,_,rfl,rfl,h1,h.1,h.2.1,h.2.2.1,h.2.2.2⟩
  ·exact h.elim
 ·exact h.elim
theorem o_lt:OpR X (compareOp .Lt) (fI0 fun i j=>.bl (decide (i < j))):=op_lt.imp u0_
theorem o_le:OpR X (compareOp .LtE) (fI0 fun i j=>.bl (decide (i<=j))):=op_le.imp u0_
theorem o_gt:OpR X (compareOp .Gt) (fI0 fun i j=>.bl (decide (j < i))):=op_gt.imp u0_
theorem o_ge:OpR X (compareOp .GtE) (fI0 fun i j=>.bl (decide (j<=i))):=op_ge.imp u0_
def fEq:R2:=fun x y H Q=>(scal x y=true/\Q (.bl (decide (x=y))) H)∨∃ d e,Is H x d/\Is H y e/\okD d/\okD e/\Q (.bl (eqD d e)) H
def fNe:R2:=fun x y H Q=>(scal x y=true/\Q (.bl (!decide (x=y))) H)∨∃ d e,Is H x d/\Is H y e/\okD d/\okD e/\Q (.bl (!eqD d e)) H
def fIs:R2:=fun x y H Q=>y=.non/\Q (.bl (decide (x=.non))) H
def jts_:R2:=fun x y H Q=>y=.non/\Q (.bl (!decide (x=.non))) H
theorem o_eq (hu:X.A.units+64 < cLine):OpR X (compareOp .Eq) fEq:=by
 intro pins s σ H x y v u Q I rx ry h
 rcases h with h | ⟨d,e,h1,h2,h3,h4,q⟩
 ·exact op_eq pins s σ H x y v u Q I rx ry h
 ·obtain⟨as,r1⟩:=Is.reads I.hok h1 rx
  obtain⟨bs,r2⟩:=Is.reads I.hok h2 ry
  exact eq_dataH r1 r2 h3 h4 hu (endB I q)
theorem o_ne (hu:X.A.units+64 < cLine):OpR X (compareOp .NotEq) fNe:=by
 intro pins s σ H x y v u Q I rx ry h
 rcases h with h | ⟨d,e,h1,h2,h3,h4,q⟩
 ·exact op_ne pins s σ H x y v u Q I rx ry h
 ·obtain⟨as,r1⟩:=Is.reads I.hok h1 rx
  obtain⟨bs,r2⟩:=Is.reads I.hok h2 ry
  exact ne_dataH r1 r2 h3 h4 hu (endB I q)
theorem o_is:OpR X (compareOp .Is) fIs:=zab_
theorem jua_:OpR X (compareOp .IsNot) jts_:=jut_
def fIn (neg:Bool):R2:=fun x y H Q=>match x,y with
 | .str i,.str j=>Q (.bl (xor neg (mc_ j i))) H
 | x,.ref p=>match seqR H p with
  | some xs=>xq_ x=true/\xs.all xq_=true/\Q (.bl (if neg then !inV x xs else inV x xs)) H
  | none=>False
 | _,_=>False
theorem o_in:OpR X (compareOp .In) (fIn false):=by
 intro pins s σ H x y v u Q I rx ry h
 unfold fIn at h
 split at h
 ·refine jop_ pins s σ H _ _ v u Q I rx ry ⟨_,_,rfl,rfl,?_⟩
  simpa [mc_] using h
 ·split at h
  ·rename_i e
   exact joa_ pins s σ H _ _ v u Q I rx ry ⟨_,_,rfl,uc_ e,h.1,h.2.1,h.2.2⟩
  ·exact h.elim
 ·exact h.elim
theorem jul_:OpR X (compareOp .NotIn) (fIn true):=by
 intro pins s σ H x y v u Q I rx ry h
 unfold fIn at h
 split at h
 ·refine jhb_ pins s σ H _ _ v u Q I rx ry ⟨_,_,rfl,rfl,?_⟩
  simpa [mc_] using h
 ·split at h
  ·rename_i e
   exact jhg_ pins s σ H _ _ v u Q I rx ry ⟨_,_,rfl,uc_ e,h.1,h.2.1,h.2.2⟩
  ·exact h.elim
 ·exact h.elim
def fNeg:V->Hp->VK->Prop:=fun x H Q=>match x with
 | .int i=>Q (.int (-i)) H
 | _=>False
theorem jnc_:UnR X (unaryOp .USub) fNeg:=fun pins s σ H x v Q I rx h=>by
 unfold fNeg at h
 split at h
 ·exact jzg_ pins s σ H _ v Q I rx ⟨_,rfl,h⟩
 ·exact h.elim
def fIx (K:pc_):R2:=fun x y H Q=>match x,y with
 | .ref p,.int i=>∃ xs v,(SqL K H p xs∨SqT K H p xs)/\atI xs i=some v/\Q v H
 | .str z,.int i=>z.length<=sizeLine/\(match atI z.cps.toList i with | some c=>Q (.str ⟨#[c]⟩) H | none=>False)
 | _,_=>False
theorem js_ {K:pc_}(hK:X.K=K:=by rfl):IxR X (fIx K):=by
 subst hK
 intro value slice pins s σ H x y v u Q I rx ry h hs
 unfold fIx at h
 split at h
 ·obtain⟨xs,w',e,e',h⟩:=h
  rcases e with q | q
  ·exact jvc_ value slice pins s σ H _ _ v u Q I rx ry ⟨_,_,_,_,rfl,rfl,q,e',h⟩ hs
  ·exact jxr_ value slice pins s σ H _ _ v u Q I rx ry ⟨_,_,_,_,rfl,rfl,q,e',h⟩ hs
 ·obtain⟨hz,h⟩:=h
  split at h
  ·rename_i c e
   exact jym_ value slice pins s σ H _ _ v u Q I rx ry ⟨_,_,_,rfl,rfl,hz,e,h⟩ hs
  ·exact h.elim
 ·exact h.elim
def fSl (K:pc_):V->Option Int->Option Int->Hp->VK->Prop:=fun x lo hi H Q=>match x with
 | .str z=>z.length<=sizeLine/\Q (.str (l3_ z lo hi)) H
 | .ref a=>(∃ xs,SqL K H a xs/\GetL H (cutV xs lo hi) Q) ∨
  (∃ xs,SqT K H a xs/\¬ (HT.sIx xs.length 0 lo=0/\HT.sIx xs.length xs.length hi=xs.length)/\GetT H (cutV xs lo hi) Q)
 | _=>False
theorem jzb_:SlR X (fun x lo hi H Q=>∃ z,x=.str z/\z.length<=sizeLine/\Q (.str (l3_ z lo hi)) H):=by
 intro pins s σ H x v vl vu lo hi sl Q I rx hs pl pu h
 obtain⟨z,rfl,hz,q⟩:=h
 obtain⟨t,rfl⟩:=rx
 refine⟨"str",_,PySem.F.slot_str_getitem.lookup,typeIs_str _ _ _,?_⟩
 have fin:∀(l u:Option (Int×Tok)),l.map (·.1)=lo->u.map (·.1)=hi->s.heap.IsSlice sl l u none->wpAny (model X.prog X.w) X.A (getItem (.str z t) (.ref sl)) (EP X pins σ Q) X.xe s:=fun l u el eu hs'=>by
  subst el eu
  refine wpAny_getItem_str_slice hs' rfl ?_
  have q':∀ t' k,EP X pins σ Q (.str (l3_ z (l.map (·.1)) (u.map (·.1))) t') { s with toks:=k }:=fun t' k=>endS (I.tok _) q
  exact post_val_or_str ⟨p7_ (Txt.slice_le z _ _) hz,fun t' k=>q' t' k⟩
 cases pl with
 | none =>
  cases pu with
  | none=>exact fin none none rfl rfl hs
  | int j u=>exact fin none (some (j,u)) rfl rfl hs
 | int i t' =>
  cases pu with
  | none=>exact fin (some (i,t')) none rfl rfl hs
  | int j u=>exact fin (some (i,t')) (some (j,u)) rfl rfl hs
theorem vw_ {K:pc_}(hK:X.K=K:=by rfl):SlR X (fSl K):=by
 subst hK
 intro pins s σ H x v vl vu lo hi sl Q I rx hs pl pu h
 unfold fSl at h
 split at h
 ·exact jzb_ pins s σ H _ v vl vu lo hi sl Q I rx hs pl pu ⟨_,rfl,h.1,h.2⟩
 ·rcases h with ⟨xs,e,h⟩ | ⟨xs,e,h⟩
  ·exact jud_ pins s σ H _ v vl vu lo hi sl Q I rx hs pl pu ⟨_,_,rfl,e,h⟩
  ·exact jyu_ pins s σ H _ v vl vu lo hi sl Q I rx hs pl pu ⟨_,_,rfl,e,h.1,fun p hp=>h.2.new hp⟩
 ·exact h.elim
def fLen (K:pc_):List V->Hp->VK->Prop:=fun xs H Q=>match xs with
 | [.str z]=>z.length<=sizeLine/\Q (.int z.length) H
 | [.ref p]=>∃ ys,(SqL K H p ys∨SqT K H p ys)/\Q (.int ys.length) H
 | _=>False
theorem zm_ {K:pc_}(hK:X.K=K:=by rfl):CallR X (.builtin "len") (fLen K):=by
 subst hK
 intro pins s σ H xs us Q I r h
 unfold fLen at h
 split at h
 ·exact jhj_ pins s σ H _ us Q I r ⟨_,rfl,h.1,h.2⟩
 ·obtain⟨ys,e,h⟩:=h
  exact jhi_ pins s σ H _ us Q I r ⟨_,_,rfl,e,h⟩
 ·exact h.elim
def f2I (g:Int->Int->V):List V->Hp->VK->Prop:=fun xs H Q=>match xs with
 | [.int i,.int j]=>Q (g i j) H
 | _=>False
theorem jrx_ (hc:X.calm=true):CallR X (.builtin "max") (f2I fun i j=>.int (if j > i then j else i)):=(jny_ hc).imp fun xs H Q h=>by
 unfold f2I at h
 split at h
 ·exact⟨_,_,rfl,h⟩
 ·exact h.elim
theorem c_min (hc:X.calm=true):CallR X (.builtin "min") (f2I fun i j=>.int (if j < i then j else i)):=(jpm_ hc).imp fun xs H Q h=>by
 unfold f2I at h
 split at h
 ·exact⟨_,_,rfl,h⟩
 ·exact h.elim
def fInt:List V->Hp->VK->Prop:=fun xs H Q=>match xs with
 | [.int i]=>Q (.int i) H
 | [.bl b]=>Q (.int (if b then 1 else 0)) H
 | _=>False
theorem jiq_:CallR X (.type "int") fInt:=call_int1.imp fun xs H Q h=>by
 unfold fInt at h
 split at h
 ·exact .inl ⟨_,rfl,h⟩
 ·exact .inr ⟨_,rfl,h⟩
 ·exact h.elim
def jsp_:List V->Hp->VK->Prop:=fun xs H Q=>match xs with
 | [.ref p]=>(match seqR H p with | some ys=>GetL H ys Q | none=>False)
 | _=>False
theorem jjz_:CallR X (.type "list") jsp_:=call_list_of.imp fun xs H Q h=>by
 unfold jsp_ at h
 split at h
 ·split at h
  ·rename_i e;exact⟨_,_,rfl,uc_ e,h⟩
  ·exact h.elim
 ·exact h.elim
def jjr_:List V->Hp->VK->Prop:=fun xs H Q=>match xs with
 | [.ref p]=>(match seqR H p with | some ys=>GetT H ys Q | none=>False)
 | _=>False
theorem jrm_ {H:Hp}{p:Addr}{ys:List V}(h:tupR H p=some ys):H p=some (.tup ys):=by
 unfold tupR at h
 split at h
 ·rename_i e;cases h;exact e
 ·cases h
theorem jaj_:CallR X (.type "tuple") jjr_:=call_tuple_of.imp fun xs H Q h=>by
 unfold jjr_ at h
 split at h
 ·split at h
  ·rename_i ys e
   refine⟨_,ys,rfl,?_⟩
   unfold seqR at e
   split at e
   ·rename_i e';cases e
    exact .inl ⟨jck_ e',fun l hl=>h.new hl⟩
   ·exact .inr ⟨jcj_ e,h.old (jrm_ e)⟩
  ·exact h.elim
 ·exact h.elim
def fTru (x:V)(H:Hp)(Q:Bool->Hp->Prop):Prop:=match x with
 | .non=>Q false H
 | .bl b=>Q b H
 | .int i=>Q (i != 0) H
 | .str z=>z.length<=sizeLine/\Q ((z.length:Int) != 0) H
 | .ref p=>(match seqR H p with | some xs=>Q (!xs.isEmpty) H | none=>False)
 | _=>False
theorem x7_ {a:Expr}{ta:TE}(ha:PE X a ta)(he:∀ whole,isTrue a X.env whole=(do let v <- whole;standAt a.pos;holding [v] (truthy v))) :
  PT X a (fun σ H Q=>ta σ H fun x H'=>fTru x H' Q):=by
 intro pins s σ H Q I h
 show wpAny _ _ (isTrue a X.env (eval a X.env)) _ _ _
 rw[he]
 refine wpAny_bind (thn (ha pins s σ H _ I h) fun v s1 ⟨x,H1,I1,r1,q1⟩=>wpAny_bind (wpAny_standAt (wpAny_holding ?_)))
 refine jxv_ pins s1 σ H1 x v Q I1 r1 ?_
 have q1:fTru x H1 Q:=q1
 unfold fTru at q1
 split at q1
 ·exact⟨_,rfl,q1⟩
 ·exact⟨_,rfl,q1⟩
 ·exact⟨_,rfl,q1⟩
 ·exact⟨_,⟨q1.1,rfl⟩,q1.2⟩
 ·split at q1
  ·rename_i xs e
   refine⟨_,?_,q1⟩
   rcases uc_ (K:=X.K) e with z | z
   ·exact .inl ⟨_,z,rfl⟩
   ·exact .inr (.inl ⟨_,z,rfl⟩)
  ·exact q1.elim
 ·exact q1.elim
def jgk_:V->List V->Hp->VK->Prop:=fun x vs H Q=>match x,vs with
 | .ref l,[y]=>(match H l with | some (.lst xs)=>xs.length < sizeLine/\Q .non (upd H l (.lst (xs++[y]))) | _=>False)
 | _,_=>False
theorem yu_:MtR X "list.append" jgk_:=fun pins s σ H x xs v us Q I rx rs h=>by
 unfold jgk_ at h
 split at h
 ·split at h
  ·rename_i e
   exact jff_ pins s σ H _ _ v us Q I rx rs ⟨_,_,_,rfl,rfl,e,h.1,h.2⟩
  ·exact h.elim
 ·exact h.elim
theorem jdc_:∀{ys:List Str}{us:List Value},Vals (ys.map V.str) us->StrsAre us ys
 | [],_,.nil=>.nil
 | y::ys,_,.cons r t=>by
  obtain⟨k,rfl⟩:=r
  exact .cons y k (jdc_ t)
noncomputable def strs?:List V->Option (List Str)
 | []=>some []
 | .str z::r=>(strs? r).map (z::·)
 | _=>none
theorem strs?_map:∀ ys:List Str,strs? (ys.map V.str)=some ys
 | []=>rfl
 | y::ys=>by simp only[pr_,strs?,strs?_map ys,r6_]
theorem strs?_of:∀{xs:List V}{ys:List Str},strs? xs=some ys->xs=ys.map V.str
 | [],_,h=>by cases h;rfl
 | .str z::r,ys,h=>by
  simp only[strs?] at h
  cases e:strs? r with
  | none=>rw[e] at h;cases h
  | some q=>rw[e] at h;cases h;rw[strs?_of e];rfl
 | .non::_,_,h=>by cases h
 | .bl _::_,_,h=>by cases h
 | .int _::_,_,h=>by cases h
 | .byt _::_,_,h=>by cases h
 | .flt _::_,_,h=>by cases h
 | .ref _::_,_,h=>by cases h
 | .ty _::_,_,h=>by cases h
def jqg_:V->List V->Hp->VK->Prop:=fun x vs H Q=>match x,vs with
 | .str z,[.ref p]=>(match lstR H p with
  | some xs=>(match strs? xs with
   | some ys=>(ys.map (·.length)).sum+ys.length * z.length<=16777216/\Q (.str (mg_ z ys)) H
   | none=>False)
  | none=>False)
 | _,_=>False
theorem juk_:MtR X "str.join" jqg_:=fun pins s σ H x xs v us Q I rx rs h=>by
 unfold jqg_ at h
 split at h
 ·rename_i z p
  split at h
  ·rename_i ws e
   split at h
   ·rename_i ys e2
    obtain⟨t,rfl⟩:=rx
    obtain⟨u,rfl,ru⟩:=ug_ rs
    cases ru
    obtain⟨its,r',pl,hz⟩:=I.list (jck_ e)
    rw[strs?_of e2] at r'
    exact join_list pl.isList (jdc_ (by simpa using r')) h.1 fun t' k=>endS (I.tok _) h.2
   ·exact h.elim
  ·exact h.elim
 ·exact h.elim
def fSSI (g:Str->Str->Int->V):V->List V->Hp->VK->Prop:=fun x vs H Q=>match x,vs with
 | .str z,[.str y,.int i]=>Q (g z y i) H
 | _,_=>False
theorem jep_:MtR X "str.startswith" (fSSI fun z y i=>.bl (lf_ z y i)):=fun pins s σ H x xs v us Q I rx rs h=>by
 unfold fSSI at h
 split at h
 ·obtain⟨t,rfl⟩:=rx
  obtain⟨u,w',rfl,⟨t',rfl⟩,⟨t'',rfl⟩⟩:=jio_ rs
  exact SC.startswith3 (endB I h)
 ·exact h.elim
end
end L2
namespace L2
open PySem PySem.Spec PyProof.Rows
noncomputable def tyN (H:Hp):V->Option String
 | .non=>some "NoneType"
 | .bl _=>some "bool"
 | .int _=>some "int"
 | .str _=>some "str"
 | .ref a=>match H a with
  | some (.lst _)=>some "list"
  | some (.frz _ (.lst _))=>some "list"
  | some (.tup _)=>some "tuple"
  | _=>none
 | _=>none
noncomputable def subB (t T:String):Bool:=t == T || (t == "bool"&&T == "int")
noncomputable def tys?:List V->Option (List String)
 | []=>some []
 | .ty T::r=>(tys? r).map (T::·)
 | _=>none
noncomputable def ur_ (T:String):Bool:=["bool","int","str","list","tuple"].contains T
theorem jfr_ {K:pc_}{t T:String}(ht:t="NoneType"∨t="bool"∨t="int"∨t="str"∨t="list"∨t="tuple")(hT:T="bool"∨T="int"∨T="str"∨T="list"∨T="tuple") :
  PySem.W.kitOne K (.type t) (.type T)=some (subB t T):=by
 rcases ht with rfl | rfl | rfl | rfl | rfl | rfl <;> rcases hT with rfl | rfl | rfl | rfl | rfl <;> kernel_rfl
def fIsi:List V->Hp->VK->Prop:=fun xs H Q=>match xs with
 | [x,.ty T]=>(match tyN H x with
  | some t=>ur_ T=true/\Q (.bl (subB t T)) H
  | none=>False)
 | [x,.ref p]=>(match tyN H x,tupR H p with
  | some t,some ts=>(match tys? ts with
   | some Ts=>Ts.all ur_=true/\Q (.bl (Ts.any (subB t))) H
   | none=>False)
  | _,_=>False)
 | _=>False
section
variable {X:Cx}
theorem jmo_ {K:pc_}{pins:List (Addr×Obj)}{σ:St}{H:Hp}{s:Shared}{x:V}{u:Value}{t:String}(I:Inv X pins σ H s)(rx:RelV x u)(e:tyN H x=some t) :
  (t="NoneType"∨t="bool"∨t="int"∨t="str"∨t="list"∨t="tuple")/\u≠.builtin "__main__.__loader__#opaque"/\∃ Hp',PySem.W.KitX K u (.type t) Hp'/\Hp' s.heap:=by
 cases x with
 | non=>cases (show u=Value.none from rx);cases e;exact⟨by simp,(fun z=>nomatch z),_,PySem.W.kitx_none,True.intro⟩
 | bl b=>cases (show u=Value.bool b from rx);cases e;exact⟨by simp,(fun z=>nomatch z),_,PySem.W.kitx_bool,True.intro⟩
 | int i=>obtain⟨k,q⟩:=(show ∃ t,u=Value.int i t from rx);cases q;cases e;exact⟨by simp,(fun z=>nomatch z),_,PySem.W.kitx_int,True.intro⟩
 | str z=>obtain⟨k,q⟩:=(show ∃ t,u=Value.str z t from rx);cases q;cases e;exact⟨by simp,(fun z=>nomatch z),_,PySem.W.kitx_str,True.intro⟩
 | ref a =>
  cases (show u=Value.ref a from rx)
  unfold tyN at e
  dsimp only at e
  split at e
  ·rename_i xs ea
   cases e
   obtain⟨_,_,n,_,h1⟩:=(show ObjOk X.prog X.w H s.heap a (.lst xs) from I.hok a _ ea)
   exact⟨by simp,(fun z=>nomatch z),_,l5_,⟨_,h1,rfl⟩⟩
  ·rename_i ob xs ea
   cases e
   obtain⟨_,_,_,n,_,h1⟩:=(show ObjOk X.prog X.w H s.heap a (.frz ob (.lst xs)) from I.hok a _ ea)
   exact⟨by simp,(fun z=>nomatch z),_,l5_,⟨_,h1,rfl⟩⟩
  ·rename_i xs ea
   cases e
   obtain⟨_,_,_,p⟩:=(show ObjOk X.prog X.w H s.heap a (.tup xs) from I.hok a _ ea)
   obtain⟨⟨o,h1,h2,_⟩,_⟩:=p
   exact⟨by simp,(fun z=>nomatch z),_,PySem.W.kitx_tuple,⟨o,h1,h2⟩⟩
  ·cases e
 | byt _=>cases e
 | flt _=>cases e
 | ty _=>cases e
theorem jft_ {T:String}(h:ur_ T=true):T="bool"∨T="int"∨T="str"∨T="list"∨T="tuple":=by
 simpa [ur_] using h
theorem jnn_ {K:pc_}{t:String}(ht:t="NoneType"∨t="bool"∨t="int"∨t="str"∨t="list"∨t="tuple"):∀{ts:List V}{Ts:List String}{its:List Value},tys? ts=some Ts->Vals ts its->Ts.all ur_=true ->
  PySem.W.kitAny K (.type t) its=some (Ts.any (subB t))
 | [],_,_,e,.nil,_=>by cases e;rfl
 | .ty T::r,Ts,_,e,.cons rv rt,hk=>by
  simp only[tys?] at e
  cases er:tys? r with
  | none=>rw[er] at e;cases e
  | some q =>
   rw[er] at e
   cases e
   simp only[ko_,qe_] at hk
   cases rv
   have h1:=jfr_ (K:=K) ht (jft_ hk.1)
   have h2:=jnn_ (K:=K) ht er rt hk.2
   unfold PySem.W.kitAny
   rw[h1]
   cases hb:subB t T with
   | true=>simp[hb]
   | false=>simp only[wl_,hb,Bool.false_or];exact h2
 | .non::_,_,_,e,_,_=>by cases e
 | .bl _::_,_,_,e,_,_=>by cases e
 | .int _::_,_,_,e,_,_=>by cases e
 | .str _::_,_,_,e,_,_=>by cases e
 | .byt _::_,_,_,e,_,_=>by cases e
 | .flt _::_,_,_,e,_,_=>by cases e
 | .ref _::_,_,_,e,_,_=>by cases e
theorem vd_:CallR X (.builtin "isinstance") fIsi:=by
 intro pins s σ H xs us Q I r h
 unfold fIsi at h
 split at h
 ·rename_i x T
  split at h
  ·rename_i t et
   obtain⟨u,c,rfl,rx,rc⟩:=jio_ r
   cases rc
   obtain⟨ht,hu,H',hk,hH⟩:=jmo_ (K:=X.K) I rx et
   exact PySem.W.kia_one hk I.kIn hH (jfr_ ht (jft_ h.1)) hu fun tk=>endB (I.tok _) h.2
  ·exact h.elim
 ·rename_i x p
  split at h
  ·rename_i t ts et ep
   split at h
   ·rename_i Ts eT
    obtain⟨u,c,rfl,rx,rc⟩:=jio_ r
    cases rc
    obtain⟨ht,hu,H',hk,hH⟩:=jmo_ (K:=X.K) I rx et
    obtain⟨its,rv,pl,hz⟩:=I.tuple (jcj_ ep)
    obtain⟨⟨cls,dd,data,sl⟩,ho,hc,n,hd⟩:=id pl
    simp only at hc hd
    subst hc hd
    exact PySem.W.kia_tup hk I.kIn hH ho (jnn_ ht eT rv h.1) hu fun tk=>endB (I.tok _) h.2
   ·exact h.elim
  ·exact h.elim
 ·exact h.elim
noncomputable def bls?:List V->Option (List Bool)
 | []=>some []
 | .bl b::r=>(bls? r).map (b::·)
 | _=>none
theorem bls?_map:∀ bs:List Bool,bls? (bs.map V.bl)=some bs
 | []=>rfl
 | b::bs=>by simp only[pr_,bls?,bls?_map bs,r6_]
theorem bls?_of:∀{xs:List V}{bs:List Bool},bls? xs=some bs->xs=bs.map V.bl
 | [],_,h=>by cases h;rfl
 | .bl z::r,ys,h=>by
  simp only[bls?] at h
  cases e:bls? r with
  | none=>rw[e] at h;cases h
  | some q=>rw[e] at h;cases h;rw[bls?_of e];rfl
 | .non::_,_,h=>by cases h
 | .str _::_,_,h=>by cases h
 | .int _::_,_,h=>by cases h
 | .byt _::_,_,h=>by cases h
 | .flt _::_,_,h=>by cases h
 | .ref _::_,_,h=>by cases h
 | .ty _::_,_,h=>by cases h
def fAll (f:List Bool->Bool):List V->Hp->VK->Prop:=fun xs H Q=>match xs with
 | [.ref p]=>(match lstR H p with
  | some ys=>(match bls? ys with | some bs=>Q (.bl (f bs)) H | none=>False)
  | none=>False)
 | _=>False
theorem joo_ (bs:List Bool):(po_ bs.length).all (fun i=>bs.getD i true)=bs.all id:=by
 rw[r5_,sd_,sd_]
 constructor
 ·intro h b hb
  obtain⟨i,hi,rfl⟩:=ln_.mp hb
  have:=h i (p5_.mpr hi)
  simpa [pd_,hi] using this
 ·intro h i hi
  have hi':=p5_.mp hi
  have:=h bs[i] (ps_ hi')
  simpa [pd_,hi'] using this
theorem c_all (hc:X.calm=true):CallR X (.builtin "all") (fAll fun bs=>bs.all id):=by
 intro pins s σ H xs us Q I r h
 unfold fAll at h
 split at h
 ·rename_i p
  split at h
  ·rename_i ys e
   split at h
   ·rename_i bs eb
    obtain⟨u,rfl,ru⟩:=ug_ r
    cases ru
    obtain⟨its,rv,pl,hz⟩:=I.list (jck_ e)
    rw[bls?_of eb] at rv
    have hlen:=rv.length
    rw[pb_] at hlen
    have hlt:p < s.heap.objs.size:=by obtain⟨o,ho,_⟩:=pl.isList;exact p2_ ho
    refine call_all_walk (wpAny_pyIter_list pl.isList ?_)
    refine⟨s.heap.objs.size,_,_,_,_,_,(fun i=>bs.getD i true),rfl,Walks.list (A:=X.A.in1) (show X.A.in1.handled=none from I.ok.hd hc) s.heap.objs.size p (qg_ hlt) its.toArray,⟨⟨_,px_ _ rfl,rfl,rfl⟩,?_⟩,fun i v s' Q' E' hv hq=>?_,fun h' tk k=>?_⟩
    ·obtain⟨o,ho,q⟩:=pl.isList
     exact⟨o,pi_ _ ho,q⟩
    ·have hv':its[i]?=some v:=by simpa using hv
     have hil:i < its.length:=(pj_.mp hv').1
     obtain⟨w',hw,rw'⟩:=rv.get (i:=i) (x:=V.bl (bs.getD i true)) (by rw[pf_];simp[pd_,show i < bs.length by omega])
     rw[hv'] at hw
     cases hw
     cases rw'
     exact wpAny_truthy_bool hq
    ·have e2:(po_ its.toArray.size).all (fun i=>bs.getD i true)=bs.all id:=by rw[pp_,<- hlen];exact joo_ bs
     rw[e2]
     have I1:Inv X pins σ H { s with heap:=s.heap.push { cls:=.type "list_iterator",data:=.fields #[.ref p,.int 0 0] },toks:=s.toks }:=I.kept fun b u q=>pi_ _ q
     have f1:=I.fpOk (H':=H) (b:=s.heap.objs.size) (pm_ _) (I.hok.fresh (pm_ _))
     exact endB (I1.turned (t':=tk) (it:=s.heap.objs.size) (fun b o hb q=>k b o (by simpa using hb) q) f1.1 f1.2.1 f1.2.2.2.1 f1.2.2.2.2.1 f1.2.2.2.2.2) h
   ·exact h.elim
  ·exact h.elim
 ·exact h.elim
end
noncomputable def Its (xs:List V):It:=⟨fun i _=>i < xs.length,fun i H x H'=>H'=H/\xs[i]?=some x,fun i _=>i=xs.length⟩
noncomputable def chs (z:Str):List V:=z.cps.toList.map fun c=>V.str ⟨#[c]⟩
theorem jdf_ {P:Program}{w:World}{K:pc_}{tg:Expr}{it:Addr}{n:Nat}{Pv:Nat->Value->Prop}{St:Nat->Heap->Prop}{xs:List V}
  (hW:∀ A:Around,A.handled=none->Walks P w A it [it] [it] n Pv St) (hn:xs.length=n) (hx:∀ i u,Pv i u->∃ x,xs[i]?=some x/\RelV x u)
  (hobj:∀ i h,St i h->∃ o ty vs,h.get? it=some o/\o.cls=.type ty/\o.data=.fields vs/\["enumerate","zip","dict_itemiterator","dict_reverseitemiterator","odict_iterator","itertools.zip_longest","itertools.pairwise"].contains ty=false)
  (hself:∀(A:Around) (i:Nat) (s:Shared) (Q:Value->Shared->Prop) (E:Value->Shared->Prop),St i s.heap->Q (.ref it) s->wpAny (model P w) A (pyIter (.ref it)) Q E s) :
  Turn P w K tg (Its xs) [it] it St where
 mem:=by simp
 obj:=fun i h st b hb=>by
  have e:b=it:=by simpa using hb
  subst e
  obtain⟨o,ty,vs,ho,_,hd,_⟩:=hobj i h st
  exact⟨o,ho,fun v z=>by rw[hd] at z;cases z⟩
 keep:=fun i h h' st k=>(hW {} rfl).frame i h h' st k
 item:=by
  intro X hP hw hK hc i pins s σ H E I hf st hg
  subst hP hw hK
  obtain⟨f0,f1,f2,f3,f4,f5⟩:=hf it (by simp)
  have hlt:i < n:=by rw[<- hn];exact hg
  refine(hW X.A (I.ok.hd hc)).item i s _ E hlt st fun v h' tk pv st' k=>?_
  obtain⟨x,ex,rx⟩:=hx i v pv
  have I1:Inv X pins σ H { s with heap:=h',toks:=tk }:=I.turned (fun b o hb e=>k b o (by simpa using hb) e) f0 f1 f3 f4 f5
  obtain⟨o,ty,vs,ho,hcl,hd,hnn⟩:=hobj _ _ st'
  exact⟨v,rfl,jdj_ (s:={ s with heap:=h',toks:=tk }) ho hcl hd hnn ⟨x,H,I1,rx,⟨rfl,ex⟩,st',fun b hb=>(hf b hb).1⟩⟩
 done:=by
  intro X hP hw hK hc i pins s σ H E I hf st hg
  subst hP hw hK
  obtain⟨f0,f1,f2,f3,f4,f5⟩:=hf it (by simp)
  have e:i=n:=by rw[<- hn];exact hg
  subst e
  exact(hW X.A (I.ok.hd hc)).done s _ E st fun h' tk k=>⟨rfl,I.turned (fun b o hb e=>k b o (by simpa using hb) e) f0 f1 f3 f4 f5⟩
 self:=hself
section
variable {X:Cx}{tg:Expr}
def jjd_ (K:pc_)(R:It->Hp->Prop):V->Hp->Prop:=fun x H1=>match x with
 | .str z=>R (Its (chs z)) H1
 | .ref a=>(∃ xs,SqL K H1 a xs/\R (Itl K a) H1)∨(∃ xs,SqT K H1 a xs/\R (Itt K a) H1)
 | _=>False
def iAny (K:pc_)(te:TE):TI:=fun σ H R=>te σ H (jjd_ K R)
theorem jhy_ {z:Str}{i:Nat}{u:Value}(h:SignAt z i u):∃ x,(chs z)[i]?=some x/\RelV x u:=by
 obtain⟨c,k,hc,rfl⟩:=h
 refine⟨.str ⟨#[c]⟩,?_,⟨k,rfl⟩⟩
 unfold chs
 rw[pf_,ld_,hc]
 rfl
theorem zb_ {K:pc_}{l:Expr}{tl:TE}(hl:PE X l tl)(hK:X.K=K:=by rfl):PI X tg l (iAny K tl):=by
 subst hK
 intro pins s σ H R I h
 refine thn (hl pins s σ H _ I h) fun v s1 ⟨x,H1,I1,r1,q1⟩=>?_
 have fresh1:∀ b∈[s1.heap.objs.size],FpOk X pins H1 b:=fun b hb=>by
  have e:b=s1.heap.objs.size:=by simpa using hb
  subst e
  exact I1.fpOk (pm_ _) (I1.hok.fresh (pm_ _))
 have kept1:∀ ob:Obj,Inv X pins σ H1 { s1 with heap:=s1.heap.push ob }:=fun ob=>I1.kept (t':=s1.toks) fun b o e=>pi_ _ e
 unfold jjd_ at q1
 split at q1
 ·rename_i z
  obtain⟨t,rfl⟩:=r1
  have hlen:(chs z).length=z.cps.size:=by unfold chs;simp
  cases ha:z.cps.all (· < 128)
  ·refine wpAny_pyIter_wide ha ⟨s1.heap.objs.size,[s1.heap.objs.size],_,_,H1,rfl,kept1 _,jdf_ (fun A hA=>Walks.strWide hA s1.heap.objs.size z t) hlen (fun i u hu=>jhy_ hu) ?_ (fun A i s Q E st q=>wpAny_pyIter_striter_wide st q),⟨_,px_ _ rfl,rfl,rfl⟩,fresh1,q1⟩
   intro i h st
   obtain⟨o,ho,hc,hd⟩:=st
   exact⟨o,_,_,ho,hc,hd,by decide⟩
  ·refine wpAny_pyIter_ascii ha ⟨s1.heap.objs.size,[s1.heap.objs.size],_,_,H1,rfl,kept1 _,jdf_ (fun A hA=>Walks.strAscii hA s1.heap.objs.size z t) hlen (fun i u hu=>jhy_ hu) ?_ (fun A i s Q E st q=>wpAny_pyIter_striter_ascii st q),⟨_,px_ _ rfl,rfl,rfl⟩,fresh1,q1⟩
   intro i h st
   obtain⟨o,ho,hc,hd⟩:=st
   exact⟨o,_,_,ho,hc,hd,by decide⟩
 ·rename_i a
  cases r1
  rcases q1 with ⟨xs,e,q1⟩ | ⟨xs,e,q1⟩
  ·obtain⟨its,rv,p,hz⟩:=I1.list e
   exact wpAny_pyIter_list p.isList ⟨s1.heap.objs.size,[s1.heap.objs.size],_,_,H1,rfl,kept1 _,jpi_ a _,⟨_,px_ _ rfl,rfl,rfl⟩,fresh1,q1⟩
  ·obtain⟨its,rv,p,hz⟩:=I1.tuple e
   exact wpAny_pyIter_tuple (show s1.heap.IsTuple a its.toArray from p) ⟨s1.heap.objs.size,[s1.heap.objs.size],_,_,H1,rfl,kept1 _,jlg_ a _,⟨_,px_ _ rfl,rfl,rfl⟩,fresh1,q1⟩
 ·exact q1.elim
end
theorem jgc_ {J:It}{n:Nat}{val:Nat->V}{p:Addr}{g:TG}{tc:TT}{te:TE}{Q:VK}{σ0:St}{H0:Hp}(Pv:Nat->List V->St->Hp->Prop)
  (hgo:∀ i acc σ H,i < n->Pv i acc σ H->J.go i H) (hst:∀ acc σ H,Pv n acc σ H->J.stop n H) (hy:∀ i acc σ H x H',i < n->Pv i acc σ H->J.yld i H x H'->H'=H/\x=val i)
  (h0:Pv 0 [] σ0 H0) (hp:∀ i acc σ H,Pv i acc σ H->H p=some (.lst acc)/\acc.length<=i) (hz:n<=sizeLine)
  (hs:∀ i acc σ H,i < n->Pv i acc σ H->g (val i) σ H fun σ3 H3=>tc σ3 H3 fun b H4 =>
   if b=true then te σ3 H4 fun v H5=>H5 p=some (.lst acc)/\Pv (i+1) (acc++[v]) σ3 (upd H5 p (.lst (acc++[v]))) else Pv (i+1) acc σ3 H4)
  (hd:∀ acc σ H,Pv n acc σ H->Q (.ref p) H) :
  xe_ J p g tc te Q σ0 H0:=by
 refine⟨fun i m acc σ H=>m=n - i/\i<=n/\Pv i acc σ H,⟨n,by simp,qj_ _,h0⟩,fun i m acc σ' H' w=>?_⟩
 obtain⟨rfl,hi,q⟩:=w
 obtain⟨q1,q2⟩:=hp i acc σ' H' q
 refine⟨q1,?_⟩
 by_cases hlt:i < n
 ·refine .inr ⟨hgo i acc σ' H' hlt q,by omega,Pv (i+1),fun a' σ3 H3 k=>⟨n - (i+1),by omega,rfl,hlt,k⟩,fun x H2 y=>?_⟩
  obtain⟨rfl,rfl⟩:=hy i acc σ' H' x H2 hlt q y
  exact hs i acc σ' _ hlt q
 ·have e:i=n:=by omega
  subst e
  exact .inl ⟨hst acc σ' H' q,hd acc σ' H' q⟩
theorem z7_ {lo:Int}{n:Nat}{p:Addr}{g:TG}{tc:TT}{te:TE}{Q:VK}{σ0:St}{H0:Hp}(Pv:Nat->List V->St->Hp->Prop)
  (h0:Pv 0 [] σ0 H0) (hp:∀ i acc σ H,Pv i acc σ H->H p=some (.lst acc)/\acc.length<=i) (hz:n<=sizeLine)
  (hs:∀ i acc σ H,i < n->Pv i acc σ H->g (.int (lo+i)) σ H fun σ3 H3=>tc σ3 H3 fun b H4 =>
   if b=true then te σ3 H4 fun v H5=>H5 p=some (.lst acc)/\Pv (i+1) (acc++[v]) σ3 (upd H5 p (.lst (acc++[v]))) else Pv (i+1) acc σ3 H4)
  (hd:∀ acc σ H,Pv n acc σ H->Q (.ref p) H):xe_ (Itr lo n) p g tc te Q σ0 H0 :=
 jgc_ (J:=Itr lo n) (val:=fun i=>.int (lo+i)) Pv (fun _ _ _ _ h _=>h) (fun _ _ _ _=>pm_ n) (fun _ _ _ _ _ _ _ _ y=>y) h0 hp hz hs hd
theorem zr_ {K:pc_}{a:Addr}{xs:List V}{p:Addr}{g:TG}{tc:TT}{te:TE}{Q:VK}{σ0:St}{H0:Hp}(Pv:Nat->List V->St->Hp->Prop)
  (hl:∀ i acc σ H,i<=xs.length->Pv i acc σ H->SqL K H a xs)
  (h0:Pv 0 [] σ0 H0) (hp:∀ i acc σ H,Pv i acc σ H->H p=some (.lst acc)/\acc.length<=i) (hz:xs.length<=sizeLine)
  (hs:∀ i acc σ H,i < xs.length->Pv i acc σ H->g (xs.getD i .non) σ H fun σ3 H3=>tc σ3 H3 fun b H4 =>
   if b=true then te σ3 H4 fun v H5=>H5 p=some (.lst acc)/\Pv (i+1) (acc++[v]) σ3 (upd H5 p (.lst (acc++[v]))) else Pv (i+1) acc σ3 H4)
  (hd:∀ acc σ H,Pv xs.length acc σ H->Q (.ref p) H):xe_ (Itl K a) p g tc te Q σ0 H0 :=
 jgc_ (J:=Itl K a) (n:=xs.length) (val:=fun i=>xs.getD i .non) Pv
  (fun i acc σ H hi q=>⟨xs,xs[i],(hl i acc σ H (s0_ hi) q),by simp[hi]⟩) (fun acc σ H q=>⟨xs,(hl _ acc σ H (pm_ _) q),pm_ _⟩)
  (fun i acc σ H x _ hi q y=>⟨y.1,by have:=y.2 xs (hl i acc σ H (s0_ hi) q);rw[pd_,this];rfl⟩) h0 hp hz hs hd
section
variable {X:Cx}{o e:Expr}{es:List Expr}{to:TE}{t:TA}{name:Str}{apos cpos:Pos}{T id:String}{r:V->List V->Hp->VK->Prop}
theorem z2_ {K:pc_}(pa:PlainAttrs T)(slot:Slot T name id)(hty:typeOf (.builtin id)=pure (.type "method_descriptor"))(hm:MtR X id r)(ho:PE X o to)(ha:PA X (e::es) t)(hK:X.K=K:=by rfl)
  (hb:attributeBase o name X.env (eval o X.env)=eval o X.env:=by rfl)
  (hf:((backTo cpos (starEach (e::es) X.env)).all (fun x=>!x.1)&&(backToKw cpos (keywordEach [] X.env)).all (fun x=>x.1.isSome)&&decide ((e::es).length+([]:List Keyword).length+(if ([]:List Keyword).isEmpty then 0 else 1) < 30))=true:=by rfl)
  (hl:(apos.endLine == cpos.line)=true:=by rfl) (he:starEach (e::es) X.env=(false,eval e X.env)::starEach es X.env:=by rfl) (hpl:(backTo cpos (starEach es X.env)).any (·.1)=false:=by rfl):PE X (.Call (.Attribute o name apos) (e::es) [] cpos) (tBM K T r to t):=by
 subst hK
 exact pe_bm pa slot hty hm ho ha hb hf hl he hpl
theorem jwh_ {K:pc_}(pa:PlainAttrs T)(slot:Slot T name id)(hty:typeOf (.builtin id)=pure (.type "method_descriptor"))(hm:MtR X id r)(ho:PE X o to)(hK:X.K=K:=by rfl)
  (hbase:attributeBase o name X.env (eval o X.env)=eval o X.env:=by rfl) (hline:(apos.endLine == cpos.line)=true:=by rfl):PE X (.Call (.Attribute o name apos) [] [] cpos) (tBM0 K T r to):=by
 subst hK
 exact jzi_ pa slot hty hm ho hbase hline
end
def fSet:V->V->V->Hp->(Hp->Prop)->Prop:=fun o i v H Q=>match o,i with
 | .ref p,.int k=>(match H p with
  | some (.lst xs)=>(match ixN xs.length k with | some j=>Q (upd H p (.lst (xs.set j v))) | none=>False)
  | _=>False)
 | _,_=>False
theorem jsb_ {X:Cx}:PSet X fSet:=fun pins s σ H o i v ov iv u Q I ro ri rv h=>by
 unfold fSet at h
 split at h
 ·split at h
  ·rename_i xs e
   split at h
   ·rename_i j ej
    exact jsf_ pins s σ H _ _ v ov iv u Q I ro ri rv ⟨_,_,_,_,rfl,rfl,e,ej,h⟩
   ·exact h.elim
  ·exact h.elim
 ·exact h.elim
structure Dn (P:Program)(w:World)(K:pc_)(mg:Str->Option Value)(base:Heap)(x:Str)(k:Nat)(ps:List Str)(sp:Sp):Prop where
 ex:∃(f:Addr) (fd:FuncData),mg x=some (.ref f)/\si_ K (.ref f)=true/\Binds K fd ps []/\FnOk P w K mg base CX0 k f fd ps sp
theorem jn_ {X:Cx}{x:Str}{k:Nat}{ps:List Str}{sp:Sp}{e:Expr}{es:List Expr}{t:TA}{p pos:Pos}(D:Dn X.prog X.w X.K X.mg X.base x k ps sp)(hr:Room k X.A)(hg:Gl X x)(ha:PA X (e::es) t)
  (hdb:(x == ("__debug__":Str))=false:=by decide) (he:starEach (e::es) X.env=(false,eval e X.env)::starEach es X.env:=by rfl) (hpl:(backTo pos (starEach es X.env)).any (·.1)=false:=by rfl) :
  PE X (.Call (.Name x p) (e::es) [] pos) (jfg_ sp [] E0 t):=by
 obtain⟨f,fd,h1,h2,h3,h4⟩:=D.ex
 exact jug_ h4 hr hg h1 h2 h3 .nil jqh_ ha hdb he hpl
end L2
namespace L2
open PySem
open Sem (wp)
open AutoSeq1 (wpAny_loadPart')
section
variable {prog:Program}{w:World}{A:Around}{E:Value->Shared->Prop}{s:Shared}
theorem jlo_ {it t:Addr}{i:Nat}{items:Array Value}{x:Value}{Q:Value->Shared->Prop}(hit:s.heap.IsTupleIter it t i)(ht:s.heap.IsTuple t items)(hx:items[i]?=some x)
  (hQ:∀ h',h'.IsTupleIter it t (i+1)->qx_ it s.heap h'->Q x { s with heap:=h' }):wpAny (model prog w) A (sk_ (.ref it)) Q E s:=by
 obtain⟨ob,hob,hcl,hdt⟩:=id hit
 obtain⟨ot,hot,_,nt,hdot⟩:=ht
 unfold sk_
 refine wpAny_bind (wpAny_callSpecial?_slot (name:=q2_ "__next__") hit.typeIs sb_ (wpAny_call_entry sb_ hit.typeIs wr_ ?_ (wm_ _)))
 show wpAny _ _ (field (.ref it) 0 >>= _) _ _ s
 refine wpAny_bind (wpAny_field hob hdt (x:=.ref t) rfl ?_)
 have nn:¬ ((Value.ref t == Value.none)=true):=pk_
 show wpAny _ _ (if (Value.ref t == Value.none)=true then _ else _) _ _ s
 rw[if_neg nn]
 show wpAny _ _ (field (.ref it) 1 >>= _) _ _ s
 refine wpAny_bind (wpAny_field hob hdt (x:=.int i 0) rfl ?_)
 show wpAny _ _ (seqItems? (.ref t) >>= _) _ _ s
 refine wpAny_bind (wpAny_seqItems hot hdot ?_)
 simp only[sr_,hx]
 refine wpAny_bind (wpAny_setField hob hdt (by simp) (wpAny_pure ⟨x,rfl,wpAny_pure (hQ _ ?_ (rv_ ..))⟩))
 exact⟨_,rx_ _ hob (lg_ (tm_ hdt _)),(Obj.cls_mapFields ..).trans hcl,by rw[tm_ hdt];simp[rawInt]⟩
theorem jox_ {it t:Addr}{i:Nat}{items:Array Value}{Q:Value->Shared->Prop}(hh:A.handled=none)(hit:s.heap.IsTupleIter it t i)(ht:s.heap.IsTuple t items)(hx:items[i]?=none)
  (hE:∀ h' e,Heap.ExtBut it s.heap h'->(∃ o,h'.get? e=some o/\o.cls=.type "StopIteration")->E (.ref e) { s with heap:=h' }):wpAny (model prog w) A (sk_ (.ref it)) Q E s:=by
 obtain⟨ob,hob,hcl,hdt⟩:=id hit
 obtain⟨ot,hot,_,nt,hdot⟩:=ht
 unfold sk_
 refine wpAny_bind (wpAny_callSpecial?_slot (name:=q2_ "__next__") hit.typeIs sb_ (wpAny_call_entry sb_ hit.typeIs wr_ ?_ (wm_ _)))
 show wpAny _ _ (field (.ref it) 0 >>= _) _ _ s
 refine wpAny_bind (wpAny_field hob hdt (x:=.ref t) rfl ?_)
 have nn:¬ ((Value.ref t == Value.none)=true):=pk_
 show wpAny _ _ (if (Value.ref t == Value.none)=true then _ else _) _ _ s
 rw[if_neg nn]
 show wpAny _ _ (field (.ref it) 1 >>= _) _ _ s
 refine wpAny_bind (wpAny_field hob hdt (x:=.int i 0) rfl ?_)
 show wpAny _ _ (seqItems? (.ref t) >>= _) _ _ s
 refine wpAny_bind (wpAny_seqItems hot hdot ?_)
 simp only[sr_,hx]
 refine wpAny_bind (wpAny_rule (wpAny_bind (wpAny_setField hob hdt (by simp) ?_)))
 show wpAny _ _ (newExc (.type "StopIteration") [] >>= _) _ _ _
 refine wpAny_bind ?_
 simp only[newExc,newTuple]
 refine wpAny_bind (wpAny_newObj_type ?_ (by size_fits))
 refine wpAny_bind (m:=firstArgMember _ _) (wpAny_of_eq (a:=Value.none) (by first | rfl | (simp only[firstArgMember];rfl)) (wpAny_newObj_type ?_ (by size_fits)))
 simp only[raiseNew]
 refine wpAny_bind (wpAny_handled ?_)
 first | rw[show A.in1.handled=none from hh] | rw[hh]
 exact wpAny_bind (wpAny_pure (wpAny_throw (hE _ _ (((rv_ ..).extBut.push _).push _) ⟨_,px_ _ rfl,rfl⟩)))
end
theorem jlx_ {prog:Program}{w:World}{A:Around}(hh:A.handled=none)(it t:Addr)(hne:t≠it)(items:Array Value) :
  Draws prog w A it [it,t] items.size (fun i v=>items[i]?=some v) (fun i h=>h.IsTupleIter it t i/\h.IsTuple t items) where
 live:=fun _ _ st=>let ⟨o,ho,_⟩:=st.1;⟨o,ho⟩
 frame:=fun _ _ _ st hk=>⟨st.1.at fun o e=>hk it (by simp) o e,let ⟨o,ho,r⟩:=st.2;⟨o,hk t (by simp) o ho,r⟩⟩
 item:=fun i s Q E hi st hQ=>by
  refine jlo_ st.1 st.2 (x:=items[i]) (by simp[hi]) fun h' hit' hs'=>?_
  exact hQ _ h' s.toks (by simp[hi]) ⟨hit',st.2.extBut hs'.extBut hne⟩ hs'
 done:=fun s Q E st hE=>jox_ hh st.1 st.2 (by simp) hE
set_option maxHeartbeats 4000000 in
theorem jov_ (l:Addr)(items:Array Value)(n:Nat)(dct:Option Addr)(sl:Array (Option Value))(b:Int)(u:Tok)(hb:q5_ b=true) :
  Meets (Builtin.«enumerate.__new__» ⟨[.type "enumerate",.ref l],[(q2_ "start",.int b u)]⟩) (fun _ R s=>s.heap.get? l=some { cls:=.type "tuple",dict:=dct,data:=.seq items n,slots:=sl } /\
   R (.ok (.ret (.ref (s.heap.push { cls:=.type "tuple_iterator",data:=.fields #[.ref l,.int 0 0] }).objs.size)))
    { s with heap:=(s.heap.push { cls:=.type "tuple_iterator",data:=.fields #[.ref l,.int 0 0] }).push { cls:=.type "enumerate",data:=.fields #[.none,.bool false,.ref s.heap.objs.size,rawInt b,.none,.none] } }) :=
 .of_wp fun prog w A R s h=>by
  obtain⟨hp,g,d,tk,os⟩:=s;obtain⟨hl,h⟩:=h
  have hsub:=sub_enumerate
  have hL:Heap.IsTuple (Shared.heap ⟨hp,g,d,tk,os⟩) l items:=⟨_,hl,rfl,n,rfl⟩
  have hb':(!Builtin.SmallTypes.fitsIndex b)=false:=by rw[hb];rfl
  wp_walk using wpAny_loadPart' hl
  refine wpAny_stack_any fun st=>wpAny_pure ?_
  split
  ·rename_i c _ _ _ _ _
   cases (c == Value.type "enumerate")
   ·wp_walk using wpAny_loadPart' hl,wpAny_pyIter_tuple hL
    exact⟨_,rfl,h⟩
   ·wp_walk using wpAny_loadPart' hl,wpAny_pyIter_tuple hL
    exact⟨_,rfl,h⟩
  ·wp_walk using wpAny_loadPart' hl,wpAny_pyIter_tuple hL
   exact⟨_,rfl,h⟩
set_option maxHeartbeats 4000000 in
theorem jps_ (l:Addr)(items:Array Value)(n:Nat)(dct:Option Addr)(sl:Array (Option Value))(b:Int)(u:Tok)(hb:q5_ b=true) :
  Meets (Builtin.«enumerate.__new__» ⟨[.type "enumerate",.ref l],[(q2_ "start",.int b u)]⟩) (fun _ R s=>s.heap.get? l=some { cls:=.type "list",dict:=dct,data:=.seq items n,slots:=sl } /\
   R (.ok (.ret (.ref (s.heap.push { cls:=.type "list_iterator",data:=.fields #[.ref l,.int 0 0] }).objs.size)))
    { s with heap:=(s.heap.push { cls:=.type "list_iterator",data:=.fields #[.ref l,.int 0 0] }).push { cls:=.type "enumerate",data:=.fields #[.none,.bool false,.ref s.heap.objs.size,rawInt b,.none,.none] } }) :=
 .of_wp fun prog w A R s h=>by
  obtain⟨hp,g,d,tk,os⟩:=s;obtain⟨hl,h⟩:=h
  have hsub:=sub_enumerate
  have hL:Heap.IsList (Shared.heap ⟨hp,g,d,tk,os⟩) l items:=⟨_,hl,rfl,n,rfl⟩
  have hb':(!Builtin.SmallTypes.fitsIndex b)=false:=by rw[hb];rfl
  wp_walk using wpAny_loadPart' hl
  refine wpAny_stack_any fun st=>wpAny_pure ?_
  split
  ·rename_i c _ _ _ _ _
   cases (c == Value.type "enumerate")
   ·wp_walk using wpAny_loadPart' hl,wpAny_pyIter_list hL
    exact⟨_,rfl,h⟩
   ·wp_walk using wpAny_loadPart' hl,wpAny_pyIter_list hL
    exact⟨_,rfl,h⟩
  ·wp_walk using wpAny_loadPart' hl,wpAny_pyIter_list hL
   exact⟨_,rfl,h⟩
section
variable {prog:Program}{w:World}{A:Around}{E:Value->Shared->Prop}{s:Shared}
theorem jwl_ {T newId:String}{self:Value}{rest:List Value}{kw:List (Str×Value)}(hl:typeLookup (.type T) "__init__"=pure (some (.builtin "object.__init__")))
  (hm:Bind.madeBy (.type T)=pure (some newId)) (hne:(some newId != some "object.__new__")=true) :
  Meets (Builtin.«object.__init__» ⟨self::rest,kw⟩) (fun _ R s=>s.TypeIs self T/\R (.ok (.ret .none)) s):=by
 refine Meets.of_wp fun prog w A R s hs=>?_
 obtain⟨hT,hq⟩:=hs
 cases rest with
 | nil =>
  cases kw with
  | nil=>exact wpAny_pure ⟨_,rfl,hq⟩
  | cons k kw =>
   repeat (any_goals (first | assumption | wp_step))
   exact⟨_,rfl,hq⟩
 | cons a rest =>
  repeat (any_goals (first | assumption | wp_step))
  exact⟨_,rfl,hq⟩
set_option maxHeartbeats 4000000 in
theorem jfl_ {T newId initId:String}{Bn Bi:Builtin}{args:List Value}{kw:List (Str×Value)}{S:Spec}{Q Q₁:Value->Shared->Prop}(ft:TypeCalled T newId initId)
  (hct:checkTypeCall T ⟨args,kw⟩=pure ()) (hcn:checkBuiltinCall newId ⟨.type T::args,kw⟩=pure ())
  (entryN:entryFor table newId=some Bn) (entryI:entryFor table initId=some Bi) (g:Meets (Bn ⟨.type T::args,kw⟩) S) (h:S A.in1 (wants Q₁ E) s)
  (hnext:∀ obj s₁,Q₁ obj s₁->s₁.TypeIs obj T/\argsOk initId ⟨obj::args,kw⟩/\∃ Si,Meets (Bi ⟨obj::args,kw⟩) Si/\Si A.in1 (wants (fun r s₂=>r=.none/\Q obj s₂) E) s₁) :
  wpAny (model prog w) A (call (.type T) args kw) Q E s:=by
 obtain⟨c,tl,hmro⟩:=ft.mro
 have hmade:=ft.made
 have hsub:=ft.sub
 refine wpAny_call (codeAny_of_tree ?_)
 show wpAny _ _ (callAny (.type T) _) _ _ _
 refine wpAny_pure ⟨Code.quiet_builtin _ (by decide +kernel),codeAny_builtin F.entry_type_call ?_⟩
 rw[Around.under_plain (weight_type_call_type T args kw) (units_type_call_type T args kw)]
 have h1:=ft.notType
 have h2:=ft.canCreate
 repeat (any_goals (first | assumption | wp_step))
 refine codeAny_mono (codeAny_call_builtin ft.plain entryN (wpAny_of_eq hcn (g prog w A.in1 _ s h))) fun r s₁ hr=>?_
 cases r with
 | error e=>exact hr
 | ok fl =>
  cases fl with
  | ret obj =>
   obtain⟨hT,hok,Si,gi,hsi⟩:=hnext _ _ hr
   have hli:=ft.init.lookup
   have hbi:=ft.init.bind obj
   repeat (any_goals (first | assumption | wp_step))
   refine codeAny_mono (codeAny_call_builtin ft.init.plain entryI (ft.init.check _ _ _ _ _ _ _ _ hT hok (gi prog w A.in1 _ s₁ hsi))) fun r₂ s₂ hr₂=>?_
   cases r₂ with
   | error e=>exact hr₂
   | ok fl₂ =>
    cases fl₂ with
    | ret r =>
     obtain⟨rfl,hq⟩:=hr₂
     repeat (any_goals (first | assumption | wp_step))
    | _=>exact hr₂.elim
  | _=>exact hr.elim
theorem chk1 (a b:Value):checkTypeCall "enumerate" ⟨[a],[(q2_ "start",b)]⟩=pure ():=by kernel_rfl
theorem chk2 (a b:Value):checkBuiltinCall "enumerate.__new__" ⟨[.type "enumerate",a],[(q2_ "start",b)]⟩=pure ():=by kernel_rfl
theorem jxk_ (obj a b:Value):argsOk "object.__init__" ⟨[obj,a],[(q2_ "start",b)]⟩:=by
 unfold argsOk
 rw[signature?_of (id:="object.__init__") (n:=['_','_','t','i','n','i','_','_']) (o:=['t','c','e','j','b','o']) (by kernel_rfl) F.owner_object]
 kernel_rfl
theorem jls_ {l:Addr}{items:Array Value}{b:Int}{u:Tok}{Q:Value->Shared->Prop}(hL:s.heap.IsTuple l items)(hb:q5_ b=true)
  (h:∀ h',IsEnum h' (s.heap.objs.size+1) s.heap.objs.size b .none->h'.IsTupleIter s.heap.objs.size l 0->(∀ b o,s.heap.get? b=some o->h'.get? b=some o)->Q (.ref (s.heap.objs.size+1)) { s with heap:=h' }) :
  wpAny (model prog w) A (call (.type "enumerate") [.ref l] [(q2_ "start",.int b u)]) Q E s:=by
 obtain⟨⟨c,dct,dt,sl⟩,hl,hc,n,hd⟩:=hL
 simp only at hc hd
 subst hc hd
 refine jfl_ (Q₁:=fun obj s₁=>s₁.TypeIs obj "enumerate"/\Q obj s₁) sf_ (chk1 _ _) (chk2 _ _) F.entry_enumerate_new F.entry_object_init (jov_ l items n dct sl b u hb) ⟨hl,?_⟩
  fun obj s₁ hq=>⟨hq.1,jxk_ obj _ _,_,jwl_ sf_.init.lookup sf_.made (by decide),hq.1,rfl,hq.2⟩
 have hz:(s.heap.push { cls:=.type "tuple_iterator",data:=.fields #[.ref l,.int 0 0] }).objs.size=s.heap.objs.size+1:=r1_ ..
 show _/\_
 rw[hz]
 have he:IsEnum ((s.heap.push { cls:=.type "tuple_iterator",data:=.fields #[.ref l,.int 0 0] }).push { cls:=.type "enumerate",data:=.fields #[.none,.bool false,.ref s.heap.objs.size,rawInt b,.none,.none] }) (s.heap.objs.size+1) s.heap.objs.size b .none:=by
  have:=px_ (s.heap.push { cls:=.type "tuple_iterator",data:=.fields #[.ref l,.int 0 0] }) (o:={ cls:=.type "enumerate",data:=.fields #[.none,.bool false,.ref s.heap.objs.size,rawInt b,.none,.none] }) rfl
  rw[hz] at this;exact this
 exact⟨⟨_,he,rfl⟩,h _ he ⟨_,pi_ _ (px_ _ rfl),rfl,rfl⟩ fun b o x=>pi_ _ (pi_ _ x)⟩
theorem jkb_ {l:Addr}{items:Array Value}{b:Int}{u:Tok}{Q:Value->Shared->Prop}(hL:s.heap.IsList l items)(hb:q5_ b=true)
  (h:∀ h',IsEnum h' (s.heap.objs.size+1) s.heap.objs.size b .none->h'.IsListIter s.heap.objs.size l 0->(∀ b o,s.heap.get? b=some o->h'.get? b=some o)->Q (.ref (s.heap.objs.size+1)) { s with heap:=h' }) :
  wpAny (model prog w) A (call (.type "enumerate") [.ref l] [(q2_ "start",.int b u)]) Q E s:=by
 obtain⟨⟨c,dct,dt,sl⟩,hl,hc,n,hd⟩:=hL
 simp only at hc hd
 subst hc hd
 refine jfl_ (Q₁:=fun obj s₁=>s₁.TypeIs obj "enumerate"/\Q obj s₁) sf_ (chk1 _ _) (chk2 _ _) F.entry_enumerate_new F.entry_object_init (jps_ l items n dct sl b u hb) ⟨hl,?_⟩
  fun obj s₁ hq=>⟨hq.1,jxk_ obj _ _,_,jwl_ sf_.init.lookup sf_.made (by decide),hq.1,rfl,hq.2⟩
 have hz:(s.heap.push { cls:=.type "list_iterator",data:=.fields #[.ref l,.int 0 0] }).objs.size=s.heap.objs.size+1:=r1_ ..
 show _/\_
 rw[hz]
 have he:IsEnum ((s.heap.push { cls:=.type "list_iterator",data:=.fields #[.ref l,.int 0 0] }).push { cls:=.type "enumerate",data:=.fields #[.none,.bool false,.ref s.heap.objs.size,rawInt b,.none,.none] }) (s.heap.objs.size+1) s.heap.objs.size b .none:=by
  have:=px_ (s.heap.push { cls:=.type "list_iterator",data:=.fields #[.ref l,.int 0 0] }) (o:={ cls:=.type "enumerate",data:=.fields #[.none,.bool false,.ref s.heap.objs.size,rawInt b,.none,.none] }) rfl
  rw[hz] at this;exact this
 exact⟨⟨_,he,rfl⟩,h _ he ⟨_,pi_ _ (px_ _ rfl),rfl,rfl⟩ fun b o x=>pi_ _ (pi_ _ x)⟩
end
end L2
namespace L2
open PySem PySem.Spec PyProof.Rows
section
variable {X:Cx}{pins:List (Addr×Obj)}{σ:St}{H:Hp}{s:Shared}{h':Heap}
theorem Inv.turnedL {t':Nat}{ch:List Addr}(I:Inv X pins σ H s)(k:∀ b u,b∉ch->s.heap.get? b=some u->h'.get? b=some u)(hf:∀ b∈ch,FpOk X pins H b):Inv X pins σ H { s with heap:=h',toks:=t' }:=by
 have nch:∀ b u,H b=some u->b∉ch:=fun b u e z=>by rw[(hf b z).1] at e;cases e
 refine I.step (g':=s.gens) (d':=s.drawn) (ch:=ch) (fun b hb=>⟨(hf b hb).2.2.2.1,(hf b hb).2.1,(hf b hb).2.2.2.2.1,(hf b hb).2.2.2.2.2⟩)
  (fun b u _ _ hc e _=>k b u hc e) (fun b u _ _ hc e _=>⟨u.slots,k b u hc e⟩) (fun _ _ _ _ n=>n)
  (fun b u hc e=>⟨u,k b u hc e⟩) (fun _ _ e=>e) (fun _ _ _ e=>e) (fun b ps e=>⟨#[],by rw[e];simp⟩) (fun m hm=>?_) (fun b u e=>?_) I.bare
 ·obtain⟨ob,es,ep,ho,r⟩:=hm
  exact⟨ob,es,ep,k _ ob (fun z=>(hf _ z).2.1 rfl) ho,r⟩
 ·refine(I.hok b u e).stay (fun c v hc q=>k c v ?_ q) (fun _ q=>q) fun _ _ q=>q
  rcases hc with z | z
  ·rw[z];exact nch b u e
  ·exact nch c _ z
theorem Inv.turnedNew {t':Nat}{ch:List Addr}{T:Addr}{o:HO}(I:Inv X pins σ H s)(hT:s.heap.objs.size<=T)
  (k:∀ b u,b∉ch->s.heap.get? b=some u->h'.get? b=some u) (hf:∀ b∈ch,FpOk X pins H b) (new:ObjOk X.prog X.w (upd H T o) h' T o) :
  Inv X pins σ (upd H T o) { s with heap:=h',toks:=t' }:=by
 have hn:H T=none:=I.hok.fresh hT
 have nch:∀ b u,H b=some u->b∉ch:=fun b u e z=>by rw[(hf b z).1] at e;cases e
 refine I.step (g':=s.gens) (d':=s.drawn) (ch:=ch) (fun b hb=>⟨(hf b hb).2.2.2.1,(hf b hb).2.1,(hf b hb).2.2.2.2.1,(hf b hb).2.2.2.2.2⟩)
  (fun b u _ _ hc e _=>k b u hc e) (fun b u _ _ hc e _=>⟨u.slots,k b u hc e⟩) (fun b u _ e n=>by rw[jh_ (qg_ (qh_ (p2_ e) hT))];exact n)
  (fun b u hc e=>⟨u,k b u hc e⟩) (fun b xs e=>by rw[jh_ (jg_ e hn)];exact e) (fun b u v e=>by rw[jh_ (jg_ e hn)];exact e) (fun b ps e=>⟨#[],by rw[jh_ (jg_ e hn),e];simp⟩)
  (fun m hm=>?_) (fun b u e=>?_) I.bare
 ·obtain⟨ob,es,ep,ho,r⟩:=hm
  exact⟨ob,es,ep,k _ ob (fun z=>(hf _ z).2.1 rfl) ho,r⟩
 ·by_cases hb:b=T
  ·subst hb;rw[jb_] at e;cases e;exact new
  ·rw[jh_ hb] at e
   refine(I.hok b u e).stay (fun c v hc q=>k c v ?_ q) (fun c q=>by rw[jh_ (jg_ q hn)];exact q) fun c xs q=>by rw[jh_ (jg_ q hn)];exact q
   rcases hc with z | z
   ·rw[z];exact nch b u e
   ·exact nch c _ z
end
theorem Draws.shift {P:Program}{w:World}{A:Around}{it:Addr}{fp:List Addr}{n:Nat}{Pv:Nat->Value->Prop}{St:Nat->Heap->Prop}(D:Draws P w A it fp n Pv St)(b:Nat) :
  Draws P w A it fp (b+n) (fun j x=>b<=j/\Pv (j - b) x) (fun j h=>b<=j/\St (j - b) h) where
 live:=fun j h st=>D.live _ _ st.2
 frame:=fun j h h' st k=>⟨st.1,D.frame _ _ _ st.2 k⟩
 item:=fun j s Q E hj st hQ=>D.item (j - b) s Q E (by have:=st.1;omega) st.2 fun x h' tk hP hS sb=>hQ x h' tk ⟨st.1,hP⟩ ⟨by have:=st.1;omega,by rw[show j+1 - b=j - b+1 by have:=st.1;omega];exact hS⟩ sb
 done:=fun s Q E st hE=>D.done s Q E (by have:=st.2;rwa [ro_] at this) hE
theorem PrX.ok {P:Program}{w:World}{H:Hp}{h:Heap}{a:Addr}{xs:List V}(x:xs.length<=sizeLine/\∃ its:List Value,Vals xs its/\IsTup h a its.toArray):ObjOk P w H h a (PrX a xs):=by
 refine⟨x,?_,fun h1 h2 q k=>?_⟩
 ·obtain⟨_,_,_,o,ho,_⟩:=x
  exact⟨o,ho⟩
 ·obtain⟨z,its,r,o,ho,c⟩:=q
  exact⟨z,its,r,o,k o ho,c⟩
noncomputable def Ien (b:Nat)(xs:List V)(ok:Hp->Prop):It :=
 ⟨fun i H=>ok H/\i < xs.length,fun i H x H'=>∃ T v,H T=none/\xs[i]?=some v/\x=.ref T/\H'=upd H T (PrX T [.int ((b:Int)+(i:Int)),v]),fun i H=>ok H/\i=xs.length⟩
noncomputable def jkm_ (P:Program)(w:World)(A:Around)(it:Addr)(xs:List V)(St0:Nat->Heap->Prop)(H:Hp)(i:Nat)(h:Heap):Prop :=
 ∃(fp:List Addr) (Pv:Nat->Value->Prop) (St:Nat->Heap->Prop),Draws P w A it fp xs.length Pv St/\it∈fp/\(∀ b∈fp,b=it∨H b≠none)/\St i h/\(∀ j x,Pv j x->∃ v,xs[j]?=some v/\RelV v x)/\∀ j h',St j h'->St0 j h'
theorem jfm_ {P:Program}{w:World}{K:pc_}{elts:List Expr}{k:Nat}{pos:Pos}{e it:Addr}{xs:List V}{b:Nat}{ok:Hp->Prop}{St0:Nat->Heap->Prop}(hei:e≠it)
  (hD:∀(X:Cx),X.prog=P->X.w=w->X.K=K->X.calm=true->∀(i:Nat) (pins:List (Addr×Obj)) (s:Shared) (σ:St) (H:Hp),Inv X pins σ H s->ok H->H it=none->St0 i s.heap->jkm_ P w X.A.in1 it xs St0 H i s.heap)
  (hobj:∀ i h,St0 i h->∃ o,h.get? it=some o/\∀ v,o.data≠.cell v) (hkeep:∀ i h h',St0 i h->(∀ o,h.get? it=some o->h'.get? it=some o)->St0 i h') :
  Turn P w K (.Tuple elts k pos) (Ien b xs ok) [e,it] e (fun i h=>(∃ old,IsEnum h e it ((b+i:Nat):Int) old)/\St0 i h) where
 mem:=by simp
 obj:=fun i h st c hc=>by
  rcases p6_.mp hc with z | z
  ·obtain⟨⟨old,he⟩,_⟩:=st
   rw[z]
   exact⟨_,he,fun v q=>by
    have q':Data.fields _=Data.cell v:=q
    cases q'⟩
  ·have z':c=it:=by simpa using z
   rw[z']
   exact hobj i h st.2
 keep:=fun i h h' st kk=>by
  obtain⟨⟨old,he⟩,hs⟩:=st
  exact⟨⟨old,kk e (by simp) _ he⟩,hkeep i h h' hs fun o q=>kk it (by simp) o q⟩
 item:=by
  intro X hP hw hK hc i pins s σ H E I hf st hg
  subst hP hw hK
  obtain⟨⟨old,he⟩,hs⟩:=st
  obtain⟨hok,hlt⟩:=hg
  obtain⟨fp,Pv,St,D,hif,hfp,hst,hrel,hback⟩:=hD X rfl rfl rfl hc i pins s σ H I hok (hf it (by simp)).1 hs
  have hef:e∉fp:=fun z=>by
   rcases hfp e z with q | q
   ·exact hei q
   ·exact q (hf e (by simp)).1
  have W:=WalksT.enumerateD (Draws.shift D b) e hei hef hif
  refine W.item (b+i) s _ E (by omega) ⟨⟨old,he⟩,by omega,by rw[ro_];exact hst⟩ fun T vals h1 tk hPv hT hTup hm hk=>⟨.ref T,rfl,?_⟩
  obtain⟨t,x,⟨_,hPx⟩,rfl⟩:=hPv
  rw[ro_] at hPx
  obtain⟨v,hv,rv⟩:=hrel _ _ hPx
  have apart:=W.apart _ _ _ hm
  refine W.go elts k pos (b+i) T _ _ E hm fun h2 st2 hk2=>?_
  have kk:∀ c u,c∉[e,it]->s.heap.get? c=some u->h2.get? c=some u:=fun c u hc q=>hk2 c u hc (hk c u hc q)
  have tup2:IsTup h2 T #[.int ((b+i:Nat):Int) t,x]:=by
   obtain⟨o,ho,r⟩:=hTup
   exact⟨o,hk2 T o apart ho,r⟩
  refine⟨.ref T,upd H T (PrX T [.int ((b:Int)+(i:Int)),v]),I.turnedNew (t':=tk) hT kk hf ?_,rfl,⟨T,v,I.hok.fresh hT,hv,rfl,rfl⟩,?_,?_⟩
  ·refine PrX.ok ⟨by show 2<=sizeLine;decide,[.int ((b+i:Nat):Int) t,x],.cons ⟨t,?_⟩ (.cons rv .nil),tup2⟩
   rw[lh_]
  ·obtain⟨⟨old2,he2⟩,_,hs2⟩:=st2
   refine⟨⟨old2,he2⟩,hback _ _ ?_⟩
   rwa [show b+i+1 - b=i+1 by omega] at hs2
  ·intro c hc
   have hlt:c < s.heap.objs.size:=by
    rcases p6_.mp hc with z | z
    ·rw[z];exact p2_ he
    ·have z':c=it:=by simpa using z
     rw[z']
     obtain⟨o,ho,_⟩:=hobj i _ hs
     exact p2_ ho
   rw[jh_ (qg_ (qh_ hlt hT))]
   exact(hf c hc).1
 done:=by
  intro X hP hw hK hc i pins s σ H E I hf st hg
  subst hP hw hK
  obtain⟨⟨old,he⟩,hs⟩:=st
  obtain⟨hok,rfl⟩:=hg
  obtain⟨fp,Pv,St,D,hif,hfp,hst,hrel,hback⟩:=hD X rfl rfl rfl hc _ pins s σ H I hok (hf it (by simp)).1 hs
  have hef:e∉fp:=fun z=>by
   rcases hfp e z with q | q
   ·exact hei q
   ·exact q (hf e (by simp)).1
  have W:=WalksT.enumerateD (Draws.shift D b) e hei hef hif
  exact W.done s _ E ⟨⟨old,he⟩,by omega,by rw[ro_];exact hst⟩ fun h1 tk hk=>⟨rfl,I.turnedL hk hf⟩
 self:=fun A i s Q E st q=>by
  obtain⟨⟨old,he⟩,_⟩:=st
  exact wpAny_pyIter_enum he q
section
variable {X:Cx}
end
def jid_ (n:Nat)(R:It->Hp->Prop):V->Hp->Prop:=fun x H1=>match x with
 | .ref a=>(∃ xs,H1 a=some (.lst xs)/\R (Ien n xs fun H=>H a=some (.lst xs)) H1)∨(∃ xs,H1 a=some (.tup xs)/\R (Ien n xs fun H=>H a=some (.tup xs)) H1)
 | _=>False
def jrc_ (te ts:TE):TI:=fun σ H R=>te σ H fun x H1=>ts σ H1 fun y H2=>∃ n:Nat,y=.int (n:Int)/\n < 1000000/\jid_ n R x H2
theorem jtc_ {X:Cx}{pins:List (Addr×Obj)}{σ:St}{H:Hp}{s:Shared}{it a:Addr}{xs:List V}{i:Nat}(hc:X.calm=true)(I:Inv X pins σ H s)(h:SqL X.K H a xs)(hn:H it=none)(ha:H a≠none)(st:s.heap.IsListIter it a i) :
  jkm_ X.prog X.w X.A.in1 it xs (fun i h=>h.IsListIter it a i) H i s.heap:=by
 obtain⟨its,rv,pl,hz⟩:=I.list h
 have hl:its.toArray.size=xs.length:=by rw[pp_];exact rv.length.symm
 have hne:a≠it:=fun z=>ha (z▸hn)
 refine⟨[it,a],_,_,hl▸Draws.list (A:=X.A.in1) (show X.A.in1.handled=none from I.ok.hd hc) it a hne its.toArray,by simp,fun b hb=>?_,⟨st,pl.isList⟩,fun j x hx=>?_,fun _ _ q=>q.1⟩
 ·rcases p6_.mp hb with z | z
  ·exact .inl z
  ·have z':b=a:=by simpa using z
   rw[z'];exact .inr ha
 ·have hx':its[j]?=some x:=by simpa using hx
  have hj:j < xs.length:=by rw[rv.length];exact(pj_.mp hx').1
  obtain⟨u,hu,ru⟩:=rv.get (i:=j) (x:=xs[j]) (by simp[hj])
  rw[hx'] at hu
  cases hu
  exact⟨xs[j],by simp[hj],ru⟩
theorem jtz_ {X:Cx}{pins:List (Addr×Obj)}{σ:St}{H:Hp}{s:Shared}{it a:Addr}{xs:List V}{i:Nat}(hc:X.calm=true)(I:Inv X pins σ H s)(h:SqT X.K H a xs)(hn:H it=none)(ha:H a≠none)(st:s.heap.IsTupleIter it a i) :
  jkm_ X.prog X.w X.A.in1 it xs (fun i h=>h.IsTupleIter it a i) H i s.heap:=by
 obtain⟨its,rv,pl,hz⟩:=I.tuple h
 have hl:its.toArray.size=xs.length:=by rw[pp_];exact rv.length.symm
 have hne:a≠it:=fun z=>ha (z▸hn)
 refine⟨[it,a],_,_,hl▸jlx_ (A:=X.A.in1) (show X.A.in1.handled=none from I.ok.hd hc) it a hne its.toArray,by simp,fun b hb=>?_,⟨st,pl⟩,fun j x hx=>?_,fun _ _ q=>q.1⟩
 ·rcases p6_.mp hb with z | z
  ·exact .inl z
  ·have z':b=a:=by simpa using z
   rw[z'];exact .inr ha
 ·have hx':its[j]?=some x:=by simpa using hx
  have hj:j < xs.length:=by rw[rv.length];exact(pj_.mp hx').1
  obtain⟨u,hu,ru⟩:=rv.get (i:=j) (x:=xs[j]) (by simp[hj])
  rw[hx'] at hu
  cases hu
  exact⟨xs[j],by simp[hj],ru⟩
section
variable {X:Cx}
theorem jda_ {elts:List Expr}{k:Nat}{tpos:Pos}{a b:Expr}{ta tb:TE}{p pos kpos:Pos}(hg:Gl X "enumerate")(hm:X.mg "enumerate"=none)(ha:PE X a ta)(hb:PE X b tb)(hs:starEach [a] X.env=[(false,eval a X.env)]:=by rfl) :
  PI X (.Tuple elts k tpos) (.Call (.Name "enumerate" p) [a] [⟨some "start",b,kpos⟩] pos) (jrc_ ta tb):=by
 intro pins s σ H R I h
 refine wpAny_Call_Name_kw (x8_ I hg hm boot_enumerate ?_)
 refine PySem.W.callWith_of (P:=fun _=>True) (by rw[hs];rfl) (fun _ _=>⟨.machine,.inr (.inl rfl),PySem.W.Looks.of_pure rfl⟩) (PyProof.Rows.evalArgs_kw2 (by rfl) ?_ hs)
 rw[hs]
 show wpAny _ _ (spliced ((false,eval a X.env)::backTo pos (starEach [] X.env))) _ _ s
 refine rn_ (thn (ha pins s σ H _ I h) fun u s1 ⟨x,H1,I1,ru,q1⟩=>sm_ ?_)
 show wpAny _ _ (evalAll ((do let v <- eval b X.env;standAt pos;pure v)::[])) _ _ s1
 refine wpAny_evalAll_cons (wpAny_bind (thn (hb pins s1 σ H1 _ I1 q1) fun u2 s2 ⟨y,H2,I2,ry,n,ey,hn,q2⟩=>wpAny_bind (wpAny_standAt (wpAny_pure (wpAny_evalAll_nil ⟨trivial,?_⟩)))))
 subst ey
 obtain⟨t,rfl⟩:=ry
 show wpAny _ _ (call (.type "enumerate") [u] [(q2_ "start",.int (n:Int) t)]) _ _ s2
 have hfit:q5_ (n:Int)=true:=by
  unfold q5_
  have e:((2:Int) ^ 63)=9223372036854775808:=by decide
  simp only[e,qe_,decide_eq_true_eq]
  omega
 unfold jid_ at q2
 split at q2
 ·rename_i l _
  cases ru
  have fp:∀ b∈[s2.heap.objs.size+1,s2.heap.objs.size],FpOk X pins H2 b:=fun b hb=>by
   have:s2.heap.objs.size<=b:=by
    rcases p6_.mp hb with z | z
    ·rw[z];exact ls_ _
    ·have z':b=s2.heap.objs.size:=by simpa using z
     rw[z'];exact pm_ _
   exact I2.fpOk this (I2.hok.fresh this)
  rcases q2 with ⟨xs,hl,q2⟩ | ⟨xs,hl,q2⟩
  ·obtain⟨its,rv,pl,hz⟩:=I2.list (SqL.of hl)
   refine jkb_ pl.isList hfit fun h1 he hit hk=>?_
   refine wpAny_pyIter_enum he ?_
   refine⟨s2.heap.objs.size+1,[s2.heap.objs.size+1,s2.heap.objs.size],_,_,H2,rfl,I2.kept (t':=s2.toks) hk,jfm_ (b:=n) (ok:=fun H=>H l=some (.lst xs)) (xs:=xs) (St0:=fun i h=>h.IsListIter s2.heap.objs.size l i) (Nat.succ_ne_self _) ?_ ?_ ?_,⟨⟨.none,he⟩,hit⟩,fp,q2⟩
   ·intro X' h1 h2 h3 hc i pins s σ H I ok hn st
    exact h1▸h2▸jtc_ hc I (SqL.of ok) hn (by rw[ok];exact fun z=>nomatch z) st
   ·intro i h st
    obtain⟨o,ho,hc,hd⟩:=st
    exact⟨o,ho,fun v q=>by rw[hd] at q;cases q⟩
   ·intro i h h' st kk
    exact st.at kk
  ·obtain⟨its,rv,pl,hz⟩:=I2.tuple (SqT.of hl)
   refine jls_ pl hfit fun h1 he hit hk=>?_
   refine wpAny_pyIter_enum he ?_
   refine⟨s2.heap.objs.size+1,[s2.heap.objs.size+1,s2.heap.objs.size],_,_,H2,rfl,I2.kept (t':=s2.toks) hk,jfm_ (b:=n) (ok:=fun H=>H l=some (.tup xs)) (xs:=xs) (St0:=fun i h=>h.IsTupleIter s2.heap.objs.size l i) (Nat.succ_ne_self _) ?_ ?_ ?_,⟨⟨.none,he⟩,hit⟩,fp,q2⟩
   ·intro X' h1 h2 h3 hc i pins s σ H I ok hn st
    exact h1▸h2▸jtz_ hc I (SqT.of ok) hn (by rw[ok];exact fun z=>nomatch z) st
   ·intro i h st
    obtain⟨o,ho,hc,hd⟩:=st
    exact⟨o,ho,fun v q=>by rw[hd] at q;cases q⟩
   ·intro i h h' st kk
    exact st.at kk
 ·exact q2.elim
end
theorem jqm_ {b:Nat}{xs:List V}{ok:Hp->Prop}{g:TG}{tb:TS}{D:Ends}{σ:St}{H:Hp}(Pv:Nat->St->Hp->Prop)(h0:Pv 0 σ H)(hok:∀ i σ H,i<=xs.length->Pv i σ H->ok H)
  (hs:∀ i v σ H T,xs[i]?=some v->Pv i σ H->H T=none->g (.ref T) σ (upd H T (PrX T [.int ((b:Int)+(i:Int)),v])) fun σ2 H2=>tb { D with nx:=Pv (i+1),ct:=Pv (i+1),bk:=D.nx } σ2 H2) (hd:∀ σ H,Pv xs.length σ H->D.nx σ H) :
  ∃ W:Nat->Nat->St->Hp->Prop,(∃ m,W 0 m σ H)/\∀ i m σ H,W i m σ H ->
   ((Ien b xs ok).stop i H/\D.nx σ H)∨((Ien b xs ok).go i H/\∃ N:St->Hp->Prop,(∀ σ' H',N σ' H'->∃ m',m' < m/\W (i+1) m' σ' H')/\∀ x H',(Ien b xs ok).yld i H x H'->g x σ H' fun σ2 H2=>tb { D with nx:=N,ct:=N,bk:=D.nx } σ2 H2):=by
 refine⟨fun i m σ H=>m=xs.length - i/\i<=xs.length/\Pv i σ H,⟨xs.length,by simp,qj_ _,h0⟩,fun i m σ' H' w=>?_⟩
 obtain⟨rfl,hi,p⟩:=w
 have ho:=hok i σ' H' hi p
 by_cases hlt:i < xs.length
 ·refine .inr ⟨⟨ho,hlt⟩,Pv (i+1),fun σ2 H2 p'=>⟨xs.length - (i+1),by omega,rfl,hlt,p'⟩,fun x H2 y=>?_⟩
  obtain⟨T,v,hT,hv,rfl,rfl⟩:=y
  exact hs i v σ' H' T hv p hT
 ·have e:i=xs.length:=by omega
  exact .inl ⟨⟨ho,e⟩,hd σ' H' (e▸p)⟩
end L2
namespace L2
open PySem PySem.Spec PyProof.Rows
section
variable {σ:St}{H:Hp}{D:Ends}{Q:VK}{QB:Bool->Hp->Prop}{QA:List V->Hp->Prop}
theorem jwu_ {t u:TS}(h:t { D with nx:=u D } σ H):tSeq t u D σ H:=h
theorem i_ifs {c:TT}{t u:TS}(h:c σ H fun b H1=>if b=true then t D σ H1 else u D σ H1):tIfS c t u D σ H:=h
theorem jzq_ (h:D.nx σ H):jxf_ D σ H:=h
theorem i_ret {te:TE}(h:te σ H D.rt):tRet te D σ H:=h
theorem jxz_ {te:TE}(h:te σ H fun _ H1=>D.nx σ H1):jsj_ te D σ H:=h
theorem i_asg {te:TE}{g:TG}(h:te σ H fun x H1=>g x σ H1 D.nx):tAsg te g D σ H:=h
theorem jy_ {i:Nat}{v:V}{K:St->Hp->Prop}(h:K (σ.set i (some v)) H):jdi_ i v σ H K:=h
theorem jzx_ {to ti:TE}{t:TSet}{v:V}{K:St->Hp->Prop}(h:to σ H fun o H1=>ti σ H1 fun i H2=>t o i v H2 fun H3=>K σ H3):gSub to ti t v σ H K:=h
theorem yq_ {K':pc_}{n:Nat}{t:TGs}{a:Addr}{xs:List V}{K:St->Hp->Prop}(h1:H a=some (.tup xs))(h2:xs.length=n)(h:t xs σ H K):gTup K' n t (.ref a) σ H K:=⟨a,xs,rfl,.inl (SqT.of h1),h2,h⟩
theorem jgd_ {K':pc_}{n:Nat}{t:TGs}{a:Addr}{xs:List V}{K:St->Hp->Prop}(h1:H a=some (PrX a xs))(h2:xs.length=n)(h:t xs σ H K):gTup K' n t (.ref a) σ H K:=⟨a,xs,rfl,.inr h1,h2,h⟩
theorem z9_ {K:St->Hp->Prop}(h:K σ H):gNil [] σ H K:=⟨rfl,h⟩
theorem jv_ {t:TG}{u:TGs}{v:V}{r:List V}{K:St->Hp->Prop}(h:t v σ H fun σ' H'=>u r σ' H' K):jwq_ t u (v::r) σ H K:=⟨v,r,rfl,h⟩
theorem i_for {wi:TI}{g:TG}{tb:TS} (h:wi σ H fun J H1=>∃ W:Nat->Nat->St->Hp->Prop,(∃ m,W 0 m σ H1)/\∀ i m σ H,W i m σ H ->
 (J.stop i H/\D.nx σ H)∨(J.go i H/\∃ N:St->Hp->Prop,(∀ σ' H',N σ' H'->∃ m',m' < m/\W (i+1) m' σ' H')/\∀ x H',J.yld i H x H'->g x σ H' fun σ2 H2=>tb { D with nx:=N,ct:=N,bk:=D.nx } σ2 H2)):tFor wi g tb D σ H:=h
theorem i_var {i:Nat}{v:V}(e:σ[i]?=some (some v))(h:Q v H):tVar i σ H Q:=⟨v,e,h⟩
theorem i_c {v:V}(h:Q v H):tC v σ H Q:=h
theorem i_op {r:R2}{ta tb:TE}(h:ta σ H fun x H1=>tb σ H1 fun y H2=>r x y H2 Q):tOp r ta tb σ H Q:=h
theorem i_un {r:V->Hp->VK->Prop}{ta:TE}(h:ta σ H fun x H1=>r x H1 Q):tUn r ta σ H Q:=h
theorem zae_ {t:TE}(h:t σ H fun x H'=>∃ k,x=.bl k/\QB k H'):jst_ t σ H QB:=h
theorem i_bl {b:Bool}{P:Bool->Prop}(h:P b):∃ k,V.bl b=.bl k/\P k:=⟨b,rfl,h⟩
theorem i_and {t u:TT}(h:t σ H fun c H1=>if c=true then u σ H1 QB else QB false H1):tAnd t u σ H QB:=h
theorem i_or {t u:TT}(h:t σ H fun c H1=>if c=true then QB true H1 else u σ H1 QB):tOr t u σ H QB:=h
theorem i_not {t:TT}(h:t σ H fun c H1=>QB (!c) H1):tNot t σ H QB:=h
theorem jyf_ {ta tb:TE}(h:ta σ H fun x H1=>∃ c,x=.bl c/\if c=true then tb σ H1 Q else Q (.bl false) H1):jxa_ ta tb σ H Q:=h
theorem i_ifE {t:TT}{ta tb:TE}(h:t σ H fun c H1=>if c=true then ta σ H1 Q else tb σ H1 Q):tIf t ta tb σ H Q:=h
theorem jvn_ {r r':R2}{ta tb tc:TE}(h:ta σ H fun x H1=>tb σ H1 fun y H2=>r x y H2 fun z H3=>∃ k,z=.bl k/\(if k=true then tc σ H3 fun w' H4=>r' y w' H4 Q else Q (.bl false) H3)):jsx_ r r' ta tb tc σ H Q:=h
theorem i_nil (h:QA [] H):tNil σ H QA:=h
theorem jyv_ {ta:TE}{tr:TA}(h:ta σ H fun x H1=>tr σ H1 fun xs H2=>QA (x::xs) H2):ye_ ta tr σ H QA:=h
theorem i_cb {r:List V->Hp->VK->Prop}{t:TA}(h:t σ H fun vs H1=>r vs H1 Q):tCB r t σ H Q:=h
theorem jzf_ {sp:Sp}{dvs:List V}{E:XK}{t:TA}(h:t σ H fun vs H1=>sp (vs++dvs) H1 Q E):jfg_ sp dvs E t σ H Q:=h
theorem i_lst {t:TA}(h:t σ H fun xs H1=>xs.length<=sizeLine/\∀ p,H1 p=none->Q (.ref p) (upd H1 p (.lst xs))):tLst t σ H Q:=h
theorem i_tup {t:TA}(h:t σ H fun xs H1=>xs.length<=sizeLine/\∀ p,H1 p=none->Q (.ref p) (upd H1 p (.tup xs))):tTup t σ H Q:=h
theorem i_bm {K:pc_}{T:String}{r:V->List V->Hp->VK->Prop}{to:TE}{t:TA}(h:to σ H fun x H1=>tyV K T x H1/\t σ H1 fun xs H2=>r x xs H2 Q):tBM K T r to t σ H Q:=h
theorem i_bm0 {K:pc_}{T:String}{r:V->List V->Hp->VK->Prop}{to:TE}(h:to σ H fun x H1=>tyV K T x H1/\r x [] H1 Q):tBM0 K T r to σ H Q:=h
theorem i_sl {r:V->Option Int->Option Int->Hp->VK->Prop}{te:TE}{tl th:TO}(h:te σ H fun x H1=>tl σ H1 fun l H2=>th σ H2 fun u H3=>r x l u H3 Q):tSl r te tl th σ H Q:=h
theorem jsi_ {K:Option Int->Hp->Prop}(h:K none H):jmv_ σ H K:=h
theorem jxw_ {t:TE}{K:Option Int->Hp->Prop}(h:t σ H fun x H1=>∃ i,x=.int i/\K (some i) H1):jxd_ t σ H K:=h
theorem i_exI {i:Int}{P:Int->Prop}(h:P i):∃ k,V.int i=.int k/\P k:=⟨i,rfl,h⟩
theorem zag_ {ix:List (Option Nat)}{wi:TI}{g:TG}{tc:TT}{te:TE}(h:wi σ H fun J H1=>∀ p,H1 p=none->xe_ J p g tc te Q (pick ix σ) (upd H1 p (.lst []))):jmg_ ix wi g tc te σ H Q:=h
theorem jxq_ (h:QB true H):jwp_ σ H QB:=h
theorem jzd_ {ta:TA}{R:It->Hp->Prop}(h:ta σ H fun vs H1=>∃ j:Int,vs=[.int j]/\-(2 ^ 62)<=j/\j < 2 ^ 62/\R (Itr 0 j.toNat) H1):jwn_ ta σ H R:=h
theorem p62:((2:Int) ^ 62)=4611686018427387904:=by decide
theorem p63:((2:Int) ^ 63)=9223372036854775808:=by decide
theorem i_r1 {j:Int}{P:Int->Prop}(h1:-1000000000<=j/\j<=1000000000)(h:P j):∃ k:Int,[V.int j]=[.int k]/\-(2 ^ 62)<=k/\k < 2 ^ 62/\P k:=⟨j,rfl,by rw[p62];omega,by rw[p62];omega,h⟩
theorem zaa_ {ta:TA}{R:It->Hp->Prop}(h:ta σ H fun vs H1=>∃ i j:Int,vs=[.int i,.int j]/\(-(2 ^ 62)<=i/\i < 2 ^ 62/\-(2 ^ 62)<=j/\j < 2 ^ 62)/\R (Itr i (j - i).toNat) H1):jxo_ ta σ H R:=h
theorem i_r2 {i j:Int}{P:Int->Int->Prop}(h1:-1000000000<=i/\i<=1000000000/\-1000000000<=j/\j<=1000000000)(h:P i j):∃ a b:Int,[V.int i,V.int j]=[.int a,.int b]/\(-(2 ^ 62)<=a/\a < 2 ^ 62/\-(2 ^ 62)<=b/\b < 2 ^ 62)/\P a b:=⟨i,j,rfl,by rw[p62];omega,h⟩
theorem i_any {K:pc_}{te:TE}{R:It->Hp->Prop}(h:te σ H (jjd_ K R)):iAny K te σ H R:=h
theorem xg_ {K:pc_}{R:It->Hp->Prop}{a:Addr}{xs:List V}(h1:SqL K H a xs)(h:R (Itl K a) H):jjd_ K R (.ref a) H:=.inl ⟨xs,h1,h⟩
theorem jrh_ {K:pc_}{R:It->Hp->Prop}{a:Addr}{xs:List V}(h1:SqT K H a xs)(h:R (Itt K a) H):jjd_ K R (.ref a) H:=.inr ⟨xs,h1,h⟩
theorem juh_ {te ts:TE}{R:It->Hp->Prop}(h:te σ H fun x H1=>ts σ H1 fun y H2=>∃ n:Nat,y=.int (n:Int)/\n < 1000000/\jid_ n R x H2):jrc_ te ts σ H R:=h
theorem jse_ {n:Nat}{R:It->Hp->Prop}{a:Addr}{xs:List V}(h1:H a=some (.lst xs))(h:R (Ien n xs fun H=>H a=some (.lst xs)) H):jid_ n R (.ref a) H:=.inl ⟨xs,h1,h⟩
theorem jzv_ {n:Nat}{R:It->Hp->Prop}{a:Addr}{xs:List V}(h1:H a=some (.tup xs))(h:R (Ien n xs fun H=>H a=some (.tup xs)) H):jid_ n R (.ref a) H:=.inr ⟨xs,h1,h⟩
theorem i_tyS {K:pc_}{z:Str}{R:Prop}(h:R):tyV K "str" (.str z) H/\R:=⟨rfl,h⟩
theorem i_tyL {K:pc_}{p:Addr}{xs:List V}{R:Prop}(h1:SqL K H p xs)(h:R):tyV K "list" (.ref p) H/\R:=⟨.inl ⟨rfl,xs,h1⟩,h⟩
theorem i_fI0 {g:Int->Int->V}{i j:Int}(h:Q (g i j) H):fI0 g (.int i) (.int j) H Q:=h
theorem i_fI {C:Int->Int->Prop}{g:Int->Int->V}{i j:Int}(c:C i j)(h:Q (g i j) H):fI C g (.int i) (.int j) H Q:=⟨c,h⟩
theorem jed_ {i j:Int}(h:Q (.int (i+j)) H):fAdd (.int i) (.int j) H Q:=h
theorem jsw_ {i j:Str}(c:i.length+j.length<=sizeLine)(h:Q (.str (i++j)) H):fAdd (.str i) (.str j) H Q:=⟨c,h⟩
theorem xz_ {a b:Addr}{xs ys:List V}(h1:H a=some (.lst xs))(h2:H b=some (.lst ys))(c:xs.length+ys.length<=sizeLine)(h:∀ p,H p=none->Q (.ref p) (upd H p (.lst (xs++ys)))):fAdd (.ref a) (.ref b) H Q:=by
 show (match H a,H b with | some (.lst xs),some (.lst ys)=>_ | some (.tup xs),some (.tup ys)=>_ | _,_=>_)
 rw[h1,h2];exact⟨c,h⟩
theorem jxs_ {i j:Int}(c:CMul i j)(h:Q (.int (i * j)) H):fMul (.int i) (.int j) H Q:=⟨c,h⟩
theorem jyd_ {a:Addr}{xs:List V}{k:Int}(h1:H a=some (.lst xs))(c:-1000000000<=k/\k<=1000000000/\xs.length * k.toNat<=1000000)(h:∀ p,H p=none->Q (.ref p) (upd H p (.lst (pg_ k.toNat xs).flatten))):fMul (.ref a) (.int k) H Q:=by
 show (match H a with | some (.lst xs)=>_ | _=>_)
 rw[h1];exact⟨by rw[p63];omega,by rw[p63];omega,p7_ c.2.2 (by decide),h⟩
theorem jwk_ {K:pc_}{p:Addr}{i:Int}{xs:List V}{v:V}(h1:SqL K H p xs)(h2:atI xs i=some v)(h:Q v H):fIx K (.ref p) (.int i) H Q:=⟨xs,v,.inl h1,h2,h⟩
theorem y3_ {K:pc_}{p:Addr}{i:Int}{xs:List V}{v:V}(h1:seqR H p=some xs)(h2:atI xs i=some v)(h:Q v H):fIx K (.ref p) (.int i) H Q:=⟨xs,v,uc_ h1,h2,h⟩
theorem i_ixS {K:pc_}{z:Str}{i:Int}{c:Nat}(hz:z.length<=sizeLine)(h2:atI z.cps.toList i=some c)(h:Q (.str ⟨#[c]⟩) H):fIx K (.str z) (.int i) H Q:=by
 refine⟨hz,?_⟩
 rw[h2];exact h
theorem jmf_ {p:Addr}{k:Int}{v:V}{xs:List V}{j:Nat}{K:Hp->Prop}(h1:H p=some (.lst xs))(h2:ixN xs.length k=some j)(h:K (upd H p (.lst (xs.set j v)))):fSet (.ref p) (.int k) v H K:=by
 show (match H p with | some (.lst xs)=>(match ixN xs.length k with | some j=>K (upd H p (.lst (xs.set j v))) | none=>False) | _=>False)
 rw[h1];dsimp only;rw[h2];exact h
theorem i_neg {i:Int}(h:Q (.int (-i)) H):fNeg (.int i) H Q:=h
theorem i_eq {x y:V}(c:scal x y=true)(h:Q (.bl (decide (x=y))) H):fEq x y H Q:=.inl ⟨c,h⟩
theorem i_ne {x y:V}(c:scal x y=true)(h:Q (.bl (!decide (x=y))) H):fNe x y H Q:=.inl ⟨c,h⟩
theorem jtq_ {x y:V}{d:Dt}(h1:Is H x d)(h2:Is H y d)(c:okD d)(h:Q (.bl false) H):fNe x y H Q:=.inr ⟨d,d,h1,h2,c,c,by rw[jtl_ c];exact h⟩
theorem i_is {x:V}(h:Q (.bl (decide (x=.non))) H):fIs x .non H Q:=⟨rfl,h⟩
theorem jvv_ {x:V}(h:Q (.bl (!decide (x=.non))) H):jts_ x .non H Q:=⟨rfl,h⟩
theorem jjc_ {neg:Bool}{x:V}{p:Addr}{xs:List V}(h1:seqR H p=some xs)(c:xq_ x=true/\xs.all xq_=true)(h:Q (.bl (if neg then !inV x xs else inV x xs)) H):fIn neg x (.ref p) H Q:=by
 unfold fIn
 cases x <;> (dsimp only;rw[h1];exact⟨c.1,c.2,h⟩)
theorem jrg_ {K:pc_}{z:Str}(hz:z.length<=sizeLine)(h:Q (.int z.length) H):fLen K [.str z] H Q:=⟨hz,h⟩
theorem jye_ {K:pc_}{p:Addr}{xs:List V}(h1:SqL K H p xs)(h:Q (.int xs.length) H):fLen K [.ref p] H Q:=⟨xs,.inl h1,h⟩
theorem jzn_ {K:pc_}{p:Addr}{xs:List V}(h1:seqR H p=some xs)(h:Q (.int xs.length) H):fLen K [.ref p] H Q:=⟨xs,uc_ h1,h⟩
theorem i_2I {g:Int->Int->V}{i j:Int}(h:Q (g i j) H):f2I g [.int i,.int j] H Q:=h
theorem jzc_ {b:Bool}(h:Q (.int (if b then 1 else 0)) H):fInt [.bl b] H Q:=h
theorem jhq_ {p:Addr}{xs:List V}(h1:seqR H p=some xs)(h:∀ q,H q=none->Q (.ref q) (upd H q (.lst xs))):jsp_ [.ref p] H Q:=by
 show (match seqR H p with | some ys=>GetL H ys Q | none=>False)
 rw[h1];exact h
theorem vq_ {p:Addr}{xs:List V}(h1:seqR H p=some xs)(h:GetT H xs Q):jjr_ [.ref p] H Q:=by
 show (match seqR H p with | some ys=>GetT H ys Q | none=>False)
 rw[h1];exact h
theorem jxj_ {K:pc_}{z:Str}{lo hi:Option Int}(hz:z.length<=sizeLine)(h:Q (.str (l3_ z lo hi)) H):fSl K (.str z) lo hi H Q:=⟨hz,h⟩
theorem jjf_ {K:pc_}{a:Addr}{xs:List V}{lo hi:Option Int}(h1:SqL K H a xs)(h:∀ q,H q=none->Q (.ref q) (upd H q (.lst (cutV xs lo hi)))):fSl K (.ref a) lo hi H Q:=.inl ⟨xs,h1,h⟩
theorem zac_ {b:Bool}(h:QB b H):fTru (.bl b) H QB:=h
theorem jlp_ {l:Addr}{y:V}{xs:List V}(h1:H l=some (.lst xs))(c:xs.length < sizeLine)(h:Q .non (upd H l (.lst (xs++[y])))):jgk_ (.ref l) [y] H Q:=by
 show (match H l with | some (.lst xs)=>xs.length < sizeLine/\Q .non (upd H l (.lst (xs++[y]))) | _=>False)
 rw[h1];exact⟨c,h⟩
theorem jxt_ {z:Str}{p:Addr}{ys:List Str}(h1:lstR H p=some (ys.map V.str))(c:(ys.map (·.length)).sum+ys.length * z.length<=16777216)(h:Q (.str (mg_ z ys)) H):jqg_ (.str z) [.ref p] H Q:=by
 show (match lstR H p with | some xs=>(match strs? xs with | some ys=>(ys.map (·.length)).sum+ys.length * z.length<=16777216/\Q (.str (mg_ z ys)) H | none=>False) | none=>False)
 rw[h1];dsimp only;rw[strs?_map];exact⟨c,h⟩
theorem i_SSI {g:Str->Str->Int->V}{z y:Str}{i:Int}(h:Q (g z y i) H):fSSI g (.str z) [.str y,.int i] H Q:=h
theorem i_allL {f:List Bool->Bool}{p:Addr}{bs:List Bool}(h1:lstR H p=some (bs.map V.bl))(h:Q (.bl (f bs)) H):fAll f [.ref p] H Q:=by
 show (match lstR H p with | some ys=>(match bls? ys with | some bs=>Q (.bl (f bs)) H | none=>False) | none=>False)
 rw[h1];dsimp only;rw[bls?_map];exact h
theorem i_isi {x:V}{t T:String}(h1:tyN H x=some t)(c:ur_ T=true)(h:Q (.bl (subB t T)) H):fIsi [x,.ty T] H Q:=by
 show (match tyN H x with | some t=>ur_ T=true/\Q (.bl (subB t T)) H | none=>False)
 rw[h1];exact⟨c,h⟩
end
theorem iteD {c A B:Prop} [Decidable c](h1:c->A)(h2:¬ c->B):if decide c=true then A else B:=by
 by_cases h:c
 ·rw[if_pos (decide_eq_true h)];exact h1 h
 ·rw[if_neg (by rw[decide_eq_false h];exact pk_)];exact h2 h
theorem iteDT {c A B:Prop} [Decidable c](hc:c)(h:A):if decide c=true then A else B:=by rw[if_pos (decide_eq_true hc)];exact h
theorem iteDF {c A B:Prop} [Decidable c](hc:¬ c)(h:B):if decide c=true then A else B:=by rw[if_neg (by rw[decide_eq_false hc];exact pk_)];exact h
theorem yl_ {b:Bool}{A B:Prop}(h:b=true)(hA:A):if b=true then A else B:=by rw[if_pos h];exact hA
theorem yp_ {b:Bool}{A B:Prop}(h:b=false)(hB:B):if b=true then A else B:=by rw[h];exact iteF hB
theorem szc {xs:List V}(h:decide (xs.length<=1000)=true):xs.length<=sizeLine:=p7_ (of_decide_eq_true h) (by decide)
theorem szn {n:Nat}(h:n<=1000000):n<=sizeLine:=p7_ h (by decide)
theorem i_sz {xs:List V}{R:Prop}(h:xs.length<=sizeLine)(r:R):xs.length<=sizeLine/\R:=⟨h,r⟩
theorem jwg_ {H:Hp}{a:Addr}{xs:List V}(h:H a=some (.tup xs)):tyN H (.ref a)=some "tuple":=by
 show (match H a with | some (.lst _)=>some "list" | some (.frz _ (.lst _))=>some "list" | some (.tup _)=>some "tuple" | _=>none)=_
 rw[h]
theorem juw_ {H:Hp}{a:Addr}{xs:List V}(h:H a=some (.lst xs)):tyN H (.ref a)=some "list":=by
 show (match H a with | some (.lst _)=>some "list" | some (.frz _ (.lst _))=>some "list" | some (.tup _)=>some "tuple" | _=>none)=_
 rw[h]
theorem jd_ {H:Hp}{p:Addr}(h:H p=none)(o:HO):Same H (upd H p o):=fun b u q=>by rw[jh_ (jg_ q h)];exact q
theorem iteB {b:Bool}{A B:Prop}(h1:b=true->A)(h2:b=false->B):if b=true then A else B:=by
 cases b
 ·exact iteF (h2 rfl)
 ·exact iteT (h1 rfl)
theorem atI_0 {α:Type}(x:α)(xs:List α):atI (x::xs) 0=some x:=uw_ (xs:=x::xs) (j:=0) (v:=x) rfl
theorem atI_1 {α:Type}(x y:α)(xs:List α):atI (x::y::xs) 1=some y:=uw_ (xs:=x::y::xs) (j:=1) (v:=y) rfl
theorem atI_2 {α:Type}(x y z:α)(xs:List α):atI (x::y::z::xs) 2=some z:=uw_ (xs:=x::y::z::xs) (j:=2) (v:=z) rfl
theorem atI_3 {α:Type}(x y z u:α)(xs:List α):atI (x::y::z::u::xs) 3=some u:=uw_ (xs:=x::y::z::u::xs) (j:=3) (v:=u) rfl
theorem jjt_ {n:Nat}{i:Int}(h:0<=i)(h2:i < n):ixN n i=some i.toNat:=by
 unfold ixN;rw[if_pos h,if_pos h2]
theorem vx_ {H:Hp}{p:Addr}{xs:List V}:seqR (upd H p (.lst xs)) p=some xs:=j5_ jb_
theorem jsh_ {H:Hp}{p:Addr}{xs:List V}:lstR (upd H p (.lst xs)) p=some xs:=u4_ jb_
theorem jpu_ {H:Hp}{p:Addr}{xs:List V}:seqR (upd H p (.tup xs)) p=some xs:=xf_ jb_
theorem z5_ {α:Type}{xs:List α}{i:Int}{v:α}(h:0<=i)(h2:xs[i.toNat]?=some v):atI xs i=some v:=by
 have e:i=((i.toNat:Nat):Int):=by omega
 rw[e];exact uw_ h2
theorem CMul.l {i j:Int}(h1:-(2 ^ 64) < i)(h2:i < 2 ^ 64):CMul i j:=.inl ⟨h1,h2⟩
theorem CMul.r {i j:Int}(h1:-(2 ^ 64) < j)(h2:j < 2 ^ 64):CMul i j:=.inr ⟨h1,h2⟩
end L2
namespace L2
noncomputable def jfk_ (sep:List Nat):List (List Nat)->List Nat
 | []=>[]
 | [x]=>x
 | x::y::r=>x++sep++jfk_ sep (y::r)
theorem jfx_:∀ ls:List (List Nat),jfk_ [] ls=ls.flatten
 | []=>rfl
 | [x]=>by simp[jfk_]
 | x::y::r=>by
  have:=jfx_ (y::r)
  simp only[jfk_,this,qk_,r2_]
noncomputable def jwm_ (c:Nat):Bool:=decide (97<=c/\c<=122)
def Low (l:List Nat):Prop:=∀ c∈l,jwm_ c=true
structure RS where
 w:List Nat
 g:List Nat
 lacks:Bool
end L2
namespace L2
open PySem PySem.Builtin PySem.Builtin.Str
noncomputable def S (l:List Nat):Str:=⟨l.toArray⟩
theorem jwy_ (l:List Nat):(S l).cps.toList=l:=rfl
theorem zl_ (l:List Nat):(S l).length=l.length:=by show l.toArray.size=_;simp
theorem jdp_ (a b:List Nat):S a++S b=S (a++b):=by
 show (⟨a.toArray++b.toArray⟩:Str)=⟨(a++b).toArray⟩
 rw[List.append_toArray]
theorem jtw_ {a b:List Nat}(h:S a=S b):a=b:=by
 have:=congrArg (fun z:Str=>z.cps.toList) h
 exact this
noncomputable def sx (n d:Nat):Option Int->Nat
 | none=>d
 | some v=>if v < 0 then (v+(n:Int)).toNat else min v.toNat n
noncomputable def cutA {α:Type}(l:List α)(lo hi:Option Int):List α:=(l.drop (sx l.length 0 lo)).take (sx l.length l.length hi - sx l.length 0 lo)
theorem jre_ (n d:Nat)(hd:d<=n)(o:Option Int):sx n d o<=n:=by
 cases o with
 | none=>exact hd
 | some v=>simp only[sx];split <;> omega
theorem juu_ (lo hi:Option Int)(n:Nat):strSliceIndices lo hi 1 n=(po_ (sx n n hi - sx n 0 lo)).map (sx n 0 lo+·):=by
 have key:∀(a c:Nat),sliceRange (a:Int) (c:Int) 1=(po_ (c - a)).map (a+·):=fun a c=>by
  unfold sliceRange
  have e:(if (1:Int) > 0 then (if (a:Int) < (c:Int) then ((c:Int) - a+1 - 1) / 1 else 0) else (if (a:Int) > (c:Int) then ((a:Int) - c - 1 - 1) / (-1) else 0)).toNat=c - a:=by
   rw[if_pos (by decide)]
   split
   ·rw[ma_];omega
   ·omega
  simp only[e]
  apply qz_
  intro k _
  omega
 have cl:∀ v:Int,max 0 (min (if v < 0 then v+(n:Int) else v) (n:Int))=(((if v < 0 then (v+(n:Int)).toNat else min v.toNat n):Nat):Int):=fun v=>by
  by_cases hv:v < 0
  ·simp only[if_pos hv];omega
  ·simp only[if_neg hv];omega
 unfold strSliceIndices
 have h1:((1:Int) > 0)=True:=by simp
 cases lo with
 | none =>
  cases hi with
  | none=>simp only[h1,if_true];exact key 0 n
  | some v=>simp only[h1,if_true,cl];exact key 0 _
 | some u =>
  cases hi with
  | none=>simp only[h1,if_true,cl];exact key _ n
  | some v=>simp only[h1,if_true,cl];exact key _ _
theorem jxl_ (l:List Nat):∀(m a:Nat),a+m<=l.length->((po_ m).map (a+·)).filterMap (l.toArray[·]?)=(l.drop a).take m
 | 0,a,_=>by simp
 | m+1,a,h=>by
  have ha:a < l.length:=by omega
  rw[List.range_succ_eq_map,pr_,r4_,qy_]
  have e:((a+·)∘Nat.succ)=((a+1)+·):=by funext k;simp;omega
  have:=jxl_ l m (a+1) (by omega)
  rw[e,this,re_ ha,List.take_succ_cons]
  simp[ha]
theorem jpq_ (l:List Nat)(lo hi:Option Int) :
  (if ((1:Int) == 1&&(strSliceIndices lo hi 1 (S l).length).length == (S l).length)=true then S l else ⟨((strSliceIndices lo hi 1 (S l).length).filterMap ((S l).cps[·]?)).toArray⟩:Str)=S (cutA l lo hi):=by
 have h1:=jre_ l.length l.length (pm_ _) hi
 have h2:=jre_ l.length 0 (qj_ _) lo
 rw[zl_,juu_]
 unfold cutA
 generalize sx l.length l.length hi=c at *
 generalize sx l.length 0 lo=a at *
 split
 ·rename_i hc
  simp only[pb_,qb_,beq_self_eq_true,kq_,beq_iff_eq] at hc
  by_cases h0:l.length=0
  ·have:l=[]:=kr_.mp h0
   subst this;simp
  ·have ha:a=0:=by omega
   have hc':c=l.length:=by omega
   subst ha hc'
   simp
 ·by_cases hac:a<=c
  ·show S _=S _
   congr 1
   exact jxl_ l _ a (by omega)
  ·have:c - a=0:=by omega
   rw[this]
   simp[S]
theorem jis_ (s sub:Str)(hi:Nat):∀(l:List Nat) (arr:Array Nat) (f:Nat),1<=arr.size->(forIn l (arr,f) (tn_ s sub hi 1)).run.fst=arr
 | [],_,_,_=>rfl
 | a::l,arr,f,h=>by
  rw[tl_]
  unfold tn_
  have c:¬ ((((arr,f).fst.size < 1/\(arr,f).snd<=a)/\a+sub.length<=hi)/\subAt s sub a=true):=fun q=>by
   have t:arr.size < 1:=q.1.1.1
   omega
  rw[if_neg c]
  exact jis_ s sub hi l arr f h
theorem jfv_ (s sub:Str)(hi:Nat):∀(l:List Nat) (f:Nat),(∀ i∈l,f<=i) ->
  (forIn l ((#[]:Array Nat),f) (tn_ s sub hi 1)).run.fst.toList=(l.find? fun i=>decide (i+sub.length<=hi)&&subAt s sub i).toList
 | [],_,_=>rfl
 | a::l,f,hf=>by
  rw[tl_]
  unfold tn_
  have ha:f<=a:=hf a pn_
  by_cases hc:a+sub.length<=hi/\subAt s sub a=true
  ·have c1:((((#[]:Array Nat),f).fst.size < 1/\((#[]:Array Nat),f).snd<=a)/\a+sub.length<=hi)/\subAt s sub a=true:=⟨⟨⟨by simp,ha⟩,hc.1⟩,hc.2⟩
   rw[if_pos c1]
   have e:=jis_ s sub hi l (#[].push a) (a+sub.length) (by simp)
   have e2:(decide (a+sub.length<=hi)&&subAt s sub a)=true:=by simp[hc.1,hc.2]
   rw[rp_,e2]
   show ((forIn l ((#[]:Array Nat).push a,a+sub.length) (tn_ s sub hi 1)).run.fst).toList=_
   rw[e]
   simp
  ·have c2:¬ (((((#[]:Array Nat),f).fst.size < 1/\((#[]:Array Nat),f).snd<=a)/\a+sub.length<=hi)/\subAt s sub a=true):=fun q=>hc ⟨q.1.2,q.2⟩
   rw[if_neg c2]
   have e2:(decide (a+sub.length<=hi)&&subAt s sub a)=false:=by
    rw[Bool.eq_false_iff]
    intro q
    simp only[qe_,decide_eq_true_eq] at q
    exact hc q
   rw[rp_,e2]
   exact jfv_ s sub hi l f fun i hi'=>hf i (pl_ _ hi')
noncomputable def fits (p l:List Nat)(i:Nat):Bool:=decide (i+p.length<=l.length)&&((l.drop i).take p.length == p)
theorem jnd_ (l p:List Nat)(i:Nat):subAt (S l) (S p) i=((l.drop i).take p.length == p):=by
 rw[StrLaws.subAt_eq,zl_];rfl
theorem occ_S (l p:List Nat)(k:Nat):occurrences (S l) (S p) k (S l).length 1=((ks_ k (l.length+1 - k)).find? (fits p l)).toList:=by
 rw[StrLaws.occ_eq,zl_,jfv_ _ _ _ _ k (fun i hi=>by have:=List.mem_range'.mp hi;omega)]
 have e:(fun i=>decide (i+(S p).length<=l.length)&&subAt (S l) (S p) i)=fits p l:=by
  funext i
  rw[jnd_,zl_];rfl
 rw[e]
noncomputable def jsd_ (p l:List Nat)(k:Nat):Int:=match (ks_ k (l.length+1 - k)).find? (fits p l) with
 | some i=>(i:Int)
 | none=>-1
theorem jqs_ (l p:List Nat)(k:Nat):(match occurrences (S l) (S p) k (S l).length 1 with | i::_=>(i:Int) | []=>-1)=jsd_ p l k:=by
 rw[occ_S]
 unfold jsd_
 cases (ks_ k (l.length+1 - k)).find? (fits p l) <;> rfl
theorem jxi_ (sep:List Nat):∀ ls:List (List Nat),Str.join (S sep) (ls.map S)=S (jfk_ sep ls)
 | []=>rfl
 | [x]=>rfl
 | x::y::r=>by
  have ih:=jxi_ sep (y::r)
  show S x++S sep++Str.join (S sep) ((y::r).map S)=_
  rw[ih,jdp_,jdp_]
  rfl
end L2
namespace L2
open PySem PySem.Spec PyProof.Rows
noncomputable def LET:Str:=S [97,98,99,100,101,102,103,104,105,106,107,108,109,110,111,112,113,114,115,116,117,118,119,120,121,122]
theorem jyw_:q2_ "abcdefghijklmnopqrstuvwxyz"=LET:=by decide +kernel
end L2
namespace L2
open PySem PySem.Spec PyProof.Rows
end L2
namespace L2
open PySem PySem.Spec PyProof.Rows
theorem jwb_ (l:List Nat)(lo hi:Option Int):l3_ (S l) lo hi=S (cutA l lo hi):=jpq_ l lo hi
theorem find3_S (l p:List Nat)(k:Nat):Txt.find3 (S l) (S p) (k:Int)=jsd_ p l k:=by
 have e:fromIndex (S l).length (k:Int)=k:=by
  unfold fromIndex
  rw[if_neg (by omega)];omega
 show (match ti_ (S l) (S p) (fromIndex (S l).length (k:Int)) (S l).length 1 with | k::_=>(k:Int) | []=>-1)=_
 rw[e];exact jqs_ l p k
theorem jpb_ (l p:List Nat)(k:Nat):lf_ (S l) (S p) (k:Int)=fits p l k:=by
 have e:fromIndex (S l).length (k:Int)=k:=by
  unfold fromIndex
  rw[if_neg (by omega)];omega
 unfold lf_
 rw[e,jnd_,zl_,zl_];rfl
theorem jzy_ (sep:List Nat)(ls:List (List Nat)):mg_ (S sep) (ls.map S)=S (jfk_ sep ls):=by
 show Builtin.Str.glued (S sep) (ls.map S)=_
 rw[StrLaws.glued_eq_join,jxi_]
theorem jax_ {α:Type}(l:List α)(i j:Nat)(h:j<=l.length)(hij:i<=j):cutA l (some (i:Int)) (some (j:Int))=(l.drop i).take (j - i):=by
 unfold cutA
 have e1:sx l.length 0 (some (i:Int))=i:=by simp only[sx];rw[if_neg (by omega)];omega
 have e2:sx l.length l.length (some (j:Int))=j:=by simp only[sx];rw[if_neg (by omega)];omega
 rw[e1,e2]
theorem ux_ (xs:List V)(lo hi:Option Int):cutV xs lo hi=cutA xs lo hi:=rfl
theorem jvu_ {l:List Nat}(h:Low l)(lo hi:Option Int):Low (cutA l lo hi):=fun c hc=>h c (wh_ (qu_ hc))
theorem jco_ {a b:List Nat}(ha:Low a)(hb:Low b):Low (a++b):=fun c hc=>(pt_.mp hc).elim (ha c) (hb c)
theorem jdn_ {α:Type}(l:List α)(lo hi:Option Int):(cutA l lo hi).length=sx l.length l.length hi - sx l.length 0 lo:=by
 have h1:=jre_ l.length l.length (pm_ _) hi
 unfold cutA
 rw[pw_,q1_]
 omega
noncomputable def LETL:List Nat:=[97,98,99,100,101,102,103,104,105,106,107,108,109,110,111,112,113,114,115,116,117,118,119,120,121,122]
theorem jsr_:Low LETL:=by unfold Low;decide
theorem t_let:q2_ "abcdefghijklmnopqrstuvwxyz"=S LETL:=jyw_
theorem juc_:q2_ ""=S []:=by decide +kernel
theorem jjn_:q2_ "."=S [46]:=by decide +kernel
theorem jld_ (ws:List Nat):mg_ (S []) (ws.map fun c=>S [c])=S ws:=by
 have e:(ws.map fun c=>S [c])=(ws.map fun c=>[c]).map S:=by rw[qy_];rfl
 rw[e,jzy_,jfx_]
 congr 1
 clear e
 induction ws with
 | nil=>rfl
 | cons c ws ih=>simp only[pr_,r2_];rw[ih];rfl
theorem jce_ (ws:List Nat):((ws.map fun c=>S [c]).map (·.length)).sum=ws.length:=by
 induction ws with
 | nil=>rfl
 | cons c ws ih=>simp only[pr_,s4_,p3_,zl_,r7_];rw[qy_] at ih ⊢;omega
theorem jui_ (ws:List Nat):(ws.map fun c=>V.str (S [c]))=(ws.map fun c=>S [c]).map V.str:=by rw[qy_];rfl
theorem jad_ (g:Int)(gs:List Int):inV (.int g) (gs.map V.int)=decide (g∈gs):=by
 induction gs with
 | nil=>rfl
 | cons x gs ih =>
  show (eqV (.int x) (.int g) || inV (.int g) (gs.map V.int))=_
  rw[ih]
  show ((x == g) || decide (g∈gs))=_
  by_cases e:x=g
  ·subst e;simp
  ·have e':¬ g=x:=fun z=>e z.symm
   simp[e,e']
theorem ue_ (gs:List Int):(gs.map V.int).all xq_=true:=by
 rw[md_,sd_];intro _ _;rfl
theorem jyx_ {H:Hp}{Q:VK}{a b:List Nat}(hz:a.length+b.length<=1000000)(h:Q (.str (S (a++b))) H):fAdd (.str (S a)) (.str (S b)) H Q:=jsw_ (szn (by rw[zl_,zl_];exact hz)) (by rw[jdp_];exact h)
theorem i_slC {K:pc_}{H:Hp}{Q:VK}{l:List Nat}{lo hi:Option Int}(hz:l.length<=1000000)(h:Q (.str (S (cutA l lo hi))) H):fSl K (.str (S l)) lo hi H Q:=jxj_ (szn (by rw[zl_];exact hz)) (by rw[jwb_];exact h)
theorem zaf_ {K:pc_}{H:Hp}{Q:VK}{l:List Nat}(hz:l.length<=1000000)(h:Q (.int (l.length:Int)) H):fLen K [.str (S l)] H Q:=jrg_ (szn (by rw[zl_];exact hz)) (by rw[zl_];exact h)
theorem ul_ {H:Hp}{Q:VK}{a:Addr}{x:V}{k:Int}(h1:H a=some (.lst [x]))(c:0<=k/\k<=1000000)(h:∀ p,H p=none->Q (.ref p) (upd H p (.lst (pg_ k.toNat x)))):fMul (.ref a) (.int k) H Q:=by
 refine jyd_ h1 ⟨by omega,by omega,by simp;omega⟩ fun p hp=>?_
 have e:(pg_ k.toNat [x]).flatten=pg_ k.toNat x:=by
  generalize k.toNat=m
  induction m with
  | zero=>rfl
  | succ m ih=>rw[rt_,r2_,ih];rfl
 rw[e];exact h p hp
theorem u8_ {α β:Type}(g:α->β)(l:List α)(lo hi:Option Int):cutA (l.map g) lo hi=(cutA l lo hi).map g:=by
 unfold cutA
 rw[pb_,List.map_take,List.map_drop]
noncomputable def patD (x:List Nat×List Int):Dt:=.tup [.str (S x.1),.tup (x.2.map Dt.int)]
noncomputable def zc_ (xs:List (List Nat×List Int)):Dt:=.lst (xs.map patD)
structure GP (x:List Nat×List Int):Prop where
 ne:1<=x.1.length
 le:x.1.length<=22
 len:x.2.length=x.1.length+1
 num:∀ v∈x.2,0<=v/\v<=9
 cs:∀ c∈x.1,c < 128
theorem jak_ {H:Hp}:∀{g:List Int}{xs:List V},L2.IsL H xs (g.map Dt.int)->xs=g.map V.int
 | [],[],_=>rfl
 | [],_::_,h=>by simp only[qs_,L2.IsL] at h
 | _::_,[],h=>by simp only[pr_,L2.IsL] at h
 | k::g,x::xs,h=>by
  simp only[pr_,L2.IsL,Is] at h
  rw[h.1,jak_ h.2];rfl
theorem xk_ {H:Hp}{v:V}{x:List Nat×List Int}(h:Is H v (patD x)):∃ a t,v=.ref a/\H a=some (.tup [.str (S x.1),.ref t])/\H t=some (.tup (x.2.map V.int)):=by
 simp only[Is,patD] at h
 obtain⟨a,xs,rfl,ha,hxs⟩:=h
 match xs,hxs with
 | [],h=>simp only[L2.IsL] at h
 | [_],h=>simp only[L2.IsL] at h;exact h.2.elim
 | _::_::_::_,h=>simp only[L2.IsL] at h;exact h.2.2.elim
 | [y,z],h =>
  simp only[L2.IsL,Is] at h
  obtain⟨rfl,⟨t,ys,rfl,ht,hys⟩,_⟩:=h
  have:=jak_ hys
  subst this
  exact⟨a,t,rfl,ha,ht⟩
theorem jdm_ {H:Hp}{a t:Addr}{x:List Nat×List Int}(h1:H a=some (.tup [.str (S x.1),.ref t]))(h2:H t=some (.tup (x.2.map V.int))):Is H (.ref a) (patD x):=by
 simp only[Is,patD,L2.IsL]
 exact⟨a,_,rfl,h1,rfl,⟨t,_,rfl,h2,IsL.ints _ _⟩,trivial⟩
theorem yt_ {H:Hp}{v:V}{xs:List (List Nat×List Int)}(h:Is H v (zc_ xs)):∃ a ys,v=.ref a/\H a=some (.lst ys)/\L2.IsL H ys (xs.map patD):=by
 simp only[Is,zc_] at h
 exact h
theorem IsL.append {H:Hp}:∀{ds es:List Dt}{xs ys:List V},L2.IsL H xs ds->L2.IsL H ys es->L2.IsL H (xs++ys) (ds++es)
 | [],_,[],_,_,h=>h
 | d::ds,es,x::xs,ys,h,k=>by
  simp only[L2.IsL] at h
  simp only[rz_,L2.IsL]
  exact⟨h.1,IsL.append h.2 k⟩
 | [],_,_::_,_,h,_=>by simp only[L2.IsL] at h
 | _::_,_,[],_,h,_=>by simp only[L2.IsL] at h
end L2
namespace L2
noncomputable abbrev Pat:=List Nat×List Int
noncomputable def mx (a b:Int):Int:=if b > a then b else a
theorem mx_le {a b c:Int}:mx a b<=c↔a<=c/\b<=c:=by unfold mx;split <;> omega
noncomputable def put (t:List Int)(p:Nat)(v:Int):List Int:=t.set p (mx (t.getD p 0) v)
theorem jdg_ (t:List Int)(p:Nat)(v:Int):(put t p v).length=t.length:=by unfold put;simp
theorem jvm_ (t:List Int)(p q:Nat)(v:Int)(hq:q < t.length):(put t p v).getD q 0=if p=q then mx (t.getD q 0) v else t.getD q 0:=by
 unfold put
 simp only[pd_,List.getElem?_set]
 by_cases h:p=q
 ·subst h;simp[hq]
 ·simp[h]
noncomputable def laid (t:List Int)(b:Nat):List Int->List Int
 | []=>t
 | v::r=>laid (put t b v) (b+1) r
theorem jap_ (b:Nat)(v:Int):∀(r:List Int) (t:List Int) (c:Nat),laid t c (r++[v])=put (laid t c r) (c+r.length) v
 | [],t,c=>by simp[laid]
 | x::r,t,c=>by
  simp only[rz_,laid,p3_]
  rw[jap_ b v r]
  congr 1;omega
theorem yz_:∀(ns:List Int) (t:List Int) (b:Nat),(laid t b ns).length=t.length
 | [],_,_=>rfl
 | v::r,t,b=>by simp only[laid];rw[yz_ r,jdg_]
noncomputable def jbl_ (m:Int)(p b:Nat):List Int->Int
 | []=>m
 | v::r=>jbl_ (if b=p then mx m v else m) p (b+1) r
theorem jiv_:∀(ns:List Int) (t:List Int) (b q:Nat),q < t.length->(laid t b ns).getD q 0=jbl_ (t.getD q 0) q b ns
 | [],_,_,_,_=>rfl
 | v::r,t,b,q,h=>by
  simp only[laid,jbl_]
  rw[jiv_ r _ _ q (by rw[jdg_];exact h),jvm_ t b q v h]
noncomputable def jx_ (p f:List Nat):List Nat:=(po_ f.length).filter (fits p f)
noncomputable def uf_ (f:List Nat)(t:List Int)(x:Pat):List Int:=(jx_ x.1 f).foldl (fun t b=>laid t b x.2) t
noncomputable def vh_ (f:List Nat)(t:List Int)(xs:List Pat):List Int:=xs.foldl (uf_ f) t
noncomputable def numP (f:List Nat)(p:Nat)(m:Int)(x:Pat):Int:=(jx_ x.1 f).foldl (fun m b=>jbl_ m p b x.2) m
noncomputable def numA (f:List Nat)(p:Nat)(m:Int)(xs:List Pat):Int:=xs.foldl (numP f p) m
theorem uq_ (ns:List Int):∀(bs:List Nat) (t:List Int),(bs.foldl (fun t b=>laid t b ns) t).length=t.length/\∀ q,q < t.length->(bs.foldl (fun t b=>laid t b ns) t).getD q 0=bs.foldl (fun m b=>jbl_ m q b ns) (t.getD q 0)
 | [],t=>⟨rfl,fun _ _=>rfl⟩
 | b::bs,t=>by
  obtain⟨h1,h2⟩:=uq_ ns bs (laid t b ns)
  rw[yz_] at h1 h2
  refine⟨by simpa using h1,fun q hq=>?_⟩
  simp only[lc_]
  rw[h2 q hq,jiv_ ns t b q hq]
theorem jay_ (f:List Nat):∀(xs:List Pat) (t:List Int),(vh_ f t xs).length=t.length/\∀ q,q < t.length->(vh_ f t xs).getD q 0=numA f q (t.getD q 0) xs
 | [],t=>⟨rfl,fun _ _=>rfl⟩
 | x::xs,t=>by
  obtain⟨h1,h2⟩:=uq_ x.2 (jx_ x.1 f) t
  obtain⟨h3,h4⟩:=jay_ f xs (uf_ f t x)
  have e:(uf_ f t x).length=t.length:=h1
  rw[e] at h3 h4
  refine⟨h3,fun q hq=>?_⟩
  show (vh_ f (uf_ f t x) xs).getD q 0=_
  rw[h4 q hq]
  show numA f q ((uf_ f t x).getD q 0) xs=numA f q (numP f q (t.getD q 0) x) xs
  rw[show (uf_ f t x).getD q 0=numP f q (t.getD q 0) x from h2 q hq]
noncomputable def frame (w:List Nat):List Nat:=46::(w++[46])
theorem jq_ (w:List Nat):(frame w).length=w.length+2:=by simp[frame]
noncomputable def vals (xs:List Pat)(w:List Nat):List Int:=(po_ (w.length - 1)).map fun j=>numA (frame w) (j+2) 0 xs
theorem yy_ (xs:List Pat)(w:List Nat):(vals xs w).length=w.length - 1:=by simp[vals]
theorem jea_ (xs:List Pat)(w:List Nat)(j:Nat)(h:j < w.length - 1):(vals xs w)[j]?=some (numA (frame w) (j+2) 0 xs):=by
 simp[vals,h]
theorem jvh_ (n q:Nat):(pg_ n (0:Int)).getD q 0=0:=by
 simp only[pd_,tj_];split <;> rfl
theorem jrf_ {a b:List Int}(h:a.length=b.length)(k:∀ q,q < a.length->a.getD q 0=b.getD q 0):a=b:=by
 apply List.ext_getElem h
 intro i h1 h2
 have:=k i h1
 simpa [pd_,h1,h2] using this
theorem u1_ (xs:List Pat)(w:List Nat)(h:1<=w.length):cutA (vh_ (frame w) (pg_ ((frame w).length+1) 0) xs) (some 2) (some (-2))=vals xs w:=by
 obtain⟨h1,h2⟩:=jay_ (frame w) xs (pg_ ((frame w).length+1) 0)
 rw[q9_] at h1 h2
 unfold cutA
 rw[h1]
 rw[jq_] at h1 h2 ⊢
 have e1:sx (w.length+2+1) 0 (some 2)=2:=by simp only[sx];rw[if_neg (by decide)];show min 2 (w.length+2+1)=2;omega
 have e2:sx (w.length+2+1) (w.length+2+1) (some (-2))=w.length+1:=by simp only[sx];rw[if_pos (by decide)];omega
 rw[e1,e2]
 apply jrf_
 ·rw[yy_,pw_,q1_,h1];omega
 ·intro q hq
  rw[pw_,q1_,h1] at hq
  have hq':q < w.length - 1:=by omega
  have:=h2 (2+q) (by omega)
  rw[jvh_] at this
  have e3:(vals xs w).getD q 0=numA (frame w) (q+2) 0 xs:=by rw[pd_,jea_ xs w q hq'];rfl
  rw[e3,mb_ q 2,<- this]
  simp only[pd_,List.getElem?_take,List.getElem?_drop]
  rw[if_pos (by omega)]
theorem jip_ (p:Nat):∀(ns:List Int) (m:Int) (b:Nat),jbl_ m p b ns=if b<=p/\p < b+ns.length then mx m (ns.getD (p - b) 0) else m
 | [],m,b=>by
  simp only[jbl_,r7_]
  rw[if_neg (by omega)]
 | v::r,m,b=>by
  simp only[jbl_,p3_]
  rw[jip_ p r]
  by_cases e:b=p
  ·subst e
   rw[if_pos rfl,if_neg (by omega),if_pos (by omega),t9_];rfl
  ·rw[if_neg e]
   by_cases h:b+1<=p/\p < b+1+r.length
   ·have:p - b=(p - (b+1))+1:=by omega
    rw[if_pos h,if_pos (by omega),this];rfl
   ·rw[if_neg h,if_neg (by omega)]
def yn_ (f:List Nat)(p:Nat)(xs:List Pat)(v:Int):Prop:=∃ x∈xs,∃ b∈jx_ x.1 f,b<=p/\p < b+x.2.length/\v=x.2.getD (p - b) 0
theorem jve_ (f:List Nat)(p:Nat)(x:Pat)(m c:Int):numP f p m x<=c↔m<=c/\∀ b∈jx_ x.1 f,b<=p->p < b+x.2.length->x.2.getD (p - b) 0<=c:=by
 unfold numP
 generalize jx_ x.1 f=bs
 induction bs generalizing m with
 | nil=>simp
 | cons b bs ih =>
  simp only[lc_]
  rw[ih,jip_]
  constructor
  ·rintro⟨h1,h2⟩
   split at h1
   ·rename_i hc
    have:=mx_le.mp h1
    refine⟨this.1,fun b' hb' k1 k2=>?_⟩
    rcases p6_.mp hb' with rfl | hb'
    ·exact this.2
    ·exact h2 b' hb' k1 k2
   ·rename_i hc
    refine⟨h1,fun b' hb' k1 k2=>?_⟩
    rcases p6_.mp hb' with rfl | hb'
    ·exact absurd ⟨k1,k2⟩ hc
    ·exact h2 b' hb' k1 k2
  ·rintro⟨h1,h2⟩
   refine⟨?_,fun b' hb'=>h2 b' (pl_ _ hb')⟩
   split
   ·rename_i hc
    exact mx_le.mpr ⟨h1,h2 b pn_ hc.1 hc.2⟩
   ·exact h1
theorem yw_ (f:List Nat)(p:Nat):∀(xs:List Pat) (m c:Int),numA f p m xs<=c↔m<=c/\∀ v,yn_ f p xs v->v<=c
 | [],m,c=>by
  show m<=c↔_
  constructor
  ·exact fun h=>⟨h,fun v ⟨x,hx,_⟩=>by cases hx⟩
  ·exact fun h=>h.1
 | x::xs,m,c=>by
  show numA f p (numP f p m x) xs<=c↔_
  rw[yw_ f p xs,jve_]
  constructor
  ·rintro⟨⟨h1,h2⟩,h3⟩
   refine⟨h1,fun v ⟨y,hy,b,hb,k1,k2,e⟩=>?_⟩
   rcases p6_.mp hy with rfl | hy
   ·rw[e];exact h2 b hb k1 k2
   ·exact h3 v ⟨y,hy,b,hb,k1,k2,e⟩
  ·rintro⟨h1,h2⟩
   exact⟨⟨h1,fun b hb k1 k2=>h2 _ ⟨x,pn_,b,hb,k1,k2,rfl⟩⟩,fun v ⟨y,hy,r⟩=>h2 v ⟨y,pl_ _ hy,r⟩⟩
theorem jgb_ {f:List Nat}{p:Nat}{xs:List Pat}{m v:Int}(h:yn_ f p xs v):v<=numA f p m xs:=((yw_ f p xs m _).mp (s3_ _)).2 v h
theorem jdt_ {f:List Nat}{p:Nat}{xs:List Pat}{m:Int}:m<=numA f p m xs:=((yw_ f p xs m _).mp (s3_ _)).1
theorem Tells_append {f:List Nat}{p:Nat}{xs ys:List Pat}{v:Int}:yn_ f p (xs++ys) v↔yn_ f p xs v∨yn_ f p ys v:=by
 unfold yn_
 constructor
 ·rintro⟨x,hx,r⟩
  rcases pt_.mp hx with h | h
  ·exact .inl ⟨x,h,r⟩
  ·exact .inr ⟨x,h,r⟩
 ·rintro(⟨x,hx,r⟩ | ⟨x,hx,r⟩)
  ·exact⟨x,qt_ _ hx,r⟩
  ·exact⟨x,qo_ _ hx,r⟩
theorem jig_ (f:List Nat)(p:Nat)(xs ys:List Pat):numA f p 0 (xs++ys)=mx (numA f p 0 xs) (numA f p 0 ys):=by
 have le:∀ c,numA f p 0 (xs++ys)<=c↔mx (numA f p 0 xs) (numA f p 0 ys)<=c:=fun c=>by
  rw[yw_,mx_le,yw_,yw_]
  constructor
  ·rintro⟨h1,h2⟩
   exact⟨⟨h1,fun v t=>h2 v (Tells_append.mpr (.inl t))⟩,⟨h1,fun v t=>h2 v (Tells_append.mpr (.inr t))⟩⟩
  ·rintro⟨⟨h1,h2⟩,⟨_,h3⟩⟩
   exact⟨h1,fun v t=>(Tells_append.mp t).elim (h2 v) (h3 v)⟩
 have a:=(le _).mp (s3_ _)
 have b:=(le _).mpr (s3_ _)
 omega
end L2
namespace L2
open PySem PySem.Spec PyProof.Rows
def jca_:V->List V->Hp->VK->Prop:=fun x vs H Q=>match x,vs with
 | .ref l,[.ref b]=>(match H l,H b with | some (.lst xs),some (.lst zs)=>xs.length+zs.length<=sizeLine/\Q .non (upd H l (.lst (xs++zs))) | _,_=>False)
 | _,_=>False
theorem xc_ {X:Cx}:MtR X "list.extend" jca_:=fun pins s σ H x xs v us Q I rx rs h=>by
 unfold jca_ at h
 split at h
 ·split at h
  ·rename_i e e2
   exact jnw_ pins s σ H _ _ v us Q I rx rs ⟨_,_,_,_,rfl,rfl,e,e2,h.1,h.2⟩
  ·exact h.elim
 ·exact h.elim
theorem jba_ {H:Hp}{Q:VK}{l b:Addr}{xs zs:List V}(h1:H l=some (.lst xs))(h2:H b=some (.lst zs))(c:xs.length+zs.length<=sizeLine)(h:Q .non (upd H l (.lst (xs++zs)))):jca_ (.ref l) [.ref b] H Q:=by
 show (match H l,H b with | some (.lst xs),some (.lst zs)=>xs.length+zs.length<=sizeLine/\Q .non (upd H l (.lst (xs++zs))) | _,_=>False)
 rw[h1,h2];exact⟨c,h⟩
mutual
noncomputable def xj_:Dt->Bool
 | .lst _=>false
 | .tup ds=>zf_ ds
 | _=>true
noncomputable def zf_:List Dt->Bool
 | []=>true
 | d::ds=>xj_ d&&zf_ ds
end
def Tk (H H':Hp):Prop:=∀ b xs,H b=some (.tup xs)->H' b=some (.tup xs)
theorem Tk.trans {H H1 H2:Hp}(a:Tk H H1)(b:Tk H1 H2):Tk H H2:=fun c o h=>b c o (a c o h)
theorem Same.tk {H H':Hp}(h:Same H H'):Tk H H':=fun b xs e=>h b _ e
theorem Tk.new {H:Hp}{p:Addr}(h:H p=none)(o:HO):Tk H (upd H p o):=(jd_ h o).tk
theorem Tk.lst {H:Hp}{p:Addr}{zs:List V}(h:H p=some (.lst zs))(o:HO):Tk H (upd H p o):=fun b xs e=>by
 rw[jh_ (jja_ e h (by intro z;cases z))];exact e
mutual
theorem Is.tk {H H':Hp}(h:Tk H H'):∀{d:Dt}{v:V},xj_ d=true->Is H v d->Is H' v d
 | .non,_,_,k=>by simp only[Is] at k ⊢;exact k
 | .bl _,_,_,k=>by simp only[Is] at k ⊢;exact k
 | .int _,_,_,k=>by simp only[Is] at k ⊢;exact k
 | .str _,_,_,k=>by simp only[Is] at k ⊢;exact k
 | .tup ds,_,t,k=>by
  simp only[xj_] at t
  simp only[Is] at k ⊢
  obtain⟨a,xs,e,h1,h2⟩:=k
  exact⟨a,xs,e,h _ _ h1,IsL.tk h t h2⟩
 | .lst ds,_,t,_=>by simp only[xj_] at t;cases t
theorem IsL.tk {H H':Hp}(h:Tk H H'):∀{ds:List Dt}{xs:List V},zf_ ds=true->IsL H xs ds->IsL H' xs ds
 | [],[],_,_=>by simp only[IsL]
 | [],_::_,_,k=>by simp only[IsL] at k
 | _::_,[],_,k=>by simp only[IsL] at k
 | d::ds,x::xs,t,k=>by
  simp only[zf_,qe_] at t
  simp only[IsL] at k ⊢
  exact⟨Is.tk h t.1 k.1,IsL.tk h t.2 k.2⟩
end
theorem x0_:∀{ds:List Dt},(∀ d∈ds,xj_ d=true)->zf_ ds=true
 | [],_=>rfl
 | d::ds,h=>by simp only[zf_,qe_];exact⟨h d pn_,x0_ fun e he=>h e (pl_ _ he)⟩
theorem jbs_ (ns:List Int):zf_ (ns.map Dt.int)=true:=x0_ fun d hd=>by
 obtain⟨n,_,rfl⟩:=pq_.mp hd;rfl
theorem yb_ (x:List Nat×List Int):xj_ (patD x)=true:=by simp only[patD,xj_,zf_,jbs_,sv_]
theorem jjw_ (xs:List (List Nat×List Int)):zf_ (xs.map patD)=true:=x0_ fun d hd=>by
 obtain⟨n,_,rfl⟩:=pq_.mp hd;exact yb_ n
theorem IsL.snoc {H:Hp}{ds:List Dt}{d:Dt}{xs:List V}{x:V}(h:IsL H xs ds)(k:Is H x d):IsL H (xs++[x]) (ds++[d]) :=
 IsL.append h (by simp only[IsL];exact⟨k,trivial⟩)
noncomputable abbrev Fit:=Nat×List Int
noncomputable def fitD (x:Fit):Dt:=.tup [.int (x.1:Int),.tup (x.2.map Dt.int)]
noncomputable def jnf_ (xs:List Fit):Dt:=.lst (xs.map fitD)
theorem us_ (xs:List Fit):zf_ (xs.map fitD)=true:=x0_ fun d hd=>by
 obtain⟨n,_,rfl⟩:=pq_.mp hd;simp only[fitD,xj_,zf_,jbs_,sv_]
theorem isFit {H:Hp}{v:V}{x:Fit}(h:Is H v (fitD x)):∃ a t,v=.ref a/\H a=some (.tup [.int (x.1:Int),.ref t])/\H t=some (.tup (x.2.map V.int)):=by
 simp only[Is,fitD] at h
 obtain⟨a,xs,rfl,ha,hxs⟩:=h
 match xs,hxs with
 | [],h=>simp only[L2.IsL] at h
 | [_],h=>simp only[L2.IsL] at h;exact h.2.elim
 | _::_::_::_,h=>simp only[L2.IsL] at h;exact h.2.2.elim
 | [y,z],h =>
  simp only[L2.IsL,Is] at h
  obtain⟨rfl,⟨t,ys,rfl,ht,hys⟩,_⟩:=h
  have:=jak_ hys
  subst this
  exact⟨a,t,rfl,ha,ht⟩
theorem jto_ {H:Hp}{a t:Addr}{x:Fit}(h1:H a=some (.tup [.int (x.1:Int),.ref t]))(h2:H t=some (.tup (x.2.map V.int))):Is H (.ref a) (fitD x):=by
 simp only[Is,fitD,L2.IsL]
 exact⟨a,_,rfl,h1,rfl,⟨t,_,rfl,h2,IsL.ints _ _⟩,trivial⟩
theorem jyb_ {H:Hp}{v:V}{xs:List Fit}(h:Is H v (jnf_ xs)):∃ a ys,v=.ref a/\H a=some (.lst ys)/\L2.IsL H ys (xs.map fitD):=by
 simp only[Is,jnf_] at h
 exact h
noncomputable def layF (t:List Int)(xs:List Fit):List Int:=xs.foldl (fun t x=>laid t x.1 x.2) t
theorem jbf_:∀(xs:List Fit) (t:List Int),(layF t xs).length=t.length
 | [],_=>rfl
 | x::xs,t=>by show (layF (laid t x.1 x.2) xs).length=_;rw[jbf_ xs,yz_]
theorem jbr_ (t:List Int)(xs ys:List Fit):layF t (xs++ys)=layF (layF t xs) ys:=kh_
theorem jow_ {xs:List Fit}{i:Nat}(h:i < xs.length)(t:List Int):layF t (xs.take (i+1))=laid (layF t (xs.take i)) xs[i].1 xs[i].2:=by
 rw[p8_,pa_ h,jbr_];rfl
noncomputable def jbh_ (f:List Nat)(x:Pat):List Fit:=(jx_ x.1 f).map fun b=>(b,x.2)
noncomputable def y4_ (f:List Nat)(xs:List Pat):List Fit:=xs.flatMap (jbh_ f)
theorem jil_ {f:List Nat}{xs:List Pat}{i:Nat}(h:i < xs.length):y4_ f (xs.take (i+1))=y4_ f (xs.take i)++jbh_ f xs[i]:=by
 unfold y4_;rw[p8_,pa_ h,ra_];simp
theorem jla_ (f:List Nat)(x:Pat)(t:List Int):layF t (jbh_ f x)=uf_ f t x:=by
 unfold layF jbh_ uf_;rw[List.foldl_map]
theorem jbp_ (f:List Nat):∀(xs:List Pat) (t:List Int),layF t (y4_ f xs)=vh_ f t xs
 | [],_=>rfl
 | x::xs,t=>by
  show layF t (jbh_ f x++y4_ f xs)=vh_ f (uf_ f t x) xs
  rw[jbr_,jla_,jbp_ f xs]
theorem v9_ (p f:List Nat):(jx_ p f).length<=f.length:=by
 unfold jx_;exact p7_ (qf_ _ _) (by simp)
theorem jcw_ (f:List Nat):∀(xs:List Pat),(y4_ f xs).length<=xs.length * f.length
 | []=>by simp[y4_]
 | x::xs=>by
  show (jbh_ f x++y4_ f xs).length<=_
  have h1:=jcw_ f xs
  have h2:=v9_ x.1 f
  have h3:(jbh_ f x).length=(jx_ x.1 f).length:=by simp[jbh_]
  rw[pe_,p3_,kt_];omega
theorem jkq_ {f:List Nat}{xs:List Pat}{y:Fit}(h:y∈y4_ f xs):∃ x∈xs,y.1∈jx_ x.1 f/\y.2=x.2:=by
 obtain⟨x,hx,hy⟩:=qa_.mp h
 obtain⟨b,hb,rfl⟩:=pq_.mp hy
 exact⟨x,hx,hb,rfl⟩
end L2
namespace L2
open PySem
open Sem (wp)
structure ZA (z TI TO i1 i2:Addr)(f1 f2:List Addr):Prop where
 TIz:TI≠z
 TOz:TO≠z
 i1z:i1≠z
 i2z:i2≠z
 TITO:TI≠TO
 TIi1:TI≠i1
 TIi2:TI≠i2
 TOi1:TO≠i1
 TOi2:TO≠i2
 i12:i1≠i2
 zf1:z∉f1
 zf2:z∉f2
 of1:TO∉f1
 of2:TO∉f2
 i1f2:i1∉f2
 i2f1:i2∉f1
section
variable {prog:Program}{w:World}{A:Around}{E:Value->Shared->Prop}{s:Shared}
end
set_option maxHeartbeats 4000000 in
section
variable {prog:Program}{w:World}{A:Around}{E:Value->Shared->Prop}{s:Shared}
end
end L2
namespace L2
open PySem PySem.Spec PyProof.Rows
noncomputable def Izp (xs ys:List V)(ok:Hp->Prop):It :=
 ⟨fun i H=>ok H/\i < xs.length/\i < ys.length,fun i H x H'=>∃ T u v,H T=none/\xs[i]?=some u/\ys[i]?=some v/\x=.ref T/\H'=upd H T (PrX T [u,v]),fun i H=>ok H/\i=min xs.length ys.length⟩
section
variable {X:Cx}
end
end L2
namespace L2
open PySem PySem.Spec PyProof.Rows
section
variable {X:Cx}
def zpItL (R:It->Hp->Prop):V->V->Hp->Prop:=fun x y H1=>match x,y with
 | .ref b,.ref a=>∃ xs ys,H1 b=some (.lst xs)/\H1 a=some (.lst ys)/\R (Izp xs ys fun H=>H b=some (.lst xs)/\H a=some (.lst ys)) H1
 | _,_=>False
def jlc_:V->List V->Hp->VK->Prop:=fun x vs H Q=>match x,vs with
 | .ref l,[]=>(match H l with | some (.lst xs)=>Q .non (upd H l (.lst [])) | _=>False)
 | _,_=>False
theorem jvb_:MtR X "list.clear" jlc_:=fun pins s σ H x xs v us Q I rx rs h=>by
 unfold jlc_ at h
 split at h
 ·split at h
  ·rename_i e
   exact jqv_ pins s σ H _ _ v us Q I rx rs ⟨_,_,rfl,rfl,e,h⟩
  ·exact h.elim
 ·exact h.elim
theorem zad_ {l:Addr}{xs:List V}{H:Hp}{Q:VK}(h1:H l=some (.lst xs))(h:Q .non (upd H l (.lst []))):jlc_ (.ref l) [] H Q:=by
 show (match H l with | some (.lst xs)=>Q .non (upd H l (.lst [])) | _=>False)
 rw[h1];exact h
end
end L2
namespace L2
open PySem PySem.Spec PyProof.Rows
def Lay (n:Nat)(d:Dt):Prop:=w8_ (toP d)=true/\me_ (toP d)<=n
theorem Lay.ok {n:Nat}{d:Dt}(h:Lay n d)(hn:n<=64):okD d:=by
 unfold okD SeqAt.shaped
 rw[h.1,decide_eq_true (p7_ h.2 hn)];rfl
theorem jgl_ {n:Nat}:∀{ds:List Dt},(∀ d∈ds,Lay n d)->PyData.canLayAll0 (toPs ds)=true/\PyData.depthAll (toPs ds)<=n
 | [],_=>⟨rfl,qj_ _⟩
 | d::ds,h=>by
  have h1:=h d pn_
  have h2:=jgl_ (ds:=ds) fun e he=>h e (pl_ _ he)
  simp only[toPs,PyData.canLayAll0,PyData.depthAll,h1.1,h2.1,Bool.and_self,true_and]
  have:=h1.2
  have:=h2.2
  omega
theorem Lay.lst {n:Nat}{ds:List Dt}(h:∀ d∈ds,Lay n d):Lay (n+1) (.lst ds):=by
 have:=jgl_ h
 unfold Lay
 simp only[toP,w8_,me_,this.1,true_and]
 omega
theorem Lay.tup {n:Nat}{ds:List Dt}(h:∀ d∈ds,Lay n d):Lay (n+1) (.tup ds):=by
 have:=jgl_ h
 unfold Lay
 simp only[toP,w8_,me_,this.1,true_and]
 omega
theorem Lay.mono {n m:Nat}{d:Dt}(h:Lay n d)(hm:n<=m):Lay m d:=⟨h.1,p7_ h.2 hm⟩
theorem Lay.int {i:Int}:Lay 0 (.int i):=⟨rfl,pm_ _⟩
theorem Lay.non:Lay 0 .non:=⟨rfl,pm_ _⟩
theorem Lay.str {l:List Nat}(h:∀ c∈l,c < 128):Lay 0 (.str (S l)):=by
 refine⟨?_,pm_ _⟩
 simp only[toP,w8_]
 unfold PyData.strOk
 rw[<- Array.all_toList]
 show (l.all fun x=>decide (x < 0x110000))=true
 rw[sd_]
 intro c hc
 have:=h c hc
 exact decide_eq_true (by omega)
theorem Lay.ints {n:List Int}:∀ d∈n.map Dt.int,Lay 0 d:=fun d hd=>by
 obtain⟨x,_,rfl⟩:=pq_.mp hd
 exact Lay.int
theorem Lay.pat {x:List Nat×List Int}(h:∀ c∈x.1,c < 128):Lay 2 (patD x):=Lay.tup fun d hd=>by
 rcases p6_.mp hd with h1 | h1
 ·rw[h1];exact(Lay.str h).mono (by decide)
 ·have:d=.tup (x.2.map Dt.int):=by simpa using h1
  rw[this];exact Lay.tup Lay.ints
theorem Lay.pats {xs:List (List Nat×List Int)}(h:∀ x∈xs,∀ c∈x.1,c < 128):Lay 3 (zc_ xs):=Lay.lst fun d hd=>by
 obtain⟨x,hx,rfl⟩:=pq_.mp hd
 exact Lay.pat (h x hx)
end L2
set_option autoImplicit false
namespace PyProof.Rows
open PySem
noncomputable abbrev SM (α:Type):=StateT SortSt Sem α
section
variable {M:Model}{A:Around}{E:Value->Shared->Prop}{s:Shared}{beyond:Nat->SM (Option Bool)}{B:Nat->Bool}{n:Nat}{st:SortSt}{Q:Option Nat->SortSt->Prop}
end
structure Cmp (prog:Program)(w:World)(A:Around)(E:Value->Shared->Prop)(s:Shared)(kd:SortKind)(O:KeyOrd)(ok:Keyed->Prop)(k:Keyed->O.α):Prop where
 lt:∀{st:SortSt}{x y:Keyed}{Q:Option Bool->SortSt->Prop},kindOf st=kd->ok x->ok y->Q (some (O.blt (k x) (k y))) st->wpS (model prog w) A E s (lt' x y) Q st
section
variable {prog:Program}{w:World}{A:Around}{E:Value->Shared->Prop}{s:Shared}{kd:SortKind}{O:KeyOrd}{ok:Keyed->Prop}{k:Keyed->O.α}
def Srt (O:KeyOrd)(k:Keyed->O.α)(l:List Keyed):Prop:=l.Pairwise fun x y=>O.kle (k x) (k y)
theorem jix_ {arr:Array Keyed}{i:Nat}{x:Keyed}{M:Model}{st:SortSt}{Q:Keyed->SortSt->Prop}(hx:arr[i]?=some x)(h:Q x st):wpS M A E s (elem' arr i) Q st:=by
 rw[elem'_eq,hx];exact wpS_pure h
end
end PyProof.Rows
set_option autoImplicit false
namespace PyProof.Rows
open PySem
end PyProof.Rows
set_option autoImplicit false
namespace PyProof.Rows
open PySem
section
variable {O:KeyOrd}{k:Keyed->O.α}
structure Mi (O:KeyOrd)(k:Keyed->O.α)(A B o:List Keyed)(ia ib:Nat):Prop where
 perm:(o++A.drop ia++B.drop ib).Perm (A++B)
 srt:Srt O k o
 la:∀ x∈o,∀ y∈A.drop ia,O.kle (k x) (k y)
 lb:∀ x∈o,∀ y∈B.drop ib,O.kle (k x) (k y)
variable {A B o:List Keyed}{ia ib:Nat}
end
section
variable {prog:Program}{w:World}{A:Around}{E:Value->Shared->Prop}{s:Shared}{kd:SortKind}{O:KeyOrd}{ok:Keyed->Prop}{k:Keyed->O.α}{a b:Array Keyed}
structure Two (O:KeyOrd)(ok:Keyed->Prop)(k:Keyed->O.α)(a b:Array Keyed):Prop where
 oka:∀ x∈a.toList,ok x
 okb:∀ x∈b.toList,ok x
 sa:Srt O k a.toList
 sb:Srt O k b.toList
 last:∀ x∈a.toList.drop (a.toList.length - 1),∀ y∈b.toList,O.kle (k y) (k x)
 first:∀ x∈b.toList.take 1,∀ y∈a.toList,O.kle (k x) (k y)
 na:0 < a.size
 nb:0 < b.size
noncomputable def lens (a:Array Keyed):a.toList.length=a.size:=by simp
end
end PyProof.Rows
set_option autoImplicit false
namespace PyProof.Rows
open PySem
end PyProof.Rows
set_option autoImplicit false
namespace PyProof.Rows
open PySem
section
variable {O:KeyOrd}{k:Keyed->O.α}
structure Mh (O:KeyOrd)(k:Keyed->O.α)(A B o:List Keyed)(na nb:Nat):Prop where
 perm:(A.take na++B.take nb++o.reverse).Perm (A++B)
 srt:Srt O k o.reverse
 la:∀ x∈A.take na,∀ y∈o,O.kle (k x) (k y)
 lb:∀ x∈B.take nb,∀ y∈o,O.kle (k x) (k y)
variable {A B o:List Keyed}{na nb:Nat}
end
section
variable {prog:Program}{w:World}{A:Around}{E:Value->Shared->Prop}{s:Shared}{kd:SortKind}{O:KeyOrd}{ok:Keyed->Prop}{k:Keyed->O.α}{a b:Array Keyed}
end
end PyProof.Rows
set_option autoImplicit false
namespace PyProof.Rows
open PySem
def okK (κ:KeyKind)(p:Keyed):Prop:=∃ a,κ.keyOf p.1=some a
noncomputable def keyK (κ:KeyKind)(p:Keyed):κ.α:=(κ.keyOf p.1).getD κ.dflt
def FrS (xs ys:Array Keyed)(lo hi:Nat):Prop:=∀ i,(i < lo∨hi<=i)->ys[i]?=xs[i]?
structure SB (kd:SortKind)(a₀:Array Keyed)(pd:Array (Nat×Nat×Nat))(xs:Array Keyed)(lo hi:Nat)(st:SortSt):Prop where
 perm:(arrOf st).Perm a₀
 kind:kindOf st=kd
 failed:failedOf st=none
 pend:pendingOf st=pd
 fr:FrS xs (arrOf st) lo hi
section
variable {kd:SortKind}{a₀ xs:Array Keyed}{pd:Array (Nat×Nat×Nat)}{lo hi:Nat}{st:SortSt}{κ:KeyKind}
theorem SB.size (h:SB kd a₀ pd xs lo hi st):(arrOf st).size=a₀.size:=h.perm.size_eq
theorem SB.setArr (h:SB kd a₀ pd xs lo hi st){ys:Array Keyed}(hp:ys.Perm (arrOf st))(hf:FrS (arrOf st) ys lo hi):SB kd a₀ pd xs lo hi (setArr st ys) :=
 ⟨hp.trans h.perm,h.kind,h.failed,h.pend,fun i hi=>(hf i hi).trans (h.fr i hi)⟩
theorem ub_ {ys:Array Keyed}{i j:Nat}(hj:j<=ys.size)(h1:lo<=i)(h2:j<=hi):FrS ys (mirror ys i j ((j - i) / 2)) lo hi:=fun k hk=>by
 rw[getElem?_mirror_all hj,if_neg (by omega)]
theorem jpt_ {ys:Array Keyed}{src d:Nat}(hs:src < ys.size)(hd:d<=src)(h1:lo<=src - d)(h2:src < hi):FrS ys (bubble ys src d) lo hi:=fun k hk=>by
 rw[getElem?_bubble hs d hd,if_neg (by omega),if_neg (by omega)]
def SIn (κ:KeyKind)(ys:Array Keyed)(lo n:Nat):Prop:=∀ i j,lo<=i->i<=j->j < lo+n->κ.kle (KK κ ys i) (KK κ ys j)
def NIn (κ:KeyKind)(ys:Array Keyed)(lo n:Nat):Prop:=∀ i j,lo<=i->i<=j->j < lo+n->κ.kle (KK κ ys j) (KK κ ys i)
theorem SB.at (h:SB kd a₀ pd xs lo hi st)(h0:∀ p∈a₀.toList,okK κ p){i:Nat}(hi:i < a₀.size):∃ p,(arrOf st)[i]?=some p/\okK κ p/\keyK κ p=KK κ (arrOf st) i:=by
 have hi':i < (arrOf st).size:=by rw[h.size];exact hi
 have hm:(arrOf st)[i]∈a₀.toList:=(wz_.mp h.perm).mem_iff.mp (by simp)
 have e:(arrOf st)[i]?=some (arrOf st)[i]:=getElem?_pos _ i hi'
 refine⟨_,e,h0 _ hm,?_⟩
 unfold KK keyK;rw[e]
end
noncomputable def ascL (lo a nrem:Nat):SM AscSt:=forIn [a:nrem] ((none,a):AscSt) fun _ c=>do
 let x <- ltAt' (lo+c.2) (lo+c.2 - 1)
 match x with
 | some smaller=>if smaller=true then pure (.done (none,c.2)) else pure (.yield (none,c.2+1))
 | _=>pure (.done (some none,c.2))
noncomputable def tl3 (lo n nrem:Nat):SM (Option Nat):=do
 reverseSlice' lo (lo+n)
 let c <- ascL lo n nrem
 match c.1 with
 | some r=>pure r
 | none=>pure (some c.2)
noncomputable def dscL (lo n nrem:Nat):SM DescSt:=forIn [n:nrem] ((none,n,0):DescSt) fun _ c=>do
 let x <- ltAt' (lo+c.2.1) (lo+c.2.1 - 1)
 match x with
 | some smaller =>
  if smaller=true then
   if c.2.2 > 0 then do
    reverseSlice' (lo+c.2.1 - (c.2.2+1)) (lo+c.2.1)
    pure (.yield (none,c.2.1+1,0))
   else pure (.yield (none,c.2.1+1,0))
  else do
   let x <- ltAt' (lo+c.2.1 - 1) (lo+c.2.1)
   match x with
   | some larger=>if larger=true then pure (.done (none,c.2.1,c.2.2)) else pure (.yield (none,c.2.1+1,c.2.2+1))
   | _=>pure (.done (some none,c.2.1,c.2.2))
 | _=>pure (.done (some none,c.2.1,c.2.2))
noncomputable def dscP (lo n nrem:Nat):SM (Option Nat):=do
 liftM (rule "list.sort.descending-run")
 let c <- dscL lo (n+1) nrem
 match c.1 with
 | some r=>pure r
 | none =>
  if c.2.2 > 0 then do
   reverseSlice' (lo+c.2.1 - (c.2.2+1)) (lo+c.2.1)
   tl3 lo c.2.1 nrem
  else tl3 lo c.2.1 nrem
theorem jhf_ (lo nrem:Nat):countRun' lo nrem=(do
  let c <- ascL lo 1 nrem
  match c.1 with
  | some r=>pure r
  | none =>
   if (c.2 == nrem)=true then pure (some c.2)
   else if c.2 > 1 then do
    let x <- ltAt' lo (lo+c.2 - 1)
    match x with
    | some rose=>if rose=true then pure (some c.2) else do
      reverseSlice' lo (lo+c.2)
      dscP lo c.2 nrem
    | _=>pure none
   else dscP lo c.2 nrem):=by
 rw[countRun'_eq]
 refine congr (congrArg bind rfl) (funext fun c=>?_)
 obtain⟨r,n⟩:=c
 cases r with
 | some r=>rfl
 | none =>
  dsimp only
  refine ite_congr rfl (fun _=>rfl) fun _=>?_
  refine ite_congr rfl (fun _=>?_) fun _=>?_
  ·refine congrArg (bind _) (funext fun x=>?_)
   cases x with
   | none=>rfl
   | some rose =>
    dsimp only
    refine ite_congr rfl (fun _=>rfl) fun _=>?_
    refine congrArg (bind _) (funext fun _=>?_)
    unfold dscP
    refine congrArg (bind _) (funext fun _=>?_)
    refine congr (congrArg bind rfl) (funext fun c=>?_)
    obtain⟨r2,n2,q2⟩:=c
    cases r2 with
    | some r2=>rfl
    | none =>
     dsimp only
     refine ite_congr rfl (fun _=>?_) fun _=>?_
     ·refine congrArg (bind _) (funext fun _=>?_)
      unfold tl3
      refine congrArg (bind _) (funext fun _=>?_)
      refine congr (congrArg bind rfl) (funext fun c=>?_)
      obtain⟨r3,n3⟩:=c
      cases r3 <;> rfl
     ·unfold tl3
      refine congrArg (bind _) (funext fun _=>?_)
      refine congr (congrArg bind rfl) (funext fun c=>?_)
      obtain⟨r3,n3⟩:=c
      cases r3 <;> rfl
  ·unfold dscP
   refine congrArg (bind _) (funext fun _=>?_)
   refine congr (congrArg bind rfl) (funext fun c=>?_)
   obtain⟨r2,n2,q2⟩:=c
   cases r2 with
   | some r2=>rfl
   | none =>
    dsimp only
    refine ite_congr rfl (fun _=>?_) fun _=>?_
    ·refine congrArg (bind _) (funext fun _=>?_)
     unfold tl3
     refine congrArg (bind _) (funext fun _=>?_)
     refine congr (congrArg bind rfl) (funext fun c=>?_)
     obtain⟨r3,n3⟩:=c
     cases r3 <;> rfl
    ·unfold tl3
     refine congrArg (bind _) (funext fun _=>?_)
     refine congr (congrArg bind rfl) (funext fun c=>?_)
     obtain⟨r3,n3⟩:=c
     cases r3 <;> rfl
section
variable {prog:Program}{w:World}{A:Around}{E:Value->Shared->Prop}{s:Shared}{kd:SortKind}{a₀ xs:Array Keyed}{pd:Array (Nat×Nat×Nat)}{lo hi:Nat}{st:SortSt}{κ:KeyKind}
theorem uy_ (C:Cmp prog w A E s kd κ.toKeyOrd (okK κ) (keyK κ)){i j:Nat}{Q:Option Bool->SortSt->Prop}(hB:SB kd a₀ pd xs lo hi st)(h0:∀ p∈a₀.toList,okK κ p)(hi':i < a₀.size)(hj:j < a₀.size)
  (h:Q (some (κ.blt (KK κ (arrOf st) i) (KK κ (arrOf st) j))) st):wpS (model prog w) A E s (ltAt' i j) Q st:=by
 obtain⟨x,e1,ox,kx⟩:=hB.at h0 hi'
 obtain⟨y,e2,oy,ky⟩:=hB.at h0 hj
 rw[ltAt'_eq]
 refine wpS_bind (wpS_get ?_)
 show wpS _ _ _ _ (do let x <- elem' (arrOf st) i;let y <- elem' (arrOf st) j;lt' x y) Q st
 refine wpS_bind (jix_ e1 (wpS_bind (jix_ e2 (C.lt hB.kind ox oy ?_))))
 rw[kx,ky];exact h
theorem jbu_ (C:Cmp prog w A E s kd κ.toKeyOrd (okK κ) (keyK κ)){n ok:Nat}{Q:Bool->SortSt->Prop}(h0:∀ p∈a₀.toList,okK κ p)(hn:lo+n<=a₀.size)(hok:ok<=n)(hh:lo+n<=hi)(hB:SB kd a₀ pd xs lo hi st)(hs:SIn κ (arrOf st) lo ok)
  (h:∀ st',SB kd a₀ pd xs lo hi st'->SIn κ (arrOf st') lo n->Q true st'):wpS (model prog w) A E s (binarySort' lo n ok) Q st:=by
 rw[binarySort'_eq]
 refine wpS_bind (wpS_mono (wpS_forRange (I:=fun k c st'=>c=(none,())/\SB kd a₀ pd xs lo hi st'/\SIn κ (arrOf st') lo (min k n))
  (Q:=fun c st'=>c=(none,())/\SB kd a₀ pd xs lo hi st'/\SIn κ (arrOf st') lo n) ?step ?fin ?init) ?post)
 case post =>
  rintro c st' ⟨rfl,hB',hs'⟩
  exact wpS_pure (h st' hB' hs')
 case init =>
  refine⟨rfl,hB,fun i j hl hij hj=>?_⟩
  by_cases h1:ok=0
  ·have:i=j:=by omega
   subst this;exact ry_ _
  ·exact hs i j hl hij (by omega)
 case fin =>
  rintro c st' ⟨hc,hB',hs'⟩
  refine⟨hc,hB',?_⟩
  rwa [show min (max (max ok 1) n) n=n by omega] at hs'
 case step =>
  rintro k c st' hak hkn ⟨rfl,hB',hs'⟩
  rw[show min k n=k by omega] at hs'
  have hk:lo+k < a₀.size:=by omega
  refine wpS_bind (wpS_mono (wpS_forRange (I:=fun x c st''=>st''=st'/\∃ l r,c=(none,l,r)/\l<=r/\r<=k/\r - l<=k - x /\
    (∀ i,lo<=i->i < lo+l->κ.kle (KK κ (arrOf st') i) (KK κ (arrOf st') (lo+k)))/\(∀ i,lo+r<=i->i < lo+k->κ.klt (KK κ (arrOf st') (lo+k)) (KK κ (arrOf st') i)))
   (Q:=fun c st''=>st''=st'/\∃ l r,c=(none,l,r)/\l<=k /\
    (∀ i,lo<=i->i < lo+l->κ.kle (KK κ (arrOf st') i) (KK κ (arrOf st') (lo+k)))/\(∀ i,lo+l<=i->i < lo+k->κ.klt (KK κ (arrOf st') (lo+k)) (KK κ (arrOf st') i))) ?istep ?ifin ?iinit) ?ipost)
  case iinit=>exact⟨rfl,0,k,rfl,by omega,by omega,by omega,fun i hl hi=>by omega,fun i h1 h2=>by omega⟩
  case ifin =>
   rintro c st'' ⟨rfl,l,r,rfl,hlr,hrk,hm,hlo,hhi⟩
   have:l=r:=by omega
   subst this
   exact⟨rfl,l,l,rfl,hrk,hlo,hhi⟩
  case istep =>
   rintro x c st'' _ hxk ⟨rfl,l,r,rfl,hlr,hrk,hm,hlo,hhi⟩
   dsimp only
   by_cases hge:l≥r
   ·rw[if_pos hge]
    have:l=r:=by omega
    subst this
    exact wpS_pure ⟨rfl,l,l,rfl,hrk,hlo,hhi⟩
   ·rw[if_neg hge]
    refine wpS_bind (uy_ C hB' h0 hk (by omega) ?_)
    cases hless:κ.blt (KK κ (arrOf st'') (lo+k)) (KK κ (arrOf st'') (lo+(l+r) / 2))
    case true =>
     simp only[if_true]
     refine wpS_pure ⟨rfl,l,(l+r) / 2,rfl,by omega,by omega,by omega,hlo,fun i h1 h2=>?_⟩
     exact KeyOrd.klt_of_klt_of_kle hless (hs' _ _ (by omega) h1 (by omega))
    case false =>
     simp only[p4_,if_false]
     refine wpS_pure ⟨rfl,(l+r) / 2+1,r,rfl,by omega,by omega,by omega,fun i hl h1=>?_,hhi⟩
     exact wc_ (hs' i (lo+(l+r) / 2) hl (by omega) (by omega)) (show κ.kle _ _ from hless)
  case ipost =>
   rintro c st'' ⟨rfl,l,r,rfl,hlk,hlo,hhi⟩
   show wpS _ _ _ _ (do moveDown' (lo+k) (lo+l);pure (ForInStep.yield (none,()))) _ _
   rw[moveDown'_eq]
   have hks:lo+k < (arrOf st'').size:=by rw[hB'.size];exact hk
   refine wpS_bind (wpS_modify (wpS_pure ⟨rfl,hB'.setArr (bubble_perm _ _ _) (jpt_ hks (by omega) (by omega) (by omega)),?_⟩))
   rw[show min (k+1) n=k+1 by omega]
   intro i j hl hij hj
   show κ.kle (KK κ (bubble (arrOf st'') (lo+k) (lo+k - (lo+l))) i) (KK κ (bubble (arrOf st'') (lo+k) (lo+k - (lo+l))) j)
   rw[KK_bubble hks (by omega),KK_bubble hks (by omega),show lo+k - (lo+k - (lo+l))=lo+l by omega]
   repeat' split
   all_goals first
    | (exfalso;omega)
    | exact ry_ _
    | exact hlo _ (by omega) (by omega)
    | exact tz_ (hhi _ (by omega) (by omega))
    | exact hs' _ _ (by omega) (by omega) (by omega)
theorem jhu_ (C:Cmp prog w A E s kd κ.toKeyOrd (okK κ) (keyK κ)){a nrem:Nat}{Q:AscSt->SortSt->Prop}(h0:∀ p∈a₀.toList,okK κ p)(hn:lo+nrem<=a₀.size)(ha:1<=a)(han:a<=nrem)(hB:SB kd a₀ pd xs lo hi st)
  (hs:SIn κ (arrOf st) lo a)
  (h:∀ n,a<=n->n<=nrem->SIn κ (arrOf st) lo n->(n=nrem∨κ.klt (KK κ (arrOf st) (lo+n)) (KK κ (arrOf st) (lo+n - 1)))->Q (none,n) st) :
  wpS (model prog w) A E s (ascL lo a nrem) Q st:=by
 unfold ascL
 refine wpS_forRange (I:=fun x c st'=>st'=st/\c=(none,x)/\SIn κ (arrOf st) lo x) ?step ?fin ⟨rfl,rfl,hs⟩
 case fin =>
  rintro c st' ⟨rfl,rfl,hs'⟩
  rw[show max a nrem=nrem by omega] at hs' ⊢
  exact h nrem han (pm_ _) hs' (.inl rfl)
 case step =>
  rintro x c st' hax hxn ⟨rfl,rfl,hs'⟩
  dsimp only
  refine wpS_bind (uy_ C hB h0 (by omega) (by omega) ?_)
  cases hless:κ.blt (KK κ (arrOf st') (lo+x)) (KK κ (arrOf st') (lo+x - 1))
  case true =>
   simp only[if_true]
   exact wpS_pure (h x hax (by omega) hs' (.inr hless))
  case false =>
   simp only[p4_,if_false]
   refine wpS_pure ⟨rfl,rfl,fun i j hl hij hj=>?_⟩
   by_cases hjx:j < lo+x
   ·exact hs' i j hl hij hjx
   ·have hj':j=lo+x:=by omega
    subst hj'
    by_cases hi':i=lo+x
    ·subst hi';exact ry_ _
    ·exact wc_ (hs' i (lo+x - 1) hl (by omega) (by omega)) hless
theorem jnl_ (C:Cmp prog w A E s kd κ.toKeyOrd (okK κ) (keyK κ)){n nrem:Nat}{Q:Option Nat->SortSt->Prop}(h0:∀ p∈a₀.toList,okK κ p)(hn:lo+nrem<=a₀.size)(hh:lo+nrem<=hi)(h1:1<=n)(hnn:n<=nrem)(hB:SB kd a₀ pd xs lo hi st)
  (hs:NIn κ (arrOf st) lo n) (h:∀ m st',SB kd a₀ pd xs lo hi st'->1<=m->m<=nrem->SIn κ (arrOf st') lo m->Q (some m) st') :
  wpS (model prog w) A E s (tl3 lo n nrem) Q st:=by
 unfold tl3
 have hsz:lo+n<=(arrOf st).size:=by rw[hB.size];omega
 refine wpS_bind (wpS_reverse ?_)
 have hB':=hB.setArr (mirror_perm (arrOf st) lo (lo+n) ((lo+n - lo) / 2)) (ub_ hsz (pm_ _) (by omega))
 refine wpS_bind (jhu_ C h0 hn h1 hnn hB' ?_ fun m hm1 hm2 hsm _=>wpS_pure (h m _ hB' (by omega) hm2 hsm))
 intro i j hl hij hj
 show κ.kle (KK κ (mirror (arrOf st) lo (lo+n) ((lo+n - lo) / 2)) i) (KK κ (mirror (arrOf st) lo (lo+n) ((lo+n - lo) / 2)) j)
 rw[KK_mirror hsz,KK_mirror hsz,if_pos (by omega),if_pos (by omega)]
 exact hs _ _ (by omega) (by omega) (by omega)
theorem jry_ (C:Cmp prog w A E s kd κ.toKeyOrd (okK κ) (keyK κ)){n nrem:Nat}{Q:DescSt->SortSt->Prop}(h0:∀ p∈a₀.toList,okK κ p)(hn:lo+nrem<=a₀.size)(hh:lo+nrem<=hi)(h1:1<=n)(hnn:n<=nrem)(hB:SB kd a₀ pd xs lo hi st)
  (hs:NIn κ (arrOf st) lo n)
  (h:∀ m neq st',SB kd a₀ pd xs lo hi st'->n<=m->m<=nrem->NIn κ (arrOf st') lo m->neq+1<=m->(∀ i,lo+m - (neq+1)<=i->i < lo+m->KK κ (arrOf st') i=KK κ (arrOf st') (lo+m - 1))->Q (none,m,neq) st') :
  wpS (model prog w) A E s (dscL lo n nrem) Q st:=by
 unfold dscL
 refine wpS_forRange (I:=fun x c st'=>∃ neq,c=(none,x,neq)/\SB kd a₀ pd xs lo hi st'/\NIn κ (arrOf st') lo x/\neq+1<=x /\
   (∀ i,lo+x - (neq+1)<=i->i < lo+x->KK κ (arrOf st') i=KK κ (arrOf st') (lo+x - 1))) ?step ?fin ⟨0,rfl,hB,hs,by omega,fun i h1 h2=>by congr 1;omega⟩
 case fin =>
  rintro c st' ⟨neq,rfl,hB',hs',hq,he⟩
  rw[show max n nrem=nrem by omega] at hs' hq he ⊢
  exact h nrem neq st' hB' hnn (pm_ _) hs' hq he
 case step =>
  rintro x c st' hax hxn ⟨neq,rfl,hB',hs',hq,he⟩
  dsimp only
  have hsz:lo+x<=(arrOf st').size:=by rw[hB'.size];omega
  refine wpS_bind (uy_ C hB' h0 (by omega) (by omega) ?_)
  cases hless:κ.blt (KK κ (arrOf st') (lo+x)) (KK κ (arrOf st') (lo+x - 1))
  case true =>
   simp only[if_true]
   have step1:∀ ys:Array Keyed,(∀ k,KK κ ys k=KK κ (arrOf st') k)->NIn κ ys lo (x+1):=by
    intro ys hk i j hl hij hj
    rw[hk,hk]
    by_cases hjx:j < lo+x
    ·exact hs' i j hl hij hjx
    ·have hj':j=lo+x:=by omega
     subst hj'
     by_cases hi':i=lo+x
     ·subst hi';exact ry_ _
     ·exact wc_ (tz_ hless) (hs' i (lo+x - 1) hl (by omega) (by omega))
   by_cases hneq:neq > 0
   ·rw[if_pos hneq]
    refine wpS_bind (wpS_reverse (wpS_pure ⟨0,rfl,hB'.setArr (mirror_perm _ _ _ _) (ub_ hsz (by omega) (by omega)),step1 _ (KK_mirror_equal hsz he),by omega,fun i h1 h2=>by congr 1;omega⟩))
   ·rw[if_neg hneq]
    exact wpS_pure ⟨0,rfl,hB',step1 _ (fun _=>rfl),by omega,fun i h1 h2=>by congr 1;omega⟩
  case false =>
   simp only[p4_,if_false]
   refine wpS_bind (uy_ C hB' h0 (by omega) (by omega) ?_)
   cases hlarger:κ.blt (KK κ (arrOf st') (lo+x - 1)) (KK κ (arrOf st') (lo+x))
   case true =>
    simp only[if_true]
    exact wpS_pure (h x neq st' hB' hax (by omega) hs' hq he)
   case false =>
    simp only[p4_,if_false]
    have heqx:KK κ (arrOf st') (lo+x)=KK κ (arrOf st') (lo+x - 1):=lx_ hlarger hless
    refine wpS_pure ⟨neq+1,rfl,hB',fun i j hl hij hj=>?_,by omega,fun i h1 h2=>?_⟩
    ·by_cases hjx:j < lo+x
     ·exact hs' i j hl hij hjx
     ·have hj':j=lo+x:=by omega
      subst hj'
      by_cases hi':i=lo+x
      ·subst hi';exact ry_ _
      ·rw[heqx];exact hs' i (lo+x - 1) hl (by omega) (by omega)
    ·rw[show lo+(x+1) - 1=lo+x by omega]
     by_cases hix:i=lo+x
     ·subst hix;rfl
     ·rw[heqx];exact he i (by omega) (by omega)
theorem jhw_ (C:Cmp prog w A E s kd κ.toKeyOrd (okK κ) (keyK κ)){n nrem:Nat}{Q:Option Nat->SortSt->Prop}(h0:∀ p∈a₀.toList,okK κ p)(hn:lo+nrem<=a₀.size)(hh:lo+nrem<=hi)(hnn:n+1<=nrem)(hB:SB kd a₀ pd xs lo hi st)
  (hs:NIn κ (arrOf st) lo (n+1)) (h:∀ m st',SB kd a₀ pd xs lo hi st'->1<=m->m<=nrem->SIn κ (arrOf st') lo m->Q (some m) st') :
  wpS (model prog w) A E s (dscP lo n nrem) Q st:=by
 unfold dscP
 refine wpS_bind (wpS_lift (wpAny_rule ⟨rfl,?_⟩))
 refine wpS_bind (jry_ C h0 hn hh (by omega) hnn hB hs fun m neq st' hB' hm1 hm2 hs' hq he=>?_)
 dsimp only
 have hsz:lo+m<=(arrOf st').size:=by rw[hB'.size];omega
 by_cases hneq:neq > 0
 ·rw[if_pos hneq]
  refine wpS_bind (wpS_reverse (jnl_ C h0 hn hh (by omega) hm2 (hB'.setArr (mirror_perm _ _ _ _) (ub_ hsz (by omega) (by omega))) ?_ h))
  intro i j hl hij hj
  show κ.kle (KK κ (mirror (arrOf st') _ _ _) j) (KK κ (mirror (arrOf st') _ _ _) i)
  rw[KK_mirror_equal hsz he,KK_mirror_equal hsz he]
  exact hs' i j hl hij hj
 ·rw[if_neg hneq]
  exact jnl_ C h0 hn hh (by omega) hm2 hB' hs' h
theorem jej_ (C:Cmp prog w A E s kd κ.toKeyOrd (okK κ) (keyK κ)){nrem:Nat}{Q:Option Nat->SortSt->Prop}(h0:∀ p∈a₀.toList,okK κ p)(hn:lo+nrem<=a₀.size)(hh:lo+nrem<=hi)(h1:1<=nrem)(hB:SB kd a₀ pd xs lo hi st)
  (h:∀ m st',SB kd a₀ pd xs lo hi st'->1<=m->m<=nrem->SIn κ (arrOf st') lo m->Q (some m) st') :
  wpS (model prog w) A E s (countRun' lo nrem) Q st:=by
 rw[jhf_]
 refine wpS_bind (jhu_ C h0 hn (pm_ 1) h1 hB (fun i j hl hij hj=>by have:i=j:=(by omega);subst this;exact ry_ _) fun n hn1 hn2 hsn hor=>?_)
 dsimp only
 by_cases hnn:n=nrem
 ·rw[if_pos (by simpa using hnn)]
  exact wpS_pure (h n st hB hn1 hn2 hsn)
 ·rw[if_neg (by simpa using hnn)]
  have hlt:κ.klt (KK κ (arrOf st) (lo+n)) (KK κ (arrOf st) (lo+n - 1)):=hor.resolve_left hnn
  by_cases hgt:n > 1
  ·rw[if_pos hgt]
   refine wpS_bind (uy_ C hB h0 (by omega) (by omega) ?_)
   cases hrose:κ.blt (KK κ (arrOf st) lo) (KK κ (arrOf st) (lo+n - 1))
   case true =>
    simp only[if_true]
    exact wpS_pure (h n st hB hn1 hn2 hsn)
   case false =>
    simp only[p4_,if_false]
    have hsz:lo+n<=(arrOf st).size:=by rw[hB.size];omega
    have hall:∀ k,lo<=k->k < lo+n->KK κ (arrOf st) k=KK κ (arrOf st) (lo+n - 1):=by
     intro k hl hk
     have a1:=hsn lo k (by omega) hl hk
     have a2:=hsn k (lo+n - 1) hl (by omega) (by omega)
     exact lx_ a2 (wc_ hrose a1)
    refine wpS_bind (wpS_reverse (jhw_ C h0 hn hh (by omega) (hB.setArr (mirror_perm _ _ _ _) (ub_ hsz (pm_ _) (by omega))) ?_ h))
    intro i j hl hij hj
    show κ.kle (KK κ (mirror (arrOf st) _ _ _) j) (KK κ (mirror (arrOf st) _ _ _) i)
    rw[KK_mirror_equal hsz hall,KK_mirror_equal hsz hall]
    by_cases hjn:j < lo+n
    ·rw[hall i hl (by omega),hall j (by omega) hjn];exact ry_ _
    ·have hj':j=lo+n:=by omega
     subst hj'
     by_cases hi':i=lo+n
     ·subst hi';exact ry_ _
     ·rw[hall i hl (by omega)];exact tz_ hlt
  ·rw[if_neg hgt]
   have hn1':n=1:=by omega
   subst hn1'
   refine jhw_ C h0 hn hh (by omega) hB ?_ h
   intro i j hl hij hj
   by_cases hi':i=j
   ·subst hi';exact ry_ _
   ·have hi0:i=lo:=by omega
    have hj1:j=lo+1:=by omega
    subst hi0;subst hj1
    exact tz_ hlt
end
end PyProof.Rows
set_option autoImplicit false
namespace PyProof.Rows
open PySem
section
variable {prog:Program}{w:World}{A:Around}{E:Value->Shared->Prop}{s:Shared}{kd:SortKind}{O:KeyOrd}{ok:Keyed->Prop}{k:Keyed->O.α}{st:SortSt}
end
end PyProof.Rows
set_option autoImplicit false
namespace PyProof.Rows
open PySem
section
variable {O:KeyOrd}{k:Keyed->O.α}
def Pend (O:KeyOrd)(k:Keyed->O.α):Nat->List (Nat×Nat×Nat)->List (List Keyed)->Prop
 | _,[],[]=>True
 | b,p::pd,R::Rs=>p.1=b/\p.2.1=R.length/\R≠[]/\Srt O k R/\Pend O k (b+R.length) pd Rs
 | _,_,_=>False
theorem Pend.congr:∀{b:Nat}{pd pd':List (Nat×Nat×Nat)}{Rs:List (List Keyed)},pd.map (fun p=>(p.1,p.2.1))=pd'.map (fun p=>(p.1,p.2.1))->Pend O k b pd Rs->Pend O k b pd' Rs
 | b,[],[],Rs,_,h=>h
 | _,[],_::_,_,e,_=>by simp at e
 | _,_::_,[],_,e,_=>by simp at e
 | _,_::_,_::_,[],_,h=>h.elim
 | b,p::pd,q::pd',R::Rs,e,⟨h1,h2,h3,h4,t⟩=>by
  simp only[pr_,ws_,Prod.mk.injEq] at e
  exact⟨e.1.1▸h1,e.1.2▸h2,h3,h4,t.congr e.2⟩
end
section
variable {prog:Program}{w:World}{A:Around}{E:Value->Shared->Prop}{s:Shared}{kd:SortKind}{a₀:Array Keyed}{st:SortSt}{κ:KeyKind}
structure RI (κ:KeyKind)(kd:SortKind)(a₀:Array Keyed)(S:List Keyed)(lo:Nat)(st:SortSt):Prop where
 runs:∃ Rs:List (List Keyed),(arrOf st).toList=Rs.flatten++S/\Pend κ.toKeyOrd (keyK κ) 0 (pendingOf st).toList Rs/\lo=Rs.flatten.length
 kind:kindOf st=kd
 failed:failedOf st=none
 perm:(arrOf st).Perm a₀
theorem RI.power {S:List Keyed}{lo pw:Nat}(h:RI κ kd a₀ S lo st):RI κ kd a₀ S lo (setPending st ((pendingOf st).modify ((pendingOf st).size - 1) fun x=>match x with | (s,n,_)=>(s,n,pw))):=by
 obtain⟨Rs,e1,e2,e3⟩:=id h.runs
 refine⟨⟨Rs,e1,e2.congr ?_,e3⟩,h.kind,h.failed,h.perm⟩
 show _=((pendingOf st).modify _ _).toList.map _
 rw[Array.toList_modify]
 apply ki_
 intro j
 simp only[pf_,List.getElem?_modify]
 cases (pendingOf st).toList[j]? with
 | none=>rfl
 | some y =>
  obtain⟨y1,y2,y3⟩:=y
  by_cases c:(pendingOf st).size - 1=j <;> simp[c]
noncomputable def u9_ (lo n:Nat):SM (ForInStep (Option Unit×Nat)):=do
 modify fun s=>setPending s ((pendingOf s).push (lo,n,0))
 pure (.yield (none,lo+n))
noncomputable def runC (pw:Nat)(_:Nat)(_:Option Unit×Unit):SM (ForInStep (Option Unit×Unit)):=do
 let t <- get
 match if (pendingOf t).size > 1 then (pendingOf t)[(pendingOf t).size - 2]? else none with
 | some (_,_,older) =>
  if older<=pw then pure (.done (none,()))
  else do
   let b <- mergeAt' ((pendingOf t).size - 2)
   if (!b)=true then pure (.done (some (),())) else pure (.yield (none,()))
 | _=>pure (.done (none,()))
noncomputable def runJ (size lo n:Nat):SM (ForInStep (Option Unit×Nat)):=do
 let t <- get
 match (pendingOf t).back? with
 | some (s1,n1,_)=>do
  let c <- forIn [0:size] ((none,()):Option Unit×Unit) (runC (power' size (2 * s1+n1) (2 * s1+n1+n1+n) size))
  match c.1 with
  | some r=>pure (.done (some r,lo))
  | none=>do
   modify fun s=>setPending s ((pendingOf s).modify ((pendingOf s).size - 1) fun x=>match x with | (st,len,_)=>(st,len,power' size (2 * s1+n1) (2 * s1+n1+n1+n) size))
   u9_ lo n
 | _=>u9_ lo n
noncomputable def runO (size:Nat)(_:Nat)(c:Option Unit×Nat):SM (ForInStep (Option Unit×Nat)) :=
 if c.2≥size then pure (.done (none,c.2))
 else do
  let x <- countRun' c.2 (size - c.2)
  match x with
  | some n =>
   if n < minRun' size size 0 then do
    liftM (rule "list.sort.binary-insertion")
    let b <- binarySort' c.2 (min (size - c.2) (minRun' size size 0)) n
    if (!b)=true then pure (.done (some (),c.2)) else runJ size c.2 (min (size - c.2) (minRun' size size 0))
   else runJ size c.2 n
  | _=>pure (.done (some (),c.2))
noncomputable def runF (_:Nat)(_:Option Unit×Unit):SM (ForInStep (Option Unit×Unit)):=do
 let t <- get
 if (pendingOf t).size<=1 then pure (.done (none,()))
 else do
  let b <- mergeAt' (if Option.any (fun x=>decide (x < (pendingOf t)[(pendingOf t).size - 2+1]?.elim 0 fun x=>x.2.1)) (if (pendingOf t).size - 2 > 0 then (pendingOf t)[(pendingOf t).size - 2 - 1]?.map (fun x=>x.2.1) else none)=true then (pendingOf t).size - 2 - 1 else (pendingOf t).size - 2)
  if (!b)=true then pure (.done (some (),())) else pure (.yield (none,()))
theorem joh_:sortRuns'=(do
  let t <- get
  let c <- forIn [0:(arrOf t).size] ((none,0):Option Unit×Nat) (runO (arrOf t).size)
  match c.1 with
  | some r=>pure r
  | none=>do
   let c <- forIn [0:(arrOf t).size] ((none,()):Option Unit×Unit) runF
   match c.1 with
   | some r=>pure r
   | none=>pure ()):=by
 rw[sortRuns'_eq]
 refine congrArg (bind _) (funext fun t=>?_)
 refine congr (congrArg bind ?_) (funext fun c=>?_)
 ·refine congrArg (forIn _ _) (funext fun i=>funext fun c=>?_)
  unfold runO
  dsimp only
  refine ite_congr rfl (fun _=>rfl) fun _=>?_
  refine congrArg (bind _) (funext fun x=>?_)
  have J:∀ n,(do
    let __do_lift <- get
    match (pendingOf __do_lift).back? with
     | some (s1,n1,snd)=>do
      let __s <- forIn [0:(arrOf t).size] ((none,()):Option Unit×Unit) (runC (power' (arrOf t).size (2 * s1+n1) (2 * s1+n1+n1+n) (arrOf t).size))
      match __s.fst with
       | some r=>pure (ForInStep.done (some r,c.2))
       | none=>do
        modify fun s=>setPending s ((pendingOf s).modify ((pendingOf s).size - 1) fun x=>match x with | (st,len,_)=>(st,len,power' (arrOf t).size (2 * s1+n1) (2 * s1+n1+n1+n) (arrOf t).size))
        u9_ c.2 n
     | x=>u9_ c.2 n:SM (ForInStep (Option Unit×Nat)))=runJ (arrOf t).size c.2 n:=fun _=>rfl
  cases x with
  | none=>rfl
  | some n =>
   dsimp only
   refine ite_congr rfl (fun _=>?_) fun _=>?_
   ·refine congrArg (bind _) (funext fun _=>?_)
    refine congrArg (bind _) (funext fun b=>?_)
    refine ite_congr rfl (fun _=>rfl) fun _=>?_
    unfold runJ
    refine congrArg (bind _) (funext fun t2=>?_)
    cases (pendingOf t2).back? with
    | none=>rfl
    | some y =>
     obtain⟨s1,n1,p1⟩:=y
     dsimp only
     refine congr (congrArg bind rfl) (funext fun c2=>?_)
     obtain⟨r,u⟩:=c2
     cases r <;> rfl
   ·unfold runJ
    refine congrArg (bind _) (funext fun t2=>?_)
    cases (pendingOf t2).back? with
    | none=>rfl
    | some y =>
     obtain⟨s1,n1,p1⟩:=y
     dsimp only
     refine congr (congrArg bind rfl) (funext fun c2=>?_)
     obtain⟨r,u⟩:=c2
     cases r <;> rfl
 ·obtain⟨r,lo⟩:=c
  cases r with
  | some r=>rfl
  | none =>
   dsimp only
   refine congr (congrArg bind rfl) (funext fun c2=>?_)
   obtain⟨r,u⟩:=c2
   cases r <;> rfl
theorem jku_ {ys:Array Keyed}{lo n:Nat}(hn:lo+n<=ys.size)(h:SIn κ ys lo n):Srt κ.toKeyOrd (keyK κ) ((ys.toList.drop lo).take n):=by
 refine List.pairwise_iff_getElem.mpr fun i j hi hj hij=>?_
 rw[pw_,q1_,lens] at hi hj
 have e:∀ m,m < n->∀ hm:m < ((ys.toList.drop lo).take n).length,keyK κ (((ys.toList.drop lo).take n)[m])=KK κ ys (lo+m):=fun m hm hm'=>by
  unfold KK keyK
  rw[w9_ (by omega:lo+m < ys.size)]
  simp[List.getElem_take,List.getElem_drop]
 rw[e i (by omega),e j (by omega)]
 exact h _ _ (by omega) (by omega) (by omega)
end
end PyProof.Rows
set_option autoImplicit false
namespace PyProof.Rows
open PySem
section
variable {prog:Program}{w:World}{A:Around}{E:Value->Shared->Prop}{s:Shared}
noncomputable def zt_ (h:Heap)(a:Addr)(vs:List Value):Heap:=((h.update a (ty_ fun _=>#[])).push (seqObj "tuple" vs.toArray 0)).push (seqObj "list" #[] 0)
end
end PyProof.Rows
namespace L2
open PySem PySem.Spec PyProof.Rows
section
variable {κ:Type} [DecidableEq κ]
theorem RelO.isSome_eq {o:Option V}{u:Option Value}(r:RelO o u):o.isSome=u.isSome:=by
 cases o with
 | none=>cases u with
  | none=>rfl
  | some _=>exact(show False from r).elim
 | some _=>cases u with
  | none=>exact(show False from r).elim
  | some _=>rfl
theorem RelO.getD {o:Option V}{u:Option Value}{d:V}{d':Value}(r:RelO o u)(rd:RelV d d'):RelV (o.getD d) (u.getD d'):=by
 cases o with
 | none=>cases u with
  | none=>exact rd
  | some _=>exact(show False from r).elim
 | some _=>cases u with
  | none=>exact(show False from r).elim
  | some _=>exact r
end
theorem jxg_ {P:Program}{w:World}{k:Key}{u:Value}(r:RelV (kV k) u):(j9_ P w).is k u=true:=by
 cases k with
 | inl i=>obtain⟨t,e⟩:=(show ∃ t,u=Value.int i t from r);subst e;exact jjb_ P w i t
 | inr x=>obtain⟨t,e⟩:=(show ∃ t,u=Value.str x t from r);subst e;exact xo_ P w x t
theorem jfy_ {P:Program}{w:World}:∀{ks:List Key}{us:List Value},Vals (ks.map kV) us->ItemsAre (j9_ P w) ks us
 | [],_,r=>by rw[qs_] at r;cases r;exact .nil
 | k::ks,_,r=>by
  rw[pr_] at r
  cases r with
  | cons h t=>exact .cons (jxg_ h) (jfy_ t)
section
variable {P:Program}{w:World}{H:Hp}{h:Heap}{a:Addr}
theorem rd_of {u:HO}(ok:HOk P w H h)(e:Rd H a u):ObjOk P w H h a u:=e.ok ok
theorem jzs_ {ks:List Key}(ok:HOk P w H h)(e:H a=some (.tup (ks.map kV))):(tupleKind (j9_ P w)).is h ks a:=by
 obtain⟨_,its,r,⟨o,h1,h2,n,h3⟩,_⟩:=(show ObjOk P w H h a (.tup (ks.map kV)) from ok a _ e)
 exact⟨o,its.toArray,n,h1,h2,h3,by simpa using jfy_ r⟩
end
section
variable {X:Cx}{pins:List (Addr×Obj)}{σ:St}{H:Hp}{s:Shared}{a:Addr}{y v:V}{u r:Value}{o:Option V}{A:Around}{E:Value->Shared->Prop}
theorem Inv.big (I:Inv X pins σ H s):sysModules < s.heap.objs.size:=by
 have h:mainGlobals < s.heap.objs.size:=(I.mod.glob.keeps I.bk).lt
 exact Nat.lt_trans (by decide) h
theorem jmz_ {h':Heap}{t':Nat}{ob:HO}(I:Inv X pins σ H s)(mu:Mut (H a))(hs:qx_ a s.heap h')(he:∃ q,h'.get? a=some q)(new:ObjOk X.prog X.w (upd H a ob) h' a ob) :
  Inv X pins σ (upd H a ob) { s with heap:=h',toks:=t' } :=
 I.write (x:=a) (e:=a) mu (.inl rfl) (fun b q hb z=>(hs.2 b hb).trans z) he new
end
section
variable {X:Cx}{pins:List (Addr×Obj)}{σ:St}{H:Hp}{s:Shared}{a:Addr}{kvs:List (Key×V)}{k:Key}{u:Value}{A:Around}{E:Value->Shared->Prop}
end
def NoSl (i:Expr):Prop:=∀ ov iv,subscripted i false ov iv=operate [ov,iv] (getItem ov iv)
theorem jvj_ {prog:Program}{w:World}{A:Around}{E:Value->Shared->Prop}{s:Shared}{env:Env}{value slice:Expr}{pos:Pos}{T id:String}{Q:Value->Shared->Prop}
  (hl:typeLookup (.type T) "__getitem__"=pure (some (.builtin id))) (hs:NoSl slice)
  (h:wpAny (model prog w) A (eval value env) (fun o s₁=>wpAny (model prog w) A (eval slice env) (fun i s₂=>s₂.TypeIs o T/\wpAny (model prog w) A (getItem o i) Q E s₂) E s₁) E s) :
  wpAny (model prog w) A (eval (.Subscript value slice pos) env) Q E s:=by
 refine Subscript_ (wpAny_mono h (fun o s₁ h₁=>wpAny_mono h₁ (fun i s₂ h₂=>?_) fun _ _ x=>x) fun _ _ x=>x)
 obtain⟨hT,h₂⟩:=h₂
 unfold subscriptTail
 refine wpAny_bind ?_
 rw[getitemInPython_of_ne hT.not_modules]
 refine wpAny_bind (wpAny_specialOf hT hl ?_)
 have fin:wpAny (model prog w) A (subscripted slice false o i) (fun r s₃=>wpAny (model prog w) A (letTemporaryGo value o r >>= fun _=>pure r) Q E s₃) E s₂:=by
  rw[hs o i]
  exact wpAny_operating (wpAny_mono h₂ (fun r s₃ h₃=>wpAny_bind (wpAny_letTemporaryGo (wpAny_pure h₃))) fun _ _ x=>x)
 first
  | exact wpAny_pure (wpAny_bind fin)
  | exact wpAny_bind (wpAny_pure (wpAny_bind fin))
  | exact wpAny_bind fin
section
variable {X:Cx}{o i e value:Expr}{pos pos' tpos:Pos}{td ty tv:TE}
end
section
variable {X:Cx}{pos:Pos}
end
structure M1 (X:Cx)(o:Expr)(m:Str)(apos:Pos)(e:Expr)(cpos:Pos):Prop where
 base:attributeBase o m X.env (eval o X.env)=eval o X.env
 few:((backTo cpos (starEach [e] X.env)).all (fun x=>!x.1)&&(backToKw cpos (keywordEach [] X.env)).all (fun x=>x.1.isSome)
  && decide (([e]:List Expr).length+([]:List Keyword).length+(if ([]:List Keyword).isEmpty then 0 else 1) < 30))=true
 line:(apos.endLine == cpos.line)=true
 trees:backTo cpos (starEach [e] X.env)=[(false,eval e X.env)]
structure M2 (X:Cx)(o:Expr)(m:Str)(apos:Pos)(e f:Expr)(cpos:Pos):Prop where
 base:attributeBase o m X.env (eval o X.env)=eval o X.env
 few:((backTo cpos (starEach [e,f] X.env)).all (fun x=>!x.1)&&(backToKw cpos (keywordEach [] X.env)).all (fun x=>x.1.isSome)
  && decide (([e,f]:List Expr).length+([]:List Keyword).length+(if ([]:List Keyword).isEmpty then 0 else 1) < 30))=true
 line:(apos.endLine == cpos.line)=true
 trees:backTo cpos (starEach [e,f] X.env)=[(false,eval e X.env),(false,eval f X.env)]
section
variable {X:Cx}{pins:List (Addr×Obj)}{σ:St}{H:Hp}{s:Shared}{a:Addr}{y d:V}{u r:Value}{o:Option V}{A:Around}{E:Value->Shared->Prop}
end
section
variable {X:Cx}{o e f:Expr}{apos cpos:Pos}{td ty tx:TE}
end
section
variable {X:Cx}{pins:List (Addr×Obj)}{σ:St}{H:Hp}{s:Shared}{a:Addr}{kvs:List (Key×V)}{A:Around}{E:Value->Shared->Prop}
end
section
variable {X:Cx}{pins:List (Addr×Obj)}{σ:St}{H:Hp}{s:Shared}{a:Addr}{y:V}{u:Value}{A:Around}{E:Value->Shared->Prop}
end
end L2
namespace L2
open PySem PySem.Spec PyProof.Rows
section
variable {X:Cx}
end
end L2
namespace L2
open PySem
section
variable {prog:Program}{w:World}{A:Around}{E:Value->Shared->Prop}{s:Shared}
end
open PySem.Spec PyProof.Rows
end L2
namespace L2
open PySem PySem.Spec
section
variable {prog:Program}{w:World}{A:Around}{E:Value->Shared->Prop}{s:Shared}
end
end L2
namespace L2
open PySem PySem.Spec PyProof.Rows
section
variable {prog:Program}{w:World}{A:Around}{E:Value->Shared->Prop}{s:Shared}{z TI TO i1 i2 l1 l2 S:Addr}{xs ys:Array Value}{R:Result->Shared->Prop}
end
end L2
namespace L2
open PySem PySem.Spec PyProof.Rows
section
variable {X:Cx}{pins:List (Addr×Obj)}{σ:St}{H H':Hp}{s:Shared}{h':Heap}
end
section
variable {X:Cx}
end
end L2
namespace L2
open PySem PySem.Spec PyProof.Rows
section
variable {X:Cx}
end
end L2
namespace L2
open PySem PySem.Spec PyProof.Rows
section
variable {X:Cx}
theorem jhz_ {h1:Heap}{out:Array Value}{acc:List Value}{b:Addr}{o:Obj}(eb:h1.get? b=some o):(sortedHeap (h1.push (seqObj "list" acc.toArray 0)) h1.objs.size acc out).get? b=some o:=by
 have hlt:=p2_ eb
 rw[sortedHeap_old (qg_ hlt) (by rw[r1_];exact t0_ hlt)]
 exact pi_ _ eb
end
@[reducible] noncomputable def tabKind (ps:List (Addr×Str)):lo_:={ PyProof.Rows.strKind with keyOf:=fun v=>match v with | .ref a=>(ps.lookup a).map (fun x=>x.cps.toList) | _=>none }
theorem jel_ (f:Bool)(x y:Value):keyLt' (tuples' f) x y=(do
  let xs <- tr_ x
  let ys <- tr_ y
  for ((p,q),i) in (xs.toList.zip ys.toList).zipIdx do
   if !(<- eqBool p q) then return <- oneLt' (f&&i == 0) p q
  return xs.size < ys.size):=rfl
theorem jat_ (v:Value):firstOfTuple' v=(do
  if (<- typeOf v) != .type "tuple" then return none
  return (<- tr_ v)[0]?):=rfl
def jwz_ (h:Heap)(ps:List (Addr×Str)):Prop:=∀ a x,(a,x)∈ps->∃(o:Obj) (t:Tok) (v:Value) (n:Nat),h.get? a=some o/\o.cls=.type "tuple"/\o.data=.seq #[.str x t,v] n
theorem jmm_ {x y:Str}(h:x.cps.toList=y.cps.toList):x=y:=by
 cases x;cases y
 simp only at h
 congr 1
 exact wd_.mp h
section
variable {prog:Program}{w:World}{A:Around}{E:Value->Shared->Prop}{s:Shared}
end
end L2
namespace L2
open PySem PySem.Spec PyProof.Rows
section
variable {prog:Program}{w:World}{A:Around}{E:Value->Shared->Prop}{s:Shared}
theorem vl_ {α β:Type}{M:Model}{f:α->Sem β}{R:α->β->Prop}:∀{l:List α}{Q:List β->Shared->Prop},(∀ x∈l,∀ Q':β->Shared->Prop,(∀ y,R x y->Q' y s)->wpAny M A (f x) Q' E s)->(∀ ys,Paired R l ys->Q ys s)->wpAny M A (l.mapM f) Q E s
 | [],Q,_,h=>by rw[List.mapM_nil];exact wpAny_pure (h [] .nil)
 | x::l,Q,hf,h=>by
  rw[List.mapM_cons]
  refine wpAny_bind (hf x pn_ _ fun y hy=>?_)
  refine wpAny_bind (vl_ (fun z hz=>hf z (pl_ _ hz)) fun ys hys=>?_)
  exact wpAny_pure (h _ (.cons hy hys))
theorem jij_ {ps:List (Addr×Str)}(hT:jwz_ s.heap ps)(h1:ps≠[]){Q:SortKind->Shared->Prop}(q:Q (tuples' true) s):wpAny (model prog w) A (keyKind' (ps.map fun p=>Value.ref p.1).toArray) Q E s:=by
 rw[keyKind'_eq,List.mapM_toArray]
 refine wpAny_bind ?_
 rw[map_eq_pure_bind]
 refine wpAny_bind (vl_ (R:=fun v f=>∃ x t,f=some (Value.str x t)) (fun v hv Q' q'=>?_) fun fs hfs=>wpAny_pure ?_)
 ·obtain⟨p,hp,rfl⟩:=pq_.mp hv
  obtain⟨o,t,v,n,e1,e2,e3⟩:=hT p.1 p.2 hp
  rw[jat_]
  refine wpAny_bind (wpAny_typeOf (T:="tuple") ⟨o,e1,e2⟩ ?_)
  rw[if_neg (by decide)]
  refine wpAny_bind (listItems_at e1 e3 ?_)
  exact wpAny_pure (q' _ ⟨p.2,t,rfl⟩)
 ·obtain⟨ss,hss,hal,hfm⟩:∃ ss:List Str,StrsAre (fs.filterMap id) ss/\(fs.all (·.isSome))=true/\(fs.filterMap id).length=fs.length:=by
   clear q
   have hl:fs.length=fs.length:=rfl
   generalize (ps.map fun p=>Value.ref p.1)=vs at hfs
   induction hfs with
   | nil=>exact⟨[],.nil,rfl,rfl⟩
   | @cons v f vs fs hr t ih =>
    obtain⟨ss,i1,i2,i3⟩:=ih rfl
    obtain⟨x,t,rfl⟩:=hr
    exact⟨x::ss,by rw[r4_];exact .cons x t i1,by rw[ko_,i2];rfl,by rw[r4_];simp[i3]⟩
  have hlen:fs.length=ps.length:=by
   have:=wk_ hfs
   rw[pb_] at this;exact this.symm
  rw[if_pos (by rw[List.all_toArray];exact hal)]
  refine wpAny_bind (wpAny_rule ?_)
  have hft:(fs.toArray.filterMap id)=(fs.filterMap id).toArray:=by simp
  rw[hft,oneTypeOnly'_eq,List.mapM_toArray,mapM_typeOf_strs hss]
  simp only[map_pure,pure_bind]
  have hall:((List.map (fun _=>Value.type "str") (fs.filterMap id)).toArray.all fun x=>x == Value.type "str")=true:=by
   simp only[List.all_toArray,md_,sd_]
   intro _ _
   rfl
  have hpos:0 < (fs.filterMap id).length:=by rw[hfm,hlen];exact tf_.mpr h1
  have h0:(List.map (fun _=>Value.type "str") (fs.filterMap id)).toArray[0]?=some (Value.type "str"):=by
   cases hfl:fs.filterMap id with
   | nil=>rw[hfl] at hpos;simp at hpos
   | cons a r=>simp
  rw[h0]
  simp only[hall,if_true,pure_bind]
  exact wpAny_pure q
end
section
variable {X:Cx}
end
end L2
namespace L2
open PySem PySem.Spec PyProof.Rows
section
variable {prog:Program}{w:World}{A:Around}{E:Value->Shared->Prop}{s:Shared}
theorem jaw_ {Q:Int->Shared->Prop}(h:Q 0xFCA86420 { s with toks:=s.toks+1 }):wpAny (model prog w) A (pyHash Value.none) Q E s:=by
 have hT:s.TypeIs Value.none "NoneType":=rfl
 unfold pyHash
 first | unfold pyHashByItsType | skip
 have hv:[Value.none].any Value.onHeap=false:=rfl
 refine wpAny_bind ?_
 rw[cRoomFor,if_neg (by rw[hv];exact pk_)];refine wpAny_pure ?_
 refine wpAny_bind (wpAny_specialOf hT s8_.lookup ?_)
 show wpAny _ _ (if (some (Value.builtin "NoneType.__hash__") == some Value.none)=true then _ else _) Q E s
 rw[if_neg (by rw[beq_builtin_none];exact pk_)]
 refine wpAny_bind (wpAny_specialOf hT s8_.lookup ?_)
 show wpAny _ _ (callSpecialIfBoundUnlessNone? Value.none "__hash__" _ >>= _) Q E s
 refine wpAny_bind (wpAny_callSpecialIfBoundUnlessNone?_slot hT s8_
  (wpAny_call_entry s8_ hT F.entry_NoneType_hash
   (show wpAny _ _ (do ret (<- mkInt 0xFCA86420)) _ _ s from wpAny_ret_mkInt ?_) (F.args_NoneType_hash_1 _)))
 show wpAny _ _ (if (decide (-(2:Int) ^ 63<=0xFCA86420)&&decide ((0xFCA86420:Int) < 2 ^ 63))=true then _ else _) Q E _
 rw[if_pos (by decide)]
 exact wpAny_pure h
end
noncomputable def oIs:Option Key->Value->Bool
 | none,v=>v == Value.none
 | some k,v=>vk_ k v
theorem ya_ {k:Option Key}{v:Value}(h:oIs k v=true):(k=none/\v=Value.none)∨∃ k',k=some k'/\vk_ k' v=true:=by
 cases k with
 | none=>exact .inl ⟨rfl,eq_of_beq h⟩
 | some k=>exact .inr ⟨k,rfl,h⟩
theorem jex_ {k:Key}:vk_ k Value.none=false:=by cases k <;> rfl
noncomputable def jng_ (prog:Program)(w:World):lz_ prog w (Option Key) where
 is:=oIs
 hash:=fun k=>match k with
  | none=>0xFCA86420
  | some k=>keyH w k
 inj:=fun v a b ha hb=>by
  rcases ya_ ha with ⟨rfl,rfl⟩ | ⟨x,rfl,hx⟩
  ·rcases ya_ hb with ⟨rfl,_⟩ | ⟨y,rfl,hy⟩
   ·rfl
   ·rw[jex_] at hy;cases hy
  ·rcases ya_ hb with ⟨rfl,rfl⟩ | ⟨y,rfl,hy⟩
   ·rw[jex_] at hx;cases hx
   ·rw[(j9_ prog w).inj v x y hx hy]
 byValue:=fun k v h=>by
  rcases ya_ h with ⟨rfl,rfl⟩ | ⟨x,rfl,hx⟩
  ·rfl
  ·exact(j9_ prog w).byValue x v hx
 pyHash:=fun{A E s k v Q} hv h=>by
  rcases ya_ hv with ⟨rfl,rfl⟩ | ⟨x,rfl,hx⟩
  ·exact jaw_ h
  ·exact(j9_ prog w).pyHash (k:=x) hx h
 eqBool:=fun{A E s a b u v Q} hu hv h=>by
  rcases ya_ hu with ⟨rfl,rfl⟩ | ⟨x,rfl,hx⟩
  ·rcases ya_ hv with ⟨rfl,rfl⟩ | ⟨y,rfl,hy⟩
   ·exact qv_.same Value.none _ _ _ _ (by simpa using h)
   ·have h:Q false s:=by simpa using h
    rcases za_ hy with ⟨i,t,rfl,rfl⟩ | ⟨z,t,rfl,rfl⟩
    ·exact lt_ i t _ _ _ _ h
    ·exact lu_ z t _ _ _ _ h
  ·rcases ya_ hv with ⟨rfl,rfl⟩ | ⟨y,rfl,hy⟩
   ·have h:Q false s:=by simpa using h
    rcases za_ hx with ⟨i,t,rfl,rfl⟩ | ⟨z,t,rfl,rfl⟩
    ·exact lv_ i t _ _ _ _ h
    ·exact lw_ z t _ _ _ _ h
   ·refine(j9_ prog w).eqBool hx hy ?_
    have:decide (some x=some y)=decide (x=y):=by simp
    rw[<- this];exact h
 «strs»:=fun k x t v h=>by
  rcases ya_ h with ⟨rfl,e⟩ | ⟨y,rfl,hy⟩
  ·cases e
  ·exact(j9_ prog w).strs y x t v hy
end L2
namespace L2
open PySem PySem.Spec PyProof.Rows
structure OwnKind (K:Type) [DecidableEq K] where
 hk:(P:Program)->(w:World)->HeapKind P w K
 at_:Hp->K->Addr->Prop
 of:∀{P:Program}{w:World}{H:Hp}{h:Heap}{k:K}{a:Addr},HOk P w H h->at_ H k a->(hk P w).is h k a
 room:∀{P:Program}{w:World}{A:Around},A.units+4 < cLine->(hk P w).room A.in1
 room0:∀{P:Program}{w:World}{A:Around},A.units+4 < cLine->(hk P w).room A
section
variable {K:Type} [DecidableEq K]
noncomputable def valX (kvs:List (K×Addr×V))(k:K):Option V:=(kvs.find? fun e=>decide (e.1=k)).map (·.2.2)
noncomputable def putX (kvs:List (K×Addr×V))(k:K)(b:Addr)(v:V):List (K×Addr×V):=if (kvs.any fun e=>decide (e.1=k))=true then kvs.map (fun e=>if e.1=k then (e.1,e.2.1,v) else e) else kvs++[(k,b,v)]
def KX (kvs:List (K×Addr×V))(xs:List (K×Addr×Value)):Prop:=Paired (fun(p:K×Addr×V) (q:K×Addr×Value)=>p.1=q.1/\p.2.1=q.2.1/\RelV p.2.2 q.2.2) kvs xs
theorem KX.val {kvs:List (K×Addr×V)}{xs:List (K×Addr×Value)}(r:KX kvs xs)(k:K):RelO (valX kvs k) ((atKey xs k).map (·.2)):=by
 unfold KX at r
 induction r with
 | nil=>exact True.intro
 | @cons p q ps qs h t ih =>
  obtain⟨h1,h2,h3⟩:=h
  unfold valX atKey at ih ⊢
  rw[rp_,rp_,<- h1]
  by_cases e:p.1=k
  ·simp only[e,decide_true,r6_];exact h3
  ·simp only[e,decide_false];exact ih
theorem KX.any {kvs:List (K×Addr×V)}{xs:List (K×Addr×Value)}(r:KX kvs xs)(k:K):(kvs.any fun e=>decide (e.1=k))=(atKey xs k).isSome:=by
 unfold KX at r
 induction r with
 | nil=>rfl
 | @cons p q ps qs h t ih =>
  unfold atKey at ih ⊢
  rw[wl_,rp_,<- h.1,ih]
  by_cases e:p.1=k
  ·simp[e]
  ·simp[e]
theorem KX.put {kvs:List (K×Addr×V)}{xs:List (K×Addr×Value)}(r:KX kvs xs)(k:K)(b:Addr){y:V}{u:Value}(ry:RelV y u):KX (putX kvs k b y) (storedH xs k b u):=by
 unfold putX storedH
 rw[r.any]
 by_cases q:(atKey xs k).isSome=true
 ·rw[if_pos q,if_pos q]
  unfold KX at r ⊢
  clear q
  induction r with
  | nil=>exact .nil
  | @cons p q ps qs h t ih =>
   rw[pr_,pr_]
   refine .cons ?_ ih
   obtain⟨h1,h2,h3⟩:=h
   unfold putAt
   by_cases e:p.1=k
   ·rw[if_pos e,if_pos (h1.symm.trans e)];exact⟨h1,h2,ry⟩
   ·rw[if_neg e,if_neg (fun z=>e (h1.trans z))];exact⟨h1,h2,h3⟩
 ·rw[if_neg q,if_neg q];exact Paired.snoc r ⟨rfl,rfl,ry⟩
theorem zz_ (kvs:List (K×Addr×V))(k:K)(b:Addr)(v:V):(putX kvs k b v).length<=kvs.length+1:=by
 unfold putX
 split
 ·rw[pb_];omega
 ·rw[pe_];exact pm_ _
theorem jrp_ {kvs:List (K×Addr×V)}{k:K}{b:Addr}{v:V}{e:K×Addr×V}(h:e∈putX kvs k b v):(∃ v',(e.1,e.2.1,v')∈kvs)∨(e.1=k/\e.2.1=b):=by
 unfold putX at h
 split at h
 ·obtain⟨x,hx,rfl⟩:=pq_.mp h
  split
  ·exact .inl ⟨x.2.2,hx⟩
  ·exact .inl ⟨x.2.2,hx⟩
 ·rcases pt_.mp h with h | h
  ·exact .inl ⟨e.2.2,h⟩
  ·have:e=(k,b,v):=by simpa using h
   rw[this];exact .inr ⟨rfl,rfl⟩
theorem yf_ (kvs:List (K×Addr×V))(k:K)(b:Addr)(v:V)(j:K):valX (putX kvs k b v) j=if j=k then some v else valX kvs j:=by
 unfold valX putX
 split
 ·rename_i h
  induction kvs with
  | nil=>simp at h
  | cons e kvs ih =>
   rw[pr_,rp_,rp_]
   by_cases he:e.1=k
   ·rw[if_pos he]
    by_cases hj:j=k
    ·subst hj;simp[he]
    ·have:¬ e.1=j:=fun z=>hj (z.symm.trans he)
     simp only[this,decide_false,if_neg hj]
     by_cases ha:(kvs.any fun e=>decide (e.1=k))=true
     ·have:=ih ha
      rw[if_neg hj] at this;exact this
     ·have hid:kvs.map (fun e=>if e.1=k then (e.1,e.2.1,v) else e)=kvs:=by
       conv=>rhs;rw[<- List.map_id kvs]
       refine qz_ fun x hx=>?_
       rw[if_neg fun z=>ha (q4_.mpr ⟨x,hx,decide_eq_true z⟩)];rfl
      rw[hid]
   ·rw[if_neg he]
    have ha:(kvs.any fun e=>decide (e.1=k))=true:=by
     rw[wl_] at h
     simpa [he] using h
    by_cases hj:e.1=j
    ·have:¬ j=k:=fun z=>he (hj.trans z)
     simp[hj,this]
    ·simp only[hj,decide_false];exact ih ha
 ·rename_i h
  rw[t1_]
  by_cases hj:j=k
  ·subst hj
   have:kvs.find? (fun e=>decide (e.1=j))=none:=by
    rw[q6_]
    intro x hx hd
    exact h (q4_.mpr ⟨x,hx,hd⟩)
   rw[this];simp
  ·have:[(k,b,v)].find? (fun e=>decide (e.1=j))=none:=by
    rw[q6_]
    intro x hx
    have:x=(k,b,v):=by simpa using hx
    subst this
    simpa using td_ hj
   rw[this,Option.or_none,if_neg hj]
variable (N:OwnKind K)
noncomputable def DX (P:Program)(w:World)(a:Addr)(kvs:List (K×Addr×V)):HO:=.ext fun h=>kvs.length<=sizeLine/\(a == sysModules)=false/\∃ xs:List (K×Addr×Value),KX kvs xs /\
 ∃ o es ep,h.get? a=some o/\o.ExactDict/\o.data=.dict es ep/\es.toList=xs.map (entryOfKey (N.hk P w))/\(xs.map (·.1)).Nodup
variable {N}
theorem jqi_ {P:Program}{w:World}{H:Hp}{h:Heap}{a:Addr}{kvs:List (K×Addr×V)}(h1:kvs.length<=sizeLine)(h2:(a == sysModules)=false){xs:List (K×Addr×Value)}(h3:KX kvs xs){o:Obj}{es:Array DictEntry}{ep:Nat}(h4:h.get? a=some o)(h5:o.ExactDict)(h6:o.data=.dict es ep)(h7:es.toList=xs.map (entryOfKey (N.hk P w)))(h8:(xs.map (·.1)).Nodup):ObjOk P w H h a (DX N P w a kvs) :=
 ⟨⟨h1,h2,xs,h3,o,es,ep,h4,h5,h6,h7,h8⟩,⟨o,h4⟩,fun _ _ ⟨q1,q2,xs,q3,o,es,ep,q4,q⟩ k=>⟨q1,q2,xs,q3,o,es,ep,k _ q4,q⟩⟩
def KO (N:OwnKind K)(H:Hp)(kvs:List (K×Addr×V)):Prop:=∀ e∈kvs,N.at_ H e.1 e.2.1
theorem KO.put {H:Hp}{kvs:List (K×Addr×V)}{k:K}{b:Addr}{v:V}(h:KO N H kvs)(hb:N.at_ H k b):KO N H (putX kvs k b v):=fun e he=>by
 rcases jrp_ he with ⟨v',h'⟩ | ⟨e1,e2⟩
 ·exact h (e.1,e.2.1,v') h'
 ·rw[e1,e2];exact hb
theorem jga_ {P:Program}{w:World}{H:Hp}{h:Heap}{a:Addr}{kvs:List (K×Addr×V)}(ok:HOk P w H h)(e:Rd H a (DX N P w a kvs))(hK:KO N H kvs):kvs.length<=sizeLine/\(a == sysModules)=false/\∃ xs,KX kvs xs/\h.DictOfH (N.hk P w) a xs:=by
 obtain⟨⟨z,y,xs,r,o,es,ep,h1,h2,h3,h4,h5⟩,_⟩:=(show ObjOk P w H h a (DX N P w a kvs) from rd_of ok e)
 refine⟨z,y,xs,r,o,es,ep,h1,h2,h3,h4,fun x hx=>?_,h5⟩
 have all:∀{l:List (K×Addr×V)}{m:List (K×Addr×Value)},KX l m->(∀ e∈l,N.at_ H e.1 e.2.1)->∀ x∈m,(N.hk P w).is h x.1 x.2.1:=by
  intro l m q
  unfold KX at q
  induction q with
  | nil=>intro _ x hx;exact nomatch hx
  | @cons p q ps qs hq t ih =>
   intro hK x hx
   rcases p6_.mp hx with e | hx
   ·subst e
    rw[<- hq.1,<- hq.2.1]
    exact N.of ok (hK p pn_)
   ·exact ih (fun e he=>hK e (pl_ _ he)) x hx
 exact all r hK x hx
theorem jwv_ {P:Program}{w:World}{H:Hp}{h:Heap}{a:Addr}{kvs:List (K×Addr×V)}(ok:HOk P w H h)(e:H a=some (DX N P w a kvs))(hK:KO N H kvs):kvs.length<=sizeLine/\(a == sysModules)=false/\∃ xs,KX kvs xs/\h.DictOfH (N.hk P w) a xs:=jga_ ok (.inl e) hK
def DGetX (N:OwnKind K)(P:Program)(w:World)(H:Hp)(a:Addr)(y:V)(r:Option V):Prop:=∃ kvs k b,Rd H a (DX N P w a kvs)/\KO N H kvs/\y=.ref b/\N.at_ H k b/\r=valX kvs k
def jik_ (N:OwnKind K)(P:Program)(w:World)(H:Hp)(a:Addr)(y v:V)(H':Hp):Prop:=∃ kvs k b,H a=some (DX N P w a kvs)/\KO N H kvs/\y=.ref b/\N.at_ H k b/\kvs.length < sizeLine/\H'=upd H a (DX N P w a (putX kvs k b v))
section
variable {X:Cx}{pins:List (Addr×Obj)}{σ:St}{H:Hp}{s:Shared}{a:Addr}{y v d:V}{u r:Value}{o:Option V}{A:Around}{E:Value->Shared->Prop}
theorem jpj_ {Q:Value->Shared->Prop}(hu:A.units+4 < cLine)(I:Inv X pins σ H s)(g:DGetX N X.prog X.w H a y (some v))(ry:RelV y u)(h:∀ w' s',Inv X pins σ H s'->RelV v w'->Q w' s'):wpAny (model X.prog X.w) A (getItem (.ref a) u) Q E s:=by
 obtain⟨kvs,k,b,e,hK,ey,eb,l⟩:=g
 subst ey
 cases (show u=Value.ref b from ry)
 obtain⟨z,hd,xs,rel,dd⟩:=jga_ I.hok e hK
 obtain⟨w',hw,rw'⟩:=RelO.some_of (v:=v) (o:=(atKey xs k).map (·.2)) (by rw[l];exact rel.val k)
 obtain⟨p,hp,hp2⟩:=ts_.mp hw
 refine wpAny_getItem_heap (N.room hu) (N.of I.hok eb) dd hp ?_
 rw[hp2]
 exact h w' _ (I.tok _) rw'
theorem x_in {Q:Value->Shared->Prop}(hu:A.units+4 < cLine)(I:Inv X pins σ H s)(g:DGetX N X.prog X.w H a y o)(ry:RelV y u)(h:∀ s',Inv X pins σ H s'->Q (.bool o.isSome) s'):wpAny (model X.prog X.w) A (compareOp .In u (.ref a)) Q E s:=by
 obtain⟨kvs,k,b,e,hK,ey,eb,l⟩:=g
 subst ey
 cases (show u=Value.ref b from ry)
 obtain⟨z,hd,xs,rel,dd⟩:=jga_ I.hok e hK
 refine wpAny_in_heap (N.room hu) (N.of I.hok eb) hd dd ?_
 have q:=(rel.val k).isSome_eq
 rw[Option.isSome_map] at q
 rw[<- q,<- l]
 exact h _ (I.tok _)
theorem jpn_ {H':Hp}{Q:Unit->Shared->Prop}(hu:A.units+4 < cLine)(I:Inv X pins σ H s)(g:jik_ N X.prog X.w H a y v H')(ry:RelV y u)(rv:RelV v r)(h:∀ s',Inv X pins σ H' s'->Q () s'):wpAny (model X.prog X.w) A (setItem (.ref a) u r) Q E s:=by
 obtain⟨kvs,k,b,e,hK,ey,eb,l,eH⟩:=g
 subst ey eH
 cases (show u=Value.ref b from ry)
 obtain⟨z,hd,xs,rel,dd⟩:=jwv_ I.hok e hK
 have hz:xs.length<=sizeLine:=by rw[<- wk_ rel];exact z
 have hl:(putX kvs k b v).length<=sizeLine:=by have:=zz_ kvs k b v;omega
 refine wpAny_setItem_heap (hsz:=hz) (N.room hu) (N.of I.hok eb) dd fun h' dd' hs=>h _ ?_
 obtain⟨q,es,ep,hq,h2,h3,h4,_,h5⟩:=dd'
 exact jmz_ I (by rw[e];exact True.intro) hs ⟨q,hq⟩ (jqi_ hl hd (rel.put k b rv) hq h2 h3 h4 h5)
theorem jyc_ {Q:Value->Shared->Prop}(hu:A.units+4 < cLine)(I:Inv X pins σ H s)(g:DGetX N X.prog X.w H a y o)(ry:RelV y u)(rd:RelV d r)(h:∀ w' s',Inv X pins σ H s'->RelV (o.getD d) w'->Q w' s'):wpAny (model X.prog X.w) A (call (.builtin "dict.get") [.ref a,u,r]) Q E s:=by
 obtain⟨kvs,k,b,e,hK,ey,eb,l⟩:=g
 subst ey
 cases (show u=Value.ref b from ry)
 obtain⟨z,hd,xs,rel,dd⟩:=jga_ I.hok e hK
 refine call_meetsIn li_ dd.typeIs PySem.F.entry_dict_get (PySem.F.args_dict_get_3 _ _ _) (meetsH_dict_get_default (N.hk X.prog X.w) a b hd r) ⟨N.room hu,k,xs,N.of I.hok eb,dd,h _ _ (I.tok _) ?_⟩
 rw[l]
 exact(rel.val k).getD rd
end
end
end L2
namespace L2
open PySem PySem.Spec PyProof.Rows
section
variable {K:Type} [DecidableEq K] (N:OwnKind K)
def IsDX (P:Program)(w:World)(H:Hp)(a:Addr):Prop:=∃ kvs,Rd H a (DX N P w a kvs)/\KO N H kvs
variable {N}
theorem jgz_ {X:Cx}{pins:List (Addr×Obj)}{σ:St}{H:Hp}{s:Shared}{a:Addr}(I:Inv X pins σ H s)(d:IsDX N X.prog X.w H a) :
  s.TypeIs (.ref a) "dict"/\(∀ b,Value.ref a=.ref b->∃ ob,s.heap.get? b=some ob/\ob.dict=none)/\(a == sysModules)=false:=by
 obtain⟨kvs,e,hK⟩:=d
 obtain⟨_,hd,xs,_,dd⟩:=jga_ I.hok e hK
 refine⟨dd.typeIs,fun b q=>?_,hd⟩
 cases q
 obtain⟨ob,_,_,h1,h2,_⟩:=dd
 exact⟨ob,h1,h2.2.1⟩
theorem DGetX.isDX {P:Program}{w:World}{H:Hp}{a:Addr}{y:V}{o:Option V}(g:DGetX N P w H a y o):IsDX N P w H a:=by
 obtain⟨kvs,k,b,e,hK,_⟩:=g
 exact⟨kvs,e,hK⟩
variable (N)
def jso_ (P:Program)(w:World):TE:=fun _ H Q=>∀ p,H p=none->Q (.ref p) (upd H p (DX N P w p []))
def jsu_ (P:Program)(w:World)(td ty:TE):TE:=fun σ H Q=>td σ H fun x H1=>ty σ H1 fun y H2=>∃ a v,x=.ref a/\DGetX N P w H2 a y (some v)/\Q v H2
def tXIn (P:Program)(w:World)(ty td:TE):TE:=fun σ H Q=>ty σ H fun y H1=>td σ H1 fun x H2=>∃ a o,x=.ref a/\DGetX N P w H2 a y o/\Q (.bl o.isSome) H2
def jtk_ (P:Program)(w:World)(td ty tv:TE):TS:=fun D σ H=>tv σ H fun v H1=>td σ H1 fun x H2=>ty σ H2 fun y H3=>∃ a H4,x=.ref a/\jik_ N P w H3 a y v H4/\D.nx σ H4
def jki_ (P:Program)(w:World)(td ty tx:TE):TE:=fun σ H Q=>td σ H fun x H1=>∃ a,x=.ref a/\IsDX N P w H1 a/\ty σ H1 fun y H2=>tx σ H2 fun z H3=>∃ o,DGetX N P w H3 a y o/\Q (o.getD z) H3
variable {N}
section
variable {X:Cx}{o i e f value:Expr}{pos pos' tpos apos cpos:Pos}{td ty tv tx:TE}
theorem jup_:PE X (.Dict [] [] pos) (jso_ N X.prog X.w):=fun pins s σ H Q I h =>
 wpAny_Dict_empty ⟨.ref s.heap.objs.size,_,I.laid (a:=s.heap.objs.size) (o:=DX N X.prog X.w s.heap.objs.size []) (t':=s.toks) (fun _ _ q=>pi_ _ q) (pm_ _)
  (jqi_ (qj_ _) (beq_eq_false_iff_ne.mpr (td_ (qg_ I.big))) (xs:=[]) (show KX [] [] from .nil) (px_ _ rfl) ⟨rfl,rfl,rfl⟩ rfl rfl lq_),rfl,h _ (I.hok.fresh (pm_ _))⟩
theorem jun_ (hu:X.A.units+4 < cLine)(ho:PE X o td)(hi:PE X i ty)(hs:NoSl i):PE X (.Subscript o i pos) (jsu_ N X.prog X.w td ty):=by
 intro pins s σ H Q I h
 refine jvj_ PySem.F.slot_dict_getitem.lookup hs (thn (ho pins s σ H _ I h) fun u s1 ⟨x,H1,I1,rx,q1⟩=>thn (hi pins s1 σ H1 _ I1 q1) fun iv s2 ⟨y,H2,I2,ry,a,v,ex,g,q2⟩=>?_)
 subst ex
 obtain rfl:u=Value.ref a:=rx
 exact⟨(jgz_ I2 g.isDX).1,jpj_ hu I2 g ry fun w' s3 I3 rw'=>⟨v,H2,I3,rw',q2⟩⟩
theorem jxu_ (hu:X.A.units+4 < cLine)(hi:PE X i ty)(ho:PE X o td):PC X .In i o (tXIn N X.prog X.w ty td):=by
 intro pins s σ H Q I h
 refine thn (hi pins s σ H _ I h) fun iv s1 ⟨y,H1,I1,ry,q1⟩=>thn (ho pins s1 σ H1 _ I1 q1) fun u s2 ⟨x,H2,I2,rx,a,ov,ex,g,q2⟩=>?_
 subst ex
 obtain rfl:u=Value.ref a:=rx
 exact x_in hu I2 g ry fun s3 I3=>⟨.bl ov.isSome,H2,I3,rfl,q2⟩
theorem jvt_ (hu:X.A.units+4 < cLine)(ho:PE X o td)(hi:PE X i ty)(hv:PE X value tv)(hs:swapsWith value (some (.Subscript o i pos')) pos.line X.env=pure false) :
  PS X (.Assign [.Subscript o i pos'] value pos) (jtk_ N X.prog X.w td ty tv):=by
 intro pins s σ H D I h
 refine wpAny_Assign_Subscript (thn (hv pins s σ H _ I h) fun r s1 ⟨v,H1,I1,rv,q1⟩=>thn (ho pins s1 σ H1 _ I1 q1) fun u s2 ⟨x,H2,I2,rx,q2⟩=>thn (hi pins s2 σ H2 _ I2 q2) fun iv s3 ⟨y,H3,I3,ry,a,H4,ex,g,q3⟩=>?_) hs
 subst ex
 obtain rfl:u=Value.ref a:=rx
 exact jpn_ hu I3 g ry rv fun s4 I4=>⟨σ,H4,I4,q3⟩
theorem jqn_ (hu:X.A.units+4 < cLine)(ho:PE X o td)(he:PE X e ty)(hf:PE X f tx)(m:M2 X o "get" apos e f cpos):PE X (.Call (.Attribute o "get" apos) [e,f] [] cpos) (jki_ N X.prog X.w td ty tx):=by
 intro pins s σ H Q I h
 refine wpAny_Call_method m.base m.few m.line ku_ li_ PySem.F.type_dict_get (thn (ho pins s σ H _ I h) fun u s1 ⟨x,H1,I1,rx,a,ex,d,q1⟩=>?_)
 subst ex
 obtain rfl:u=Value.ref a:=rx
 obtain⟨t1,t2,_⟩:=jgz_ I1 d
 refine⟨t1,t2,?_⟩
 rw[m.trees]
 refine sa_ rfl (s7_ (rn_ (thn (he pins s1 σ H1 _ I1 q1) fun iv s2 ⟨y,H2,I2,ry,q2⟩ =>
  rn_ (thn (hf pins s2 σ H2 _ I2 q2) fun fv s3 ⟨z,H3,I3,rz,ov,g,q3⟩=>sm_ ?_))))
 exact jyc_ hu I3 g ry rz fun w' s4 I4 rw'=>⟨_,H3,I4,rw',q3⟩
end
end
noncomputable def oV:Option Key->V
 | none=>.non
 | some k=>kV k
theorem jsa_ {P:Program}{w:World}:∀{ks:List (Option Key)}{its:List Value},Vals (ks.map oV) its->ItemsAre (jng_ P w) ks its
 | [],_,r=>by rw[qs_] at r;cases r;exact .nil
 | k::ks,_,r=>by
  rw[pr_] at r
  cases r with
  | cons h t =>
   refine .cons ?_ (jsa_ t)
   cases k with
   | none=>cases (show _=Value.none from h);rfl
   | some k=>exact jxg_ (P:=P) (w:=w) h
noncomputable def viewKind:OwnKind (List (Option Key)) where
 hk:=fun P w=>tupleKind (jng_ P w)
 at_:=fun H k a=>H a=some (.tup (k.map oV))
 of:=fun{P w H h k a} ok e=>by
  obtain⟨_,its,r,⟨o,h1,h2,n,h3⟩,_⟩:=(show ObjOk P w H h a (.tup (k.map oV)) from ok a _ e)
  exact⟨o,its.toArray,n,h1,h2,h3,by simpa using jsa_ r⟩
 room:=fun{P w A} hu=>tupleKind_room_in1 (by omega)
 room0:=fun{P w A} hu=>by show A.units < cLine;omega
end L2
namespace L2
open PySem PySem.Spec PyProof.Rows
section
variable {prog:Program}{w:World}
def PkIs (prog:Program)(w:World)(h:Heap)(k:Str×List Int)(a:Addr):Prop:=∃ o items n,h.get? a=some o/\o.cls=.type "tuple"/\o.data=.seq items n/\∃ t b,items.toList=[.str k.1 t,.ref b]/\IsTupleKey (j9_ prog w) h (k.2.map Sum.inl) b
theorem PkIs.typeIs {s:Shared}{k:Str×List Int}{a:Addr}(x:PkIs prog w s.heap k a):s.TypeIs (.ref a) "tuple":=let ⟨o,_,_,ho,hc,_⟩:=x;⟨o,ho,hc⟩
theorem xv_:∀{a b:List Int},a.map (Sum.inl:Int->Key)=b.map Sum.inl->a=b
 | [],[],_=>rfl
 | [],_::_,h=>by simp at h
 | _::_,[],h=>by simp at h
 | x::a,y::b,h=>by
  simp only[pr_,ws_] at h
  have h1:x=y:=by have:=h.1;injection this
  rw[h1,xv_ h.2]
theorem PkIs.inj {h:Heap}{a:Addr}{x y:Str×List Int}(hx:PkIs prog w h x a)(hy:PkIs prog w h y a):x=y:=by
 obtain⟨o,items,n,ho,_,hd,t,b,hi,hk⟩:=hx
 obtain⟨o',items',n',ho',_,hd',t',b',hi',hk'⟩:=hy
 obtain rfl:o=o':=Option.some.inj (ho.symm.trans ho')
 rw[hd] at hd'
 injection hd' with h1 _
 subst h1
 rw[hi] at hi'
 simp only[ws_,Value.str.injEq,Value.ref.injEq,and_true] at hi'
 obtain⟨⟨e1,_⟩,rfl⟩:=hi'
 exact Prod.ext e1 (xv_ (hk.inj hk'))
theorem PkIs.keeps {h h':Heap}{k:Str×List Int}{a d:Addr}{o:Obj}{es ep}(x:PkIs prog w h k a)(ho:h.get? d=some o)(hd:o.data=.dict es ep)(hs:qx_ d h h'):PkIs prog w h' k a:=by
 obtain⟨o',items,n,ho',hc,hd',t,b,hi,hk⟩:=x
 have hne:a≠d:=by
  rintro rfl
  obtain rfl:o'=o:=Option.some.inj (ho'.symm.trans ho)
  rw[hd] at hd';exact nomatch hd'
 exact⟨o',items,n,(hs.2 a hne).trans ho',hc,hd',t,b,hi,hk.keeps ho hd hs⟩
noncomputable def jlu_ (prog:Program)(w:World)(k:Str×List Int):Int:=reduceHash (rf_ [keyH w (Sum.inr k.1),tupleKeyHash (j9_ prog w) (k.2.map Sum.inl)])
variable {A:Around}{E:Value->Shared->Prop}{s:Shared}
theorem jnu_ {k:Str×List Int}{a:Addr}{Q:Int->Shared->Prop}(hu:A.units+3 < cLine)(hk:PkIs prog w s.heap k a)(h:Q (jlu_ prog w k) { s with toks:=s.toks+(k.2.length+3) }) :
  wpAny (model prog w) A (pyHash (.ref a)) Q E s:=by
 have hT:=hk.typeIs
 obtain⟨o,items,n,ho,_,hd,t,b,hi,hkk⟩:=hk
 unfold pyHash
 first | unfold pyHashByItsType | skip
 first | refine wpAny_bind (wpAny_cRoomFor_or (.inr (by omega)) ?_) | skip
 refine wpAny_bind (wpAny_specialOf hT t2_.lookup ?_)
 show wpAny _ _ (if (some (Value.builtin "tuple.__hash__") == some Value.none)=true then _ else _) Q E s
 rw[if_neg (by rw[beq_builtin_none];exact pk_)]
 refine wpAny_bind (wpAny_specialOf hT t2_.lookup ?_)
 show wpAny _ _ (callSpecialIfBoundUnlessNone? (.ref a) "__hash__" _ >>= _) Q E s
 refine wpAny_bind (wpAny_callSpecialIfBoundUnlessNone?_slot hT t2_ (wpAny_call_entry t2_ hT F.entry_tuple_hash ?_ (F.args_tuple_hash_1 _)))
 show wpAny _ _ (wy_ (.ref a) >>= _) _ _ s
 refine wpAny_bind (wpAny_tupleItemsOf ho hd ?_)
 refine wpAny_bind ?_
 rw[<- w2_,hi]
 refine wpAny_forIn_list _
  (fun rest (bb:Array Int) s'=>(rest=[.str k.1 t,.ref b]/\bb=#[]/\s'=s)∨(rest=[.ref b]/\bb.toList=[keyH w (Sum.inr k.1)]/\s'={ s with toks:=s.toks+1 })∨(rest=[]/\bb.toList=[keyH w (Sum.inr k.1),tupleKeyHash (j9_ prog w) (k.2.map Sum.inl)]/\s'={ s with toks:=s.toks+1+(k.2.length+1) }))
  _ ?_ ?_ _ _ (.inl ⟨rfl,rfl,rfl⟩)
 ·rintro x rest bb s' (⟨e,rfl,rfl⟩ | ⟨e,hb,rfl⟩ | ⟨e,_⟩)
  ·cases e
   refine wpAny_bind ((j9_ prog w).pyHash (k:=Sum.inr k.1) (xo_ _ _ _ _) ?_)
   first
    | exact wpAny_pure (.inr (.inl ⟨rfl,by simp;rfl,rfl⟩))
    | exact wpAny_bind (wpAny_pure (wpAny_pure (.inr (.inl ⟨rfl,by simp;rfl,rfl⟩))))
  ·cases e
   refine wpAny_bind (wpAny_pyHash_tuple (ks:=k.2.map Sum.inl) ?_ hkk ?_)
   ·show A.units+1 < cLine
    omega
   ·first
     | exact wpAny_pure (.inr (.inr ⟨rfl,by simp[hb],by simp⟩))
     | exact wpAny_bind (wpAny_pure (wpAny_pure (.inr (.inr ⟨rfl,by simp[hb],by simp⟩))))
  ·cases e
 ·rintro bb s' (⟨e,_⟩ | ⟨e,_⟩ | ⟨_,hb,rfl⟩)
  ·cases e
  ·cases e
  show wpAny _ _ (retInt (rf_ bb.toList)) _ _ _
  rw[hb]
  refine wpAny_ret_mkInt ?_
  generalize hH:[keyH w (Sum.inr k.1),tupleKeyHash (j9_ prog w) (k.2.map Sum.inl)]=hs
  unfold jlu_ at h
  rw[hH] at h
  show wpAny _ _ (if (decide (-(2:Int) ^ 63<=rf_ hs)&&decide (rf_ hs < 2 ^ 63))=true then _ else _) Q E _
  unfold reduceHash at h
  have ht:s.toks+1+(k.2.length+1)+1=s.toks+(k.2.length+3):=by omega
  by_cases hr:(decide (-(2:Int) ^ 63<=rf_ hs)&&decide (rf_ hs < 2 ^ 63))=true
  ·rw[if_pos hr]
   rw[if_pos hr] at h
   exact wpAny_pure (by simpa [ht] using h)
  ·rw[if_neg hr]
   rw[if_neg hr] at h
   exact wpAny_bind (wpAny_rule (wpAny_pure (by simpa [ht] using h)))
theorem jks_ {x y:Str×List Int}{a b:Addr}{P:PySem.Fin->Shared->Prop}(hu:A.units < cLine)(hx:PkIs prog w s.heap x a)(hy:PkIs prog w s.heap y b)(h:P (.done (.ret (.bool (decide (x=y))))) s) :
  wpAny (model prog w) A (Builtin.«tuple.__eq__» ⟨[.ref a,.ref b],[]⟩) P E s:=by
 have hTb:=hy.typeIs
 obtain⟨oa,xs,na,hoa,_,hda,ta,ba,hia,hka⟩:=hx
 obtain⟨ob,ys,nb,hob,_,hdb,tb,bb,hib,hkb⟩:=hy
 show wpAny _ _ (isInstance (.ref b) (.type "tuple") >>= _) _ _ s
 refine wpAny_bind (wpAny_isInstance hTb isSubtype_tuple_tuple ?_)
 simp only[rg_,p4_,if_false]
 refine wpAny_bind (wpAny_tupleItemsOf hoa hda ?_)
 refine wpAny_bind (wpAny_tupleItemsOf hob hdb ?_)
 refine wpAny_bind ?_
 have hsz:(xs.size == ys.size)=true:=by
  have h1:=congrArg tx_ hia
  have h2:=congrArg tx_ hib
  simp only[te_,p3_,r7_] at h1 h2
  rw[h1,h2];rfl
 refine wpAny_forIn_list _
  (fun rest r s'=>r.1=none/\s'=s/\((rest=[(.str x.1 ta,.str y.1 tb),(.ref ba,.ref bb)])∨(rest=[(.ref ba,.ref bb)]/\x.1=y.1)∨(rest=[]/\x=y)))
  _ ?_ ?_ _ _ ⟨rfl,rfl,.inl (by rw[hia,hib];rfl)⟩
 ·rintro⟨u,v⟩ rest r s' ⟨hr,rfl,(e | ⟨e,hxy⟩ | ⟨e,_⟩)⟩
  ·cases e
   refine wpAny_bind ((j9_ prog w).eqBool (a:=Sum.inr x.1) (b:=Sum.inr y.1) (xo_ _ _ _ _) (xo_ _ _ _ _) ?_)
   by_cases hk:x.1=y.1
   ·rw[decide_eq_true (by rw[hk])]
    simp only[rg_,p4_,if_false]
    exact wpAny_pure ⟨rfl,rfl,by first | exact .inr (.inl ⟨trivial,hk⟩) | simp[hk]⟩
   ·rw[decide_eq_false (fun z=>hk (by injection z))]
    simp only[t5_,if_true]
    have hf:decide (x=y)=false:=decide_eq_false fun z=>hk (by rw[z])
    rw[hf] at h
    exact wpAny_bind (wpAny_pure (wpAny_pure (wpAny_pure h)))
  ·cases e
   refine wpAny_bind (wpAny_eqBool_tuple hu hka hkb ?_)
   by_cases hk:x.2=y.2
   ·rw[decide_eq_true (by rw[hk])]
    simp only[rg_,p4_,if_false]
    exact wpAny_pure ⟨rfl,rfl,by first | exact .inr (.inr ⟨trivial,Prod.ext hxy hk⟩) | simp[Prod.ext hxy hk]⟩
   ·rw[decide_eq_false (fun z=>hk (xv_ z))]
    simp only[t5_,if_true]
    have hf:decide (x=y)=false:=decide_eq_false fun z=>hk (by rw[z])
    rw[hf] at h
    exact wpAny_bind (wpAny_pure (wpAny_pure (wpAny_pure h)))
  ·cases e
 ·rintro⟨r1,r2⟩ s' ⟨hr,rfl,(e | ⟨e,_⟩ | ⟨_,hxy⟩)⟩
  ·cases e
  ·cases e
  simp only at hr
  subst hr
  refine wpAny_pure ?_
  show P (.done (.ret (.bool (xs.size == ys.size)))) s'
  rw[hsz,<- decide_eq_true hxy];exact h
theorem jpa_ {x y:Str×List Int}{a b:Addr}{Q:Bool->Shared->Prop}(hu:A.units+3 < cLine)(hx:PkIs prog w s.heap x a)(hy:PkIs prog w s.heap y b)(h:Q (decide (x=y)) s) :
  wpAny (model prog w) A (eqBool (.ref a) (.ref b)) Q E s:=by
 unfold eqBool
 try with_reducible refine wpAny_holding ?_
 show wpAny _ _ (if (Value.ref a == Value.ref b)=true then _ else _) Q E s
 by_cases hab:(Value.ref a == Value.ref b)=true
 ·rw[if_pos hab]
  have e:a=b:=by have:=eq_of_beq hab;injection this
  subst e
  obtain rfl:=hx.inj hy
  exact wpAny_bind (wpAny_rule (wpAny_pure (by simpa using h)))
 ·rw[if_neg hab]
  exact wpAny_bind (wpAny_richCompare_same_room (op:=.Eq) hx.typeIs hy.typeIs wt_
   (wpAny_call_entry wt_ hx.typeIs F.entry_tuple_eq (jks_ (by show A.units+1 < cLine;omega) hx hy ⟨_,rfl,(fun e=>nomatch e),wpAny_truthy_bool h⟩) (F.args_tuple_eq_2 _ _)) (by omega))
theorem jht_ {K:Type} [DecidableEq K]{knd:lz_ prog w K}(m:Nat){ks:List K}{a:Addr}{Q:Bool->Shared->Prop}(hk:IsTupleKey knd s.heap ks a)(h:Q true s):wpAny (model prog w) A (eqIsQuiet (m+1) (.ref a)) Q E s:=by
 have hT:=hk.typeIs
 obtain⟨o,items,n,ho,_,hd,hi⟩:=hk
 unfold eqIsQuiet
 refine wpAny_bind (wpAny_specialOf hT wt_.lookup ?_)
 show wpAny _ _ (isInstance (.ref a) (.type "tuple") >>= _) _ _ s
 refine wpAny_bind (wpAny_isInstance hT isSubtype_tuple_tuple ?_)
 simp only[rg_,p4_,if_false]
 refine wpAny_bind (wpAny_seqItems ho hd ?_)
 refine wpAny_bind ?_
 show wpAny _ _ (forIn items _ _) _ _ s
 rw[<- w2_]
 refine wpAny_forIn_list _ (fun rest r s'=>r.1=none/\s'=s/\∀ v∈rest,carriedByValue v=true) _ ?_ ?_ _ _ ⟨rfl,rfl,hi.byValue⟩
 ·rintro v rest r s' ⟨hr,rfl,hall⟩
  rw[eqIsQuiet_byValue _ (hall v pn_)]
  refine wpAny_bind (wpAny_pure ?_)
  simp only[rg_,p4_,if_false]
  exact wpAny_pure ⟨rfl,rfl,fun u hu'=>hall u (pl_ _ hu')⟩
 ·rintro⟨r1,r2⟩ s' ⟨hr,rfl,_⟩
  simp only at hr
  subst hr
  exact wpAny_pure h
theorem jti_ {k:Str×List Int}{a:Addr}{Q:Bool->Shared->Prop}(hk:PkIs prog w s.heap k a)(h:Q true s):wpAny (model prog w) A (eqIsQuiet 8 (.ref a)) Q E s:=by
 have hT:=hk.typeIs
 obtain⟨o,items,n,ho,_,hd,t,b,hi,hkk⟩:=hk
 unfold eqIsQuiet
 refine wpAny_bind (wpAny_specialOf hT wt_.lookup ?_)
 show wpAny _ _ (isInstance (.ref a) (.type "tuple") >>= _) _ _ s
 refine wpAny_bind (wpAny_isInstance hT isSubtype_tuple_tuple ?_)
 simp only[rg_,p4_,if_false]
 refine wpAny_bind (wpAny_seqItems ho hd ?_)
 refine wpAny_bind ?_
 show wpAny _ _ (forIn items _ _) _ _ s
 rw[<- w2_,hi]
 refine wpAny_forIn_list _ (fun rest r s'=>r.1=none/\s'=s/\(rest=[.str k.1 t,.ref b]∨rest=[.ref b]∨rest=[])) _ ?_ ?_ _ _ ⟨rfl,rfl,.inl rfl⟩
 ·rintro v rest r s' ⟨hr,rfl,(e | e | e)⟩
  ·cases e
   rw[eqIsQuiet_byValue _ (show carriedByValue (.str k.1 t)=true from rfl)]
   refine wpAny_bind (wpAny_pure ?_)
   simp only[rg_,p4_,if_false]
   exact wpAny_pure ⟨rfl,rfl,by simp⟩
  ·cases e
   refine wpAny_bind (jht_ 6 hkk ?_)
   simp only[rg_,p4_,if_false]
   exact wpAny_pure ⟨rfl,rfl,by simp⟩
  ·cases e
 ·rintro⟨r1,r2⟩ s' ⟨hr,rfl,_⟩
  simp only at hr
  subst hr
  exact wpAny_pure h
noncomputable def jze_ (prog:Program)(w:World):HeapKind prog w (Str×List Int) where
 is:=PkIs prog w
 hash:=jlu_ prog w
 draws:=fun k=>k.2.length+3
 room:=fun A=>A.units+3 < cLine
 inj:=fun hx hy=>hx.inj hy
 keeps:=fun x ho hd hs=>x.keeps ho hd hs
 pyHash:=fun hu hk h=>jnu_ hu hk h
 eqBool:=fun hu hx hy h=>jpa_ hu hx hy h
 quiet:=fun hk h=>jti_ hk h
end
noncomputable def patKind:OwnKind (Str×List Int) where
 hk:=jze_
 at_:=fun H k a=>∃ t,H a=some (.tup [.str k.1,.ref t])/\H t=some (.tup (k.2.map V.int))
 of:=fun{P w H h k a} ok e=>by
  obtain⟨t,e1,e2⟩:=e
  obtain⟨_,its,r,⟨o,h1,h2,n,h3⟩,_⟩:=(show ObjOk P w H h a (.tup [.str k.1,.ref t]) from ok a _ e1)
  have hk:IsTupleKey (j9_ P w) h (k.2.map Sum.inl) t:=jzs_ ok (by rw[qy_];exact e2)
  refine⟨o,its.toArray,n,h1,h2,h3,?_⟩
  cases r with
  | cons r1 rr =>
   cases rr with
   | cons r2 rr =>
    cases rr
    obtain⟨tt,rfl⟩:=r1
    cases (show _=Value.ref t from r2)
    exact⟨tt,t,rfl,hk⟩
 room:=fun{P w A} hu=>by show A.units+1+3 < cLine;omega
 room0:=fun{P w A} hu=>by show A.units+3 < cLine;omega
end L2
namespace L2
open PySem PySem.Spec PyProof.Rows
noncomputable def pkL (k:Str×List Int):List Int:=k.1.cps.toList.map (fun c:Nat=>(c:Int)+1)++0::k.2
theorem jgy_:∀{a b:List Nat}{m n:List Int},a≠b->((a.map (fun c:Nat=>(c:Int)+1)++0::m < b.map (fun c:Nat=>(c:Int)+1)++0::n)↔a < b)
 | [],[],_,_,h=>absurd rfl h
 | [],y::b,m,n,_=>by
  simp only[qs_,sq_,pr_,rz_,ri_]
  exact⟨fun _=>List.nil_lt_cons _ _,fun _=>.inl (by omega)⟩
 | x::a,[],m,n,_=>by
  simp only[qs_,sq_,pr_,rz_,ri_]
  constructor
  ·rintro(h | ⟨h,_⟩) <;> omega
  ·intro h;exact absurd h (List.not_lt_nil _)
 | x::a,y::b,m,n,h=>by
  simp only[pr_,rz_,ri_]
  by_cases hxy:x=y
  ·subst hxy
   have hab:a≠b:=fun z=>h (by rw[z])
   have ih:=jgy_ (m:=m) (n:=n) hab
   constructor
   ·rintro(q | ⟨_,q⟩)
    ·omega
    ·exact .inr ⟨rfl,ih.mp q⟩
   ·rintro(q | ⟨_,q⟩)
    ·omega
    ·exact .inr ⟨rfl,ih.mpr q⟩
  ·constructor
   ·rintro(q | ⟨q,_⟩)
    ·exact .inl (by omega)
    ·omega
   ·rintro(q | ⟨q,_⟩)
    ·exact .inl (by omega)
    ·exact absurd q hxy
theorem jyj_ (l m n:List Int):(l++m < l++n)↔m < n:=by
 induction l with
 | nil=>exact Iff.rfl
 | cons x l ih =>
  rw[rz_,rz_,ri_,ih]
  exact⟨fun h=>h.elim (fun q=>by omega) fun q=>q.2,fun h=>.inr ⟨rfl,h⟩⟩
theorem juz_ {x y:Str×List Int}(h:pkL x=pkL y):x=y:=by
 by_cases e:x.1=y.1
 ·unfold pkL at h
  rw[e] at h
  have:=List.append_cancel_left h
  injection this with _ h2
  exact Prod.ext e h2
 ·have hne:x.1.cps.toList≠y.1.cps.toList:=fun z=>e (jmm_ z)
  have h1:=jgy_ (m:=x.2) (n:=y.2) hne
  have h2:=jgy_ (m:=y.2) (n:=x.2) hne.symm
  change pkL x < pkL y↔_ at h1
  change pkL y < pkL x↔_ at h2
  rw[h] at h1 h2
  have hn:¬ x.1.cps.toList < y.1.cps.toList:=fun q=>ka_ _ (h1.mpr q)
  have hn2:¬ y.1.cps.toList < x.1.cps.toList:=fun q=>ka_ _ (h2.mpr q)
  exact absurd (ky_ (t3_.mp hn2) (t3_.mp hn)) hne
@[reducible] noncomputable def patK (ps:List (Addr×(Str×List Int))):lo_ where
 α:=List Int
 blt a b:=decide (a < b)
 irrefl a:=by simpa using ka_ a
 trans a b c h1 h2:=by simp only[decide_eq_true_eq] at *;exact List.lt_trans h1 h2
 negTrans a b c h:=by
  simp only[decide_eq_true_eq] at *
  by_cases hab:a < b
  ·exact .inl hab
  ·exact .inr (List.lt_of_le_of_lt (t3_.mp hab) h)
 total a b h1 h2:=by simp only[decide_eq_false_iff_not] at *;exact ky_ (t3_.mp h2) (t3_.mp h1)
 keyOf v:=match v with | .ref a=>(ps.lookup a).map pkL | _=>none
 dflt:=[]
def PatAt (prog:Program)(w:World)(h:Heap)(ps:List (Addr×(Str×List Int))):Prop:=∀ a k,(a,k)∈ps->PkIs prog w h k a
section
variable {prog:Program}{w:World}{A:Around}{E:Value->Shared->Prop}{s:Shared}
theorem jhn_:∀{x y:List Int}{a b:Addr}{P:PySem.Fin->Shared->Prop},IsTupleKey (j9_ prog w) s.heap (x.map Sum.inl) a->IsTupleKey (j9_ prog w) s.heap (y.map Sum.inl) b->P (.done (.ret (.bool (decide (x < y))))) s ->
  wpAny (model prog w) A (Builtin.«tuple.__lt__» ⟨[.ref a,.ref b],[]⟩) P E s:=by
 intro x y a b P hx hy h
 have hTb:=hy.typeIs
 obtain⟨oa,xs,na,hoa,_,hda,hia⟩:=hx
 obtain⟨ob,ys,nb,hob,_,hdb,hib⟩:=hy
 show wpAny _ _ (isInstance (.ref b) (.type "tuple") >>= _) _ _ s
 refine wpAny_bind (wpAny_isInstance hTb isSubtype_tuple_tuple ?_)
 simp only[rg_,p4_,if_false]
 refine wpAny_bind (wpAny_tupleItemsOf hoa hda ?_)
 refine wpAny_bind (wpAny_tupleItemsOf hob hdb ?_)
 refine wpAny_bind ?_
 refine wpAny_forIn_list _
  (fun rest r s'=>r.1=none/\s'=s/\∃(x' y':List Int) (xs' ys':List Value),rest=List.zip xs' ys'/\ItemsAre (j9_ prog w) (x'.map Sum.inl) xs'/\ItemsAre (j9_ prog w) (y'.map Sum.inl) ys'/\decide (x' < y')=decide (x < y)/\(decide (xs'.length < ys'.length))=decide (xs.size < ys.size))
  _ ?_ ?_ _ _ ⟨rfl,rfl,x,y,xs.toList,ys.toList,rfl,hia,hib,rfl,by simp⟩
 ·rintro⟨u,v⟩ rest r s' ⟨hr,rfl,x',y',xs',ys',hz,hx',hy',hdec,hlen⟩
  cases x' with
  | nil=>rw[qs_] at hx';cases hx';simp at hz
  | cons k1 x'' =>
   cases y' with
   | nil=>rw[qs_] at hy';cases hy';simp at hz
   | cons k2 y'' =>
    rw[pr_] at hx' hy'
    cases hx' with
    | cons h1 hx'' =>
     cases hy' with
     | cons h2 hy'' =>
      simp only[List.zip_cons_cons,ws_,Prod.mk.injEq] at hz
      obtain⟨⟨rfl,rfl⟩,rfl⟩:=hz
      refine wpAny_bind ((j9_ prog w).eqBool h1 h2 ?_)
      by_cases hk:k1=k2
      ·subst hk
       rw[decide_eq_true rfl]
       simp only[rg_,p4_,if_false]
       refine wpAny_pure ⟨rfl,rfl,x'',y'',_,_,rfl,hx'',hy'',?_,by simpa using hlen⟩
       rw[<- hdec]
       simp[ri_]
      ·rw[decide_eq_false (fun z=>hk (by injection z))]
       simp only[t5_,if_true]
       have hf:decide (x < y)=decide (k1 < k2):=by
        rw[<- hdec]
        simp[ri_,hk]
       rw[hf] at h
       rcases za_ (show vk_ (Sum.inl k1) _=true from h1) with ⟨i,t,e1,rfl⟩ | ⟨z,t,e1,_⟩
       ·rcases za_ (show vk_ (Sum.inl k2) _=true from h2) with ⟨j,t2,e2,rfl⟩ | ⟨z,t,e2,_⟩
        ·cases e1;cases e2
         refine wpAny_bind (wpAny_rule (wpAny_bind ?_))
         refine richCompare_gives (op:=.Lt) (typeIs_int s' _ t) (typeIs_int s' _ t2) F.slot_int_lt F.entry_int_lt (F.args_int_lt_2 _ _) (gives_int_lt _ _ t t2) (fun x=>nomatch x) ?_
         exact wpAny_bind (wpAny_pure (wpAny_pure (wpAny_pure h)))
        ·cases e2
       ·cases e1
 ·rintro⟨r1,r2⟩ s' ⟨hr,rfl,x',y',xs',ys',hz,hx',hy',hdec,hlen⟩
  simp only at hr
  subst hr
  refine wpAny_pure ?_
  show P (.done (.ret (.bool (decide (xs.size < ys.size))))) s'
  rw[<- hlen]
  have e:decide (xs'.length < ys'.length)=decide (x < y):=by
   rw[<- hdec]
   have l1:=hx'.length
   have l2:=hy'.length
   rw[pb_] at l1 l2
   cases x' with
   | nil =>
    cases y' with
    | nil=>rw[<- l1,<- l2];simp
    | cons k y''=>rw[<- l1,<- l2];simp[List.nil_lt_cons]
   | cons k x'' =>
    cases y' with
    | nil=>rw[<- l1,<- l2];simp[List.not_lt_nil]
    | cons k2 y'' =>
     cases xs' with
     | nil=>simp at l1
     | cons _ _ =>
      cases ys' with
      | nil=>simp at l2
      | cons _ _=>simp at hz
  rw[e];exact h
theorem jvx_ {h:Heap}{ps:List (Addr×(Str×List Int))}(hT:PatAt prog w h ps){a:Addr}{x y:Str×List Int}(hx:(a,x)∈ps)(hy:(a,y)∈ps):x=y:=(hT a x hx).inj (hT a y hy)
theorem jao_ {β:Type}:∀{ps:List (Addr×β)}{a:Addr}{x:β},ps.lookup a=some x->(a,x)∈ps
 | [],a,x,h=>by cases h
 | (b,y)::ps,a,x,h=>by
  rw[qr_] at h
  cases hb:a == b with
  | true =>
   rw[hb] at h
   cases h
   have:a=b:=by simpa using hb
   rw[this];exact pn_
  | false =>
   rw[hb] at h
   exact pl_ _ (jao_ h)
theorem jbq_ {β:Type}:∀{ps:List (Addr×β)}{a:Addr}{x:β},(a,x)∈ps->∃ y,ps.lookup a=some y
 | [],_,_,h=>by cases h
 | (b,y)::ps,a,x,h=>by
  rw[qr_]
  cases hb:a == b with
  | true=>exact⟨y,rfl⟩
  | false =>
   rcases p6_.mp h with e | h'
   ·cases e;simp at hb
   ·exact jbq_ h'
theorem jag_ {h:Heap}{ps:List (Addr×(Str×List Int))}(hT:PatAt prog w h ps){a:Addr}{x:Str×List Int}(hx:(a,x)∈ps):ps.lookup a=some x:=by
 obtain⟨y,hy⟩:=jbq_ hx
 rw[hy,jvx_ hT hx (jao_ hy)]
theorem Cmp.pat {ps:List (Addr×(Str×List Int))}(hu:A.units+4 < cLine)(hT:PatAt prog w s.heap ps):Cmp prog w A E s (tuples' true) (patK ps).toKeyOrd (okK (patK ps)) (keyK (patK ps)):=⟨fun{st x y Q} hk hx hy h=>by
 have get:∀ z:Keyed,okK (patK ps) z->∃ a u,z.1=.ref a/\(a,u)∈ps/\keyK (patK ps) z=pkL u:=fun z ⟨k,hz⟩=>by
  obtain⟨z1,z2⟩:=z
  obtain⟨a,rfl⟩:∃ a,z1=.ref a:=by
   cases z1 <;> first | exact⟨_,rfl⟩ | (simp[patK] at hz)
  simp only[patK] at hz
  cases hl:ps.lookup a with
  | none=>rw[hl] at hz;cases hz
  | some u =>
   refine⟨a,u,rfl,jao_ hl,?_⟩
   unfold keyK
   simp only[patK,hl,r6_,sx_]
 obtain⟨a,u,ea,ha,ka⟩:=get x hx
 obtain⟨b,v,eb,hb,kb⟩:=get y hy
 rw[ka,kb] at h
 change Q (some (decide (pkL u < pkL v))) st at h
 obtain⟨oa,ia,na,a1,a2,a3,ta,ra,a4,a5⟩:=hT a u ha
 obtain⟨ob,ib,nb,b1,b2,b3,tb,rb,b4,b5⟩:=hT b v hb
 rw[lt'_eq]
 refine wpS_bind (wpS_get ?_)
 rw[hk,ea,eb,jel_]
 refine wpS_bind (wpS_lift (wpAny_attempt ?_))
 refine wpAny_bind (listItems_at a1 a3 ?_)
 refine wpAny_bind (listItems_at b1 b3 ?_)
 have za:ia.size=2:=by have:=congrArg tx_ a4;simpa using this
 have zb:ib.size=2:=by have:=congrArg tx_ b4;simpa using this
 rw[a4,b4,za,zb]
 show wpAny _ _ (forIn [((Value.str u.1 ta,Value.str v.1 tb),0),((Value.ref ra,Value.ref rb),1)] _ _ >>= _) _ _ s
 rw[tl_]
 refine wpAny_bind (wpAny_bind (wpAny_bind (l2_ u.1 ta v.1 tb _ _ _ _ ?_)))
 by_cases huv:u.1=v.1
 ·have e:(u.1 == v.1)=true:=by simpa using huv
  rw[e]
  simp only[rg_,p4_,if_false]
  refine wpAny_pure ?_
  dsimp only
  rw[tl_]
  refine wpAny_bind (wpAny_bind (wpAny_eqBool_tuple (by omega) a5 b5 ?_))
  have hpk:decide (pkL u < pkL v)=decide (u.2 < v.2):=by
   have h1:(pkL u < pkL v)↔u.2 < v.2:=by
    unfold pkL
    rw[huv,jyj_,ri_]
    exact⟨fun q=>q.elim (fun z=>by omega) fun z=>z.2,fun q=>.inr ⟨rfl,q⟩⟩
   simp only[h1]
  rw[hpk] at h
  by_cases h2:u.2=v.2
  ·rw[decide_eq_true (show u.2.map (Sum.inl:Int->Key)=v.2.map Sum.inl by rw[h2])]
   simp only[rg_,p4_,if_false]
   refine wpAny_pure ?_
   dsimp only
   rw[List.forIn_nil]
   refine wpAny_pure ?_
   dsimp only
   refine wpAny_pure ⟨rfl,wpS_pure ?_⟩
   have:decide (u.2 < v.2)=false:=by rw[h2];simpa using ka_ v.2
   rw[this] at h
   exact h
  ·rw[decide_eq_false (fun z=>h2 (xv_ z))]
   simp only[t5_,if_true]
   refine wpAny_bind ?_
   show wpAny _ _ (oneLt' false (.ref ra) (.ref rb)) _ _ s
   rw[oneLt'_eq]
   simp only[p4_,if_false]
   refine wpAny_bind ?_
   refine wpAny_richCompare_same_room (op:=.Lt) a5.typeIs b5.typeIs F.slot_tuple_lt
    (wpAny_call_entry F.slot_tuple_lt a5.typeIs F.entry_tuple_lt (jhn_ a5 b5 ⟨_,rfl,(fun e=>nomatch e),?_⟩) (F.args_tuple_lt_2 _ _)) (by omega)
   refine wpAny_truthy_bool ?_
   refine wpAny_pure ?_
   dsimp only
   refine wpAny_pure ?_
   dsimp only
   exact wpAny_pure ⟨rfl,wpS_pure h⟩
 ·have e:(u.1 == v.1)=false:=by simpa using huv
  rw[e]
  simp only[t5_,if_true]
  have hpk:decide (pkL u < pkL v)=decide (u.1.cps.toList < v.1.cps.toList):=by
   have h1:(pkL u < pkL v)↔u.1.cps.toList < v.1.cps.toList:=jgy_ fun z=>huv (jmm_ z)
   simp only[h1]
  rw[hpk] at h
  refine wpAny_bind ?_
  show wpAny _ _ (oneLt' true (.str u.1 ta) (.str v.1 tb)) _ _ s
  refine oneLt_str ?_
  refine wpAny_pure ?_
  dsimp only
  refine wpAny_pure ?_
  dsimp only
  exact wpAny_pure ⟨rfl,wpS_pure h⟩⟩
theorem PatAt.tab {h:Heap}{ps:List (Addr×(Str×List Int))}(hT:PatAt prog w h ps):jwz_ h (ps.map fun p=>(p.1,p.2.1)):=fun a x hx=>by
 obtain⟨p,hp,e⟩:=pq_.mp hx
 cases e
 obtain⟨o,items,n,h1,h2,h3,t,b,h4,_⟩:=hT p.1 p.2 hp
 refine⟨o,t,.ref b,n,h1,h2,?_⟩
 rw[h3,<- Array.toArray_toList (xs:=items),h4]
theorem PatAt.mono {h h':Heap}{ps:List (Addr×(Str×List Int))}(hT:PatAt prog w h ps)(k:∀ b o,h.get? b=some o->o.cls=.type "tuple"->h'.get? b=some o):PatAt prog w h' ps:=fun a x hx=>by
 obtain⟨o,items,n,h1,h2,h3,t,b,h4,o2,i2,n2,g1,g2,g3,g4⟩:=hT a x hx
 exact⟨o,items,n,k _ _ h1 h2,h2,h3,t,b,h4,o2,i2,n2,k _ _ g1 g2,g2,g3,g4⟩
def SrtP (ks:List (Str×List Int)):Prop:=ks.Pairwise fun x y=>¬ pkL y < pkL x
end
section
variable {X:Cx}
theorem jhx_:∀(as:List (Addr×(Str×List Int))),Vals (as.map fun p=>V.ref p.1) (as.map fun p=>Value.ref p.1)
 | []=>.nil
 | p::as=>.cons rfl (jhx_ as)
end
end L2
set_option autoImplicit false
namespace PyProof.Rows
open PySem
section
variable {prog:Program}{w:World}{A:Around}{E:Value->Shared->Prop}{s:Shared}{kd:SortKind}{κ:KeyKind}{a₀:Array Keyed}{st:SortSt}
theorem jgu_:∀ n:Nat,n < 64->minRun' n n 0=n:=by decide
theorem joq_ {lo n size:Nat}{Q:ForInStep (Option Unit×Nat)->SortSt->Prop}(hp:pendingOf st=#[])(q:Q (.yield (none,lo+n)) (setPending st (#[].push (lo,n,0)))):wpS (model prog w) A E s (runJ size lo n) Q st:=by
 unfold runJ
 refine wpS_bind (wpS_get ?_)
 have hb:(pendingOf st).back?=none:=by rw[hp];rfl
 rw[hb]
 dsimp only
 unfold u9_
 refine wpS_bind (wpS_modify (wpS_pure ?_))
 rw[hp];exact q
def jet_ (κ:KeyKind)(a₀:Array Keyed)(st:SortSt):Prop:=(arrOf st).Perm a₀/\failedOf st=none/\Srt κ.toKeyOrd (keyK κ) (arrOf st).toList/\(pendingOf st).size<=1
theorem jeh_ (C:Cmp prog w A E s kd κ.toKeyOrd (okK κ) (keyK κ))(h0:∀ p∈a₀.toList,okK κ p)(h64:a₀.size < 64){Q:Unit->SortSt->Prop}(ha:arrOf st=a₀)(hp:pendingOf st=#[])(hk:kindOf st=kd)(hf:failedOf st=none)
  (h:∀ st',(arrOf st').Perm a₀->failedOf st'=none->Srt κ.toKeyOrd (keyK κ) (arrOf st').toList->Q () st'):wpS (model prog w) A E s sortRuns' Q st:=by
 rw[joh_]
 refine wpS_bind (wpS_get ?_)
 rw[ha]
 refine wpS_bind (wpS_mono (wpS_forRange (I:=fun t c st'=>(t=0/\c=(none,0)/\st'=st)∨(c=(none,a₀.size)/\jet_ κ a₀ st')) (Q:=fun c st'=>c.1=none/\jet_ κ a₀ st') ?step ?fin (.inl ⟨rfl,rfl,rfl⟩)) ?post)
 case fin =>
  rintro c st' (⟨h1,rfl,rfl⟩ | ⟨rfl,hw⟩)
  ·refine⟨rfl,by rw[ha],hf,?_,by rw[hp];exact qj_ _⟩
   have hz:(arrOf st').toList.length=0:=by rw[lens,ha];exact h1
   rw[kr_.mp hz];exact tk_.nil
  ·exact⟨rfl,hw⟩
 case step =>
  rintro t c st' ht0 ht (⟨h1,rfl,rfl⟩ | ⟨rfl,hw⟩)
  ·have hsz:0 < a₀.size:=by omega
   unfold runO
   dsimp only
   rw[if_neg (by omega)]
   have hB:SB kd a₀ (pendingOf st') (arrOf st') 0 a₀.size st':=⟨by rw[ha],hk,hf,rfl,fun _ _=>rfl⟩
   have fin:∀ st'',SB kd a₀ (pendingOf st') (arrOf st') 0 a₀.size st''->SIn κ (arrOf st'') 0 a₀.size->wpS (model prog w) A E s (runJ a₀.size 0 a₀.size) (fun r st=>match r with | .done c=>c.1=none/\jet_ κ a₀ st | .yield c=>(t+1=0/\c=(none,0)/\st=st')∨(c=(none,a₀.size)/\jet_ κ a₀ st)) st'':=fun st'' hB' hs=>by
    have hp'':pendingOf st''=#[]:=by rw[hB'.pend,hp]
    refine joq_ hp'' (.inr ⟨by rw[Nat.zero_add],?_⟩)
    have hsz':(arrOf st'').size=a₀.size:=hB'.size
    refine⟨hB'.perm,hB'.failed,?_,pm_ _⟩
    have:=jku_ (ys:=arrOf st'') (lo:=0) (n:=a₀.size) (by omega) hs
    rw[kb_,sy_ (by rw[lens];omega)] at this
    exact this
   refine wpS_bind (jej_ C h0 (by omega) (by omega) (by omega) hB fun m st'' hB' hm1 hm2 hs=>?_)
   dsimp only
   rw[jgu_ _ h64]
   by_cases c2:m < a₀.size
   ·rw[if_pos c2]
    refine wpS_bind (wpS_lift (wpAny_rule ⟨rfl,?_⟩))
    refine wpS_bind (jbu_ C h0 (by omega) (by omega) (by omega) hB' hs fun st3 hB3 hs3=>?_)
    simp only[rg_,p4_,if_false]
    rw[show min (a₀.size - 0) a₀.size=a₀.size by omega] at hs3 ⊢
    exact wpS_mono (fin _ hB3 hs3) fun r st h=>by cases r <;> exact h
   ·rw[if_neg c2]
    have hm:m=a₀.size:=by omega
    rw[hm] at hs ⊢
    exact wpS_mono (fin _ hB' hs) fun r st h=>by cases r <;> exact h
  ·unfold runO
   dsimp only
   rw[if_pos (pm_ _)]
   exact wpS_pure ⟨rfl,hw⟩
 case post =>
  rintro⟨c1,c2⟩ st' ⟨hc,hw⟩
  simp only at hc
  subst hc
  dsimp only
  refine wpS_bind (wpS_mono (wpS_forRange (I:=fun t c st'=>c=(none,())/\jet_ κ a₀ st') (Q:=fun c st'=>c=(none,())/\jet_ κ a₀ st') ?step2 (fun _ _ h=>h) ⟨rfl,hw⟩) ?post2)
  case step2 =>
   rintro t c st' _ ht ⟨rfl,hw⟩
   unfold runF
   refine wpS_bind (wpS_get ?_)
   rw[if_pos hw.2.2.2]
   exact wpS_pure ⟨rfl,hw⟩
  case post2 =>
   rintro c st' ⟨rfl,hw⟩
   exact wpS_pure (h st' hw.1 hw.2.1 hw.2.2.1)
theorem jby_ {κ:KeyKind}{kd:SortKind}{a:Addr}{vs:List Value}{n:Nat}{P:Fin->Shared->Prop}(ho:s.heap.get? a=some (seqObj "list" vs.toArray n))
  (h0:∀ v∈vs,∃ x,κ.keyOf v=some x) (hkk:2<=vs.length->∀ Q:SortKind->Shared->Prop,Q kd { s with heap:=zt_ s.heap a vs }->wpAny (model prog w) A (keyKind' vs.toArray) Q E { s with heap:=zt_ s.heap a vs })
  (C:Cmp prog w A E { s with heap:=zt_ s.heap a vs } kd κ.toKeyOrd (okK κ) (keyK κ)) (hz:vs.length<=sizeLine) (h64:vs.length < 64)
  (h:∀ st':SortSt,(arrOf st').Perm (pairsOf vs)->Srt κ.toKeyOrd (keyK κ) (arrOf st').toList->P (.done (.ret .none)) { s with heap:=sortedHeap s.heap a vs ((arrOf st').map (·.2)) }) :
  wpAny (model prog w) A (Builtin.«list.sort» ⟨[.ref a],[]⟩) P E s:=by
 rw[list_sort_plain]
 have ha:a < s.heap.objs.size:=p2_ ho
 refine wpAny_bind (listItems_at ho rfl ?_)
 refine wpAny_bind (listUpdate_at ho rfl ?_ (by rw[pp_];exact hz))
 obtain⟨e1,ho1⟩:∃ e1,(s.heap.update a (ty_ fun _=>#[])).get? a=some (seqObj "list" #[] e1):=⟨_,get?_update_seq ho (fun _=>#[])⟩
 refine wpAny_bind (seqEpoch_at ho1 rfl ?_)
 refine wpAny_bind (wpAny_newTuple ?_ (by first | (rw[pp_];exact hz) | simpa using hz))
 refine wpAny_bind (wpAny_newList ?_)
 refine wpAny_holding ?_
 have ho6:(zt_ s.heap a vs).get? a=some (seqObj "list" #[] e1):=by
  unfold zt_
  rw[Heap.get?_push_ne _ _ _ (by rw[size_push',Heap.size_update];exact qg_ (t0_ ha)),Heap.get?_push_ne _ _ _ (by rw[Heap.size_update];exact qg_ ha)]
  exact ho1
 show wpAny (model prog w) A _ P E { s with heap:=zt_ s.heap a vs }
 dsimp only
 have hsz:vs.toArray.size=vs.length:=by simp
 have hsl:sizeLine<=sizeLine+1:=ls_ _
 by_cases h2:vs.toArray.size < 2
 ·rw[if_pos h2,if_pos h2]
  refine wpAny_bind (wpAny_pure ?_)
  rw[StateT.run_pure]
  refine wpAny_bind (wpAny_pure ?_)
  dsimp only
  refine wpAny_bind (seqEpoch_at ho6 rfl ?_)
  refine wpAny_bind (listUpdate_at ho6 rfl ?_ (hsz2:=by rw[Array.size_map];show (pairsOf vs).size<=_;rw[pairsOf_size];omega))
  simp only[bne_self_eq_false,p4_,if_false]
  refine wpAny_pure (h (SortSt.mk' general' (vs.toArray.zip vs.toArray) #[] 7 none) (Array.Perm.refl _) ?_)
  have hl:(pairsOf vs).toList.length < 2:=by rw[lens,pairsOf_size];omega
  show Srt κ.toKeyOrd (keyK κ) (pairsOf vs).toList
  generalize (pairsOf vs).toList=l at hl ⊢
  cases l with
  | nil=>exact tk_.nil
  | cons x r =>
   cases r with
   | nil=>exact List.pairwise_singleton _ _
   | cons y r=>exact absurd hl (Nat.not_lt.mpr (lj_ 2 r.length))
 ·rw[if_neg h2,if_neg h2]
  refine wpAny_bind (hkk (by omega) _ ?_)
  refine wpAny_bind (wpAny_mono (jeh_ (κ:=κ) C (a₀:=pairsOf vs) (st:=SortSt.mk' kd (vs.toArray.zip vs.toArray) #[] 7 none)
   (Q:=fun _ st'=>(arrOf st').Perm (pairsOf vs)/\failedOf st'=none/\Srt κ.toKeyOrd (keyK κ) (arrOf st').toList)
   (fun p hp=>by
    rw[pairsOf_toList] at hp
    have:=mem_zip_self hp
    obtain⟨x,hx⟩:=h0 _ this.2
    exact⟨x,hx⟩) (by rw[pairsOf_size];exact h64) rfl rfl rfl rfl fun st' a1 a2 a3=>⟨a1,a2,a3⟩) ?_ fun _ _ e=>e)
  rintro⟨⟨⟩,st'⟩ s' ⟨rfl,hp,hf,hs⟩
  dsimp only
  refine wpAny_bind (seqEpoch_at ho6 rfl ?_)
  refine wpAny_bind (listUpdate_at ho6 rfl ?_ (hsz2:=by refine p7_ (s1_ ((Array.size_map ..).trans (hp.size_eq.trans (pairsOf_size _)))) ?_;omega))
  rw[hf]
  simp only[bne_self_eq_false,p4_,if_false]
  exact wpAny_pure (h st' hp hs)
end
end PyProof.Rows
namespace L2
open PySem PySem.Spec PyProof.Rows
section
variable {prog:Program}{w:World}{A:Around}{E:Value->Shared->Prop}{s:Shared}
theorem jpf_ {a:Addr}{ps:List (Addr×(Str×List Int))}{n:Nat}{P:PySem.Fin->Shared->Prop}(hu:A.units+4 < cLine)(ho:s.heap.get? a=some (seqObj "list" (ps.map fun p=>Value.ref p.1).toArray n))(hT:PatAt prog w s.heap ps)(hz:ps.length<=sizeLine)(h64:ps.length < 64)
  (h:∀ qs:List (Addr×(Str×List Int)),qs.Perm ps->SrtP (qs.map (·.2))->P (.done (.ret .none)) { s with heap:=sortedHeap s.heap a (ps.map fun p=>Value.ref p.1) (qs.map fun p=>Value.ref p.1).toArray }):wpAny (model prog w) A (Builtin.«list.sort» ⟨[.ref a],[]⟩) P E s:=by
 have hTs:PatAt prog w (zt_ s.heap a (ps.map fun p=>Value.ref p.1)) ps:=hT.mono fun b o e1 e2=>by
  have hne:b≠a:=fun z=>by
   rw[z,ho] at e1
   cases e1
   simp at e2
  unfold zt_
  exact pi_ _ (pi_ _ ((q0_ _ _ (td_ hne)).trans e1))
 refine jby_ (κ:=patK ps) (kd:=tuples' true) ho (fun v hv=>?_) (fun h2 Q q=>?_) (Cmp.pat hu hTs) (by rw[pb_];exact hz) (by rw[pb_];exact h64) fun st' hp hs=>?_
 ·obtain⟨p,hp,rfl⟩:=pq_.mp hv
  exact⟨pkL p.2,by simp only[patK,jag_ hT hp,r6_]⟩
 ·have h3:=jij_ (prog:=prog) (w:=w) (A:=A) (E:=E) (s:={ s with heap:=zt_ s.heap a (ps.map fun p=>Value.ref p.1) }) hTs.tab (fun z=>by rw[List.map_eq_nil_iff] at z;rw[z] at h2;simp at h2) (Q:=Q) q
  rw[qy_] at h3
  exact h3
 ·have hl:(arrOf st').toList.Perm ((ps.map fun p=>Value.ref p.1).zip (ps.map fun p=>Value.ref p.1)):=by rw[<- pairsOf_toList];exact wz_.mp hp
  obtain⟨F,hF⟩:∃ F:Keyed->Addr×(Str×List Int),F=fun z=>match z.1 with
   | .ref a=>(a,(ps.lookup a).getD (⟨#[]⟩,[]))
   | _=>(0,(⟨#[]⟩,[])):=⟨_,rfl⟩
  have hFp:∀ p∈ps,F (.ref p.1,.ref p.1)=p:=fun p hp=>by rw[hF];simp only[jag_ hT hp,sx_]
  have hmem:∀ z∈(arrOf st').toList,∃ p∈ps,z=(.ref p.1,.ref p.1):=fun z hz=>by
   have h1:=mem_zip_self (hl.mem_iff.mp hz)
   obtain⟨p,hp,e⟩:=pq_.mp h1.2
   exact⟨p,hp,Prod.ext e.symm (h1.1▸e.symm)⟩
  have hperm:((arrOf st').toList.map F).Perm ps:=by
   have h1:=hl.map F
   have e:((ps.map fun p=>Value.ref p.1).zip (ps.map fun p=>Value.ref p.1)).map F=ps:=by
    rw[List.zip_map',qy_]
    conv=>rhs;rw[<- List.map_id ps]
    exact qz_ fun p hp=>hFp p hp
   rw[e] at h1;exact h1
  have hout:(arrOf st').map (·.2)=(((arrOf st').toList.map F).map fun p=>Value.ref p.1).toArray:=by
   apply wd_.mp
   rw[Array.toList_map,qy_]
   refine qz_ fun z hz=>?_
   obtain⟨p,hp,rfl⟩:=hmem z hz
   simp only[wn_,hFp p hp]
  rw[hout]
  refine h _ hperm ?_
  unfold SrtP
  rw[s5_,s5_]
  refine kj_ (fun{x y} hx hy hxy=>?_) hs
  obtain⟨p,hp,rfl⟩:=hmem x hx
  obtain⟨q,hq,rfl⟩:=hmem y hy
  rw[hFp p hp,hFp q hq]
  have e1:keyK (patK ps) (.ref p.1,.ref p.1)=pkL p.2:=by unfold keyK;simp only[patK,jag_ hT hp,r6_,sx_]
  have e2:keyK (patK ps) (.ref q.1,.ref q.1)=pkL q.2:=by unfold keyK;simp only[patK,jag_ hT hq,r6_,sx_]
  rw[e1,e2] at hxy
  have hxy:decide (pkL q.2 < pkL p.2)=false:=hxy
  exact of_decide_eq_false hxy
end
section
variable {X:Cx}
def jmw_:List V->Hp->VK->Prop:=fun xs H Q=>∃(l:Addr) (ps:List (Addr×(Str×List Int))),xs=[.ref l]/\H l=some (.lst (ps.map fun p=>V.ref p.1))/\(∀ p∈ps,patKind.at_ H p.2 p.1)/\ps.length < 64 /\
 ∀(q:Addr) (qs:List (Addr×(Str×List Int))),H q=none->qs.Perm ps->SrtP (qs.map (·.2))->Q (.ref q) (upd H q (.lst (qs.map fun p=>V.ref p.1)))
theorem jiw_ {H:Hp}{Q:VK}{l:Addr}{ps:List (Addr×(Str×List Int))}(h1:H l=some (.lst (ps.map fun p=>V.ref p.1)))(h2:∀ p∈ps,patKind.at_ H p.2 p.1)(h4:ps.length < 64)(h:∀(q:Addr) (qs:List (Addr×(Str×List Int))),H q=none->qs.Perm ps->SrtP (qs.map (·.2))->Q (.ref q) (upd H q (.lst (qs.map fun p=>V.ref p.1)))):jmw_ [.ref l] H Q:=⟨l,ps,rfl,h1,h2,h4,h⟩
theorem jiu_ (hc:X.calm=true)(hu:X.A.units+10 < cLine):CallR X (.builtin "sorted") jmw_:=by
 intro pins s σ H xs us Q I r h
 obtain⟨l,ps,rfl,e,h2,h4,q⟩:=h
 obtain⟨u,rfl,ru⟩:=ug_ r
 cases ru
 have hT:PatAt X.prog X.w s.heap ps:=fun a k ha=>patKind.of I.hok (h2 (a,k) ha)
 obtain⟨its,rv,pl,hz⟩:=I.list (SqL.of (K:=X.K) e)
 have hits:its=ps.map fun p=>Value.ref p.1:=by
  have:∀(l:List (Addr×(Str×List Int))) (us:List Value),Vals (l.map fun p=>V.ref p.1) us->us=l.map fun p=>Value.ref p.1:=by
   intro l
   induction l with
   | nil=>intro us r;cases r;rfl
   | cons p l ih =>
    intro us r
    rw[pr_] at r
    cases r with
    | cons r1 rr=>rw[ih _ rr,pr_,show _=Value.ref p.1 from r1]
  exact this ps its rv
 subst hits
 refine PySem.Calls.call_function_entry kind_sorted plain_sorted entry_sorted (args_sorted1 _) ?_
 unfold Builtin.«sorted»
 refine wpAny_bind (m:=checkCount "sorted" 1 1 _) (wpAny_pure ?_)
 have h1m:(1000000:Nat)<=sizeLine:=by decide
 have hszA:(ps.map fun p=>Value.ref p.1).length<=sizeLine:=by rw[pb_];omega
 have hszB:(ps.map fun p=>Value.ref p.1).toArray.size<=sizeLine:=by rw[pp_];exact hszA
 refine wpAny_bind (collect_list pl.isList ?_ hszA)
 refine wpAny_bind (wpAny_newList ?_ (by first | exact hszA | exact hszB))
 obtain⟨h1,hh1⟩:∃ h1,h1=(s.heap.push (seqObj "list" #[] 0)).update s.heap.objs.size (ty_ (·++(ps.map fun p=>Value.ref p.1).toArray)):=⟨_,rfl⟩
 have hkk:∀ b o,s.heap.get? b=some o->h1.get? b=some o:=fun b o eb=>by
  rw[hh1]
  exact(q0_ _ _ (td_ (qg_ (p2_ eb)))).trans (pi_ _ eb)
 have hoL:(h1.push (seqObj "list" (ps.map fun p=>Value.ref p.1).toArray 0)).get? h1.objs.size=some (seqObj "list" (ps.map fun p=>Value.ref p.1).toArray 0):=px_ _ rfl
 rw[<- hh1]
 show wpAny _ _ _ _ _ { s with heap:=h1.push (seqObj "list" (ps.map fun p=>Value.ref p.1).toArray 0) }
 have hT1:PatAt X.prog X.w (h1.push (seqObj "list" (ps.map fun p=>Value.ref p.1).toArray 0)) ps:=hT.mono fun b o e1 _=>pi_ _ (hkk _ _ e1)
 refine wpAny_bind (wpAny_holding (wpAny_call_entry slot_list_sort ⟨_,hoL,rfl⟩ entry_list_sort (jpf_ (s:={ s with heap:=h1.push (seqObj "list" (ps.map fun p=>Value.ref p.1).toArray 0) }) (by first | (show X.A.units+1+4 < cLine;omega) | (show X.A.units+1+1+4 < cLine;omega) | (show X.A.units+1+1+1+4 < cLine;omega)) hoL hT1 (by omega) h4 fun qs a1 a2=>⟨_,rfl,?_⟩) (args_list_sort _)))
 refine wpAny_pure ⟨_,rfl,?_⟩
 obtain⟨ep,he⟩:=sortedHeap_at (out:=(qs.map fun p=>Value.ref p.1).toArray) hoL
 have I1:Inv X pins σ H { s with heap:=h1,toks:=s.toks }:=I.kept (t':=s.toks) hkk
 have hol:qs.length=ps.length:=a1.length_eq
 refine⟨.ref h1.objs.size,_,I1.laid (t':=s.toks) (fun b o eb=>jhz_ eb) (pm_ _) (show ObjOk X.prog X.w _ _ _ (.lst (qs.map fun p=>V.ref p.1)) from ⟨by rw[pb_];omega,qs.map fun p=>Value.ref p.1,ep,jhx_ qs,he⟩),rfl,q _ _ (I1.hok.fresh (pm_ _)) a1 a2⟩
end
end L2
namespace L2
open PySem PySem.Spec PyProof.Rows
section
variable {X:Cx}{tg:Expr}
end
section
variable {X:Cx}
end
end L2
namespace L2
open PySem PySem.Spec PyProof.Rows
def RawD (h:Heap)(a:Addr)(ks:List Value)(ep:Nat):Prop:=∃ o es,h.get? a=some o/\o.ExactDict/\o.data=.dict es ep/\es.toList.map (·.key)=ks
theorem RawD.typeIs {s:Shared}{a:Addr}{ks:List Value}{ep:Nat}(x:RawD s.heap a ks ep):s.TypeIs (.ref a) "dict":=let ⟨o,_,ho,hc,_⟩:=x;⟨o,ho,hc.1⟩
section
variable {prog:Program}{w:World}{A:Around}{E:Value->Shared->Prop}{s:Shared}{it d:Addr}{ks:List Value}{i ep:Nat}
theorem jtx_ {Q:Value->Shared->Prop}(hd:(d == sysModules)=false)(hm:RawD s.heap d ks ep)
  (hQ:Q (.ref s.heap.objs.size) { s with heap:=s.heap.push { cls:=.type "dict_keyiterator",data:=.fields #[.ref d,.int 0 0,.int ks.length 0,.int ep 0] } }):wpAny (model prog w) A (pyIter (.ref d)) Q E s:=by
 have hT:=hm.typeIs
 obtain⟨o,es,ho,hc,hdat,hp⟩:=hm
 have hsz:es.size=ks.length:=by rw[<- hp];simp
 refine wpAny_pyIter_slot hT F.slot_dict_iter (wpAny_call_entry F.slot_dict_iter hT F.entry_dict_iter ?_ (F.args_dict_iter_1 _))
 unfold Builtin.«dict.__iter__» Builtin.Dict.dictSlotNone
 refine wpAny_bind (wpAny_bind (wpAny_notOrdered_dict hT (wpAny_pure ?_)))
 show wpAny _ _ (lk_ d >>= _) _ _ s
 unfold lk_
 rw[if_neg (by rw[hd];exact pk_)]
 refine wpAny_bind (wpAny_pure (wpAny_bind (wpAny_dictEntries ho hdat (wpAny_bind (wpAny_dictEpoch ho hdat ?_)))))
 refine wpAny_bind (wpAny_newObj_type (wpAny_pure ⟨_,rfl,"dict_keyiterator",_,⟨_,px_ _ rfl,rfl⟩,rl_.lookup,?_⟩))
 simpa [rawInt,hsz] using hQ
theorem jur_ {Q:Option Value->Shared->Prop}(hit:s.heap.IsKeyIter it d i ks.length ep)(hm:RawD s.heap d ks ep)(hi:i < ks.length)
  (hQ:∀ h',h'.IsKeyIter it d (i+1) ks.length ep->qx_ it s.heap h'->Q (some ks[i]) { s with heap:=h' }):wpAny (model prog w) A (pyNext (.ref it)) Q E s:=by
 obtain⟨o,ho,hc,hd⟩:=id hit
 obtain⟨od,es,hod,hcd,hdd,hp⟩:=hm
 have hsz:es.size=ks.length:=by rw[<- hp];simp
 have hlt:i < es.size:=by rw[hsz];exact hi
 have hkey:es[i].key=ks[i]:=by
  have h1:(es.toList.map (·.key))[i]?=ks[i]?:=by rw[hp]
  rw[pf_,pa_ (by simpa using hlt),pa_ hi] at h1
  simpa using h1
 unfold pyNext
 refine wpAny_bind (wpAny_attempt (wpAny_callSpecial?_slot (name:=q2_ "__next__") hit.typeIs rl_
  (wpAny_call_entry rl_ hit.typeIs we_ ?_ (wa_ _))))
 refine wpAny_bind (wpAny_pure (wpAny_bind (wpAny_bind ?_)))
 first | refine wpAny_bind (wpAny_typeNameOfWhole_keyiter hit.typeIs (wpAny_pure ?_)) | refine wpAny_bind (wpAny_typeNameOf_keyiter hit.typeIs (wpAny_pure ?_))
 refine wpAny_bind (wpAny_fieldsOf ho hd ?_)
 simp only[show wo_ "dict_keyiterator"=false by decide,p4_,if_false]
 show wpAny _ _ (if (Value.ref d == Value.none)=true then _ else _) _ _ s
 rw[if_neg (show ¬ ((Value.ref d == Value.none)=true) from pk_)]
 refine wpAny_bind (wpAny_pure (wpAny_bind (wpAny_dictEntries hod hdd ?_)))
 rw[if_neg (by rw[hsz];simp)]
 refine wpAny_bind (wpAny_pure (wpAny_bind (wpAny_dictEpoch hod hdd ?_)))
 rw[if_neg (by simp)]
 refine wpAny_pure ?_
 simp only[show ¬ ((i:Int) < 0) from by omega,if_false,sr_,w9_ hlt]
 refine wpAny_bind ?_
 first | refine wpAny_bind (wpAny_typeNameOfWhole_keyiter hit.typeIs (wpAny_pure ?_)) | refine wpAny_bind (wpAny_typeNameOf_keyiter hit.typeIs (wpAny_pure ?_))
 refine wpAny_bind (wpAny_isOneOf_keyiter hit.typeIs ?_)
 show wpAny _ _ (setField (.ref it) 1 (rawInt ((i:Int)+1)) >>= _) _ _ s
 refine wpAny_bind (wpAny_setField ho hd (by simp) ?_)
 have hit':(s.heap.update it (Obj.mapFields (·.setIfInBounds 1 (rawInt ((i:Int)+1))))).IsKeyIter it d (i+1) ks.length ep :=
  ⟨_,rx_ _ ho (lg_ (tm_ hd _)),(Obj.cls_mapFields ..).trans hc,by rw[tm_ hd];simp[rawInt]⟩
 refine wpAny_bind (wpAny_holding ?_)
 refine wpAny_bind (wpAny_isOneOf_keyiter (s:={ s with heap:=s.heap.update it (Obj.mapFields (·.setIfInBounds 1 (rawInt ((i:Int)+1)))) }) hit'.typeIs ?_)
 show wpAny _ _ (pure es[i].key) _ _ _
 rw[hkey]
 exact wpAny_pure (wpAny_pure ⟨_,rfl,wpAny_pure (hQ _ hit' (rv_ ..))⟩)
theorem jzm_ {Q:Option Value->Shared->Prop}(hh:A.handled=none)(hit:s.heap.IsKeyIter it d i ks.length ep)(hm:RawD s.heap d ks ep)(hi:ks.length<=i)
  (hQ:∀ h',Heap.ExtBut it s.heap h'->Q none { s with heap:=h' }):wpAny (model prog w) A (pyNext (.ref it)) Q E s:=by
 obtain⟨o,ho,hc,hd⟩:=id hit
 obtain⟨od,es,hod,hcd,hdd,hp⟩:=hm
 have hsz:es.size=ks.length:=by rw[<- hp];simp
 unfold pyNext
 refine wpAny_bind (wpAny_attempt (wpAny_callSpecial?_slot (name:=q2_ "__next__") hit.typeIs rl_
  (wpAny_call_entry rl_ hit.typeIs we_ ?_ (wa_ _))))
 refine wpAny_bind (wpAny_pure (wpAny_bind (wpAny_bind ?_)))
 first | refine wpAny_bind (wpAny_typeNameOfWhole_keyiter hit.typeIs (wpAny_pure ?_)) | refine wpAny_bind (wpAny_typeNameOf_keyiter hit.typeIs (wpAny_pure ?_))
 refine wpAny_bind (wpAny_fieldsOf ho hd ?_)
 simp only[show wo_ "dict_keyiterator"=false by decide,p4_,if_false]
 show wpAny _ _ (if (Value.ref d == Value.none)=true then _ else _) _ _ s
 rw[if_neg (show ¬ ((Value.ref d == Value.none)=true) from pk_)]
 refine wpAny_bind (wpAny_pure (wpAny_bind (wpAny_dictEntries hod hdd ?_)))
 rw[if_neg (by rw[hsz];simp)]
 refine wpAny_bind (wpAny_pure (wpAny_bind (wpAny_dictEpoch hod hdd ?_)))
 rw[if_neg (by simp)]
 refine wpAny_pure ?_
 have hge:es.size<=i:=by rw[hsz];exact hi
 simp only[show ¬ ((i:Int) < 0) from by omega,if_false,sr_,Array.getElem?_eq_none hge]
 refine wpAny_bind ?_
 first | refine wpAny_bind (wpAny_typeNameOfWhole_keyiter hit.typeIs (wpAny_pure ?_)) | refine wpAny_bind (wpAny_typeNameOf_keyiter hit.typeIs (wpAny_pure ?_))
 show wpAny _ _ (setField (.ref it) 0 .none >>= _) _ _ s
 refine wpAny_bind (wpAny_setField ho hd (by simp) ?_)
 show wpAny _ _ (newExc (.type "StopIteration") [] >>= _) _ _ _
 refine wpAny_bind ?_
 simp only[newExc,newTuple]
 refine wpAny_bind (wpAny_newObj_type ?_ (by size_fits))
 refine wpAny_bind (m:=firstArgMember _ _) (wpAny_of_eq (a:=Value.none) (by first | rfl | (simp only[firstArgMember];rfl)) ?_)
 refine wpAny_newObj_type ?_ (by size_fits)
 simp only[raiseNew]
 refine wpAny_bind (wpAny_handled ?_)
 rw[show A.in1.handled=none from hh]
 refine wpAny_bind (wpAny_pure (wpAny_throw ?_))
 refine wpAny_bind (wpAny_isInstance (T:="StopIteration") (b:=true) ⟨_,px_ _ rfl,rfl⟩ isSubtype_stop ?_)
 exact wpAny_pure (hQ _ (((rv_ ..).extBut.push _).push _))
end
section
variable {K:Type} [DecidableEq K] {N:OwnKind K}
theorem KX.keys {kvs:List (K×Addr×V)}{xs:List (K×Addr×Value)}(r:KX kvs xs):xs.map (fun x=>Value.ref x.2.1)=kvs.map fun e=>Value.ref e.2.1:=by
 unfold KX at r
 induction r with
 | nil=>rfl
 | cons h t ih=>rw[pr_,pr_,ih,h.2.1]
theorem jya_ {P:Program}{w:World}{H:Hp}{h:Heap}{a:Addr}{kvs:List (K×Addr×V)}(ok:HOk P w H h)(e:Rd H a (DX N P w a kvs))(hK:KO N H kvs):kvs.length<=sizeLine/\(a == sysModules)=false/\∃ ep,RawD h a (kvs.map fun e=>Value.ref e.2.1) ep:=by
 obtain⟨z,hd,xs,rel,o,es,ep,h1,h2,h3,h4,_,_⟩:=jga_ ok e hK
 refine⟨z,hd,ep,o,es,h1,h2,h3,?_⟩
 rw[h4,qy_,<- rel.keys]
 rfl
noncomputable def Itx (N:OwnKind K)(P:Program)(w:World)(a:Addr)(o:Obj)(kvs:List (K×Addr×V)):It where
 go i H:=H a=some (.frz o (DX N P w a kvs))/\i < kvs.length
 yld i H x H':=H'=H/\∃ e,kvs[i]?=some e/\x=.ref e.2.1
 stop i H:=H a=some (.frz o (DX N P w a kvs))/\kvs.length<=i
theorem jvo_ {P:Program}{w:World}{F:pc_}{tg:Expr}{a it:Addr}{o:Obj}{kvs:List (K×Addr×V)}{ep:Nat}(hat:∀ h:Heap,h.get? a=some o->RawD h a (kvs.map fun e=>Value.ref e.2.1) ep) :
  Turn P w F tg (Itx N P w a o kvs) [it] it (fun i h=>h.IsKeyIter it a i (kvs.map fun e=>Value.ref e.2.1).length ep) where
 mem:=by simp
 obj:=fun i h st b hb=>by
  have e:b=it:=by simpa using hb
  subst e
  obtain⟨ob,ho,hc,hd⟩:=st
  exact⟨ob,ho,fun v z=>by rw[hd] at z;cases z⟩
 keep:=fun i h h' st k=>st.at fun ob e=>k it (by simp) ob e
 item:=by
  intro X hP hw hK hc i pins s σ H E I hf st hg
  subst hP hw hK
  obtain⟨f0,f1,f2,f3,f4,f5⟩:=hf it (by simp)
  have ha:s.heap.get? a=some o:=(I.hok a _ hg.1).1
  have hi:i < kvs.length:=hg.2
  refine jur_ st (hat _ ha) (by rw[pb_];exact hi) fun h' st' sb=>?_
  have I1:Inv X pins σ H { s with heap:=h' }:=I.turned (t':=s.toks) (fun b ob hb e=>(sb.2 b hb).trans e) f0 f1 f3 f4 f5
  obtain⟨ob,e,c,d⟩:=id st'
  refine⟨_,rfl,jdj_ (s:={ s with heap:=h' }) e c d (by decide) ⟨.ref (kvs[i]'hi).2.1,H,I1,?_,⟨rfl,kvs[i]'hi,pa_ hi,rfl⟩,st',fun b hb=>(hf b hb).1⟩⟩
  rw[List.getElem_map];rfl
 done:=by
  intro X hP hw hK hc i pins s σ H E I hf st hg
  subst hP hw hK
  obtain⟨f0,f1,f2,f3,f4,f5⟩:=hf it (by simp)
  have ha:s.heap.get? a=some o:=(I.hok a _ hg.1).1
  exact jzm_ (I.ok.hd hc) st (hat _ ha) (by rw[pb_];exact hg.2) fun h' eb=>⟨rfl,I.turned (t':=s.toks) (fun b ob hb e=>eb b ob hb e) f0 f1 f3 f4 f5⟩
 self:=fun _ _ _ _ _ st h=>wpAny_pyIter_keyiter st h
def jjq_ (N:OwnKind K)(P:Program)(w:World)(tl:TE):TI:=fun σ H R=>tl σ H fun x H1=>∃(a:Addr) (kvs:List (K×Addr×V)),x=.ref a/\H1 a=some (DX N P w a kvs)/\KO N H1 kvs/\∀ o,R (Itx N P w a o kvs) (upd H1 a (.frz o (DX N P w a kvs)))
theorem jtu_ {X:Cx}{tg l:Expr}{tl:TE}(hl:PE X l tl):PI X tg l (jjq_ N X.prog X.w tl):=by
 intro pins s σ H R I h
 refine thn (hl pins s σ H _ I h) fun v s1 ⟨x,H1,I1,r1,q1⟩=>?_
 obtain⟨a,kvs,rfl,e,hK,q⟩:=q1
 cases r1
 obtain⟨z,hd,ep,o,es,ho,r⟩:=jya_ I1.hok (.inl e) hK
 have hat:∀ h:Heap,h.get? a=some o->RawD h a (kvs.map fun e=>Value.ref e.2.1) ep:=fun h e=>⟨o,es,e,r⟩
 have I2:Inv X pins σ (upd H1 a (.frz o (DX N X.prog X.w a kvs))) { s1 with heap:=s1.heap,toks:=s1.toks } :=
  I1.write (x:=a) (e:=a) (by rw[e];exact True.intro) (.inl rfl) (fun b u _ q=>q) ⟨_,ho⟩ ⟨ho,(I1.hok a _ e).stay (fun b u _ q=>q) (fun b q=>by rw[jh_ (jja_ q e (by intro z;cases z))];exact q) fun b xs q=>by rw[jh_ (jja_ q e (by intro z;cases z))];exact q⟩
 have hn:∀ b,s1.heap.objs.size<=b->(upd H1 a (.frz o (DX N X.prog X.w a kvs))) b=none:=fun b hb=>I2.hok.fresh hb
 refine jtx_ hd (hat _ ho) ?_
 refine⟨s1.heap.objs.size,[s1.heap.objs.size],_,_,upd H1 a (.frz o (DX N X.prog X.w a kvs)),rfl,I2.kept (t':=s1.toks) fun b o e=>pi_ _ e,jvo_ hat,⟨_,px_ _ rfl,rfl,rfl⟩,fun b hb=>?_,q o⟩
 have e:b=s1.heap.objs.size:=by simpa using hb
 subst e
 exact I2.fpOk (pm_ _) (hn _ (pm_ _))
end
end L2
namespace L2
open PySem PySem.Spec PyProof.Rows
section
variable {X:Cx}{pins:List (Addr×Obj)}{σ:St}{H:Hp}{s:Shared}{a:Addr}{u r:Value}{A:Around}{E:Value->Shared->Prop}
end
section
variable {X:Cx}{o e f:Expr}{apos cpos:Pos}{td ty tx:TE}
end
end L2
namespace L2
open PySem PySem.Spec PyProof.Rows
section
variable {X:Cx}
end
end L2
namespace L2
open PySem PySem.Spec PyProof.Rows
section
variable {prog:Program}{w:World}{A:Around}{E:Value->Shared->Prop}{s:Shared}
end
section
variable {X:Cx}{tg:Expr}
end
end L2
namespace L2
open PySem PySem.Spec PyProof.Rows
noncomputable def ints?:List V->Option (List Int)
 | []=>some []
 | .int i::r=>(ints? r).map (i::·)
 | _=>none
theorem ints?_of:∀{xs:List V}{ns:List Int},ints? xs=some ns->xs=ns.map V.int
 | [],ns,h=>by cases h;rfl
 | x::r,ns,h=>by
  cases x with
  | int i =>
   simp only[ints?,ts_] at h
   obtain⟨l,hl,rfl⟩:=h
   rw[ints?_of hl];rfl
  | _=>simp[ints?] at h
theorem ints?_map:∀ ns:List Int,ints? (ns.map V.int)=some ns
 | []=>rfl
 | n::ns=>by simp only[pr_,ints?,ints?_map ns];rfl
def jqu_ (le:Int->Int->Prop):List V->Hp->VK->Prop:=fun xs H Q=>match xs with
 | [.ref p]=>(match tupR H p with
  | some ys=>(match ints? ys with
   | some ns=>ns≠[]/\∀ m,m∈ns->(∀ n∈ns,le n m)->Q (.int m) H
   | none=>False)
  | none=>False)
 | _=>False
theorem jyi_ {le:Int->Int->Prop}{H:Hp}{Q:VK}{p:Addr}{ns:List Int}(h:H p=some (.tup (ns.map V.int)))(h0:ns≠[])(q:∀ m,m∈ns->(∀ n∈ns,le n m)->Q (.int m) H):jqu_ le [.ref p] H Q:=by
 have e:tupR H p=some (ns.map V.int):=by unfold tupR;rw[h]
 show match tupR H p with | some ys=>(match ints? ys with | some ns=>_ | none=>False) | none=>False
 rw[e]
 show match ints? (ns.map V.int) with | some ns=>_ | none=>False
 rw[ints?_map]
 exact⟨h0,q⟩
section
variable {X:Cx}
theorem jyo_ (hc:X.calm=true):CallR X (.builtin "max") (jqu_ (·<=·)):=by
 intro pins s σ H xs us Q I r h
 unfold jqu_ at h
 split at h
 ·rename_i p
  split at h
  ·rename_i ys e
   split at h
   ·rename_i ns en
    obtain⟨h0,q⟩:=h
    obtain⟨u,rfl,ru⟩:=ug_ r
    cases ru
    obtain⟨its,rv,pl,hz⟩:=I.tuple (jcj_ e)
    rw[ints?_of en] at rv
    have hlen:=rv.length
    rw[pb_] at hlen
    have hlt:p < s.heap.objs.size:=by obtain⟨o,ho,_⟩:=pl;exact p2_ ho
    have hval:∀(i:Nat) (v:Value),its.toArray[i]?=some v->∃ t,v=.int (ns.getD i 0) t:=fun i v hv=>by
     have hv':its[i]?=some v:=by simpa using hv
     have hil:i < its.length:=(pj_.mp hv').1
     obtain⟨w',hw,t,rfl⟩:=rv.get (i:=i) (x:=V.int (ns.getD i 0)) (by rw[pf_];simp[pd_,show i < ns.length by omega])
     rw[hv'] at hw
     cases hw
     exact⟨t,rfl⟩
    have hpos:0 < ns.length:=tf_.mpr h0
    refine call_max_walk (wpAny_pyIter_tuple pl ?_)
    refine⟨s.heap.objs.size,_,_,_,_,_,_,rfl,Walks.tuple (A:=X.A.in1) (show X.A.in1.handled=none from I.ok.hd hc) s.heap.objs.size p (qg_ hlt) its.toArray,⟨⟨_,px_ _ rfl,rfl,rfl⟩,?_⟩,?_,?_,CmpOf.ints_gt (fun i=>ns.getD i 0) hval,fun v h' tk hv k=>?_⟩
    ·obtain⟨o,ho,q⟩:=pl
     exact⟨o,pi_ _ ho,q⟩
    ·intro b hb
     have hs:(s.heap.push { cls:=.type "tuple_iterator",data:=.fields #[.ref p,.int 0 0] }).objs.size=s.heap.objs.size+1:=r1_ ..
     show b < (s.heap.push _).objs.size
     rw[hs]
     rcases p6_.mp hb with z | z
     ·rw[z];exact sw_ _
     ·have z':b=p:=by simpa using z
      rw[z'];exact t0_ hlt
    ·rw[pp_];omega
    ·obtain⟨t,rfl⟩:=hval _ _ hv
     rw[pp_]
     obtain⟨b1,b2⟩:=argBest_gt (fun i=>ns.getD i 0) (its.length - 1)
     have I1:Inv X pins σ H { s with heap:=s.heap.push { cls:=.type "tuple_iterator",data:=.fields #[.ref p,.int 0 0] },toks:=s.toks }:=I.kept fun b u q=>pi_ _ q
     have f1:=I.fpOk (H':=H) (b:=s.heap.objs.size) (pm_ _) (I.hok.fresh (pm_ _))
     refine⟨.int _,H,I1.turned (t':=tk) (it:=s.heap.objs.size) (fun b o hb q=>k b o (by simpa using hb) q) f1.1 f1.2.1 f1.2.2.2.1 f1.2.2.2.2.1 f1.2.2.2.2.2,⟨_,rfl⟩,q _ ?_ fun n hn=>?_⟩
     ·rw[pd_,pa_ (show argBest _ _ < ns.length by omega)]
      exact ps_ _
     ·obtain⟨j,hj,rfl⟩:=tg_ hn
      have:=b2 j (by omega)
      rw[pd_ (i:=j),pa_ hj] at this
      exact this
   ·exact h.elim
  ·exact h.elim
 ·exact h.elim
end
end L2
namespace L2
open PySem
end L2
namespace L2
open PySem PySem.Spec PyProof.Rows
noncomputable def Itw (K:pc_)(a:Addr)(xs:List V):It :=
 ⟨fun i H=>SqL K H a xs/\i < xs.length,fun i H x H'=>H'=H/\xs.reverse[i]?=some x,fun i _=>xs.length<=i⟩
theorem jqr_ {P:Program}{w:World}{K:pc_}{tg:Expr}(a it:Addr)(xs:List V):Turn P w K tg (Itw K a xs) [it] it (fun i h=>h.IsRevIter it a ((xs.length:Int) - 1 - (i:Int))/\i<=xs.length) where
 mem:=by simp
 obj:=fun i h st b hb=>by
  have e:b=it:=by simpa using hb
  subst e
  obtain⟨⟨o,e,c,d⟩,_⟩:=st
  exact⟨o,e,fun v z=>by rw[d] at z;cases z⟩
 keep:=fun i h h' st k=>⟨st.1.at fun o e=>k it (by simp) o e,st.2⟩
 item:=by
  intro X hP hw hK hc i pins s σ H E I hf st hg
  subst hP hw hK
  obtain⟨hq,hi⟩:=hg
  obtain⟨its,rv,p,hz⟩:=I.list hq
  have hl:=rv.length
  obtain⟨x,hx⟩:∃ x,xs[xs.length - 1 - i]?=some x:=⟨_,pa_ (by omega)⟩
  obtain⟨u,hu,ru⟩:=rv.get hx
  obtain⟨f0,f1,f2,f3,f4,f5⟩:=hf it (by simp)
  have st1:s.heap.IsRevIter it a ((xs.length - 1 - i:Nat):Int):=by rw[show ((xs.length - 1 - i:Nat):Int)=(xs.length:Int) - 1 - (i:Int) by omega];exact st.1
  refine wpAny_pyNext_rev_item st1 p.isList (x:=u) (by simpa using hu) fun h' st' sb=>?_
  have I1:Inv X pins σ H { s with heap:=h',toks:=s.toks }:=I.turned (t':=s.toks) (fun b o hb e=>(sb.2 b hb).trans e) f0 f1 f3 f4 f5
  obtain⟨o,e,c,d⟩:=id st'
  refine⟨u,rfl,jdj_ (s:={ s with heap:=h',toks:=s.toks }) e c d (by decide) ⟨x,H,I1,ru,⟨rfl,?_⟩,?_,fun b hb=>(hf b hb).1⟩⟩
  ·rw[wb_ hi];exact hx
  ·refine⟨?_,hi⟩
   show h'.IsRevIter it a ((xs.length:Int) - 1 - ((i+1:Nat):Int))
   rw[show (xs.length:Int) - 1 - ((i+1:Nat):Int)=((xs.length - 1 - i:Nat):Int) - 1 by omega]
   exact st'
 done:=by
  intro X hP hw hK hc i pins s σ H E I hf st hg
  subst hP hw hK
  have hg':xs.length<=i:=hg
  have hii:i=xs.length:=Nat.le_antisymm st.2 hg'
  obtain⟨f0,f1,f2,f3,f4,f5⟩:=hf it (by simp)
  have st1:s.heap.IsRevIter it a (-1):=by rw[show (-1:Int)=(xs.length:Int) - 1 - (i:Int) by omega];exact st.1
  exact wpAny_pyNext_rev_end (I.ok.hd hc) st1 fun h' eb=>⟨rfl,I.turned (t':=s.toks) (fun b o hb e=>eb b o hb e) f0 f1 f3 f4 f5⟩
 self:=fun _ _ _ _ _ st h=>wpAny_pyIter_revIter st.1 h
section
variable {X:Cx}{tg:Expr}
def jws_ (K:pc_)(ta:TE):TI:=fun σ H R=>ta σ H fun x H1=>∃ a xs,x=.ref a/\SqL K H1 a xs/\R (Itw K a xs) H1
theorem jqd_ {K:pc_}{ta:TE}{σ:St}{H:Hp}{R:It->Hp->Prop}(h:ta σ H fun x H1=>∃ a xs,x=.ref a/\SqL K H1 a xs/\R (Itw K a xs) H1):jws_ K ta σ H R:=h
theorem juv_ {K:pc_}(hK:X.K=K){a:Expr}{ta:TE}{p pos:Pos}(hg:Gl X "reversed")(hm:X.mg "reversed"=none)(ha:PE X a ta)(hs:starEach [a] X.env=[(false,eval a X.env)]:=by rfl) :
  PI X tg (.Call (.Name "reversed" p) [a] [] pos) (jws_ K ta):=by
 subst hK
 intro pins s σ H R I h
 refine Call_ (x8_ I hg hm (by decide +kernel:bootBuiltins "reversed"=some (.type "reversed")) (rm_ ?_ hs rfl))
 rw[hs]
 show wpAny _ _ (spliced ((false,eval a X.env)::[])) _ _ s
 refine rn_ (thn (ha pins s σ H _ I h) fun u s1 ⟨x,H1,I1,ru,q1⟩=>sm_ ?_)
 obtain⟨l,xs,rfl,hl,q⟩:=q1
 cases ru
 obtain⟨its,rv,p,hz⟩:=I1.list hl
 have hlen:=rv.length
 refine call_reversed_list p.isList ?_
 have st0:(s1.heap.push (revObj l ((its.toArray.size:Int) - 1))).IsRevIter s1.heap.objs.size l ((its.toArray.size:Int) - 1):=⟨_,px_ _ rfl,rfl,rfl⟩
 refine wpAny_pyIter_revIter st0 ?_
 refine⟨s1.heap.objs.size,[s1.heap.objs.size],_,_,H1,rfl,I1.kept (t':=s1.toks) fun b o e=>pi_ _ e,jqr_ l _ xs,⟨?_,qj_ _⟩,fun b hb=>?_,q⟩
 ·show Heap.IsRevIter _ _ _ ((xs.length:Int) - 1 - ((0:Nat):Int))
  rw[show (xs.length:Int) - 1 - ((0:Nat):Int)=((its.toArray.size:Nat):Int) - 1 by simp only[pp_];omega]
  exact st0
 ·have e:b=s1.heap.objs.size:=by simpa using hb
  subst e
  exact I1.fpOk (pm_ _) (I1.hok.fresh (pm_ _))
end
theorem jrt_ {K:pc_}{a:Addr}{xs:List V}{g:TG}{tb:TS}{D:Ends}{σ:St}{H:Hp}(Pv:Nat->St->Hp->Prop)(h0:Pv 0 σ H)(hok:∀ i σ H,i<=xs.length->Pv i σ H->SqL K H a xs)
  (hs:∀ i v σ H,xs.reverse[i]?=some v->Pv i σ H->g v σ H fun σ2 H2=>tb { D with nx:=Pv (i+1),ct:=Pv (i+1),bk:=D.nx } σ2 H2) (hd:∀ σ H,Pv xs.length σ H->D.nx σ H) :
  ∃ W:Nat->Nat->St->Hp->Prop,(∃ m,W 0 m σ H)/\∀ i m σ H,W i m σ H ->
   ((Itw K a xs).stop i H/\D.nx σ H)∨((Itw K a xs).go i H/\∃ N:St->Hp->Prop,(∀ σ' H',N σ' H'->∃ m',m' < m/\W (i+1) m' σ' H')/\∀ x H',(Itw K a xs).yld i H x H'->g x σ H' fun σ2 H2=>tb { D with nx:=N,ct:=N,bk:=D.nx } σ2 H2):=by
 refine⟨fun i m σ H=>m=xs.length - i/\i<=xs.length/\Pv i σ H,⟨xs.length,by simp,qj_ _,h0⟩,fun i m σ' H' w=>?_⟩
 obtain⟨rfl,hi,p⟩:=w
 have ho:=hok i σ' H' hi p
 by_cases hlt:i < xs.length
 ·refine .inr ⟨⟨ho,hlt⟩,Pv (i+1),fun σ2 H2 p'=>⟨xs.length - (i+1),by omega,rfl,hlt,p'⟩,fun x H2 y=>?_⟩
  obtain⟨rfl,hv⟩:=y
  exact hs i x σ' H2 hv p
 ·have e:i=xs.length:=by omega
  exact .inl ⟨by show xs.length<=i;omega,hd σ' H' (e▸p)⟩
section
variable {X:Cx}
end
end L2
namespace L2
open PySem PySem.Spec PyProof.Rows
section
variable {K:Type} [DecidableEq K] {N:OwnKind K}{X:Cx}
theorem Inv.thawX {pins:List (Addr×Obj)}{σ:St}{H:Hp}{s:Shared}{a:Addr}{o:Obj}{φ:Heap->Prop}(I:Inv X pins σ H s)(e:H a=some (.frz o (.ext φ)))(h0:∀ o u,X.H₀ a≠some (.frz o u)):Inv X pins σ (upd H a (.ext φ)) s:=by
 have ne:∀ b,H b=none->b≠a:=fun b q z=>by rw[z,e] at q;cases q
 refine⟨I.ok,I.os,I.bare,⟨I.base.keep,I.base.slot,fun b ob q n hx=>?_,I.base.there,fun b xs q=>?_,fun b ob u q=>?_,fun b ps q=>?_⟩,I.loc,I.cell,?_,fun x c q=>?_,fun p hp=>?_,fun b ob q=>?_,I.len⟩
 ·have:=I.base.free b ob q n hx
  rw[jh_ (ne b this)];exact this
 ·have:=I.base.tups b xs q
  rw[jh_ (fun z=>by rw[z,e] at this;cases this)];exact this
 ·have:=I.base.frzs b ob u q
  rw[jh_ (fun z=>h0 _ _ (z▸q))];exact this
 ·obtain⟨more,this⟩:=I.base.tbls b ps q
  exact⟨more,by rw[jh_ (fun z=>by rw[z,e] at this;cases this)];exact this⟩
 ·rw[jh_ (ne _ I.free)];exact I.free
 ·rw[jh_ (ne _ (I.freeC x c q))];exact I.freeC x c q
 ·obtain⟨p1,p2,p3⟩:=I.pin p hp
  exact⟨p1,by rw[jh_ (ne _ p2)];exact p2,p3⟩
 ·have st:∀{u:HO},ObjOk X.prog X.w H s.heap b u->ObjOk X.prog X.w (upd H a (.ext φ)) s.heap b u:=fun x=>x.stay (fun _ _ _ q=>q) (fun c q=>by rw[jh_ (jja_ q e (by intro z;cases z))];exact q) fun c xs q=>by rw[jh_ (jja_ q e (by intro z;cases z))];exact q
  by_cases hb:b=a
  ·subst hb
   rw[jb_] at q
   cases q
   exact st (I.hok b _ e).2
  ·rw[jh_ hb] at q
   exact st (I.hok b ob q)
def jkn_ (H₀:Hp)(t:TS):TS:=fun D σ H=>∃(a:Addr) (φ:Heap->Prop),(∀ o u,H₀ a≠some (.frz o u))/\t { D with nx:=fun σ' H'=>(∃ o,H' a=some (.frz o (.ext φ)))/\D.nx σ' (upd H' a (.ext φ)) } σ H
theorem jtr_ {st:Stmt}{t:TS}(h:PS X st t):PS X st (jkn_ X.H₀ t):=by
 intro pins s σ H D I ⟨a,φ,h0,q⟩
 refine thn (h pins s σ H _ I q) fun f s1 z=>?_
 cases f with
 | next =>
  obtain⟨σ',H',I',⟨o,e⟩,q'⟩:=z
  exact⟨σ',_,I'.thawX e h0,q'⟩
 | brk=>exact z
 | cont=>exact z
 | ret u=>exact z
def jmp_ (H₀:Hp)(t:TE):TE:=fun σ H Q=>∃(a:Addr) (φ:Heap->Prop),(∀ o u,H₀ a≠some (.frz o u))/\t σ H fun x H'=>(∃ o,H' a=some (.frz o (.ext φ)))/\Q x (upd H' a (.ext φ))
theorem jqe_ {e:Expr}{t:TE}{H₀:Hp}(h:PE X e t)(hH:X.H₀=H₀:=by rfl):PE X e (jmp_ H₀ t):=by
 subst hH
 intro pins s σ H Q I ⟨a,φ,h0,q⟩
 refine thn (h pins s σ H _ I q) fun u s1 ⟨x,H',I',rx,⟨o,e⟩,q'⟩=>?_
 exact⟨x,_,I'.thawX e h0,rx,q'⟩
theorem jsv_ {H₀:Hp}{t:TE}{Q:VK}{σ:St}{H:Hp}{P:Program}{w:World}(a:Addr)(kvs:List (K×Addr×V))(h0:∀ o u,H₀ a≠some (.frz o u))(h:t σ H fun x H'=>(∃ o,H' a=some (.frz o (DX N P w a kvs)))/\Q x (upd H' a (DX N P w a kvs))):jmp_ H₀ t σ H Q:=⟨a,_,h0,h⟩
theorem jlm_ {P:Program}{w:World}{a:Addr}{o:Obj}{kvs:List (K×Addr×V)}{p:Addr}{g:TG}{tc:TT}{te:TE}{Q:VK}{σ0:St}{H0:Hp}(Pv:Nat->List V->St->Hp->Prop)
  (hl:∀ i acc σ H,i<=kvs.length->Pv i acc σ H->H a=some (.frz o (DX N P w a kvs)))
  (h0:Pv 0 [] σ0 H0) (hp:∀ i acc σ H,Pv i acc σ H->H p=some (.lst acc)/\acc.length<=i) (hz:kvs.length<=sizeLine)
  (hs:∀ i acc σ H,i < kvs.length->Pv i acc σ H->g ((kvs.map fun e=>V.ref e.2.1).getD i .non) σ H fun σ3 H3=>tc σ3 H3 fun b H4 =>
   if b=true then te σ3 H4 fun v H5=>H5 p=some (.lst acc)/\Pv (i+1) (acc++[v]) σ3 (upd H5 p (.lst (acc++[v]))) else Pv (i+1) acc σ3 H4)
  (hd:∀ acc σ H,Pv kvs.length acc σ H->Q (.ref p) H):xe_ (Itx N P w a o kvs) p g tc te Q σ0 H0 :=
 jgc_ (J:=Itx N P w a o kvs) (n:=kvs.length) (val:=fun i=>(kvs.map fun e=>V.ref e.2.1).getD i .non) Pv
  (fun i acc σ H hi q=>⟨hl i acc σ H (s0_ hi) q,hi⟩) (fun acc σ H q=>⟨hl _ acc σ H (pm_ _) q,pm_ _⟩)
  (fun i acc σ H x _ hi q y=>⟨y.1,by
   obtain⟨kv,h1,h2⟩:=y.2
   rw[h2,pd_,pf_,h1];rfl⟩) h0 hp hz hs hd
theorem z4_ {A:Around}{k:Nat}(hr:Room k A):A.units+4 < cLine:=sz_ (Nat.add_le_add_left (by decide:4<=64) _) hr.units
theorem jmj_ {A:Around}{k:Nat}(hr:Room k A):A.units+10 < cLine:=sz_ (Nat.add_le_add_left (by decide:10<=64) _) hr.units
end
section
variable {K:Type} [DecidableEq K] {N:OwnKind K}{X:Cx}{P:Program}{w:World}{o i e f value l tg:Expr}{pos pos' apos cpos:Pos}{td ty tv tx tl tk:TE}
theorem uj_ (hP:X.prog=P)(hw:X.w=w):PE X (.Dict [] [] pos) (jso_ N P w):=by subst hP hw;exact jup_
theorem v0_ (hP:X.prog=P)(hw:X.w=w)(hu:X.A.units+4 < cLine)(ho:PE X o td)(hi:PE X i ty)(hs:NoSl i):PE X (.Subscript o i pos) (jsu_ N P w td ty):=by subst hP hw;exact jun_ hu ho hi hs
theorem px_in (hP:X.prog=P)(hw:X.w=w)(hu:X.A.units+4 < cLine)(hi:PE X i ty)(ho:PE X o td):PC X .In i o (tXIn N P w ty td):=by subst hP hw;exact jxu_ hu hi ho
theorem jdu_ (hP:X.prog=P)(hw:X.w=w)(hu:X.A.units+4 < cLine)(ho:PE X o td)(hi:PE X i ty)(hv:PE X value tv)(hs:swapsWith value (some (.Subscript o i pos')) pos.line X.env=pure false):PS X (.Assign [.Subscript o i pos'] value pos) (jtk_ N P w td ty tv):=by subst hP hw;exact jvt_ hu ho hi hv hs
theorem jgm_ (hP:X.prog=P)(hw:X.w=w)(hu:X.A.units+4 < cLine)(ho:PE X o td)(he:PE X e ty)(hf:PE X f tx)(m:M2 X o "get" apos e f cpos):PE X (.Call (.Attribute o "get" apos) [e,f] [] cpos) (jki_ N P w td ty tx):=by subst hP hw;exact jqn_ hu ho he hf m
theorem jne_ (hP:X.prog=P)(hw:X.w=w)(hl:PE X l tl):PI X tg l (jjq_ N P w tl):=by subst hP hw;exact jtu_ hl
end
section
variable {K:Type} [DecidableEq K] {N:OwnKind K}{P:Program}{w:World}{td ty tv tx:TE}{σ:St}{H:Hp}{Q:VK}
theorem ui_ (h:∀ p,H p=none->Q (.ref p) (upd H p (DX N P w p []))):jso_ N P w σ H Q:=h
theorem vt_ (h:td σ H fun x H1=>ty σ H1 fun y H2=>∃ a v,x=.ref a/\DGetX N P w H2 a y (some v)/\Q v H2):jsu_ N P w td ty σ H Q:=h
theorem jcb_ (h:td σ H fun x H1=>∃ a,x=.ref a/\IsDX N P w H1 a/\ty σ H1 fun y H2=>tx σ H2 fun z H3=>∃ o,DGetX N P w H3 a y o/\Q (o.getD z) H3):jki_ N P w td ty tx σ H Q:=h
theorem jaz_ {D:Ends}(h:tv σ H fun v H1=>td σ H1 fun x H2=>ty σ H2 fun y H3=>∃ a H4,x=.ref a/\jik_ N P w H3 a y v H4/\D.nx σ H4):jtk_ N P w td ty tv D σ H:=h
end
end L2
namespace L2
theorem vu_ {α:Type} [DecidableEq α]:∀{l1 l2:List α},l1.Nodup->l2.Nodup->(∀ a,a∈l1↔a∈l2)->l1.Perm l2
 | [],l2,_,_,h=>by
  cases l2 with
  | nil=>exact List.Perm.refl _
  | cons b l=>exact absurd ((h b).mpr pn_) (by simp)
 | a::l1,l2,h1,h2,h=>by
  have h1':=rd_.mp h1
  have ha:a∈l2:=(h a).mp pn_
  have hp:l2.Perm (a::l2.erase a):=wi_ ha
  have hn2:(a::l2.erase a).Nodup:=hp.nodup_iff.mp h2
  have hn2':=rd_.mp hn2
  refine List.Perm.trans (List.Perm.cons a (vu_ h1'.2 hn2'.2 fun b=>?_)) hp.symm
  constructor
  ·intro hb
   have:b∈a::l2.erase a:=hp.mem_iff.mp ((h b).mp (pl_ _ hb))
   rcases p6_.mp this with e | e
   ·rw[e] at hb;exact absurd hb h1'.1
   ·exact e
  ·intro hb
   have:b∈a::l1:=(h b).mpr (hp.mem_iff.mpr (pl_ _ hb))
   rcases p6_.mp this with e | e
   ·rw[e] at hb;exact absurd hb hn2'.1
   ·exact e
theorem xa_ {α β:Type}{f:α->β}{l:List α}(h:(l.map f).Nodup):l.Nodup:=tk_.imp (fun h e=>h (by rw[e])) (s5_.mp h)
theorem v3_ {α:Type} [DecidableEq α]:∀{l B:List α},l.Nodup->(∀ a∈l,a∈B)->l.length<=B.length
 | [],B,_,_=>qj_ _
 | a::l,B,hn,h=>by
  have hn:=rd_.mp hn
  have ha:=h a pn_
  have ih:=v3_ (B:=B.erase a) hn.2 fun b hb=>(List.mem_erase_of_ne (fun z:b=a=>hn.1 (by rw[<- z];exact hb))).mpr (h b (pl_ _ hb))
  have hl:=ss_ ha
  have:=tt_ ha
  rw[p3_];omega
end L2
namespace L2
open PySem PySem.Spec PyProof.Rows
noncomputable abbrev PKey:=Str×List Int
noncomputable def pk (x:List Nat×List Int):PKey:=(S x.1,x.2)
noncomputable def cnt (l:List (List Nat×List Int))(k:PKey):Nat:=(l.filter fun x=>decide (pk x=k)).length
theorem jrj_ (l:List (List Nat×List Int))(x:List Nat×List Int)(k:PKey):cnt (l++[x]) k=cnt l k+if pk x=k then 1 else 0:=by
 unfold cnt
 rw[qd_,pe_]
 congr 1
 by_cases h:pk x=k
 ·simp[h]
 ·simp[h]
theorem cnt_pos {l:List (List Nat×List Int)}{k:PKey}:cnt l k≠0↔∃ x∈l,pk x=k:=by
 unfold cnt
 rw[<- wu_,List.length_pos_iff_exists_mem]
 constructor
 ·rintro⟨x,hx⟩
  have:=py_.mp hx
  exact⟨x,this.1,of_decide_eq_true this.2⟩
 ·rintro⟨x,hx,h⟩
  exact⟨x,py_.mpr ⟨hx,decide_eq_true h⟩⟩
structure CD (H:Hp)(kvs:List (PKey×Addr×V))(l:List (List Nat×List Int)):Prop where
 ko:KO patKind H kvs
 nd:(kvs.map (·.1)).Nodup
 mem:∀ k,k∈kvs.map (·.1)↔∃ x∈l,pk x=k
 val:∀ k,valX kvs k=if cnt l k=0 then none else some (.int (cnt l k:Int))
 len:kvs.length<=l.length
theorem CD.nil {H:Hp}:CD H [] []:=⟨fun e he=>(nomatch he),by simp,fun k=>by simp,fun k=>rfl,pm_ _⟩
theorem y7_ {H H':Hp}(s:∀ b xs,H b=some (.tup xs)->H' b=some (.tup xs)){k:PKey}{b:Addr}(h:patKind.at_ H k b):patKind.at_ H' k b:=by
 obtain⟨t,h1,h2⟩:=h
 exact⟨t,s _ _ h1,s _ _ h2⟩
theorem CD.tk {H H':Hp}{kvs:List (PKey×Addr×V)}{l:List (List Nat×List Int)}(s:∀ b xs,H b=some (.tup xs)->H' b=some (.tup xs))(h:CD H kvs l):CD H' kvs l:=⟨fun e he=>y7_ s (h.ko e he),h.nd,h.mem,h.val,h.len⟩
theorem jfz_ (kvs:List (PKey×Addr×V))(k:PKey)(b:Addr)(v:V):(putX kvs k b v).map (·.1)=if k∈kvs.map (·.1) then kvs.map (·.1) else kvs.map (·.1)++[k]:=by
 have e:(kvs.any fun e=>decide (e.1=k))=true↔k∈kvs.map (·.1):=by
  rw[q4_,pq_]
  exact⟨fun⟨x,h1,h2⟩=>⟨x,h1,of_decide_eq_true h2⟩,fun⟨x,h1,h2⟩=>⟨x,h1,decide_eq_true h2⟩⟩
 unfold putX
 by_cases h:(kvs.any fun e=>decide (e.1=k))=true
 ·rw[if_pos h,if_pos (e.mp h),qy_]
  refine qz_ fun x _=>?_
  simp only[wn_]
  split <;> rfl
 ·rw[if_neg h,if_neg (fun q=>h (e.mpr q)),ph_];rfl
theorem CD.add {H:Hp}{kvs:List (PKey×Addr×V)}{l:List (List Nat×List Int)}(h:CD H kvs l){x:List Nat×List Int}{b:Addr}(hb:patKind.at_ H (pk x) b):CD H (putX kvs (pk x) b (.int ((cnt l (pk x):Int)+1))) (l++[x]):=by
 refine⟨h.ko.put hb,?_,fun k=>?_,fun k=>?_,?_⟩
 ·rw[jfz_]
  split
  ·exact h.nd
  ·rename_i hk
   exact qq_.mpr ⟨h.nd,by simp,fun a ha c hc z=>hk ((show c=pk x by simpa using hc)▸z▸ha)⟩
 ·rw[jfz_]
  constructor
  ·intro hk
   split at hk
   ·obtain⟨y,hy,e⟩:=(h.mem k).mp hk
    exact⟨y,qt_ _ hy,e⟩
   ·rcases pt_.mp hk with q | q
    ·obtain⟨y,hy,e⟩:=(h.mem k).mp q
     exact⟨y,qt_ _ hy,e⟩
    ·exact⟨x,by simp,by (have:k=pk x:=by simpa using q);rw[this]⟩
  ·rintro⟨y,hy,e⟩
   rcases pt_.mp hy with q | q
   ·have:=(h.mem k).mpr ⟨y,q,e⟩
    split
    ·exact this
    ·exact qt_ _ this
   ·have hyx:y=x:=by simpa using q
    rw[hyx] at e
    subst e
    split
    ·assumption
    ·simp
 ·rw[yf_,jrj_]
  by_cases hk:k=pk x
  ·subst hk
   rw[if_pos rfl,if_pos rfl,if_neg (by omega)]
   congr 2
  ·rw[if_neg hk,if_neg (td_ hk),Nat.add_zero,h.val]
 ·have:=zz_ kvs (pk x) b (.int ((cnt l (pk x):Int)+1))
  have:=h.len
  rw[pe_,t8_];omega
end L2
namespace L2
open PySem PySem.Spec PyProof.Rows
section
variable {K:Type} [DecidableEq K] {N:OwnKind K}
theorem jvk_ {H₀:Hp}{t:TS}{D:Ends}{σ:St}{H:Hp}{P:Program}{w:World}(a:Addr)(kvs:List (K×Addr×V))(h0:∀ o u,H₀ a≠some (.frz o u))(h:t { D with nx:=fun σ' H'=>(∃ o,H' a=some (.frz o (DX N P w a kvs)))/\D.nx σ' (upd H' a (DX N P w a kvs)) } σ H):jkn_ H₀ t D σ H:=⟨a,_,h0,h⟩
theorem jor_ {P:Program}{w:World}{a:Addr}{o:Obj}{kvs:List (K×Addr×V)}{g:TG}{tb:TS}{D:Ends}{σ:St}{H:Hp}(Pv:Nat->St->Hp->Prop)(h0:Pv 0 σ H)(hok:∀ i σ H,i<=kvs.length->Pv i σ H->H a=some (.frz o (DX N P w a kvs)))
  (hs:∀ i kv σ H,kvs[i]?=some kv->Pv i σ H->g (.ref kv.2.1) σ H fun σ2 H2=>tb { D with nx:=Pv (i+1),ct:=Pv (i+1),bk:=D.nx } σ2 H2) (hd:∀ σ H,Pv kvs.length σ H->D.nx σ H) :
  ∃ W:Nat->Nat->St->Hp->Prop,(∃ m,W 0 m σ H)/\∀ i m σ H,W i m σ H ->
   ((Itx N P w a o kvs).stop i H/\D.nx σ H)∨((Itx N P w a o kvs).go i H/\∃ N':St->Hp->Prop,(∀ σ' H',N' σ' H'->∃ m',m' < m/\W (i+1) m' σ' H')/\∀ x H',(Itx N P w a o kvs).yld i H x H'->g x σ H' fun σ2 H2=>tb { D with nx:=N',ct:=N',bk:=D.nx } σ2 H2):=by
 refine⟨fun i m σ H=>m=kvs.length - i/\i<=kvs.length/\Pv i σ H,⟨kvs.length,by simp,qj_ _,h0⟩,fun i m σ' H' w=>?_⟩
 obtain⟨rfl,hi,p⟩:=w
 have ho:=hok i σ' H' hi p
 by_cases hlt:i < kvs.length
 ·refine .inr ⟨⟨ho,hlt⟩,Pv (i+1),fun σ2 H2 p'=>⟨kvs.length - (i+1),by omega,rfl,hlt,p'⟩,fun x H2 y=>?_⟩
  obtain⟨rfl,kv,hv,rfl⟩:=y
  exact hs i kv σ' H2 hv p
 ·have e:i=kvs.length:=by omega
  exact .inl ⟨⟨ho,by omega⟩,hd σ' H' (e▸p)⟩
theorem jod_ {X:Cx}{st:Stmt}{t:TS}{H₀:Hp}(h:PS X st t)(hH:X.H₀=H₀:=by rfl):PS X st (jkn_ H₀ t):=by
 subst hH;exact jtr_ h
theorem jdz_ {kvs:List (K×Addr×V)}{k:K}{b:Addr}{v:V}:(putX kvs k b v).map (·.1)=if k∈kvs.map (·.1) then kvs.map (·.1) else kvs.map (·.1)++[k]:=by
 have e:(kvs.any fun e=>decide (e.1=k))=true↔k∈kvs.map (·.1):=by
  rw[q4_,pq_]
  exact⟨fun⟨x,h1,h2⟩=>⟨x,h1,of_decide_eq_true h2⟩,fun⟨x,h1,h2⟩=>⟨x,h1,decide_eq_true h2⟩⟩
 unfold putX
 by_cases h:(kvs.any fun e=>decide (e.1=k))=true
 ·rw[if_pos h,if_pos (e.mp h),qy_]
  refine qz_ fun x _=>?_
  simp only[wn_]
  split <;> rfl
 ·rw[if_neg h,if_neg (fun q=>h (e.mpr q)),ph_];rfl
theorem jli_ {kvs:List (K×Addr×V)}{k:K}{b:Addr}{v:V}(h:(kvs.map (·.1)).Nodup):((putX kvs k b v).map (·.1)).Nodup:=by
 rw[jdz_]
 split
 ·exact h
 ·rename_i hk
  exact qq_.mpr ⟨h,by simp,fun a ha c hc z=>hk ((show c=k by simpa using hc)▸z▸ha)⟩
theorem mem_keys_putX {kvs:List (K×Addr×V)}{k j:K}{b:Addr}{v:V}:j∈(putX kvs k b v).map (·.1)↔j=k∨j∈kvs.map (·.1):=by
 rw[jdz_]
 split
 ·rename_i h
  exact⟨fun q=>.inr q,fun q=>q.elim (fun e=>e▸h) id⟩
 ·rw[pt_,pv_];exact Or.comm
theorem valX_mem {kvs:List (K×Addr×V)}{k:K}:valX kvs k=none↔k∉kvs.map (·.1):=by
 unfold valX
 rw[k5_,q6_]
 constructor
 ·intro h q
  obtain⟨e,he,rfl⟩:=pq_.mp q
  exact h e he (by simp)
 ·intro h e he q
  exact h (pq_.mpr ⟨e,he,of_decide_eq_true q⟩)
end
end L2
namespace L2
open PySem PySem.Spec PyProof.Rows
noncomputable abbrev dKw (d:Value):List (Str×Value):=[(q2_ "default",d)]
theorem joi_ (a d:Value):argsOk "max" ⟨[a],dKw d⟩:=by unfold argsOk;kernel_rfl
section
variable {prog:Program}{w:World}{Z:Around}{R:Result->Shared->Prop}{J:Addr}{fp wr:List Addr}{n:Nat}{P:Nat->Value->Prop}{St:Nat->Heap->Prop}
theorem jvr_ (W:Walks prog w Z.in1 J fp wr n P St)(bt:Nat->Nat->Bool)(hc:CmpOf prog w Z.in1 .Gt P bt)(B:Addr)(hB:B∉fp)(d:Value) :
  ∀(k j:Nat) (t:Shared) (u:Value) (z:Nat),n - (j+1)=k->j+1<=n->St (j+1) t.heap->P (argBest bt j) u ->
  t.heap.get? B=some { cls:=.type "list",dict:=none,data:=.seq #[u,u] z,slots:=#[] } ->
  (∀ v g tk,P (argBest bt (n - 1)) v->(∀ b o,b∉wr->b≠B->t.heap.get? b=some o->g.get? b=some o)->R (.ok (.ret v)) { t with heap:=g,toks:=tk }) ->
  codeAny (model prog w) Z (.builtin "max.loop" ⟨[.ref J,.none,.ref B],dKw d⟩) R t:=by
 have hBw:B∉wr:=fun h=>hB (W.sub _ h)
 have nm:(toString "max"++toString ".loop":String)="max.loop":=by decide
 intro k
 induction k with
 | zero =>
  intro j t u z hk hj hst hP hb hR
  have hin:j+1=n:=by omega
  refine codeAny_builtin tu_ ?_
  rw[wj_ rc_ _]
  show wpAny _ Z.in1 (seqItems? (.ref B) >>= _) _ _ t
  refine wpAny_bind (wpAny_seqItems hb rfl ?_)
  show wpAny _ Z.in1 (tryCatch (pyNext (.ref J)) _ >>= _) _ _ t
  refine wpAny_bind (wpAny_tryCatch (W.done t _ _ (hin▸hst) fun g tk kk=>?_))
  have hb':=kk B _ hBw hb
  show wpAny _ Z.in1 (updateSeq B (fun _=>#[]) >>= _) _ _ _
  exact wpAny_bind (wpAny_updateSeq hb' rfl (wpAny_bind (wpAny_letGo (wpAny_pure (hR u _ tk (by rw[<- hin];exact hP) fun b o h1 h2 e=>(q0_ _ _ (td_ h2)).trans (kk b o h1 e))))))
 | succ k ih =>
  intro j t u z hk hj hst hP hb hR
  have hlt:j+1 < n:=by omega
  refine codeAny_builtin tu_ ?_
  rw[wj_ rc_ _]
  show wpAny _ Z.in1 (seqItems? (.ref B) >>= _) _ _ t
  refine wpAny_bind (wpAny_seqItems hb rfl ?_)
  show wpAny _ Z.in1 (tryCatch (pyNext (.ref J)) _ >>= _) _ _ t
  refine wpAny_bind (wpAny_tryCatch (W.item (j+1) t _ _ hlt hst fun v g tk hv hst' kk=>?_))
  have hb':=kk B _ hBw hb
  show wpAny _ Z.in1 (tryCatch (holding [v,v] (richCompare .Gt v u >>= _)) _ >>= _) _ _ _
  refine wpAny_bind (wpAny_tryCatch (wpAny_holding (wpAny_bind (hc (j+1) (argBest bt j) v u _ _ _ hv hP ?more))))
  refine wpAny_bind (wpAny_holding (wpAny_truthy_bool (wpAny_bind (wpAny_letGo (wpAny_pure ?_)))))
  cases e:bt (j+1) (argBest bt j) with
  | true =>
   simp only[if_true]
   refine wpAny_bind (wpAny_updateSeq hb' rfl (wpAny_bind (wpAny_letGo ?_)))
   rw[nm]
   refine wpAny_pure ⟨plainId_quiet rc_ _,ih (j+1) _ v _ (by omega) hlt (W.frame _ _ _ hst' fun b h1 o h2=>?_) (by simp only[argBest,e,if_true];exact hv) (rx_ _ hb' rfl) fun v' g' tk' h1 h2=>?_⟩
   ·exact(q0_ _ _ (fun h:B=b=>hB (by rw[h];exact h1))).trans h2
   ·exact hR v' g' tk' h1 fun b o h3 h4 h5=>h2 b o h3 h4 ((q0_ _ _ (td_ h4)).trans (kk b o h3 h5))
  | false =>
   simp only[p4_,if_false]
   refine wpAny_bind (wpAny_letGo ?_)
   rw[nm]
   exact wpAny_pure ⟨plainId_quiet rc_ _,ih (j+1) _ u z (by omega) hlt hst' (by simp only[argBest,e,p4_,if_false];exact hP) hb' fun v' g' tk' h1 h2=>hR v' g' tk' h1 fun b o h3 h4 h5=>h2 b o h3 h4 (kk b o h3 h5)⟩
theorem jly_ (W:Walks prog w Z.in1 J fp wr n P St)(bt:Nat->Nat->Bool)(hc:CmpOf prog w Z.in1 .Gt P bt)(B:Addr)(hB:B∉fp)(d:Value){t:Shared}{z:Nat}(hst:St 0 t.heap)
  (hb:t.heap.get? B=some { cls:=.type "list",dict:=none,data:=.seq #[] z,slots:=#[] })
  (h0:n=0->∀ g tk,(∀ b o,b∉wr->b≠B->t.heap.get? b=some o->g.get? b=some o)->R (.ok (.ret d)) { t with heap:=g,toks:=tk })
  (hR:0 < n->∀ v g tk,P (argBest bt (n - 1)) v->(∀ b o,b∉wr->b≠B->t.heap.get? b=some o->g.get? b=some o)->R (.ok (.ret v)) { t with heap:=g,toks:=tk }) :
  codeAny (model prog w) Z (.builtin "max.loop" ⟨[.ref J,.none,.ref B],dKw d⟩) R t:=by
 have hBw:B∉wr:=fun h=>hB (W.sub _ h)
 have nm:(toString "max"++toString ".loop":String)="max.loop":=by decide
 refine codeAny_builtin tu_ ?_
 rw[wj_ rc_ _]
 show wpAny _ Z.in1 (seqItems? (.ref B) >>= _) _ _ t
 refine wpAny_bind (wpAny_seqItems hb rfl ?_)
 show wpAny _ Z.in1 (tryCatch (pyNext (.ref J)) _ >>= _) _ _ t
 rcases Nat.eq_zero_or_pos n with hn | hn
 ·refine wpAny_bind (wpAny_tryCatch (W.done t _ _ (by rw[hn];exact hst) fun g tk kk=>?_))
  show wpAny _ Z.in1 (rule _ >>= _) _ _ _
  exact wpAny_bind (wpAny_rule (wpAny_pure (h0 hn g tk fun b o h1 _ e=>kk b o h1 e)))
 ·refine wpAny_bind (wpAny_tryCatch (W.item 0 t _ _ hn hst fun v g tk hv hst' kk=>?_))
  have hb':=kk B _ hBw hb
  show wpAny _ Z.in1 (updateSeq B (fun _=>#[v,v]) >>= _) _ _ _
  refine wpAny_bind (wpAny_updateSeq hb' rfl ?_)
  rw[nm]
  refine wpAny_pure ⟨plainId_quiet rc_ _,jvr_ W bt hc B hB d _ 0 _ v _ rfl hn (W.frame _ _ _ hst' fun b h1 o h2=>?_) hv (rx_ _ hb' rfl) fun v' g' tk' h1 h2=>?_⟩
  ·exact(q0_ _ _ (fun h:B=b=>hB (by rw[h];exact h1))).trans h2
  ·exact hR hn v' g' tk' h1 fun b o h3 h4 h5=>h2 b o h3 h4 ((q0_ _ _ (td_ h4)).trans (kk b o h3 h5))
theorem jpc_ {E:Value->Shared->Prop}{s:Shared}{x d:Value}{Q:Value->Shared->Prop}
  (h:wpAny (model prog w) Z.in1 (pyIter x) (fun it t=>∃ J fp wr n P St bt,it=.ref J/\Walks prog w Z.in1 J fp wr n P St/\St 0 t.heap/\(∀ b∈fp,b < t.heap.objs.size)/\CmpOf prog w Z.in1 .Gt P bt /\
   (n=0->∀ g tk,(∀ b o,b∉wr->t.heap.get? b=some o->g.get? b=some o)->Q d { t with heap:=g,toks:=tk }) /\
   (0 < n->∀ v g tk,P (argBest bt (n - 1)) v->(∀ b o,b∉wr->t.heap.get? b=some o->g.get? b=some o)->Q v { t with heap:=g,toks:=tk })) E s) :
  wpAny (model prog w) Z (call (.builtin "max") [x] (dKw d)) Q E s:=by
 have nm:(toString "max"++toString ".loop":String)="max.loop":=by decide
 refine kmk_tree PySem.F.kind_max PySem.F.plain_max PySem.F.entry_max (joi_ _ _) ?_
 show wpAny _ Z.in1 (wv_ "max" ["key","default"] 0 ⟨[],dKw d⟩ >>= _) _ _ s
 refine wpAny_bind (wpAny_of_eq (show wv_ "max" ["key","default"] 0 ⟨[],dKw d⟩=pure [none,some d] from rfl) (wpAny_bind (wpAny_pure ?_)))
 refine wpAny_bind (wpAny_mono h (fun it t h₂=>?_) fun _ _ e=>e)
 obtain⟨J,fp,wr,n,P,St,bt,rfl,W,hst,hfp,hc,q0,q1⟩:=h₂
 refine wpAny_bind (wpAny_newObj_type ?_)
 rw[nm]
 have hnf:t.heap.objs.size∉fp:=fun hm=>se_ _ (hfp _ hm)
 refine wpAny_pure ⟨plainId_quiet rc_ _,jly_ W bt hc t.heap.objs.size hnf d (W.frame _ _ _ hst fun b _ o e=>pi_ _ e) (px_ _ rfl) (fun hn g tk kk=>?_) fun hn v g tk hv kk=>?_⟩
 ·exact q0 hn g tk fun b o h1 e=>kk b o h1 (qg_ (p2_ e)) (pi_ _ e)
 ·exact q1 hn v g tk hv fun b o h1 e=>kk b o h1 (qg_ (p2_ e)) (pi_ _ e)
end
def jwo_ (ta tb:TE):TE:=fun σ H Q=>ta σ H fun v H1=>tb σ H1 fun d H2=>∃(p:Addr) (ns:List Int),v=.ref p/\H2 p=some (.lst (ns.map V.int))/\(ns=[]->Q d H2)/\∀ m,m∈ns->(∀ n∈ns,n<=m)->Q (.int m) H2
theorem jhd_ {ta tb:TE}{σ:St}{H:Hp}{Q:VK}(h:ta σ H fun v H1=>tb σ H1 fun d H2=>∃(p:Addr) (ns:List Int),v=.ref p/\H2 p=some (.lst (ns.map V.int))/\(ns=[]->Q d H2)/\∀ m,m∈ns->(∀ n∈ns,n<=m)->Q (.int m) H2):jwo_ ta tb σ H Q:=h
section
variable {X:Cx}
theorem jcf_ {a b:Expr}{ta tb:TE}{p pos kpos:Pos}(hcalm:X.calm=true)(hg:Gl X "max")(hm:X.mg "max"=none)(ha:PE X a ta)(hb:PE X b tb)(hs:starEach [a] X.env=[(false,eval a X.env)]:=by rfl) :
  PE X (.Call (.Name "max" p) [a] [⟨some "default",b,kpos⟩] pos) (jwo_ ta tb):=by
 intro pins s σ H Q I h
 refine wpAny_Call_Name_kw (x8_ (u:=.builtin "max") I hg hm (by decide +kernel) ?_)
 refine PyProof.Rows.callWith_kw ?_ (by rw[hs];rfl) (by rw[hs];rfl)
 rw[hs]
 show wpAny _ _ (spliced ((false,eval a X.env)::backTo pos (starEach [] X.env))) _ _ s
 refine rn_ (thn (ha pins s σ H _ I h) fun u s1 ⟨x,H1,I1,ru,q1⟩=>sm_ ?_)
 show wpAny _ _ (evalAll ((do let v <- eval b X.env;standAt pos;pure v)::[])) _ _ s1
 refine wpAny_evalAll_cons (wpAny_bind (thn (hb pins s1 σ H1 _ I1 q1) fun u2 s2 ⟨y,H2,I2,ry,l,ns,ex,el,q0,q2⟩=>wpAny_bind (wpAny_standAt (wpAny_pure (wpAny_evalAll_nil ?_)))))
 subst ex
 cases ru
 show wpAny _ _ (call (.builtin "max") [.ref l] (dKw u2)) _ _ s2
 obtain⟨its,rv,pl,hz⟩:=I2.list (SqL.of (K:=X.K) el)
 have hlen:=rv.length
 rw[pb_] at hlen
 have hlt:l < s2.heap.objs.size:=by obtain⟨o,_,ho,_⟩:=pl;exact p2_ ho
 have hval:∀(i:Nat) (v:Value),its.toArray[i]?=some v->∃ t,v=.int (ns.getD i 0) t:=fun i v hv=>by
  have hv':its[i]?=some v:=by simpa using hv
  have hil:i < its.length:=(pj_.mp hv').1
  obtain⟨w',hw,t,rfl⟩:=rv.get (i:=i) (x:=V.int (ns.getD i 0)) (by rw[pf_];simp[pd_,show i < ns.length by omega])
  rw[hv'] at hw
  cases hw
  exact⟨t,rfl⟩
 have f1:=I2.fpOk (H':=H2) (b:=s2.heap.objs.size) (pm_ _) (I2.hok.fresh (pm_ _))
 have isl:s2.heap.IsList l its.toArray:=by
  obtain⟨o,n,e,hc,hd,hx⟩:=pl
  exact⟨o,e,hc,n,hx⟩
 have I3:Inv X pins σ H2 { s2 with heap:=s2.heap.push { cls:=.type "list_iterator",data:=.fields #[.ref l,.int 0 0] },toks:=s2.toks }:=I2.kept fun b u q=>pi_ _ q
 refine jpc_ (wpAny_pyIter_list isl ?_)
 refine⟨s2.heap.objs.size,_,_,_,_,_,_,rfl,Walks.list (A:=X.A.in1) (show X.A.in1.handled=none from I2.ok.hd hcalm) s2.heap.objs.size l (qg_ hlt) its.toArray,⟨⟨_,px_ _ rfl,rfl,rfl⟩,?_⟩,?_,CmpOf.ints_gt (fun i=>ns.getD i 0) hval,fun hn g tk k=>?_,fun hn v g tk hv k=>?_⟩
 ·obtain⟨o,ho,q⟩:=isl
  exact⟨o,pi_ _ ho,q⟩
 ·intro b hb
  have hsz:(s2.heap.push { cls:=.type "list_iterator",data:=.fields #[.ref l,.int 0 0] }).objs.size=s2.heap.objs.size+1:=r1_ ..
  show b < (s2.heap.push _).objs.size
  rw[hsz]
  rcases p6_.mp hb with z | z
  ·rw[z];exact sw_ _
  ·have z':b=l:=by simpa using z
   rw[z'];exact t0_ hlt
 ·rw[pp_] at hn
  have hns:ns=[]:=List.eq_nil_of_length_eq_zero (by omega)
  exact⟨y,H2,I3.turned (t':=tk) (it:=s2.heap.objs.size) (fun b o hb q=>k b o (by simpa using hb) q) f1.1 f1.2.1 f1.2.2.2.1 f1.2.2.2.2.1 f1.2.2.2.2.2,ry,q0 hns⟩
 ·obtain⟨t,rfl⟩:=hval _ _ hv
  rw[pp_] at hn ⊢
  obtain⟨b1,b2⟩:=argBest_gt (fun i=>ns.getD i 0) (its.length - 1)
  refine⟨.int _,H2,I3.turned (t':=tk) (it:=s2.heap.objs.size) (fun b o hb q=>k b o (by simpa using hb) q) f1.1 f1.2.1 f1.2.2.2.1 f1.2.2.2.2.1 f1.2.2.2.2.2,⟨_,rfl⟩,q2 _ ?_ fun n hn2=>?_⟩
  ·rw[pd_,pa_ (show argBest _ _ < ns.length by omega)]
   exact ps_ _
  ·obtain⟨j,hj,rfl⟩:=tg_ hn2
   have:=b2 j (by omega)
   rw[pd_ (i:=j),pa_ hj] at this
   exact this
end
end L2
namespace L2
open PySem PySem.Spec PyProof.Rows
section
variable {X:Cx}
def jmk_:V->List V->Hp->VK->Prop:=fun x vs H Q=>∃(l:Addr) (ns:List Int) (k:Int),x=.ref l/\vs=[.int k]/\H l=some (.lst (ns.map V.int))/\k∈ns/\Q .non (upd H l (.lst ((ns.erase k).map V.int)))
theorem jia_ {H:Hp}{Q:VK}{l:Addr}{ns:List Int}{k:Int}(h1:H l=some (.lst (ns.map V.int)))(h2:k∈ns)(h:Q .non (upd H l (.lst ((ns.erase k).map V.int)))):jmk_ (.ref l) [.int k] H Q:=⟨l,ns,k,rfl,rfl,h1,h2,h⟩
theorem jic_ {k:Int}:∀{ns:List Int},k∈ns->∃ j:Nat,∃ hj:j < ns.length,ns[j]=k/\(∀ i (hi:i < ns.length),i < j->ns[i]≠k)/\ns.erase k=ns.eraseIdx j
 | [],h=>nomatch h
 | n::ns,h=>by
  by_cases e:n=k
  ·subst e
   exact⟨0,by simp,rfl,fun i _ hi=>absurd hi (Nat.not_lt_zero _),by simp⟩
  ·have h':k∈ns:=by
    rcases p6_.mp h with z | z
    ·exact absurd z.symm e
    ·exact z
   obtain⟨j,hj,h1,h2,h3⟩:=jic_ h'
   refine⟨j+1,by simpa using hj,by simpa using h1,fun i hi hlt=>?_,?_⟩
   ·cases i with
    | zero=>exact e
    | succ i=>exact h2 i (by simpa using hi) (by omega)
   ·rw[List.erase_cons_tail (by simpa using e),h3];rfl
theorem jfp_:MtR X "list.remove" jmk_:=fun pins s σ H x vs v us Q I rx rs h=>by
 obtain⟨l,ns,k,rfl,rfl,hH,hk,q⟩:=h
 cases rx
 cases rs with
 | cons r1 rs =>
  cases rs
  obtain⟨t,rfl⟩:=r1
  obtain⟨z,its,n,r,hl,e⟩:=I.lstM hH
  rw[pb_] at z hl
  obtain⟨j,hj,h1,h2,h3⟩:=jic_ hk
  have hval:∀(i:Nat) (hi:i < its.length),∃ t,∃ hi':i < ns.length,its[i]=.int ns[i] t:=fun i hi=>by
   obtain⟨w',hw,t,rfl⟩:=r.get (i:=i) (x:=V.int (ns[i]'(by omega))) (by rw[pf_,pa_ (show i < ns.length by omega)];rfl)
   rw[pa_ hi] at hw
   injection hw with hw
   exact⟨t,by omega,hw⟩
  have hj':j < its.length:=by omega
  refine call_meets F.slot_list_remove ⟨_,e,rfl⟩ F.entry_list_remove (F.args_list_remove_2 _ _) (MeetsSeq.list_remove l its.toArray n (.int k t) (tc_ k) (fun y hy=>?_) j (by simpa using hj') ?_ (fun i hi hlt=>?_) (by rw[pp_];omega)) ⟨e,?_⟩
  ·have hy':y∈its:=by simpa using hy
   obtain⟨i,hi,rfl⟩:=tg_ hy'
   obtain⟨t',_,e'⟩:=hval i hi
   rw[e']
   exact kz_.int _ _ _ _
  ·obtain⟨t',_,e'⟩:=hval j hj'
   show tc_ k its[j]=true
   rw[e',h1]
   exact beq_self_eq_true k
  ·have hi':i < its.length:=by simpa using hi
   obtain⟨t',hi2,e'⟩:=hval i hi'
   show tc_ k its[i]=false
   rw[e']
   exact beq_false_of_ne (h2 i hi2 hlt)
  ·refine⟨.non,_,I.lset (its':=its.eraseIdx j) hH e ?_ ?_ ?_,rfl,q⟩
   ·apply wd_.mp
    rw[Array.eraseIdxIfInBounds,dif_pos (by simpa using hj')]
    simp
   ·have e1:∀(l:List Int) (i:Nat),(l.eraseIdx i).map V.int=(l.map V.int).eraseIdx i:=fun l=>by
     induction l with
     | nil=>intro i;simp
     | cons a l ih =>
      intro i
      cases i with
      | zero=>rfl
      | succ i=>simp only[kp_,pr_,ih]
    rw[h3,e1]
    exact Vals.eraseIdx j r
   ·have:=ss_ hk
    rw[pb_];omega
end
end L2
namespace L2
open PySem PySem.Spec PyProof.Rows
theorem un_ {M:Model}{A:Around}{E:Value->Shared->Prop}{s:Shared}{β:Type}(f:Nat->β->Sem (ForInStep β))(I:List Nat->β->Shared->Prop)(Q:β->Shared->Prop)
  (turn:∀ x rest b s,I (x::rest) b s->wpAny M A (f x b) (fun r s'=>match r with | .yield b'=>I rest b' s' | .done b'=>Q b' s') E s)
  (fin:∀ b s,I [] b s->Q b s) (r:k0_) (b:β) (h:I (ks_ r.start r.size r.step) b s):wpAny M A (forIn r b f) Q E s:=by
 rw[k0_.forIn_eq_forIn_range']
 exact wpAny_forIn_list f I Q turn fin _ b h
theorem jpk_ (l:Addr)(items:Array Value)(n:Nat)(dd:Option Addr)(sl:Array (Option Value))(x:Value)(e:Value->Bool)(he:∀ y,y∈items->kz_ y x (e y))(j:Nat)(hj:j < items.size)(hit:e items[j]=true)(hno:∀ m (hm:m < items.size),m < j->e items[m]=false) :
  Meets (Builtin.«tuple.index» ⟨[.ref l,x],[]⟩)
   (fun A R s=>s.heap.get? l=some { cls:=.type "tuple",dict:=dd,data:=.seq items n,slots:=sl }/\R (.ok (.ret (.int (j:Int) s.toks))) { s with toks:=s.toks+1 }) :=
 .of_wp fun prog w A R s h=>by
  obtain⟨hp,g,d,tk,os⟩:=s;obtain⟨hl,h⟩:=h
  wp_walk using wpAny_loadPart' hl,un_ _ (fun rest b s'=>b.1=none/\s'=⟨hp,g,d,tk,os⟩/\∃ i,rest=ks_ i (items.size - i)/\i<=j) _
  case turn =>
   rintro y rest b s' ⟨hb,rfl,i,hr,hi⟩
   have hlt:i < items.size:=by omega
   rw[show items.size - i=(items.size - (i+1))+1 by omega,List.range'_succ] at hr
   injection hr with h1 h2
   subst h1
   have hy:items[y]?=some items[y]:=by simp[hlt]
   rw[hy]
   refine wpAny_bind (he _ (Array.getElem_mem hlt) _ _ _ _ _ _ ?_)
   by_cases hyj:y=j
   ·subst hyj
    rw[hit]
    wp_walk
    exact⟨_,rfl,h⟩
   ·rw[hno y hlt (by omega)]
    wp_walk
    exact⟨rfl,rfl,y+1,h2,by omega⟩
  case fin =>
   rintro⟨b1,b2⟩ s' ⟨hb,rfl,i,hr,hi⟩
   have h1:=congrArg tx_ hr
   rw[List.length_range'] at h1
   simp at h1
   omega
  case h =>
   refine⟨rfl,rfl,0,?_,qj_ _⟩
   simp[k0_.size]
section
variable {X:Cx}
def jmr_:V->List V->Hp->VK->Prop:=fun x vs H Q=>∃(l:Addr) (ns:List Int) (k:Int) (j:Nat),x=.ref l/\vs=[.int k]/\H l=some (.tup (ns.map V.int))/\ns[j]?=some k/\(∀ i,i < j->ns[i]?≠some k)/\Q (.int (j:Int)) H
theorem jss_ {H:Hp}{Q:VK}{l:Addr}{ns:List Int}{k:Int}{j:Nat}(h1:H l=some (.tup (ns.map V.int)))(h2:ns[j]?=some k)(h3:∀ i,i < j->ns[i]?≠some k)(h:Q (.int (j:Int)) H):jmr_ (.ref l) [.int k] H Q:=⟨l,ns,k,j,rfl,rfl,h1,h2,h3,h⟩
theorem jtn_:MtR X "tuple.index" jmr_:=fun pins s σ H x vs v us Q I rx rs h=>by
 obtain⟨l,ns,k,j,rfl,rfl,hH,h1,h2,q⟩:=h
 cases rx
 cases rs with
 | cons r1 rs =>
  cases rs
  obtain⟨t,rfl⟩:=r1
  obtain⟨its,r,⟨o,ho,hc,n,hd⟩,hz⟩:=I.tuple (SqT.of (K:=X.K) hH)
  have hl:=r.length
  rw[pb_] at hl
  have hj:j < ns.length:=(pj_.mp h1).1
  have hval:∀(i:Nat) (hi:i < its.length),∃ t,∃ hi':i < ns.length,its[i]=.int ns[i] t:=fun i hi=>by
   obtain⟨w',hw,t,rfl⟩:=r.get (i:=i) (x:=V.int (ns[i]'(by omega))) (by rw[pf_,pa_ (show i < ns.length by omega)];rfl)
   rw[pa_ hi] at hw
   injection hw with hw
   exact⟨t,by omega,hw⟩
  have hj':j < its.length:=by omega
  have hjk:ns[j]=k:=by rw[pa_ hj] at h1;injection h1
  obtain⟨cls,dict,data,slots⟩:=o
  simp only at hc hd
  subst hc hd
  refine call_meets F.slot_tuple_index ⟨_,ho,rfl⟩ F.entry_tuple_index (F.args_tuple_index_2 _ _) (jpk_ l its.toArray n dict slots (.int k t) (tc_ k) (fun y hy=>?_) j (by simpa using hj') ?_ (fun i hi hlt=>?_)) ⟨ho,?_⟩
  ·have hy':y∈its:=by simpa using hy
   obtain⟨i,hi,rfl⟩:=tg_ hy'
   obtain⟨t',_,e'⟩:=hval i hi
   rw[e']
   exact kz_.int _ _ _ _
  ·obtain⟨t',_,e'⟩:=hval j hj'
   show tc_ k its[j]=true
   rw[e',hjk]
   exact beq_self_eq_true k
  ·have hi':i < its.length:=by simpa using hi
   obtain⟨t',hi2,e'⟩:=hval i hi'
   show tc_ k its[i]=false
   rw[e']
   exact beq_false_of_ne (fun z=>h2 i hlt (by rw[pa_ hi2,z]))
  ·exact⟨.int (j:Int),H,I.kept (h':=s.heap) (t':=s.toks+1) fun b u q=>q,⟨_,rfl⟩,q⟩
def tBMT (r:V->List V->Hp->VK->Prop)(to:TE)(t:TA):TE:=fun σ H Q=>to σ H fun x H1=>(∃ p xs,x=.ref p/\H1 p=some (.tup xs))/\t σ H1 fun vs H2=>r x vs H2 Q
theorem i_bmt {r:V->List V->Hp->VK->Prop}{to:TE}{t:TA}{σ:St}{H:Hp}{Q:VK}(h:to σ H fun x H1=>(∃ p xs,x=.ref p/\H1 p=some (.tup xs))/\t σ H1 fun vs H2=>r x vs H2 Q):tBMT r to t σ H Q:=h
theorem jzh_ {name:Str}{id:String}{r:V->List V->Hp->VK->Prop}{o e:Expr}{es:List Expr}{apos cpos:Pos}{to:TE}{t:TA}(pa:PlainAttrs "tuple")(slot:Slot "tuple" name id)(hty:typeOf (.builtin id)=pure (.type "method_descriptor"))(hm:MtR X id r)(ho:PE X o to)(ha:PA X (e::es) t)
  (hbase:attributeBase o name X.env (eval o X.env)=eval o X.env:=by rfl)
  (hfew:((backTo cpos (starEach (e::es) X.env)).all (fun x=>!x.1)&&(backToKw cpos (keywordEach [] X.env)).all (fun x=>x.1.isSome)
   && decide ((e::es).length+([]:List Keyword).length+(if ([]:List Keyword).isEmpty then 0 else 1) < 30))=true:=by rfl)
  (hline:(apos.endLine == cpos.line)=true:=by rfl) (hs:starEach (e::es) X.env=(false,eval e X.env)::starEach es X.env:=by rfl) (hplain:(backTo cpos (starEach es X.env)).any (·.1)=false:=by rfl) :
  PE X (.Call (.Attribute o name apos) (e::es) [] cpos) (tBMT r to t):=by
 intro pins s σ H Q I h
 refine wpAny_Call_method_late hbase hfew hline rfl (thn (ho pins s σ H _ I h) fun v s1 ⟨x,H1,I1,r1,⟨p,xs,ex,ep⟩,q1⟩=>?_)
 subst ex
 obtain rfl:v=Value.ref p:=r1
 obtain⟨_,its,r,⟨ob,ho',hc,n,hd⟩,dn⟩:=(show ObjOk X.prog X.w H1 s1.heap p (.tup xs) from I1.hok p _ ep)
 refine⟨"tuple",id,pa,slot,hty,⟨ob,ho',hc⟩,fun a ea=>?_,?_⟩
 ·injection ea with ea
  subst ea
  exact⟨ob,ho',dn ob ho'⟩
 have hA:=ha cpos pins s1 σ H1 _ I1 q1
 rw[hs] at hA ⊢
 refine sa_ (by show (false || (backTo cpos (starEach es X.env)).any (·.1))=false;rw[hplain] <;> rfl) (s7_ ?_)
 exact thn hA fun us s2 ⟨vs,H2,I2,r2,q2⟩=>hm pins s2 σ H2 _ vs _ us Q I2 (show RelV (.ref p) (Value.ref p) from rfl) r2 q2
end
end L2
namespace L2
open PySem PySem.Spec PyProof.Rows
section
variable {prog:Program}{w:World}{K:Type} [DecidableEq K] {knd:HeapKind prog w K}{A:Around}{E:Value->Shared->Prop}{s:Shared}
theorem jbw_ {d a:Addr}{xs:List (K×Addr×Value)}{k:K}{v:Value}{Q:Value->Shared->Prop}(hu:knd.room A)(hkey:knd.is s.heap k a)(hm:s.heap.DictOfH knd d xs)
  (h1:∀ u,(atKey xs k).map (·.2)=some u->Q u { s with toks:=s.toks+knd.draws k })
  (h2:(atKey xs k).map (·.2)=none->∀ h',h'.DictOfH knd d (storedH xs k a v)->qx_ d s.heap h'->Q v { s with heap:=h',toks:=s.toks+knd.draws k })
  (hsz:xs.length<=sizeLine) :
  wpAny (model prog w) A (dictSetDefault d (.ref a) v) Q E s:=by
 obtain⟨o,es,ep,ho,hc,hd,he,his,hn⟩:=hm
 unfold dictSetDefault
 refine wpAny_holding ?_
 refine wpAny_bind (knd.pyHash hu hkey ?_)
 refine wpAny_bind (wpAny_dictFind_heap (s:={ s with toks:=s.toks+knd.draws k }) hu hkey ho hd he his hn ?_ ?_)
 ·intro hno
  have hnot:k∉xs.map (·.1):=not_mem_keys_of_get hno
  have h0:(atKey xs k).map (·.2)=none:=by rw[atKey_none_of_get hno];rfl
  refine wpAny_bind (wpAny_rule ?_)
  refine wpAny_bind (wpAny_updateDictKeys (hz:=by have e:=size_of_entries he;omega) (s:={ s with toks:=s.toks+knd.draws k }) ho hd (wpAny_pure (h2 h0 _ ⟨_,_,ep+1,rx_ _ ho (Obj.isFreed_of_dict (Obj.data_mapDictKeys hd _)),hc.mapDictKeys _,Obj.data_mapDictKeys hd _,?_,?_,?_⟩ (rv_ ..))))
  ·rw[storedH_new (atKey_none_of_get hno)]
   simp[he,entryOfKey]
  ·rw[storedH_new (atKey_none_of_get hno)]
   intro x hx
   rcases pt_.mp hx with hx | hx
   ·exact knd.keeps (his x hx) ho hd (rv_ ..)
   ·rw[pv_.mp hx]
    exact knd.keeps hkey ho hd (rv_ ..)
  ·rw[storedH_new (atKey_none_of_get hno),ph_,qq_]
   refine⟨hn,by simp,fun x hx y hy e=>hnot ?_⟩
   have:y=k:=by simpa using hy
   rw[<- this,<- e];exact hx
 ·intro j p hj
  refine wpAny_bind (wpAny_dictEntries (s:={ s with toks:=s.toks+knd.draws k }) ho hd ?_)
  rw[entry_at he j,hj]
  refine wpAny_bind (wpAny_rule ?_)
  exact wpAny_pure (h1 _ (by rw[atKey_of_get hn hj];rfl))
theorem jpd_ (knd:HeapKind prog w K)(d a:Addr)(hd:(d == sysModules)=false)(dflt:Value) :
  MeetsIn prog w (Builtin.«dict.setdefault» ⟨[.ref d,.ref a,dflt],[]⟩) (fun A R s=>knd.room A.in1/\∃ k xs,knd.is s.heap k a/\s.heap.DictOfH knd d xs/\xs.length<=sizeLine /\
   (∀ u,(atKey xs k).map (·.2)=some u->R (.ok (.ret u)) { s with toks:=s.toks+knd.draws k }) /\
   ((atKey xs k).map (·.2)=none->∀ h',h'.DictOfH knd d (storedH xs k a dflt)->qx_ d s.heap h'->R (.ok (.ret dflt)) { s with heap:=h',toks:=s.toks+knd.draws k })) :=
 .of_wp fun A R s ⟨hu,k,xs,hkey,hm,hz,h1,h2⟩=>by
  unfold Builtin.«dict.setdefault»
  refine wpAny_bind ?_
  unfold Builtin.Dict.keyAndDefault
  refine wpAny_bind (wpAny_notOrdered_dict hm.typeIs ?_)
  refine wpAny_pure ?_
  show wpAny _ _ (if (d == sysModules)=true then _ else (dictSetDefault d (.ref a) dflt >>= _)) _ _ s
  rw[if_neg (by rw[hd];exact pk_)]
  exact wpAny_bind (jbw_ hu hkey hm (fun v hv=>wpAny_pure ⟨v,rfl,h1 v hv⟩) (fun hn h' hm' hs'=>wpAny_pure ⟨dflt,rfl,h2 hn h' hm' hs'⟩) hz)
end
section
variable {K:Type} [DecidableEq K] {N:OwnKind K}
section
variable {X:Cx}{pins:List (Addr×Obj)}{σ:St}{H:Hp}{s:Shared}{a b:Addr}{r:Value}{A:Around}{E:Value->Shared->Prop}
theorem x_sd {k:K}{z:V}{kvs:List (K×Addr×V)}{Q:Value->Shared->Prop}(hu:A.units+4 < cLine)(I:Inv X pins σ H s)(e:H a=some (DX N X.prog X.w a kvs))(hK:KO N H kvs)(eb:N.at_ H k b)(hl:kvs.length < sizeLine)(rz:RelV z r)
  (h1:∀ v w' s',valX kvs k=some v->Inv X pins σ H s'->RelV v w'->Q w' s') (h2:∀ s',valX kvs k=none->Inv X pins σ (upd H a (DX N X.prog X.w a (putX kvs k b z))) s'->Q r s') :
  wpAny (model X.prog X.w) A (call (.builtin "dict.setdefault") [.ref a,.ref b,r]) Q E s:=by
 obtain⟨zz,hd,xs,rel,dd⟩:=jwv_ I.hok e hK
 have hz:xs.length<=sizeLine:=by rw[<- wk_ rel];exact zz
 refine call_meetsIn wp_ dd.typeIs PySem.F.entry_dict_setdefault (PySem.F.args_dict_setdefault_3 _ _ _) (jpd_ (N.hk X.prog X.w) a b hd r) ⟨N.room hu,k,xs,N.of I.hok eb,dd,hz,fun w' hw=>?_,fun hn h' dd' hs=>?_⟩
 ·have:=rel.val k
  rw[hw] at this
  cases hv:valX kvs k with
  | none=>rw[hv] at this;cases this
  | some v =>
   rw[hv] at this
   exact h1 v _ _ hv (I.tok _) this
 ·have hv:valX kvs k=none:=by
   have:=rel.val k
   rw[hn] at this
   cases hv:valX kvs k with
   | none=>rfl
   | some v=>rw[hv] at this;cases this
  have hl2:(putX kvs k b z).length<=sizeLine:=by have:=zz_ kvs k b z;omega
  refine h2 _ hv ?_
  obtain⟨q,es,ep,hq,h2',h3,h4,_,h5⟩:=dd'
  exact jmz_ I (by rw[e];exact True.intro) hs ⟨q,hq⟩ (jqi_ hl2 hd (rel.put k b rz) hq h2' h3 h4 h5)
end
def tXSd (N:OwnKind K)(P:Program)(w:World)(td ty tx:TE):TE:=fun σ H Q=>td σ H fun x H1=>∃ a,x=.ref a/\IsDX N P w H1 a/\ty σ H1 fun y H2=>tx σ H2 fun z H3=>∃ kvs k b,H3 a=some (DX N P w a kvs)/\KO N H3 kvs/\y=.ref b/\N.at_ H3 k b/\kvs.length < sizeLine /\
 (∀ v,valX kvs k=some v->Q v H3)/\(valX kvs k=none->Q z (upd H3 a (DX N P w a (putX kvs k b z))))
section
variable {X:Cx}{o e f:Expr}{apos cpos:Pos}{td ty tx:TE}{P:Program}{w:World}
theorem px_sd (hP:X.prog=P)(hw:X.w=w)(hu:X.A.units+4 < cLine)(ho:PE X o td)(he:PE X e ty)(hf:PE X f tx)(m:M2 X o "setdefault" apos e f cpos):PE X (.Call (.Attribute o "setdefault" apos) [e,f] [] cpos) (tXSd N P w td ty tx):=by
 subst hP hw
 intro pins s σ H Q I h
 refine wpAny_Call_method m.base m.few m.line ku_ wp_ PySem.F.type_dict_setdefault (thn (ho pins s σ H _ I h) fun u s1 ⟨x,H1,I1,rx,a,ex,d,q1⟩=>?_)
 subst ex
 obtain rfl:u=Value.ref a:=rx
 obtain⟨t1,t2,_⟩:=jgz_ I1 d
 refine⟨t1,t2,?_⟩
 rw[m.trees]
 refine sa_ rfl (s7_ (rn_ (thn (he pins s1 σ H1 _ I1 q1) fun iv s2 ⟨y,H2,I2,ry,q2⟩ =>
  rn_ (thn (hf pins s2 σ H2 _ I2 q2) fun fv s3 ⟨z,H3,I3,rz,kvs,k,b,ea,hK,ey,eb,hl,q3,q4⟩=>sm_ ?_))))
 subst ey
 obtain rfl:iv=Value.ref b:=ry
 exact x_sd hu I3 ea hK eb hl rz (fun v w' s' hv I' r'=>⟨v,H3,I',r',q3 v hv⟩) fun s' hv I'=>⟨z,_,I',rz,q4 hv⟩
end
theorem i_xsd {P:Program}{w:World}{td ty tx:TE}{σ:St}{H:Hp}{Q:VK} (h:td σ H fun x H1=>∃ a,x=.ref a/\IsDX N P w H1 a/\ty σ H1 fun y H2=>tx σ H2 fun z H3=>∃ kvs k b,H3 a=some (DX N P w a kvs)/\KO N H3 kvs/\y=.ref b/\N.at_ H3 k b/\kvs.length < sizeLine /\
 (∀ v,valX kvs k=some v->Q v H3)/\(valX kvs k=none->Q z (upd H3 a (DX N P w a (putX kvs k b z))))):tXSd N P w td ty tx σ H Q:=h
end
end L2
namespace L2
open PySem PySem.Spec PyProof.Rows
structure Dm (P:Program)(w:World)(K:pc_)(mg:Str->Option Value)(base:Heap)(C:Addr)(m:Str)(k:Nat)(ps:List Str)(sp:Sp):Prop where
 ex:∃(f:Addr) (fd:FuncData),Meth K C m f/\Binds K fd ps []/\FnOk P w K mg base CX0 k f fd ps sp
structure Dk (P:Program)(w:World)(K:pc_)(mg:Str->Option Value)(base:Heap)(C:Addr)(k:Nat)(ps:List Str)(sp:Sp):Prop where
 ex:∃(f:Addr) (fd:FuncData),Mk K C f/\Binds K fd ps []/\FnOk P w K mg base CX0 k f fd ps sp
section
variable {X:Cx}{k:Nat}{C:Addr}{ps:List Str}{sp:Sp}{x m:Str}{p pos apos:Pos}{e o:Expr}{es:List Expr}{ta:TE}{t:TA}
theorem jcu_ {pl:Sem Bool}(he:PE X o ta)(c:Cls X.K C)(D:Dm X.prog X.w X.K X.mg X.base C m k ps sp)(hr:Room k X.A)(ha:PA X (e::es) t)
  (hst:starEach (e::es) X.env=(false,eval e X.env)::starEach es X.env:=by rfl) (hpl:(backTo pos (starEach es X.env)).any (·.1)=false:=by rfl)
  (ht:eval (.Call (.Attribute o m apos) (e::es) [] pos) X.env=(do
   let ov <- eval o X.env
   standAt apos.atName
   let (f,first) <- holding [ov] (getMethod ov m pl)
   callWith pos f first (backTo pos (starEach (e::es) X.env)) (backToKw pos (keywordEach [] X.env))):=by rfl) :
  PE X (.Call (.Attribute o m apos) (e::es) [] pos) (jsz_ C m sp [] E0 ta t):=by
 obtain⟨f,fd,h1,h2,h3⟩:=D.ex
 exact jwc_ he c h1 h3 hr h2 .nil jqh_ ha hst hpl ht
theorem jrk_ (D:Dk X.prog X.w X.K X.mg X.base C k ps sp)(hr:Room (k+1) X.A)(hg:Gl X x)(hm:X.mg x=some (.ref C))(ha:PA X (e::es) t)
  (hdb:(x == ("__debug__":Str))=false:=by decide) (he:starEach (e::es) X.env=(false,eval e X.env)::starEach es X.env:=by rfl) (hpl:(backTo pos (starEach es X.env)).any (·.1)=false:=by rfl) :
  PE X (.Call (.Name x p) (e::es) [] pos) (jtb_ C sp [] E0 t):=by
 obtain⟨f,fd,h1,h2,h3⟩:=D.ex
 exact jvl_ h1 h3 hr hg hm h2 .nil jqh_ ha hdb he hpl
end
section
variable {σ:St}{H:Hp}{Q:VK}{D:Ends}
theorem jkr_ {C:Addr}{m:Str}{sp:Sp}{E:XK}{ta:TE}{t:TA}(h:ta σ H fun x H1=>∃ a dx fs,x=.ref a/\H1 a=some (.ins C dx fs)/\fs.lookup m=none/\t σ H1 fun vs H2=>sp (x::(vs++[])) H2 Q E):jsz_ C m sp [] E ta t σ H Q:=h
theorem jkp_ {a C dx:Addr}{fs:List (Str×V)}{m:Str}{R:Prop}(h1:H a=some (.ins C dx fs))(h2:fs.lookup m=none)(h:R):∃ a' dx' fs',V.ref a=.ref a'/\H a'=some (.ins C dx' fs')/\fs'.lookup m=none/\R:=⟨a,dx,fs,rfl,h1,h2,h⟩
theorem jzt_ {C:Addr}{sp:Sp}{E:XK}{t:TA}(h:t σ H fun vs H1=>∀ x dx,H1 x=none->H1 dx=none->dx≠x->sp (.ref x::(vs++[])) (upd (upd H1 dx (.own x)) x (.ins C dx [])) (fun v H2=>v=.non/\Q (.ref x) H2) E):jtb_ C sp [] E t σ H Q:=h
theorem vj_ {K:pc_}{ta:TE}{f:Str}(h:ta σ H fun x H1=>∃ a C dx fs v,x=.ref a/\H1 a=some (.ins C dx fs)/\Cls K C/\NoAttr K C f/\fs.lookup f=some v/\Q v H1):tFld K ta f σ H Q:=h
theorem jkd_ {K:pc_}{ta tv:TE}{f:Str}(h:tv σ H fun y H1=>ta σ H1 fun x H2=>∃ a C dx fs,x=.ref a/\H2 a=some (.ins C dx fs)/\Cls K C/\NoAttr K C f/\fs.length < 1000/\D.nx σ (upd H2 a (.ins C dx (putF f y fs)))):sFld K ta tv f D σ H:=h
theorem vr_ {K:pc_}{a C dx:Addr}{fs:List (Str×V)}{f:Str}{v:V}{R:V->Prop}(h1:H a=some (.ins C dx fs))(c:Cls K C)(n:NoAttr K C f)(l:fs.lookup f=some v)(h:R v):∃ a' C' dx' fs' v',V.ref a=.ref a'/\H a'=some (.ins C' dx' fs')/\Cls K C'/\NoAttr K C' f/\fs'.lookup f=some v'/\R v':=⟨a,C,dx,fs,v,rfl,h1,c,n,l,h⟩
theorem jlb_ {K:pc_}{a C dx:Addr}{fs:List (Str×V)}{f:Str}{y:V}{R:Hp->Prop}(h1:H a=some (.ins C dx fs))(c:Cls K C)(n:NoAttr K C f)(l:fs.length < 1000)(h:R (upd H a (.ins C dx (putF f y fs)))) :
  ∃ a' C' dx' fs',V.ref a=.ref a'/\H a'=some (.ins C' dx' fs')/\Cls K C'/\NoAttr K C' f/\fs'.length < 1000/\R (upd H a' (.ins C' dx' (putF f y fs'))):=⟨a,C,dx,fs,rfl,h1,c,n,l,h⟩
end
end L2
namespace L2
end L2
namespace L2
end L2
namespace L2
open PySem
end L2
namespace L2
open PySem PySem.Spec PyProof.Rows
def jcm_:V->List V->Hp->VK->Prop:=fun x vs H Q=>match x,vs with
 | .ref l,[.int i,y]=>(match H l with | some (.lst xs)=>0<=i/\i<=xs.length/\xs.length < 1000000/\Q .non (upd H l (.lst (xs.take i.toNat++y::xs.drop i.toNat))) | _=>False)
 | _,_=>False
section
variable {X:Cx}
theorem Vals.take' {xs:List V}{us:List Value}(h:Vals xs us):∀ n,Vals (xs.take n) (us.take n):=by
 induction h with
 | nil=>intro n;simp;exact .nil
 | cons r rs ih =>
  intro n
  cases n with
  | zero=>simp;exact .nil
  | succ n=>simp only[List.take_succ_cons];exact .cons r (ih n)
theorem Vals.drop' {xs:List V}{us:List Value}(h:Vals xs us):∀ n,Vals (xs.drop n) (us.drop n):=by
 induction h with
 | nil=>intro n;simp;exact .nil
 | cons r rs ih =>
  intro n
  cases n with
  | zero=>simp only[kb_];exact .cons r rs
  | succ n=>simp only[List.drop_succ_cons];exact ih n
theorem joy_:MtR X "list.insert" jcm_:=fun pins s σ H x vs v us Q I rx rs h=>by
 unfold jcm_ at h
 split at h
 ·rename_i l i y
  split at h
  ·rename_i xs hH
   obtain⟨h0,h1,hz,q⟩:=h
   cases rx
   cases rs with
   | cons r1 rs =>
    cases rs with
    | cons r2 rs =>
     cases rs
     obtain⟨t,rfl⟩:=r1
     rename_i u
     obtain⟨z,its,n,r,hl,e⟩:=I.lstM hH
     have hlen:=r.length
     have hfit:w0_ i=true:=by
      unfold w0_
      have e:((2:Int) ^ 63)=9223372036854775808:=by decide
      simp only[e,qe_,decide_eq_true_eq]
      omega
     have hbig:1000000<=sizeLine:=by decide
     have hsz:its.toArray.size<=sizeLine:=by
      rw[pp_]
      omega
     refine call_meets F.slot_list_insert ⟨_,e,rfl⟩ F.entry_list_insert (F.args_list_insert_3 _ _ _) (PySem.AutoSeq1.list_insert_list_int_val_1 l its.toArray n i t u (by simp[hfit]) hsz) ⟨e,?_⟩
     refine⟨.non,_,I.lset (its':=its.take i.toNat++u::its.drop i.toNat) hH e ?_ ((Vals.take' r _).append (.cons r2 (Vals.drop' r _))) ?_,rfl,q⟩
     ·apply wd_.mp
      have hk:(if i < 0 then (i+((its.toArray.size:Nat):Int)).toNat else min i.toNat its.toArray.size)=i.toNat:=by
       rw[if_neg (by omega),pp_]
       omega
      show ((its.toArray.extract 0 (if i < 0 then (i+((its.toArray.size:Nat):Int)).toNat else min i.toNat its.toArray.size)).push u++its.toArray.extract (if i < 0 then (i+((its.toArray.size:Nat):Int)).toNat else min i.toNat its.toArray.size)).toList=_
      rw[hk]
      simp
      exact sy_ (by rw[q1_];exact pm_ _)
     ·have:(xs.take i.toNat++y::xs.drop i.toNat).length=xs.length+1:=by
       rw[pe_,p3_,pw_,q1_];omega
      omega
  ·exact h.elim
 ·exact h.elim
end
end L2
namespace L2
open PySem PySem.Spec PyProof.Rows
structure View where
 t:List Nat
 b:Option Nat
 i:Int
 j:Int
end L2
namespace L2
open PySem PySem.Spec PyProof.Rows
noncomputable def Itq (hi:Int)(n:Nat):It:=⟨fun i _=>i < n,fun i H x H'=>H'=H/\x=.int (hi - i),fun i _=>n<=i⟩
theorem jjj_ {P:Program}{w:World}{K:pc_}{tg:Expr}(it:Addr)(hi:Int)(n:Nat):Turn P w K tg (Itq hi n) [it] it (fun i h=>IsRangeIter h it (hi+(i:Nat) * (-1)) ((n:Int) - (i:Nat)) (-1)) where
 mem:=by simp
 obj:=fun i h st b hb=>by
  have e:b=it:=by simpa using hb
  subst e
  exact⟨_,st,fun v z=>by
   have z':Data.fields _=Data.cell v:=z
   cases z'⟩
 keep:=fun i h h' st k=>k it (by simp) _ st
 item:=by
  intro X hP hw hK hc i pins s σ H E I hf st hg
  subst hP hw hK
  obtain⟨f0,f1,f2,f3,f4,f5⟩:=hf it (by simp)
  have W:=Walks.range (prog:=X.prog) (w:=X.w) (I.ok.hd hc) it hi (-1) n
  refine W.item i s _ _ hg st fun v h' tk hv st' kk=>?_
  obtain⟨t,rfl⟩:=hv
  have I1:Inv X pins σ H { s with heap:=h',toks:=tk }:=I.turned (fun b o hb e=>kk b o (by simpa using hb) e) f0 f1 f3 f4 f5
  refine⟨_,rfl,jdj_ (s:={ s with heap:=h',toks:=tk }) (n:="range_iterator") st' rfl rfl (by decide) ⟨.int (hi - i),H,I1,⟨t,?_⟩,⟨rfl,rfl⟩,st',fun b hb=>(hf b hb).1⟩⟩
  rw[show hi - (i:Int)=hi+(i:Int) * (-1) by omega]
 done:=by
  intro X hP hw hK hc i pins s σ H E I hf st hg
  subst hP hw hK
  obtain⟨f0,f1,f2,f3,f4,f5⟩:=hf it (by simp)
  exact wpAny_pyNext_range_end (I.ok.hd hc) st (by have:n<=i:=hg;omega) fun h' eb=>⟨rfl,I.turned (t':=s.toks) (fun b o hb e=>eb b o hb e) f0 f1 f3 f4 f5⟩
 self:=fun _ _ _ _ _ st h=>wpAny_pyIter_rangeiter st h
def jxb_ (ta:TA):TI:=fun σ H R=>ta σ H fun vs H1=>∃ i j:Int,vs=[.int i,.int j,.int (-1)]/\(-1000000<=i/\i < 1000000/\-1000000<=j/\j < 1000000)/\R (Itq i (i - j).toNat) H1
section
variable {X:Cx}{tg:Expr}
theorem jxe_ {a b:Int}:st_ a b (-1)=if a > b then a - b else 0:=by
 unfold st_
 rw[if_neg (by decide)]
 split
 ·rw[show -(-1:Int)=1 by decide,ma_];omega
 ·rfl
theorem jyh_ {a b:Int}(h1:-1000000<=a)(h2:a < 1000000)(h3:-1000000<=b)(h4:b < 1000000):ly_ a b (-1)=true:=by
 unfold ly_
 rw[jxe_]
 simp only[Builtin.Range.rangeFitsLong,qe_,Bool.or_eq_true,decide_eq_true_eq,beq_iff_eq,show ¬ ((-1:Int) > 0) by decide,if_false]
 split <;> omega
theorem jpy_ {pins:List (Addr×Obj)}{σ:St}{H:Hp}{s:Shared}{R:It->Hp->Prop}{E:Value->Shared->Prop}{lo hi:Int}{t u v:Tok}{tk:Nat}(I:Inv X pins σ H s)(h1:-1000000<=lo)(h2:lo < 1000000)(h3:-1000000<=hi)(h4:hi < 1000000)
  (q:R (Itq lo (lo - hi).toNat) H):wpAny (model X.prog X.w) X.A (pyIter (.ref s.heap.objs.size)) (PIE X pins σ tg R) E { s with heap:=s.heap.push { cls:=.type "range",data:=.fields #[.int lo t,.int hi u,.int (-1) v] },toks:=tk }:=by
 refine wpAny_pyIter_range (IsRange.new ..) (jyh_ h1 h2 h3 h4) ?_
 have I1:Inv X pins σ H { s with heap:=s.heap.push { cls:=.type "range",data:=.fields #[.int lo t,.int hi u,.int (-1) v] },toks:=tk }:=I.kept fun b o e=>pi_ _ e
 refine⟨(s.heap.push { cls:=.type "range",data:=.fields #[.int lo t,.int hi u,.int (-1) v] }).objs.size,[(s.heap.push { cls:=.type "range",data:=.fields #[.int lo t,.int hi u,.int (-1) v] }).objs.size],_,_,H,rfl,
  I1.kept (t':=tk) fun b o e=>pi_ _ e,jjj_ _ lo (lo - hi).toNat,?_,fun b hb=>?_,q⟩
 ·have e1:lo+((0:Nat):Int) * (-1)=lo:=by simp
  have e2:(((lo - hi).toNat:Nat):Int) - ((0:Nat):Int)=st_ lo hi (-1):=by rw[jxe_];split <;> omega
  show IsRangeIter _ _ (lo+((0:Nat):Int) * (-1)) ((((lo - hi).toNat:Nat):Int) - ((0:Nat):Int)) (-1)
  rw[e1,e2]
  exact px_ _ rfl
 ·have e:b=(s.heap.push { cls:=.type "range",data:=.fields #[.int lo t,.int hi u,.int (-1) v] }).objs.size:=by simpa using hb
  subst e
  exact I1.fpOk (pm_ _) (I1.hok.fresh (pm_ _))
theorem joc_ {a b c:Expr}{ta:TA}{p pos:Pos}(hg:Gl X "range")(hm:X.mg "range"=none)(ha:PA X [a,b,c] ta)(hs:starEach [a,b,c] X.env=[(false,eval a X.env),(false,eval b X.env),(false,eval c X.env)]:=by rfl)(hs2:starEach [b,c] X.env=[(false,eval b X.env),(false,eval c X.env)]:=by rfl) :
  PI X tg (.Call (.Name "range" p) [a,b,c] [] pos) (jxb_ ta):=by
 intro pins s σ H R I h
 refine Call_ (x8_ I hg hm boot_range (rm_ (thn (ha pos pins s σ H _ I h) fun us s1 ⟨vs,H1,I1,r1,q1⟩=>?_) (by rw[hs,hs2]) (by rw[hs2];rfl)))
 obtain⟨i,j,e,⟨q1,q2,q3,q4⟩,q⟩:=q1
 subst e
 cases r1 with
 | cons r rr =>
  cases rr with
  | cons r' rr =>
   cases rr with
   | cons r2 rr =>
    cases rr
    obtain⟨t,rfl⟩:=r
    obtain⟨t',rfl⟩:=r'
    obtain⟨t2,rfl⟩:=r2
    exact call_range_3 (by decide) (jpy_ I1 q1 q2 q3 q4 q) (Or.inl (k2_ (by omega)))
end
theorem jzr_ {ta:TA}{σ:St}{H:Hp}{R:It->Hp->Prop}(h:ta σ H fun vs H1=>∃ i j:Int,vs=[.int i,.int j,.int (-1)]/\(-1000000<=i/\i < 1000000/\-1000000<=j/\j < 1000000)/\R (Itq i (i - j).toNat) H1):jxb_ ta σ H R:=h
theorem jjy_ {hi:Int}{n:Nat}{g:TG}{tb:TS}{D:Ends}{σ:St}{H:Hp}(Pv:Nat->St->Hp->Prop)(h0:Pv 0 σ H)
  (hs:∀ i σ H,i < n->Pv i σ H->g (.int (hi - i)) σ H fun σ2 H2=>tb { D with nx:=Pv (i+1),ct:=Pv (i+1),bk:=D.nx } σ2 H2) (hd:∀ σ H,Pv n σ H->D.nx σ H) :
  ∃ W:Nat->Nat->St->Hp->Prop,(∃ m,W 0 m σ H)/\∀ i m σ H,W i m σ H ->
   ((Itq hi n).stop i H/\D.nx σ H)∨((Itq hi n).go i H/\∃ N:St->Hp->Prop,(∀ σ' H',N σ' H'->∃ m',m' < m/\W (i+1) m' σ' H')/\∀ x H',(Itq hi n).yld i H x H'->g x σ H' fun σ2 H2=>tb { D with nx:=N,ct:=N,bk:=D.nx } σ2 H2):=by
 refine⟨fun i m σ H=>m=n - i/\i<=n/\Pv i σ H,⟨n,by simp,qj_ _,h0⟩,?_⟩
 rintro i m σ H ⟨rfl,hi,p⟩
 by_cases hlt:i < n
 ·refine .inr ⟨hlt,Pv (i+1),fun σ' H' p'=>⟨n - (i+1),by omega,rfl,hlt,p'⟩,fun x H' y=>?_⟩
  obtain⟨e,y⟩:=y
  subst e y
  exact hs i σ _ hlt p
 ·have e:i=n:=by omega
  subst e
  exact .inl ⟨pm_ _,hd σ H p⟩
end L2
set_option maxHeartbeats 4000000
namespace K44
theorem _root_.L2.Room.mo_ {k l:Nat}{A:PySem.Around}(h:L2.Room k A)(e:l<=k:=by first | decide | omega):L2.Room l A:=h.mono e
open PySem L2
local macro_rules | `(tactic| walk_at "f") => `(tactic| exact ⟨rfl,rfl,rfl,by decide +kernel,rfl,by decide +kernel,by decide +kernel⟩)
local macro_rules | `(tactic| walk_at "sc")=>`(tactic| first | assumption | omega | exact rfl | decide | exact szn (by omega) | (simp only[p3_,r7_,pb_,zl_] <;> omega) | trivial)
local macro_rules | `(tactic| walk_at "sq")=>`(tactic| first | assumption | exact vx_ | exact jpu_ | (exact j5_ (by assumption)) | (exact xf_ (by assumption)))
local macro_rules | `(tactic| walk_at "sl")=>`(tactic| first | assumption | exact SqL.of jb_ | exact SqL.of (by assumption))
local macro_rules | `(tactic| walk_at "st")=>`(tactic| first | assumption | exact SqT.of jb_ | exact SqT.of (by assumption))
local macro_rules | `(tactic| walk_at "lq")=>`(tactic| first | assumption | exact jsh_ | (exact u4_ (by assumption)))
local macro_rules | `(tactic| walk_at "at")=>`(tactic| first | exact atI_0 _ _ | exact atI_1 _ _ _ | exact atI_2 _ _ _ _ | exact atI_3 _ _ _ _ _ | assumption)
local macro_rules | `(tactic| walk_at "mu")=>`(tactic| first | (exact CMul.l (by omega) (by omega)) | (exact CMul.r (by omega) (by omega)) | (exact CMul.l (by decide) (by decide)) | (exact CMul.r (by decide) (by decide)))
local macro_rules | `(tactic| walk_at "sd")=>`(tactic| first | omega | (simp only[pe_,p3_,r7_,pb_,jq_] <;> omega))
local macro_rules | `(tactic| walk_at "g1")=>`(tactic| first
 | (with_reducible first | refine jwu_ ?_ | refine i_ifs ?_ | refine i_asg ?_ | refine i_op ?_) | ((with_reducible refine' i_var ?k1 ?_);(case k1=>exact rfl)) | (with_reducible first | refine i_c ?_ | refine i_ret ?_ | refine jzq_ ?_ | refine jxz_ ?_ | refine jy_ ?_ | refine jzx_ ?_ | refine zae_ ?_ | refine i_bl ?_ | refine i_fI0 ?_ | refine jed_ ?_) | ((with_reducible refine' i_fI ?k1 ?_);(case k1=>walk_at "sc")) | ((with_reducible refine' jxs_ ?k1 ?_);(case k1=>walk_at "mu")) | ((with_reducible refine' y3_ ?k1 ?k2 ?_);(case k1=>walk_at "sq");(case k2=>walk_at "at")) | (with_reducible first | refine jyv_ ?_ | refine i_nil ?_ | refine i_cb ?_ | refine jzf_ ?_ | refine i_and ?_ | refine i_or ?_ | refine i_not ?_ | refine jyf_ ?_ | refine i_ifE ?_ | refine jvn_ ?_ | refine i_un ?_ | refine i_neg ?_ | refine i_sl ?_ | refine jsi_ ?_ | refine jxw_ ?_ | refine i_exI ?_) | ((with_reducible refine' i_eq ?k1 ?_);(case k1=>exact rfl)) | ((with_reducible refine' i_ne ?k1 ?_);(case k1=>exact rfl)) | (with_reducible first | refine i_is ?_ | refine jvv_ ?_) | ((with_reducible refine' zaf_ ?k1 ?_);(case k1=>walk_at "sd")) | ((with_reducible refine' jrg_ ?k1 ?_);(case k1=>walk_at "sc")) | ((with_reducible refine' jzn_ ?k1 ?_);(case k1=>walk_at "sq")) | (with_reducible first | refine i_2I ?_ | refine jzc_ ?_) | ((with_reducible refine' jyx_ ?k1 ?_);(case k1=>walk_at "sd")) | ((with_reducible refine' i_slC ?k1 ?_);(case k1=>walk_at "sd")) | ((with_reducible refine' jsw_ ?k1 ?_);(case k1=>walk_at "sc")) | ((with_reducible refine' jxj_ ?k1 ?_);(case k1=>walk_at "sc")) | (with_reducible first | refine zac_ ?_ | refine i_SSI ?_) | ((with_reducible refine' jlp_ ?k1 ?k2 ?_);(case k1=>first | assumption | exact jb_);(case k2=>walk_at "sc")) | (with_reducible first | refine jzd_ ?_ | refine zaa_ ?_) | ((with_reducible refine' i_r1 ?k1 ?_);(case k1=>omega)) | (with_reducible first | refine zag_ ?_ | refine jxq_ ?_ | refine i_bm ?_ | refine i_bm0 ?_ | refine i_tyS ?_) | ((with_reducible refine' i_tyL ?k1 ?_);(case k1=>walk_at "sl")) | (with_reducible first | refine i_for ?_ | refine i_any ?_) | ((with_reducible refine' xg_ ?k1 ?_);(case k1=>walk_at "sl")) | ((with_reducible refine' jrh_ ?k1 ?_);(case k1=>walk_at "st")) | (with_reducible refine juh_ ?_) | ((with_reducible refine' jye_ ?k1 ?_);(case k1=>assumption)) | ((with_reducible refine' jwk_ ?k1 ?k2 ?_);(case k1=>assumption);(case k2=>walk_at "at")) | (with_reducible first | refine i_lst ?_ | refine i_tup ?_) | ((with_reducible refine' yl_ ?k1 ?_);(case k1=>first | exact rfl | decide)) | ((with_reducible refine' yp_ ?k1 ?_);(case k1=>first | exact rfl | decide)) | ((with_reducible refine' i_sz ?k1 ?_);(case k1=>exact szc rfl)) | ((with_reducible refine' i_isi ?k1 ?k2 ?_);(case k1=>first | exact rfl | (exact jwg_ (by assumption)) | (exact juw_ (by assumption)));(case k2=>exact rfl)) | ((with_reducible refine' i_r2 ?k1 ?_);(case k1=>omega)) | ((with_reducible show Ends.nx _ _ _);dsimp only) | ((with_reducible show Ends.rt _ _ _);dsimp only) | ((with_reducible refine' jmf_ ?k1 ?k2 ?_);(case k1=>first | assumption | exact jb_);(case k2=>first | exact rfl | (exact jjt_ (by omega) (by omega)))))
local macro_rules | `(tactic| walk_at "go")=>`(tactic| repeat (walk_at "g1"))
seal L2.PSs L2.PS L2.PE L2.PT L2.PA L2.PI L2.PG L2.PTs L2.PGs L2.PO L2.PW
noncomputable def top (i:Nat):Stmt:=PySem.Challenge.pw_breakwords_k44_whole_full_patterns.main.body.getD i (.Pass ⟨0,0,0,0⟩)
structure Txt (mg:Str->Option Value)(tk:Nat->Tok):Prop where
 z_len:mg "len"=none
 z_all:mg "all"=none
 z_range:mg "range"=none
 z_enumerate:mg "enumerate"=none
 z_isinstance:mg "isinstance"=none
 z_tuple:mg "tuple"=none
 z_list:mg "list"=none
 z_bool:mg "bool"=none
 z_str:mg "str"=none
 z_int:mg "int"=none
 z_max:mg "max"=none
 z_min:mg "min"=none
 z_sorted:mg "sorted"=none
 z_any:mg "any"=none
 z_reversed:mg "reversed"=none
noncomputable abbrev s_law_row:Stmt:=top 23
theorem sc_law_row:FnScope ["_law_script","_law_at","_law_bounds","_law_cell","_law_rest","_law_found","_law_k","_law_mixed"] ["_law_script","_law_at","_law_bounds"] (jp_ s_law_row):=by walk_at "f"
noncomputable abbrev s_law_letters:Stmt:=top 24
theorem sc_law_letters:FnScope ["_law_numbers","_law_letters_here","_law_step"] ["_law_numbers"] (jp_ s_law_letters):=by walk_at "f"
def jii_ (K:pc_):Sp:=fun vs H Q _=>∃(a:Addr) (ns:List Int) (k:Nat) (b:Addr) (bs:List Int),vs=[.ref a,.int (k:Int),.ref b]/\SqL K H a (ns.map V.int)/\k < 1000/\H b=some (.lst (bs.map V.int))/\bs.length<=100/\(∀ x∈bs,0 < x/\x < 1000000) /\
 ∀(r:Addr) (ds:List Int) (H':Hp),H r=none->H' r=some (.lst (ds.map V.int))->ds.length=bs.length->(∀(j:Nat) d c,ds[j]?=some d->bs[j]?=some c->0<=d/\d < c)->Same H H'->Q (.ref r) H'
noncomputable def lets (l:List Nat):List V:=l.map fun c=>V.str (S [c])
def jlv_:Sp:=fun vs H Q _=>∃(a:Addr) (x y z:Int),vs=[.ref a]/\H a=some (.lst [.int x,.int y,.int z])/\0<=x/\x < 26/\0<=y/\y < 6/\0<=z/\z < 3 /\
 ∀(r:Addr) (l:List Nat) (H':Hp),H r=none->H' r=some (.lst (lets l))->Low l->3<=l.length->l.length<=5->Same H H'->Q (.ref r) H'
theorem jzk_ {l:List Nat}(h:Low l):∀ c∈l,c < 128:=fun c hc=>by
 have:=h c hc
 unfold jwm_ at this
 simp at this
 omega
section
variable {P:Program}{w:World}{K:pc_}{mg:Str->Option Value}{base:Heap}{f:Addr}{fd:FuncData}{tk:Nat->Tok}
theorem jko_ (T:Txt mg tk)(F:Fun K "_law_row" "_law_row" s_law_row f fd):FnOk P w K mg base CX0 1 f fd ["_law_script","_law_at","_law_bounds"] (jii_ K):=by
 refine F.ok sc_law_row (fun vs H Q E h=>?_) (fun cdv A outer s H vs Q E hr h=>?_)
 ·obtain⟨a,ns,k,b,bs,rfl,_⟩:=h
  rfl
 obtain⟨a,ns,k,b,bs,rfl,hS,hk,hb,hbl,hbs,q⟩:=h
 have nd:=sc_law_row.nd
 refine⟨_,(je_ (jm_ (i:=3) nd rfl (Or.inl rfl) jf_)
  (je_ (y1_ (zd_ o_lt (pv 1) (jo_ (zm_ (K:=K)) rfl T.z_len (by decide +kernel) (ja_ (pv 0) jc_)) (j3_ _))
   (ji_ (jm_ (i:=3) nd rfl (Or.inl rfl) (jz_ (js_ (K:=K)) (pv 0) (pv 1) (fun _ _=>rfl))))
   z1_)
  (je_ (jm_ (i:=4) nd rfl (Or.inl rfl) (jk_ xr_ (pv 3) (jk_ jqt_ jf_ jf_)))
  (je_ (jm_ (i:=5) nd rfl (Or.inl rfl) (j6_ jc_))
  (je_ (j1_ pu_ rfl (zi_ rfl T.z_range (ja_ (jo_ (zm_ (K:=K)) rfl T.z_len (by decide +kernel) (ja_ (pv 2) jc_)) jc_)) (jj_ (i:=6) nd rfl (Or.inl rfl))
   (ji_ (y1_ (zd_ o_ge (pv 3) (jk_ jqt_ jf_ jf_) (j3_ _))
   (je_ (zp_ (z2_ (K:=K) p9_ q7_ q8_ yu_ (pv 5) (ja_ (jk_ xp_ (pv 4) (jz_ (js_ (K:=K)) (pv 2) (pv 6) (fun _ _=>rfl))) jc_)))
  (ji_ (jm_ (i:=4) nd rfl (Or.inl rfl) (jk_ jgg_ (pv 4) (jz_ (js_ (K:=K)) (pv 2) (pv 6) (fun _ _=>rfl))))))
   (je_ (jm_ (i:=7) nd rfl (Or.inl rfl) (jk_ jt_ (jk_ jt_ (jk_ yo_ (jk_ jt_ (jk_ xp_ (pv 3) jf_) jf_) jf_) (jk_ yo_ (jk_ yo_ (jk_ jt_ (pv 6) jf_) (jk_ jt_ (pv 6) jf_)) jf_)) (jk_ yo_ (pv 1) jf_)))
  (je_ (jm_ (i:=7) nd rfl (Or.inl rfl) (jk_ jgg_ (jk_ xp_ (jk_ yo_ (jk_ xp_ (pv 7) jf_) jf_) jf_) jf_))
  (ji_ (zp_ (z2_ (K:=K) p9_ q7_ q8_ yu_ (pv 5) (ja_ (jk_ xp_ (jk_ yo_ (pv 7) (jk_ jqt_ jf_ jf_)) (jz_ (js_ (K:=K)) (pv 2) (pv 6) (fun _ _=>rfl))) jc_)))))))))
  (ji_ (j2_ (pv 5)))))))),?_⟩
 rw[show L2.start ["_law_script","_law_at","_law_bounds","_law_cell","_law_rest","_law_found","_law_k","_law_mixed"] [.ref a,.int (k:Int),.ref b]=[some (.ref a),some (.int (k:Int)),some (.ref b),none,none,none,none,none] from rfl]
 have hlen:(ns.map V.int).length=ns.length:=pb_ _
 have hlen2:(bs.map V.int).length=bs.length:=pb_ _
 walk_at "go"
 refine iteD (fun c=>?_) (fun c=>?_)
 ·rw[hlen] at c
  have hix:k < ns.length:=by omega
  walk_at "go"
  refine jwk_ (v:=.int ns[k]) hS ?_ ?_
  ·exact z5_ (by omega) (by rw[pf_,show ((k:Int)).toNat=k by omega,pa_ hix];rfl)
  walk_at "go"
  intro r hr0
  have s1:=jd_ hr0 (.lst [])
  have hb1:=s1 _ _ hb
  walk_at "go"
  rw[hlen2]
  walk_at "go"
  refine ze_ (fun i σ H'=>∃(cell rest:Int) (v6 v7:Option V) (ds:List Int),σ=[some (.ref a),some (.int (k:Int)),some (.ref b),some (.int cell),some (.int rest),some (.ref r),v6,v7]/\ds.length=i/\(∀(j:Nat) d c,ds[j]?=some d->bs[j]?=some c->0<=d/\d < c)/\H' r=some (.lst (ds.map V.int))/\Same H H')
   ⟨_,_,none,none,[],rfl,rfl,(fun j d c e=>by simp at e),jb_,s1⟩ ?_ ?_
  ·rintro i σ H1 hi ⟨cell,rest,v6,v7,ds,rfl,hdl,hds,e1,s2⟩
   have hil:i < bs.length:=by omega
   have hb2:=s2 _ _ hb
   obtain⟨hc0,hc1⟩:=hbs _ (ps_ hil)
   have hdl2:(ds.map V.int).length < 1000000:=by rw[pb_];omega
   have hbi:atI (bs.map V.int) (0+(i:Int))=some (.int bs[i]):=z5_ (by omega) (by rw[show (0+(i:Int)).toNat=i by omega,pf_,pa_ hil];rfl)
   have hbe:bs[i]?=some bs[i]:=pa_ hil
   generalize bs[i]=m at hc0 hc1 hbi hbe
   have key:∀ d:Int,0<=d->d < m->(∀(j:Nat) d' c,(ds++[d])[j]?=some d'->bs[j]?=some c->0<=d'/\d' < c)/\(ds++[d]).length=i+1/\(upd H1 r (.lst (ds.map V.int++[.int d]))) r=some (.lst ((ds++[d]).map V.int))/\Same H (upd H1 r (.lst (ds.map V.int++[.int d]))):=fun d h0 h1=>by
    refine⟨fun j d' c e ec=>?_,by simp[hdl],by rw[jb_,ph_];rfl,fun b' o e=>?_⟩
    ·by_cases hj:j < ds.length
     ·rw[rw_ hj] at e
      exact hds j d' c e ec
     ·have hj2:j=ds.length:=by
       have:=(pj_.mp e).1
       simp at this;omega
      subst hj2
      rw[rb_ (pm_ _),t9_] at e
      simp only[kv_,l6_] at e
      rw[hdl,hbe] at ec
      cases ec
      subst e
      exact⟨h0,h1⟩
    ·have hbr:b'≠r:=fun z=>by rw[z,hr0] at e;cases e
     rw[jh_ hbr];exact s2 b' o e
   have hcd:CDiv rest m:=⟨hc0,by omega⟩
   have fin:∀ d:Int,0<=d->d < m->∀(cell rest:Int) (v6 v7:Option V),∃(cell' rest':Int) (v6' v7':Option V) (ds':List Int),[some (V.ref a),some (.int (k:Int)),some (.ref b),some (.int cell),some (.int rest),some (.ref r),v6,v7]=[some (V.ref a),some (.int (k:Int)),some (.ref b),some (.int cell'),some (.int rest'),some (.ref r),v6',v7']/\ds'.length=i+1/\(∀(j:Nat) d c,ds'[j]?=some d->bs[j]?=some c->0<=d/\d < c)/\(upd H1 r (.lst (ds.map V.int++[.int d]))) r=some (.lst (ds'.map V.int))/\Same H (upd H1 r (.lst (ds.map V.int++[.int d]))):=fun d h0 h1 cell rest v6 v7=>by
    obtain⟨k1,k2,k3,k4⟩:=key d h0 h1
    exact⟨cell,rest,v6,v7,ds++[d],rfl,k2,k1,k3,k4⟩
   walk_at "go"
   refine iteD (fun c=>?_) (fun c=>?_)
   ·walk_at "go"
    have hb3:=(key (rest % m) (r8_ _ (by omega)) (rq_ _ hc0)).2.2.2 _ _ hb
    walk_at "go"
    exact fin _ (r8_ _ (by omega)) (rq_ _ hc0) _ _ _ _
   ·walk_at "go"
    exact fin _ (r8_ _ (by omega)) (rq_ _ hc0) _ _ _ _
  ·rintro σ H1 ⟨cell,rest,v6,v7,ds,rfl,hdl,hds,e1,s2⟩
   walk_at "go"
   exact q r ds H1 hr0 e1 (by omega) hds s2
 ·skip
  walk_at "go"
  intro r hr0
  have s1:=jd_ hr0 (.lst [])
  have hb1:=s1 _ _ hb
  walk_at "go"
  rw[hlen2]
  walk_at "go"
  refine ze_ (fun i σ H'=>∃(cell rest:Int) (v6 v7:Option V) (ds:List Int),σ=[some (.ref a),some (.int (k:Int)),some (.ref b),some (.int cell),some (.int rest),some (.ref r),v6,v7]/\ds.length=i/\(∀(j:Nat) d c,ds[j]?=some d->bs[j]?=some c->0<=d/\d < c)/\H' r=some (.lst (ds.map V.int))/\Same H H')
   ⟨_,_,none,none,[],rfl,rfl,(fun j d c e=>by simp at e),jb_,s1⟩ ?_ ?_
  ·rintro i σ H1 hi ⟨cell,rest,v6,v7,ds,rfl,hdl,hds,e1,s2⟩
   have hil:i < bs.length:=by omega
   have hb2:=s2 _ _ hb
   obtain⟨hc0,hc1⟩:=hbs _ (ps_ hil)
   have hdl2:(ds.map V.int).length < 1000000:=by rw[pb_];omega
   have hbi:atI (bs.map V.int) (0+(i:Int))=some (.int bs[i]):=z5_ (by omega) (by rw[show (0+(i:Int)).toNat=i by omega,pf_,pa_ hil];rfl)
   have hbe:bs[i]?=some bs[i]:=pa_ hil
   generalize bs[i]=m at hc0 hc1 hbi hbe
   have key:∀ d:Int,0<=d->d < m->(∀(j:Nat) d' c,(ds++[d])[j]?=some d'->bs[j]?=some c->0<=d'/\d' < c)/\(ds++[d]).length=i+1/\(upd H1 r (.lst (ds.map V.int++[.int d]))) r=some (.lst ((ds++[d]).map V.int))/\Same H (upd H1 r (.lst (ds.map V.int++[.int d]))):=fun d h0 h1=>by
    refine⟨fun j d' c e ec=>?_,by simp[hdl],by rw[jb_,ph_];rfl,fun b' o e=>?_⟩
    ·by_cases hj:j < ds.length
     ·rw[rw_ hj] at e
      exact hds j d' c e ec
     ·have hj2:j=ds.length:=by
       have:=(pj_.mp e).1
       simp at this;omega
      subst hj2
      rw[rb_ (pm_ _),t9_] at e
      simp only[kv_,l6_] at e
      rw[hdl,hbe] at ec
      cases ec
      subst e
      exact⟨h0,h1⟩
    ·have hbr:b'≠r:=fun z=>by rw[z,hr0] at e;cases e
     rw[jh_ hbr];exact s2 b' o e
   have hcd:CDiv rest m:=⟨hc0,by omega⟩
   have fin:∀ d:Int,0<=d->d < m->∀(cell rest:Int) (v6 v7:Option V),∃(cell' rest':Int) (v6' v7':Option V) (ds':List Int),[some (V.ref a),some (.int (k:Int)),some (.ref b),some (.int cell),some (.int rest),some (.ref r),v6,v7]=[some (V.ref a),some (.int (k:Int)),some (.ref b),some (.int cell'),some (.int rest'),some (.ref r),v6',v7']/\ds'.length=i+1/\(∀(j:Nat) d c,ds'[j]?=some d->bs[j]?=some c->0<=d/\d < c)/\(upd H1 r (.lst (ds.map V.int++[.int d]))) r=some (.lst (ds'.map V.int))/\Same H (upd H1 r (.lst (ds.map V.int++[.int d]))):=fun d h0 h1 cell rest v6 v7=>by
    obtain⟨k1,k2,k3,k4⟩:=key d h0 h1
    exact⟨cell,rest,v6,v7,ds++[d],rfl,k2,k1,k3,k4⟩
   walk_at "go"
   refine iteD (fun c=>?_) (fun c=>?_)
   ·walk_at "go"
    have hb3:=(key (rest % m) (r8_ _ (by omega)) (rq_ _ hc0)).2.2.2 _ _ hb
    walk_at "go"
    exact fin _ (r8_ _ (by omega)) (rq_ _ hc0) _ _ _ _
   ·walk_at "go"
    exact fin _ (r8_ _ (by omega)) (rq_ _ hc0) _ _ _ _
  ·rintro σ H1 ⟨cell,rest,v6,v7,ds,rfl,hdl,hds,e1,s2⟩
   walk_at "go"
   exact q r ds H1 hr0 e1 (by omega) hds s2
theorem jdh_ (T:Txt mg tk)(F:Fun K "_law_letters" "_law_letters" s_law_letters f fd):FnOk P w K mg base CX0 1 f fd ["_law_numbers"] jlv_:=by
 refine F.ok sc_law_letters (fun vs H Q E h=>?_) (fun cdv A outer s H vs Q E hr h=>?_)
 ·obtain⟨a,x,y,z,rfl,_⟩:=h
  rfl
 obtain⟨a,x,y,z,rfl,ha,hx0,hx1,hy0,hy1,hz0,hz1,q⟩:=h
 have nd:=sc_law_letters.nd
 refine⟨_,(je_ (jm_ (i:=1) nd rfl (Or.inr rfl) y5_)
  (je_ (jm_ (i:=2) nd rfl (Or.inr rfl) (jz_ (js_ (K:=K)) (j6_ (ja_ jf_ (ja_ jf_ (ja_ jf_ (ja_ jf_ (ja_ jf_ (ja_ jf_ jc_))))))) (jz_ (js_ (K:=K)) (pv 0) jf_ (fun _ _=>rfl)) (fun _ _=>rfl)))
  (ji_ (j2_ (zo_ ["_law_letters_here","_law_numbers","_law_step","_law_k"] [some 1,some 0,some 2,none] rfl (by kernel_rfl) rfl (zi_ rfl T.z_range (ja_ (jk_ jt_ jf_ (jz_ (js_ (K:=K)) (pv 0) jf_ (fun _ _=>rfl))) jc_)) (fun _ _ _ _=>(jj_ (i:=3) (show (["_law_letters_here","_law_numbers","_law_step","_law_k"]:List Str).Nodup by decide +kernel) rfl (Or.inl rfl) (Or.inr rfl))) (fun _ _ _ _=>z6_) (fun _ _ _ _=>(jz_ (js_ (K:=K)) (pv 0) (jk_ xp_ (jk_ jt_ (jz_ (js_ (K:=K)) (pv 1) jf_ (fun _ _=>rfl)) (jk_ yo_ (pv 2) (pv 3))) jf_) (fun _ _=>rfl)))))))),?_⟩
 rw[show L2.start ["_law_numbers","_law_letters_here","_law_step"] [.ref a]=[some (.ref a),none,none] from rfl]
 rw[t_let]
 walk_at "go"
 intro b hb0
 have s1:=jd_ hb0 (.lst [.int 1,.int 3,.int 5,.int 7,.int 9,.int 11])
 have e1:=jb_ (H:=H) (a:=b) (o:=.lst [.int 1,.int 3,.int 5,.int 7,.int 9,.int 11])
 generalize upd H b (.lst [.int 1,.int 3,.int 5,.int 7,.int 9,.int 11])=H1 at s1 e1 ⊢
 have ha1:=s1 _ _ ha
 walk_at "go"
 obtain⟨st,hst,hst1,hst2⟩:∃ st:Int,atI [V.int 1,V.int 3,V.int 5,V.int 7,V.int 9,V.int 11] y=some (.int st)/\1<=st/\st<=11:=by
  have:y=0∨y=1∨y=2∨y=3∨y=4∨y=5:=by omega
  rcases this with rfl | rfl | rfl | rfl | rfl | rfl
  ·exact⟨1,by decide +kernel,by decide,by decide⟩
  ·exact⟨3,by decide +kernel,by decide,by decide⟩
  ·exact⟨5,by decide +kernel,by decide,by decide⟩
  ·exact⟨7,by decide +kernel,by decide,by decide⟩
  ·exact⟨9,by decide +kernel,by decide,by decide⟩
  ·exact⟨11,by decide +kernel,by decide,by decide⟩
 refine y3_ (j5_ e1) hst ?_
 walk_at "go"
 intro r hr0
 refine z7_ (fun i acc σ H'=>∃(v:Option V) (ws:List Nat),σ=[some (.str (S LETL)),some (.ref a),some (.int st),v]/\acc=lets ws/\ws.length=i/\Low ws/\Same H H'/\H' r=some (.lst acc))
  ⟨none,[],rfl,rfl,rfl,(fun c hc=>nomatch hc),s1.trans (jd_ hr0 _),jb_⟩ (fun i acc σ H' ⟨_,ws,_,e,e1,_,_,e2⟩=>⟨e2,by rw[e,lets,pb_];omega⟩) (szn (by omega)) ?_ ?_
 ·rintro i acc σ H' hi ⟨v,ws,rfl,rfl,hw1,hw2,s2,e2⟩
  have hll:(S LETL).length<=sizeLine:=szn (by rw[zl_];decide)
  have ha2:=s2 _ _ ha
  walk_at "go"
  have hl:LETL.length=26:=rfl
  have hc0:=r8_ (x+st * (0+(i:Int))) (show (26:Int)≠0 by decide)
  have hc1:=rq_ (x+st * (0+(i:Int))) (show (0:Int) < 26 by decide)
  generalize (x+st * (0+(i:Int))) % 26=c at hc0 hc1 ⊢
  have hcl:c.toNat < LETL.length:=by omega
  refine i_ixS (c:=LETL[c.toNat]) hll (z5_ hc0 (by rw[jwy_];simp[hcl])) ?_
  refine⟨e2,_,ws++[LETL[c.toNat]],rfl,by rw[lets,lets,ph_];rfl,by rw[pe_,hw1];rfl,jco_ hw2 (fun x hx=>?_),fun b o e=>?_,jb_⟩
  ·have:x=LETL[c.toNat]:=by simpa using hx
   rw[this]
   exact jsr_ _ (ps_ _)
  ·have hbr:b≠r:=fun z=>by
    rw[z] at e
    have:=s1 _ _ e
    rw[hr0] at this;cases this
   rw[jh_ hbr];exact s2 b o e
 ·rintro acc σ H' ⟨v,ws,rfl,rfl,hw1,hw2,s2,e2⟩
  exact q r ws H' (s1.free hr0) e2 hw2 (by omega) (by omega) s2
end
noncomputable abbrev s_fitting_places:Stmt:=top 1
theorem sc_fitting_places:FnScope ["signs","framed"] ["signs","framed"] (jp_ s_fitting_places):=by walk_at "f"
noncomputable abbrev s_values_by_fits:Stmt:=top 2
theorem sc_values_by_fits:FnScope ["fits","word","told","begin","numbers","place","number"] ["fits","word"] (jp_ s_values_by_fits):=by walk_at "f"
noncomputable abbrev s_values:Stmt:=top 3
theorem sc_values:FnScope ["patterns","word","framed","fits","pattern"] ["patterns","word"] (jp_ s_values):=by walk_at "f"
def jmy_:Sp:=fun vs H Q _=>∃(p f:List Nat),vs=[.str (S p),.str (S f)]/\p.length<=1000/\f.length<=1000/\∀(r:Addr) (H':Hp),H r=none->H' r=some (.lst ((jx_ p f).map fun k:Nat=>V.int (k:Int)))->Same H H'->Q (.ref r) H'
def yx_:Sp:=fun vs H Q _=>∃(v:V) (xs:List Pat) (w:List Nat),vs=[v,.str (S w)]/\Is H v (zc_ xs)/\(∀ x∈xs,1<=x.1.length/\x.1.length<=1000/\x.2.length<=x.1.length+1)/\xs.length<=9000/\1<=w.length/\w.length<=100 /\
 ∀(r:Addr) (H':Hp),H r=none->H' r=some (.lst ((vals xs w).map V.int))->Same H H'->Q (.ref r) H'
theorem jie_ {p f:List Nat}{b:Nat}(h:b∈jx_ p f):b+p.length<=f.length:=by
 unfold jx_ at h
 have:=(py_.mp h).2
 unfold fits at this
 simp only[qe_,decide_eq_true_eq] at this
 exact this.1
theorem vs_ (w:List Nat):[46]++w++[46]=frame w:=by simp[frame]
theorem jmu_ (t:List Int)(p:Nat)(v:Int)(h:p < t.length):(t.map V.int).set p (.int (if v > t[p] then v else t[p]))=(put t p v).map V.int:=by
 unfold put mx
 rw[List.map_set]
 have:t.getD p 0=t[p]:=by simp[pd_,h]
 rw[this]
def jds_:Sp:=fun vs H Q _=>∃(v:V) (xs:List Fit) (w:List Nat),vs=[v,.str (S w)]/\Is H v (jnf_ xs)/\(∀ x∈xs,x.1+x.2.length<=w.length+3)/\w.length<=100 /\
 ∀(r:Addr) (H':Hp),H r=none->H' r=some (.lst ((cutA (layF (pg_ (w.length+3) 0) xs) (some 2) (some (-2))).map V.int))->Same H H'->Q (.ref r) H'
section
variable {P:Program}{w:World}{K:pc_}{mg:Str->Option Value}{base:Heap}{f:Addr}{fd:FuncData}{tk:Nat->Tok}
theorem jai_ (T:Txt mg tk)(F:Fun K "fitting_places" "fitting_places" s_fitting_places f fd):FnOk P w K mg base CX0 1 f fd ["signs","framed"] jmy_:=by
 refine F.ok sc_fitting_places (fun vs H Q E h=>?_) (fun cdv A outer s H vs Q E hr h=>?_)
 ·obtain⟨p,f,rfl,_⟩:=h
  rfl
 obtain⟨p,fr,rfl,hp,hf,q⟩:=h
 have nd:=sc_fitting_places.nd
 refine⟨_,(ji_ (j2_ (zo_ ["framed","signs","place"] [some 1,some 0,none] rfl (by kernel_rfl) rfl (zi_ rfl T.z_range (ja_ (jo_ (zm_ (K:=K)) rfl T.z_len (by decide +kernel) (ja_ (pv 1) jc_)) jc_)) (fun _ _ _ _=>(jj_ (i:=2) (show (["framed","signs","place"]:List Str).Nodup by decide +kernel) rfl (Or.inl rfl) (Or.inr rfl))) (fun _ _ _ _=>(xu_ (x7_ (z2_ (K:=K) k6_ PySem.F.slot_str_startswith PySem.F.type_str_startswith jep_ (pv 0) (ja_ (pv 1) (ja_ (pv 2) jc_))) (fun _=>rfl)))) (fun _ _ _ _=>(pv 2))))),?_⟩
 rw[show L2.start ["signs","framed"] [.str (S p),.str (S fr)]=[some (.str (S p)),some (.str (S fr))] from rfl]
 walk_at "go"
 intro r hr0
 refine z7_ (fun i acc σ H'=>∃ v,σ=[some (.str (S fr)),some (.str (S p)),v]/\acc=(((po_ i).filter (fits p fr)).map fun k:Nat=>V.int (k:Int))/\Same H H'/\H' r=some (.lst acc))
  ⟨none,rfl,rfl,jd_ hr0 _,jb_⟩ (fun i acc σ H' ⟨_,_,e,_,e2⟩=>⟨e2,by rw[e,pb_];exact p7_ (qf_ _ _) (by simp)⟩) (szn (by omega)) ?_ ?_
 ·rintro i acc σ H' hi ⟨v,rfl,rfl,s1,e1⟩
  walk_at "go"
  rw[ll_,jpb_]
  refine iteB (fun c=>?_) (fun c=>?_)
  ·walk_at "go"
   refine⟨e1,_,rfl,?_,fun b o e=>?_,jb_⟩
   ·rw[qm_,qd_,ph_,pz_,c,if_pos rfl];rfl
   ·have hb:b≠r:=fun z=>by rw[z,hr0] at e;cases e
    rw[jh_ hb];exact s1 b o e
  ·refine⟨_,rfl,?_,s1,?_⟩
   ·rw[qm_,qd_,ph_,pz_,c,if_neg pk_];simp
   ·exact e1
 ·rintro acc σ H' ⟨v,rfl,rfl,s1,e1⟩
  refine q r H' hr0 ?_ s1
  rw[e1]
  show _=some (HO.lst (((po_ fr.length).filter (fits p fr)).map _))
  simp
theorem u5_ (T:Txt mg tk)(F:Fun K "values_by_fits" "values_by_fits" s_values_by_fits f fd):FnOk P w K mg base CX0 1 f fd ["fits","word"] jds_:=by
 refine F.ok sc_values_by_fits (fun vs H Q E h=>?_) (fun cdv A outer s H vs Q E hr h=>?_)
 ·obtain⟨v,xs,w,rfl,_⟩:=h
  rfl
 obtain⟨v,xs,w',rfl,hv,hxs,hw2,q⟩:=h
 obtain⟨a,ys,rfl,ha,hys⟩:=jyb_ hv
 have nd:=sc_values_by_fits.nd
 refine⟨_,(je_ (jm_ (i:=2) nd rfl (Or.inl rfl) (jk_ yo_ (j6_ (ja_ jf_ jc_)) (jk_ jt_ (jo_ (zm_ (K:=K)) rfl T.z_len (by decide +kernel) (ja_ (pv 1) jc_)) jf_)))
  (je_ (j1_ pu_ rfl (zb_ (K:=K) (pv 0)) (yi_ rfl (jr_ (jj_ (i:=3) nd rfl (Or.inl rfl)) (jr_ (jj_ (i:=4) nd rfl (Or.inl rfl)) zu_)))
   (ji_ (j1_ pu_ rfl (jda_ rfl T.z_enumerate (pv 4) (pv 3)) (yi_ rfl (jr_ (jj_ (i:=5) nd rfl (Or.inl rfl)) (jr_ (jj_ (i:=6) nd rfl (Or.inl rfl)) zu_)))
   (ji_ (jct_ (jo_ (jrx_ rfl) rfl T.z_max (by decide +kernel) (ja_ (jz_ (js_ (K:=K)) (pv 2) (pv 5) (fun _ _=>rfl)) (ja_ (pv 6) jc_))) (jkv_ (pv 2) (pv 5) jsb_))))))
  (ji_ (j2_ (y0_ (vw_ (K:=K)) (pv 2) (z0_ jf_) (z0_ (jmn_ jnc_ jf_))))))),?_⟩
 rw[show L2.start ["fits","word","told","begin","numbers","place","number"] [.ref a,.str (S w')]=[some (.ref a),some (.str (S w')),none,none,none,none,none] from rfl]
 walk_at "go"
 intro b0 hb0
 walk_at "go"
 refine ul_ jb_ (by omega) fun t ht0=>?_
 have hrep:(pg_ (((w'.length:Nat):Int)+3).toNat (V.int 0))=(pg_ (w'.length+3) (0:Int)).map V.int:=by
  rw[to_];congr 1
 rw[hrep]
 have s0:Same H (upd (upd H b0 (.lst [.int 0])) t (.lst ((pg_ (w'.length+3) (0:Int)).map V.int))):=(jd_ hb0 _).trans (jd_ ht0 _)
 have htH:H t=none:=(jd_ hb0 _).free ht0
 have ha0:=s0 _ _ ha
 walk_at "go"
 refine zh_ (K:=K) (xs:=ys) (fun i σ H'=>∃(v3 v4 v5 v6:Option V),σ=[some (.ref a),some (.str (S w')),some (.ref t),v3,v4,v5,v6]/\H' t=some (.lst ((layF (pg_ (w'.length+3) 0) (xs.take i)).map V.int))/\Same H H')
  ⟨none,none,none,none,rfl,jb_,s0⟩ (fun i σ H' _ ⟨_,_,_,_,_,_,s1⟩=>SqL.of (s1 _ _ ha)) ?_ ?_
 ·rintro i x σ H1 hx ⟨v3,v4,v5,v6,rfl,e1,s1⟩
  have hil:i < xs.length:=by
   have h1:=(pj_.mp hx).1
   have h2:=hys.length
   rw[pb_] at h2;omega
  obtain⟨x',d,hx1,hx2,hx3⟩:=IsL.get hys (i:=i) (by rw[pb_];exact hil)
  rw[hx] at hx1
  cases hx1
  rw[pf_,pa_ hil] at hx2
  cases hx2
  obtain⟨pa,nt,rfl,hpa,hnt⟩:=isFit hx3
  have hg:=hxs _ (ps_ hil)
  have hpa1:=s1 _ _ hpa
  have hnt1:=s1 _ _ hnt
  have hT1:=jbf_ (xs.take i) (pg_ (w'.length+3) 0)
  rw[q9_] at hT1
  rw[jow_ hil]
  generalize layF (pg_ (w'.length+3) 0) (xs.take i)=T1 at e1 hT1 ⊢
  generalize xs[i]=xi at hg hpa1 hnt1 hnt ⊢
  obtain⟨b,ns⟩:=xi
  refine yq_ hpa1 rfl (jv_ (jy_ (jv_ (jy_ (z9_ ?_)))))
  have hg:b+ns.length<=w'.length+3:=hg
  have hnt1:H1 nt=some (.tup (ns.map V.int)):=hnt1
  have hnt:H nt=some (.tup (ns.map V.int)):=hnt
  walk_at "go"
  refine⟨b,rfl,by omega,jzv_ hnt1 ?_⟩
  refine jqm_ (b:=b) (xs:=ns.map V.int) (fun k σ H'=>∃(v5 v6:Option V),σ=[some (.ref a),some (.str (S w')),some (.ref t),some (.int (b:Int)),some (.ref nt),v5,v6]/\H' t=some (.lst ((laid T1 b (ns.take k)).map V.int))/\Same H H')
   ⟨_,_,rfl,e1,s1⟩ (fun k σ H' _ ⟨_,_,_,_,s4⟩=>s4 _ _ hnt) ?_ ?_
  ·rintro k z σ H4 T4 hz ⟨v5,v6,rfl,e4,s4⟩ hT4
   have hkl:k < ns.length:=by
    have:=(pj_.mp hz).1
    simpa using this
   rw[pf_,pa_ hkl] at hz
   cases hz
   have htT:t≠T4:=jg_ e4 hT4
   have hL2:=yz_ (ns.take k) T1 b
   have htk2:ns.take (k+1)=ns.take k++[ns[k]]:=by rw[p8_,pa_ hkl];rfl
   have hsn:=jap_ b ns[k] (ns.take k) T1 b
   rw[<- htk2,pw_,Nat.min_eq_left (s0_ hkl)] at hsn
   rw[hsn]
   generalize laid T1 b (ns.take k)=T2 at e4 hL2 ⊢
   have e5:(upd H4 T4 (PrX T4 [.int ((b:Int)+(k:Int)),.int ns[k]])) t=some (.lst (T2.map V.int)):=by rw[jh_ htT];exact e4
   have hbk:b+k < T2.length:=by omega
   refine jgd_ jb_ rfl (jv_ (jy_ (jv_ (jy_ (z9_ ?_)))))
   walk_at "go"
   refine y3_ (v:=.int T2[b+k]) (j5_ e5) (z5_ (by omega) (by rw[show ((b:Int)+(k:Int)).toNat=b+k by omega,pf_,pa_ hbk];rfl)) ?_
   walk_at "go"
   refine jmf_ (j:=b+k) e5 (by rw[pb_];rw[jjt_ (by omega) (by omega)];rfl) ?_
   rw[jmu_ T2 (b+k) ns[k] hbk]
   walk_at "go"
   refine⟨_,_,rfl,jb_,fun c o e=>?_⟩
   have hct:c≠t:=fun z=>by rw[z,htH] at e;cases e
   rw[jh_ hct]
   exact(jd_ hT4 _) c o (s4 c o e)
  ·rintro σ H4 ⟨v5,v6,rfl,e4,s4⟩
   rw[pb_,p0_] at e4
   walk_at "go"
   exact⟨_,_,_,_,rfl,e4,s4⟩
 ·rintro σ H1 ⟨v3,v4,v5,v6,rfl,e1,s1⟩
  have h2:=hys.length
  rw[pb_] at h2
  rw[h2,p0_] at e1
  walk_at "go"
  refine jjf_ (SqL.of e1) fun r hr1=>?_
  rw[ux_,u8_]
  walk_at "go"
  exact q r _ (s1.free hr1) jb_ (s1.trans (jd_ hr1 _))
theorem jnr_ (T:Txt mg tk)(F:Fun K "values" "values" s_values f fd)(D_fitting_places:Dn P w K mg base "fitting_places" 1 ["signs","framed"] jmy_)(D_values_by_fits:Dn P w K mg base "values_by_fits" 1 ["fits","word"] jds_):FnOk P w K mg base CX0 2 f fd ["patterns","word"] yx_:=by
 refine F.ok sc_values (fun vs H Q E h=>?_) (fun cdv A outer s H vs Q E hr h=>?_)
 ·obtain⟨v,xs,w,rfl,_⟩:=h
  rfl
 obtain⟨v,xs,w',rfl,hv,hxs,hxl,hw1,hw2,q⟩:=h
 obtain⟨a,ys,rfl,ha,hys⟩:=yt_ hv
 have nd:=sc_values.nd
 refine⟨_,(je_ (jm_ (i:=2) nd rfl (Or.inl rfl) (jk_ jt_ (jk_ jt_ y5_ (pv 1)) y5_))
  (je_ (jm_ (i:=3) nd rfl (Or.inl rfl) (j6_ jc_))
  (je_ (j1_ pu_ rfl (zb_ (K:=K) (pv 0)) (jj_ (i:=4) nd rfl (Or.inr rfl))
   (ji_ (zp_ (z2_ (K:=K) p9_ rj_ rk_ xc_ (pv 3) (ja_ (zo_ ["pattern","begin"] [some 4,none] rfl (by kernel_rfl) rfl (zb_ (K:=K) (jn_ D_fitting_places hr.mo_ rfl (ja_ (jz_ (js_ (K:=K)) (pv 4) jf_ (fun _ _=>rfl)) (ja_ (pv 2) jc_)))) (fun _ _ _ _=>(jj_ (i:=1) (show (["pattern","begin"]:List Str).Nodup by decide +kernel) rfl (Or.inl rfl) (Or.inr rfl))) (fun _ _ _ _=>z6_) (fun _ _ _ _=>(zx_ (ja_ (pv 1) (ja_ (jz_ (js_ (K:=K)) (pv 0) jf_ (fun _ _=>rfl)) jc_))))) jc_)))))
  (ji_ (j2_ (jn_ D_values_by_fits hr.mo_ rfl (ja_ (pv 3) (ja_ (pv 1) jc_)))))))),?_⟩
 rw[show L2.start ["patterns","word","framed","fits","pattern"] [.ref a,.str (S w')]=[some (.ref a),some (.str (S w')),none,none,none] from rfl]
 rw[jjn_]
 have hfl:=jq_ w'
 walk_at "go"
 rw[vs_]
 intro r hr0
 have ra:(upd H r (.lst [])) a=some (.lst ys):=(jd_ hr0 _) _ _ ha
 walk_at "go"
 refine zh_ (K:=K) (xs:=ys) (fun i σ H'=>∃(v4:Option V) (zs:List V),σ=[some (.ref a),some (.str (S w')),some (.str (S (frame w'))),some (.ref r),v4]/\H' r=some (.lst zs)/\IsL H' zs ((y4_ (frame w') (xs.take i)).map fitD)/\Same H H')
  ⟨none,[],rfl,jb_,(by simp[y4_,L2.IsL]),jd_ hr0 _⟩ (fun i σ H' _ ⟨_,_,_,_,_,s1⟩=>SqL.of (s1 _ _ ha)) ?_ ?_
 ·rintro i x σ H1 hx ⟨v4,zs,rfl,e1,hz1,s1⟩
  have hil:i < xs.length:=by
   have h1:=(pj_.mp hx).1
   have h2:=hys.length
   rw[pb_] at h2;omega
  obtain⟨x',d,hx1,hx2,hx3⟩:=IsL.get hys (i:=i) (by rw[pb_];exact hil)
  rw[hx] at hx1
  cases hx1
  rw[pf_,pa_ hil] at hx2
  cases hx2
  obtain⟨pa,nt,rfl,hpa,hnt⟩:=xk_ hx3
  obtain⟨hg1,hg2,hg3⟩:=hxs _ (ps_ hil)
  have hpa1:=s1 _ _ hpa
  have hnt1:=s1 _ _ hnt
  have hzl:zs.length<=9000 * 102:=by
   have h1:=hz1.length
   rw[pb_] at h1
   have h2:=jcw_ (frame w') (xs.take i)
   have h3:(xs.take i).length<=9000:=by rw[pw_];omega
   have h4:(xs.take i).length * (frame w').length<=9000 * 102:=t6_ h3 (by omega)
   omega
  rw[jil_ hil]
  generalize xs[i]=xi at hpa hnt hpa1 hnt1 hg1 hg2 hg3 ⊢
  walk_at "go"
  refine⟨xi.1,frame w',rfl,hg2,by omega,fun p H2 hp2 e2 s2=>?_⟩
  have hpa2:=s2 _ _ hpa1
  have hpl:=v9_ xi.1 (frame w')
  walk_at "go"
  intro c hc0
  have rc:r≠c:=jg_ (s2 _ _ e1) hc0
  refine zr_ (K:=K) (xs:=(jx_ xi.1 (frame w')).map fun k:Nat=>V.int (k:Int)) (fun j acc σ H'=>∃ v,σ=[some (.ref pa),v]/\acc.length=j/\H' c=some (.lst acc)/\IsL H' acc ((((jx_ xi.1 (frame w')).take j).map fun b=>(b,xi.2)).map fitD)/\Same H2 H')
   (fun j acc σ H' _ ⟨_,_,_,_,_,s3⟩=>SqL.of (s3 _ _ e2)) ⟨none,rfl,rfl,jb_,(by simp[L2.IsL]),jd_ hc0 _⟩ (fun j acc σ H' ⟨_,_,e,e3,_⟩=>⟨e3,s1_ e⟩) (szn (by rw[pb_];omega)) ?_ ?_
  ·rintro j acc σ H3 hj ⟨v,rfl,hal,e3,hz3,s3⟩
   have hj':j < (jx_ xi.1 (frame w')).length:=by simpa using hj
   have hpa3:=s3 _ _ hpa2
   have hgd:((jx_ xi.1 (frame w')).map fun k:Nat=>V.int (k:Int)).getD j .non=V.int ((jx_ xi.1 (frame w'))[j]:Int):=by
    rw[pd_,pf_,pa_ hj'];rfl
   rw[hgd]
   walk_at "go"
   intro t ht0
   have tc:c≠t:=jg_ e3 ht0
   have e4:(upd H3 t (.tup [.int ((jx_ xi.1 (frame w'))[j]:Int),.ref nt])) c=some (.lst acc):=by rw[jh_ tc];exact e3
   have k4:Tk H3 (upd (upd H3 t (.tup [.int ((jx_ xi.1 (frame w'))[j]:Int),.ref nt])) c (.lst (acc++[.ref t]))):=(Tk.new ht0 _).trans (Tk.lst e4 _)
   refine⟨e4,_,rfl,by simp[hal],jb_,?_,fun b o e=>?_⟩
   ·have htk:(jx_ xi.1 (frame w')).take (j+1)=(jx_ xi.1 (frame w')).take j++[(jx_ xi.1 (frame w'))[j]]:=by rw[p8_,pa_ hj'];rfl
    rw[htk,ph_,ph_]
    refine IsL.snoc (IsL.tk k4 (us_ _) hz3) (jto_ (x:=((jx_ xi.1 (frame w'))[j],xi.2)) ?_ (k4 _ _ (s3 _ _ (s2 _ _ hnt1))))
    rw[jh_ tc.symm];exact jb_
   ·have hbc:b≠c:=fun z=>by rw[z,hc0] at e;cases e
    rw[jh_ hbc];exact(jd_ ht0 _) _ _ (s3 _ _ e)
  ·rintro acc σ H3 ⟨v,rfl,hal,e3,hz3,s3⟩
   rw[pb_] at hal hz3
   rw[p0_] at hz3
   have e3r:H3 r=some (.lst zs):=s3 _ _ (s2 _ _ e1)
   walk_at "go"
   refine jba_ e3r e3 (szn (by omega)) ?_
   walk_at "go"
   have k5:Tk H3 (upd H3 r (.lst (zs++acc))):=Tk.lst e3r _
   refine⟨_,zs++acc,rfl,jb_,?_,fun b o e=>?_⟩
   ·rw[ph_]
    exact IsL.append (IsL.tk k5 (us_ _) (IsL.same (s2.trans s3) hz1)) (IsL.tk k5 (us_ _) hz3)
   ·have hbr:b≠r:=fun z=>by rw[z,hr0] at e;cases e
    rw[jh_ hbr];exact s3 _ _ (s2 _ _ (s1 _ _ e))
 ·rintro σ H1 ⟨v4,zs,rfl,e1,hz1,s1⟩
  have h2:=hys.length
  rw[pb_] at h2
  rw[h2,p0_] at hz1
  walk_at "go"
  refine⟨.ref r,y4_ (frame w') xs,w',rfl,?_,fun y hy=>?_,hw2,fun r2 H2 hr2 e2 s2=>?_⟩
  ·simp only[Is,jnf_];exact⟨r,zs,rfl,e1,hz1⟩
  ·obtain⟨x,hx,hp,he⟩:=jkq_ hy
   have h3:=jie_ hp
   have h4:=(hxs x hx).2.2
   rw[he];omega
  ·rw[jbp_,show w'.length+3=(frame w').length+1 by omega,u1_ xs w' hw1] at e2
   exact q r2 H2 (s1.free hr2) e2 (s1.trans s2)
end
theorem jhc_ {X:Cx}{es:List Expr}{k:Nat}{pos:Pos}{t:TGs}{n:Nat}{K:pc_}(hK:X.K=K)(hc:X.calm=true)(h:PGs X es t)
  (hn:(assignEach es X.env).length=n:=by rfl) (hst:(assignEach es X.env).findIdx? (·.1)=none:=by rfl):PG X (.Tuple es k pos) (gTup K n t):=hK▸yi_ hc h hn hst
noncomputable abbrev s_breaks:Stmt:=top 4
theorem sc_breaks:FnScope ["patterns","word"] ["patterns","word"] (jp_ s_breaks):=by walk_at "f"
theorem jwi_ {b:Nat}{xs:List V}{ok:Hp->Prop}{p:Addr}{g:TG}{tc:TT}{te:TE}{Q:VK}{σ0:St}{H0:Hp}(Pv:Nat->List V->St->Hp->Prop)
  (hok:∀ i acc σ H,i<=xs.length->Pv i acc σ H->ok H) (h0:Pv 0 [] σ0 H0) (hp:∀ i acc σ H,Pv i acc σ H->H p=some (.lst acc)/\acc.length<=i) (hz:xs.length<=sizeLine)
  (hs:∀ i v acc σ H T,xs[i]?=some v->Pv i acc σ H->H T=none->g (.ref T) σ (upd H T (PrX T [.int ((b:Int)+(i:Int)),v])) fun σ3 H3=>tc σ3 H3 fun bb H4 =>
   if bb=true then te σ3 H4 fun v H5=>H5 p=some (.lst acc)/\Pv (i+1) (acc++[v]) σ3 (upd H5 p (.lst (acc++[v]))) else Pv (i+1) acc σ3 H4)
  (hd:∀ acc σ H,Pv xs.length acc σ H->Q (.ref p) H):xe_ (Ien b xs ok) p g tc te Q σ0 H0:=by
 refine⟨fun i m acc σ H=>m=xs.length - i/\i<=xs.length/\Pv i acc σ H,⟨xs.length,by simp,qj_ _,h0⟩,fun i m acc σ' H' w=>?_⟩
 obtain⟨rfl,hi,q⟩:=w
 obtain⟨q1,q2⟩:=hp i acc σ' H' q
 have ho:=hok i acc σ' H' hi q
 refine⟨q1,?_⟩
 by_cases hlt:i < xs.length
 ·refine .inr ⟨⟨ho,hlt⟩,by omega,Pv (i+1),fun a' σ3 H3 k=>⟨xs.length - (i+1),by omega,rfl,hlt,k⟩,fun x H2 y=>?_⟩
  obtain⟨T,v,hT,hv,rfl,rfl⟩:=y
  exact hs i v acc σ' H' T hv q hT
 ·have e:i=xs.length:=by omega
  subst e
  exact .inl ⟨⟨ho,rfl⟩,hd acc σ' H' q⟩
noncomputable def j8_ (vs:List Int)(j:Nat):Bool:=decide (vs.getD j 0 % 2=1)
noncomputable def brks (vs:List Int):List Int:=((po_ vs.length).filter (j8_ vs)).map fun j:Nat=>(j:Int)+1
noncomputable def vi_ (vs:List Int)(i:Nat):List V:=((po_ i).filter (j8_ vs)).map fun j:Nat=>V.int ((j:Int)+1)
theorem jpz_ (vs:List Int):vi_ vs vs.length=(brks vs).map V.int:=by unfold vi_ brks;rw[qy_];rfl
theorem jnz_ {vs:List Int}{i:Nat}(h:j8_ vs i=true):vi_ vs (i+1)=vi_ vs i++[V.int ((i:Int)+1)]:=by
 unfold vi_;rw[qm_,qd_,ph_,pz_,h,if_pos rfl];rfl
theorem jsn_ {vs:List Int}{i:Nat}(h:j8_ vs i=false):vi_ vs (i+1)=vi_ vs i:=by
 unfold vi_;rw[qm_,qd_,ph_,pz_,h,if_neg pk_];simp
theorem jom_ (vs:List Int)(i:Nat):(vi_ vs i).length<=i:=by
 unfold vi_;rw[pb_];exact p7_ (qf_ _ _) (by simp)
def jcr_:Sp:=fun vs H Q _=>∃(v:V) (xs:List Pat) (w:List Nat),vs=[v,.str (S w)]/\Is H v (zc_ xs)/\(∀ x∈xs,1<=x.1.length/\x.1.length<=1000/\x.2.length<=x.1.length+1)/\xs.length<=9000/\1<=w.length/\w.length<=100 /\
 ∀(t:Addr) (H':Hp),H' t=some (.tup ((brks (vals xs w)).map V.int))->Same H H'->Q (.ref t) H'
section
variable {P:Program}{w:World}{K:pc_}{mg:Str->Option Value}{base:Heap}{f:Addr}{fd:FuncData}{tk:Nat->Tok}
theorem jph_ (T:Txt mg tk)(F:Fun K "breaks" "breaks" s_breaks f fd)(D_values:Dn P w K mg base "values" 2 ["patterns","word"] yx_):FnOk P w K mg base CX0 3 f fd ["patterns","word"] jcr_:=by
 refine F.ok sc_breaks (fun vs H Q E h=>?_) (fun cdv A outer s H vs Q E hr h=>?_)
 ·obtain⟨v,xs,w,rfl,_⟩:=h
  rfl
 obtain⟨v,xs,w',rfl,hv,hxs,hxl,hw1,hw2,q⟩:=h
 have nd:=sc_breaks.nd
 have hvl:=yy_ xs w'
 refine⟨_,(ji_ (j2_ (zk_ jaj_ rfl T.z_tuple (by decide +kernel) (ja_ (zo_ ["gap","value"] [none,none] rfl (by kernel_rfl) rfl (jda_ rfl T.z_enumerate (jn_ D_values hr.mo_ rfl (ja_ (pv 0) (ja_ (pv 1) jc_))) jf_) (fun _ _ _ _=>(jhc_ (K:=K) (n:=2) rfl rfl (jr_ (jj_ (i:=0) (show (["gap","value"]:List Str).Nodup by decide +kernel) rfl (Or.inl rfl) (Or.inr rfl)) (jr_ (jj_ (i:=1) (show (["gap","value"]:List Str).Nodup by decide +kernel) rfl (Or.inl rfl) (Or.inr rfl)) zu_)))) (fun _ _ _ _=>(xu_ (zd_ (o_eq hr.units) (jk_ xp_ (pv 1) jf_) jf_ (j3_ _)))) (fun _ _ _ _=>(pv 0))) jc_)))),?_⟩
 rw[show L2.start ["patterns","word"] [v,.str (S w')]=[some (v),some (.str (S w'))] from rfl]
 walk_at "go"
 refine⟨v,xs,w',rfl,hv,hxs,hxl,hw1,hw2,fun a H1 ha0 e1 s1=>?_⟩
 walk_at "go"
 refine⟨1,rfl,by decide,jse_ e1 ?_⟩
 intro r hr0
 have ar:a≠r:=jg_ e1 hr0
 refine jwi_ (b:=1) (xs:=(vals xs w').map V.int) (fun i acc σ H'=>∃ v1 v2,σ=[v1,v2]/\acc=vi_ (vals xs w') i/\Same H1 H'/\H' r=some (.lst acc))
  (fun i acc σ H' _ ⟨_,_,_,_,s2,_⟩=>s2 _ _ e1) ⟨none,none,rfl,rfl,jd_ hr0 _,jb_⟩ (fun i acc σ H' ⟨_,_,_,e,_,e2⟩=>⟨e2,by rw[e];exact jom_ _ _⟩) (szn (by rw[pb_];omega)) ?_ ?_
 ·rintro i z acc σ H2 T2 hz ⟨v1,v2,rfl,rfl,s2,e2⟩ hT
  have hil:i < (vals xs w').length:=by
   have:=(pj_.mp hz).1
   simpa using this
  rw[pf_,pa_ hil] at hz
  cases hz
  have hod:j8_ (vals xs w') i=decide ((vals xs w')[i] % 2=1):=by unfold j8_;simp[pd_,hil]
  have rT:r≠T2:=jg_ e2 hT
  have s3:=jd_ hT (PrX T2 [.int (((1:Nat):Int)+(i:Int)),.int (vals xs w')[i]])
  have e3:(upd H2 T2 (PrX T2 [.int (((1:Nat):Int)+(i:Int)),.int (vals xs w')[i]])) r=some (.lst (vi_ (vals xs w') i)):=s3 _ _ e2
  refine jgd_ jb_ rfl (jv_ (jy_ (jv_ (jy_ (z9_ ?_)))))
  walk_at "go"
  refine iteD (fun c=>?_) (fun c=>?_)
  ·have c':(vals xs w')[i] % 2=1:=by injection c
   walk_at "go"
   have hb:=jnz_ (vs:=vals xs w') (i:=i) (by rw[hod];exact decide_eq_true c')
   have he:V.int (((1:Nat):Int)+(i:Int))=V.int ((i:Int)+1):=by congr 1;omega
   refine⟨e3,_,_,rfl,by rw[hb,he],fun b o e=>?_,jb_⟩
   have hbr:b≠r:=fun z=>by rw[z,hr0] at e;cases e
   rw[jh_ hbr];exact s3 _ _ (s2 b o e)
  ·have c':¬ (vals xs w')[i] % 2=1:=fun z=>c (by rw[z])
   have hb:=jsn_ (vs:=vals xs w') (i:=i) (by rw[hod];exact decide_eq_false c')
   exact⟨_,_,rfl,hb.symm,s2.trans s3,by rw[e3]⟩
 ·rintro acc σ H2 ⟨v1,v2,rfl,rfl,s2,e2⟩
  rw[pb_,jpz_] at e2
  walk_at "go"
  refine vq_ (j5_ e2) fun t H3 ht k3=>?_
  walk_at "go"
  exact q t H3 ht ((s1.trans s2).trans k3)
end
noncomputable abbrev s_law_values:Stmt:=top 25
theorem sc_law_values:FnScope ["_law_patterns","_law_word","_law_text","_law_best","_law_signs","_law_numbers","_law_begin","_law_k"] ["_law_patterns","_law_word"] (jp_ s_law_values):=by walk_at "f"
theorem jgi_ {p f:List Nat}(hp:p≠[]):(po_ ((f.length:Int) - (p.length:Int)+1).toNat).filter (fits p f)=jx_ p f:=by
 have hp1:1<=p.length:=tf_.mpr hp
 unfold jx_
 obtain⟨m,hm⟩:∃ m,f.length=((f.length:Int) - (p.length:Int)+1).toNat+m:=⟨f.length - ((f.length:Int) - (p.length:Int)+1).toNat,by omega⟩
 generalize hn:((f.length:Int) - (p.length:Int)+1).toNat=n at hm ⊢
 rw[hm,List.range_add,qd_]
 have:((po_ m).map (n+·)).filter (fits p f)=[]:=by
  rw[rs_]
  intro b hb hc
  obtain⟨j,hj,rfl⟩:=pq_.mp hb
  unfold fits at hc
  simp only[qe_,decide_eq_true_eq] at hc
  omega
 rw[this,qk_]
theorem jrw_ {p f:List Nat}{b:Nat}(h:b+p.length<=f.length):cutA f (some (b:Int)) (some ((b:Int)+(p.length:Int)))=p↔fits p f b=true:=by
 have e1:sx f.length 0 (some (b:Int))=b:=by simp only[sx];rw[if_neg (by omega)];omega
 have e2:sx f.length f.length (some ((b:Int)+(p.length:Int)))=b+p.length:=by simp only[sx];rw[if_neg (by omega)];omega
 unfold cutA fits
 rw[e1,e2,show b+p.length - b=p.length by omega]
 simp[h]
theorem jvp_ (t:List Int)(n:Nat)(h:t.length=n+3)(h1:1<=n):cutA t (some 2) (some ((n:Int)+1))=cutA t (some 2) (some (-2)):=by
 unfold cutA
 have e2:sx t.length t.length (some ((n:Int)+1))=sx t.length t.length (some (-2)):=by simp only[sx];rw[if_neg (by omega),if_pos (by decide)];omega
 rw[e2]
theorem jju_ {f:List Nat}{xs:List Pat}{i:Nat}(h:i < xs.length)(t:List Int):vh_ f t (xs.take (i+1))=uf_ f (vh_ f t (xs.take i)) xs[i]:=by
 unfold vh_
 rw[p8_,pa_ h,kh_]
 rfl
theorem u2_ (f:List Nat)(xs:List Pat)(t:List Int):(vh_ f t xs).length=t.length:=(jay_ f xs t).1
theorem jqb_ (ns:List Int)(bs:List Nat)(t:List Int):(bs.foldl (fun t b=>laid t b ns) t).length=t.length:=(uq_ ns bs t).1
section
variable {P:Program}{w:World}{K:pc_}{mg:Str->Option Value}{base:Heap}{f:Addr}{fd:FuncData}{tk:Nat->Tok}
theorem jef_ (T:Txt mg tk)(F:Fun K "_law_values" "_law_values" s_law_values f fd):FnOk P w K mg base CX0 1 f fd ["_law_patterns","_law_word"] yx_:=by
 refine F.ok sc_law_values (fun vs H Q E h=>?_) (fun cdv A outer s H vs Q E hr h=>?_)
 ·obtain⟨v,xs,w,rfl,_⟩:=h
  rfl
 obtain⟨v,xs,w',rfl,hv,hxs,hxl,hw1,hw2,q⟩:=h
 obtain⟨a,ys,rfl,ha,hys⟩:=yt_ hv
 have nd:=sc_law_values.nd
 refine⟨_,(je_ (jm_ (i:=2) nd rfl (Or.inl rfl) (jk_ jt_ (jk_ jt_ y5_ (pv 1)) y5_))
  (je_ (jm_ (i:=3) nd rfl (Or.inl rfl) (jk_ yo_ (j6_ (ja_ jf_ jc_)) (jk_ jt_ (jo_ (zm_ (K:=K)) rfl T.z_len (by decide +kernel) (ja_ (pv 2) jc_)) jf_)))
  (je_ (j1_ pu_ rfl (zb_ (K:=K) (pv 0)) (yi_ rfl (jr_ (jj_ (i:=4) nd rfl (Or.inl rfl)) (jr_ (jj_ (i:=5) nd rfl (Or.inl rfl)) zu_)))
   (ji_ (j1_ pu_ rfl (zi_ rfl T.z_range (ja_ (jk_ jt_ (jk_ xr_ (jo_ (zm_ (K:=K)) rfl T.z_len (by decide +kernel) (ja_ (pv 2) jc_)) (jo_ (zm_ (K:=K)) rfl T.z_len (by decide +kernel) (ja_ (pv 4) jc_))) jf_) jc_)) (jj_ (i:=6) nd rfl (Or.inl rfl))
   (ji_ (y1_ (zd_ (o_eq hr.units) (y0_ (vw_ (K:=K)) (pv 2) (z0_ (pv 6)) (z0_ (jk_ jt_ (pv 6) (jo_ (zm_ (K:=K)) rfl T.z_len (by decide +kernel) (ja_ (pv 4) jc_))))) (pv 4) (j3_ _))
   (ji_ (j1_ pu_ rfl (zi_ rfl T.z_range (ja_ (jo_ (zm_ (K:=K)) rfl T.z_len (by decide +kernel) (ja_ (pv 5) jc_)) jc_)) (jj_ (i:=7) nd rfl (Or.inl rfl))
   (ji_ (jct_ (jo_ (jrx_ rfl) rfl T.z_max (by decide +kernel) (ja_ (jz_ (js_ (K:=K)) (pv 3) (jk_ jt_ (pv 6) (pv 7)) (fun _ _=>rfl)) (ja_ (jz_ (js_ (K:=K)) (pv 5) (pv 7) (fun _ _=>rfl)) jc_))) (jkv_ (pv 3) (jk_ jt_ (pv 6) (pv 7)) jsb_)))))
   z1_)))))
  (ji_ (j2_ (y0_ (vw_ (K:=K)) (pv 3) (z0_ jf_) (z0_ (jk_ jt_ (jo_ (zm_ (K:=K)) rfl T.z_len (by decide +kernel) (ja_ (pv 1) jc_)) jf_)))))))),?_⟩
 rw[show L2.start ["_law_patterns","_law_word","_law_text","_law_best","_law_signs","_law_numbers","_law_begin","_law_k"] [.ref a,.str (S w')]=[some (.ref a),some (.str (S w')),none,none,none,none,none,none] from rfl]
 rw[jjn_]
 have hfl:=jq_ w'
 walk_at "go"
 rw[vs_]
 intro b0 hb0
 walk_at "go"
 refine ul_ jb_ (by omega) fun t ht0=>?_
 have hrep:(pg_ (((frame w').length:Int)+1).toNat (V.int 0))=(pg_ ((frame w').length+1) (0:Int)).map V.int:=by
  rw[to_];congr 1
 rw[hrep]
 have s0:Same H (upd (upd H b0 (.lst [.int 0])) t (.lst ((pg_ ((frame w').length+1) (0:Int)).map V.int))):=(jd_ hb0 _).trans (jd_ ht0 _)
 have htH:H t=none:=(jd_ hb0 _).free ht0
 have ha0:=s0 _ _ ha
 walk_at "go"
 refine zh_ (K:=K) (xs:=ys) (fun i σ H'=>∃(v4 v5 v6 v7:Option V),σ=[some (.ref a),some (.str (S w')),some (.str (S (frame w'))),some (.ref t),v4,v5,v6,v7]/\H' t=some (.lst ((vh_ (frame w') (pg_ ((frame w').length+1) 0) (xs.take i)).map V.int))/\Same H H')
  ⟨none,none,none,none,rfl,jb_,s0⟩ (fun i σ H' _ ⟨_,_,_,_,_,_,s1⟩=>SqL.of (s1 _ _ ha)) ?_ ?_
 ·rintro i x σ H1 hx ⟨v4,v5,v6,v7,rfl,e1,s1⟩
  have hil:i < xs.length:=by
   have h1:=(pj_.mp hx).1
   have h2:=hys.length
   rw[pb_] at h2;omega
  obtain⟨x',d,hx1,hx2,hx3⟩:=IsL.get hys (i:=i) (by rw[pb_];exact hil)
  rw[hx] at hx1
  cases hx1
  rw[pf_,pa_ hil] at hx2
  cases hx2
  obtain⟨pa,nt,rfl,hpa,hnt⟩:=xk_ hx3
  obtain⟨hg1,hg2,hg3⟩:=hxs _ (ps_ hil)
  rw[jju_ hil]
  have hT1:=u2_ (frame w') (xs.take i) (pg_ ((frame w').length+1) 0)
  rw[q9_] at hT1
  generalize vh_ (frame w') (pg_ ((frame w').length+1) 0) (xs.take i)=T1 at e1 hT1 ⊢
  generalize xs[i]=xi at hg1 hg2 hg3 hpa hnt ⊢
  obtain⟨p,ns⟩:=xi
  have hg1:1<=p.length:=hg1
  have hg2:p.length<=1000:=hg2
  have hg3:ns.length<=p.length+1:=hg3
  have hpne:p≠[]:=tf_.mp hg1
  have hpa1:H1 pa=some (.tup [.str (S p),.ref nt]):=s1 _ _ hpa
  have hnt:H nt=some (.tup (ns.map V.int)):=hnt
  have hnt1:=s1 _ _ hnt
  refine yq_ hpa1 rfl (jv_ (jy_ (jv_ (jy_ (z9_ ?_)))))
  walk_at "go"
  refine ze_ (fun j σ H'=>∃(v6 v7:Option V),σ=[some (.ref a),some (.str (S w')),some (.str (S (frame w'))),some (.ref t),some (.str (S p)),some (.ref nt),v6,v7]/\H' t=some (.lst ((((po_ j).filter (fits p (frame w'))).foldl (fun t b=>laid t b ns) T1).map V.int))/\Same H H')
   ⟨_,_,rfl,e1,s1⟩ ?_ ?_
  ·rintro j σ H2 hj ⟨v6,v7,rfl,e2,s2⟩
   have hjp:j+p.length<=(frame w').length:=by omega
   have hnt2:=s2 _ _ hnt
   have hcf:=jrw_ (f:=frame w') hjp
   have hL1:=jqb_ ns ((po_ j).filter (fits p (frame w'))) T1
   have hst:(po_ (j+1)).filter (fits p (frame w'))=(po_ j).filter (fits p (frame w'))++(if fits p (frame w') j=true then [j] else []):=by
    rw[qm_,qd_,pz_,qn_]
   rw[hst,kh_]
   generalize ((po_ j).filter (fits p (frame w'))).foldl (fun t b=>laid t b ns) T1=T2 at e2 hL1 ⊢
   walk_at "go"
   rw[ll_]
   refine iteD (fun c=>?_) (fun c=>?_)
   ·have c':fits p (frame w') j=true:=hcf.mp (jtw_ (by injection c))
    rw[if_pos c']
    walk_at "go"
    rw[pb_]
    walk_at "go"
    refine ze_ (fun k σ H'=>∃(v7:Option V),σ=[some (.ref a),some (.str (S w')),some (.str (S (frame w'))),some (.ref t),some (.str (S p)),some (.ref nt),some (.int (j:Int)),v7]/\H' t=some (.lst ((laid T2 j (ns.take k)).map V.int))/\Same H H')
     ⟨_,rfl,e2,s2⟩ ?_ ?_
    ·rintro k σ H3 hk ⟨v7,rfl,e3,s3⟩
     have hkl:k < ns.length:=by omega
     have hnt3:=s3 _ _ hnt
     have hL2:=yz_ (ns.take k) T2 j
     have htk2:ns.take (k+1)=ns.take k++[ns[k]]:=by rw[p8_,pa_ hkl];rfl
     have hsn:=jap_ j ns[k] (ns.take k) T2 j
     rw[<- htk2,pw_,Nat.min_eq_left (s0_ hkl)] at hsn
     rw[hsn]
     generalize laid T2 j (ns.take k)=T3 at e3 hL2 ⊢
     have hbk:j+k < T3.length:=by omega
     walk_at "go"
     refine y3_ (v:=.int T3[j+k]) (j5_ e3) (z5_ (by omega) (by rw[show ((j:Int)+(0+(k:Int))).toNat=j+k by omega,pf_,pa_ hbk];rfl)) ?_
     walk_at "go"
     refine y3_ (v:=.int ns[k]) (xf_ hnt3) (z5_ (by omega) (by rw[show (0+(k:Int)).toNat=k by omega,pf_,pa_ hkl];rfl)) ?_
     walk_at "go"
     refine jmf_ (j:=j+k) e3 (by rw[pb_];rw[jjt_ (by omega) (by omega)];congr 1;omega) ?_
     rw[jmu_ T3 (j+k) ns[k] hbk]
     walk_at "go"
     refine⟨_,rfl,jb_,fun c o e=>?_⟩
     have hct:c≠t:=fun z=>by rw[z,htH] at e;cases e
     rw[jh_ hct]
     exact s3 c o e
    ·rintro σ H3 ⟨v7,rfl,e3,s3⟩
     rw[show ((ns.length:Int)).toNat=ns.length by omega,p0_] at e3
     walk_at "go"
     exact⟨_,_,rfl,e3,s3⟩
   ·have c':¬ fits p (frame w') j=true:=fun z=>c (by rw[hcf.mpr z])
    rw[if_neg c']
    walk_at "go"
    exact⟨_,_,rfl,e2,s2⟩
  ·rintro σ H2 ⟨v6,v7,rfl,e2,s2⟩
   rw[jgi_ hpne] at e2
   walk_at "go"
   exact⟨_,_,_,_,rfl,e2,s2⟩
 ·rintro σ H1 ⟨v4,v5,v6,v7,rfl,e1,s1⟩
  have h2:=hys.length
  rw[pb_] at h2
  rw[h2,p0_] at e1
  walk_at "go"
  refine jjf_ (SqL.of e1) fun r hr1=>?_
  have hT1:=u2_ (frame w') xs (pg_ ((frame w').length+1) 0)
  rw[q9_] at hT1
  rw[ux_,u8_,jvp_ _ w'.length (by omega) hw1,u1_ xs w' hw1]
  walk_at "go"
  exact q r _ (s1.free hr1) jb_ (s1.trans (jd_ hr1 _))
end
noncomputable abbrev s_law_words:Stmt:=top 26
theorem sc_law_words:FnScope ["_law_script","_law_at","_law_letters_here","_law_many","_law_longest","_law_words_here","_law_k","_law_told","_law_word"] ["_law_script","_law_at","_law_letters_here","_law_many","_law_longest"] (jp_ s_law_words):=by walk_at "f"
theorem jpe_ (l:List Pat):(l.map fun x=>V.str (S x.1)).all xq_=true:=by
 rw[md_,sd_];intro x _;rfl
def GWn (lo:Nat)(x:Pat):Prop:=Low x.1/\1<=x.1.length/\x.1.length<=lo/\∃ c:Nat->Bool,x.2=((po_ (x.1.length - 1)).filter c).map fun i:Nat=>(i:Int)+1
noncomputable def jbj_ (ds:List Int)(j:Nat):List Int:=((po_ j).filter fun i=>decide (ds.getD (8+i) 0=1)).map fun i:Nat=>(i:Int)+1
theorem jfq_ (ds:List Int)(j:Nat):(jbj_ ds j).length<=j:=by
 unfold jbj_
 rw[pb_]
 exact p7_ (qf_ _ _) (by rw[qb_];exact pm_ _)
theorem jky_ (ds:List Int)(j:Nat):jbj_ ds (j+1)=jbj_ ds j++if ds.getD (8+j) 0=1 then [(j:Int)+1] else []:=by
 unfold jbj_
 rw[qm_,qd_,ph_]
 congr 1
 rw[pz_,qn_]
 by_cases h:ds.getD (8+j) 0=1
 ·rw[if_pos (decide_eq_true h),if_pos h];rfl
 ·rw[if_neg (fun z=>h (of_decide_eq_true z)),if_neg h];rfl
def jha_ (K:pc_):Sp:=fun vs H Q _=>∃(a:Addr) (ns:List Int) (k:Nat) (b:Addr) (l:List Nat) (many lo:Nat),vs=[.ref a,.int (k:Int),.ref b,.int (many:Int),.int (lo:Int)]/\SqL K H a (ns.map V.int)/\k < 900/\H b=some (.lst (lets l))/\Low l/\1<=l.length/\l.length<=26/\many<=20/\1<=lo/\lo<=7 /\
 ∀(r:Addr) (ys:List V) (ws:List Pat) (H':Hp),H r=none->H' r=some (.lst ys)->L2.IsL H' ys (ws.map patD)->(∀ x∈ws,GWn lo x)->(ws.map (·.1)).Nodup->ws.length<=many->Same H H'->Q (.ref r) H'
section
variable {P:Program}{w:World}{K:pc_}{mg:Str->Option Value}{base:Heap}{f:Addr}{fd:FuncData}{tk:Nat->Tok}
theorem jhp_ (T:Txt mg tk)(F:Fun K "_law_words" "_law_words" s_law_words f fd)(D_law_row:Dn P w K mg base "_law_row" 1 ["_law_script","_law_at","_law_bounds"] (jii_ K)):FnOk P w K mg base CX0 2 f fd ["_law_script","_law_at","_law_letters_here","_law_many","_law_longest"] (jha_ K):=by
 refine F.ok sc_law_words (fun vs H Q E h=>?_) (fun cdv A outer s H vs Q E hr h=>?_)
 ·obtain⟨a,ns,k,b,l,many,lo,rfl,_⟩:=h
  rfl
 obtain⟨a,ns,k,b,l,many,lo,rfl,hS,hk,hb,hl,hl1,hl2,hm,hlo1,hlo2,q⟩:=h
 have nd:=sc_law_words.nd
 refine⟨_,(je_ (jm_ (i:=5) nd rfl (Or.inl rfl) (j6_ jc_))
  (je_ (j1_ pu_ rfl (zi_ rfl T.z_range (ja_ (pv 3) jc_)) (jj_ (i:=6) nd rfl (Or.inl rfl))
   (je_ (jm_ (i:=7) nd rfl (Or.inr rfl) (jn_ D_law_row hr.mo_ rfl (ja_ (pv 0) (ja_ (jk_ jt_ (pv 1) (pv 6)) (ja_ (jk_ jt_ (jk_ jt_ (j6_ (ja_ (pv 4) jc_)) (jk_ yo_ (j6_ (ja_ jf_ jc_)) jf_)) (jk_ yo_ (j6_ (ja_ jf_ jc_)) jf_)) jc_)))))
  (je_ (jm_ (i:=8) nd rfl (Or.inl rfl) (z2_ (K:=K) k6_ PySem.F.slot_str_join PySem.F.type_str_join juk_ y5_ (ja_ (zo_ ["_law_letters_here","_law_number"] [some 2,none] rfl (by kernel_rfl) rfl (zb_ (K:=K) (y0_ (vw_ (K:=K)) (pv 7) (z0_ jf_) (z0_ (jk_ jt_ jf_ (jz_ (js_ (K:=K)) (pv 7) jf_ (fun _ _=>rfl)))))) (fun _ _ _ _=>(jj_ (i:=1) (show (["_law_letters_here","_law_number"]:List Str).Nodup by decide +kernel) rfl (Or.inl rfl) (Or.inr rfl))) (fun _ _ _ _=>z6_) (fun _ _ _ _=>(jz_ (js_ (K:=K)) (pv 0) (jk_ xp_ (pv 1) (jo_ (zm_ (K:=K)) rfl T.z_len (by decide +kernel) (ja_ (pv 0) jc_))) (fun _ _=>rfl)))) jc_)))
  (ji_ (y1_ (zd_ jul_ (pv 8) (zo_ ["_law_one"] [none] rfl (by kernel_rfl) rfl (zb_ (K:=K) (pv 5)) (fun _ _ _ _=>(jj_ (i:=0) (show (["_law_one"]:List Str).Nodup by decide +kernel) rfl (Or.inl rfl) (Or.inr rfl))) (fun _ _ _ _=>z6_) (fun _ _ _ _=>(jz_ (js_ (K:=K)) (pv 0) jf_ (fun _ _=>rfl)))) (by with_unfolding_all rfl))
   (ji_ (zp_ (z2_ (K:=K) p9_ q7_ q8_ yu_ (pv 5) (ja_ (zx_ (ja_ (pv 8) (ja_ (zk_ jaj_ rfl T.z_tuple (by decide +kernel) (ja_ (zo_ ["_law_told","_law_gap"] [some 7,none] rfl (by kernel_rfl) rfl (ym_ rfl T.z_range (ja_ jf_ (ja_ (jo_ (zm_ (K:=K)) rfl T.z_len (by decide +kernel) (ja_ (pv 8) jc_)) jc_))) (fun _ _ _ _=>(jj_ (i:=1) (show (["_law_told","_law_gap"]:List Str).Nodup by decide +kernel) rfl (Or.inl rfl) (Or.inr rfl))) (fun _ _ _ _=>(xu_ (zd_ (o_eq hr.units) (jz_ (js_ (K:=K)) (pv 0) (jk_ jt_ jf_ (pv 1)) (fun _ _=>rfl)) jf_ (j3_ _)))) (fun _ _ _ _=>(pv 1))) jc_)) jc_))) jc_))))
   z1_)))))
  (ji_ (j2_ (pv 5))))),?_⟩
 rw[show L2.start ["_law_script","_law_at","_law_letters_here","_law_many","_law_longest","_law_words_here","_law_k","_law_told","_law_word"] [.ref a,.int (k:Int),.ref b,.int (many:Int),.int (lo:Int)]=[some (.ref a),some (.int (k:Int)),some (.ref b),some (.int (many:Int)),some (.int (lo:Int)),none,none,none,none] from rfl]
 rw[juc_]
 have hll:(lets l).length=l.length:=by rw[lets,pb_]
 walk_at "go"
 intro r hr0
 have s0:=jd_ hr0 (.lst [])
 walk_at "go"
 refine ze_ (fun i σ H'=>∃(v6 v7 v8:Option V) (ys:List V) (ws:List Pat),σ=[some (.ref a),some (.int (k:Int)),some (.ref b),some (.int (many:Int)),some (.int (lo:Int)),some (.ref r),v6,v7,v8]/\H' r=some (.lst ys)/\L2.IsL H' ys (ws.map patD)/\(∀ x∈ws,GWn lo x)/\(ws.map (·.1)).Nodup/\ws.length<=i/\Same H H')
  ⟨none,none,none,[],[],rfl,jb_,(by simp[L2.IsL]),(fun x hx=>nomatch hx),(by simp),pm_ _,s0⟩ ?_ ?_
 ·rintro i σ H1 hi ⟨v6,v7,v8,ys,ws,rfl,e1,hys,hws,hnd,hwl,s1⟩
  have hyl:=hys.length
  rw[pb_] at hyl
  walk_at "go"
  intro p1 h1
  walk_at "go"
  intro p2 h2
  walk_at "go"
  refine ul_ jb_ (by decide) fun p3 h3=>?_
  have e31:(upd (upd (upd H1 p1 (.lst [.int (lo:Int)])) p2 (.lst [.int 4])) p3 (.lst (pg_ (7:Int).toNat (.int 4)))) p1=some (.lst [.int (lo:Int)]):=(jd_ h3 _) _ _ ((jd_ h2 _) _ _ jb_)
  have s3:=((jd_ h1 (.lst [.int (lo:Int)])).trans (jd_ h2 (.lst [.int 4]))).trans (jd_ h3 (.lst (pg_ (7:Int).toNat (.int 4))))
  walk_at "go"
  refine xz_ e31 jb_ (szn (show 8<=1000000 by decide)) fun p4 h4=>?_
  have s4:=s3.trans (jd_ h4 (.lst ([.int (lo:Int)]++pg_ (7:Int).toNat (.int 4))))
  have e4:=jb_ (H:=upd (upd (upd H1 p1 (.lst [.int (lo:Int)])) p2 (.lst [.int 4])) p3 (.lst (pg_ (7:Int).toNat (.int 4)))) (a:=p4) (o:=.lst ([.int (lo:Int)]++pg_ (7:Int).toNat (.int 4)))
  generalize upd (upd (upd (upd H1 p1 (.lst [.int (lo:Int)])) p2 (.lst [.int 4])) p3 (.lst (pg_ (7:Int).toNat (.int 4)))) p4 (.lst ([.int (lo:Int)]++pg_ (7:Int).toNat (.int 4)))=H4 at s4 e4 ⊢
  walk_at "go"
  intro p5 h5
  walk_at "go"
  refine ul_ jb_ (by decide) fun p6 h6=>?_
  have e64:(upd (upd H4 p5 (.lst [.int 2])) p6 (.lst (pg_ (6:Int).toNat (.int 2)))) p4=_:=(jd_ h6 _) _ _ ((jd_ h5 _) _ _ e4)
  have s6:=(s4.trans (jd_ h5 (.lst [.int 2]))).trans (jd_ h6 (.lst (pg_ (6:Int).toNat (.int 2))))
  walk_at "go"
  refine xz_ e64 jb_ (szn (show 14<=1000000 by decide)) fun p7 h7=>?_
  have s7:=s6.trans (jd_ h7 (.lst (([.int (lo:Int)]++pg_ (7:Int).toNat (.int 4))++pg_ (6:Int).toNat (.int 2))))
  have e7:=jb_ (H:=upd (upd H4 p5 (.lst [.int 2])) p6 (.lst (pg_ (6:Int).toNat (.int 2)))) (a:=p7) (o:=.lst (([.int (lo:Int)]++pg_ (7:Int).toNat (.int 4))++pg_ (6:Int).toNat (.int 2)))
  generalize upd (upd (upd H4 p5 (.lst [.int 2])) p6 (.lst (pg_ (6:Int).toNat (.int 2)))) p7 (.lst (([.int (lo:Int)]++pg_ (7:Int).toNat (.int 4))++pg_ (6:Int).toNat (.int 2)))=H7 at s7 e7 ⊢
  have e7:H7 p7=some (.lst ([(lo:Int),4,4,4,4,4,4,4,2,2,2,2,2,2].map V.int)):=e7
  clear e64 s6 h6 h5 e4 s4 h4 s3 e31 h3 h2 h1
  walk_at "go"
  refine⟨a,ns,k+i,p7,[(lo:Int),4,4,4,4,4,4,4,2,2,2,2,2,2],by simp only[lh_,ll_];rfl,(s1.trans s7).seq hS,by omega,e7,(show 14<=100 by decide),fun x hx=>?_,fun t ds H8 ht0 et hdl hds s8=>?_⟩
  ·simp only[p6_,List.not_mem_nil,or_false] at hx
   rcases hx with h | h | h | h | h | h | h | h | h | h | h | h | h | h <;> subst h <;> omega
  have hdl:ds.length=14:=hdl
  have s18:=s7.trans s8
  have s08:=s1.trans s18
  have hb8:=s08 _ _ hb
  have e8:=s18 _ _ e1
  have hys8:=IsL.same s18 hys
  clear s8 s7 e7 ht0
  obtain⟨hd0,hd1⟩:=hds 0 (ds[0]'(by omega)) (lo:Int) (pa_ _) rfl
  have hdn:∀ x∈ds,0<=x:=fun x hx=>by
   obtain⟨j,hj,rfl⟩:=ln_.mp hx
   have hj2:j < [(lo:Int),4,4,4,4,4,4,4,2,2,2,2,2,2].length:=by rw[hdl] at hj;exact hj
   exact(hds j _ _ (pa_ hj) (pa_ hj2)).1
  have ad0:atI (ds.map V.int) 0=some (.int (ds[0]'(by omega))):=z5_ (by decide) (by rw[pf_];show Option.map V.int ds[0]?=_;rw[pa_ (by omega)];rfl)
  generalize (ds[0]'(by omega))=d0 at hd0 hd1 ad0
  walk_at "go"
  refine jjf_ (SqL.of et) fun g hg0=>?_
  rw[ux_,u8_]
  have hcl:=jdn_ ds (some 1) (some (2+d0))
  have hx1:sx ds.length 0 (some 1)=1:=by simp only[sx];rw[if_neg (by decide)];show min 1 ds.length=1;omega
  have hx2:sx ds.length ds.length (some (2+d0))=2+d0.toNat:=by simp only[sx];rw[if_neg (by omega)];omega
  rw[hx1,hx2] at hcl
  have hcm:∀ v∈cutA ds (some 1) (some (2+d0)),0<=v:=fun v hv=>hdn v (wh_ (qu_ hv))
  generalize cutA ds (some 1) (some (2+d0))=cs at hcl hcm ⊢
  have s9:=jd_ hg0 (.lst (cs.map V.int))
  have e9:=jb_ (H:=H8) (a:=g) (o:=.lst (cs.map V.int))
  generalize upd H8 g (.lst (cs.map V.int))=H9 at s9 e9 ⊢
  have hb9:=s9 _ _ hb8
  walk_at "go"
  intro n hn0
  refine zr_ (K:=K) (xs:=cs.map V.int) (fun j acc σ H'=>∃(v:Option V) (us:List Nat),σ=[some (.ref b),v]/\acc=lets us/\us.length=j/\Low us/\H' n=some (.lst acc)/\Same H9 H')
   (fun j acc σ H' _ ⟨_,_,_,_,_,_,_,s3⟩=>SqL.of (s3 _ _ e9)) ⟨none,[],rfl,rfl,rfl,(fun u hu=>nomatch hu),jb_,jd_ hn0 _⟩ (fun j acc σ H' ⟨_,us,_,e,e1,_,e3,_⟩=>⟨e3,by rw[e,lets,pb_];omega⟩) (szn (by rw[pb_];omega)) ?_ ?_
  ·rintro j acc σ H10 hj ⟨v,us,rfl,rfl,hul,hus,e10,s10⟩
   have hj':j < cs.length:=by simpa using hj
   have hgd:(cs.map V.int).getD j .non=V.int cs[j]:=by
    rw[pd_,pf_,pa_ hj'];rfl
   rw[hgd]
   have hu0:=hcm _ (ps_ hj')
   generalize cs[j]=dx at hu0 ⊢
   have hb10:=s10 _ _ hb9
   walk_at "go"
   rw[hll]
   have hc0:=r8_ dx (show (l.length:Int)≠0 by omega)
   have hc1:=rq_ dx (show (0:Int) < (l.length:Int) by omega)
   generalize dx % (l.length:Int)=c at hc0 hc1 ⊢
   have hcl2:c.toNat < l.length:=by omega
   refine y3_ (v:=.str (S [l[c.toNat]])) (j5_ hb10) (z5_ hc0 (by rw[lets,pf_,pa_ hcl2];rfl)) ?_
   refine⟨e10,_,us++[l[c.toNat]],rfl,by rw[lets,lets,ph_];rfl,by rw[pe_,hul];rfl,jco_ hus (fun x hx=>?_),jb_,fun b' o e=>?_⟩
   ·have:x=l[c.toNat]:=by simpa using hx
    rw[this]
    exact hl _ (ps_ _)
   ·have hbr:b'≠n:=fun z=>by rw[z,hn0] at e;cases e
    rw[jh_ hbr];exact s10 b' o e
  ·rintro acc σ H10 ⟨v,us,rfl,rfl,hul,hus,e10,s10⟩
   rw[pb_] at hul
   walk_at "go"
   have hs:=jce_ us
   refine jxt_ (ys:=us.map fun c=>S [c]) (by rw[<- jui_];exact u4_ e10) ?_ ?_
   ·rw[hs,pb_,zl_]
    simp only[r7_,Nat.mul_zero]
    omega
   rw[jld_]
   have hu1:1<=us.length/\us.length<=lo:=by omega
   have s810:=s9.trans s10
   have e11:=s810 _ _ e8
   have hys11:=IsL.same s810 hys8
   have et11:=s810 _ _ et
   have s0_11:=s08.trans s810
   clear hs e10 hul hn0 s9 s10 e9 hb9 hcm hcl
   walk_at "go"
   intro m hm0
   refine zr_ (K:=K) (xs:=ys) (fun j acc σ H'=>∃(v:Option V),σ=[v]/\acc=(ws.take j).map (fun x=>V.str (S x.1))/\H' m=some (.lst acc)/\Same H10 H')
    (fun j acc σ H' _ ⟨_,_,_,_,s3⟩=>SqL.of (s3 _ _ e11)) ⟨none,rfl,rfl,jb_,jd_ hm0 _⟩ (fun j acc σ H' ⟨_,_,e,e3,_⟩=>⟨e3,by rw[e,pb_,pw_];omega⟩) (szn (by omega)) ?_ ?_
   ·rintro j acc σ H12 hj ⟨v,rfl,rfl,e12,s12⟩
    have hjl:j < ws.length:=by omega
    obtain⟨x',d,hx1,hx2,hx3⟩:=IsL.get hys11 (i:=j) (by rw[pb_];exact hjl)
    rw[pf_,pa_ hjl] at hx2
    cases hx2
    have hgd:ys.getD j .non=x':=by rw[pd_,hx1];rfl
    rw[hgd]
    obtain⟨pa,nt,rfl,hpa,hnt⟩:=xk_ hx3
    have hpa12:=s12 _ _ hpa
    walk_at "go"
    refine⟨e12,_,rfl,?_,jb_,fun b' o e=>?_⟩
    ·rw[p8_,pa_ hjl,ph_];rfl
    ·have hbr:b'≠m:=fun z=>by rw[z,hm0] at e;cases e
     rw[jh_ hbr];exact s12 b' o e
   ·rintro acc σ H12 ⟨v,rfl,rfl,e12,s12⟩
    rw[hyl,p0_] at e12
    have e13:=s12 _ _ e11
    have hys13:=IsL.same s12 hys11
    have et13:=s12 _ _ et11
    have s0_13:=s0_11.trans s12
    walk_at "go"
    refine jjc_ (j5_ e12) ⟨rfl,jpe_ _⟩ ?_
    walk_at "go"
    refine iteB (fun c=>?_) (fun c=>?_)
    ·walk_at "go"
     intro z hz0
     refine z7_ (fun j acc σ H'=>∃(v:Option V),σ=[some (.ref t),v]/\acc=(jbj_ ds j).map V.int/\H' z=some (.lst acc)/\Same H12 H')
      ⟨none,rfl,rfl,jb_,jd_ hz0 _⟩ (fun j acc σ H' ⟨_,_,e,e3,_⟩=>⟨e3,by rw[e,pb_];exact jfq_ ds j⟩) (szn (by omega)) ?_ ?_
     ·rintro j acc σ H14 hj ⟨v,rfl,rfl,e14,s14⟩
      have hjl:8+j < ds.length:=by omega
      have et14:=s14 _ _ et13
      have hgj:ds.getD (8+j) 0=ds[8+j]:=by rw[pd_,pa_ hjl];rfl
      rw[jky_,hgj]
      walk_at "go"
      refine y3_ (v:=.int ds[8+j]) (j5_ et14) (z5_ (by omega) (by rw[show (7+(1+(j:Int))).toNat=8+j by omega,pf_,pa_ hjl];rfl)) ?_
      walk_at "go"
      refine iteD (fun c2=>?_) (fun c2=>?_)
      ·have c3:ds[8+j]=1:=by injection c2
       rw[if_pos c3]
       walk_at "go"
       refine⟨e14,_,rfl,by rw[ph_,w3_];rfl,jb_,fun b' o e=>?_⟩
       have hbr:b'≠z:=fun y=>by rw[y,hz0] at e;cases e
       rw[jh_ hbr];exact s14 b' o e
      ·rw[if_neg (fun z=>c2 (by rw[z])),qk_]
       exact⟨_,rfl,rfl,e14,s14⟩
     ·rintro acc σ H14 ⟨v,rfl,rfl,e14,s14⟩
      have hgsd:((us.length:Int) - 1).toNat=us.length - 1:=by omega
      rw[hgsd] at e14
      have hgl:=jfq_ ds (us.length - 1)
      have hgx:∃ c:Nat->Bool,jbj_ ds (us.length - 1)=((po_ (us.length - 1)).filter c).map fun i:Nat=>(i:Int)+1:=⟨_,rfl⟩
      generalize jbj_ ds (us.length - 1)=gs at e14 hgl hgx
      have hni:us∉ws.map (·.1):=fun q=>by
       have h1:inV (.str (S us)) (ws.map fun x=>V.str (S x.1))=true:=by
        unfold inV
        rw[q4_]
        obtain⟨x,hx,e⟩:=pq_.mp q
        exact⟨.str (S x.1),pq_.mpr ⟨x,hx,rfl⟩,by rw[e];exact decide_eq_true rfl⟩
       rw[h1] at c
       simp at c
      walk_at "go"
      refine vq_ (j5_ e14) fun t' H15 ht' s15=>?_
      have s1315:=s14.trans s15
      have e15:=s1315 _ _ e13
      have hys15:=IsL.same s1315 hys13
      have s0_15:=s0_13.trans s1315
      clear e14 s14 s15 hz0
      walk_at "go"
      intro y hy0
      have yr:r≠y:=jg_ e15 hy0
      have e16:(upd H15 y (.tup [.str (S us),.ref t'])) r=some (.lst ys):=by rw[jh_ yr];exact e15
      have hsz:ys.length < sizeLine:=szn (by omega)
      walk_at "go"
      have k4:Tk H15 (upd (upd H15 y (.tup [.str (S us),.ref t'])) r (.lst (ys++[.ref y]))):=(Tk.new hy0 _).trans (Tk.lst e16 _)
      refine⟨_,_,_,ys++[.ref y],ws++[(us,gs)],rfl,jb_,?_,fun x hx=>?_,?_,by rw[pe_];show _+1<=_;omega,fun b' o e=>?_⟩
      ·rw[ph_]
       refine IsL.snoc (IsL.tk k4 (jjw_ _) hys15) (jdm_ (x:=(us,gs)) ?_ (k4 _ _ ht'))
       rw[jh_ yr.symm];exact jb_
      ·rcases pt_.mp hx with h | h
       ·exact hws x h
       ·have:x=(us,gs):=by simpa using h
        rw[this];exact⟨hus,hu1.1,hu1.2,hgx⟩
      ·rw[ph_]
       exact qq_.mpr ⟨hnd,by simp,fun x hx y hy z=>hni (by rw[z] at hx;rw[pv_.mp hy] at hx;exact hx)⟩
      ·have hbr:b'≠r:=fun z=>by rw[z,hr0] at e;cases e
       rw[jh_ hbr];exact(jd_ hy0 _) _ _ (s0_15 _ _ e)
    ·walk_at "go"
     exact⟨_,_,_,ys,ws,rfl,e13,hys13,hws,hnd,by omega,s0_13⟩
 ·rintro σ H1 ⟨v6,v7,v8,ys,ws,rfl,e1,hys,hws,hnd,hwl,s1⟩
  walk_at "go"
  exact q r ys ws H1 hr0 e1 hys hws hnd (by omega) s1
end
noncomputable abbrev s_seen_gaps:Stmt:=top 6
theorem sc_seen_gaps:FnScope ["words","patterns","seen","word","told","broken"] ["words","patterns"] (jp_ s_seen_gaps):=by walk_at "f"
structure Seen where
 w:List Nat
 g:Int
 t:Bool
 b:Bool
noncomputable def jbo_ (x:Seen):Dt:=.tup [.str (S x.w),.int x.g,.bl x.t,.bl x.b]
noncomputable def gapD (x:List Nat×Int):Dt:=.tup [.str (S x.1),.int x.2]
noncomputable def jcz_ (xs:List Pat)(x:Pat)(j:Nat):Seen:=⟨x.1,(j:Int)+1,decide ((j:Int)+1∈x.2),j8_ (vals xs x.1) j⟩
noncomputable def j0_ (xs ws:List Pat):List Seen:=ws.flatMap fun x=>(po_ (x.1.length - 1)).map (jcz_ xs x)
theorem jkk_ {xs ws:List Pat}{i:Nat}(h:i < ws.length):j0_ xs (ws.take (i+1))=j0_ xs (ws.take i)++(po_ (ws[i].1.length - 1)).map (jcz_ xs ws[i]):=by
 unfold j0_
 rw[p8_,pa_ h,ra_]
 simp
theorem ua_ {xs:List Pat}{m:Nat}:∀{ws:List Pat},(∀ x∈ws,x.1.length<=m)->(j0_ xs ws).length<=ws.length * m
 | [],_=>by simp[j0_]
 | x::ws,h=>by
  have h1:=ua_ (xs:=xs) (m:=m) (ws:=ws) fun y hy=>h y (pl_ _ hy)
  have h2:=h x pn_
  unfold j0_ at h1 ⊢
  rw[qi_,pe_,pb_,qb_,p3_,kt_]
  omega
theorem jqy_ (vs:List Int)(j:Nat):decide ((j:Int)+1∈brks vs)=j8_ vs j:=by
 unfold brks
 by_cases h:j8_ vs j=true
 ·rw[h]
  apply decide_eq_true
  refine pq_.mpr ⟨j,py_.mpr ⟨p5_.mpr ?_,h⟩,rfl⟩
  unfold j8_ at h
  by_cases hj:j < vs.length
  ·exact hj
  ·simp[pd_,sg_ (tb_ hj)] at h
 ·have h':j8_ vs j=false:=by simpa using h
  rw[h']
  apply decide_eq_false
  intro hc
  obtain⟨k,hk,hk2⟩:=pq_.mp hc
  have:k=j:=by omega
  subst this
  exact h (py_.mp hk).2
theorem va_ (l:List Seen):zf_ (l.map jbo_)=true:=x0_ fun d hd=>by
 obtain⟨x,_,rfl⟩:=pq_.mp hd
 rfl
theorem jzu_ {H:Hp}{v:V}{x:Seen}(h:Is H v (jbo_ x)):∃ a,v=.ref a/\H a=some (.tup [.str (S x.w),.int x.g,.bl x.t,.bl x.b]):=by
 simp only[Is,jbo_] at h
 obtain⟨a,ys,rfl,ha,hy⟩:=h
 match ys,hy with
 | [y1,y2,y3,y4],hy =>
  simp only[L2.IsL,Is] at hy
  obtain⟨h1,h2,h3,h4,_⟩:=hy
  subst h1 h2 h3 h4
  exact⟨a,rfl,ha⟩
 | [],hy=>simp only[L2.IsL] at hy
 | [_],hy=>simp only[L2.IsL] at hy;exact hy.2.elim
 | [_,_],hy=>simp only[L2.IsL] at hy;exact hy.2.2.elim
 | [_,_,_],hy=>simp only[L2.IsL] at hy;exact hy.2.2.2.elim
 | _::_::_::_::_::_,hy=>simp only[L2.IsL] at hy;exact hy.2.2.2.2.elim
theorem joz_ {H:Hp}{a:Addr}{x:Seen}(h:H a=some (.tup [.str (S x.w),.int x.g,.bl x.t,.bl x.b])):Is H (.ref a) (jbo_ x):=by
 simp only[Is,jbo_]
 exact⟨a,_,rfl,h,by simp only[L2.IsL,Is,and_self]⟩
theorem jqp_ {H:Hp}{a:Addr}{x:List Nat×Int}(h:H a=some (.tup [.str (S x.1),.int x.2])):Is H (.ref a) (gapD x):=by
 simp only[Is,gapD]
 exact⟨a,_,rfl,h,by simp only[L2.IsL,Is,and_self]⟩
def jlt_:Sp:=fun vs H Q _=>∃(v u:V) (ws xs:List Pat),vs=[v,u]/\Is H v (zc_ ws)/\Is H u (zc_ xs)/\(∀ x∈xs,1<=x.1.length/\x.1.length<=1000/\x.2.length<=x.1.length+1)/\xs.length<=9000/\(∀ x∈ws,1<=x.1.length/\x.1.length<=100)/\ws.length<=100 /\
 ∀(r:Addr) (zs:List V) (H':Hp),H r=none->H' r=some (.lst zs)->L2.IsL H' zs ((j0_ xs ws).map jbo_)->Same H H'->Q (.ref r) H'
section
variable {P:Program}{w:World}{K:pc_}{mg:Str->Option Value}{base:Heap}{f:Addr}{fd:FuncData}{tk:Nat->Tok}
theorem jhs_ (T:Txt mg tk)(F:Fun K "seen_gaps" "seen_gaps" s_seen_gaps f fd)(D_breaks:Dn P w K mg base "breaks" 3 ["patterns","word"] jcr_):FnOk P w K mg base CX0 4 f fd ["words","patterns"] jlt_:=by
 refine F.ok sc_seen_gaps (fun vs H Q E h=>?_) (fun cdv A outer s H vs Q E hr h=>?_)
 ·obtain⟨v,u,ws,xs,rfl,_⟩:=h
  rfl
 obtain⟨v,u,ws,xs,rfl,hv,hu,hxs,hxl,hws,hwl,q⟩:=h
 obtain⟨a,ys,rfl,ha,hys⟩:=yt_ hv
 have nd:=sc_seen_gaps.nd
 refine⟨_,(je_ (jm_ (i:=2) nd rfl (Or.inl rfl) (j6_ jc_))
  (je_ (j1_ pu_ rfl (zb_ (K:=K) (pv 0)) (yi_ rfl (jr_ (jj_ (i:=3) nd rfl (Or.inr rfl)) (jr_ (jj_ (i:=4) nd rfl (Or.inr rfl)) zu_)))
   (je_ (jm_ (i:=5) nd rfl (Or.inr rfl) (jn_ D_breaks hr.mo_ rfl (ja_ (pv 1) (ja_ (pv 3) jc_))))
  (ji_ (zp_ (z2_ (K:=K) p9_ rj_ rk_ xc_ (pv 2) (ja_ (zo_ ["word","told","broken","gap"] [some 3,some 4,some 5,none] rfl (by kernel_rfl) rfl (ym_ rfl T.z_range (ja_ jf_ (ja_ (jo_ (zm_ (K:=K)) rfl T.z_len (by decide +kernel) (ja_ (pv 3) jc_)) jc_))) (fun _ _ _ _=>(jj_ (i:=3) (show (["word","told","broken","gap"]:List Str).Nodup by decide +kernel) rfl (Or.inl rfl) (Or.inr rfl))) (fun _ _ _ _=>z6_) (fun _ _ _ _=>(zx_ (ja_ (pv 0) (ja_ (pv 3) (ja_ (zs_ o_in (pv 3) (pv 1) (by with_unfolding_all rfl)) (ja_ (zs_ o_in (pv 3) (pv 2) (by with_unfolding_all rfl)) jc_))))))) jc_))))))
  (ji_ (j2_ (pv 2))))),?_⟩
 rw[show L2.start ["words","patterns","seen","word","told","broken"] [.ref a,u]=[some (.ref a),some (u),none,none,none,none] from rfl]
 walk_at "go"
 intro r hr0
 have ra:(upd H r (.lst [])) a=some (.lst ys):=(jd_ hr0 _) _ _ ha
 walk_at "go"
 refine zh_ (K:=K) (xs:=ys) (fun i σ H'=>∃(v3 v4 v5:Option V) (zs:List V),σ=[some (.ref a),some u,some (.ref r),v3,v4,v5]/\H' r=some (.lst zs)/\L2.IsL H' zs ((j0_ xs (ws.take i)).map jbo_)/\Same H H')
  ⟨none,none,none,[],rfl,jb_,(by simp[j0_,L2.IsL]),jd_ hr0 _⟩ (fun i σ H' _ ⟨_,_,_,_,_,_,_,s1⟩=>SqL.of (s1 _ _ ha)) ?_ ?_
 ·rintro i x σ H1 hx ⟨v3,v4,v5,zs,rfl,e1,hz1,s1⟩
  have hil:i < ws.length:=by
   have h1:=(pj_.mp hx).1
   have h2:=hys.length
   rw[pb_] at h2;omega
  obtain⟨x',d,hx1,hx2,hx3⟩:=IsL.get hys (i:=i) (by rw[pb_];exact hil)
  rw[hx] at hx1
  cases hx1
  rw[pf_,pa_ hil] at hx2
  cases hx2
  obtain⟨pa,nt,rfl,hpa,hnt⟩:=xk_ hx3
  obtain⟨hg1,hg2⟩:=hws _ (ps_ hil)
  have hzl:zs.length<=100 * 100:=by
   have h1:=hz1.length
   rw[pb_] at h1
   have h2:=ua_ (xs:=xs) (m:=100) (ws:=ws.take i) fun y hy=>(hws y (qu_ hy)).2
   have h3:(ws.take i).length * 100<=100 * 100:=rr_ _ (by rw[pw_];omega)
   omega
  rw[jkk_ hil]
  generalize ws[i]=xi at hpa hnt hg1 hg2 ⊢
  obtain⟨w',g⟩:=xi
  have hg1:1<=w'.length:=hg1
  have hg2:w'.length<=100:=hg2
  have hpa1:H1 pa=some (.tup [.str (S w'),.ref nt]):=s1 _ _ hpa
  have hnt1:H1 nt=some (.tup (g.map V.int)):=s1 _ _ hnt
  refine yq_ hpa1 rfl (jv_ (jy_ (jv_ (jy_ (z9_ ?_)))))
  walk_at "go"
  refine⟨u,xs,w',rfl,Is.same s1 hu,hxs,hxl,hg1,hg2,fun t H2 ht s2=>?_⟩
  have hnt2:=s2 _ _ hnt1
  have e12:=s2 _ _ e1
  walk_at "go"
  intro c hc0
  have rc:r≠c:=jg_ (s2 _ _ e1) hc0
  refine z7_ (fun j acc σ H'=>∃ v,σ=[some (.str (S w')),some (.ref nt),some (.ref t),v]/\acc.length=j/\H' c=some (.lst acc)/\L2.IsL H' acc (((po_ j).map (jcz_ xs (w',g))).map jbo_)/\Same H2 H')
   ⟨none,rfl,rfl,jb_,(by simp[L2.IsL]),jd_ hc0 _⟩ (fun j acc σ H' ⟨_,_,e,e3,_⟩=>⟨e3,s1_ e⟩) (szn (by omega)) ?_ ?_
  ·rintro j acc σ H3 hj ⟨v,rfl,hal,e3,hz3,s3⟩
   have hnt3:=s3 _ _ hnt2
   have ht3:=s3 _ _ ht
   walk_at "go"
   refine jjc_ (xf_ hnt3) ⟨rfl,ue_ _⟩ ?_
   walk_at "go"
   refine jjc_ (xf_ ht3) ⟨rfl,ue_ _⟩ ?_
   walk_at "go"
   have hb1:(if false=true then !inV (.int (1+(j:Int))) (g.map V.int) else inV (.int (1+(j:Int))) (g.map V.int))=decide ((j:Int)+1∈g):=by
    rw[if_neg pk_,jad_,w3_]
   have hb2:(if false=true then !inV (.int (1+(j:Int))) ((brks (vals xs w')).map V.int) else inV (.int (1+(j:Int))) ((brks (vals xs w')).map V.int))=j8_ (vals xs w') j:=by
    rw[if_neg pk_,jad_,w3_,jqy_]
   rw[hb1,hb2,w3_ 1 (j:Int)]
   intro p hp0
   have tc:c≠p:=jg_ e3 hp0
   have e4:(upd H3 p (.tup [.str (S w'),.int ((j:Int)+1),.bl (decide ((j:Int)+1∈g)),.bl (j8_ (vals xs w') j)])) c=some (.lst acc):=by rw[jh_ tc];exact e3
   have k4:Tk H3 (upd (upd H3 p (.tup [.str (S w'),.int ((j:Int)+1),.bl (decide ((j:Int)+1∈g)),.bl (j8_ (vals xs w') j)])) c (.lst (acc++[.ref p]))):=(Tk.new hp0 _).trans (Tk.lst e4 _)
   refine⟨e4,_,rfl,by simp[hal],jb_,?_,fun b o e=>?_⟩
   ·rw[qm_,ph_,ph_]
    refine IsL.snoc (IsL.tk k4 (va_ _) hz3) (joz_ (x:=jcz_ xs (w',g) j) ?_)
    rw[jh_ tc.symm];exact jb_
   ·have hbc:b≠c:=fun z=>by rw[z,hc0] at e;cases e
    rw[jh_ hbc];exact(jd_ hp0 _) _ _ (s3 _ _ e)
  ·rintro acc σ H3 ⟨v,rfl,hal,e3,hz3,s3⟩
   have hn:((w'.length:Int) - 1).toNat=w'.length - 1:=by omega
   rw[hn] at hal hz3
   have e3r:H3 r=some (.lst zs):=s3 _ _ (s2 _ _ e1)
   walk_at "go"
   refine jba_ e3r e3 (szn (by omega)) ?_
   walk_at "go"
   have k5:Tk H3 (upd H3 r (.lst (zs++acc))):=Tk.lst e3r _
   refine⟨_,_,_,zs++acc,rfl,jb_,?_,fun b o e=>?_⟩
   ·rw[ph_]
    exact IsL.append (IsL.tk k5 (va_ _) (IsL.same (s2.trans s3) hz1)) (IsL.tk k5 (va_ _) hz3)
   ·have hbr:b≠r:=fun z=>by rw[z,hr0] at e;cases e
    rw[jh_ hbr];exact s3 _ _ (s2 _ _ (s1 _ _ e))
 ·rintro σ H1 ⟨v3,v4,v5,zs,rfl,e1,hz1,s1⟩
  have h2:=hys.length
  rw[pb_] at h2
  rw[h2,p0_] at hz1
  walk_at "go"
  exact q r zs H1 hr0 e1 hz1 s1
end
noncomputable abbrev s_one_number:Stmt:=top 8
theorem sc_one_number:FnScope ["number","place","length"] ["number","place","length"] (jp_ s_one_number):=by walk_at "f"
noncomputable abbrev s_candidates_at:Stmt:=top 9
theorem sc_candidates_at:FnScope ["word","gap","number","length","framed","ahead","first","last"] ["word","gap","number","length"] (jp_ s_candidates_at):=by walk_at "f"
noncomputable def one (n:Int)(p L:Nat):List Int:=pg_ p 0++[n]++pg_ (L - p) 0
theorem v7_ {n:Int}{p L:Nat}(h:p<=L):(one n p L).length=L+1:=by unfold one;simp;omega
noncomputable def vn_ (t:List Nat)(L g:Nat):Nat:=if L<=t.length then min (g+1) (t.length - L)+1 - (g+1 - L) else 0
theorem jde_ (g L i:Nat):g+1<=g+1 - L+i+L:=by omega
theorem jyy_ (a b:Nat):b - a+(a - (a - b))=b:=by omega
theorem jyq_ {g L p:Nat}(h1:p<=L)(h2:p<=g+1):g+1 - L+(L - p - (L - (g+1)))=g+1 - p:=by
 obtain⟨a,rfl⟩:=kw_ h1
 obtain⟨b,hb⟩:=kw_ h2
 rw[hb,Nat.add_sub_add_left,Nat.add_sub_add_left,ro_,ro_]
 exact jyy_ a b
theorem candN_lt {t:List Nat}{L g k:Nat}:k < vn_ t L g↔g+1 - L+k<=g+1/\g+1 - L+k+L<=t.length:=by
 unfold vn_
 split
 ·rename_i h
  rw[Nat.lt_sub_iff_add_lt,Nat.lt_succ_iff,Nat.le_min,Nat.le_sub_iff_add_le h,mb_ k]
 ·rename_i h
  exact⟨fun z=>absurd z (Nat.not_lt_zero _),fun z=>absurd (p7_ (lj_ _ _) z.2) h⟩
noncomputable def cand (t:List Nat)(n:Int)(L g k:Nat):Pat:=((t.drop (g+1 - L+k)).take L,one n (g+1 - (g+1 - L+k)) L)
noncomputable def zy_ (t:List Nat)(n:Int)(L g:Nat):List Pat:=(po_ (vn_ t L g)).map (cand t n L g)
def jqk_:Sp:=fun vs H Q _=>∃(n:Int) (p L:Nat),vs=[.int n,.int (p:Int),.int (L:Int)]/\p<=L/\L<=1000/\∀(t:Addr) (H':Hp),H' t=some (.tup ((one n p L).map V.int))->Same H H'->Q (.ref t) H'
def jke_:Sp:=fun vs H Q _=>∃(w:List Nat) (g:Nat) (n:Int) (L:Nat),vs=[.str (S w),.int (g:Int),.int n,.int (L:Int)]/\w.length<=100/\g<=100/\L<=100 /\
 ∀(r:Addr) (zs:List V) (H':Hp),H r=none->H' r=some (.lst zs)->L2.IsL H' zs ((zy_ (frame w) n L g).map patD)->Same H H'->Q (.ref r) H'
theorem jaf_ (t:List Nat)(L g:Nat):vn_ t L g<=g+2:=tb_ fun h=>absurd (p7_ (lj_ _ _) (candN_lt.mp h).1) (Nat.not_succ_le_self (g+1))
theorem jxc_:∀ l:List Int,zf_ (l.map Dt.int)=true
 | []=>rfl
 | x::l=>by simp only[pr_,zf_,xj_,jxc_ l];rfl
theorem jw_:∀ l:List Pat,zf_ (l.map patD)=true
 | []=>rfl
 | x::l=>by simp only[pr_,zf_,jw_ l,patD,xj_,jxc_];rfl
section
variable {P:Program}{w:World}{K:pc_}{mg:Str->Option Value}{base:Heap}{f:Addr}{fd:FuncData}{tk:Nat->Tok}
theorem jeq_ (T:Txt mg tk)(F:Fun K "one_number" "one_number" s_one_number f fd):FnOk P w K mg base CX0 1 f fd ["number","place","length"] jqk_:=by
 refine F.ok sc_one_number (fun vs H Q E h=>?_) (fun cdv A outer s H vs Q E hr h=>?_)
 ·obtain⟨n,p,L,rfl,_⟩:=h
  rfl
 obtain⟨n,p,L,rfl,hp,hL,q⟩:=h
 have nd:=sc_one_number.nd
 refine⟨_,(ji_ (j2_ (zk_ jaj_ rfl T.z_tuple (by decide +kernel) (ja_ (jk_ jt_ (jk_ jt_ (jk_ yo_ (j6_ (ja_ jf_ jc_)) (pv 1)) (j6_ (ja_ (pv 0) jc_))) (jk_ yo_ (j6_ (ja_ jf_ jc_)) (jk_ xr_ (pv 2) (pv 1)))) jc_)))),?_⟩
 rw[show L2.start ["number","place","length"] [.int n,.int (p:Int),.int (L:Int)]=[some (.int n),some (.int (p:Int)),some (.int (L:Int))] from rfl]
 walk_at "go"
 intro a1 h1
 have s1:=jd_ h1 (.lst [.int 0])
 have e1:=jb_ (H:=H) (a:=a1) (o:=.lst [.int 0])
 generalize upd H a1 (.lst [.int 0])=H1 at s1 e1 ⊢
 walk_at "go"
 refine ul_ e1 (by omega) fun a2 h2=>?_
 rw[sr_]
 have s2:=jd_ h2 (.lst (pg_ p (.int 0)))
 have e2:=jb_ (H:=H1) (a:=a2) (o:=.lst (pg_ p (.int 0)))
 generalize upd H1 a2 (.lst (pg_ p (.int 0)))=H2 at s2 e2 ⊢
 walk_at "go"
 intro a3 h3
 have s3:=jd_ h3 (.lst [.int n])
 have e3:=jb_ (H:=H2) (a:=a3) (o:=.lst [.int n])
 generalize upd H2 a3 (.lst [.int n])=H3 at s3 e3 ⊢
 walk_at "go"
 refine xz_ (s3 _ _ e2) e3 (szn (by simp;omega)) fun a4 h4=>?_
 have s4:=jd_ h4 (.lst (pg_ p (.int 0)++[.int n]))
 have e4:=jb_ (H:=H3) (a:=a4) (o:=.lst (pg_ p (.int 0)++[.int n]))
 generalize upd H3 a4 (.lst (pg_ p (.int 0)++[.int n]))=H4 at s4 e4 ⊢
 walk_at "go"
 intro a5 h5
 have s5:=jd_ h5 (.lst [.int 0])
 have e5:=jb_ (H:=H4) (a:=a5) (o:=.lst [.int 0])
 generalize upd H4 a5 (.lst [.int 0])=H5 at s5 e5 ⊢
 walk_at "go"
 refine ul_ e5 (by omega) fun a6 h6=>?_
 rw[show ((L:Int) - (p:Int)).toNat=L - p by omega]
 have s6:=jd_ h6 (.lst (pg_ (L - p) (.int 0)))
 have e6:=jb_ (H:=H5) (a:=a6) (o:=.lst (pg_ (L - p) (.int 0)))
 generalize upd H5 a6 (.lst (pg_ (L - p) (.int 0)))=H6 at s6 e6 ⊢
 walk_at "go"
 refine xz_ (s6 _ _ (s5 _ _ e4)) e6 (szn (by simp;omega)) fun a7 h7=>?_
 have s7:=jd_ h7 (.lst (pg_ p (.int 0)++[.int n]++pg_ (L - p) (.int 0)))
 have e7:=jb_ (H:=H6) (a:=a7) (o:=.lst (pg_ p (.int 0)++[.int n]++pg_ (L - p) (.int 0)))
 generalize upd H6 a7 (.lst (pg_ p (.int 0)++[.int n]++pg_ (L - p) (.int 0)))=H7 at s7 e7 ⊢
 walk_at "go"
 refine vq_ (j5_ e7) fun t H8 ht s8=>?_
 walk_at "go"
 refine q t H8 ?_ (((((((s1.trans s2).trans s3).trans s4).trans s5).trans s6).trans s7).trans s8)
 rw[ht]
 unfold one
 simp[ph_,to_]
theorem jar_ (T:Txt mg tk)(F:Fun K "candidates_at" "candidates_at" s_candidates_at f fd)(D_one_number:Dn P w K mg base "one_number" 1 ["number","place","length"] jqk_):FnOk P w K mg base CX0 2 f fd ["word","gap","number","length"] jke_:=by
 refine F.ok sc_candidates_at (fun vs H Q E h=>?_) (fun cdv A outer s H vs Q E hr h=>?_)
 ·obtain⟨w',g,n,L,rfl,_⟩:=h
  rfl
 obtain⟨w',g,n,L,rfl,hw,hg,hL,q⟩:=h
 have nd:=sc_candidates_at.nd
 refine⟨_,(je_ (jm_ (i:=4) nd rfl (Or.inr rfl) (jk_ jt_ (jk_ jt_ y5_ (pv 0)) y5_))
  (je_ (jm_ (i:=5) nd rfl (Or.inr rfl) (jk_ jt_ (pv 1) jf_))
  (je_ (jm_ (i:=6) nd rfl (Or.inl rfl) (jo_ (jrx_ rfl) rfl T.z_max (by decide +kernel) (ja_ jf_ (ja_ (jk_ xr_ (pv 5) (pv 3)) jc_))))
  (je_ (jm_ (i:=7) nd rfl (Or.inl rfl) (jo_ (c_min rfl) rfl T.z_min (by decide +kernel) (ja_ (pv 5) (ja_ (jk_ xr_ (jo_ (zm_ (K:=K)) rfl T.z_len (by decide +kernel) (ja_ (pv 4) jc_)) (pv 3)) jc_))))
  (ji_ (j2_ (zo_ ["framed","length","number","ahead","begin"] [some 4,some 3,some 2,some 5,none] rfl (by kernel_rfl) rfl (ym_ rfl T.z_range (ja_ (pv 6) (ja_ (jk_ jt_ (pv 7) jf_) jc_))) (fun _ _ _ _=>(jj_ (i:=4) (show (["framed","length","number","ahead","begin"]:List Str).Nodup by decide +kernel) rfl (Or.inl rfl) (Or.inr rfl))) (fun _ _ _ _=>z6_) (fun _ _ _ _=>(zx_ (ja_ (y0_ (vw_ (K:=K)) (pv 0) (z0_ (pv 4)) (z0_ (jk_ jt_ (pv 4) (pv 1)))) (ja_ (jn_ D_one_number hr.mo_ rfl (ja_ (pv 2) (ja_ (jk_ xr_ (pv 3) (pv 4)) (ja_ (pv 1) jc_)))) jc_))))))))))),?_⟩
 rw[show L2.start ["word","gap","number","length","framed","ahead","first","last"] [.str (S w'),.int (g:Int),.int n,.int (L:Int)]=[some (.str (S w')),some (.int (g:Int)),some (.int n),some (.int (L:Int)),none,none,none,none] from rfl]
 rw[jjn_]
 walk_at "go"
 rw[vs_]
 have hfl:=jq_ w'
 obtain⟨lo,hlo⟩:∃ lo:Int,(if (g:Int)+1 - (L:Int) > 0 then (g:Int)+1 - (L:Int) else 0)=lo:=⟨_,rfl⟩
 have hlo2:lo=((g+1 - L:Nat):Int):=by rw[<- hlo];split <;> omega
 walk_at "go"
 have hN:((if ((frame w').length:Int) - (L:Int) < (g:Int)+1 then ((frame w').length:Int) - (L:Int) else (g:Int)+1)+1 - (if (g:Int)+1 - (L:Int) > 0 then (g:Int)+1 - (L:Int) else 0)).toNat=vn_ (frame w') L g:=by
  unfold vn_
  rw[hlo,hlo2]
  split <;> split <;> omega
 rw[hN]
 rw[hlo,hlo2]
 clear hN hlo hlo2 lo
 intro r hr0
 have hcl:=jaf_ (frame w') L g
 refine z7_ (fun i acc σ H'=>∃(v:Option V),σ=[some (.str (S (frame w'))),some (.int (L:Int)),some (.int n),some (.int ((g:Int)+1)),v]/\acc.length=i/\L2.IsL H' acc ((po_ i).map fun k=>patD (cand (frame w') n L g k))/\H' r=some (.lst acc)/\Same H H')
  ⟨none,rfl,rfl,(by simp only[List.range_zero,qs_,L2.IsL]),jb_,jd_ hr0 _⟩ (fun i acc σ H' ⟨_,_,e,_,e2,_⟩=>⟨e2,by omega⟩) (szn (by omega)) ?_ ?_
 ·rintro i acc σ Ha hi ⟨v,rfl,hal,hacc,er,sa⟩
  have hb:((g+1 - L:Nat):Int)+(i:Int)=((g+1 - L+i:Nat):Int):=by omega
  have hbl:g+1 - L+i+L<=(frame w').length/\g+1 - L+i<=g+1/\g+1<=g+1 - L+i+L :=
   ⟨(candN_lt.mp hi).2,(candN_lt.mp hi).1,jde_ g L i⟩
  have hrange:(po_ (i+1)).map (fun k=>patD (cand (frame w') n L g k))=(po_ i).map (fun k=>patD (cand (frame w') n L g k))++[patD (cand (frame w') n L g i)]:=by rw[qm_,ph_];rfl
  rw[hrange]
  unfold cand
  clear hrange
  generalize g+1 - L+i=b at hb hbl ⊢
  have hgb:(g:Int)+1 - (b:Int)=((g+1 - b:Nat):Int):=by omega
  walk_at "go"
  rw[hb]
  have hcut:cutA (frame w') (some (b:Int)) (some ((b:Int)+(L:Int)))=((frame w').drop b).take L:=by
   rw[show (b:Int)+(L:Int)=((b+L:Nat):Int) by omega,jax_ (frame w') b (b+L) hbl.1 (by omega)]
   congr 1
   omega
  rw[hcut]
  walk_at "go"
  try rw[hb]
  try rw[hgb]
  refine⟨n,g+1 - b,L,rfl,by omega,by omega,fun t Hb ht sb=>?_⟩
  have erb:=sb _ _ er
  walk_at "go"
  intro tn htn
  have sc:=jd_ htn (.tup [.str (S (((frame w').drop b).take L)),.ref t])
  have etn:=jb_ (H:=Hb) (a:=tn) (o:=.tup [.str (S (((frame w').drop b).take L)),.ref t])
  generalize upd Hb tn (.tup [.str (S (((frame w').drop b).take L)),.ref t])=Hc at sc etn ⊢
  have erc:=sc _ _ erb
  have tkc:Tk Hc (upd Hc r (.lst (acc++[V.ref tn]))):=fun y zs' ey=>by
   rw[jh_ fun z=>by rw[z,erc] at ey;cases ey];exact ey
  refine⟨erc,_,rfl,by rw[pe_,hal];rfl,?_,jb_,fun c o ec=>?_⟩
  ·refine IsL.append ?_ ?_
   ·have h1:=IsL.same (sb.trans sc) hacc
    refine IsL.tk tkc ?_ h1
    have:=jw_ ((po_ i).map fun k=>cand (frame w') n L g k)
    rw[qy_] at this
    exact this
   ·simp only[L2.IsL]
    exact⟨jdm_ (x:=(((frame w').drop b).take L,one n (g+1 - b) L)) (tkc _ _ etn) (tkc _ _ (sc _ _ ht)),trivial⟩
  ·rw[jh_ (jg_ ec hr0)];exact sc _ _ (sb _ _ (sa _ _ ec))
 ·rintro acc σ Ha ⟨v,rfl,hal,hacc,er,sa⟩
  walk_at "go"
  refine q r acc Ha hr0 er ?_ sa
  unfold zy_
  rw[qy_]
  exact hacc
end
noncomputable abbrev s_goods_and_bads:Stmt:=top 10
theorem sc_goods_and_bads:FnScope ["words","patterns","number","length","odd","goods","bads","word","gap","told","broken","counts","candidate"] ["words","patterns","number","length"] (jp_ s_goods_and_bads):=by walk_at "f"
noncomputable def odd1 (n:Int):Bool:=decide (n % 2=1)
noncomputable def occ (n:Int)(L:Nat)(good:Bool)(x:Seen):List Pat:=if (x.b != odd1 n)=true then (if (x.t == odd1 n)=good then zy_ (frame x.w) n L x.g.toNat else []) else []
noncomputable def occs (n:Int)(L:Nat)(good:Bool)(l:List Seen):List Pat:=l.flatMap (occ n L good)
theorem jeu_ (n:Int)(L:Nat)(good:Bool)(l:List Seen)(x:Seen):occs n L good (l++[x])=occs n L good l++occ n L good x:=by unfold occs;simp
def spGB (P:Program)(w:World):Sp:=fun vs H Q _=>∃(v u:V) (ws xs:List Pat) (n:Int) (L:Nat),vs=[v,u,.int n,.int (L:Int)]/\Is H v (zc_ ws)/\Is H u (zc_ xs)/\(∀ x∈xs,1<=x.1.length/\x.1.length<=1000/\x.2.length<=x.1.length+1)/\xs.length<=9000/\(∀ x∈ws,1<=x.1.length/\x.1.length<=20)/\ws.length<=10/\-1000<=n/\n<=1000/\L<=100 /\
 ∀(t ga ba:Addr) (kg kb:List (PKey×Addr×V)) (H':Hp),H' t=some (.tup [.ref ga,.ref ba])->H ga=none->H ba=none->ga≠ba->H' ga=some (DX patKind P w ga kg)->H' ba=some (DX patKind P w ba kb)->CD H' kg (occs n L true (j0_ xs ws))->CD H' kb (occs n L false (j0_ xs ws))->Same H H'->Q (.ref t) H'
theorem jmq_ {xs ws:List Pat}(hw:∀ x∈ws,x.1.length<=20):∀ s∈j0_ xs ws,∃ g:Nat,s.g=(g:Int)/\g<=20/\s.w.length<=20:=fun s hs=>by
 unfold j0_ at hs
 obtain⟨x,hx,hs⟩:=qa_.mp hs
 obtain⟨j,hj,rfl⟩:=pq_.mp hs
 have h1:=p5_.mp hj
 have h2:=hw x hx
 exact⟨j+1,by simp[jcz_],by omega,h2⟩
theorem juq_ (n:Int)(L:Nat)(good:Bool){x:Seen}(h:x.g<=20):(occ n L good x).length<=22:=by
 unfold occ
 split
 ·split
  ·unfold zy_
   rw[pb_,qb_]
   have:=jaf_ (frame x.w) L x.g.toNat
   omega
  ·exact qj_ _
 ·exact qj_ _
theorem jab_ (n:Int)(L:Nat)(good:Bool):∀{l:List Seen},(∀ s∈l,s.g<=20)->(occs n L good l).length<=22 * l.length
 | [],_=>pm_ _
 | x::l,h=>by
  have h1:=jab_ n L good (l:=l) fun s hs=>h s (pl_ _ hs)
  have h2:=juq_ n L good (h x pn_)
  unfold occs at h1 ⊢
  rw[qi_,pe_,p3_]
  omega
def GBs (P:Program)(w:World)(H4 H:Hp)(ga ba:Addr)(lg lb:List Pat):Prop:=∃ kg kb:List (PKey×Addr×V),H ga=some (DX patKind P w ga kg)/\H ba=some (DX patKind P w ba kb)/\ga≠ba/\CD H kg lg/\CD H kb lb/\∀ b o,b≠ga->b≠ba->H4 b=some o->H b=some o
theorem GBs.same {P:Program}{w:World}{H4 H H':Hp}{ga ba:Addr}{lg lb:List Pat}(h:GBs P w H4 H ga ba lg lb)(s:Same H H'):GBs P w H4 H' ga ba lg lb:=by
 obtain⟨kg,kb,h1,h2,h3,h4,h5,h6⟩:=h
 exact⟨kg,kb,s _ _ h1,s _ _ h2,h3,h4.tk fun b xs e=>s _ _ e,h5.tk fun b xs e=>s _ _ e,fun b o a1 a2 e=>s _ _ (h6 b o a1 a2 e)⟩
theorem jlk_ {l:List Pat}{kvs:List (PKey×Addr×V)}{H:Hp}(h:CD H kvs l)(k:PKey):(valX kvs k).getD (.int 0)=.int (cnt l k:Int):=by
 rw[h.val]
 split
 ·rename_i q;rw[q];rfl
 ·rfl
theorem xm_ {H:Hp}{a b:Addr}{φ:Heap->Prop}{xs:List V}(h1:H a=some (.ext φ))(h2:H b=some (.tup xs)):b≠a:=fun z=>by rw[z,h1] at h2;cases h2
theorem GBs.goods {P:Program}{w:World}{H4 H:Hp}{ga ba:Addr}{lg lb:List Pat}(h:GBs P w H4 H ga ba lg lb)(hl:lg.length < 1000000){x:Pat}{b:Addr}(hb:patKind.at_ H (pk x) b) :
  ∃ o H',IsDX patKind P w H ga/\DGetX patKind P w H ga (.ref b) o/\o.getD (.int 0)=.int (cnt lg (pk x):Int)/\jik_ patKind P w H ga (.ref b) (.int ((cnt lg (pk x):Int)+1)) H'/\GBs P w H4 H' ga ba (lg++[x]) lb/\∀ c o,c≠ga->c≠ba->H c=some o->H' c=some o:=by
 obtain⟨kg,kb,h1,h2,h3,h4,h5,h6⟩:=h
 have hk:=h4.len
 have tk:∀ c xs,H c=some (.tup xs)->(upd H ga (DX patKind P w ga (putX kg (pk x) b (.int ((cnt lg (pk x):Int)+1))))) c=some (.tup xs):=fun c xs e=>by rw[jh_ (xm_ h1 e)];exact e
 refine⟨_,_,⟨kg,.inl h1,h4.ko⟩,⟨kg,pk x,b,.inl h1,h4.ko,rfl,hb,rfl⟩,jlk_ h4 _,⟨kg,pk x,b,h1,h4.ko,rfl,hb,szn (by omega),rfl⟩,⟨_,kb,jb_,(jh_ h3.symm).trans h2,h3,(h4.add hb).tk tk,h5.tk tk,fun c o a1 a2 e=>(jh_ a1).trans (h6 c o a1 a2 e)⟩,fun c o a1 a2 e=>(jh_ a1).trans e⟩
theorem GBs.bads {P:Program}{w:World}{H4 H:Hp}{ga ba:Addr}{lg lb:List Pat}(h:GBs P w H4 H ga ba lg lb)(hl:lb.length < 1000000){x:Pat}{b:Addr}(hb:patKind.at_ H (pk x) b) :
  ∃ o H',IsDX patKind P w H ba/\DGetX patKind P w H ba (.ref b) o/\o.getD (.int 0)=.int (cnt lb (pk x):Int)/\jik_ patKind P w H ba (.ref b) (.int ((cnt lb (pk x):Int)+1)) H'/\GBs P w H4 H' ga ba lg (lb++[x])/\∀ c o,c≠ga->c≠ba->H c=some o->H' c=some o:=by
 obtain⟨kg,kb,h1,h2,h3,h4,h5,h6⟩:=h
 have hk:=h5.len
 have tk:∀ c xs,H c=some (.tup xs)->(upd H ba (DX patKind P w ba (putX kb (pk x) b (.int ((cnt lb (pk x):Int)+1))))) c=some (.tup xs):=fun c xs e=>by rw[jh_ (xm_ h2 e)];exact e
 refine⟨_,_,⟨kb,.inl h2,h5.ko⟩,⟨kb,pk x,b,.inl h2,h5.ko,rfl,hb,rfl⟩,jlk_ h5 _,⟨kb,pk x,b,h2,h5.ko,rfl,hb,szn (by omega),rfl⟩,⟨kg,_,(jh_ h3).trans h1,jb_,h3,h4.tk tk,(h5.add hb).tk tk,fun c o a1 a2 e=>(jh_ a2).trans (h6 c o a1 a2 e)⟩,fun c o a1 a2 e=>(jh_ a2).trans e⟩
theorem jam_ {H:Hp}{v:V}{x:Pat}(h:Is H v (patD x)):∃ b,v=.ref b/\patKind.at_ H (pk x) b:=by
 obtain⟨a,t,rfl,h1,h2⟩:=xk_ h
 exact⟨a,rfl,t,h1,h2⟩
section
variable {P:Program}{w:World}{K:pc_}{mg:Str->Option Value}{base:Heap}{f:Addr}{fd:FuncData}{tk:Nat->Tok}
theorem uz_ (T:Txt mg tk)(F:Fun K "goods_and_bads" "goods_and_bads" s_goods_and_bads f fd)(D_seen_gaps:Dn P w K mg base "seen_gaps" 4 ["words","patterns"] jlt_)(D_candidates_at:Dn P w K mg base "candidates_at" 2 ["word","gap","number","length"] jke_):FnOk P w K mg base CX0 5 f fd ["words","patterns","number","length"] (spGB P w):=by
 refine F.ok sc_goods_and_bads (fun vs H Q E h=>?_) (fun cdv A outer s H vs Q E hr h=>?_)
 ·obtain⟨v,u,ws,xs,n,L,rfl,_⟩:=h
  rfl
 obtain⟨v,u,ws,xs,n,L,rfl,hv,hu,hxs,hxl,hws,hwl,hn0,hn1,hL,q⟩:=h
 have nd:=sc_goods_and_bads.nd
 refine⟨_,(je_ (jm_ (i:=4) nd rfl (Or.inl rfl) (zs_ (o_eq hr.units) (jk_ xp_ (pv 2) jf_) jf_ (j3_ _)))
  (je_ (jm_ (i:=5) nd rfl (Or.inl rfl) (uj_ (N:=patKind) (P:=P) (w:=w) rfl rfl))
  (je_ (jm_ (i:=6) nd rfl (Or.inl rfl) (uj_ (N:=patKind) (P:=P) (w:=w) rfl rfl))
  (je_ (j1_ pu_ rfl (zb_ (K:=K) (jn_ D_seen_gaps hr.mo_ rfl (ja_ (pv 0) (ja_ (pv 1) jc_)))) (yi_ rfl (jr_ (jj_ (i:=7) nd rfl (Or.inl rfl)) (jr_ (jj_ (i:=8) nd rfl (Or.inl rfl)) (jr_ (jj_ (i:=9) nd rfl (Or.inl rfl)) (jr_ (jj_ (i:=10) nd rfl (Or.inl rfl)) zu_)))))
   (ji_ (y1_ (zd_ (o_ne hr.units) (pv 10) (pv 4) (j3_ _))
   (je_ (jm_ (i:=11) nd rfl (Or.inl rfl) (jtf_ (zd_ (o_eq hr.units) (pv 9) (pv 4) (j3_ _)) (pv 5) (pv 6)))
  (ji_ (j1_ pu_ rfl (zb_ (K:=K) (jn_ D_candidates_at hr.mo_ rfl (ja_ (pv 7) (ja_ (pv 8) (ja_ (pv 2) (ja_ (pv 3) jc_)))))) (jj_ (i:=12) nd rfl (Or.inl rfl))
   (ji_ (jdu_ (N:=patKind) (P:=P) (w:=w) rfl rfl (z4_ hr) (pv 11) (pv 12) (jk_ jt_ (jgm_ (N:=patKind) (P:=P) (w:=w) rfl rfl (z4_ hr) (pv 11) (pv 12) jf_ ⟨rfl,rfl,rfl,rfl⟩) jf_) rfl)))))
   z1_)))
  (ji_ (j2_ (zx_ (ja_ (pv 5) (ja_ (pv 6) jc_))))))))),?_⟩
 rw[show L2.start ["words","patterns","number","length","odd","goods","bads","word","gap","told","broken","counts","candidate"] [v,u,.int n,.int (L:Int)]=[some (v),some (u),some (.int n),some (.int (L:Int)),none,none,none,none,none,none,none,none,none] from rfl]
 walk_at "go"
 have hodd:decide (V.int (n % 2)=V.int 1)=odd1 n:=by unfold odd1;simp
 rw[hodd]
 refine ui_ fun ga hga=>?_
 have s1:=jd_ hga (DX patKind P w ga [])
 have ega:=jb_ (H:=H) (a:=ga) (o:=DX patKind P w ga [])
 generalize upd H ga (DX patKind P w ga [])=H1 at s1 ega ⊢
 walk_at "go"
 refine ui_ fun ba hba=>?_
 have gaba:ga≠ba:=jg_ ega hba
 have hbaH:H ba=none:=s1.free hba
 have s2:=jd_ hba (DX patKind P w ba [])
 have eba:=jb_ (H:=H1) (a:=ba) (o:=DX patKind P w ba [])
 generalize upd H1 ba (DX patKind P w ba [])=H2 at s2 eba ⊢
 have s02:=s1.trans s2
 have ega2:=s2 _ _ ega
 walk_at "go"
 refine⟨v,u,ws,xs,rfl,Is.same s02 hv,Is.same s02 hu,hxs,hxl,fun x hx=>⟨(hws x hx).1,by have:=(hws x hx).2;omega⟩,by omega,fun r zs H3 hr0 er hzs s3=>?_⟩
 have hsl:(j0_ xs ws).length<=200:=by
  have:=ua_ (xs:=xs) (m:=20) (ws:=ws) fun x hx=>(hws x hx).2
  omega
 have hsg:=jmq_ (xs:=xs) (ws:=ws) fun x hx=>(hws x hx).2
 generalize j0_ xs ws=ss at hzs hsl hsg q
 have hzl:=hzs.length
 rw[pb_] at hzl
 have ega3:=s3 _ _ ega2
 have eba3:=s3 _ _ eba
 have rga:r≠ga:=fun z=>by rw[z,ega2] at hr0;cases hr0
 have rba:r≠ba:=fun z=>by rw[z,eba] at hr0;cases hr0
 have gb0:GBs P w H3 H3 ga ba [] []:=⟨[],[],ega3,eba3,gaba,CD.nil,CD.nil,fun _ _ _ _ e=>e⟩
 have s03:=s02.trans s3
 have kept:∀{H':Hp}{lg lb:List Pat},GBs P w H3 H' ga ba lg lb->Same H H':=fun⟨kg,kb,h1,h2,h3,h4,h5,h6⟩ b o e=>h6 b o (jg_ e hga) (jg_ e hbaH) (s03 _ _ e)
 have kr:∀{H':Hp}{lg lb:List Pat},GBs P w H3 H' ga ba lg lb->H' r=some (.lst zs)/\Tk H3 H':=fun⟨kg,kb,h1,h2,h3,h4,h5,h6⟩=>⟨h6 _ _ rga rba er,fun b ys e=>h6 b _ (xm_ ega3 e) (xm_ eba3 e) e⟩
 clear s1 s2 s3 ega ega2 eba s02
 walk_at "go"
 try refine xg_ (SqL.of er) ?_
 refine zh_ (K:=K) (xs:=zs) (fun i σ H'=>∃(v7 v8 v9 v10 v11 v12:Option V),σ=[some v,some u,some (.int n),some (.int (L:Int)),some (.bl (odd1 n)),some (.ref ga),some (.ref ba),v7,v8,v9,v10,v11,v12]/\GBs P w H3 H' ga ba (occs n L true (ss.take i)) (occs n L false (ss.take i)))
  ⟨none,none,none,none,none,none,rfl,gb0⟩ (fun i σ H' _ ⟨_,_,_,_,_,_,_,g⟩=>SqL.of (kr g).1) ?_ ?_
 ·rintro i y σ Ha hy ⟨v7,v8,v9,v10,v11,v12,rfl,ga1⟩
  have hi:i < ss.length:=by have:=(pj_.mp hy).1;omega
  obtain⟨y',d,hy',hd1,hI⟩:=IsL.get (IsL.tk (kr ga1).2 (va_ _) hzs) (i:=i) (by rw[pb_];exact hi)
  rw[hy] at hy'
  cases hy'
  rw[pf_,pa_ hi] at hd1
  cases hd1
  obtain⟨a2,rfl,ea2⟩:=jzu_ hI
  obtain⟨g,hg,hg20,hw20⟩:=hsg _ (ps_ hi)
  have htk:ss.take (i+1)=ss.take i++[ss[i]]:=by rw[p8_,pa_ hi];rfl
  have hlg:=jab_ n L true (l:=ss.take i) fun s hs=>by obtain⟨g',e,h1,_⟩:=hsg s (qu_ hs);omega
  have hlb:=jab_ n L false (l:=ss.take i) fun s hs=>by obtain⟨g',e,h1,_⟩:=hsg s (qu_ hs);omega
  have htl:(ss.take i).length<=200:=by rw[pw_];omega
  rw[htk,jeu_,jeu_]
  generalize ss[i]=sx at *
  generalize occs n L true (ss.take i)=lg at *
  generalize occs n L false (ss.take i)=lb at *
  refine yq_ ea2 rfl (jv_ (jy_ (jv_ (jy_ (jv_ (jy_ (jv_ (jy_ (z9_ ?_)))))))))
  walk_at "go"
  by_cases hb:sx.b=odd1 n
  ·have ho:∀ c,occ n L c sx=[]:=fun c=>by unfold occ;rw[if_neg (by simp[hb])]
   rw[ho,ho,qk_,qk_]
   refine yp_ (by rw[hb];simp) ?_
   walk_at "go"
   exact⟨_,_,_,_,_,_,rfl,ga1⟩
  ·have hbx:(sx.b != odd1 n)=true:=by simp[hb]
   have hgn:sx.g.toNat=g:=by rw[hg];exact sr_ g
   refine yl_ (by simp[hb]) ?_
   walk_at "go"
   by_cases ht:sx.t=odd1 n
   ·have ho1:occ n L true sx=zy_ (frame sx.w) n L g:=by unfold occ;rw[if_pos hbx,if_pos (by simp[ht]),hgn]
    have ho2:occ n L false sx=[]:=by unfold occ;rw[if_pos hbx,if_neg (by simp[ht])]
    rw[ho1,ho2,qk_]
    refine yl_ (by rw[ht];simp) ?_
    walk_at "go"
    rw[hg]
    refine⟨sx.w,g,n,L,rfl,by omega,by omega,hL,fun rc zc Hb hrc erc hzc sb=>?_⟩
    have gb1:=ga1.same sb
    obtain⟨φg,ebg⟩:∃ φ,Hb ga=some (.ext φ):=by obtain⟨kg,kb,h1,_⟩:=gb1;exact⟨_,h1⟩
    obtain⟨φb,ebb⟩:∃ φ,Hb ba=some (.ext φ):=by obtain⟨kg,kb,h1,h2,_⟩:=gb1;exact⟨_,h2⟩
    have rcga:rc≠ga:=fun z=>by rw[z,ebg] at erc;cases erc
    have rcba:rc≠ba:=fun z=>by rw[z,ebb] at erc;cases erc
    have hcl:(zy_ (frame sx.w) n L g).length<=22:=by unfold zy_;rw[pb_,qb_];have:=jaf_ (frame sx.w) L g;omega
    generalize zy_ (frame sx.w) n L g=cs at hzc hcl ⊢
    have hcz:=hzc.length
    rw[pb_] at hcz
    walk_at "go"
    try refine xg_ (SqL.of erc) ?_
    refine zh_ (K:=K) (xs:=zc) (fun j σ H'=>∃(v12:Option V),σ=[some v,some u,some (.int n),some (.int (L:Int)),some (.bl (odd1 n)),some (.ref ga),some (.ref ba),some (.str (S sx.w)),some (.int (g:Int)),some (.bl sx.t),some (.bl sx.b),some (.ref ga),v12]/\GBs P w H3 H' ga ba (lg++cs.take j) lb/\∀ b o,b≠ga->b≠ba->Hb b=some o->H' b=some o)
     ⟨_,rfl,by rw[lr_,qk_];exact gb1,fun _ _ _ _ e=>e⟩ (fun j σ H' _ ⟨_,_,_,k⟩=>SqL.of (k _ _ rcga rcba erc)) ?_ ?_
    ·rintro j y2 σ Hc hy2 ⟨v12,rfl,gc,gc2⟩
     have hj:j < cs.length:=by have:=(pj_.mp hy2).1;omega
     have hIc:Is Hc y2 (patD cs[j]):=by
      have tkc:Tk Hb Hc:=fun b ys e=>gc2 b _ (fun z=>by rw[z] at e;rw[ebg] at e;cases e) (fun z=>by rw[z] at e;rw[ebb] at e;cases e) e
      obtain⟨y',d,q1,q2,q3⟩:=IsL.get (IsL.tk tkc (jw_ _) hzc) (i:=j) (by rw[pb_];exact hj)
      rw[hy2] at q1
      cases q1
      rw[pf_,pa_ hj] at q2
      cases q2
      exact q3
     obtain⟨bk,rfl,hat⟩:=jam_ hIc
     have htk2:cs.take (j+1)=cs.take j++[cs[j]]:=by rw[p8_,pa_ hj];rfl
     rw[htk2,<- qw_]
     generalize cs[j]=cx at *
     have hll:(lg++cs.take j).length < 1000000:=by rw[pe_,pw_];omega
     obtain⟨o,Hd,k1,k2,k3,k4,k5,k6⟩:=gc.goods hll hat
     walk_at "go"
     refine jaz_ ?_
     walk_at "go"
     refine jcb_ ?_
     walk_at "go"
     refine⟨ga,rfl,k1,?_⟩
     walk_at "go"
     refine⟨o,k2,?_⟩
     rw[k3]
     walk_at "go"
     refine⟨ga,Hd,rfl,k4,?_⟩
     walk_at "go"
     exact⟨_,rfl,k5,fun c o a1 a2 e=>k6 c o a1 a2 (gc2 c o a1 a2 e)⟩
    ·rintro σ Hc ⟨v12,rfl,gc,gc2⟩
     rw[hcz,p0_] at gc
     exact⟨_,_,_,_,_,_,rfl,gc⟩
   ·have htf:(sx.t == odd1 n)=false:=by simpa using ht
    have ho1:occ n L false sx=zy_ (frame sx.w) n L g:=by unfold occ;rw[if_pos hbx,if_pos htf,hgn]
    have ho2:occ n L true sx=[]:=by unfold occ;rw[if_pos hbx,if_neg (by rw[htf];simp)]
    rw[ho1,ho2,qk_]
    refine yp_ (by simpa using ht) ?_
    walk_at "go"
    rw[hg]
    refine⟨sx.w,g,n,L,rfl,by omega,by omega,hL,fun rc zc Hb hrc erc hzc sb=>?_⟩
    have gb1:=ga1.same sb
    obtain⟨φg,ebg⟩:∃ φ,Hb ga=some (.ext φ):=by obtain⟨kg,kb,h1,_⟩:=gb1;exact⟨_,h1⟩
    obtain⟨φb,ebb⟩:∃ φ,Hb ba=some (.ext φ):=by obtain⟨kg,kb,h1,h2,_⟩:=gb1;exact⟨_,h2⟩
    have rcga:rc≠ga:=fun z=>by rw[z,ebg] at erc;cases erc
    have rcba:rc≠ba:=fun z=>by rw[z,ebb] at erc;cases erc
    have hcl:(zy_ (frame sx.w) n L g).length<=22:=by unfold zy_;rw[pb_,qb_];have:=jaf_ (frame sx.w) L g;omega
    generalize zy_ (frame sx.w) n L g=cs at hzc hcl ⊢
    have hcz:=hzc.length
    rw[pb_] at hcz
    walk_at "go"
    try refine xg_ (SqL.of erc) ?_
    refine zh_ (K:=K) (xs:=zc) (fun j σ H'=>∃(v12:Option V),σ=[some v,some u,some (.int n),some (.int (L:Int)),some (.bl (odd1 n)),some (.ref ga),some (.ref ba),some (.str (S sx.w)),some (.int (g:Int)),some (.bl sx.t),some (.bl sx.b),some (.ref ba),v12]/\GBs P w H3 H' ga ba lg (lb++cs.take j)/\∀ b o,b≠ga->b≠ba->Hb b=some o->H' b=some o)
     ⟨_,rfl,by rw[lr_,qk_];exact gb1,fun _ _ _ _ e=>e⟩ (fun j σ H' _ ⟨_,_,_,k⟩=>SqL.of (k _ _ rcga rcba erc)) ?_ ?_
    ·rintro j y2 σ Hc hy2 ⟨v12,rfl,gc,gc2⟩
     have hj:j < cs.length:=by have:=(pj_.mp hy2).1;omega
     have hIc:Is Hc y2 (patD cs[j]):=by
      have tkc:Tk Hb Hc:=fun b ys e=>gc2 b _ (fun z=>by rw[z] at e;rw[ebg] at e;cases e) (fun z=>by rw[z] at e;rw[ebb] at e;cases e) e
      obtain⟨y',d,q1,q2,q3⟩:=IsL.get (IsL.tk tkc (jw_ _) hzc) (i:=j) (by rw[pb_];exact hj)
      rw[hy2] at q1
      cases q1
      rw[pf_,pa_ hj] at q2
      cases q2
      exact q3
     obtain⟨bk,rfl,hat⟩:=jam_ hIc
     have htk2:cs.take (j+1)=cs.take j++[cs[j]]:=by rw[p8_,pa_ hj];rfl
     rw[htk2,<- qw_]
     generalize cs[j]=cx at *
     have hll:(lb++cs.take j).length < 1000000:=by rw[pe_,pw_];omega
     obtain⟨o,Hd,k1,k2,k3,k4,k5,k6⟩:=gc.bads hll hat
     walk_at "go"
     refine jaz_ ?_
     walk_at "go"
     refine jcb_ ?_
     walk_at "go"
     refine⟨ba,rfl,k1,?_⟩
     walk_at "go"
     refine⟨o,k2,?_⟩
     rw[k3]
     walk_at "go"
     refine⟨ba,Hd,rfl,k4,?_⟩
     walk_at "go"
     exact⟨_,rfl,k5,fun c o a1 a2 e=>k6 c o a1 a2 (gc2 c o a1 a2 e)⟩
    ·rintro σ Hc ⟨v12,rfl,gc,gc2⟩
     rw[hcz,p0_] at gc
     exact⟨_,_,_,_,_,_,rfl,gc⟩
 ·rintro σ Ha ⟨v7,v8,v9,v10,v11,v12,rfl,ga1⟩
  rw[hzl,p0_] at ga1
  have hk:=kept ga1
  obtain⟨kg,kb,h1,h2,h3,h4,h5,h6⟩:=ga1
  walk_at "go"
  intro t ht
  have st:=jd_ ht (.tup [.ref ga,.ref ba])
  refine q t ga ba kg kb _ jb_ hga hbaH gaba (st _ _ h1) (st _ _ h2) (h4.tk fun b xs e=>st _ _ e) (h5.tk fun b xs e=>st _ _ e) (hk.trans st)
end
noncomputable abbrev s_is_worth:Stmt:=top 11
theorem sc_is_worth:FnScope ["good","bad","cost"] ["good","bad","cost"] (jp_ s_is_worth):=by walk_at "f"
noncomputable abbrev s_learnt_at:Stmt:=top 12
theorem sc_learnt_at:FnScope ["words","patterns","number","length","cost","counted","goods","bads"] ["words","patterns","number","length","cost"] (jp_ s_learnt_at):=by walk_at "f"
noncomputable def cV:Option Int->V
 | none=>.non
 | some c=>.int c
noncomputable def y6_ (g b:Int):Option Int->Bool
 | none=>decide (b=0)
 | some c=>decide (b * c<=g)
def jhl_:Sp:=fun vs H Q _=>∃(g b:Int) (c:Option Int),vs=[.int g,.int b,cV c]/\0<=g/\g<=1000000/\0<=b/\b<=1000000/\(∀ k,c=some k->0<=k/\k<=1000000)/\Q (.bl (y6_ g b c)) H
def isLA (lg lb:List Pat)(c:Option Int)(ps:List Pat):Prop:=SrtP (ps.map pk)/\(ps.map pk).Nodup/\∀ x,x∈ps↔x∈lg/\y6_ (cnt lg (pk x):Int) (cnt lb (pk x):Int) c=true
def spLA:Sp:=fun vs H Q _=>∃(v u:V) (ws xs:List Pat) (n:Int) (L:Nat) (c:Option Int),vs=[v,u,.int n,.int (L:Int),cV c]/\Is H v (zc_ ws)/\Is H u (zc_ xs)/\(∀ x∈xs,1<=x.1.length/\x.1.length<=1000/\x.2.length<=x.1.length+1)/\xs.length<=9000/\(∀ x∈ws,1<=x.1.length/\x.1.length<=20)/\(ws.length<=10/\(occs n L true (j0_ xs ws)).length < 64)/\-1000<=n/\n<=1000/\L<=100/\(∀ k,c=some k->0<=k/\k<=1000000) /\
 ∀(r:Addr) (zs:List V) (ps:List Pat) (H':Hp),H r=none->H' r=some (.lst zs)->L2.IsL H' zs (ps.map patD)->isLA (occs n L true (j0_ xs ws)) (occs n L false (j0_ xs ws)) c ps->Same H H'->Q (.ref r) H'
noncomputable def unpk (k:PKey):Pat:=(k.1.cps.toList,k.2)
theorem jhh_ (k:PKey):pk (unpk k)=k:=by
 obtain⟨⟨⟨l⟩⟩,ns⟩:=k
 rfl
theorem jnp_ (x:Pat):unpk (pk x)=x:=by
 unfold unpk pk
 exact Prod.ext (by simp[jwy_]) rfl
theorem ve_ {x y:Pat}(h:pk x=pk y):x=y:=by rw[<- jnp_ x,h,jnp_]
theorem jno_ {H:Hp}{k:PKey}{b:Addr}(h:patKind.at_ H k b):Is H (.ref b) (patD (unpk k)):=by
 obtain⟨t,h1,h2⟩:=h
 refine jdm_ (x:=unpk k) (t:=t) ?_ h2
 rw[h1]
 have:=congrArg Prod.fst (jhh_ k)
 have e:S (unpk k).1=k.1:=this
 rw[e]
theorem jaq_ {H:Hp}:∀{l:List (Addr×PKey)},(∀ p∈l,Is H (.ref p.1) (patD (unpk p.2)))->L2.IsL H (l.map fun p=>V.ref p.1) ((l.map fun p=>unpk p.2).map patD)
 | [],_=>by simp only[qs_,L2.IsL]
 | p::l,h=>by
  simp only[pr_,L2.IsL]
  exact⟨h p pn_,jaq_ fun q hq=>h q (pl_ _ hq)⟩
theorem jnh_ {K':Type} [DecidableEq K']{N:OwnKind K'}{P:Program}{w:World}{tl:TE}{σ:St}{H:Hp}{R:It->Hp->Prop}(h:tl σ H fun x H1=>∃(a:Addr) (kvs:List (K'×Addr×V)),x=.ref a/\H1 a=some (DX N P w a kvs)/\KO N H1 kvs/\∀ o,R (Itx N P w a o kvs) (upd H1 a (.frz o (DX N P w a kvs)))):jjq_ N P w tl σ H R:=h
section
variable {P:Program}{w:World}{K:pc_}{mg:Str->Option Value}{base:Heap}{f:Addr}{fd:FuncData}{tk:Nat->Tok}
theorem jib_ (T:Txt mg tk)(F:Fun K "is_worth" "is_worth" s_is_worth f fd):FnOk P w K mg base CX0 1 f fd ["good","bad","cost"] jhl_:=by
 refine F.ok sc_is_worth (fun vs H Q E h=>?_) (fun cdv A outer s H vs Q E hr h=>?_)
 ·obtain⟨g,b,c,rfl,_⟩:=h
  rfl
 obtain⟨g,b,c,rfl,hg0,hg1,hb0,hb1,hc,q⟩:=h
 have nd:=sc_is_worth.nd
 refine⟨_,(je_ (y1_ (zd_ o_is (pv 2) xx_ (j3_ _))
   (ji_ (j2_ (zs_ (o_eq hr.units) (pv 1) jf_ (j3_ _))))
   z1_)
  (ji_ (j2_ (zs_ o_le (jk_ yo_ (pv 1) (pv 2)) (pv 0) (j3_ _))))),?_⟩
 rw[show L2.start ["good","bad","cost"] [.int g,.int b,cV c]=[some (.int g),some (.int b),some (cV c)] from rfl]
 cases c with
 | none =>
  simp only[cV]
  walk_at "go"
  unfold y6_ at q
  have:decide (V.int b=V.int 0)=decide (b=0):=by simp
  rw[this]
  exact q
 | some k =>
  simp only[cV]
  walk_at "go"
  unfold y6_ at q
  exact q
theorem jgt_ (T:Txt mg tk)(F:Fun K "learnt_at" "learnt_at" s_learnt_at f fd)(D_goods_and_bads:Dn P w K mg base "goods_and_bads" 5 ["words","patterns","number","length"] (spGB P w))(D_is_worth:Dn P w K mg base "is_worth" 1 ["good","bad","cost"] jhl_):FnOk P w K mg base CX0 6 f fd ["words","patterns","number","length","cost"] spLA:=by
 refine F.ok sc_learnt_at (fun vs H Q E h=>?_) (fun cdv A outer s H vs Q E hr h=>?_)
 ·obtain⟨v,u,ws,xs,n,L,c,rfl,_⟩:=h
  rfl
 obtain⟨v,u,ws,xs,n,L,c,rfl,hv,hu,hxs,hxl,hws,hwl,hn0,hn1,hL,hc,q⟩:=h
 have nd:=sc_learnt_at.nd
 have hll:∀ good,(occs n L good (j0_ xs ws)).length<=4400:=fun good=>by
  have h1:=jab_ n L good (l:=j0_ xs ws) fun s hs=>by obtain⟨g',e,h1,_⟩:=jmq_ (fun x hx=>(hws x hx).2) s hs;omega
  have:=ua_ (xs:=xs) (m:=20) (ws:=ws) fun x hx=>(hws x hx).2
  omega
 refine⟨_,(je_ (jm_ (i:=5) nd rfl (Or.inl rfl) (jn_ D_goods_and_bads hr.mo_ rfl (ja_ (pv 0) (ja_ (pv 1) (ja_ (pv 2) (ja_ (pv 3) jc_))))))
  (je_ (jm_ (i:=6) nd rfl (Or.inr rfl) (jz_ (js_ (K:=K)) (pv 5) jf_ (fun _ _=>rfl)))
  (je_ (jm_ (i:=7) nd rfl (Or.inr rfl) (jz_ (js_ (K:=K)) (pv 5) jf_ (fun _ _=>rfl)))
  (ji_ (j2_ (jo_ (jiu_ rfl (jmj_ hr)) rfl T.z_sorted (by decide +kernel) (ja_ (jqe_ (zo_ ["goods","bads","cost","candidate"] [some 6,some 7,some 4,none] rfl (by kernel_rfl) rfl (jne_ (N:=patKind) (P:=P) (w:=w) rfl rfl (pv 6)) (fun _ _ _ _=>(jj_ (i:=3) (show (["goods","bads","cost","candidate"]:List Str).Nodup by decide +kernel) rfl (Or.inl rfl) (Or.inr rfl))) (fun _ _ _ _=>(xu_ (x7_ (jn_ D_is_worth hr.mo_ rfl (ja_ (v0_ (N:=patKind) (P:=P) (w:=w) rfl rfl (z4_ hr) (pv 0) (pv 3) (fun _ _=>rfl)) (ja_ (jgm_ (N:=patKind) (P:=P) (w:=w) rfl rfl (z4_ hr) (pv 1) (pv 3) jf_ ⟨rfl,rfl,rfl,rfl⟩) (ja_ (pv 2) jc_)))) (fun _=>rfl)))) (fun _ _ _ _=>(pv 3)))) jc_))))))),?_⟩
 rw[show L2.start ["words","patterns","number","length","cost","counted","goods","bads"] [v,u,.int n,.int (L:Int),cV c]=[some (v),some (u),some (.int n),some (.int (L:Int)),some (cV c),none,none,none] from rfl]
 walk_at "go"
 refine⟨v,u,ws,xs,n,L,rfl,hv,hu,hxs,hxl,hws,hwl.1,hn0,hn1,hL,fun t ga ba kg kb H1 et hga hba gaba eg eb cg cb s1=>?_⟩
 have hlg:=hll true
 have h64:=hwl.2
 clear hwl
 have hlb:=hll false
 generalize occs n L true (j0_ xs ws)=lg at *
 generalize occs n L false (j0_ xs ws)=lb at *
 walk_at "go"
 refine jsv_ (N:=patKind) (P:=P) (w:=w) ga kg (fun o u e=>by
  have e:H ga=some (.frz o u):=e
  rw[hga] at e;cases e) ?_
 walk_at "go"
 refine jnh_ ?_
 walk_at "go"
 refine⟨ga,kg,rfl,eg,cg.ko,fun ob=>?_⟩
 have tk8:Tk H1 (upd H1 ga (.frz ob (DX patKind P w ga kg))):=fun b zs e=>by rw[jh_ (xm_ eg e)];exact e
 have eg8:=jb_ (H:=H1) (a:=ga) (o:=.frz ob (DX patKind P w ga kg))
 have eb8:(upd H1 ga (.frz ob (DX patKind P w ga kg))) ba=_:=(jh_ gaba.symm).trans eb
 have cg8:=cg.tk tk8
 have cb8:=cb.tk tk8
 have s08:Same H (upd H1 ga (.frz ob (DX patKind P w ga kg))):=fun b o e=>by rw[jh_ (jg_ e hga)];exact s1 _ _ e
 generalize upd H1 ga (.frz ob (DX patKind P w ga kg))=H8 at eg8 eb8 cg8 cb8 s08 ⊢
 clear tk8 eg eb cg cb s1
 intro r2 hr2
 have hr2H:H r2=none:=s08.free hr2
 have hkl:=cg8.len
 obtain⟨wf,hwf⟩:∃ wf:PKey×Addr×V->Bool,wf=fun e=>y6_ (cnt lg e.1:Int) (cnt lb e.1:Int) c:=⟨_,rfl⟩
 refine jlm_ (N:=patKind) (P:=P) (w:=w) (a:=ga) (o:=ob) (kvs:=kg) (fun j acc σ H'=>∃(v:Option V),σ=[some (.ref ga),some (.ref ba),some (cV c),v]/\acc=((kg.take j).filter wf).map (fun e=>V.ref e.2.1)/\H' r2=some (.lst acc)/\Same H8 H')
  (fun j acc σ H' _ ⟨_,_,_,_,s⟩=>s _ _ eg8) ⟨none,rfl,rfl,jb_,jd_ hr2 _⟩ (fun j acc σ H' ⟨_,_,e,e2,_⟩=>⟨e2,by rw[e,pb_];exact p7_ (qf_ _ _) (by rw[pw_];omega)⟩) (szn (by omega)) ?_ ?_
 ·rintro j acc σ H9 hj ⟨v3,rfl,rfl,er,s9⟩
  have hgj:(kg.map fun e=>V.ref e.2.1).getD j .non=.ref kg[j].2.1:=by rw[pd_,pf_,pa_ hj];rfl
  rw[hgj]
  have htk:(kg.take (j+1)).filter wf=(kg.take j).filter wf++if wf kg[j]=true then [kg[j]] else []:=by
   rw[p8_,pa_ hj,qd_]
   congr 1
   simp only[r0_,pz_,qn_]
  rw[htk]
  have hm:=ps_ hj
  generalize kg[j]=e at hm ⊢
  have hat9:=y7_ (fun b xs q=>s9 _ _ q) (cg8.ko e hm)
  have hko:KO patKind H9 kg:=fun e' he'=>y7_ (fun b xs q=>s9 _ _ q) (cg8.ko e' he')
  have hkb:KO patKind H9 kb:=fun e' he'=>y7_ (fun b xs q=>s9 _ _ q) (cb8.ko e' he')
  have hc0:cnt lg e.1≠0:=cnt_pos.mpr ((cg8.mem e.1).mp (r9_ hm))
  have hcl1:cnt lg e.1<=4400:=p7_ (qf_ _ _) hlg
  have hcl2:cnt lb e.1<=4400:=p7_ (qf_ _ _) hlb
  have hval:valX kg e.1=some (.int (cnt lg e.1:Int)):=by rw[cg8.val,if_neg hc0]
  walk_at "go"
  refine vt_ ?_
  walk_at "go"
  refine⟨ga,_,rfl,⟨kg,e.1,e.2.1,.inr ⟨ob,s9 _ _ eg8⟩,hko,rfl,hat9,hval.symm⟩,?_⟩
  walk_at "go"
  refine jcb_ ?_
  walk_at "go"
  refine⟨ba,rfl,⟨kb,.inl (s9 _ _ eb8),hkb⟩,?_⟩
  walk_at "go"
  refine⟨_,⟨kb,e.1,e.2.1,.inl (s9 _ _ eb8),hkb,rfl,hat9,rfl⟩,?_⟩
  rw[jlk_ cb8]
  walk_at "go"
  refine⟨_,_,c,rfl,by omega,by omega,by omega,by omega,hc,?_⟩
  have hwe:y6_ (cnt lg e.1:Int) (cnt lb e.1:Int) c=wf e:=by rw[hwf]
  rw[hwe]
  cases hw:wf e with
  | false =>
   walk_at "go"
   exact⟨_,rfl,by simp,er,s9⟩
  | true =>
   walk_at "go"
   refine⟨er,_,rfl,by simp,jb_,fun b o q=>?_⟩
   rw[jh_ (jg_ q hr2)];exact s9 _ _ q
 ·rintro acc σ H9 ⟨v3,rfl,rfl,er,s9⟩
  rw[p0_] at er
  refine⟨⟨ob,s9 _ _ eg8⟩,?_⟩
  have r2ga:r2≠ga:=fun z=>by rw[z,eg8] at hr2;cases hr2
  have tk10:Tk H9 (upd H9 ga (DX patKind P w ga kg)):=fun b zs q=>by rw[jh_ fun z=>by rw[z,s9 _ _ eg8] at q;cases q];exact q
  have er10:(upd H9 ga (DX patKind P w ga kg)) r2=_:=(jh_ r2ga).trans er
  have s10:Same H (upd H9 ga (DX patKind P w ga kg)):=fun b o q=>by rw[jh_ (jg_ q hga)];exact s9 _ _ (s08 _ _ q)
  have ko10:KO patKind (upd H9 ga (DX patKind P w ga kg)) kg:=fun e' he'=>y7_ (fun b xs q=>tk10 _ _ (s9 _ _ q)) (cg8.ko e' he')
  generalize upd H9 ga (DX patKind P w ga kg)=H10 at er10 s10 ko10 ⊢
  walk_at "go"
  refine jiw_ (l:=r2) (ps:=(kg.filter wf).map fun e=>(e.2.1,e.1)) (by rw[qy_];exact er10) (fun p hp=>?_) (by rw[pb_];exact sz_ (qf_ _ _) (sz_ cg8.len h64)) fun rr qs hrr hqp hqs=>?_
  ·obtain⟨e,he,rfl⟩:=pq_.mp hp
   exact ko10 e (py_.mp he).1
  ·have hqat:∀ p∈qs,Is H10 (.ref p.1) (patD (unpk p.2)):=fun p hp=>by
    obtain⟨e,he,rfl⟩:=pq_.mp (hqp.mem_iff.mp hp)
    exact jno_ (ko10 e (py_.mp he).1)
   have hpk:(qs.map fun p=>unpk p.2).map pk=qs.map (·.2):=by
    rw[qy_]
    exact qz_ fun p _=>jhh_ p.2
   have hpm:(qs.map (·.2)).Perm ((kg.filter wf).map (·.1)):=by
    have:=hqp.map (·.2)
    rw[qy_] at this
    exact this
   have hnd:((kg.filter wf).map (·.1)).Nodup:=tp_ (mf_.map _ th_) cg8.nd
   walk_at "go"
   have sr:=jd_ hrr (.lst (qs.map fun p=>V.ref p.1))
   refine q rr _ (qs.map fun p=>unpk p.2) _ (s10.free hrr) jb_ (IsL.same sr (jaq_ hqat)) ⟨by rw[hpk];exact hqs,by rw[hpk];exact hpm.nodup_iff.mpr hnd,fun x=>?_⟩ (s10.trans sr)
   have h1:x∈qs.map (fun p=>unpk p.2)↔pk x∈qs.map (·.2):=by
    rw[<- hpk,pq_,pq_]
    constructor
    ·rintro⟨p,hp,rfl⟩;exact⟨_,pq_.mpr ⟨p,hp,rfl⟩,rfl⟩
    ·rintro⟨y,hy,e⟩
     obtain⟨p,hp,rfl⟩:=pq_.mp hy
     exact⟨p,hp,ve_ e⟩
   rw[h1,hpm.mem_iff,pq_]
   constructor
   ·rintro⟨e,he,hx⟩
    obtain⟨he1,he2⟩:=py_.mp he
    obtain⟨y,hy,e2⟩:=(cg8.mem e.1).mp (r9_ he1)
    rw[hx] at e2
    rw[hwf] at he2
    simp only[hx] at he2
    exact⟨ve_ e2▸hy,he2⟩
   ·rintro⟨hx,hwx⟩
    obtain⟨e,he,e2⟩:=pq_.mp ((cg8.mem (pk x)).mpr ⟨x,hx,rfl⟩)
    exact⟨e,py_.mpr ⟨he,by rw[hwf];simp only[e2];exact hwx⟩,e2⟩
end
theorem v5_ {n:Int}{p L i:Nat}(hp:p<=L)(hi:i<=L):(one n p L)[i]?=some (if i=p then n else 0):=by
 unfold one
 by_cases h1:i < p
 ·rw[qw_,rw_ (by simpa using h1),if_neg (by omega)]
  simp[h1]
 ·by_cases h2:i=p
  ·subst h2
   rw[qw_,rb_ (by simp)]
   simp
  ·rw[rb_ (by simp;omega),if_neg h2,tj_,if_pos (by simp;omega)]
theorem u3_ {n:Int}(hn:n≠0){p r L:Nat}(hp:p<=L)(hr:r<=L)(h:one n p L=one n r L):p=r:=by
 have h1:=v5_ (n:=n) hp hp
 have h2:=v5_ (n:=n) hr hp
 rw[h,h2] at h1
 rw[if_pos rfl] at h1
 by_cases e:p=r
 ·exact e
 ·rw[if_neg e] at h1
  exact absurd (Option.some.inj h1).symm hn
noncomputable def hit (t s:List Nat)(L p g:Nat):Bool:=decide (p<=g+1/\g+1 - p+L<=t.length/\(t.drop (g+1 - p)).take L=s)
theorem um_ (a b:List Pat)(k:PKey):cnt (a++b) k=cnt a k+cnt b k:=by unfold cnt;rw[qd_,pe_]
theorem v6_ (F:Nat->Pat)(k:PKey)(j:Nat):∀ m:Nat,(∀ i,i < m->(pk (F i)=k↔i=j))->cnt ((po_ m).map F) k=if j < m then 1 else 0
 | 0,_=>rfl
 | m+1,h=>by
  rw[qm_,ph_,um_,v6_ F k j m fun i hi=>h i (by omega)]
  have h1:=h m (by omega)
  have h2:cnt ([m].map F) k=if m=j then 1 else 0:=by
   unfold cnt
   rw[pr_,qs_,pz_,qn_]
   by_cases q:m=j
   ·rw[if_pos (decide_eq_true (h1.mpr q)),if_pos q];rfl
   ·rw[if_neg (by rw[decide_eq_false fun z=>q (h1.mp z)];simp),if_neg q];rfl
  rw[h2]
  by_cases q:m=j
  ·subst q;simp
  ·rw[if_neg q]
   by_cases q2:j < m
   ·rw[if_pos q2,if_pos (by omega)]
   ·rw[if_neg q2,if_neg (by omega)]
theorem jou_ {t s:List Nat}{n:Int}{L p g:Nat}(hn:n≠0)(hp:p<=L):cnt (zy_ t n L g) (pk (s,one n p L))=if hit t s L p g=true then 1 else 0:=by
 unfold zy_
 by_cases hpg:p<=g+1
 ·by_cases hs:(t.drop (g+1 - p)).take L=s
  ·rw[v6_ _ _ (L - p - (L - (g+1)))]
   ·unfold hit
    have hk:g+1 - L+(L - p - (L - (g+1)))=g+1 - p:=jyq_ hp hpg
    by_cases hl:g+1 - p+L<=t.length
    ·rw[if_pos (candN_lt.mpr (by rw[hk];exact⟨Nat.sub_le _ _,hl⟩)),if_pos (by simp[hpg,hl,hs])]
    ·rw[if_neg (fun z=>hl (by have:=(candN_lt.mp z).2;rwa [hk] at this)),if_neg (by simp[hl])]
   ·intro i hi
    have hb:g+1 - L+i<=g+1/\g+1<=g+1 - L+i+L:=⟨(candN_lt.mp hi).1,jde_ g L _⟩
    unfold cand pk
    constructor
    ·intro e
     have e2:one n (g+1 - (g+1 - L+i)) L=one n p L:=congrArg Prod.snd e
     have:=u3_ hn (by omega) hp e2
     omega
    ·intro e
     have e3:g+1 - (g+1 - L+i)=p:=by omega
     have e4:g+1 - L+i=g+1 - p:=by omega
     rw[e3]
     simp only[e4,hs]
  ·rw[v6_ _ _ (vn_ t L g),if_neg (se_ _),if_neg]
   ·unfold hit;simp[hs]
   ·intro i hi
    have hb:g+1 - L+i<=g+1/\g+1<=g+1 - L+i+L:=⟨(candN_lt.mp hi).1,jde_ g L _⟩
    refine⟨fun e=>?_,fun e=>absurd e (qg_ hi)⟩
    exfalso
    unfold cand pk at e
    have e2:one n (g+1 - (g+1 - L+i)) L=one n p L:=congrArg Prod.snd e
    have e3:=u3_ hn (by omega) hp e2
    have e1:S ((t.drop (g+1 - L+i)).take L)=S s:=congrArg Prod.fst e
    rw[show g+1 - L+i=g+1 - p by omega] at e1
    exact hs (jtw_ e1)
 ·rw[v6_ _ _ (vn_ t L g),if_neg (se_ _),if_neg]
  ·unfold hit;simp[hpg]
  ·intro i hi
   have hb:g+1 - L+i<=g+1/\g+1<=g+1 - L+i+L:=⟨(candN_lt.mp hi).1,jde_ g L _⟩
   refine⟨fun e=>?_,fun e=>absurd e (qg_ hi)⟩
   exfalso
   unfold cand pk at e
   have e2:one n (g+1 - (g+1 - L+i)) L=one n p L:=congrArg Prod.snd e
   have e3:=u3_ hn (by omega) hp e2
   omega
theorem jir_ {t s:List Nat}{n:Int}{L p:Nat}(hn:n≠0)(hp:p<=L):∀ gs:List Nat,cnt (gs.flatMap (zy_ t n L)) (pk (s,one n p L))=(gs.filter (hit t s L p)).length
 | []=>rfl
 | g::gs=>by
  rw[qi_,um_,jir_ hn hp gs,jou_ hn hp,pz_]
  split <;> simp <;> omega
theorem jih_ {t s:List Nat}{L p:Nat}{gs:List Nat}(hg:gs.Nodup)(h1:∀ g∈gs,1<=g) :
  (gs.filter (hit t s L p)).length=((po_ (t.length+1 - L)).filter fun b=>decide ((t.drop b).take L=s/\1<=b+p/\b+p - 1∈gs)).length:=by
 have hp:((gs.filter (hit t s L p)).map fun g=>g+1 - p).Perm ((po_ (t.length+1 - L)).filter fun b=>decide ((t.drop b).take L=s/\1<=b+p/\b+p - 1∈gs)):=by
  refine vu_ ?_ (tp_ th_ wf_) fun b=>?_
  ·rw[kk_,s5_]
   refine kj_ (fun{x y} hx hy h=>?_) (tp_ th_ hg)
   have a1:=(py_.mp hx).2
   have a2:=(py_.mp hy).2
   unfold hit at a1 a2
   have a1:=(of_decide_eq_true a1).1
   have a2:=(of_decide_eq_true a2).1
   omega
  ·rw[pq_,py_,p5_]
   constructor
   ·rintro⟨g,hgm,rfl⟩
    obtain⟨m1,m2⟩:=py_.mp hgm
    unfold hit at m2
    obtain⟨k1,k2,k3⟩:=of_decide_eq_true m2
    have:=h1 g m1
    exact⟨by omega,decide_eq_true ⟨k3,by omega,by rw[show g+1 - p+p - 1=g by omega];exact m1⟩⟩
   ·rintro⟨hb,hd⟩
    obtain⟨k1,k2,k3⟩:=of_decide_eq_true hd
    refine⟨b+p - 1,py_.mpr ⟨k3,?_⟩,by omega⟩
    unfold hit
    refine decide_eq_true ⟨by omega,by omega,?_⟩
    rw[show b+p - 1+1 - p=b by omega];exact k1
 have:=hp.length_eq
 rwa [pb_] at this
noncomputable def yh_ (xs:List Pat)(n:Int)(good:Bool)(x:Pat):List Nat:=((po_ (x.1.length - 1)).filter fun j=>(j8_ (vals xs x.1) j != odd1 n)&&((decide ((j:Int)+1∈x.2) == odd1 n) == good)).map (·+1)
theorem vp_ {α β γ:Type}(c:α->Bool)(h:α->β)(k:β->List γ):∀ l:List α,((l.filter c).map h).flatMap k=l.flatMap fun j=>if c j=true then k (h j) else []
 | []=>rfl
 | a::l=>by
  rw[pz_,qi_]
  by_cases hc:c a=true
  ·rw[if_pos hc,if_pos hc,pr_,qi_,vp_ c h k l]
  ·rw[if_neg hc,if_neg hc,sq_,vp_ c h k l]
theorem yk_ (xs:List Pat)(n:Int)(L:Nat)(good:Bool):∀ ws:List Pat,occs n L good (j0_ xs ws)=ws.flatMap fun x=>(yh_ xs n good x).flatMap (zy_ (frame x.1) n L)
 | []=>rfl
 | x::ws=>by
  have ih:=yk_ xs n L good ws
  unfold occs j0_ at ih ⊢
  rw[qi_,ra_,ih,qi_]
  congr 1
  unfold yh_
  rw[vp_,List.flatMap_map]
  congr 1
  funext j
  unfold occ jcz_
  simp only[show ((j:Int)+1).toNat=j+1 by omega]
  by_cases h1:(j8_ (vals xs x.1) j != odd1 n)=true
  ·rw[if_pos h1]
   by_cases h2:(decide ((j:Int)+1∈x.2) == odd1 n)=good
   ·rw[if_pos h2,if_pos (by rw[h1,h2];simp)]
   ·rw[if_neg h2,if_neg (by rw[h1];simpa using h2)]
  ·rw[if_neg h1,if_neg (by simp[h1])]
theorem jnx_ (xs:List Pat)(n:Int)(good:Bool)(x:Pat):(yh_ xs n good x).Nodup/\∀ g∈yh_ xs n good x,1<=g:=by
 unfold yh_
 refine⟨?_,fun g hg=>?_⟩
 ·rw[kk_,s5_]
  exact(tp_ th_ wf_).imp fun h=>by omega
 ·obtain⟨j,_,rfl⟩:=pq_.mp hg
  omega
noncomputable def begN (t s:List Nat)(L p:Nat)(gs:List Nat):Nat:=((po_ (t.length+1 - L)).filter fun b=>decide ((t.drop b).take L=s/\1<=b+p/\b+p - 1∈gs)).length
theorem jsm_ {s:List Nat}{n:Int}{L p:Nat}(xs:List Pat)(good:Bool)(hn:n≠0)(hp:p<=L):∀ ws:List Pat,cnt (occs n L good (j0_ xs ws)) (pk (s,one n p L))=(ws.map fun x=>begN (frame x.1) s L p (yh_ xs n good x)).sum:=by
 intro ws
 rw[yk_]
 induction ws with
 | nil=>rfl
 | cons x ws ih =>
  obtain⟨h1,h2⟩:=jnx_ xs n good x
  rw[qi_,um_,ih,jir_ hn hp,jih_ h1 h2,pr_,s4_]
  rfl
theorem xb_ {t:List Nat}{n:Int}{L g:Nat}{x:Pat}(h:x∈zy_ t n L g):∃ b p,p<=L/\b+L<=t.length/\b+p=g+1/\x=((t.drop b).take L,one n p L):=by
 unfold zy_ at h
 obtain⟨k,hk,rfl⟩:=pq_.mp h
 have hk:=p5_.mp hk
 have hb:g+1 - L+k<=g+1/\g+1<=g+1 - L+k+L/\g+1 - L+k+L<=t.length:=⟨(candN_lt.mp hk).1,jde_ g L _,(candN_lt.mp hk).2⟩
 exact⟨g+1 - L+k,g+1 - (g+1 - L+k),by omega,hb.2.2,by omega,rfl⟩
theorem jqf_ {lg lb:List Pat}{c:Option Int}{ps qs:List Pat}(h1:isLA lg lb c ps)(h2:SrtP (qs.map pk))(h3:qs.Nodup)(h4:∀ x,x∈qs↔x∈ps):ps=qs:=by
 obtain⟨a1,a2,_⟩:=h1
 have hpn:ps.Nodup:=xa_ a2
 have hp:ps.Perm qs:=vu_ hpn h3 fun x=>(h4 x).symm
 have go:∀(l m:List Pat),l.Perm m->SrtP (l.map pk)->SrtP (m.map pk)->l=m:=by
  intro l
  induction l with
  | nil=>intro m h _ _;exact(List.nil_perm.mp h).symm
  | cons a l ih =>
   intro m h s1 s2
   cases m with
   | nil=>exact absurd h.symm (by simp)
   | cons b m =>
    unfold SrtP at s1 s2
    rw[pr_,List.pairwise_cons] at s1 s2
    have hab:a=b:=by
     by_cases e:a=b
     ·exact e
     ·have hb:b∈l:=(p6_.mp (h.mem_iff.mpr pn_)).resolve_left fun z=>e z.symm
      have ha:a∈m:=(p6_.mp (h.mem_iff.mp pn_)).resolve_left e
      have n1:=s1.1 (pk b) (r9_ hb)
      have n2:=s2.1 (pk a) (r9_ ha)
      exact ve_ (juz_ (ky_ (t3_.mp n1) (t3_.mp n2)))
    subst hab
    rw[ih m ((List.perm_cons a).mp h) s1.2 s2.2]
 exact go ps qs hp a1 h2
def LV (ws xs:List Pat)(n:Int)(c:Option Int):Nat->List Pat->Prop
 | 0,ps=>ps=[]
 | k+1,ps=>∃ as bs,LV ws xs n c k as/\isLA (occs n (k+1) true (j0_ (xs++as) ws)) (occs n (k+1) false (j0_ (xs++as) ws)) c bs/\ps=as++bs
theorem jln_ {ws xs:List Pat}{n:Int}{c:Option Int}:∀{k:Nat}{a b:List Pat},LV ws xs n c k a->LV ws xs n c k b->a=b
 | 0,a,b,h1,h2=>by rw[show a=[] from h1,show b=[] from h2]
 | k+1,a,b,h1,h2=>by
  obtain⟨a1,a2,p1,p2,rfl⟩:=h1
  obtain⟨b1,b2,q1,q2,rfl⟩:=h2
  have e:=jln_ p1 q1
  subst e
  have e2:a2=b2:=jqf_ p2 q2.1 (xa_ q2.2.1) fun x=>by rw[q2.2.2,p2.2.2]
  rw[e2]
theorem juj_ {xs ws:List Pat}{n:Int}{L:Nat}{good:Bool}(h:∀ x∈ws,∀ c∈x.1,c < 128):∀ y∈occs n L good (j0_ xs ws),∀ c∈y.1,c < 128:=fun y hy c hc=>by
 rw[yk_] at hy
 obtain⟨x,hx,hy⟩:=qa_.mp hy
 obtain⟨g,_,hy⟩:=qa_.mp hy
 obtain⟨b,p,_,_,_,rfl⟩:=xb_ hy
 have hc1:c∈frame x.1:=wh_ (qu_ hc)
 unfold frame at hc1
 rcases p6_.mp hc1 with e | e
 ·omega
 ·rcases pt_.mp e with e | e
  ·exact h x hx c e
  ·have:c=46:=by simpa using e
   omega
theorem ud_ {xs ws:List Pat}{n:Int}{L:Nat}{good:Bool}:∀ y∈occs n L good (j0_ xs ws),y.1.length=L/\y.2.length=L+1:=fun y hy=>by
 rw[yk_] at hy
 obtain⟨x,hx,hy⟩:=qa_.mp hy
 obtain⟨g,_,hy⟩:=qa_.mp hy
 obtain⟨b,p,hp,hb,_,rfl⟩:=xb_ hy
 refine⟨by simp only[pw_,q1_];omega,?_⟩
 simp only[one,pe_,q9_,p3_,r7_];omega
theorem jdq_ {ws xs:List Pat}{n:Int}{c:Option Int}:∀{k:Nat}{a:List Pat},LV ws xs n c k a->∀ x∈a,∃ L as,L < k/\x∈occs n (L+1) true (j0_ (xs++as) ws)
 | 0,a,h1,x,hx=>by rw[show a=[] from h1] at hx;cases hx
 | k+1,a,h1,x,hx=>by
  obtain⟨a1,a2,p1,p2,rfl⟩:=h1
  rcases pt_.mp hx with h | h
  ·obtain⟨L,as,h1,h2⟩:=jdq_ p1 x h
   exact⟨L,as,by omega,h2⟩
  ·exact⟨k,a1,by omega,((p2.2.2 x).mp h).1⟩
theorem jxn_ {ws xs:List Pat}{n:Int}{c:Option Int}{k:Nat}{a:List Pat}(h:LV ws xs n c k a)(hw:∀ x∈ws,∀ c∈x.1,c < 128):∀ x∈a,∀ c∈x.1,c < 128:=fun x hx=>by
 obtain⟨L,as,_,h2⟩:=jdq_ h x hx
 exact juj_ hw x h2
theorem jcg_ {ws xs:List Pat}{n:Int}{c:Option Int}{k:Nat}{a:List Pat}(h:LV ws xs n c k a)(hk:k<=100):∀ x∈a,1<=x.1.length/\x.1.length<=1000/\x.2.length<=x.1.length+1:=fun x hx=>by
 obtain⟨L,as,h1,h2⟩:=jdq_ h x hx
 have h3:=ud_ x h2
 omega
noncomputable def gN (ws:List Pat):Nat:=(ws.map fun x=>x.1.length - 1).sum
theorem jcp_ (xs:List Pat):∀ ws:List Pat,(j0_ xs ws).length=gN ws
 | []=>rfl
 | x::ws=>by
  have ih:=jcp_ xs ws
  unfold j0_ gN at ih ⊢
  rw[qi_,pe_,ih,pb_,qb_,pr_,s4_]
theorem jub_ (x L n:Nat):¬ x+(n+1 - L)+L<=n:=by omega
theorem jfb_ (t:List Nat)(L g:Nat):vn_ t L g<=t.length+1 - L:=tb_ fun h=>jub_ _ _ _ (candN_lt.mp h).2
theorem jfc_ (n:Int)(L:Nat)(good:Bool){T:Nat}:∀{l:List Seen},(∀ s∈l,s.w.length+3<=T)->(occs n L good l).length<=l.length * (T - L)
 | [],_=>by simp[occs]
 | x::l,h=>by
  have h1:=jfc_ n L good (l:=l) fun s hs=>h s (pl_ _ hs)
  have h2:(occ n L good x).length<=T - L:=by
   have hx:=h x pn_
   unfold occ
   split
   ·split
    ·unfold zy_
     rw[pb_,qb_]
     have:=jfb_ (frame x.w) L x.g.toNat
     rw[jq_] at this
     omega
    ·exact qj_ _
   ·exact qj_ _
  unfold occs at h1 ⊢
  rw[qi_,pe_,p3_,q3_]
  omega
theorem jas_ {ws xs:List Pat}{n:Int}{c:Option Int}(hw:∀ x∈ws,x.1.length<=7):∀{k:Nat}{a:List Pat},LV ws xs n c k a->a.length<=gN ws * 9 * min k 9
 | 0,a,h1=>by rw[show a=[] from h1];exact qj_ _
 | k+1,a,h1=>by
  obtain⟨a1,a2,p1,p2,rfl⟩:=h1
  have ih:=jas_ hw p1
  have h2:a2.length<=(occs n (k+1) true (j0_ (xs++a1) ws)).length:=v3_ (xa_ p2.2.1) fun x hx=>((p2.2.2 x).mp hx).1
  have h3:=jfc_ n (k+1) true (T:=10) (l:=j0_ (xs++a1) ws) fun s hs=>by
   unfold j0_ at hs
   obtain⟨x,hx,hs⟩:=qa_.mp hs
   obtain⟨j,_,rfl⟩:=pq_.mp hs
   have:=hw x hx
   simp only[jcz_];omega
  rw[jcp_] at h3
  rw[pe_]
  by_cases hk:k < 9
  ·have e1:min (k+1) 9=min k 9+1:=by omega
   have h4:gN ws * (10 - (k+1))<=gN ws * 9:=ru_ _ (by omega)
   rw[e1,Nat.mul_succ];omega
  ·have e1:min (k+1) 9=min k 9:=by omega
   have h4:gN ws * (10 - (k+1))=0:=by rw[show 10 - (k+1)=0 by omega];rfl
   rw[e1];omega
noncomputable abbrev Spot:=List Nat×Nat×Bool
noncomputable def z8_ (xs:List Pat)(n:Int)(L:Nat)(x:Pat)(b p:Nat):List Spot:=if 2<=b+p/\b+p<=x.1.length/\(j8_ (vals xs x.1) (b+p - 2) != odd1 n)=true then [(((frame x.1).drop b).take L,p,decide (((b+p - 1:Nat):Int)∈x.2) == odd1 n)] else []
noncomputable def xw_ (xs:List Pat)(n:Int)(L:Nat)(x:Pat)(b:Nat):List Spot:=(po_ (L+1)).flatMap (z8_ xs n L x b)
noncomputable def jbm_ (xs:List Pat)(n:Int)(L:Nat)(x:Pat):List Spot:=(po_ ((frame x.1).length+1 - L)).flatMap (xw_ xs n L x)
noncomputable def yc_ (xs:List Pat)(n:Int)(L:Nat)(ws:List Pat):List Spot:=ws.flatMap (jbm_ xs n L)
noncomputable def cS (l:List Spot)(s:List Nat)(p:Nat)(g:Bool):Nat:=(l.filter fun e=>decide (e=(s,p,g))).length
theorem jcd_ {α:Type}(f:α->List Spot)(s:List Nat)(p:Nat)(g:Bool):∀ l:List α,cS (l.flatMap f) s p g=(l.map fun a=>cS (f a) s p g).sum
 | []=>rfl
 | a::l=>by
  have ih:=jcd_ f s p g l
  unfold cS at ih ⊢
  rw[qi_,qd_,pe_,ih,pr_,s4_]
theorem jmi_ {α:Type}(c:α->Bool):∀ l:List α,(l.map fun a=>if c a=true then 1 else 0).sum=(l.filter c).length
 | []=>rfl
 | a::l=>by
  rw[pr_,s4_,jmi_ c l,pz_]
  split
  ·rw[p3_];omega
  ·omega
theorem jce_ (C:Bool)(p:Nat):∀ m:Nat,((po_ m).map fun q=>if (decide (q=p)&&C)=true then 1 else 0).sum=if (decide (p < m)&&C)=true then 1 else 0
 | 0=>by simp
 | m+1=>by
  rw[qm_,ph_,List.sum_append,jce_ C p m]
  simp only[pr_,qs_,s4_,List.sum_nil]
  cases C
  ·simp
  ·simp only[sv_,decide_eq_true_eq]
   by_cases h1:p < m
   ·rw[if_pos h1,if_neg (by omega),if_pos (by omega)];rfl
   ·by_cases h2:m=p
    ·rw[if_neg h1,if_pos h2,if_pos (by omega)];rfl
    ·rw[if_neg h1,if_neg h2,if_neg (by omega)];rfl
theorem mem_gapsOf {xs:List Pat}{n:Int}{good:Bool}{x:Pat}{g:Nat}:g∈yh_ xs n good x↔1<=g/\g+1<=x.1.length/\(j8_ (vals xs x.1) (g - 1) != odd1 n)=true/\((decide ((g:Int)∈x.2) == odd1 n) == good)=true:=by
 unfold yh_
 rw[pq_]
 constructor
 ·rintro⟨j,hj,rfl⟩
  obtain⟨h1,h2⟩:=py_.mp hj
  have h3:=p5_.mp h1
  rw[qe_] at h2
  exact⟨by omega,by omega,h2.1,by push_cast;exact h2.2⟩
 ·rintro⟨h1,h2,h3,h4⟩
  refine⟨g - 1,py_.mpr ⟨p5_.mpr (by omega),?_⟩,by omega⟩
  rw[qe_]
  refine⟨h3,?_⟩
  rw[show ((g - 1:Nat):Int)+1=(g:Int) by omega]
  exact h4
theorem cS_E (xs:List Pat)(n:Int)(L:Nat)(x:Pat)(s:List Nat)(p:Nat)(good:Bool)(b q:Nat):cS (z8_ xs n L x b q) s p good=if (decide (q=p)&&decide (((frame x.1).drop b).take L=s/\1<=b+p/\b+p - 1∈yh_ xs n good x))=true then 1 else 0:=by
 unfold z8_ cS
 by_cases hq:q=p
 ·subst hq
  simp only[decide_true,kq_,decide_eq_true_eq]
  by_cases hc:2<=b+q/\b+q<=x.1.length/\(j8_ (vals xs x.1) (b+q - 2) != odd1 n)=true
  ·rw[if_pos hc]
   obtain⟨h1,h2,h3⟩:=hc
   by_cases hs:((frame x.1).drop b).take L=s/\(decide (((b+q - 1:Nat):Int)∈x.2) == odd1 n)=good
   ·rw[if_pos ⟨hs.1,by omega,mem_gapsOf.mpr ⟨by omega,by omega,by rw[show b+q - 1 - 1=b+q - 2 by omega];exact h3,by rw[hs.2];simp⟩⟩]
    rw[pz_,if_pos (by rw[hs.1,hs.2];simp)];rfl
   ·rw[if_neg (fun z=>hs ⟨z.1,by have:=(mem_gapsOf.mp z.2.2).2.2.2;simpa using this⟩)]
    rw[pz_,if_neg (fun z=>hs (by have:=of_decide_eq_true z;injection this with a b';injection b' with c d;exact⟨a,d⟩))];rfl
  ·rw[if_neg hc,if_neg]
   ·rfl
   ·rintro⟨_,_,h3⟩
    obtain⟨g1,g2,g3,_⟩:=mem_gapsOf.mp h3
    exact hc ⟨by omega,by omega,by rw[show b+q - 2=b+q - 1 - 1 by omega];exact g3⟩
 ·have e0:(decide (q=p)&&decide (((frame x.1).drop b).take L=s/\1<=b+p/\b+p - 1∈yh_ xs n good x))=false:=by rw[decide_eq_false hq];rfl
  rw[e0,if_neg (show ¬ (false=true) by decide)]
  split
  ·rw[pz_,if_neg (fun z=>hq (by have:=of_decide_eq_true z;injection this with a b';injection b'))];rfl
  ·rfl
theorem jrn_ (xs:List Pat)(n:Int){L p:Nat}(s:List Nat)(good:Bool)(hp:p<=L)(ws:List Pat):cS (yc_ xs n L ws) s p good=(ws.map fun x=>begN (frame x.1) s L p (yh_ xs n good x)).sum:=by
 unfold yc_
 rw[jcd_]
 congr 1
 refine qz_ fun x _=>?_
 unfold jbm_ begN
 rw[jcd_,<- jmi_]
 congr 1
 refine qz_ fun b _=>?_
 unfold xw_
 rw[jcd_]
 have e:((po_ (L+1)).map fun q=>cS (z8_ xs n L x b q) s p good)=(po_ (L+1)).map fun q=>if (decide (q=p)&&decide (((frame x.1).drop b).take L=s/\1<=b+p/\b+p - 1∈yh_ xs n good x))=true then 1 else 0:=qz_ fun q _=>cS_E ..
 rw[e,jce_]
 have:decide (p < L+1)=true:=decide_eq_true (by omega)
 rw[this,kq_]
theorem jdl_ (xs ws:List Pat){n:Int}{L p:Nat}{s:List Nat}(good:Bool)(hn:n≠0)(hp:p<=L):cS (yc_ xs n L ws) s p good=cnt (occs n L good (j0_ xs ws)) (pk (s,one n p L)):=by
 rw[jrn_ xs n s good hp,jsm_ xs good hn hp ws]
theorem joj_ {xs ws:List Pat}{n:Int}{L:Nat}{e:Spot}(h:e∈yc_ xs n L ws):e.1.length=L/\e.2.1<=L:=by
 unfold yc_ jbm_ xw_ at h
 obtain⟨x,_,h⟩:=qa_.mp h
 obtain⟨b,hb,h⟩:=qa_.mp h
 obtain⟨p,hp,h⟩:=qa_.mp h
 unfold z8_ at h
 split at h
 ·rw[pv_.mp h]
  have h1:=p5_.mp hb
  have h2:=p5_.mp hp
  refine⟨?_,by dsimp only;omega⟩
  simp only[pw_,q1_];omega
 ·cases h
theorem jge_ (xs ws:List Pat){n:Int}{L:Nat}{c:Option Int}(hn:n≠0)(x:Pat) :
  (∃(s:List Nat) (p:Nat),p<=L/\0 < cS (yc_ xs n L ws) s p true/\y6_ (cS (yc_ xs n L ws) s p true:Int) (cS (yc_ xs n L ws) s p false:Int) c=true/\x=(s,one n p L))↔x∈occs n L true (j0_ xs ws)/\y6_ (cnt (occs n L true (j0_ xs ws)) (pk x):Int) (cnt (occs n L false (j0_ xs ws)) (pk x):Int) c=true:=by
 constructor
 ·rintro⟨s,p,hp,h0,hw,rfl⟩
  rw[jdl_ xs ws true hn hp] at h0 hw
  rw[jdl_ xs ws false hn hp] at hw
  obtain⟨y,hy,e⟩:=cnt_pos.mp (wu_.mp h0)
  exact⟨ve_ e▸hy,hw⟩
 ·rintro⟨hx,hw⟩
  have hx0:=hx
  rw[yk_] at hx
  obtain⟨y,hy,hx⟩:=qa_.mp hx
  obtain⟨g,_,hx⟩:=qa_.mp hx
  obtain⟨b,p,hp,hb,_,rfl⟩:=xb_ hx
  refine⟨((frame y.1).drop b).take L,p,hp,?_,?_,rfl⟩
  ·rw[jdl_ xs ws true hn hp]
   exact wu_.mpr (cnt_pos.mpr ⟨_,hx0,rfl⟩)
  ·rw[jdl_ xs ws true hn hp,jdl_ xs ws false hn hp];exact hw
noncomputable abbrev s_law_counts:Stmt:=top 27
theorem sc_law_counts:FnScope ["_law_words_here","_law_patterns","_law_number","_law_length","_law_counts_here","_law_word","_law_gaps","_law_found","_law_text","_law_begin","_law_place","_law_gap","_law_spot","_law_good","_law_bad","_law_fine"] ["_law_words_here","_law_patterns","_law_number","_law_length"] (jp_ s_law_counts):=by walk_at "f"
noncomputable def vk (s:List Nat)(p:Nat):List (Option Key):=[some (.inr (S s)),some (.inl (p:Int))]
theorem xh_ {s s':List Nat}{p p':Nat}(h:vk s p=vk s' p'):s=s'/\p=p':=by
 unfold vk at h
 injection h with h1 h2
 injection h1 with h1
 injection h1 with h1
 injection h2 with h2 _
 injection h2 with h2
 injection h2 with h2
 exact⟨jtw_ h1,by omega⟩
noncomputable abbrev VKey:=List (Option Key)
structure CE (H:Hp)(kvs:List (VKey×Addr×V))(l:List Spot):Prop where
 ko:KO viewKind H kvs
 nd:(kvs.map (·.1)).Nodup
 mem:∀ k∈kvs.map (·.1),∃ e∈l,k=vk e.1 e.2.1
 non:∀ s p,cS l s p true+cS l s p false=0->valX kvs (vk s p)=none
 val:∀ s p,cS l s p true+cS l s p false≠0->∃ t,valX kvs (vk s p)=some (.ref t)/\H t=some (.tup [.int (cS l s p true:Int),.int (cS l s p false:Int)])
 len:kvs.length<=l.length
theorem CE.nil {H:Hp}:CE H [] []:=⟨fun e he=>(nomatch he),by simp,fun k hk=>(nomatch hk),fun _ _ _=>rfl,fun s p h=>absurd rfl h,pm_ _⟩
theorem CE.tk {H H':Hp}{kvs:List (VKey×Addr×V)}{l:List Spot}(h:CE H kvs l)(s:∀ b xs,H b=some (.tup xs)->H' b=some (.tup xs)):CE H' kvs l :=
 ⟨fun e he=>s _ _ (h.ko e he),h.nd,h.mem,h.non,fun a p q=>by obtain⟨t,h1,h2⟩:=h.val a p q;exact⟨t,h1,s _ _ h2⟩,h.len⟩
theorem u7_ (l:List Spot)(e:Spot)(s:List Nat)(p:Nat)(g:Bool):cS (l++[e]) s p g=cS l s p g+if e=(s,p,g) then 1 else 0:=by
 unfold cS
 rw[qd_,pe_]
 congr 1
 by_cases h:e=(s,p,g)
 ·simp[h]
 ·simp[h]
theorem CE.add {H H':Hp}{kvs:List (VKey×Addr×V)}{l:List Spot}(h:CE H kvs l)(tk:∀ b xs,H b=some (.tup xs)->H' b=some (.tup xs)){s:List Nat}{p:Nat}{g:Bool}{b t:Addr}(hb:H' b=some (.tup [.str (S s),.int (p:Int)]))(ht:H' t=some (.tup [.int (cS (l++[(s,p,g)]) s p true:Int),.int (cS (l++[(s,p,g)]) s p false:Int)])):CE H' (putX kvs (vk s p) b (.ref t)) (l++[(s,p,g)]):=by
 have h1:=h.tk tk
 refine⟨h1.ko.put hb,jli_ h.nd,fun k hk=>?_,fun s' p' q=>?_,fun s' p' q=>?_,?_⟩
 ·rcases mem_keys_putX.mp hk with rfl | hk
  ·exact⟨(s,p,g),by simp,rfl⟩
  ·obtain⟨e,he,q⟩:=h.mem k hk
   exact⟨e,qt_ _ he,q⟩
 ·rw[yf_]
  rw[u7_,u7_] at q
  have hne:vk s' p'≠vk s p:=fun z=>by
   obtain⟨rfl,rfl⟩:=xh_ z
   cases g <;> simp at q
  rw[if_neg hne]
  exact h.non s' p' (by omega)
 ·rw[yf_]
  by_cases hk:vk s' p'=vk s p
  ·obtain⟨rfl,rfl⟩:=xh_ hk
   rw[if_pos rfl]
   exact⟨t,rfl,ht⟩
  ·rw[if_neg hk]
   have e0:∀ g',cS (l++[(s,p,g)]) s' p' g'=cS l s' p' g':=fun g'=>by
    rw[u7_,if_neg (fun z=>hk (by injection z with z1 z2;injection z2 with z2 _;rw[z1,z2]))];rfl
   rw[e0,e0] at q ⊢
   exact h1.val s' p' q
 ·have:=zz_ kvs (vk s p) b (.ref t)
  have:=h.len
  rw[pe_,t8_];omega
theorem jfw_ (xs:List Pat)(n:Int)(L:Nat)(x:Pat)(b p:Nat):(z8_ xs n L x b p).length<=1:=by
 unfold z8_
 split <;> simp
theorem x1_ {α β:Type}(f:α->List β)(m:Nat)(h:∀ a,(f a).length<=m):∀ l:List α,(l.flatMap f).length<=l.length * m
 | []=>by simp
 | a::l=>by
  have ih:=x1_ f m h l
  have:=h a
  rw[qi_,pe_,p3_,q3_];omega
theorem jal_ (xs:List Pat)(n:Int)(L:Nat)(x:Pat)(b:Nat):(xw_ xs n L x b).length<=L+1:=by
 have:=x1_ (z8_ xs n L x b) 1 (jfw_ xs n L x b) (po_ (L+1))
 rw[qb_] at this
 unfold xw_;omega
def CEs (P:Program)(w:World)(H1 H:Hp)(d:Addr)(l:List Spot):Prop:=∃ kvs:List (VKey×Addr×V),H d=some (DX viewKind P w d kvs)/\CE H kvs l/\∀ b o,b≠d->H1 b=some o->H b=some o
theorem CEs.same {P:Program}{w:World}{H1 H H':Hp}{d:Addr}{l:List Spot}(h:CEs P w H1 H d l)(s:Same H H'):CEs P w H1 H' d l:=by
 obtain⟨kvs,h1,h2,h3⟩:=h
 exact⟨kvs,s _ _ h1,h2.tk fun b xs e=>s _ _ e,fun b o a e=>s _ _ (h3 b o a e)⟩
theorem vm_ {P:Program}{w:World}{H:Hp}{d b:Addr}{kvs:List (VKey×Addr×V)}{xs:List V}(h1:H d=some (DX viewKind P w d kvs))(h2:H b=some (.tup xs)):b≠d:=fun z=>by rw[z,h1] at h2;cases h2
theorem jkh_ {xs:List Pat}{n:Int}{L:Nat}{x:Pat}{b p:Nat}:(po_ (p+1)).flatMap (z8_ xs n L x b)=(po_ p).flatMap (z8_ xs n L x b)++z8_ xs n L x b p:=by
 rw[qm_,ra_];simp
theorem CE.get {H:Hp}{kvs:List (VKey×Addr×V)}{l:List Spot}(h:CE H kvs l)(s:List Nat)(p:Nat){z:Addr}(hz:H z=some (.tup [.int 0,.int 0])):∃ t,(valX kvs (vk s p)).getD (.ref z)=.ref t/\H t=some (.tup [.int (cS l s p true:Int),.int (cS l s p false:Int)]):=by
 by_cases q:cS l s p true+cS l s p false=0
 ·rw[h.non s p q]
  refine⟨z,rfl,?_⟩
  rw[show cS l s p true=0 by omega,show cS l s p false=0 by omega];exact hz
 ·obtain⟨t,h1,h2⟩:=h.val s p q
  rw[h1]
  exact⟨t,rfl,h2⟩
theorem jxy_ (l:List Spot)(s:List Nat)(p:Nat)(g:Bool):((cS (l++[(s,p,g)]) s p true:Nat):Int)=(cS l s p true:Int)+(if g=true then 1 else 0)/\((cS (l++[(s,p,g)]) s p false:Nat):Int)=(cS l s p false:Int)+1 - (if g=true then 1 else 0):=by
 rw[u7_,u7_]
 cases g <;> simp <;> omega
def spLC (P:Program)(w:World):Sp:=fun vs H Q _=>∃(v u:V) (ws xs:List Pat) (n:Int) (L:Nat),vs=[v,u,.int n,.int (L:Int)]/\Is H v (zc_ ws)/\Is H u (zc_ xs)/\(∀ x∈xs,1<=x.1.length/\x.1.length<=1000/\x.2.length<=x.1.length+1)/\xs.length<=9000/\(∀ x∈ws,1<=x.1.length/\x.1.length<=20)/\ws.length<=10/\-1000<=n/\n<=1000/\L<=20 /\
 ∀(d:Addr) (kvs:List (VKey×Addr×V)) (H':Hp),H d=none->H' d=some (DX viewKind P w d kvs)->CE H' kvs (yc_ xs n L ws)->Same H H'->Q (.ref d) H'
section
variable {P:Program}{w:World}{K:pc_}{mg:Str->Option Value}{base:Heap}{f:Addr}{fd:FuncData}{tk:Nat->Tok}
theorem jei_ (T:Txt mg tk)(F:Fun K "_law_counts" "_law_counts" s_law_counts f fd)(D_law_values:Dn P w K mg base "_law_values" 1 ["_law_patterns","_law_word"] yx_):FnOk P w K mg base CX0 2 f fd ["_law_words_here","_law_patterns","_law_number","_law_length"] (spLC P w):=by
 refine F.ok sc_law_counts (fun vs H Q E h=>?_) (fun cdv A outer s H vs Q E hr h=>?_)
 ·obtain⟨v,u,ws,xs,n,L,rfl,_⟩:=h
  rfl
 obtain⟨v,u,ws,xs,n,L,rfl,hv,hu,hxs,hxl,hws,hwl,hn0,hn1,hL,q⟩:=h
 have nd:=sc_law_counts.nd
 refine⟨_,(je_ (jm_ (i:=4) nd rfl (Or.inl rfl) (uj_ (N:=viewKind) (P:=P) (w:=w) rfl rfl))
  (je_ (j1_ pu_ rfl (zb_ (K:=K) (pv 0)) (yi_ rfl (jr_ (jj_ (i:=5) nd rfl (Or.inl rfl)) (jr_ (jj_ (i:=6) nd rfl (Or.inl rfl)) zu_)))
   (je_ (jm_ (i:=7) nd rfl (Or.inl rfl) (jn_ D_law_values hr.mo_ rfl (ja_ (pv 1) (ja_ (pv 5) jc_))))
  (je_ (jm_ (i:=8) nd rfl (Or.inl rfl) (jk_ jt_ (jk_ jt_ y5_ (pv 5)) y5_))
  (ji_ (j1_ pu_ rfl (zi_ rfl T.z_range (ja_ (jk_ jt_ (jk_ xr_ (jo_ (zm_ (K:=K)) rfl T.z_len (by decide +kernel) (ja_ (pv 8) jc_)) (pv 3)) jf_) jc_)) (jj_ (i:=9) nd rfl (Or.inl rfl))
   (ji_ (j1_ pu_ rfl (zi_ rfl T.z_range (ja_ (jk_ jt_ (pv 3) jf_) jc_)) (jj_ (i:=10) nd rfl (Or.inl rfl))
   (je_ (jm_ (i:=11) nd rfl (Or.inl rfl) (jk_ xr_ (jk_ jt_ (pv 9) (pv 10)) jf_))
  (ji_ (y1_ (PW.pt (jgf_ (jjp_ o_lt o_lt jf_ (pv 11) (jo_ (zm_ (K:=K)) rfl T.z_len (by decide +kernel) (ja_ (pv 5) jc_))) (jch_ (zd_ (o_eq hr.units) (jk_ xp_ (jk_ jt_ (jz_ (js_ (K:=K)) (pv 7) (jk_ xr_ (pv 11) jf_) (fun _ _=>rfl)) (pv 2)) jf_) jf_ (j3_ _)))))
   (je_ (jm_ (i:=12) nd rfl (Or.inl rfl) (zx_ (ja_ (y0_ (vw_ (K:=K)) (pv 8) (z0_ (pv 9)) (z0_ (jk_ jt_ (pv 9) (pv 3)))) (ja_ (pv 10) jc_))))
  (je_ (jct_ (jgm_ (N:=viewKind) (P:=P) (w:=w) rfl rfl (z4_ hr) (pv 4) (pv 12) (zx_ (ja_ jf_ (ja_ jf_ jc_))) ⟨rfl,rfl,rfl,rfl⟩) (yi_ rfl (jr_ (jj_ (i:=13) nd rfl (Or.inl rfl)) (jr_ (jj_ (i:=14) nd rfl (Or.inl rfl)) zu_))))
  (je_ (jm_ (i:=15) nd rfl (Or.inl rfl) (zk_ jiq_ rfl T.z_int (by decide +kernel) (ja_ (zs_ (o_eq hr.units) (zs_ o_in (pv 11) (pv 6) (by with_unfolding_all rfl)) (zs_ (o_eq hr.units) (jk_ xp_ (pv 2) jf_) jf_ (j3_ _)) (j3_ _)) jc_)))
  (ji_ (jdu_ (N:=viewKind) (P:=P) (w:=w) rfl rfl (z4_ hr) (pv 4) (pv 12) (zx_ (ja_ (jk_ jt_ (pv 13) (pv 15)) (ja_ (jk_ xr_ (jk_ jt_ (pv 14) jf_) (pv 15)) jc_))) rfl)))))
   z1_))))))))))
  (ji_ (j2_ (pv 4))))),?_⟩
 rw[show L2.start ["_law_words_here","_law_patterns","_law_number","_law_length","_law_counts_here","_law_word","_law_gaps","_law_found","_law_text","_law_begin","_law_place","_law_gap","_law_spot","_law_good","_law_bad","_law_fine"] [v,u,.int n,.int (L:Int)]=[some (v),some (u),some (.int n),some (.int (L:Int)),none,none,none,none,none,none,none,none,none,none,none,none] from rfl]
 walk_at "go"
 refine ui_ fun d hd=>?_
 have s1:=jd_ hd (DX viewKind P w d [])
 have ed:=jb_ (H:=H) (a:=d) (o:=DX viewKind P w d [])
 generalize upd H d (DX viewKind P w d [])=H1 at s1 ed ⊢
 simp only[Is,zc_] at hv
 obtain⟨wa,ys,rfl,hwa,hys⟩:=hv
 have hyl:=hys.length
 rw[pb_] at hyl
 have ewa:=s1 _ _ hwa
 walk_at "go"
 try refine xg_ (SqL.of ewa) ?_
 have wad:wa≠d:=jg_ hwa hd
 have kept:∀{H':Hp}{l:List Spot},CEs P w H1 H' d l->Same H H':=fun⟨kvs,h1,h2,h3⟩ b o e=>h3 b o (jg_ e hd) (s1 _ _ e)
 refine zh_ (K:=K) (xs:=ys) (fun i σ H'=>∃(v5 v6 v7 v8 v9 v10 v11 v12 v13 v14 v15:Option V),σ=[some (.ref wa),some u,some (.int n),some (.int (L:Int)),some (.ref d),v5,v6,v7,v8,v9,v10,v11,v12,v13,v14,v15]/\CEs P w H1 H' d (yc_ xs n L (ws.take i)))
  ⟨none,none,none,none,none,none,none,none,none,none,none,rfl,[],ed,CE.nil,fun _ _ _ e=>e⟩ (fun i σ H' _ ⟨_,_,_,_,_,_,_,_,_,_,_,_,c⟩=>SqL.of (kept c _ _ hwa)) ?_ ?_
 ·rintro i y σ Ha hy ⟨v5,v6,v7,v8,v9,v10,v11,v12,v13,v14,v15,rfl,ca⟩
  have sa:=kept ca
  have hi:i < ws.length:=by have:=(pj_.mp hy).1;omega
  obtain⟨y',dd,hy',hd1,hI⟩:=IsL.get (IsL.same sa hys) (show i < (ws.map patD).length by simpa using hi)
  rw[hy] at hy'
  cases hy'
  rw[pf_,pa_ hi] at hd1
  cases hd1
  obtain⟨a2,t2,rfl,ea2,et2⟩:=xk_ hI
  obtain⟨hx1,hx2⟩:=hws _ (ps_ hi)
  have htk:yc_ xs n L (ws.take (i+1))=yc_ xs n L (ws.take i)++jbm_ xs n L ws[i]:=by unfold yc_;rw[p8_,pa_ hi,ra_];simp
  rw[htk]
  have hl0:(yc_ xs n L (ws.take i)).length<=10 * 483:=by
   have h2:∀(l:List Pat),(∀ x∈l,x.1.length<=20)->(yc_ xs n L l).length<=l.length * 483:=fun l=>by
    induction l with
    | nil=>intro _;simp[yc_]
    | cons x l ih =>
     intro h
     have ih:=ih fun y hy=>h y (pl_ _ hy)
     have hx:=h x pn_
     have h3:=x1_ (xw_ xs n L x) (L+1) (jal_ xs n L x) (po_ ((frame x.1).length+1 - L))
     rw[qb_,jq_] at h3
     have h4:(x.1.length+2+1 - L) * (L+1)<=23 * 21:=t6_ (by omega) (by omega)
     have h6:(jbm_ xs n L x).length<=483:=by unfold jbm_;rw[jq_];omega
     unfold yc_ at ih ⊢
     rw[qi_,pe_,p3_,q3_]
     omega
   have h5:=h2 (ws.take i) fun x hx=>(hws x (qu_ hx)).2
   rw[pw_] at h5
   omega
  generalize yc_ xs n L (ws.take i)=l0 at ca hl0 ⊢
  clear htk
  generalize ws[i]=x at *
  refine yq_ ea2 rfl (jv_ (jy_ (jv_ (jy_ (z9_ ?_)))))
  walk_at "go"
  refine⟨u,xs,x.1,rfl,Is.same sa hu,hxs,hxl,hx1,by omega,fun rv Hb hrv erv sb=>?_⟩
  have cb:=ca.same sb
  have hvl:(vals xs x.1).length=x.1.length - 1:=yy_ xs x.1
  have et2b:=sb _ _ et2
  walk_at "go"
  rw[jjn_]
  have hfl:=jq_ x.1
  walk_at "go"
  rw[vs_]
  walk_at "go"
  have rvd:rv≠d:=fun z=>by
   obtain⟨kvs,h1,_⟩:=ca
   rw[z,h1] at hrv;cases hrv
  refine ze_ (fun b σ H'=>∃(v9 v10 v11 v12 v13 v14 v15:Option V),σ=[some (.ref wa),some u,some (.int n),some (.int (L:Int)),some (.ref d),some (.str (S x.1)),some (.ref t2),some (.ref rv),some (.str (S (frame x.1))),v9,v10,v11,v12,v13,v14,v15]/\CEs P w H1 H' d (l0++(po_ b).flatMap (xw_ xs n L x))/\∀ c o,c≠d->Hb c=some o->H' c=some o)
   ⟨v9,v10,v11,v12,v13,v14,v15,rfl,by simpa using cb,fun _ _ _ e=>e⟩ ?_ ?_
  ·rintro b σ Hc hb ⟨v9,v10,v11,v12,v13,v14,v15,rfl,cc,kc⟩
   have hb:b+L<=(frame x.1).length:=by omega
   have h0:(0:Int)+(b:Int)=(b:Int):=by omega
   have htk:l0++(po_ (b+1)).flatMap (xw_ xs n L x)=l0++(po_ b).flatMap (xw_ xs n L x)++xw_ xs n L x b:=by rw[qm_,ra_,<- qw_];simp
   rw[htk]
   have hl1:(l0++(po_ b).flatMap (xw_ xs n L x)).length<=5400:=by
    have h3:=x1_ (xw_ xs n L x) (L+1) (jal_ xs n L x) (po_ b)
    rw[qb_] at h3
    have h4:b * (L+1)<=23 * 21:=t6_ (by omega) (by omega)
    rw[pe_];omega
   generalize l0++(po_ b).flatMap (xw_ xs n L x)=l1 at cc hl1 ⊢
   have hcut:cutA (frame x.1) (some (b:Int)) (some ((b:Int)+(L:Int)))=((frame x.1).drop b).take L:=by
    rw[show (b:Int)+(L:Int)=((b+L:Nat):Int) by omega,jax_ (frame x.1) b (b+L) hb (by omega)]
    congr 1
    omega
   walk_at "go"
   rw[h0]
   refine ze_ (fun p σ H'=>∃(v10 v11 v12 v13 v14 v15:Option V),σ=[some (.ref wa),some u,some (.int n),some (.int (L:Int)),some (.ref d),some (.str (S x.1)),some (.ref t2),some (.ref rv),some (.str (S (frame x.1))),some (.int (b:Int)),v10,v11,v12,v13,v14,v15]/\CEs P w H1 H' d (l1++(po_ p).flatMap (z8_ xs n L x b))/\∀ c o,c≠d->Hb c=some o->H' c=some o)
    ⟨v10,v11,v12,v13,v14,v15,rfl,by simpa using cc,kc⟩ ?_ ?_
   ·rintro p σ Hd hp ⟨v10,v11,v12,v13,v14,v15,rfl,cd,kd⟩
    have hp:p<=L:=by omega
    have h0p:(0:Int)+(p:Int)=(p:Int):=by omega
    rw[jkh_,<- qw_]
    have hl2:(l1++(po_ p).flatMap (z8_ xs n L x b)).length<=5500:=by
     have h3:=x1_ (z8_ xs n L x b) 1 (jfw_ xs n L x b) (po_ p)
     rw[qb_] at h3
     rw[pe_];omega
    generalize l1++(po_ p).flatMap (z8_ xs n L x b)=l2 at cd hl2 ⊢
    have ervd:=kd _ _ rvd erv
    walk_at "go"
    rw[h0p]
    by_cases hg2:2<=b+p
    ·refine yl_ (decide_eq_true (by omega)) ?_
     walk_at "go"
     by_cases hg3:b+p<=x.1.length
     ·have hd1:decide ((b:Int)+(p:Int) - 1 < (x.1.length:Int))=true:=decide_eq_true (by omega)
      try rw[hd1]
      try refine⟨true,rfl,?_⟩
      walk_at "go"
      have hj2:b+p - 2 < (vals xs x.1).length:=by omega
      have hpar:decide (V.int (((vals xs x.1)[b+p - 2]+n) % 2)=V.int 1)=(j8_ (vals xs x.1) (b+p - 2) != odd1 n):=by
       unfold j8_ odd1
       rw[pd_,pa_ hj2]
       simp only[sx_,V.int.injEq]
       generalize (vals xs x.1)[b+p - 2]=a
       by_cases h1:a % 2=1 <;> by_cases h2:n % 2=1 <;> simp[h1,h2] <;> omega
      refine y3_ (v:=.int (vals xs x.1)[b+p - 2]) (j5_ ervd) (z5_ (by omega) (by rw[show ((b:Int)+(p:Int) - 1 - 1).toNat=b+p - 2 by omega,pf_,pa_ hj2];rfl)) ?_
      walk_at "go"
      rw[hpar]
      cases hc:(j8_ (vals xs x.1) (b+p - 2) != odd1 n) with
      | false =>
       try refine⟨false,rfl,?_⟩
       try refine yp_ rfl ?_
       walk_at "go"
       have he:z8_ xs n L x b p=[]:=by unfold z8_;rw[if_neg (fun z=>by rw[z.2.2] at hc;cases hc)]
       rw[he,qk_]
       exact⟨_,_,_,_,_,_,rfl,cd,kd⟩
      | true =>
       have he:z8_ xs n L x b p=[(((frame x.1).drop b).take L,p,decide (((b+p - 1:Nat):Int)∈x.2) == odd1 n)]:=by unfold z8_;rw[if_pos ⟨hg2,hg3,hc⟩]
       rw[he]
       clear he hpar
       try refine⟨true,rfl,?_⟩
       try refine yl_ rfl ?_
       walk_at "go"
       rw[hcut]
       have hsl:(((frame x.1).drop b).take L).length<=30:=by rw[pw_,q1_];omega
       generalize ((frame x.1).drop b).take L=sg at hsl ⊢
       walk_at "go"
       intro sp hsp
       have ssp:=jd_ hsp (.tup [.str (S sg),.int (p:Int)])
       have esp:=jb_ (H:=Hd) (a:=sp) (o:=.tup [.str (S sg),.int (p:Int)])
       have cd1:=cd.same ssp
       generalize upd Hd sp (.tup [.str (S sg),.int (p:Int)])=He at ssp esp cd1 ⊢
       obtain⟨kvs,e1,e2,e3⟩:=cd1
       walk_at "go"
       refine jcb_ ?_
       walk_at "go"
       refine⟨d,rfl,⟨kvs,.inl e1,e2.ko⟩,?_⟩
       walk_at "go"
       intro z hz
       have sz:=jd_ hz (.tup [.int 0,.int 0])
       have ez:=jb_ (H:=He) (a:=z) (o:=.tup [.int 0,.int 0])
       generalize upd He z (.tup [.int 0,.int 0])=Hf at sz ez ⊢
       have e1f:=sz _ _ e1
       have e2f:=e2.tk fun b xs e=>sz _ _ e
       have espf:=sz _ _ esp
       obtain⟨t,ht1,ht2⟩:=e2f.get sg p ez
       refine⟨valX kvs (vk sg p),⟨kvs,vk sg p,sp,.inl e1f,e2f.ko,rfl,espf,rfl⟩,?_⟩
       rw[ht1]
       refine yq_ ht2 rfl (jv_ (jy_ (jv_ (jy_ (z9_ ?_)))))
       have et2f:=sz _ _ (ssp _ _ (kd _ _ (vm_ (cb.choose_spec.1) et2b) et2b))
       have hb1:inV (.int ((b:Int)+(p:Int) - 1)) (x.2.map V.int)=decide (((b+p - 1:Nat):Int)∈x.2):=by rw[jad_,show (b:Int)+(p:Int) - 1=((b+p - 1:Nat):Int) by omega]
       walk_at "go"
       refine jjc_ (xf_ et2f) ⟨rfl,ue_ _⟩ ?_
       rw[if_neg pk_,hb1]
       walk_at "go"
       have hodd:decide (V.int (n % 2)=V.int 1)=odd1 n:=by unfold odd1;simp
       have hcc:∀ g:Bool,decide (V.bl g=V.bl (odd1 n))=(g == odd1 n):=fun g=>by cases g <;> cases odd1 n <;> rfl
       rw[hodd,hcc]
       generalize hgg:(decide (((b+p - 1:Nat):Int)∈x.2) == odd1 n)=gg
       have hst:=jxy_ l2 sg p gg
       refine jaz_ ?_
       walk_at "go"
       intro t3 ht3
       have st3:=jd_ ht3 (.tup [.int ((cS l2 sg p true:Int)+if gg=true then 1 else 0),.int ((cS l2 sg p false:Int)+1 - if gg=true then 1 else 0)])
       have et3:=jb_ (H:=Hf) (a:=t3) (o:=.tup [.int ((cS l2 sg p true:Int)+if gg=true then 1 else 0),.int ((cS l2 sg p false:Int)+1 - if gg=true then 1 else 0)])
       rw[<- hst.1,<- hst.2] at st3 et3 ⊢
       generalize upd Hf t3 (.tup [.int ((cS (l2++[(sg,p,gg)]) sg p true:Nat):Int),.int ((cS (l2++[(sg,p,gg)]) sg p false:Nat):Int)])=Hg at st3 et3 ⊢
       have e1g:=st3 _ _ e1f
       have espg:=st3 _ _ espf
       have e2g:=e2f.tk fun b xs e=>st3 _ _ e
       have hkl:=e2.len
       have tkg:∀ c zs,Hg c=some (.tup zs)->(upd Hg d (DX viewKind P w d (putX kvs (vk sg p) sp (.ref t3)))) c=some (.tup zs):=fun c zs e=>by rw[jh_ (vm_ e1g e)];exact e
       walk_at "go"
       refine⟨d,_,rfl,⟨kvs,vk sg p,sp,e1g,e2g.ko,rfl,espg,szn (by omega),rfl⟩,?_⟩
       refine⟨_,_,_,_,_,_,rfl,⟨_,jb_,e2g.add tkg (tkg _ _ espg) (tkg _ _ et3),fun c o a e=>?_⟩,fun c o a e=>?_⟩
       ·rw[jh_ a];exact st3 _ _ (sz _ _ (e3 c o a e))
       ·rw[jh_ a];exact st3 _ _ (sz _ _ (ssp _ _ (kd c o a e)))
     ·have hd1:decide ((b:Int)+(p:Int) - 1 < (x.1.length:Int))=false:=decide_eq_false (by omega)
      try rw[hd1]
      try refine⟨false,rfl,?_⟩
      walk_at "go"
      have he:z8_ xs n L x b p=[]:=by unfold z8_;rw[if_neg (fun z=>hg3 z.2.1)]
      rw[he,qk_]
      exact⟨_,_,_,_,_,_,rfl,cd,kd⟩
    ·refine yp_ (decide_eq_false (by omega)) ?_
     walk_at "go"
     have he:z8_ xs n L x b p=[]:=by unfold z8_;rw[if_neg (fun z=>hg2 z.1)]
     rw[he,qk_]
     exact⟨_,_,_,_,_,_,rfl,cd,kd⟩
   ·rintro σ Hd ⟨v10,v11,v12,v13,v14,v15,rfl,cd,kd⟩
    rw[show ((L:Int)+1).toNat=L+1 by omega] at cd
    exact⟨_,_,_,_,_,_,_,rfl,cd,kd⟩
  ·rintro σ Hc ⟨v9,v10,v11,v12,v13,v14,v15,rfl,cc,kc⟩
   rw[show (((frame x.1).length:Int) - (L:Int)+1).toNat=(frame x.1).length+1 - L by omega] at cc
   exact⟨_,_,_,_,_,_,_,_,_,_,_,rfl,cc⟩
 ·rintro σ Ha ⟨v5,v6,v7,v8,v9,v10,v11,v12,v13,v14,v15,rfl,ca⟩
  rw[hyl,p0_] at ca
  have sa:=kept ca
  obtain⟨kvs,h1,h2,h3⟩:=ca
  walk_at "go"
  exact q d kvs Ha hd h1 h2 sa
end
noncomputable abbrev s_level:Stmt:=top 13
theorem sc_level:FnScope ["words","patterns","number","most","cost","learnt","length"] ["words","patterns","number","most","cost"] (jp_ s_level):=by walk_at "f"
theorem jvq_ (L g:Nat):¬ g+1 - L+(L+1)<=g+1:=by omega
theorem jnt_ (t:List Nat)(L g:Nat):vn_ t L g<=L+1:=tb_ fun h=>jvq_ _ _ (candN_lt.mp h).1
theorem jfi_ (n:Int)(L:Nat)(good:Bool):∀{l:List Seen},(∀ s∈l,s.w.length<=7)->(occs n L good l).length<=l.length * 5
 | [],_=>by simp[occs]
 | x::l,h=>by
  have h1:=jfi_ n L good (l:=l) fun s hs=>h s (pl_ _ hs)
  have h2:(occ n L good x).length<=5:=by
   have hx:=h x pn_
   unfold occ
   split
   ·split
    ·unfold zy_
     rw[pb_,qb_]
     have a1:=jfb_ (frame x.w) L x.g.toNat
     have a2:=jnt_ (frame x.w) L x.g.toNat
     rw[jq_] at a1
     omega
    ·exact qj_ _
   ·exact qj_ _
  unfold occs at h1 ⊢
  rw[qi_,pe_,p3_,q3_]
  omega
theorem jmd_ {ws xs:List Pat}{n:Int}{L:Nat}(hg:gN ws<=12)(hw:∀ x∈ws,x.1.length<=7):(occs n L true (j0_ xs ws)).length < 64:=by
 have h:=jfi_ n L true (l:=j0_ xs ws) fun s hs=>by
  unfold j0_ at hs
  obtain⟨x,hx,hs⟩:=qa_.mp hs
  obtain⟨j,_,rfl⟩:=pq_.mp hs
  exact hw x hx
 rw[jcp_] at h
 omega
def yv_:Sp:=fun vs H Q _=>∃(v u:V) (ws xs:List Pat) (n:Int) (m:Nat) (c:Option Int),vs=[v,u,.int n,.int (m:Int),cV c]/\Is H v (zc_ ws)/\Is H u (zc_ xs)/\(∀ x∈xs,1<=x.1.length/\x.1.length<=1000/\x.2.length<=x.1.length+1)/\xs.length+gN ws * 81<=9000/\(∀ x∈ws,1<=x.1.length/\x.1.length<=7)/\(ws.length<=10/\gN ws<=12)/\n≠0/\-1000<=n/\n<=1000/\m<=20/\(∀ k,c=some k->0<=k/\k<=1000000) /\
 ∀(r:Addr) (zs:List V) (ps:List Pat) (H':Hp),H r=none->H' r=some (.lst zs)->L2.IsL H' zs (ps.map patD)->LV ws xs n c m ps->Same H H'->Q (.ref r) H'
section
variable {P:Program}{w:World}{K:pc_}{mg:Str->Option Value}{base:Heap}{f:Addr}{fd:FuncData}{tk:Nat->Tok}
theorem jtj_ (T:Txt mg tk)(F:Fun K "level" "level" s_level f fd)(D_learnt_at:Dn P w K mg base "learnt_at" 6 ["words","patterns","number","length","cost"] spLA):FnOk P w K mg base CX0 7 f fd ["words","patterns","number","most","cost"] yv_:=by
 refine F.ok sc_level (fun vs H Q E h=>?_) (fun cdv A outer s H vs Q E hr h=>?_)
 ·obtain⟨v,u,ws,xs,n,m,c,rfl,_⟩:=h
  rfl
 obtain⟨v,u,ws,xs,n,m,c,rfl,hv,hu,hxs,hxl,hws,hwl,hnz,hn0,hn1,hm,hc,q⟩:=h
 have nd:=sc_level.nd
 obtain⟨ua,ya,rfl,hua,hya⟩:=yt_ hu
 have hyl:=hya.length
 rw[pb_] at hyl
 refine⟨_,(je_ (jm_ (i:=5) nd rfl (Or.inl rfl) (j6_ jc_))
  (je_ (j1_ pu_ rfl (ym_ rfl T.z_range (ja_ jf_ (ja_ (jk_ jt_ (pv 3) jf_) jc_))) (jj_ (i:=6) nd rfl (Or.inl rfl))
   (ji_ (zp_ (z2_ (K:=K) p9_ rj_ rk_ xc_ (pv 5) (ja_ (jn_ D_learnt_at hr.mo_ rfl (ja_ (pv 0) (ja_ (jk_ jt_ (pv 1) (pv 5)) (ja_ (pv 2) (ja_ (pv 6) (ja_ (pv 4) jc_)))))) jc_)))))
  (ji_ (j2_ (pv 5))))),?_⟩
 rw[show L2.start ["words","patterns","number","most","cost","learnt","length"] [v,.ref ua,.int n,.int (m:Int),cV c]=[some (v),some (.ref ua),some (.int n),some (.int (m:Int)),some (cV c),none,none] from rfl]
 walk_at "go"
 intro r hr0
 have s1:=jd_ hr0 (.lst [])
 walk_at "go"
 refine ze_ (fun i σ H'=>∃(v6:Option V) (zs:List V) (ps:List Pat),σ=[some v,some (.ref ua),some (.int n),some (.int (m:Int)),some (cV c),some (.ref r),v6]/\H' r=some (.lst zs)/\L2.IsL H' zs (ps.map patD)/\LV ws xs n c i ps/\Same H H')
  ⟨none,[],[],rfl,jb_,(by simp[L2.IsL]),rfl,s1⟩ ?_ ?_
 ·rintro i σ Ha hi ⟨v6,zs,ps,rfl,er,hzs,hlv,sa⟩
  have hi:i < m:=by omega
  have hzl:=hzs.length
  rw[pb_] at hzl
  have hpl:=jas_ (fun x hx=>(hws x hx).2) hlv
  have hp2:gN ws * 9 * min i 9<=gN ws * 9 * 9:=ru_ _ (by omega)
  have eua:=sa _ _ hua
  walk_at "go"
  refine xz_ eua er (szn (by omega)) fun t ht=>?_
  have st:=jd_ ht (.lst (ya++zs))
  have et:=jb_ (H:=Ha) (a:=t) (o:=.lst (ya++zs))
  generalize upd Ha t (.lst (ya++zs))=Hb at st et ⊢
  have sb:=sa.trans st
  walk_at "go"
  refine⟨v,.ref t,ws,xs++ps,n,i+1,c,by rw[show (1:Int)+(i:Int)=((i+1:Nat):Int) by omega];rfl,Is.same sb hv,?_,fun x hx=>?_,by rw[pe_];omega,fun x hx=>⟨(hws x hx).1,by have:=(hws x hx).2;omega⟩,⟨hwl.1,jmd_ hwl.2 (fun x hx=>(hws x hx).2)⟩,hn0,hn1,by omega,hc,fun r2 z2 p2 Hc hr2 er2 hz2 hla sc=>?_⟩
  ·simp only[Is,zc_]
   refine⟨t,_,rfl,et,?_⟩
   rw[ph_]
   exact IsL.append (IsL.same sb hya) (IsL.same st hzs)
  ·rcases pt_.mp hx with h | h
   ·exact hxs x h
   ·exact jcg_ hlv (by omega) x h
  have hlv2:LV ws xs n c (i+1) (ps++p2):=⟨ps,p2,hlv,hla,rfl⟩
  have hpl2:=jas_ (fun x hx=>(hws x hx).2) hlv2
  have hp3:gN ws * 9 * min (i+1) 9<=gN ws * 9 * 9:=ru_ _ (by omega)
  have hz2l:=hz2.length
  rw[pb_] at hz2l
  rw[pe_] at hpl2
  have erc:=sc _ _ (st _ _ er)
  walk_at "go"
  refine jba_ erc er2 (szn (by omega)) ?_
  walk_at "go"
  have k4:Tk Hc (upd Hc r (.lst (zs++z2))):=Tk.lst erc _
  refine⟨_,zs++z2,ps++p2,rfl,jb_,?_,hlv2,fun b o e=>?_⟩
  ·rw[ph_]
   exact IsL.append (IsL.tk k4 (jw_ _) (IsL.same (st.trans sc) hzs)) (IsL.tk k4 (jw_ _) hz2)
  ·rw[jh_ (jg_ e hr0)];exact sc _ _ (sb _ _ e)
 ·rintro σ Ha ⟨v6,zs,ps,rfl,er,hzs,hlv,sa⟩
  rw[show ((m:Int)+1 - 1).toNat=m by omega] at hlv
  walk_at "go"
  exact q r zs ps Ha hr0 er hzs hlv sa
end
noncomputable abbrev s_law_level:Stmt:=top 28
theorem sc_law_level:FnScope ["_law_words_here","_law_patterns","_law_number","_law_most","_law_cost","_law_learnt","_law_length","_law_counts_here","_law_some","_law_signs","_law_place","_law_good","_law_bad","_law_dear"] ["_law_words_here","_law_patterns","_law_number","_law_most","_law_cost"] (jp_ s_law_level):=by walk_at "f"
noncomputable def okS (l:List Spot)(c:Option Int)(s:List Nat)(p:Nat):Bool:=decide (0 < cS l s p true)&&y6_ (cS l s p true:Int) (cS l s p false:Int) c
structure DE (H:Hp)(l:List Spot)(n:Int)(L:Nat)(c:Option Int)(ps:List (Addr×PKey))(ks:List VKey):Prop where
 at_:∀ q∈ps,patKind.at_ H q.2 q.1
 nd:(ps.map (·.2)).Nodup
 mem:∀ k,k∈ps.map (·.2)↔∃ s p,vk s p∈ks/\okS l c s p=true/\k=pk (s,one n p L)
 len:ps.length<=ks.length
theorem DE.nil {H:Hp}{l:List Spot}{n:Int}{L:Nat}{c:Option Int}:DE H l n L c [] []:=⟨fun q hq=>(nomatch hq),by simp,fun k=>by simp,pm_ _⟩
theorem DE.tk {H H':Hp}{l:List Spot}{n:Int}{L:Nat}{c:Option Int}{ps:List (Addr×PKey)}{ks:List VKey}(h:DE H l n L c ps ks)(s:∀ b xs,H b=some (.tup xs)->H' b=some (.tup xs)):DE H' l n L c ps ks:=⟨fun q hq=>y7_ s (h.at_ q hq),h.nd,h.mem,h.len⟩
theorem DE.skip {H:Hp}{l:List Spot}{n:Int}{L:Nat}{c:Option Int}{ps:List (Addr×PKey)}{ks:List VKey}(h:DE H l n L c ps ks){s:List Nat}{p:Nat}(hs:okS l c s p=false):DE H l n L c ps (ks++[vk s p]):=by
 refine⟨h.at_,h.nd,fun k=>?_,by have:=h.len;rw[pe_];omega⟩
 rw[h.mem]
 constructor
 ·rintro⟨s',p',h1,h2,h3⟩;exact⟨s',p',qt_ _ h1,h2,h3⟩
 ·rintro⟨s',p',h1,h2,h3⟩
  rcases pt_.mp h1 with q | q
  ·exact⟨s',p',q,h2,h3⟩
  ·obtain⟨rfl,rfl⟩:=xh_ (pv_.mp q)
   rw[hs] at h2;cases h2
theorem DE.add {H:Hp}{l:List Spot}{n:Int}{L:Nat}{c:Option Int}{ps:List (Addr×PKey)}{ks:List VKey}(h:DE H l n L c ps ks)(hn:n≠0){s:List Nat}{p:Nat}(hs:okS l c s p=true)(hk:vk s p∉ks)(hp:p<=L)(hks:∀ s' p',vk s' p'∈ks->p'<=L){a:Addr}(ha:patKind.at_ H (pk (s,one n p L)) a):DE H l n L c (ps++[(a,pk (s,one n p L))]) (ks++[vk s p]):=by
 refine⟨fun q hq=>?_,?_,fun k=>?_,by have:=h.len;rw[pe_,pe_];simp;omega⟩
 ·rcases pt_.mp hq with q' | q'
  ·exact h.at_ q q'
  ·rw[pv_.mp q'];exact ha
 ·rw[ph_]
  refine qq_.mpr ⟨h.nd,by simp,fun x hx y hy z=>?_⟩
  have hy:y=pk (s,one n p L):=by simpa using hy
  rw[z,hy] at hx
  obtain⟨s',p',h1,h2,h3⟩:=(h.mem _).mp hx
  have e:=ve_ h3
  injection e with e1 e2
  have e3:=u3_ hn hp (hks _ _ h1) e2
  rw[<- e1,<- e3] at h1
  exact hk h1
 ·rw[ph_,pt_,h.mem]
  constructor
  ·rintro(⟨s',p',h1,h2,h3⟩ | q)
   ·exact⟨s',p',qt_ _ h1,h2,h3⟩
   ·exact⟨s,p,by simp,hs,by simpa using q⟩
  ·rintro⟨s',p',h1,h2,h3⟩
   rcases pt_.mp h1 with q | q
   ·exact .inl ⟨s',p',q,h2,h3⟩
   ·obtain⟨rfl,rfl⟩:=xh_ (pv_.mp q)
    exact .inr (by simp[h3])
theorem jpg_ {n:Int}{p L:Nat}(hp:p<=L):((po_ (L+1)).map fun k=>if k=p then n else 0)=one n p L:=by
 apply ki_
 intro i
 by_cases hi:i<=L
 ·rw[v5_ hp hi,pf_,List.getElem?_range (by omega)];rfl
 ·rw[sg_ (by rw[pb_,qb_];omega),sg_ (by simp only[one,pe_,q9_,p3_,r7_];omega)]
theorem jww_ (l:List Spot)(s:List Nat)(p:Nat)(g:Bool):cS l s p g<=l.length:=qf_ _ _
theorem jfa_ {xs:List Pat}{n:Int}{L:Nat}(hL:L<=20):∀{l:List Pat},(∀ x∈l,x.1.length<=20)->(yc_ xs n L l).length<=l.length * 483
 | [],_=>by simp[yc_]
 | x::l,h=>by
  have ih:=jfa_ (xs:=xs) (n:=n) hL (l:=l) fun y hy=>h y (pl_ _ hy)
  have hx:=h x pn_
  have h3:=x1_ (xw_ xs n L x) (L+1) (jal_ xs n L x) (po_ ((frame x.1).length+1 - L))
  rw[qb_,jq_] at h3
  have h4:(x.1.length+2+1 - L) * (L+1)<=23 * 21:=t6_ (by omega) (by omega)
  have h6:(jbm_ xs n L x).length<=483:=by unfold jbm_;rw[jq_];omega
  unfold yc_ at ih ⊢
  rw[qi_,pe_,p3_,q3_]
  omega
section
variable {P:Program}{w:World}{K:pc_}{mg:Str->Option Value}{base:Heap}{f:Addr}{fd:FuncData}{tk:Nat->Tok}
theorem jhe_ (T:Txt mg tk)(F:Fun K "_law_level" "_law_level" s_law_level f fd)(D_law_counts:Dn P w K mg base "_law_counts" 2 ["_law_words_here","_law_patterns","_law_number","_law_length"] (spLC P w)):FnOk P w K mg base CX0 3 f fd ["_law_words_here","_law_patterns","_law_number","_law_most","_law_cost"] yv_:=by
 refine F.ok sc_law_level (fun vs H Q E h=>?_) (fun cdv A outer s H vs Q E hr h=>?_)
 ·obtain⟨v,u,ws,xs,n,m,c,rfl,_⟩:=h
  rfl
 obtain⟨v,u,ws,xs,n,m,c,rfl,hv,hu,hxs,hxl,hws,hwl,hnz,hn0,hn1,hm,hc,q⟩:=h
 have nd:=sc_law_level.nd
 obtain⟨ua,ya,rfl,hua,hya⟩:=yt_ hu
 have hyl:=hya.length
 rw[pb_] at hyl
 refine⟨_,(je_ (jm_ (i:=5) nd rfl (Or.inl rfl) (j6_ jc_))
  (je_ (j1_ pu_ rfl (ym_ rfl T.z_range (ja_ jf_ (ja_ (jk_ jt_ (pv 3) jf_) jc_))) (jj_ (i:=6) nd rfl (Or.inl rfl))
   (je_ (jm_ (i:=7) nd rfl (Or.inl rfl) (jn_ D_law_counts hr.mo_ rfl (ja_ (pv 0) (ja_ (jk_ jt_ (pv 1) (pv 5)) (ja_ (pv 2) (ja_ (pv 6) jc_))))))
  (je_ (jm_ (i:=8) nd rfl (Or.inl rfl) (j6_ jc_))
  (je_ (jod_ (j1_ pu_ rfl (jne_ (N:=viewKind) (P:=P) (w:=w) rfl rfl (pv 7)) (yi_ rfl (jr_ (jj_ (i:=9) nd rfl (Or.inl rfl)) (jr_ (jj_ (i:=10) nd rfl (Or.inr rfl)) zu_)))
   (je_ (jct_ (v0_ (N:=viewKind) (P:=P) (w:=w) rfl rfl (z4_ hr) (pv 7) (zx_ (ja_ (pv 9) (ja_ (pv 10) jc_))) (fun _ _=>rfl)) (yi_ rfl (jr_ (jj_ (i:=11) nd rfl (Or.inl rfl)) (jr_ (jj_ (i:=12) nd rfl (Or.inl rfl)) zu_))))
  (je_ (jm_ (i:=13) nd rfl (Or.inl rfl) (zs_ o_gt (pv 12) jf_ (j3_ _)))
  (je_ (y1_ (zd_ jua_ (pv 4) xx_ (j3_ _))
   (ji_ (jm_ (i:=13) nd rfl (Or.inl rfl) (zs_ o_gt (jk_ yo_ (pv 12) (pv 4)) (pv 11) (j3_ _))))
   z1_)
  (ji_ (y1_ (PW.pt (jgf_ (zd_ o_gt (pv 11) jf_ (j3_ _)) (jch_ (jll_ (x7_ (pv 13) (fun _=>rfl))))))
   (ji_ (zp_ (z2_ (K:=K) p9_ q7_ q8_ yu_ (pv 8) (ja_ (zx_ (ja_ (pv 9) (ja_ (zk_ jaj_ rfl T.z_tuple (by decide +kernel) (ja_ (zo_ ["_law_number","_law_place","_law_k"] [some 2,some 10,none] rfl (by kernel_rfl) rfl (zi_ rfl T.z_range (ja_ (jk_ jt_ (pv 6) jf_) jc_)) (fun _ _ _ _=>(jj_ (i:=2) (show (["_law_number","_law_place","_law_k"]:List Str).Nodup by decide +kernel) rfl (Or.inl rfl) (Or.inr rfl))) (fun _ _ _ _=>z6_) (fun _ _ _ _=>(jk_ yo_ (pv 0) (zk_ jiq_ rfl T.z_int (by decide +kernel) (ja_ (zs_ (o_eq hr.units) (pv 2) (pv 1) (j3_ _)) jc_))))) jc_)) jc_))) jc_))))
   z1_)))))))
  (ji_ (jm_ (i:=5) nd rfl (Or.inl rfl) (jk_ jt_ (pv 5) (jo_ (jiu_ rfl (jmj_ hr)) rfl T.z_sorted (by decide +kernel) (ja_ (pv 8) jc_)))))))))
  (ji_ (j2_ (pv 5))))),?_⟩
 rw[show L2.start ["_law_words_here","_law_patterns","_law_number","_law_most","_law_cost","_law_learnt","_law_length","_law_counts_here","_law_some","_law_signs","_law_place","_law_good","_law_bad","_law_dear"] [v,.ref ua,.int n,.int (m:Int),cV c]=[some (v),some (.ref ua),some (.int n),some (.int (m:Int)),some (cV c),none,none,none,none,none,none,none,none,none] from rfl]
 walk_at "go"
 intro r0 hr0
 have s1:=jd_ hr0 (.lst [])
 walk_at "go"
 refine ze_ (fun i σ H'=>∃(v6 v7 v8 v9 v10 v11 v12 v13:Option V) (r:Addr) (zs:List V) (ps:List Pat),σ=[some v,some (.ref ua),some (.int n),some (.int (m:Int)),some (cV c),some (.ref r),v6,v7,v8,v9,v10,v11,v12,v13]/\H r=none/\H' r=some (.lst zs)/\L2.IsL H' zs (ps.map patD)/\LV ws xs n c i ps/\Same H H')
  ⟨none,none,none,none,none,none,none,none,r0,[],[],rfl,hr0,jb_,(by simp[L2.IsL]),rfl,s1⟩ ?_ ?_
 ·rintro i σ Ha hi ⟨v6,v7,v8,v9,v10,v11,v12,v13,r,zs,ps,rfl,hrH,er,hzs,hlv,sa⟩
  have hi:i < m:=by omega
  have hzl:=hzs.length
  rw[pb_] at hzl
  have hpl:=jas_ (fun x hx=>(hws x hx).2) hlv
  have hp2:gN ws * 9 * min i 9<=gN ws * 9 * 9:=ru_ _ (by omega)
  have eua:=sa _ _ hua
  walk_at "go"
  refine xz_ eua er (szn (by omega)) fun t ht=>?_
  have st:=jd_ ht (.lst (ya++zs))
  have et:=jb_ (H:=Ha) (a:=t) (o:=.lst (ya++zs))
  generalize upd Ha t (.lst (ya++zs))=Hb at st et ⊢
  have sb:=sa.trans st
  walk_at "go"
  have hL0:(1:Int)+(i:Int)=((i+1:Nat):Int):=by omega
  rw[hL0]
  refine⟨v,.ref t,ws,xs++ps,n,i+1,rfl,Is.same sb hv,?_,fun x hx=>?_,by rw[pe_];omega,fun x hx=>⟨(hws x hx).1,by have:=(hws x hx).2;omega⟩,hwl.1,hn0,hn1,by omega,fun d kvs Hc hd ed ce sc=>?_⟩
  ·simp only[Is,zc_]
   refine⟨t,_,rfl,et,?_⟩
   rw[ph_]
   exact IsL.append (IsL.same sb hya) (IsL.same st hzs)
  ·rcases pt_.mp hx with h | h
   ·exact hxs x h
   ·exact jcg_ hlv (by omega) x h
  have s0c:=sb.trans sc
  have hsl:=jfa_ (xs:=xs++ps) (n:=n) (L:=i+1) (by omega) (l:=ws) fun x hx=>by have:=(hws x hx).2;omega
  have hlrn:=fun x=>jge_ (xs++ps) ws (L:=i+1) (c:=c) hnz x
  have hsm:=fun e=>joj_ (xs:=xs++ps) (ws:=ws) (n:=n) (L:=i+1) (e:=e)
  have hdH:H d=none:=sb.free hd
  generalize yc_ (xs++ps) n (i+1) ws=l at ce hsl hlrn hsm
  have hsl:l.length<=4830:=by omega
  have hkl:=ce.len
  walk_at "go"
  intro so hso
  have sso:=jd_ hso (.lst [])
  have eso:=jb_ (H:=Hc) (a:=so) (o:=.lst [])
  generalize upd Hc so (.lst [])=Hd at sso eso ⊢
  have s0d:=s0c.trans sso
  have edd:=sso _ _ ed
  have ced:=ce.tk fun b xs e=>sso _ _ e
  have sod:so≠d:=fun z=>by rw[z,ed] at hso;cases hso
  have hsoH:H so=none:=s0c.free hso
  walk_at "go"
  refine jvk_ (N:=viewKind) (P:=P) (w:=w) d kvs (fun o u z=>by have z':H d=some (.frz o u):=z;rw[hdH] at z';cases z') ?_
  walk_at "go"
  refine jnh_ ?_
  walk_at "go"
  refine⟨d,kvs,rfl,edd,ced.ko,fun ob=>?_⟩
  have edf:(upd Hd d (.frz ob (DX viewKind P w d kvs))) d=some (.frz ob (DX viewKind P w d kvs)):=jb_
  have kf:∀ b o,b≠d->Hd b=some o->(upd Hd d (.frz ob (DX viewKind P w d kvs))) b=some o:=fun b o a e=>by rw[jh_ a];exact e
  generalize upd Hd d (.frz ob (DX viewKind P w d kvs))=He at edf kf ⊢
  have tke:∀{H':Hp},(∀ b o,b≠d->b≠so->Hd b=some o->H' b=some o)->∀ b zs,Hd b=some (.tup zs)->H' b=some (.tup zs):=fun k b zs e=>k b _ (vm_ edd e) (fun z=>by rw[z,eso] at e;cases e) e
  refine jor_ (N:=viewKind) (P:=P) (w:=w) (a:=d) (o:=ob) (kvs:=kvs) (fun j σ H'=>∃(v9 v10 v11 v12 v13:Option V) (qs:List (Addr×PKey)),σ=[some v,some (.ref ua),some (.int n),some (.int (m:Int)),some (cV c),some (.ref r),some (.int ((i+1:Nat):Int)),some (.ref d),some (.ref so),v9,v10,v11,v12,v13]/\H' d=some (.frz ob (DX viewKind P w d kvs))/\H' so=some (.lst (qs.map fun q=>V.ref q.1))/\DE H' l n (i+1) c qs ((kvs.take j).map (·.1))/\∀ b o,b≠d->b≠so->Hd b=some o->H' b=some o)
   ⟨_,_,_,_,_,[],rfl,edf,kf _ _ sod eso,by simpa using DE.nil,fun b o a _ e=>kf b o a e⟩ (fun j σ H' _ ⟨_,_,_,_,_,_,_,e,_⟩=>e) ?_ ?_
  ·rintro j kv σ Hf hkv ⟨v9,v10,v11,v12,v13,qs,rfl,e1,e2,e3,e4⟩
   have hj:j < kvs.length:=(pj_.mp hkv).1
   have cef:=ced.tk (tke e4)
   have hmk:kv.1∈kvs.map (·.1):=r9_ (s6_ hkv)
   obtain⟨sp,hsp,hke⟩:=ced.mem _ hmk
   obtain⟨sg,p,gg⟩:=sp
   have hpL:p<=i+1:=(hsm _ hsp).2
   have hsgl:sg.length=i+1:=(hsm _ hsp).1
   have hko:=cef.ko kv (s6_ hkv)
   rw[hke] at hko
   have hkt:Hf kv.2.1=some (.tup [.str (S sg),.int (p:Int)]):=hko
   have htk:(kvs.take (j+1)).map (·.1)=(kvs.take j).map (·.1)++[vk sg p]:=by
    rw[p8_,hkv,ph_]
    show _++[kv.1]=_
    rw[hke]
   have hnew:vk sg p∉(kvs.take j).map (·.1):=fun z=>by
    have h1:=ced.nd
    rw[<- sh_ (j+1) kvs,ph_,htk] at h1
    have h2:=(qq_.mp h1).1
    exact(qq_.mp h2).2.2 _ z _ (by simp) rfl
   have hks:∀ s' p',vk s' p'∈(kvs.take j).map (·.1)->p'<=i+1:=fun s' p' z=>by
    obtain⟨e',he',q'⟩:=ced.mem (vk s' p') (by
     obtain⟨y,hy,hy2⟩:=pq_.mp z
     exact pq_.mpr ⟨y,qu_ hy,hy2⟩)
    have:=(hsm _ he').2
    obtain⟨_,rfl⟩:=xh_ q'
    exact this
   rw[htk]
   have hne:cS l sg p true+cS l sg p false≠0:=fun z=>by
    have:=cef.non sg p z
    exact(valX_mem.mp this) (hke▸hmk)
   obtain⟨tv,hv1,hv2⟩:=cef.val sg p hne
   have hqn:=e3.len
   rw[pb_,pw_] at hqn
   generalize (kvs.take j).map (·.1)=ks at e3 hnew hks ⊢
   refine yq_ hkt rfl (jv_ (jy_ (jv_ (jy_ (z9_ ?_)))))
   walk_at "go"
   refine vt_ ?_
   walk_at "go"
   intro kt hkt2
   have skt:=jd_ hkt2 (.tup [.str (S sg),.int (p:Int)])
   have ekt:=jb_ (H:=Hf) (a:=kt) (o:=.tup [.str (S sg),.int (p:Int)])
   generalize upd Hf kt (.tup [.str (S sg),.int (p:Int)])=Hg at skt ekt ⊢
   have ceg:=cef.tk fun b xs e=>skt _ _ e
   have e1g:=skt _ _ e1
   walk_at "go"
   refine⟨d,_,rfl,⟨kvs,vk sg p,kt,.inr ⟨ob,e1g⟩,ceg.ko,rfl,ekt,hv1.symm⟩,?_⟩
   have hv2g:=skt _ _ hv2
   refine yq_ hv2g rfl (jv_ (jy_ (jv_ (jy_ (z9_ ?_)))))
   have e2g:=skt _ _ e2
   have e3g:=e3.tk fun b xs e=>skt _ _ e
   have e4g:∀ b o,b≠d->b≠so->Hd b=some o->Hg b=some o:=fun b o a1 a2 e=>skt _ _ (e4 b o a1 a2 e)
   have hG:=jww_ l sg p true
   have hB:=jww_ l sg p false
   have hduo:okS l c sg p=(decide (0 < cS l sg p true)&&y6_ (cS l sg p true:Int) (cS l sg p false:Int) c):=rfl
   clear hv1 hv2 hv2g ceg cef ekt hkt hko hmk
   walk_at "go"
   generalize cS l sg p true=G at *
   generalize cS l sg p false=B at *
   rcases c with _ | k
   case' none =>
    simp only[cV]
    have hdear:decide (0 < (B:Int))=!(y6_ (G:Int) (B:Int) none):=by unfold y6_;by_cases h:B=0 <;> simp[h] <;> omega
    walk_at "go"
    rw[hdear]
   case' some =>
    have hk:=hc k rfl
    simp only[cV]
    have hdear:decide ((G:Int) < (B:Int) * k)=!(y6_ (G:Int) (B:Int) (some k)):=by unfold y6_;by_cases h:(B:Int) * k<=(G:Int) <;> simp[h] <;> omega
    try refine yl_ rfl ?_
    walk_at "go"
    rw[hdear]
   all_goals
    walk_at "go"
    by_cases hg0:0 < G
    ·refine yl_ (decide_eq_true (by omega)) ?_
     rw[decide_eq_true hg0,kq_] at hduo
     rw[<- hduo]
     cases hw:okS l _ sg p with
     | false =>
      walk_at "go"
      exact⟨_,_,_,_,_,qs,rfl,e1g,e2g,e3g.skip hw,e4g⟩
     | true =>
      walk_at "go"
      intro rc hrc
      refine z7_ (fun j acc σ H'=>∃(v:Option V),σ=[some (.int n),some (.int (p:Int)),v]/\acc=((po_ j).map fun k=>if k=p then n else 0).map V.int/\H' rc=some (.lst acc)/\Same Hg H')
       ⟨none,rfl,rfl,jb_,jd_ hrc _⟩ (fun j acc σ H' ⟨_,_,e,e2,_⟩=>⟨e2,by rw[e,pb_,pb_,qb_];exact pm_ _⟩) (szn (by omega)) ?_ ?_
      ·rintro j acc σ Hh hj ⟨v0,rfl,rfl,ee,se⟩
       have h0j:(0:Int)+(j:Int)=(j:Int):=by omega
       walk_at "go"
       refine⟨ee,_,rfl,?_,jb_,fun b o q=>?_⟩
       ·rw[qm_,ph_,ph_]
        congr 1
        have:decide (V.int (0+(j:Int))=V.int (p:Int))=decide (j=p):=by
         by_cases h:j=p
         ·subst h;simp
         ·simp[h];omega
        rw[this]
        by_cases h:j=p
        ·simp[h]
        ·simp[h]
       ·rw[jh_ (jg_ q hrc)];exact se _ _ q
      ·rintro acc σ Hh ⟨v0,rfl,rfl,ee,se⟩
       rw[show (((i+1:Nat):Int)+1).toNat=i+1+1 by omega,jpg_ hpL] at ee
       walk_at "go"
       refine vq_ (j5_ ee) fun tn Hi etn sf=>?_
       walk_at "go"
       intro tp htp
       have sg2:=jd_ htp (.tup [.str (S sg),.ref tn])
       have etp:=jb_ (H:=Hi) (a:=tp) (o:=.tup [.str (S sg),.ref tn])
       generalize upd Hi tp (.tup [.str (S sg),.ref tn])=Hj at sg2 etp ⊢
       have sgj:Same Hg Hj:=(se.trans sf).trans sg2
       have hatp:patKind.at_ Hj (pk (sg,one n p (i+1))) tp:=⟨tn,etp,sg2 _ _ etn⟩
       have e1j:=sgj _ _ e1g
       have e2j:=sgj _ _ e2g
       have e3j:=e3g.tk fun b xs e=>sgj _ _ e
       have hszp:(qs.map fun q=>V.ref q.1).length < sizeLine:=szn (by rw[pb_];omega)
       walk_at "go"
       have tkh:Tk Hj (upd Hj so (.lst ((qs.map fun q=>V.ref q.1)++[.ref tp]))):=fun y zs' ey=>by
        rw[jh_ fun z=>by rw[z,e2j] at ey;cases ey];exact ey
       refine⟨_,_,_,_,_,qs++[(tp,pk (sg,one n p (i+1)))],rfl,(jh_ sod.symm).trans e1j,by rw[jb_,ph_];rfl,(e3j.add hnz hw hnew hpL hks hatp).tk tkh,fun b o a1 a2 e=>?_⟩
       rw[jh_ a2];exact sgj _ _ (e4g b o a1 a2 e)
    ·refine yp_ (decide_eq_false (by omega)) ?_
     walk_at "go"
     exact⟨_,_,_,_,_,qs,rfl,e1g,e2g,e3g.skip (by rw[hduo,decide_eq_false hg0];rfl),e4g⟩
  ·rintro σ Hf ⟨v9,v10,v11,v12,v13,qs,rfl,e1,e2,e3,e4⟩
   refine⟨⟨ob,e1⟩,?_⟩
   rw[p0_] at e3
   have e2k:(upd Hf d (DX viewKind P w d kvs)) so=some (.lst (qs.map fun q=>V.ref q.1)):=(jh_ sod).trans e2
   have e3k:DE (upd Hf d (DX viewKind P w d kvs)) l n (i+1) c qs (kvs.map (·.1)):=e3.tk fun b zs e=>by rw[jh_ fun z=>by rw[z,e1] at e;cases e];exact e
   have e4k:∀ b o,b≠so->Hc b=some o->b≠d->(upd Hf d (DX viewKind P w d kvs)) b=some o:=fun b o a e a2=>by rw[jh_ a2];exact e4 b o a2 a (sso _ _ e)
   generalize upd Hf d (DX viewKind P w d kvs)=Hg at e2k e3k e4k ⊢
   have s0g:Same H Hg:=fun b o e=>e4k b o (jg_ e hsoH) (s0c _ _ e) (jg_ e hdH)
   have rso:r≠so:=fun z=>by rw[<- z,sc _ _ (st _ _ er)] at hso;cases hso
   have rd:r≠d:=fun z=>by rw[<- z,st _ _ er] at hd;cases hd
   have erg:Hg r=some (.lst zs):=e4k _ _ rso (sc _ _ (st _ _ er)) rd
   have hzsg:L2.IsL Hg zs (ps.map patD):=IsL.tk (fun b ys e=>e4k b _ (fun z=>by rw[z] at e;rw[(st.trans sc) _ _ e] at hso;cases hso) ((st.trans sc) _ _ e) (fun z=>by rw[z] at e;rw[st _ _ e] at hd;cases hd)) (jw_ _) hzs
   have hql:=e3k.len
   rw[pb_] at hql
   walk_at "go"
   have hq64:qs.length < 64:=by
    have h1:(qs.map (·.2)).length<=((occs n (i+1) true (j0_ (xs++ps) ws)).map pk).length:=v3_ e3k.nd fun k hk=>by
     obtain⟨s',p',h2,h3,h4⟩:=(e3k.mem k).mp hk
     obtain⟨e',he',q'⟩:=ced.mem _ h2
     have h5:=(hsm _ he').2
     obtain⟨_,hpe⟩:=xh_ q'
     unfold okS at h3
     rw[qe_] at h3
     rw[h4]
     exact r9_ ((hlrn (s',one n p' (i+1))).mp ⟨s',p',by omega,of_decide_eq_true h3.1,h3.2,rfl⟩).1
    rw[pb_,pb_] at h1
    exact sz_ h1 (jmd_ hwl.2 fun x hx=>(hws x hx).2)
   refine jiw_ e2k e3k.at_ hq64 fun rr q2 hrr hqp hqs=>?_
   have hqat:∀ p∈q2,Is Hg (.ref p.1) (patD (unpk p.2)):=fun p hp=>jno_ (e3k.at_ p (hqp.mem_iff.mp hp))
   have hpk:(q2.map fun p=>unpk p.2).map pk=q2.map (·.2):=by
    rw[qy_]
    exact qz_ fun p _=>jhh_ p.2
   have hpm:(q2.map (·.2)).Perm (qs.map (·.2)):=hqp.map (·.2)
   have sr:=jd_ hrr (.lst (q2.map fun p=>V.ref p.1))
   have err:=jb_ (H:=Hg) (a:=rr) (o:=.lst (q2.map fun p=>V.ref p.1))
   have hbs:isLA (occs n (i+1) true (j0_ (xs++ps) ws)) (occs n (i+1) false (j0_ (xs++ps) ws)) c (q2.map fun p=>unpk p.2):=by
    refine⟨by rw[hpk];exact hqs,by rw[hpk];exact hpm.nodup_iff.mpr e3k.nd,fun x=>?_⟩
    have h1:x∈q2.map (fun p=>unpk p.2)↔pk x∈q2.map (·.2):=by
     rw[<- hpk,pq_,pq_]
     constructor
     ·rintro⟨p,hp,rfl⟩;exact⟨_,pq_.mpr ⟨p,hp,rfl⟩,rfl⟩
     ·rintro⟨y,hy,e⟩
      obtain⟨p,hp,rfl⟩:=pq_.mp hy
      exact⟨p,hp,ve_ e⟩
    rw[h1,hpm.mem_iff,e3k.mem,<- hlrn]
    constructor
    ·rintro⟨s',p',h2,h3,h4⟩
     obtain⟨e',he',q'⟩:=ced.mem _ h2
     have h5:=(hsm _ he').2
     obtain⟨_,hpe⟩:=xh_ q'
     unfold okS at h3
     rw[qe_] at h3
     exact⟨s',p',by omega,of_decide_eq_true h3.1,h3.2,ve_ h4⟩
    ·rintro⟨s',p',h2,h3,h4,h5⟩
     refine⟨s',p',?_,by unfold okS;rw[qe_];exact⟨decide_eq_true h3,h4⟩,by rw[h5]⟩
     obtain⟨t',ht',_⟩:=ced.val s' p' (by omega)
     exact sl_ fun z=>by rw[valX_mem.mpr z] at ht';cases ht'
   have hlv2:LV ws xs n c (i+1) (ps++q2.map fun p=>unpk p.2):=⟨ps,_,hlv,hbs,rfl⟩
   have hzs2:L2.IsL (upd Hg rr (.lst (q2.map fun p=>V.ref p.1))) (q2.map fun p=>V.ref p.1) ((q2.map fun p=>unpk p.2).map patD):=IsL.same sr (jaq_ hqat)
   have hq2l:q2.length=qs.length:=hqp.length_eq
   have erg2:=sr _ _ erg
   have hzsr:=IsL.same sr hzsg
   have s0r:=s0g.trans sr
   generalize upd Hg rr (.lst (q2.map fun p=>V.ref p.1))=Hh at sr err hzs2 erg2 hzsr s0r ⊢
   walk_at "go"
   refine xz_ erg2 err (szn (by rw[pb_];omega)) fun t3 ht3=>?_
   have st3:=jd_ ht3 (.lst (zs++q2.map fun p=>V.ref p.1))
   walk_at "go"
   refine⟨_,_,_,_,_,_,_,_,t3,_,_,rfl,s0r.free ht3,jb_,?_,hlv2,s0r.trans st3⟩
   rw[ph_]
   exact IsL.append (IsL.same st3 hzsr) (IsL.same st3 hzs2)
 ·rintro σ Ha ⟨v6,v7,v8,v9,v10,v11,v12,v13,r,zs,ps,rfl,hrH,er,hzs,hlv,sa⟩
  rw[show ((m:Int)+1 - 1).toNat=m by omega] at hlv
  walk_at "go"
  exact q r zs ps Ha hrH er hzs hlv sa
end
noncomputable abbrev s_taught:Stmt:=top 15
theorem sc_taught:FnScope ["words","levels","learnt","number","bounds"] ["words","levels"] (jp_ s_taught):=by walk_at "f"
noncomputable def cD:Option Int->Dt
 | none=>.non
 | some k=>.int k
noncomputable def lvD (l:Nat×Option Int):Dt:=.tup [.int (l.1:Int),cD l.2]
noncomputable def lvsD (ls:List (Nat×Option Int)):Dt:=.lst (ls.map lvD)
theorem isC {H:Hp}{v:V}{c:Option Int}(h:Is H v (cD c)):v=cV c:=by
 cases c with
 | none=>simpa only [Is,cD,cV] using h
 | some k=>simpa only [Is,cD,cV] using h
theorem jzp_ {H:Hp}(c:Option Int):Is H (cV c) (cD c):=by
 cases c with
 | none=>simp only[Is,cD,cV]
 | some k=>simp only[Is,cD,cV]
theorem isLv {H:Hp}{v:V}{l:Nat×Option Int}(h:Is H v (lvD l)):∃ a,v=.ref a/\H a=some (.tup [.int (l.1:Int),cV l.2]):=by
 simp only[Is,lvD] at h
 obtain⟨a,ys,rfl,ha,hy⟩:=h
 match ys,hy with
 | [y1,y2],hy =>
  simp only[L2.IsL] at hy
  obtain⟨h1,h2,_⟩:=hy
  simp only[Is] at h1
  have h2:=isC h2
  subst h1 h2
  exact⟨a,rfl,ha⟩
 | [],hy=>simp only[L2.IsL] at hy
 | [_],hy=>simp only[L2.IsL] at hy;exact hy.2.elim
 | _::_::_::_,hy=>simp only[L2.IsL] at hy;exact hy.2.2.elim
theorem jue_ {H:Hp}{a:Addr}{l:Nat×Option Int}(h:H a=some (.tup [.int (l.1:Int),cV l.2])):Is H (.ref a) (lvD l):=by
 simp only[Is,lvD]
 exact⟨a,_,rfl,h,by simp only[L2.IsL,Is];exact⟨trivial,jzp_ _,trivial⟩⟩
theorem jvi_ (c:Option Int):xj_ (cD c)=true:=by cases c <;> rfl
theorem jjm_ (l:Nat×Option Int):xj_ (lvD l)=true:=by
 simp only[lvD,xj_,zf_,jvi_,sv_]
theorem jfs_:∀ ls:List (Nat×Option Int),zf_ (ls.map lvD)=true
 | []=>rfl
 | l::ls=>by rw[pr_];simp only[zf_,jjm_,jfs_ ls,sv_]
def TL (ws:List Pat)(lvs:List (Nat×Option Int)):Nat->List Pat->Prop
 | 0,ps=>ps=[]
 | k+1,ps=>∃ as bs l,TL ws lvs k as/\lvs[k]?=some l/\LV ws as ((k+1:Nat):Int) l.2 l.1 bs/\ps=as++bs
theorem jsg_ {ws:List Pat}{lvs:List (Nat×Option Int)}:∀{k:Nat}{a b:List Pat},TL ws lvs k a->TL ws lvs k b->a=b
 | 0,a,b,h1,h2=>by rw[show a=[] from h1,show b=[] from h2]
 | k+1,a,b,h1,h2=>by
  obtain⟨a1,a2,l1,p1,p2,p3,rfl⟩:=h1
  obtain⟨b1,b2,l2,q1,q2,q3,rfl⟩:=h2
  have e:=jsg_ p1 q1
  subst e
  rw[p2] at q2
  cases q2
  rw[jln_ p3 q3]
theorem jav_ {ws:List Pat}{lvs:List (Nat×Option Int)}(hw:∀ x∈ws,x.1.length<=7):∀{k:Nat}{a:List Pat},TL ws lvs k a->a.length<=k * (gN ws * 81)
 | 0,a,h1=>by rw[show a=[] from h1];exact qj_ _
 | k+1,a,h1=>by
  obtain⟨a1,a2,l1,p1,p2,p3,rfl⟩:=h1
  have ih:=jav_ hw p1
  have h2:=jas_ hw p3
  have h3:gN ws * 9 * min l1.1 9<=gN ws * 9 * 9:=ru_ _ (by omega)
  rw[pe_,q3_];omega
theorem jwt_ {ws:List Pat}{lvs:List (Nat×Option Int)}(hw:∀ x∈ws,∀ c∈x.1,c < 128):∀{k:Nat}{a:List Pat},TL ws lvs k a->∀ x∈a,∀ c∈x.1,c < 128
 | 0,a,h1,x,hx=>by rw[show a=[] from h1] at hx;cases hx
 | k+1,a,h1,x,hx=>by
  obtain⟨a1,a2,l1,p1,p2,p3,rfl⟩:=h1
  rcases pt_.mp hx with h | h
  ·exact jwt_ hw p1 x h
  ·exact jxn_ p3 hw x h
theorem jcc_ {ws:List Pat}{lvs:List (Nat×Option Int)}(hl:∀ l∈lvs,l.1<=20):∀{k:Nat}{a:List Pat},TL ws lvs k a->∀ x∈a,1<=x.1.length/\x.1.length<=1000/\x.2.length<=x.1.length+1
 | 0,a,h1,x,hx=>by rw[show a=[] from h1] at hx;cases hx
 | k+1,a,h1,x,hx=>by
  obtain⟨a1,a2,l1,p1,p2,p3,rfl⟩:=h1
  rcases pt_.mp hx with h | h
  ·exact jcc_ hl p1 x h
  ·exact jcg_ p3 (by have:=hl l1 (s6_ p2);omega) x h
def LvOk (l:Nat×Option Int):Prop:=l.1<=20/\∀ k,l.2=some k->0<=k/\k<=1000000
def jcs_:Sp:=fun vs H Q _=>∃(v u:V) (ws:List Pat) (lvs:List (Nat×Option Int)),vs=[v,u]/\Is H v (zc_ ws)/\Is H u (lvsD lvs)/\(∀ x∈ws,1<=x.1.length/\x.1.length<=7)/\(ws.length<=10/\gN ws<=12)/\(∀ l∈lvs,LvOk l)/\lvs.length<=20/\lvs.length * (gN ws * 81)<=9000 /\
 ∀(r:Addr) (zs:List V) (ps:List Pat) (H':Hp),H r=none->H' r=some (.lst zs)->L2.IsL H' zs (ps.map patD)->TL ws lvs lvs.length ps->Same H H'->Q (.ref r) H'
section
variable {P:Program}{w:World}{K:pc_}{mg:Str->Option Value}{base:Heap}{f:Addr}{fd:FuncData}{tk:Nat->Tok}
theorem jog_ (T:Txt mg tk)(F:Fun K "taught" "taught" s_taught f fd)(D_level:Dn P w K mg base "level" 7 ["words","patterns","number","most","cost"] yv_):FnOk P w K mg base CX0 8 f fd ["words","levels"] jcs_:=by
 refine F.ok sc_taught (fun vs H Q E h=>?_) (fun cdv A outer s H vs Q E hr h=>?_)
 ·obtain⟨v,u,ws,lvs,rfl,_⟩:=h
  rfl
 obtain⟨v,u,ws,lvs,rfl,hv,hu,hws,hwl,hlv,hll,hlg,q⟩:=h
 have nd:=sc_taught.nd
 simp only[Is,lvsD] at hu
 obtain⟨ua,ya,rfl,hua,hya⟩:=hu
 have hyl:=hya.length
 rw[pb_] at hyl
 refine⟨_,(je_ (jm_ (i:=2) nd rfl (Or.inl rfl) (j6_ jc_))
  (je_ (j1_ pu_ rfl (jda_ rfl T.z_enumerate (pv 1) jf_) (yi_ rfl (jr_ (jj_ (i:=3) nd rfl (Or.inl rfl)) (jr_ (jj_ (i:=4) nd rfl (Or.inl rfl)) zu_)))
   (ji_ (zp_ (z2_ (K:=K) p9_ rj_ rk_ xc_ (pv 2) (ja_ (jn_ D_level hr.mo_ rfl (ja_ (pv 0) (ja_ (pv 2) (ja_ (pv 3) (ja_ (jz_ (js_ (K:=K)) (pv 4) jf_ (fun _ _=>rfl)) (ja_ (jz_ (js_ (K:=K)) (pv 4) jf_ (fun _ _=>rfl)) jc_)))))) jc_)))))
  (ji_ (j2_ (pv 2))))),?_⟩
 rw[show L2.start ["words","levels","learnt","number","bounds"] [v,.ref ua]=[some (v),some (.ref ua),none,none,none] from rfl]
 walk_at "go"
 intro r hr0
 have s1:=jd_ hr0 (.lst [])
 have er1:=jb_ (H:=H) (a:=r) (o:=.lst [])
 have hua1:=s1 _ _ hua
 generalize upd H r (.lst [])=H1 at s1 er1 hua1 ⊢
 walk_at "go"
 refine⟨1,rfl,by decide,jse_ hua1 ?_⟩
 refine jqm_ (fun i σ H'=>∃(v3 v4:Option V) (zs:List V) (ps:List Pat),σ=[some v,some (.ref ua),some (.ref r),v3,v4]/\H' r=some (.lst zs)/\L2.IsL H' zs (ps.map patD)/\TL ws lvs i ps/\Same H H')
  ⟨none,none,[],[],rfl,er1,(by simp[L2.IsL]),rfl,s1⟩ (fun i σ H' _ ⟨_,_,_,_,_,_,_,_,s⟩=>s _ _ hua) ?_ ?_
 ·rintro i y σ Ha Tp hy ⟨v3,v4,zs,ps,rfl,er,hzs,htl,sa⟩ hTp
  have hi:i < lvs.length:=by have:=(pj_.mp hy).1;omega
  obtain⟨y',d,hy',hd1,hI⟩:=IsL.get hya (show i < (lvs.map lvD).length by simpa using hi)
  rw[hy] at hy'
  cases hy'
  rw[pf_,pa_ hi] at hd1
  cases hd1
  obtain⟨la,rfl,hla⟩:=isLv hI
  have hlo:=hlv _ (ps_ hi)
  have hgl:lvs[i]?=some lvs[i]:=pa_ hi
  generalize lvs[i]=lv at hla hlo hgl
  obtain⟨mo,co⟩:=lv
  have sT:=jd_ hTp (PrX Tp [.int (((1:Nat):Int)+(i:Int)),.ref la])
  have eT:=jb_ (H:=Ha) (a:=Tp) (o:=PrX Tp [.int (((1:Nat):Int)+(i:Int)),.ref la])
  have hzl:=hzs.length
  rw[pb_] at hzl
  have hpl:=jav_ (fun x hx=>(hws x hx).2) htl
  have hpl2:(i+1) * (gN ws * 81)<=lvs.length * (gN ws * 81):=rr_ _ hi
  rw[q3_] at hpl2
  refine jgd_ (xs:=[.int (((1:Nat):Int)+(i:Int)),.ref la]) ?_ rfl (jv_ (jy_ (jv_ (jy_ (z9_ ?_)))))
  ·exact jb_
  have sb:=sa.trans sT
  have erb:=sT _ _ er
  have hzb:=IsL.same sT hzs
  have hlab:(upd Ha Tp (PrX Tp [.int (((1:Nat):Int)+(i:Int)),.ref la])) la=some (.tup [.int (mo:Int),cV co]):=sb _ _ hla
  try (generalize hHb:upd Ha Tp (PrX Tp [.int (((1:Nat):Int)+(i:Int)),.ref la])=Hb at sT sb erb hzb hlab eT ⊢)
  walk_at "go"
  have hn1:((1:Nat):Int)+(i:Int)=((i+1:Nat):Int):=by omega
  rw[hn1]
  refine⟨v,.ref r,ws,ps,((i+1:Nat):Int),mo,co,rfl,Is.same sb hv,by simp only[Is,zc_];exact⟨r,zs,rfl,erb,hzb⟩,jcc_ (fun l hl=>(hlv l hl).1) htl,by omega,hws,hwl,by omega,by omega,by omega,hlo.1,hlo.2,fun r2 z2 p2 Hc hr2 er2 hz2 hl2 sc=>?_⟩
  have htl2:TL ws lvs (i+1) (ps++p2):=⟨ps,p2,(mo,co),htl,hgl,hl2,rfl⟩
  have hpl3:=jav_ (fun x hx=>(hws x hx).2) htl2
  rw[pe_,q3_] at hpl3
  have hz2l:=hz2.length
  rw[pb_] at hz2l
  have erc:=sc _ _ erb
  walk_at "go"
  refine jba_ erc er2 (szn (by omega)) ?_
  walk_at "go"
  have k4:Tk Hc (upd Hc r (.lst (zs++z2))):=Tk.lst erc _
  refine⟨_,_,zs++z2,ps++p2,rfl,jb_,?_,htl2,fun b o e=>?_⟩
  ·rw[ph_]
   exact IsL.append (IsL.tk k4 (jw_ _) (IsL.same sc hzb)) (IsL.tk k4 (jw_ _) hz2)
  ·rw[jh_ (jg_ e hr0)];exact sc _ _ (sb _ _ e)
 ·rintro σ Ha ⟨v3,v4,zs,ps,rfl,er,hzs,htl,sa⟩
  rw[hyl] at htl
  walk_at "go"
  exact q r zs ps Ha hr0 er hzs htl sa
end
theorem x4_ {xs:List Pat}{w:List Nat}{j:Nat}(h:j < w.length - 1):j8_ (vals xs w) j=odd1 (numA (frame w) (j+2) 0 xs):=by
 unfold j8_ odd1
 rw[pd_,jea_ xs w j h];rfl
def Lr (n:Int)(y:Pat):Prop:=∃ p,p<=y.1.length/\1<=y.1.length/\y.2=one n p y.1.length
theorem v1_ {n:Int}{p L i:Nat}(hp:p<=L)(hi:i<=L):(one n p L).getD i 0=if i=p then n else 0:=by
 rw[pd_,v5_ hp hi];rfl
theorem jma_ {xs ws:List Pat}{n:Int}{L:Nat}{good:Bool}(hL:1<=L){y:Pat}(h:y∈occs n L good (j0_ xs ws)):Lr n y:=by
 rw[yk_] at h
 obtain⟨x,hx,h⟩:=qa_.mp h
 obtain⟨g,_,h⟩:=qa_.mp h
 obtain⟨b,p,hp,hb,_,rfl⟩:=xb_ h
 have hl:(((frame x.1).drop b).take L).length=L:=by rw[pw_,q1_];omega
 exact⟨p,by rw[hl];exact hp,by rw[hl];exact hL,by rw[hl]⟩
theorem jxm_ {ws xs:List Pat}{n:Int}{c:Option Int}{k:Nat}{a:List Pat}(h:LV ws xs n c k a):∀ y∈a,Lr n y:=fun y hy=>by
 obtain⟨L,as,_,h2⟩:=jdq_ h y hy
 exact jma_ (by omega) h2
theorem jjx_ {n:Int}(hn:n≠0){y:Pat}(hy:Lr n y){t:List Nat}{j:Nat}(h:yn_ t (j+2) [y] n):y∈zy_ t n y.1.length (j+1):=by
 obtain⟨p,hp,h1,h2⟩:=hy
 obtain⟨z,hz,b,hb,hbp,hpl,hv⟩:=h
 rw[pv_.mp hz] at hb hpl hv
 obtain⟨hb1,hb2⟩:=py_.mp hb
 have hb1:=p5_.mp hb1
 unfold fits at hb2
 rw[qe_] at hb2
 have hb3:=of_decide_eq_true hb2.1
 have hb4:(t.drop b).take y.1.length=y.1:=by simpa using hb2.2
 rw[h2] at hv hpl
 rw[v7_ hp] at hpl
 rw[v1_ hp (by omega)] at hv
 have hjp:j+2 - b=p:=by
  by_cases e:j+2 - b=p
  ·exact e
  ·rw[if_neg e] at hv;exact absurd hv hn
 have e1:j+1+1 - y.1.length+(b - (j+1+1 - y.1.length))=b:=Nat.add_sub_cancel' (by omega)
 unfold zy_
 refine pq_.mpr ⟨b - (j+1+1 - y.1.length),p5_.mpr (candN_lt.mpr (by rw[e1];exact⟨hbp,hb3⟩)),?_⟩
 unfold cand
 rw[e1,hb4,show j+1+1 - b=p from hjp,<- h2]
theorem jlh_ {n:Int}{y:Pat}{t:List Nat}{L g:Nat}(hL:1<=L)(h:y∈zy_ t n L g):yn_ t (g+1) [y] n:=by
 obtain⟨b,p,hp,hb,hg,rfl⟩:=xb_ h
 have hl:((t.drop b).take L).length=L:=by rw[pw_,q1_];omega
 refine⟨_,pv_.mpr rfl,b,?_,by omega,?_,?_⟩
 ·refine py_.mpr ⟨p5_.mpr (by omega),?_⟩
  unfold fits
  rw[qe_,hl]
  exact⟨decide_eq_true hb,by simp⟩
 ·show g+1 < b+(one n p L).length
  rw[v7_ hp];omega
 ·show n=(one n p L).getD (g+1 - b) 0
  rw[v1_ hp (by omega),if_pos (by omega)]
theorem tells_one {f:List Nat}{q:Nat}{bs:List Pat}{v:Int}:yn_ f q bs v↔∃ y∈bs,yn_ f q [y] v:=by
 constructor
 ·rintro⟨x,hx,r⟩;exact⟨x,hx,x,pv_.mpr rfl,r⟩
 ·rintro⟨y,hy,x,hx,r⟩;exact⟨x,by rw[pv_.mp hx];exact hy,r⟩
theorem jae_ {n:Int}{f:List Nat}{q:Nat}{bs:List Pat}(hb:∀ y∈bs,Lr n y){v:Int}(h:yn_ f q bs v):v=n∨v=0:=by
 obtain⟨x,hx,b,_,h1,h2,rfl⟩:=h
 obtain⟨p,hp,h3,h4⟩:=hb x hx
 rw[h4] at h2 ⊢
 rw[v7_ hp] at h2
 rw[v1_ hp (by omega)]
 split
 ·exact .inl rfl
 ·exact .inr rfl
theorem jgh_ {n:Int}(hn:0 < n){f:List Nat}{q:Nat}{xs bs:List Pat}(hb:∀ y∈bs,Lr n y)(hx:numA f q 0 xs<=n)(h:yn_ f q bs n):numA f q 0 (xs++bs)=n:=by
 refine tq_ ((yw_ ..).mpr ⟨by omega,fun v hv=>?_⟩) (jgb_ (Tells_append.mpr (.inr h)))
 rcases Tells_append.mp hv with h1 | h1
 ·exact Int.le_trans (jgb_ h1) hx
 ·rcases jae_ hb h1 with e | e <;> omega
theorem jdo_ {n:Int}{f:List Nat}{q:Nat}{xs bs:List Pat}(hb:∀ y∈bs,Lr n y)(h:¬ yn_ f q bs n):numA f q 0 (xs++bs)=numA f q 0 xs:=by
 have h0:numA f q 0 bs=0:=by
  refine tq_ ((yw_ ..).mpr ⟨s3_ _,fun v hv=>?_⟩) jdt_
  rcases jae_ hb hv with e | e
  ·exact absurd (e▸hv) h
  ·omega
 have h1:0<=numA f q 0 xs:=jdt_
 rw[jig_,h0]
 unfold mx
 split <;> omega
theorem jhv_ {xs ws:List Pat}{n:Int}{L:Nat}{good:Bool}{x:Pat}(hx:x∈ws){g:Nat}(hg:g∈yh_ xs n good x){y:Pat}(hy:y∈zy_ (frame x.1) n L g):y∈occs n L good (j0_ xs ws):=by
 rw[yk_]
 exact qa_.mpr ⟨x,hx,qa_.mpr ⟨g,hg,hy⟩⟩
theorem jqa_ {w v:List Nat}{b:Nat}(hv:∀ c∈v,c≠46)(h1:1<=w.length)(hb:b+(frame w).length<=(frame v).length)(h:((frame v).drop b).take (frame w).length=frame w):v=w/\b=0:=by
 rw[jq_,jq_] at hb
 have hat:∀ i,i < (frame w).length->(frame v)[b+i]?=(frame w)[i]?:=fun i hi=>by
  rw[<- h,kf_ (by rw[jq_] at hi ⊢;exact hi),List.getElem?_drop]
 have mid:∀ i,1<=i->i<=v.length->(frame v)[i]?≠some 46:=fun i h1 h2 z=>by
  unfold frame at z
  rw[show i=(i - 1)+1 by omega,kx_,rw_ (by omega),pa_ (by omega)] at z
  injection z with z
  exact hv _ (ps_ _) z
 have e0:(frame w)[0]?=some 46:=rfl
 have el:(frame w)[w.length+1]?=some 46:=by
  unfold frame
  rw[kx_,rb_ (pm_ _),t9_];rfl
 have hb0:b=0:=by
  by_cases z:b=0
  ·exact z
  ·exact absurd ((hat 0 (by rw[jq_];omega)).trans e0) (mid (b+0) (by omega) (by omega))
 subst hb0
 have hl:w.length=v.length:=by
  by_cases z:w.length=v.length
  ·exact z
  ·exact absurd ((hat (w.length+1) (by rw[jq_];omega)).trans el) (mid (0+(w.length+1)) (by omega) (by omega))
 refine⟨?_,rfl⟩
 rw[kb_,sy_ (by rw[jq_,jq_];omega)] at h
 unfold frame at h
 injection h with _ h
 exact List.append_cancel_right h
theorem y2_:∀{ws:List Pat},(ws.map (·.1)).Nodup->∀{x y:Pat},x∈ws->y∈ws->x.1=y.1->x=y
 | [],_,x,y,hx,_,_=>nomatch hx
 | z::ws,h,x,y,hx,hy,e=>by
  rw[pr_,rd_] at h
  rcases p6_.mp hx with hx1 | hx1
  ·rcases p6_.mp hy with hy1 | hy1
   ·rw[hx1,hy1]
   ·rw[hx1] at e
    exact absurd (pq_.mpr ⟨y,hy1,e.symm⟩) h.1
  ·rcases p6_.mp hy with hy1 | hy1
   ·rw[hy1] at e
    exact absurd (pq_.mpr ⟨x,hx1,e⟩) h.1
   ·exact y2_ h.2 hx1 hy1 e
theorem jux_ {ws xs:List Pat}{n:Int}(hn:0 < n)(hnd:(ws.map (·.1)).Nodup)(hw:∀ x∈ws,∀ c∈x.1,c≠46){L:Nat}(hL:1<=L){bs:List Pat}
  (hla:isLA (occs n L true (j0_ xs ws)) (occs n L false (j0_ xs ws)) none bs) {x:Pat} (hx:x∈ws) {j:Nat} (hj:j < x.1.length - 1) (hle:numA (frame x.1) (j+2) 0 xs<=n) :
  (j8_ (vals xs x.1) j=odd1 n->j8_ (vals (xs++bs) x.1) j=odd1 n) /\
  (j8_ (vals xs x.1) j≠odd1 n->decide ((j:Int)+1∈x.2)≠odd1 n->j8_ (vals (xs++bs) x.1) j=j8_ (vals xs x.1) j) /\
  (decide ((j:Int)+1∈x.2)=odd1 n->L=x.1.length+2->j8_ (vals (xs++bs) x.1) j=odd1 n):=by
 have hb:∀ y∈bs,Lr n y:=fun y hy=>jma_ hL ((hla.2.2 y).mp hy).1
 rw[x4_ hj,x4_ hj]
 have a1:yn_ (frame x.1) (j+2) bs n->numA (frame x.1) (j+2) 0 (xs++bs)=n:=jgh_ hn hb hle
 have a2:¬ yn_ (frame x.1) (j+2) bs n->numA (frame x.1) (j+2) 0 (xs++bs)=numA (frame x.1) (j+2) 0 xs:=jdo_ hb
 have keep:odd1 (numA (frame x.1) (j+2) 0 xs)=odd1 n->odd1 (numA (frame x.1) (j+2) 0 (xs++bs))=odd1 n:=fun h=>by
  by_cases t:yn_ (frame x.1) (j+2) bs n
  ·rw[a1 t]
  ·rw[a2 t,h]
 have hcast:((j+1:Nat):Int)=(j:Int)+1:=by omega
 refine⟨keep,fun h1 h2=>?_,fun h1 h2=>?_⟩
 ·rw[a2]
  intro t
  obtain⟨y,hy,ty⟩:=tells_one.mp t
  obtain⟨hyo,hyw⟩:=(hla.2.2 y).mp hy
  have hyl:=(ud_ y hyo).1
  have hc:=jjx_ (by omega) (hb y hy) ty
  rw[hyl] at hc
  have hg:j+1∈yh_ xs n false x:=mem_gapsOf.mpr ⟨by omega,by omega,by
   rw[show j+1 - 1=j by omega,x4_ hj];simpa using h1,by rw[hcast];simpa using h2⟩
  have:=cnt_pos.mpr ⟨y,jhv_ hx hg hc,rfl⟩
  unfold y6_ at hyw
  have h0:=of_decide_eq_true hyw
  omega
 ·by_cases h3:odd1 (numA (frame x.1) (j+2) 0 xs)=odd1 n
  ·exact keep h3
  ·-- the word's own pattern
   have hfl:=jq_ x.1
   let y:Pat:=(frame x.1,one n (j+2) L)
   have hyc:y∈zy_ (frame x.1) n L (j+1):=by
    unfold zy_
    refine pq_.mpr ⟨0,p5_.mpr ?_,?_⟩
    ·unfold vn_
     rw[if_pos (by omega)];omega
    ·unfold cand
     rw[show j+1+1 - L+0=0 by omega,kb_,sy_ (by omega)];rfl
   have hg:j+1∈yh_ xs n true x:=mem_gapsOf.mpr ⟨by omega,by omega,by
    rw[show j+1 - 1=j by omega,x4_ hj];simpa using h3,by rw[hcast];simpa using h1⟩
   have hyo:y∈occs n L true (j0_ xs ws):=jhv_ hx hg hyc
   have hno:cnt (occs n L false (j0_ xs ws)) (pk y)=0:=by
    by_cases z:cnt (occs n L false (j0_ xs ws)) (pk y)=0
    ·exact z
    ·exfalso
     obtain⟨u,hu,hue⟩:=cnt_pos.mp z
     have hue:=ve_ hue
     subst hue
     rw[yk_] at hu
     obtain⟨x',hx',hu⟩:=qa_.mp hu
     obtain⟨g,hg',hu⟩:=qa_.mp hu
     obtain⟨b,p,hp,hbl,hgp,he⟩:=xb_ hu
     injection he with he1 he2
     have hL2:L=(frame x.1).length:=by omega
     rw[hL2] at he1 hbl
     obtain⟨hxx,hb0⟩:=jqa_ (hw x' hx') (by omega) hbl he1.symm
     have hpj:=u3_ (by omega) (show j+2<=L by omega) hp he2
     have hx2:x'=x:=y2_ hnd hx' hx hxx
     subst hx2
     have hgj:g=j+1:=by omega
     subst hgj
     have h4:=(mem_gapsOf.mp hg').2.2.2
     rw[hcast,h1] at h4
     simp at h4
   have hyb:y∈bs:=(hla.2.2 y).mpr ⟨hyo,by unfold y6_;rw[hno];rfl⟩
   rw[a1 (tells_one.mpr ⟨y,hyb,jlh_ hL hyc⟩)]
theorem jle_ {ws xs:List Pat}{n:Int}(hn:0 < n)(hnd:(ws.map (·.1)).Nodup)(hw:∀ x∈ws,∀ c∈x.1,c≠46){x:Pat}(hx:x∈ws){j:Nat}(hj:j < x.1.length - 1)(hle:numA (frame x.1) (j+2) 0 xs<=n) :
  ∀{k:Nat}{as:List Pat},LV ws xs n none k as->numA (frame x.1) (j+2) 0 (xs++as)<=n /\
   (j8_ (vals xs x.1) j=odd1 n->j8_ (vals (xs++as) x.1) j=odd1 n) /\
   (j8_ (vals xs x.1) j≠odd1 n->decide ((j:Int)+1∈x.2)≠odd1 n->j8_ (vals (xs++as) x.1) j=j8_ (vals xs x.1) j) /\
   (decide ((j:Int)+1∈x.2)=odd1 n->x.1.length+2<=k->j8_ (vals (xs++as) x.1) j=odd1 n)
 | 0,as,h=>by
  rw[show as=[] from h,qk_]
  exact⟨hle,id,fun _ _=>rfl,fun _ h=>by omega⟩
 | k+1,as,h=>by
  obtain⟨a1,a2,p1,p2,rfl⟩:=h
  obtain⟨i0,i1,i2,i3⟩:=jle_ hn hnd hw hx hj hle p1
  obtain⟨s1,s2,s3⟩:=jux_ hn hnd hw (by omega) p2 hx hj i0
  have hb:∀ y∈a2,Lr n y:=fun y hy=>jma_ (by omega) ((p2.2.2 y).mp hy).1
  rw[<- qw_]
  refine⟨?_,fun h=>s1 (i1 h),fun h1 h2=>?_,fun h1 h2=>?_⟩
  ·by_cases t:yn_ (frame x.1) (j+2) a2 n
   ·rw[jgh_ hn hb i0 t];exact s3_ _
   ·rw[jdo_ hb t];exact i0
  ·have e:=i2 h1 h2
   rw[s2 (by rw[e];exact h1) h2,e]
  ·by_cases hk:x.1.length+2<=k
   ·exact s1 (i3 h1 hk)
   ·exact s3 h1 (by omega)
def AsL (ws ps:List Pat):Prop:=∀ x∈ws,∀ j,j < x.1.length - 1->j8_ (vals ps x.1) j=decide ((j:Int)+1∈x.2)
theorem jrv_ {ws as b1 b2:List Pat}{m:Int}{M:Nat}(hm:0 < m)(hme:m % 2=0)(hnd:(ws.map (·.1)).Nodup)(hw:∀ x∈ws,∀ c∈x.1,c≠46)(hM:∀ x∈ws,x.1.length+2<=M)
  (hle:∀ x∈ws,∀ j,j < x.1.length - 1->numA (frame x.1) (j+2) 0 as<=m) (h1:LV ws as m none M b1) (h2:LV ws (as++b1) (m+1) none M b2):AsL ws (as++b1++b2):=fun x hx j hj=>by
 have o1:odd1 m=false:=by unfold odd1;exact decide_eq_false (by omega)
 have o2:odd1 (m+1)=true:=by unfold odd1;exact decide_eq_true (by omega)
 obtain⟨a0,a1,a2,a3⟩:=jle_ hm hnd hw hx hj (hle x hx j hj) h1
 obtain⟨b0,b1',b2',b3⟩:=jle_ (by omega) hnd hw hx hj (by omega) h2
 rw[o1] at a1 a2 a3
 rw[o2] at b1' b2' b3
 cases ht:decide ((j:Int)+1∈x.2) with
 | true=>exact b3 ht (hM x hx)
 | false =>
  have e:=a3 ht (hM x hx)
  rw[b2' (by rw[e];decide) (by rw[ht];decide),e]
noncomputable abbrev s_taught_to_the_end:Stmt:=top 16
theorem sc_taught_to_the_end:FnScope ["words","levels","learnt","most","even","number"] ["words","levels"] (jp_ s_taught_to_the_end):=by walk_at "f"
noncomputable def yr_:List Pat->Nat
 | []=>0
 | x::ws=>max x.1.length (yr_ ws)
theorem jbe_:∀{ws:List Pat}{x:Pat},x∈ws->x.1.length<=yr_ ws
 | y::ws,x,h=>by
  rcases p6_.mp h with e | e
  ·rw[e];exact Nat.le_max_left _ _
  ·exact p7_ (jbe_ e) (Nat.le_max_right _ _)
theorem x2_ {m:Nat}:∀{ws:List Pat},(∀ x∈ws,x.1.length<=m)->yr_ ws<=m
 | [],_=>qj_ _
 | x::ws,h=>Nat.max_le.mpr ⟨h x pn_,x2_ fun y hy=>h y (pl_ _ hy)⟩
theorem jfh_:∀{ws:List Pat}{m:Int},((ws.map fun x=>(x.1.length:Int))=[]/\m=0∨m∈(ws.map fun x=>(x.1.length:Int))/\∀ n∈(ws.map fun x=>(x.1.length:Int)),n<=m)->m=(yr_ ws:Int)
 | ws,m,h=>by
  rcases h with ⟨h1,h2⟩ | ⟨h1,h2⟩
  ·cases ws with
   | nil=>exact h2
   | cons x ws=>cases h1
  ·obtain⟨x,hx,rfl⟩:=pq_.mp h1
   have e1:=jbe_ hx
   have e2:yr_ ws<=x.1.length:=x2_ fun y hy=>by have:=h2 _ (pq_.mpr ⟨y,hy,rfl⟩);omega
   omega
def TEn (ws:List Pat)(lvs:List (Nat×Option Int)):Nat->List Pat->Prop
 | 0,ps=>TL ws lvs lvs.length ps
 | k+1,ps=>∃ as bs,TEn ws lvs k as/\LV ws as ((lvs.length / 2 * 2+2+k:Nat):Int) none (2+yr_ ws) bs/\ps=as++bs
theorem jni_ {ws:List Pat}{lvs:List (Nat×Option Int)}:∀{k:Nat}{a b:List Pat},TEn ws lvs k a->TEn ws lvs k b->a=b
 | 0,a,b,h1,h2=>jsg_ h1 h2
 | k+1,a,b,h1,h2=>by
  obtain⟨a1,a2,p1,p3,rfl⟩:=h1
  obtain⟨b1,b2,q1,q3,rfl⟩:=h2
  have e:=jni_ p1 q1
  subst e
  rw[jln_ p3 q3]
theorem y8_ {ws:List Pat}{lvs:List (Nat×Option Int)}(hw:∀ x∈ws,x.1.length<=7):∀{k:Nat}{a:List Pat},TEn ws lvs k a->a.length<=(lvs.length+k) * (gN ws * 81)
 | 0,a,h1=>jav_ hw h1
 | k+1,a,h1=>by
  obtain⟨a1,a2,p1,p3,rfl⟩:=h1
  have ih:=y8_ hw p1
  have h2:=jas_ hw p3
  have h3:gN ws * 9 * min (2+yr_ ws) 9<=gN ws * 9 * 9:=ru_ _ (by omega)
  rw[pe_,<- Nat.add_assoc,q3_];omega
theorem jtt_ {ws:List Pat}{lvs:List (Nat×Option Int)}(hw:∀ x∈ws,∀ c∈x.1,c < 128):∀{k:Nat}{a:List Pat},TEn ws lvs k a->∀ x∈a,∀ c∈x.1,c < 128
 | 0,a,h1=>jwt_ hw h1
 | k+1,a,h1=>by
  obtain⟨a1,a2,p1,p3,rfl⟩:=h1
  intro x hx
  rcases pt_.mp hx with h | h
  ·exact jtt_ hw p1 x h
  ·exact jxn_ p3 hw x h
theorem xi_ {ws:List Pat}{lvs:List (Nat×Option Int)}(hl:∀ l∈lvs,l.1<=20)(hw:∀ x∈ws,x.1.length<=7):∀{k:Nat}{a:List Pat},TEn ws lvs k a->∀ x∈a,1<=x.1.length/\x.1.length<=1000/\x.2.length<=x.1.length+1
 | 0,a,h1=>jcc_ hl h1
 | k+1,a,h1=>by
  obtain⟨a1,a2,p1,p3,rfl⟩:=h1
  intro x hx
  rcases pt_.mp hx with h | h
  ·exact xi_ hl hw p1 x h
  ·exact jcg_ p3 (by have:=x2_ hw;omega) x h
def jfn_:Sp:=fun vs H Q _=>∃(v u:V) (ws:List Pat) (lvs:List (Nat×Option Int)),vs=[v,u]/\Is H v (zc_ ws)/\Is H u (lvsD lvs)/\(∀ x∈ws,1<=x.1.length/\x.1.length<=7)/\(ws.length<=10/\gN ws<=12)/\(∀ l∈lvs,LvOk l)/\lvs.length<=20/\(lvs.length+2) * (gN ws * 81)<=9000 /\
 ∀(r:Addr) (zs:List V) (ps:List Pat) (H':Hp),H r=none->H' r=some (.lst zs)->L2.IsL H' zs (ps.map patD)->TEn ws lvs 2 ps->Same H H'->Q (.ref r) H'
section
variable {P:Program}{w:World}{K:pc_}{mg:Str->Option Value}{base:Heap}{f:Addr}{fd:FuncData}{tk:Nat->Tok}
theorem vv_ (T:Txt mg tk)(F:Fun K "taught_to_the_end" "taught_to_the_end" s_taught_to_the_end f fd)(D_taught:Dn P w K mg base "taught" 8 ["words","levels"] jcs_)(D_level:Dn P w K mg base "level" 7 ["words","patterns","number","most","cost"] yv_):FnOk P w K mg base CX0 9 f fd ["words","levels"] jfn_:=by
 refine F.ok sc_taught_to_the_end (fun vs H Q E h=>?_) (fun cdv A outer s H vs Q E hr h=>?_)
 ·obtain⟨v,u,ws,lvs,rfl,_⟩:=h
  rfl
 obtain⟨v,u,ws,lvs,rfl,hv,hu,hws,hwl,hlv,hll,hlg,q⟩:=h
 have nd:=sc_taught_to_the_end.nd
 have hv0:=hv
 have hu0:=hu
 obtain⟨va,ys,rfl,hva,hys⟩:=yt_ hv
 simp only[Is,lvsD] at hu
 obtain⟨ua,ya,rfl,hua,hya⟩:=hu
 have hyl:=hya.length
 rw[pb_] at hyl
 have hysl:=hys.length
 rw[pb_] at hysl
 refine⟨_,(je_ (jm_ (i:=2) nd rfl (Or.inl rfl) (jn_ D_taught hr.mo_ rfl (ja_ (pv 0) (ja_ (pv 1) jc_))))
  (je_ (jm_ (i:=3) nd rfl (Or.inl rfl) (jk_ jt_ jf_ (jcf_ rfl rfl T.z_max (zo_ ["broken"] [none] rfl (by kernel_rfl) rfl (zb_ (K:=K) (pv 0)) (fun _ _ _ _=>(jj_ (i:=0) (show (["broken"]:List Str).Nodup by decide +kernel) rfl (Or.inl rfl) (Or.inr rfl))) (fun _ _ _ _=>z6_) (fun _ _ _ _=>(jo_ (zm_ (K:=K)) rfl T.z_len (by decide +kernel) (ja_ (jz_ (js_ (K:=K)) (pv 0) jf_ (fun _ _=>rfl)) jc_)))) jf_)))
  (je_ (jm_ (i:=4) nd rfl (Or.inl rfl) (jk_ jt_ (jk_ yo_ (jk_ jgg_ (jo_ (zm_ (K:=K)) rfl T.z_len (by decide +kernel) (ja_ (pv 1) jc_)) jf_) jf_) jf_))
  (je_ (j1_ pu_ rfl (zb_ (K:=K) (zx_ (ja_ (pv 4) (ja_ (jk_ jt_ (pv 4) jf_) jc_)))) (jj_ (i:=5) nd rfl (Or.inl rfl))
   (ji_ (zp_ (z2_ (K:=K) p9_ rj_ rk_ xc_ (pv 2) (ja_ (jn_ D_level hr.mo_ rfl (ja_ (pv 0) (ja_ (pv 2) (ja_ (pv 5) (ja_ (pv 3) (ja_ xx_ jc_)))))) jc_)))))
  (ji_ (j2_ (pv 2))))))),?_⟩
 rw[show L2.start ["words","levels","learnt","most","even","number"] [.ref va,.ref ua]=[some (.ref va),some (.ref ua),none,none,none,none] from rfl]
 walk_at "go"
 refine⟨.ref va,.ref ua,ws,lvs,rfl,hv0,hu0,hws,hwl,hlv,hll,p7_ (rr_ _ (by omega)) hlg,fun r z0 p0 H1 hr0 er hz0 htl s1=>?_⟩
 have eva:=s1 _ _ hva
 walk_at "go"
 refine jhd_ ?_
 walk_at "go"
 intro c0 hc0
 refine zr_ (K:=K) (xs:=ys) (fun j acc σ H'=>∃(v:Option V),σ=[v]/\acc=((ws.take j).map fun x=>(x.1.length:Int)).map V.int/\H' c0=some (.lst acc)/\Same H1 H')
  (fun j acc σ H' _ ⟨_,_,_,_,s3⟩=>SqL.of (s3 _ _ eva)) ⟨none,rfl,rfl,jb_,jd_ hc0 _⟩ (fun j acc σ H' ⟨_,_,e,e3,_⟩=>⟨e3,by rw[e,pb_,pb_,pw_];omega⟩) (szn (by omega)) ?_ ?_
 ·rintro j acc σ H2 hj ⟨v,rfl,rfl,e2,s2⟩
  have hjl:j < ws.length:=by omega
  obtain⟨x',d,hx1,hx2,hx3⟩:=IsL.get (IsL.same (s1.trans s2) hys) (i:=j) (by rw[pb_];exact hjl)
  rw[pf_,pa_ hjl] at hx2
  cases hx2
  have hgd:ys.getD j .non=x':=by rw[pd_,hx1];rfl
  rw[hgd]
  obtain⟨pa,nt,rfl,hpa,hnt⟩:=xk_ hx3
  have hxl:=(hws _ (ps_ hjl)).2
  walk_at "go"
  refine⟨e2,_,rfl,?_,jb_,fun b' o e=>?_⟩
  ·rw[p8_,pa_ hjl,ph_,ph_];rfl
  ·rw[jh_ (jg_ e hc0)];exact s2 b' o e
 rintro acc σ H2 ⟨v,rfl,rfl,e2,s2⟩
 rw[hysl,p0_] at e2
 have hml:=x2_ fun x hx=>(hws x hx).2
 have hmx:=fun m h=>jfh_ (ws:=ws) (m:=m) h
 have s02:=s1.trans s2
 have er2:=s2 _ _ er
 have hz2:=IsL.same s2 hz0
 have eua2:=s02 _ _ hua
 have hev:((ya.length:Int) / 2 * 2+2)=((lvs.length / 2 * 2+2:Nat):Int):=by rw[hyl];omega
 have hevb:lvs.length / 2 * 2+2<=22:=by omega
 have main:∀(m:Int),m=(yr_ ws:Int)->tSeq (tAsg (tOp fAdd (tOp fMul (tOp (fI CDiv fun i j=>V.int (i / j)) (tCB (fLen K) (ye_ (tVar 1) tNil)) (tC (V.int 2))) (tC (V.int 2))) (tC (V.int 2))) (jdi_ 4))
   (tSeq (tFor (iAny K (tTup (ye_ (tVar 4) (ye_ (tOp fAdd (tVar 4) (tC (V.int 1))) tNil)))) (jdi_ 5) (jsj_ (tBM K "list" jca_ (tVar 2) (ye_ (jfg_ yv_ [] E0 (ye_ (tVar 0) (ye_ (tVar 2) (ye_ (tVar 5) (ye_ (tVar 3) (ye_ (tC V.non) tNil)))))) tNil)))) (tRet (tVar 2)))
   { nx:=fun x H'=>Q V.non H',rt:=Q } [some (V.ref va),some (V.ref ua),some (V.ref r),some (V.int (2+m)),none,none] H2:=by
  intro m hm
  walk_at "go"
  rw[hev]
  walk_at "go"
  intro tp htp
  have stp:=jd_ htp (.tup [.int ((lvs.length / 2 * 2+2:Nat):Int),.int (((lvs.length / 2 * 2+2:Nat):Int)+1)])
  have etp:=jb_ (H:=H2) (a:=tp) (o:=.tup [.int ((lvs.length / 2 * 2+2:Nat):Int),.int (((lvs.length / 2 * 2+2:Nat):Int)+1)])
  generalize upd H2 tp (.tup [.int ((lvs.length / 2 * 2+2:Nat):Int),.int (((lvs.length / 2 * 2+2:Nat):Int)+1)])=H3 at stp etp ⊢
  have s03:=s02.trans stp
  have tpr:tp≠r:=fun z=>by rw[z,er2] at htp;cases htp
  walk_at "go"
  refine jmx_ (K:=K) (xs:=[.int ((lvs.length / 2 * 2+2:Nat):Int),.int (((lvs.length / 2 * 2+2:Nat):Int)+1)]) (fun i σ H'=>∃(v5:Option V) (zs:List V) (ps:List Pat),σ=[some (V.ref va),some (V.ref ua),some (V.ref r),some (V.int (2+m)),some (.int ((lvs.length / 2 * 2+2:Nat):Int)),v5]/\H' r=some (.lst zs)/\L2.IsL H' zs (ps.map patD)/\TEn ws lvs i ps/\Same H H'/\H' tp=some (.tup [.int ((lvs.length / 2 * 2+2:Nat):Int),.int (((lvs.length / 2 * 2+2:Nat):Int)+1)]))
   ⟨none,z0,p0,rfl,stp _ _ er2,IsL.same stp hz2,htl,s03,etp⟩ (fun i σ H' _ ⟨_,_,_,_,_,_,_,_,e⟩=>SqT.of e) ?_ ?_
  ·rintro i y σ Ha hy ⟨v5,zs,ps,rfl,era,hzs,hte,sa,etpa⟩
   have hi2:i < 2:=(pj_.mp hy).1
   have hyi:y=.int ((lvs.length / 2 * 2+2+i:Nat):Int):=by
    match i,hi2,hy with
    | 0,_,hy=>cases hy;rfl
    | 1,_,hy=>cases hy;congr 1
   subst hyi
   have hzl:=hzs.length
   rw[pb_] at hzl
   have hpl:=y8_ (fun x hx=>(hws x hx).2) hte
   have hpl2:(lvs.length+i+1) * (gN ws * 81)<=(lvs.length+2) * (gN ws * 81):=rr_ _ (by omega)
   rw[q3_] at hpl2
   have hmN:(2+m:Int)=((2+yr_ ws:Nat):Int):=by omega
   walk_at "go"
   rw[hmN]
   refine⟨.ref va,.ref r,ws,ps,((lvs.length / 2 * 2+2+i:Nat):Int),2+yr_ ws,none,rfl,Is.same sa hv0,by simp only[Is,zc_];exact⟨r,zs,rfl,era,hzs⟩,xi_ (fun l hl=>(hlv l hl).1) (fun x hx=>(hws x hx).2) hte,by omega,hws,hwl,by omega,by omega,by omega,by omega,(fun k e=>by cases e),fun r2 z2 p2 Hc hr2 er2' hz2' hl2 sc=>?_⟩
   have hte2:TEn ws lvs (i+1) (ps++p2):=⟨ps,p2,hte,hl2,rfl⟩
   have hpl3:=y8_ (fun x hx=>(hws x hx).2) hte2
   rw[pe_,<- Nat.add_assoc,q3_] at hpl3
   have hz2l:=hz2'.length
   rw[pb_] at hz2l
   have erc:=sc _ _ era
   walk_at "go"
   refine jba_ erc er2' (szn (by omega)) ?_
   walk_at "go"
   have k4:Tk Hc (upd Hc r (.lst (zs++z2))):=Tk.lst erc _
   refine⟨_,zs++z2,ps++p2,rfl,jb_,?_,hte2,fun b o e=>?_,?_⟩
   ·rw[ph_]
    exact IsL.append (IsL.tk k4 (jw_ _) (IsL.same sc hzs)) (IsL.tk k4 (jw_ _) hz2')
   ·rw[jh_ (jg_ e hr0)];exact sc _ _ (sa _ _ e)
   ·rw[jh_ tpr];exact sc _ _ etpa
  ·rintro σ Ha ⟨v5,zs,ps,rfl,era,hzs,hte,sa,etpa⟩
   walk_at "go"
   exact q r zs ps Ha hr0 era hzs hte sa
 walk_at "go"
 refine⟨c0,_,rfl,e2,fun h0=>?_,fun m h1 h2=>?_⟩
 ·refine jed_ (jy_ ?_)
  exact main 0 (hmx 0 (.inl ⟨h0,rfl⟩))
 ·refine jed_ (jy_ ?_)
  exact main m (hmx m (.inr ⟨h1,h2⟩))
end
noncomputable abbrev s_number_of:Stmt:=top 17
theorem sc_number_of:FnScope ["pattern"] ["pattern"] (jp_ s_number_of):=by walk_at "f"
noncomputable abbrev s_gaps_come_to:Stmt:=top 18
theorem sc_gaps_come_to:FnScope ["words","pattern","ahead","come","broken","word","begins","gaps"] ["words","pattern"] (jp_ s_gaps_come_to):=by walk_at "f"
noncomputable def numF (y:Pat):Int:=(y.2.filter fun v=>decide (0 < v)).headD 0
noncomputable def posF (y:Pat):Nat:=(y.2.takeWhile fun v=>decide (v=0)).length
theorem jkt_ {n:Int}(hn:0 < n)(p L:Nat):(one n p L).filter (fun v=>decide (0 < v))=[n]:=by
 unfold one
 rw[qd_,qd_]
 have h:∀ k:Nat,(pg_ k (0:Int)).filter (fun v=>decide (0 < v))=[]:=fun k=>by
  rw[rs_]
  intro a ha
  rw[(w4_.mp ha).2];decide
 rw[h,h,pz_,if_pos (decide_eq_true hn)];rfl
theorem jql_ {n:Int}(hn:n≠0)(L:Nat):∀ p:Nat,((pg_ p (0:Int)++[n]++pg_ (L - p) 0).takeWhile fun v=>decide (v=0)).length=p:=fun p=>by
 have h:∀(k:Nat) (r:List Int),((pg_ k (0:Int)++(n::r)).takeWhile fun v=>decide (v=0)).length=k:=fun k r=>by
  induction k with
  | zero=>simp[hn]
  | succ k ih=>rw[rt_,rz_,List.takeWhile_cons,if_pos (by decide),p3_,ih]
 rw[qw_]
 exact h p _
theorem y9_ {n:Int}(hn:0 < n){y:Pat}(h:Lr n y):numF y=n:=by
 obtain⟨p,_,_,e⟩:=h
 unfold numF
 rw[e,jkt_ hn];rfl
theorem jmt_ {n:Int}(hn:0 < n){y:Pat}(h:Lr n y):posF y<=y.1.length/\1<=y.1.length/\y.2=one n (posF y) y.1.length:=by
 obtain⟨p,h1,h2,e⟩:=h
 have hp:posF y=p:=by
  unfold posF
  rw[e]
  exact jql_ (by omega) _ p
 rw[hp]
 exact⟨h1,h2,e⟩
theorem jwf_ {n v:Int}{p L:Nat}(h:v∈one n p L):v=n∨v=0:=by
 unfold one at h
 rcases pt_.mp h with h | h
 ·rcases pt_.mp h with h | h
  ·exact .inr (w4_.mp h).2
  ·exact .inl (pv_.mp h)
 ·exact .inr (w4_.mp h).2
noncomputable def fitB (y x:Pat)(b:Nat):Bool:=decide (2<=b+posF y/\b+posF y<=x.1.length)
noncomputable def zn_ (y x:Pat):List (List Nat×Nat):=((jx_ y.1 (frame x.1)).filter (fitB y x)).map fun b=>(x.1,b+posF y - 1)
noncomputable def jl_ (ws:List Pat)(y:Pat):List (List Nat×Nat):=ws.flatMap (zn_ y)
noncomputable def sptD (s:List Nat×Nat):Dt:=gapD (s.1,(s.2:Int))
theorem zv_:∀ l:List (List Nat×Nat),zf_ (l.map sptD)=true
 | []=>rfl
 | x::l=>by
  rw[pr_]
  simp only[zf_,zv_ l,sv_];rfl
def jau_:Sp:=fun vs H Q _=>∃(v:V) (y:Pat) (n:Int),vs=[v]/\Is H v (patD y)/\0 < n/\Lr n y/\Q (.int n) H
def jra_:Sp:=fun vs H Q _=>∃(v u:V) (ws:List Pat) (y:Pat) (n:Int),vs=[v,u]/\Is H v (zc_ ws)/\Is H u (patD y)/\0 < n/\Lr n y/\y.1.length<=1000/\(∀ x∈ws,1<=x.1.length/\x.1.length<=20)/\ws.length<=10 /\
 ∀(r:Addr) (zs:List V) (H':Hp),H r=none->H' r=some (.lst zs)->L2.IsL H' zs ((jl_ ws y).map sptD)->Same H H'->Q (.ref r) H'
theorem jmc_ (y x:Pat):(zn_ y x).length<=x.1.length+2:=by
 unfold zn_
 rw[pb_]
 have:=v9_ y.1 (frame x.1)
 rw[jq_] at this
 exact p7_ (qf_ _ _) this
theorem jbn_ {ws:List Pat}(y:Pat):(∀ x∈ws,x.1.length<=20)->(jl_ ws y).length<=ws.length * 22:=by
 induction ws with
 | nil=>intro _;simp[jl_]
 | cons x ws ih =>
  intro h
  have ih:=ih fun z hz=>h z (pl_ _ hz)
  have h1:=jmc_ y x
  have h2:=h x pn_
  unfold jl_ at ih ⊢
  rw[qi_,pe_,p3_,q3_];omega
section
variable {P:Program}{w:World}{K:pc_}{mg:Str->Option Value}{base:Heap}{f:Addr}{fd:FuncData}{tk:Nat->Tok}
theorem jgx_ (T:Txt mg tk)(F:Fun K "number_of" "number_of" s_number_of f fd):FnOk P w K mg base CX0 1 f fd ["pattern"] jau_:=by
 refine F.ok sc_number_of (fun vs H Q E h=>?_) (fun cdv A outer s H vs Q E hr h=>?_)
 ·obtain⟨v,y,n,rfl,_⟩:=h
  rfl
 obtain⟨v,y,n,rfl,hv,hn,hl,q⟩:=h
 have nd:=sc_number_of.nd
 obtain⟨a,t,rfl,ha,ht⟩:=xk_ hv
 obtain⟨p,hp1,hp2,hp3⟩:=hl
 rw[hp3] at ht
 refine⟨_,(ji_ (j2_ (jo_ (jyo_ rfl) rfl T.z_max (by decide +kernel) (ja_ (jz_ (js_ (K:=K)) (pv 0) jf_ (fun _ _=>rfl)) jc_)))),?_⟩
 rw[show L2.start ["pattern"] [.ref a]=[some (.ref a)] from rfl]
 walk_at "go"
 refine jyi_ ht (fun z=>by have:=congrArg tx_ z;rw[v7_ hp1] at this;cases this) fun m h1 h2=>?_
 have hm:m=n:=by
  have h3:=h2 n (by unfold one;simp)
  rcases jwf_ h1 with e | e <;> omega
 rw[hm]
 walk_at "go"
 exact q
theorem jbx_ (T:Txt mg tk)(F:Fun K "gaps_come_to" "gaps_come_to" s_gaps_come_to f fd)(D_number_of:Dn P w K mg base "number_of" 1 ["pattern"] jau_)(D_fitting_places:Dn P w K mg base "fitting_places" 1 ["signs","framed"] jmy_):FnOk P w K mg base CX0 2 f fd ["words","pattern"] jra_:=by
 refine F.ok sc_gaps_come_to (fun vs H Q E h=>?_) (fun cdv A outer s H vs Q E hr h=>?_)
 ·obtain⟨v,u,ws,y,n,rfl,_⟩:=h
  rfl
 obtain⟨v,u,ws,y,n,rfl,hv,hu,hn,hlr,hyl,hws,hwl,q⟩:=h
 have nd:=sc_gaps_come_to.nd
 have hu0:=hu
 obtain⟨va,ys,rfl,hva,hys⟩:=yt_ hv
 obtain⟨ya,yt,rfl,hya,hyt⟩:=xk_ hu
 have hysl:=hys.length
 rw[pb_] at hysl
 obtain⟨hp1,hp2,hp3⟩:=jmt_ hn hlr
 rw[hp3] at hyt
 refine⟨_,(je_ (jm_ (i:=2) nd rfl (Or.inr rfl) (jzh_ PySem.F.plainAttrs_tuple PySem.F.slot_tuple_index PySem.F.type_tuple_index jtn_ (jz_ (js_ (K:=K)) (pv 1) jf_ (fun _ _=>rfl)) (ja_ (jn_ D_number_of hr.mo_ rfl (ja_ (pv 1) jc_)) jc_)))
  (je_ (jm_ (i:=3) nd rfl (Or.inl rfl) (j6_ jc_))
  (je_ (j1_ pu_ rfl (zb_ (K:=K) (pv 0)) (jj_ (i:=4) nd rfl (Or.inl rfl))
   (je_ (jm_ (i:=5) nd rfl (Or.inr rfl) (jz_ (js_ (K:=K)) (pv 4) jf_ (fun _ _=>rfl)))
  (je_ (jm_ (i:=6) nd rfl (Or.inl rfl) (jn_ D_fitting_places hr.mo_ rfl (ja_ (jz_ (js_ (K:=K)) (pv 1) jf_ (fun _ _=>rfl)) (ja_ (jk_ jt_ (jk_ jt_ y5_ (pv 5)) y5_) jc_))))
  (je_ (jci_ (i:=7) ["ahead","begin"] [some 2,none] rfl (by kernel_rfl) rfl nd rfl rfl (zb_ (K:=K) (pv 6)) (fun _ _ _ _=>(jj_ (i:=1) (show (["ahead","begin"]:List Str).Nodup by decide +kernel) rfl (Or.inl rfl) (Or.inr rfl))) (fun _ _ _ _=>z6_) (fun _ _ _ _=>(jk_ xr_ (jk_ jt_ (pv 1) (pv 0)) jf_)))
  (ji_ (zp_ (z2_ (K:=K) p9_ rj_ rk_ xc_ (pv 3) (ja_ (zo_ ["word","gap"] [some 5,none] rfl (by kernel_rfl) rfl (zb_ (K:=K) (pv 7)) (fun _ _ _ _=>(jj_ (i:=1) (show (["word","gap"]:List Str).Nodup by decide +kernel) rfl (Or.inl rfl) (Or.inr rfl))) (fun _ _ _ _=>(xu_ (jjp_ o_lt o_lt jf_ (pv 1) (jo_ (zm_ (K:=K)) rfl T.z_len (by decide +kernel) (ja_ (pv 0) jc_))))) (fun _ _ _ _=>(zx_ (ja_ (pv 0) (ja_ (pv 1) jc_))))) jc_))))))))
  (ji_ (j2_ (pv 3)))))),?_⟩
 rw[show L2.start ["words","pattern","ahead","come","broken","word","begins","gaps"] [.ref va,.ref ya]=[some (.ref va),some (.ref ya),none,none,none,none,none,none] from rfl]
 walk_at "go"
 refine i_bmt ?_
 walk_at "go"
 refine⟨⟨yt,_,rfl,hyt⟩,?_⟩
 walk_at "go"
 refine⟨.ref ya,y,n,rfl,hu0,hn,hlr,?_⟩
 walk_at "go"
 refine jss_ (j:=posF y) hyt (by rw[v5_ hp1 hp1,if_pos rfl]) (fun i hi z=>by rw[v5_ hp1 (by omega),if_neg (by omega)] at z;injection z with z;omega) ?_
 walk_at "go"
 intro r hr0
 have s1:=jd_ hr0 (.lst [])
 have er1:=jb_ (H:=H) (a:=r) (o:=.lst [])
 generalize upd H r (.lst [])=H1 at s1 er1 ⊢
 have eva:=s1 _ _ hva
 walk_at "go"
 refine zh_ (K:=K) (xs:=ys) (fun i σ H'=>∃(v4 v5 v6 v7:Option V) (zs:List V),σ=[some (.ref va),some (.ref ya),some (.int (posF y:Int)),some (.ref r),v4,v5,v6,v7]/\H' r=some (.lst zs)/\L2.IsL H' zs ((jl_ (ws.take i) y).map sptD)/\Same H H')
  ⟨none,none,none,none,[],rfl,er1,(by simp[jl_,L2.IsL]),s1⟩ (fun i σ H' _ ⟨_,_,_,_,_,_,_,_,s⟩=>SqL.of (s _ _ hva)) ?_ ?_
 ·rintro i x0 σ Ha hx0 ⟨v4,v5,v6,v7,zs,rfl,era,hzs,sa⟩
  have hi:i < ws.length:=by have:=(pj_.mp hx0).1;omega
  obtain⟨x',d,hx1,hx2,hx3⟩:=IsL.get (IsL.same sa hys) (i:=i) (by rw[pb_];exact hi)
  rw[hx0] at hx1
  cases hx1
  rw[pf_,pa_ hi] at hx2
  cases hx2
  obtain⟨pa,nt,rfl,hpa,hnt⟩:=xk_ hx3
  obtain⟨hw1,hw2⟩:=hws _ (ps_ hi)
  have htk:jl_ (ws.take (i+1)) y=jl_ (ws.take i) y++zn_ y ws[i]:=by unfold jl_;rw[p8_,pa_ hi,ra_];simp
  rw[htk]
  have hsl:=jbn_ (ws:=ws.take i) y fun x hx=>(hws x (qu_ hx)).2
  rw[pw_] at hsl
  have hzl:=hzs.length
  rw[pb_] at hzl
  clear htk
  generalize ws[i]=x at *
  have eya:=sa _ _ hya
  have hfl:=jq_ x.1
  walk_at "go"
  rw[jjn_]
  walk_at "go"
  rw[vs_]
  refine⟨y.1,frame x.1,rfl,by omega,by omega,fun rb Hb hrb erb sb=>?_⟩
  have hpl:=v9_ y.1 (frame x.1)
  walk_at "go"
  intro rg hrg
  refine zr_ (K:=K) (xs:=(jx_ y.1 (frame x.1)).map fun k:Nat=>V.int (k:Int)) (fun j acc σ H'=>∃(v:Option V),σ=[some (.int (posF y:Int)),v]/\acc=(((jx_ y.1 (frame x.1)).take j).map fun b:Nat=>(b:Int)+(posF y:Int) - 1).map V.int/\H' rg=some (.lst acc)/\Same Hb H')
   (fun j acc σ H' _ ⟨_,_,_,_,s3⟩=>SqL.of (s3 _ _ erb)) ⟨none,rfl,rfl,jb_,jd_ hrg _⟩ (fun j acc σ H' ⟨_,_,e,e3,_⟩=>⟨e3,by rw[e,pb_,pb_,pw_];omega⟩) (szn (by rw[pb_];omega)) ?_ ?_
  ·rintro j acc σ Hc hj ⟨v,rfl,rfl,ec,sc⟩
   have hj':j < (jx_ y.1 (frame x.1)).length:=by simpa using hj
   have hgd:((jx_ y.1 (frame x.1)).map fun k:Nat=>V.int (k:Int)).getD j .non=V.int ((jx_ y.1 (frame x.1))[j]:Int):=by
    rw[pd_,pf_,pa_ hj'];rfl
   rw[hgd]
   walk_at "go"
   refine⟨ec,_,rfl,?_,jb_,fun b' o e=>?_⟩
   ·rw[p8_,pa_ hj',ph_,ph_];rfl
   ·rw[jh_ (jg_ e hrg)];exact sc _ _ e
  rintro acc σ Hc ⟨v,rfl,rfl,ec,sc⟩
  rw[pb_,p0_] at ec
  have sac:=(sa.trans sb).trans sc
  have erc:=(sb.trans sc) _ _ era
  walk_at "go"
  intro rs hrs
  have rsr:rs≠r:=fun z=>by rw[z,erc] at hrs;cases hrs
  refine zr_ (K:=K) (xs:=((jx_ y.1 (frame x.1)).map fun b:Nat=>(b:Int)+(posF y:Int) - 1).map V.int) (fun j acc σ H'=>∃(v:Option V),σ=[some (.str (S x.1)),v]/\acc.length<=j/\H' rs=some (.lst acc)/\L2.IsL H' acc (((((jx_ y.1 (frame x.1)).take j).filter (fitB y x)).map fun b=>(x.1,b+posF y - 1)).map sptD)/\Same Hc H')
   (fun j acc σ H' _ ⟨_,_,_,_,_,s3⟩=>SqL.of (s3 _ _ ec)) ⟨none,rfl,pm_ _,jb_,(by simp[L2.IsL]),jd_ hrs _⟩ (fun j acc σ H' ⟨_,_,e,e3,_⟩=>⟨e3,e⟩) (szn (by rw[pb_,pb_];omega)) ?_ ?_
  ·rintro j acc σ Hd hj ⟨v,rfl,hal,ed,hacc,sd⟩
   have hj':j < (jx_ y.1 (frame x.1)).length:=by simpa using hj
   have hgd:(((jx_ y.1 (frame x.1)).map fun b:Nat=>(b:Int)+(posF y:Int) - 1).map V.int).getD j .non=V.int (((jx_ y.1 (frame x.1))[j]:Int)+(posF y:Int) - 1):=by
    rw[pd_,pf_,pf_,pa_ hj'];rfl
   rw[hgd,p8_,pa_ hj',qd_,ph_,ph_]
   generalize (jx_ y.1 (frame x.1))[j]=b at *
   have hfb:fitB y x b=decide (2<=b+posF y/\b+posF y<=x.1.length):=rfl
   walk_at "go"
   by_cases h2:2<=b+posF y
   ·refine yl_ (decide_eq_true (by omega)) ?_
    walk_at "go"
    by_cases h3:b+posF y<=x.1.length
    ·have hd1:decide ((b:Int)+(posF y:Int) - 1 < (x.1.length:Int))=true:=decide_eq_true (by omega)
     try rw[hd1]
     try refine⟨true,rfl,?_⟩
     walk_at "go"
     intro tp htp
     have stp:=jd_ htp (.tup [.str (S x.1),.int ((b:Int)+(posF y:Int) - 1)])
     have etp:=jb_ (H:=Hd) (a:=tp) (o:=.tup [.str (S x.1),.int ((b:Int)+(posF y:Int) - 1)])
     generalize upd Hd tp (.tup [.str (S x.1),.int ((b:Int)+(posF y:Int) - 1)])=He at stp etp ⊢
     have ede:=stp _ _ ed
     walk_at "go"
     have k4:Tk He (upd He rs (.lst (acc++[.ref tp]))):=Tk.lst ede _
     have hf:fitB y x b=true:=by rw[hfb];exact decide_eq_true ⟨h2,h3⟩
     refine⟨ede,_,rfl,by rw[pe_];show _+1<=_;omega,jb_,?_,fun b' o e=>?_⟩
     ·refine IsL.append (IsL.tk k4 (zv_ _) (IsL.same stp hacc)) ?_
      simp only[r0_,pz_,hf,if_true,qn_,pr_,qs_,L2.IsL]
      refine⟨jqp_ (x:=(x.1,((b+posF y - 1:Nat):Int))) ?_,trivial⟩
      rw[k4 _ _ etp]
      have hbi:(b:Int)+(posF y:Int) - 1=((b+posF y - 1:Nat):Int):=by omega
      rw[hbi]
     ·rw[jh_ (jg_ e hrs)];exact stp _ _ (sd _ _ e)
    ·have hd1:decide ((b:Int)+(posF y:Int) - 1 < (x.1.length:Int))=false:=decide_eq_false (by omega)
     try rw[hd1]
     try refine⟨false,rfl,?_⟩
     walk_at "go"
     have hf:fitB y x b=false:=by rw[hfb];exact decide_eq_false (fun z=>h3 z.2)
     refine⟨_,rfl,by omega,ed,?_,sd⟩
     simp only[r0_,pz_,hf,qn_,qs_,qk_]
     simpa using hacc
   ·refine yp_ (decide_eq_false (by omega)) ?_
    walk_at "go"
    have hf:fitB y x b=false:=by rw[hfb];exact decide_eq_false (fun z=>h2 z.1)
    refine⟨_,rfl,by omega,ed,?_,sd⟩
    simp only[r0_,pz_,hf,qn_,qs_,qk_]
    simpa using hacc
  rintro acc σ Hd ⟨v,rfl,hal,ed,hacc,sd⟩
  rw[pb_,pb_] at hal
  rw[pb_,pb_,p0_] at hacc
  have erd:=sd _ _ erc
  walk_at "go"
  refine jba_ erd ed (szn (by omega)) ?_
  walk_at "go"
  have k4:Tk Hd (upd Hd r (.lst (zs++acc))):=Tk.lst erd _
  refine⟨_,_,_,_,zs++acc,rfl,jb_,?_,fun b o e=>?_⟩
  ·rw[ph_]
   exact IsL.append (IsL.tk k4 (zv_ _) (IsL.same ((sb.trans sc).trans sd) hzs)) (IsL.tk k4 (zv_ _) hacc)
  ·rw[jh_ (jg_ e hr0)];exact sd _ _ (sac _ _ e)
 ·rintro σ Ha ⟨v4,v5,v6,v7,zs,rfl,era,hzs,sa⟩
  rw[hysl,p0_] at hzs
  walk_at "go"
  exact q r zs Ha hr0 era hzs sa
end
noncomputable abbrev Spt:=List Nat×Nat
noncomputable def yj_ (ws:List Pat)(s:Spt):Bool:=ws.any fun x=>decide (x.1=s.1/\(s.2:Int)∈x.2)
noncomputable def hitS (ws:List Pat)(y:Pat)(s:Spt):Bool:=decide (s∈jl_ ws y)
noncomputable def ju_ (ws S:List Pat)(s:Spt):List Int:=(S.filter fun y=>hitS ws y s).map numF
noncomputable def mxL (l:List Int):Int:=l.foldr max 0
theorem jdr_:∀{l:List Int}{n:Int},n∈l->n<=mxL l
 | a::l,n,h=>by
  have e:mxL (a::l)=max a (mxL l):=rfl
  rcases p6_.mp h with z | z
  ·rw[e,z];omega
  ·have:=jdr_ z;rw[e];omega
theorem jdy_ {c:Int}(hc:0<=c):∀{l:List Int},(∀ n∈l,n<=c)->mxL l<=c
 | [],_=>hc
 | a::l,h=>by
  have e:mxL (a::l)=max a (mxL l):=rfl
  have h1:=jdy_ hc fun n hn=>h n (pl_ _ hn)
  have h2:=h a pn_
  rw[e];omega
theorem jac_:∀ l:List Int,0<=mxL l
 | []=>s3_ _
 | a::l=>by
  have e:mxL (a::l)=max a (mxL l):=rfl
  have:=jac_ l
  rw[e];omega
theorem jro_ {l:List Int}{m:Int}(h0:∀ n∈l,0<=n)(h1:m∈l)(h2:∀ n∈l,n<=m):m=mxL l :=
 tq_ (jdr_ h1) (jdy_ (h0 m h1) h2)
theorem jgs_ {l k:List Int}(h:∀ n,n∈l↔n∈k):mxL l=mxL k :=
 tq_ (jdy_ (jac_ k) fun n hn=>jdr_ ((h n).mp hn)) (jdy_ (jac_ l) fun n hn=>jdr_ ((h n).mpr hn))
noncomputable def zw_ (ws S:List Pat)(y:Pat)(s:Spt):Bool:=decide (mxL ((ju_ ws S s).erase (numF y)) % 2=1) != yj_ ws s
noncomputable def zq_ (ws S:List Pat)(y:Pat):Option (List Nat):=((jl_ ws y).find? (zw_ ws S y)).map (·.1)
noncomputable def yg_ (ws:List Pat):List Pat->List Pat->List Pat
 | [],S=>S
 | y::r,S=>yg_ ws r (if zq_ ws S y=none then S.erase y else S)
theorem u6_ {ws S:List Pat}{y:Pat}(hy:y∈S){s:Spt}(hs:hitS ws y s=true):((ju_ ws S s).erase (numF y)).Perm (ju_ ws (S.erase y) s):=by
 have h1:S.Perm (y::S.erase y):=wi_ hy
 have h2:(ju_ ws S s).Perm (numF y::ju_ ws (S.erase y) s):=by
  unfold ju_
  have h3:=(h1.filter fun y=>hitS ws y s).map numF
  rw[pz_,if_pos hs,pr_] at h3
  exact h3
 have h4:=h2.erase (numF y)
 rw[lp_] at h4
 exact h4
theorem jbt_ {ws S:List Pat}{y:Pat}{s:Spt}(hs:hitS ws y s=false):(ju_ ws (S.erase y) s).Perm (ju_ ws S s):=by
 by_cases hy:y∈S
 ·have h1:S.Perm (y::S.erase y):=wi_ hy
  unfold ju_
  have h3:=(h1.filter fun y=>hitS ws y s).map numF
  rw[pz_,if_neg (by rw[hs];exact pk_)] at h3
  exact h3.symm
 ·rw[List.erase_of_not_mem hy]
def AsS (ws S:List Pat):Prop:=∀ x∈ws,∀ j,j < x.1.length - 1->decide (mxL (ju_ ws S (x.1,j+1)) % 2=1)=yj_ ws (x.1,j+1)
noncomputable def xl_ (ws T:List Pat):Option (List Nat):=(ws.find? fun x=>(po_ (x.1.length - 1)).any fun j=>decide (mxL (ju_ ws T (x.1,j+1)) % 2=1) != yj_ ws (x.1,j+1)).map (·.1)
theorem xt_ {ws:List Pat}{y:Pat}{s:Spt}(h:s∈jl_ ws y):∃ x∈ws,s.1=x.1/\1<=s.2/\s.2+1<=x.1.length/\s∈zn_ y x:=by
 obtain⟨x,hx,h⟩:=qa_.mp h
 have h0:=h
 unfold zn_ at h
 obtain⟨b,hb,rfl⟩:=pq_.mp h
 have h2:=(py_.mp hb).2
 unfold fitB at h2
 have h2:=of_decide_eq_true h2
 exact⟨x,hx,rfl,by dsimp only;omega,by dsimp only;omega,h0⟩
theorem jew_ {α β:Type}(f:α->List β)(p:β->Bool):∀ l:List α,(l.flatMap f).find? p=l.findSome? fun x=>(f x).find? p
 | []=>rfl
 | a::l=>by
  rw[qi_,t1_,jew_ f p l,List.findSome?_cons]
  cases (f a).find? p <;> rfl
theorem jcn_ {ws S:List Pat}(hnd:(ws.map (·.1)).Nodup)(ha:AsS ws S){y:Pat}(hy:y∈S):zq_ ws S y=xl_ ws (S.erase y):=by
 have key:∀ x∈ws,((zn_ y x).find? (zw_ ws S y)).map (·.1)=if ((po_ (x.1.length - 1)).any fun j=>decide (mxL (ju_ ws (S.erase y) (x.1,j+1)) % 2=1) != yj_ ws (x.1,j+1))=true then some x.1 else none:=fun x hx=>by
  have hw:∀ s:Spt,s∈zn_ y x->s.1=x.1:=fun s hs=>by
   unfold zn_ at hs
   obtain⟨b,_,rfl⟩:=pq_.mp hs
   rfl
  have hwr:∀ s:Spt,s∈zn_ y x->zw_ ws S y s=(decide (mxL (ju_ ws (S.erase y) s) % 2=1) != yj_ ws s):=fun s hs=>by
   have hh:hitS ws y s=true:=decide_eq_true (qa_.mpr ⟨x,hx,hs⟩)
   unfold zw_
   rw[jgs_ fun n=>(u6_ hy hh).mem_iff]
  by_cases hb:((po_ (x.1.length - 1)).any fun j=>decide (mxL (ju_ ws (S.erase y) (x.1,j+1)) % 2=1) != yj_ ws (x.1,j+1))=true
  ·rw[if_pos hb]
   obtain⟨j,hj,hw2⟩:=q4_.mp hb
   have hj:=p5_.mp hj
   have hin:((x.1,j+1):Spt)∈zn_ y x:=by
    apply sl_
    intro hn
    have hno:hitS ws y (x.1,j+1)=false:=decide_eq_false fun z=>by
     obtain⟨x',hx',e1,_,_,hs⟩:=xt_ z
     have:x'=x:=y2_ hnd hx' hx e1.symm
     rw[this] at hs
     exact hn hs
    rw[jgs_ fun n=>(jbt_ (S:=S) hno).mem_iff,ha x hx j hj] at hw2
    simp at hw2
   cases hf:(zn_ y x).find? (zw_ ws S y) with
   | none =>
    have:=q6_.mp hf _ hin
    rw[hwr _ hin] at this
    exact absurd hw2 this
   | some s =>
    rw[r6_,hw s (kc_ hf)]
  ·rw[if_neg hb]
   have:(zn_ y x).find? (zw_ ws S y)=none:=q6_.mpr fun s hs z=>hb (by
    obtain⟨x',hx',e1,h1,h2,_⟩:=xt_ (qa_.mpr ⟨x,hx,hs⟩)
    have e2:=hw s hs
    have hl:x'.1=x.1:=by rw[<- e1,e2]
    rw[hl] at h2
    refine q4_.mpr ⟨s.2 - 1,p5_.mpr (by omega),?_⟩
    rw[show ((x.1,s.2 - 1+1):Spt)=s from Prod.ext e2.symm (by dsimp only;omega),<- hwr s hs]
    exact z)
   rw[this];rfl
 unfold zq_ xl_ jl_
 rw[jew_]
 have go:∀ l:List Pat,(∀ x∈l,x∈ws)->(l.findSome? fun x=>(zn_ y x).find? (zw_ ws S y)).map (·.1)=(l.find? fun x=>(po_ (x.1.length - 1)).any fun j=>decide (mxL (ju_ ws (S.erase y) (x.1,j+1)) % 2=1) != yj_ ws (x.1,j+1)).map (·.1):=fun l=>by
  induction l with
  | nil=>intro _;rfl
  | cons x l ih =>
   intro h
   have ih:=ih fun z hz=>h z (pl_ _ hz)
   have hk:=key x (h x pn_)
   rw[List.findSome?_cons,rp_]
   by_cases hb:((po_ (x.1.length - 1)).any fun j=>decide (mxL (ju_ ws (S.erase y) (x.1,j+1)) % 2=1) != yj_ ws (x.1,j+1))=true
   ·rw[if_pos hb] at hk
    rw[hb]
    cases hf:(zn_ y x).find? (zw_ ws S y) with
    | none=>rw[hf] at hk;cases hk
    | some s=>rw[hf] at hk;exact hk
   ·rw[if_neg hb] at hk
    have hb':((po_ (x.1.length - 1)).any fun j=>decide (mxL (ju_ ws (S.erase y) (x.1,j+1)) % 2=1) != yj_ ws (x.1,j+1))=false:=by simpa using hb
    rw[hb']
    cases hf:(zn_ y x).find? (zw_ ws S y) with
    | none=>exact ih
    | some s=>rw[hf] at hk;cases hk
 exact go ws fun _ h=>h
theorem first_none {ws T:List Pat}:xl_ ws T=none↔AsS ws T:=by
 unfold xl_ AsS
 rw[k5_,q6_]
 constructor
 ·intro h x hx j hj
  have:=h x hx
  rw[q4_] at this
  apply sl_
  intro z
  exact this ⟨j,p5_.mpr hj,by simpa using z⟩
 ·intro h x hx z
  obtain⟨j,hj,z⟩:=q4_.mp z
  rw[h x hx j (p5_.mp hj)] at z
  simp at z
structure Ow (K:pc_)(mg:Str->Option Value)(cO:Addr):Prop where
 m_Stand:mg "Stand"=some (.ref cO)
 cl:Cls K cO
 n_told_gaps:NoAttr K cO "told_gaps"
 n_spots:NoAttr K cO "spots"
 n_numbers:NoAttr K cO "numbers"
noncomputable abbrev s_Stand_init:Stmt:=jgp_ (top 19) 0
theorem sc_Stand_init:FnScope ["self","words","patterns","word","gaps","gap","pattern","come","spot"] ["self","words","patterns"] (jp_ s_Stand_init):=by walk_at "f"
noncomputable abbrev s_Stand_word_wanting:Stmt:=jgp_ (top 19) 1
theorem sc_Stand_word_wanting:FnScope ["self","pattern","spot","others","breaks_without"] ["self","pattern"] (jp_ s_Stand_word_wanting):=by walk_at "f"
noncomputable abbrev s_Stand_leave_out:Stmt:=jgp_ (top 19) 2
theorem sc_Stand_leave_out:FnScope ["self","pattern","spot"] ["self","pattern"] (jp_ s_Stand_leave_out):=by walk_at "f"
noncomputable def gapL (ws:List Pat):List Spt:=ws.flatMap fun x=>x.2.map fun g=>(x.1,g.toNat)
theorem jnv_ {ws:List Pat}(hg:∀ x∈ws,∀ g∈x.2,∃ k:Nat,g=(k:Int))(s:Spt):yj_ ws s=decide (s∈gapL ws):=by
 unfold yj_ gapL
 rw[r5_,q4_,decide_eq_true_eq,qa_]
 constructor
 ·rintro⟨x,hx,h⟩
  obtain⟨h1,h2⟩:=of_decide_eq_true h
  exact⟨x,hx,pq_.mpr ⟨_,h2,Prod.ext h1 (by simp)⟩⟩
 ·rintro⟨x,hx,h⟩
  obtain⟨g,hgx,rfl⟩:=pq_.mp h
  obtain⟨k,rfl⟩:=hg x hx g hgx
  exact⟨x,hx,decide_eq_true ⟨rfl,by simpa using hgx⟩⟩
structure TGd (P:Program)(w:World)(H:Hp)(tg:Addr)(l:List Spt):Prop where
 ex:∃ kt:List (VKey×Addr×V),H tg=some (DX viewKind P w tg kt)/\KO viewKind H kt/\(∀ s:Spt,(valX kt (vk s.1 s.2)).isSome=decide (s∈l))/\kt.length<=l.length
theorem TGd.tk {P:Program}{w:World}{H H':Hp}{tg:Addr}{l:List Spt}(h:TGd P w H tg l)(e:∀ o,H tg=some o->H' tg=some o)(s:∀ b xs,H b=some (.tup xs)->H' b=some (.tup xs)):TGd P w H' tg l:=by
 obtain⟨kt,h1,h2,h3,h4⟩:=h.ex
 exact⟨kt,e _ h1,fun x hx=>s _ _ (h2 x hx),h3,h4⟩
structure SPd (P:Program)(w:World)(H:Hp)(sp:Addr)(ws ps:List Pat)(bad:Addr->Prop):Prop where
 ex:∃ ks:List (PKey×Addr×V),H sp=some (DX patKind P w sp ks)/\KO patKind H ks/\ks.length<=ps.length/\∀ y∈ps,∃ r zs,valX ks (pk y)=some (.ref r)/\H r=some (.lst zs)/\L2.IsL H zs ((jl_ ws y).map sptD)/\¬ bad r
theorem SPd.mono {P:Program}{w:World}{H H':Hp}{sp:Addr}{ws ps:List Pat}{bad bad':Addr->Prop}(h:SPd P w H sp ws ps bad)(e:∀ o,H sp=some o->H' sp=some o)(t:∀ b xs,H b=some (.tup xs)->H' b=some (.tup xs))(l:∀ r zs,H r=some (.lst zs)->¬ bad r->H' r=some (.lst zs)/\¬ bad' r):SPd P w H' sp ws ps bad':=by
 obtain⟨ks,h1,h2,h3,h4⟩:=h.ex
 refine⟨ks,e _ h1,fun x hx=>y7_ t (h2 x hx),h3,fun y hy=>?_⟩
 obtain⟨r,zs,q1,q2,q3,q4⟩:=h4 y hy
 obtain⟨l1,l2⟩:=l r zs q2 q4
 exact⟨r,zs,q1,l1,IsL.tk t (zv_ _) q3,l2⟩
structure NUd (P:Program)(w:World)(H:Hp)(nu:Addr)(adr:Spt->Addr)(us:Spt->Prop)(fn:Spt->List Int)(m:Nat):Prop where
 ex:∃ kn:List (VKey×Addr×V),H nu=some (DX viewKind P w nu kn)/\KO viewKind H kn/\kn.length<=m/\∀ s:Spt,(us s->valX kn (vk s.1 s.2)=some (.ref (adr s)))/\(¬ us s->valX kn (vk s.1 s.2)=none)
 lst:∀ s,us s->∃ ns:List Int,H (adr s)=some (.lst (ns.map V.int))/\ns.Perm (fn s)
 inj:∀ s s',us s->us s'->adr s=adr s'->s=s'
theorem NUd.mono {P:Program}{w:World}{H H':Hp}{nu:Addr}{adr:Spt->Addr}{us:Spt->Prop}{fn:Spt->List Int}{m:Nat}(h:NUd P w H nu adr us fn m)(e:∀ o,H nu=some o->H' nu=some o)(t:∀ b xs,H b=some (.tup xs)->H' b=some (.tup xs))(l:∀ s o,us s->H (adr s)=some o->H' (adr s)=some o):NUd P w H' nu adr us fn m:=by
 obtain⟨kn,h1,h2,h3,h4⟩:=h.ex
 exact⟨⟨kn,e _ h1,fun x hx=>t _ _ (h2 x hx),h3,h4⟩,fun s hs=>by obtain⟨ns,q1,q2⟩:=h.lst s hs;exact⟨ns,l s _ hs q1,q2⟩,h.inj⟩
theorem NUd.ne {P:Program}{w:World}{H:Hp}{nu:Addr}{adr:Spt->Addr}{us:Spt->Prop}{fn:Spt->List Int}{m:Nat}(h:NUd P w H nu adr us fn m){s:Spt}(hs:us s):adr s≠nu:=fun z=>by
 obtain⟨kn,h1,_⟩:=h.ex
 obtain⟨ns,q1,_⟩:=h.lst s hs
 rw[z,h1] at q1;cases q1
theorem NUd.old {P:Program}{w:World}{H:Hp}{nu:Addr}{adr:Spt->Addr}{us:Spt->Prop}{fn:Spt->List Int}{m:Nat}(h:NUd P w H nu adr us fn m){s:Spt}(hs:us s){ns:List Int}(hns:H (adr s)=some (.lst (ns.map V.int))){ms k:List Int}(hp:ms.Perm k) :
  NUd P w (upd H (adr s) (.lst (ms.map V.int))) nu adr us (fun s'=>if s'=s then k else fn s') m:=by
 obtain⟨kn,h1,h2,h3,h4⟩:=h.ex
 have tk:∀ b xs,H b=some (.tup xs)->(upd H (adr s) (.lst (ms.map V.int))) b=some (.tup xs):=fun b xs e=>by rw[jh_ fun z=>by rw[z,hns] at e;cases e];exact e
 refine⟨⟨kn,(jh_ (h.ne hs).symm).trans h1,fun x hx=>tk _ _ (h2 x hx),h3,h4⟩,fun s' hs'=>?_,h.inj⟩
 by_cases e:s'=s
 ·subst e
  exact⟨ms,jb_,by rw[if_pos rfl];exact hp⟩
 ·obtain⟨n2,q1,q2⟩:=h.lst s' hs'
  exact⟨n2,by rw[jh_ fun z=>e (h.inj _ _ hs' hs z)];exact q1,by rw[if_neg e];exact q2⟩
theorem NUd.new {P:Program}{w:World}{H:Hp}{nu:Addr}{adr:Spt->Addr}{us:Spt->Prop}{fn:Spt->List Int}{m:Nat}(h:NUd P w H nu adr us fn m){s:Spt}(hs:¬ us s){kn:List (VKey×Addr×V)}(h1:H nu=some (DX viewKind P w nu kn))(h2:KO viewKind H kn)(h3:kn.length<=m)(h4:∀ s:Spt,(us s->valX kn (vk s.1 s.2)=some (.ref (adr s)))/\(¬ us s->valX kn (vk s.1 s.2)=none))
  {b z:Addr} (hb:H b=some (.tup [.str (S s.1),.int (s.2:Int)])) {zs:List V} (hz:H z=some (.lst zs)) (hza:∀ s',us s'->adr s'≠z) (n:Int) :
  NUd P w (upd (upd H nu (DX viewKind P w nu (putX kn (vk s.1 s.2) b (.ref z)))) z (.lst ([n].map V.int))) nu (fun s'=>if s'=s then z else adr s') (fun s'=>us s'∨s'=s) (fun s'=>if s'=s then [n] else fn s') (m+1):=by
 have znu:z≠nu:=fun e=>by rw[e,h1] at hz;cases hz
 have tk:∀ c xs,H c=some (.tup xs)->(upd (upd H nu (DX viewKind P w nu (putX kn (vk s.1 s.2) b (.ref z)))) z (.lst ([n].map V.int))) c=some (.tup xs):=fun c xs e=>by
  rw[jh_ (fun q=>by rw[q,hz] at e;cases e),jh_ (fun q=>by rw[q,h1] at e;cases e)];exact e
 refine⟨⟨_,(jh_ znu.symm).trans jb_,fun x hx=>?_,p7_ (zz_ ..) (by omega),fun s'=>⟨fun q=>?_,fun q=>?_⟩⟩,fun s' q=>?_,fun s1 s2 q1 q2 e=>?_⟩
 ·exact tk _ _ ((KO.put h2 (show viewKind.at_ H (vk s.1 s.2) b from hb)) x hx)
 ·rw[yf_]
  by_cases e:s'=s
  ·rw[if_pos (by rw[e]),if_pos e]
  ·rw[if_neg (fun k=>e (by obtain⟨k1,k2⟩:=xh_ k;exact Prod.ext k1 k2)),if_neg e]
   exact(h4 s').1 (q.resolve_right e)
 ·rw[yf_,if_neg (fun k=>q (.inr (by obtain⟨k1,k2⟩:=xh_ k;exact Prod.ext k1 k2)))]
  exact(h4 s').2 fun k=>q (.inl k)
 ·by_cases e:s'=s
  ·exact⟨[n],by simp only[if_pos e];exact jb_,by simp only[if_pos e];exact List.Perm.refl _⟩
  ·obtain⟨n2,q1,q2⟩:=h.lst s' (q.resolve_right e)
   refine⟨n2,?_,by simp only[if_neg e];exact q2⟩
   simp only[if_neg e]
   rw[jh_ (hza s' (q.resolve_right e)),jh_ (h.ne (q.resolve_right e))];exact q1
 ·by_cases e1:s1=s
  ·by_cases e2:s2=s
   ·rw[e1,e2]
   ·simp only[if_pos e1,if_neg e2] at e
    exact absurd e.symm (hza s2 (q2.resolve_right e2))
  ·by_cases e2:s2=s
   ·simp only[if_pos e2,if_neg e1] at e
    exact absurd e (hza s1 (q1.resolve_right e1))
   ·simp only[if_neg e2,if_neg e1] at e
    exact h.inj _ _ (q1.resolve_right e1) (q2.resolve_right e2) e
def j7_ (ws ps:List Pat)(s:Spt):Prop:=∃ y∈ps,s∈jl_ ws y
structure StA (P:Program)(w:World)(C:Addr)(H:Hp)(st tg sp nu:Addr)(adr:Spt->Addr)(ws ps S:List Pat):Prop where
 ins:∃ dx,H st=some (.ins C dx [(("told_gaps":Str),.ref tg),(("spots":Str),.ref sp),(("numbers":Str),.ref nu)])
 tg:TGd P w H tg (gapL ws)
 sp:SPd P w H sp ws ps (fun r=>∃ s,j7_ ws ps s/\r=adr s)
 nu:NUd P w H nu adr (j7_ ws ps) (ju_ ws S) 2000000
theorem TGd.add {P:Program}{w:World}{H:Hp}{tg:Addr}{l:List Spt}{kt:List (VKey×Addr×V)}(h1:H tg=some (DX viewKind P w tg kt))(h2:KO viewKind H kt)(h3:∀ s:Spt,(valX kt (vk s.1 s.2)).isSome=decide (s∈l))(h4:kt.length<=l.length){s:Spt}{b:Addr}(hb:H b=some (.tup [.str (S s.1),.int (s.2:Int)])):TGd P w (upd H tg (DX viewKind P w tg (putX kt (vk s.1 s.2) b (.bl true)))) tg (l++[s]):=by
 have tk:∀ c xs,H c=some (.tup xs)->(upd H tg (DX viewKind P w tg (putX kt (vk s.1 s.2) b (.bl true)))) c=some (.tup xs):=fun c xs e=>by rw[jh_ fun q=>by rw[q,h1] at e;cases e];exact e
 refine⟨_,jb_,fun x hx=>tk _ _ ((KO.put h2 (show viewKind.at_ H (vk s.1 s.2) b from hb)) x hx),fun s'=>?_,by rw[pe_];exact p7_ (zz_ ..) (by show _<=_+1;omega)⟩
 rw[yf_]
 by_cases e:s'=s
 ·rw[if_pos (by rw[e]),e];simp
 ·rw[if_neg (fun k=>e (by obtain⟨k1,k2⟩:=xh_ k;exact Prod.ext k1 k2)),h3]
  congr 1
  rw[pt_,pv_]
  exact propext ⟨fun q=>.inl q,fun q=>q.resolve_right e⟩
theorem jpr_ {ws:List Pat}{i:Nat}(hi:i < ws.length):gapL (ws.take (i+1))=gapL (ws.take i)++ws[i].2.map fun g=>(ws[i].1,g.toNat):=by
 unfold gapL
 rw[p8_,pa_ hi,ra_];simp
theorem jsl_ {ws:List Pat}(h:∀ x∈ws,x.2.length<=7):(gapL ws).length<=ws.length * 7:=by
 induction ws with
 | nil=>simp[gapL]
 | cons x ws ih =>
  have ih:=ih fun z hz=>h z (pl_ _ hz)
  have h1:=h x pn_
  unfold gapL at ih ⊢
  rw[qi_,pe_,pb_,p3_,q3_];omega
theorem SPd.add {P:Program}{w:World}{H:Hp}{sp:Addr}{ws ps:List Pat}{bad:Addr->Prop}{ks:List (PKey×Addr×V)}(h1:H sp=some (DX patKind P w sp ks))(h2:KO patKind H ks)(h3:ks.length<=ps.length)(h4:∀ y∈ps,∃ r zs,valX ks (pk y)=some (.ref r)/\H r=some (.lst zs)/\L2.IsL H zs ((jl_ ws y).map sptD)/\¬ bad r)
  {y:Pat}{b r:Addr}{zs:List V} (hb:patKind.at_ H (pk y) b) (hr:H r=some (.lst zs)) (hz:L2.IsL H zs ((jl_ ws y).map sptD)) (hn:¬ bad r):SPd P w (upd H sp (DX patKind P w sp (putX ks (pk y) b (.ref r)))) sp ws (ps++[y]) bad:=by
 have tk:∀ c xs,H c=some (.tup xs)->(upd H sp (DX patKind P w sp (putX ks (pk y) b (.ref r)))) c=some (.tup xs):=fun c xs e=>by rw[jh_ fun q=>by rw[q,h1] at e;cases e];exact e
 have lk:∀ c zs,H c=some (.lst zs)->(upd H sp (DX patKind P w sp (putX ks (pk y) b (.ref r)))) c=some (.lst zs):=fun c xs e=>by rw[jh_ fun q=>by rw[q,h1] at e;cases e];exact e
 refine⟨_,jb_,fun x hx=>y7_ tk ((KO.put h2 hb) x hx),by rw[pe_];exact p7_ (zz_ ..) (by show _<=_+1;omega),fun z hz'=>?_⟩
 by_cases e:z=y
 ·subst e
  exact⟨r,zs,by rw[yf_,if_pos rfl],lk _ _ hr,IsL.tk tk (zv_ _) hz,hn⟩
 ·have hz2:z∈ps:=by
   rcases pt_.mp hz' with q | q
   ·exact q
   ·exact absurd (pv_.mp q) e
  obtain⟨r',zs',q1,q2,q3,q4⟩:=h4 z hz2
  exact⟨r',zs',by rw[yf_,if_neg fun k=>e (ve_ k)];exact q1,lk _ _ q2,IsL.tk tk (zv_ _) q3,q4⟩
theorem jok_ (p f:List Nat):(jx_ p f).Nodup:=by
 unfold jx_
 exact(wf_).filter _
theorem xy_ {α β:Type}{f:α->β}:∀{l:List α},l.Nodup->(∀ a∈l,∀ b∈l,f a=f b->a=b)->(l.map f).Nodup
 | [],_,_=>by simp
 | a::l,h,hi=>by
  rw[rd_] at h
  rw[pr_,rd_]
  refine⟨fun q=>?_,xy_ h.2 fun x hx y hy=>hi x (pl_ _ hx) y (pl_ _ hy)⟩
  obtain⟨b,hb,e⟩:=pq_.mp q
  have:=hi b (pl_ _ hb) a pn_ e
  exact h.1 (this▸hb)
theorem jpo_ (y x:Pat):(zn_ y x).Nodup:=by
 unfold zn_
 refine xy_ ((jok_ _ _).filter _) fun a ha b hb e=>?_
 have h1:=(py_.mp ha).2
 have h2:=(py_.mp hb).2
 unfold fitB at h1 h2
 have h1:=of_decide_eq_true h1
 have h2:=of_decide_eq_true h2
 injection e with _ e
 omega
theorem up_ {y:Pat}:∀{ws:List Pat},(ws.map (·.1)).Nodup->(jl_ ws y).Nodup
 | [],_=>by simp[jl_]
 | x::ws,h=>by
  rw[pr_,rd_] at h
  have ih:=up_ (y:=y) h.2
  unfold jl_ at ih ⊢
  rw[qi_]
  refine qq_.mpr ⟨jpo_ y x,ih,fun a ha b hb e=>h.1 ?_⟩
  subst e
  obtain⟨x',hx',hs⟩:=qa_.mp hb
  have e1:a.1=x.1:=by unfold zn_ at ha;obtain⟨_,_,rfl⟩:=pq_.mp ha;rfl
  have e2:a.1=x'.1:=by unfold zn_ at hs;obtain⟨_,_,rfl⟩:=pq_.mp hs;rfl
  exact pq_.mpr ⟨x',hx',by rw[<- e2,e1]⟩
theorem NUd.congr {P:Program}{w:World}{H:Hp}{nu:Addr}{adr:Spt->Addr}{us us':Spt->Prop}{fn fn':Spt->List Int}{m m':Nat}(h:NUd P w H nu adr us fn m)(hu:∀ s,us s↔us' s)(hf:∀ s,us' s->fn s=fn' s)(hm:m<=m'):NUd P w H nu adr us' fn' m':=by
 obtain⟨kn,h1,h2,h3,h4⟩:=h.ex
 exact⟨⟨kn,h1,h2,p7_ h3 hm,fun s=>⟨fun q=>(h4 s).1 ((hu s).mpr q),fun q=>(h4 s).2 fun z=>q ((hu s).mp z)⟩⟩,fun s q=>by rw[<- hf s q];exact h.lst s ((hu s).mpr q),fun s s' q q'=>h.inj s s' ((hu s).mpr q) ((hu s').mpr q')⟩
theorem used_snoc {ws ps:List Pat}{y:Pat}{s:Spt}:j7_ ws (ps++[y]) s↔j7_ ws ps s∨s∈jl_ ws y:=by
 unfold j7_
 constructor
 ·rintro⟨z,hz,h⟩
  rcases pt_.mp hz with q | q
  ·exact .inl ⟨z,q,h⟩
  ·rw[pv_.mp q] at h;exact .inr h
 ·rintro(⟨z,hz,h⟩ | h)
  ·exact⟨z,qt_ _ hz,h⟩
  ·exact⟨y,by simp,h⟩
theorem job_ (ws ps:List Pat)(y:Pat)(s:Spt):ju_ ws (ps++[y]) s=ju_ ws ps s++if s∈jl_ ws y then [numF y] else []:=by
 unfold ju_ hitS
 rw[qd_,ph_]
 congr 1
 rw[pz_,qn_]
 by_cases h:s∈jl_ ws y
 ·rw[if_pos (decide_eq_true h),if_pos h];rfl
 ·rw[if_neg (fun z=>h (of_decide_eq_true z)),if_neg h];rfl
theorem jpl_ {ws ps:List Pat}{s:Spt}(h:¬ j7_ ws ps s):ju_ ws ps s=[]:=by
 unfold ju_ hitS
 rw[rs_.mpr fun y hy z=>h ⟨y,hy,of_decide_eq_true z⟩];rfl
theorem jqw_ {H:Hp}{v:V}{s:Spt}(h:Is H v (sptD s)):∃ a,v=.ref a/\H a=some (.tup [.str (S s.1),.int (s.2:Int)]):=by
 simp only[Is,sptD,gapD] at h
 obtain⟨a,ys,rfl,ha,hy⟩:=h
 match ys,hy with
 | [y1,y2],hy =>
  simp only[L2.IsL,Is] at hy
  obtain⟨h1,h2,_⟩:=hy
  subst h1 h2
  exact⟨a,rfl,ha⟩
 | [],hy=>simp only[L2.IsL] at hy
 | [_],hy=>simp only[L2.IsL] at hy;exact hy.2.elim
 | _::_::_::_,hy=>simp only[L2.IsL] at hy;exact hy.2.2.elim
theorem szn2 {n:Nat}(h:n < 10000000):n < sizeLine:=qh_ h (by decide)
def jtg_ (P:Program)(w:World)(C:Addr):Sp:=fun vs H Q _=>∃(st a b dx:Addr) (ya yb:List V) (ws ps:List Pat),vs=[.ref st,.ref a,.ref b]/\H st=some (.ins C dx [])/\H a=some (.lst ya)/\H b=some (.lst yb)/\L2.IsL H ya (ws.map patD)/\L2.IsL H yb (ps.map patD) /\
 (∀ x∈ws,1<=x.1.length/\x.1.length<=7)/\ws.length<=10/\(∀ x∈ws,x.2.length<=7/\∀ g∈x.2,∃ k:Nat,g=(k:Int))/\(∀ y∈ps,∃ n,0 < n/\Lr n y)/\(∀ y∈ps,y.1.length<=1000)/\ps.Nodup/\(ws.map (·.1)).Nodup/\ps.length<=9000 /\
 ∀(tg sp nu:Addr) (adr:Spt->Addr) (H':Hp),StA P w C H' st tg sp nu adr ws ps ps->(∀ s,j7_ ws ps s->H (adr s)=none)->(∀ b o,b≠st->H b=some o->H' b=some o)->Q .non H'
section
variable {P:Program}{w:World}{K:pc_}{mg:Str->Option Value}{base:Heap}{f:Addr}{fd:FuncData}{tk:Nat->Tok}{cO:Addr}
theorem jek_ (T:Txt mg tk)(O:Ow K mg cO)(F:Fun K "__init__" "Stand.__init__" s_Stand_init f fd)(D_gaps_come_to:Dn P w K mg base "gaps_come_to" 2 ["words","pattern"] jra_)(D_number_of:Dn P w K mg base "number_of" 1 ["pattern"] jau_):FnOk P w K mg base CX0 3 f fd ["self","words","patterns"] (jtg_ P w cO):=by
 refine F.ok sc_Stand_init (fun vs H Q E h=>?_) (fun cdv A outer s H vs Q E hr h=>?_)
 ·obtain⟨st,a,b,dx,ya,yb,ws,ps,rfl,_⟩:=h
  rfl
 obtain⟨st,a,b,dx,ya,yb,ws,ps,rfl,hst,ha,hb,hya,hyb,hws,hwl,hgs,hlr,hyl,hpn,hwn,hpl,q⟩:=h
 have nd:=sc_Stand_init.nd
 have hl1:=hya.length
 rw[pb_] at hl1
 have hl2:=hyb.length
 rw[pb_] at hl2
 refine⟨_,(je_ (jlz_ (pv 0) (uj_ (N:=viewKind) (P:=P) (w:=w) rfl rfl) rfl)
  (je_ (j1_ pu_ rfl (zb_ (K:=K) (pv 1)) (yi_ rfl (jr_ (jj_ (i:=3) nd rfl (Or.inl rfl)) (jr_ (jj_ (i:=4) nd rfl (Or.inl rfl)) zu_)))
   (ji_ (j1_ pu_ rfl (zb_ (K:=K) (pv 4)) (jj_ (i:=5) nd rfl (Or.inl rfl))
   (ji_ (jdu_ (N:=viewKind) (P:=P) (w:=w) rfl rfl (z4_ hr) (vo_ (pv 0) rfl) (zx_ (ja_ (pv 3) (ja_ (pv 5) jc_))) uh_ rfl)))))
  (je_ (jlz_ (pv 0) (uj_ (N:=patKind) (P:=P) (w:=w) rfl rfl) rfl)
  (je_ (jlz_ (pv 0) (uj_ (N:=viewKind) (P:=P) (w:=w) rfl rfl) rfl)
  (ji_ (j1_ pu_ rfl (zb_ (K:=K) (pv 2)) (jj_ (i:=6) nd rfl (Or.inl rfl))
   (je_ (jm_ (i:=7) nd rfl (Or.inl rfl) (jn_ D_gaps_come_to hr.mo_ rfl (ja_ (pv 1) (ja_ (pv 6) jc_))))
  (je_ (jdu_ (N:=patKind) (P:=P) (w:=w) rfl rfl (z4_ hr) (vo_ (pv 0) rfl) (pv 6) (pv 7) rfl)
  (ji_ (j1_ pu_ rfl (zb_ (K:=K) (pv 7)) (jj_ (i:=8) nd rfl (Or.inl rfl))
   (ji_ (zp_ (z2_ (K:=K) p9_ q7_ q8_ yu_ (px_sd (N:=viewKind) (P:=P) (w:=w) rfl rfl (z4_ hr) (vo_ (pv 0) rfl) (pv 8) (j6_ jc_) ⟨rfl,rfl,rfl,rfl⟩) (ja_ (jn_ D_number_of hr.mo_ rfl (ja_ (pv 6) jc_)) jc_)))))))))))))),?_⟩
 rw[show L2.start ["self","words","patterns","word","gaps","gap","pattern","come","spot"] [.ref st,.ref a,.ref b]=[some (.ref st),some (.ref a),some (.ref b),none,none,none,none,none,none] from rfl]
 refine jwu_ (jkd_ ?_)
 refine ui_ fun tg htg=>?_
 have stg:st≠tg:=jg_ hst htg
 have k1:∀ b' o,H b'=some o->(upd H tg (DX viewKind P w tg [])) b'=some o:=jd_ htg _
 have etg:=jb_ (H:=H) (a:=tg) (o:=DX viewKind P w tg [])
 have hst1:=k1 _ _ hst
 generalize upd H tg (DX viewKind P w tg [])=H1 at k1 etg hst1 ⊢
 walk_at "go"
 refine jlb_ hst1 O.cl O.n_told_gaps (by decide) ?_
 have e2:=jb_ (H:=H1) (a:=st) (o:=.ins cO dx (putF ("told_gaps":Str) (.ref tg) []))
 have k2:∀ b' o,b'≠st->H1 b'=some o->(upd H1 st (.ins cO dx (putF ("told_gaps":Str) (.ref tg) []))) b'=some o:=fun b' o a e=>by rw[jh_ a];exact e
 generalize upd H1 st (.ins cO dx (putF ("told_gaps":Str) (.ref tg) []))=H2 at e2 k2 ⊢
 have etg2:=k2 _ _ stg.symm etg
 have ast:a≠st:=fun z=>by rw[z,hst] at ha;cases ha
 have bst:b≠st:=fun z=>by rw[z,hst] at hb;cases hb
 have keep2:∀ b' o,b'≠st->H b'=some o->H2 b'=some o:=fun b' o q e=>k2 _ _ q (k1 _ _ e)
 have e2a:=keep2 _ _ ast ha
 walk_at "go"
 refine zh_ (K:=K) (xs:=ya) (fun i σ H'=>∃(v3 v4 v5:Option V),σ=[some (.ref st),some (.ref a),some (.ref b),v3,v4,v5,none,none,none]/\H' st=some (.ins cO dx (putF ("told_gaps":Str) (.ref tg) []))/\TGd P w H' tg (gapL (ws.take i))/\∀ b' o,b'≠st->H b'=some o->H' b'=some o)
  ⟨none,none,none,rfl,e2,⟨[],etg2,fun x hx=>(nomatch hx),fun s=>by simp[gapL,valX],pm_ _⟩,keep2⟩ (fun i σ H' _ ⟨_,_,_,_,_,_,k⟩=>SqL.of (k _ _ ast ha)) ?_ ?_
 ·rintro i y σ Ha hy ⟨v3,v4,v5,rfl,esa,tga,ka⟩
  have hi:i < ws.length:=by have:=(pj_.mp hy).1;omega
  obtain⟨y',d,hy',hd1,hI⟩:=IsL.get (IsL.tk (fun c zs e=>ka c _ (fun z=>by rw[z,hst] at e;cases e) e) (jw_ _) hya) (show i < (ws.map patD).length by simpa using hi)
  rw[hy] at hy'
  cases hy'
  rw[pf_,pa_ hi] at hd1
  cases hd1
  obtain⟨a2,t2,rfl,ea2,et2⟩:=xk_ hI
  have hgx:=hgs _ (ps_ hi)
  rw[jpr_ hi]
  have hgl:=jsl_ (ws:=ws.take i) fun x hx=>(hgs x (qu_ hx)).1
  rw[pw_] at hgl
  generalize gapL (ws.take i)=l0 at tga hgl ⊢
  generalize ws[i]=x at *
  refine yq_ ea2 rfl (jv_ (jy_ (jv_ (jy_ (z9_ ?_)))))
  have hSt:∀{H':Hp},H' t2=some (.tup (x.2.map V.int))->SqT K H' t2 (x.2.map V.int):=fun e=>SqT.of e
  walk_at "go"
  try refine jrh_ (SqT.of et2) ?_
  have t2st:t2≠st:=fun z=>by rw[z,esa] at et2;cases et2
  refine jmx_ (K:=K) (xs:=x.2.map V.int) (fun j σ H'=>∃(v5:Option V),σ=[some (.ref st),some (.ref a),some (.ref b),some (.str (S x.1)),some (.ref t2),v5,none,none,none]/\H' st=some (.ins cO dx (putF ("told_gaps":Str) (.ref tg) []))/\TGd P w H' tg (l0++(x.2.take j).map fun g=>(x.1,g.toNat))/\(∀ b' o,b'≠st->H b'=some o->H' b'=some o)/\H' t2=some (.tup (x.2.map V.int)))
   ⟨_,rfl,esa,by simpa using tga,ka,et2⟩ (fun j σ H' _ ⟨_,_,_,_,_,e⟩=>SqT.of e) ?_ ?_
  ·rintro j v σ Hb hv ⟨v5,rfl,esb,tgb,kb,etb⟩
   have hj:j < x.2.length:=by have:=(pj_.mp hv).1;simpa using this
   rw[pf_,pa_ hj] at hv
   cases hv
   obtain⟨g,hg⟩:=hgx.2 _ (ps_ hj)
   have htk:l0++(x.2.take (j+1)).map (fun g=>((x.1,g.toNat):Spt))=l0++(x.2.take j).map (fun g=>((x.1,g.toNat):Spt))++[(x.1,g)]:=by
    rw[p8_,pa_ hj,ph_,<- qw_,hg];rfl
   rw[htk,hg]
   have hl2:(l0++(x.2.take j).map (fun g=>((x.1,g.toNat):Spt))).length<=100:=by rw[pe_,pb_,pw_];omega
   generalize l0++(x.2.take j).map (fun g=>((x.1,g.toNat):Spt))=l1 at tgb hl2 ⊢
   walk_at "go"
   refine jaz_ ?_
   walk_at "go"
   refine vj_ ?_
   walk_at "go"
   refine vr_ esb O.cl O.n_told_gaps rfl ?_
   walk_at "go"
   intro tp htp
   have stp:=jd_ htp (.tup [.str (S x.1),.int (g:Int)])
   have etp:=jb_ (H:=Hb) (a:=tp) (o:=.tup [.str (S x.1),.int (g:Int)])
   have tgc:=tgb.tk (H':=upd Hb tp (.tup [.str (S x.1),.int (g:Int)])) (fun o e=>stp _ _ e) (fun c xs e=>stp _ _ e)
   generalize upd Hb tp (.tup [.str (S x.1),.int (g:Int)])=Hc at stp etp tgc ⊢
   obtain⟨kt,q1,q2,q3,q4⟩:=tgc.ex
   walk_at "go"
   refine⟨tg,_,rfl,⟨kt,vk x.1 g,tp,q1,q2,rfl,etp,szn (by omega),rfl⟩,?_⟩
   have hne:∀ c o,c≠tg->Hc c=some o->(upd Hc tg (DX viewKind P w tg (putX kt (vk x.1 g) tp (.bl true)))) c=some o:=fun c o q e=>by rw[jh_ q];exact e
   refine⟨_,rfl,hne _ _ stg (stp _ _ esb),TGd.add (s:=(x.1,g)) q1 q2 q3 q4 etp,fun c o q e=>hne _ _ (jg_ e htg) (stp _ _ (kb c o q e)),hne _ _ (fun z=>by rw[z,tgb.ex.choose_spec.1] at etb;cases etb) (stp _ _ etb)⟩
  ·rintro σ Hb ⟨v5,rfl,esb,tgb,kb,etb⟩
   rw[pb_,p0_] at tgb
   exact⟨_,_,_,rfl,esb,tgb,kb⟩
 rintro σ H3 ⟨v3,v4,v5,rfl,es3,tg3,k3⟩
 rw[hl1,p0_] at tg3
 walk_at "go"
 refine jkd_ ?_
 refine ui_ fun sp hsp=>?_
 have s4:=jd_ hsp (DX patKind P w sp [])
 have esp4:=jb_ (H:=H3) (a:=sp) (o:=DX patKind P w sp [])
 generalize upd H3 sp (DX patKind P w sp [])=H4 at s4 esp4 ⊢
 have es4:=s4 _ _ es3
 have stsp:st≠sp:=jg_ es3 hsp
 walk_at "go"
 refine jlb_ es4 O.cl O.n_spots (show 1 < 1000 by decide) ?_
 have es5:=jb_ (H:=H4) (a:=st) (o:=.ins cO dx (putF ("spots":Str) (.ref sp) (putF ("told_gaps":Str) (.ref tg) [])))
 have k5:∀ b' o,b'≠st->H4 b'=some o->(upd H4 st (.ins cO dx (putF ("spots":Str) (.ref sp) (putF ("told_gaps":Str) (.ref tg) [])))) b'=some o:=fun b' o q e=>by rw[jh_ q];exact e
 generalize upd H4 st (.ins cO dx (putF ("spots":Str) (.ref sp) (putF ("told_gaps":Str) (.ref tg) [])))=H5 at es5 k5 ⊢
 have esp5:=k5 _ _ stsp.symm esp4
 walk_at "go"
 refine jkd_ ?_
 refine ui_ fun nu hnu=>?_
 have s6:=jd_ hnu (DX viewKind P w nu [])
 have enu6:=jb_ (H:=H5) (a:=nu) (o:=DX viewKind P w nu [])
 generalize upd H5 nu (DX viewKind P w nu [])=H6 at s6 enu6 ⊢
 have es6:=s6 _ _ es5
 have stnu:st≠nu:=jg_ es5 hnu
 have spnu:sp≠nu:=jg_ esp5 hnu
 walk_at "go"
 refine jlb_ es6 O.cl O.n_numbers (show 2 < 1000 by decide) ?_
 have es7:=jb_ (H:=H6) (a:=st) (o:=.ins cO dx (putF ("numbers":Str) (.ref nu) (putF ("spots":Str) (.ref sp) (putF ("told_gaps":Str) (.ref tg) []))))
 have k7:∀ b' o,b'≠st->H6 b'=some o->(upd H6 st (.ins cO dx (putF ("numbers":Str) (.ref nu) (putF ("spots":Str) (.ref sp) (putF ("told_gaps":Str) (.ref tg) []))))) b'=some o:=fun b' o q e=>by rw[jh_ q];exact e
 generalize upd H6 st (.ins cO dx (putF ("numbers":Str) (.ref nu) (putF ("spots":Str) (.ref sp) (putF ("told_gaps":Str) (.ref tg) []))))=H7 at es7 k7 ⊢
 have k37:∀ b' o,b'≠st->H3 b'=some o->H7 b'=some o:=fun b' o q e=>k7 _ _ q (s6 _ _ (k5 _ _ q (s4 _ _ e)))
 have esp7:=k7 _ _ stsp.symm (s6 _ _ esp5)
 have enu7:=k7 _ _ stnu.symm enu6
 have tk37:∀ c zs,H3 c=some (.tup zs)->H7 c=some (.tup zs):=fun c zs e=>k37 c _ (fun z=>by rw[z,es3] at e;cases e) e
 have tg7:TGd P w H7 tg (gapL ws):=tg3.tk (fun o e=>k37 _ _ stg.symm e) tk37
 have keep7:∀ b' o,b'≠st->H b'=some o->H7 b'=some o:=fun b' o q e=>k37 _ _ q (k3 b' o q e)
 have hspH:H sp=none:=by
  cases e:H sp with
  | none=>rfl
  | some o=>have:=k3 sp o stsp.symm e;rw[hsp] at this;cases this
 have hnuH:H nu=none:=by
  cases e:H nu with
  | none=>rfl
  | some o=>have:=k5 nu o stnu.symm (s4 _ _ (k3 nu o stnu.symm e));rw[hnu] at this;cases this
 have tgsp:tg≠sp:=fun z=>by
  obtain⟨kt,q1,_⟩:=tg3.ex
  rw[<- z,q1] at hsp;cases hsp
 have tgnu:tg≠nu:=fun z=>by
  obtain⟨kt,q1,_⟩:=tg3.ex
  have:=k5 _ _ stg.symm (s4 _ _ q1)
  rw[z] at this
  rw[this] at hnu;cases hnu
 walk_at "go"
 have e7b:=keep7 _ _ bst hb
 refine xg_ (SqL.of e7b) ?_
 refine zh_ (K:=K) (xs:=yb) (fun i σ H'=>∃(v3 v4 v5 v6 v7 v8:Option V) (adr:Spt->Addr),σ=[some (.ref st),some (.ref a),some (.ref b),v3,v4,v5,v6,v7,v8]/\H' st=some (.ins cO dx (putF ("numbers":Str) (.ref nu) (putF ("spots":Str) (.ref sp) (putF ("told_gaps":Str) (.ref tg) []))))/\TGd P w H' tg (gapL ws)/\SPd P w H' sp ws (ps.take i) (fun r=>∃ s,j7_ ws (ps.take i) s/\r=adr s)/\NUd P w H' nu adr (j7_ ws (ps.take i)) (ju_ ws (ps.take i)) (i * 220)/\(∀ s,j7_ ws (ps.take i) s->H (adr s)=none)/\∀ b' o,b'≠st->H b'=some o->H' b'=some o)
  ⟨_,_,_,_,_,_,fun _=>0,rfl,es7,tg7,⟨[],esp7,fun x hx=>(nomatch hx),qj_ _,fun y hy=>by simp at hy⟩,⟨⟨[],enu7,fun x hx=>(nomatch hx),qj_ _,fun s=>⟨fun⟨y,hy,_⟩=>by simp at hy,fun _=>rfl⟩⟩,fun s ⟨y,hy,_⟩=>by simp at hy,fun s s' ⟨y,hy,_⟩=>by simp at hy⟩,(fun s ⟨y,hy,_⟩=>by simp at hy),keep7⟩ (fun i σ H' _ ⟨_,_,_,_,_,_,_,_,_,_,_,_,_,k⟩=>SqL.of (k _ _ bst hb)) ?_ ?_
 ·rintro i y0 σ Ha hy0 ⟨v3,v4,v5,v6,v7,v8,adr,rfl,esa,tga,spa,nua,fra,ka⟩
  have hi:i < ps.length:=by have:=(pj_.mp hy0).1;omega
  have tka:∀ c zs,H c=some (.tup zs)->Ha c=some (.tup zs):=fun c zs e=>ka c _ (fun z=>by rw[z,hst] at e;cases e) e
  obtain⟨y',d,hy',hd1,hI⟩:=IsL.get (IsL.tk tka (jw_ _) hyb) (show i < (ps.map patD).length by simpa using hi)
  rw[hy0] at hy'
  cases hy'
  rw[pf_,pa_ hi] at hd1
  cases hd1
  have hmem:=ps_ hi
  obtain⟨n,hn,hlrn⟩:=hlr _ hmem
  have hyl1:=hyl _ hmem
  have htk:ps.take (i+1)=ps.take i++[ps[i]]:=by rw[p8_,pa_ hi];rfl
  rw[htk]
  have hnum:=y9_ hn hlrn
  generalize ps[i]=y at *
  have hil:i < 9000:=by omega
  have hprl0:(ps.take i).length<=9000:=by rw[pw_];omega
  generalize ps.take i=pr at *
  obtain⟨bk,rfl,hat⟩:=jam_ hI
  have hIa:Is Ha (.ref a) (zc_ ws):=by simp only[Is,zc_];exact⟨a,ya,rfl,ka _ _ ast ha,IsL.tk tka (jw_ _) hya⟩
  walk_at "go"
  refine⟨.ref a,.ref bk,ws,y,n,rfl,hIa,hI,hn,hlrn,hyl1,fun x hx=>⟨(hws x hx).1,by have:=(hws x hx).2;omega⟩,hwl,fun rc zc Hb hrc erc hzc sb=>?_⟩
  have esb:=sb _ _ esa
  have spb:=spa.mono (H':=Hb) (bad':=fun r=>∃ s,j7_ ws pr s/\r=adr s) (fun o e=>sb _ _ e) (fun c zs e=>sb _ _ e) (fun r zs e q=>⟨sb _ _ e,q⟩)
  have hslen:=jbn_ (ws:=ws) y fun x hx=>by have:=(hws x hx).2;omega
  have hsnd:=up_ (y:=y) hwn
  have hzl:=hzc.length
  rw[pb_] at hzl
  have rcst:rc≠st:=fun z=>by rw[z,esa] at hrc;cases hrc
  have hrcH:H rc=none:=by
   cases e:H rc with
   | none=>rfl
   | some o=>have:=ka rc o rcst e;rw[hrc] at this;cases this
  have rcbad:¬ ∃ s,j7_ ws pr s/\rc=adr s:=fun⟨s,hs,e⟩=>by
   obtain⟨ns,q1,_⟩:=nua.lst s hs
   rw[<- e,hrc] at q1;cases q1
  obtain⟨ks,p1,p2,p3,p4⟩:=spb.ex
  walk_at "go"
  refine jaz_ ?_
  walk_at "go"
  refine vj_ ?_
  walk_at "go"
  refine vr_ esb O.cl O.n_spots rfl ?_
  walk_at "go"
  have hatb:patKind.at_ Hb (pk y) bk:=y7_ (fun c zs e=>sb _ _ e) hat
  have hprl:pr.length<=9000:=hprl0
  refine⟨sp,_,rfl,⟨ks,pk y,bk,p1,p2,rfl,hatb,szn (by omega),rfl⟩,?_⟩
  have sp1:=SPd.add p1 p2 p3 p4 hatb erc hzc rcbad
  have ne1:∀ c o,c≠sp->Hb c=some o->(upd Hb sp (DX patKind P w sp (putX ks (pk y) bk (.ref rc)))) c=some o:=fun c o q e=>by rw[jh_ q];exact e
  have rcsp:rc≠sp:=fun z=>by rw[z,p1] at erc;cases erc
  have tk1:∀ c zs,Hb c=some (.tup zs)->(upd Hb sp (DX patKind P w sp (putX ks (pk y) bk (.ref rc)))) c=some (.tup zs):=fun c zs e=>ne1 c _ (fun z=>by rw[z,p1] at e;cases e) e
  have es1:=ne1 _ _ stsp esb
  have tg1:=(tga.tk (H':=Hb) (fun o e=>sb _ _ e) (fun c zs e=>sb _ _ e)).tk (fun o e=>ne1 _ _ tgsp e) tk1
  have nu1:=(nua.mono (H':=Hb) (fun o e=>sb _ _ e) (fun c zs e=>sb _ _ e) (fun s o _ e=>sb _ _ e)).mono (fun o e=>ne1 _ _ spnu.symm e) tk1 (fun s o hs e=>ne1 _ _ (fun z=>by
   obtain⟨ns,q1,_⟩:=nua.lst s hs
   rw[z] at q1
   rw[sb _ _ q1] at p1;cases p1) e)
  have er1:=ne1 _ _ rcsp erc
  have hz1:=IsL.tk tk1 (zv_ _) hzc
  have hI1:Is (upd Hb sp (DX patKind P w sp (putX ks (pk y) bk (.ref rc)))) (.ref bk) (patD y):=Is.tk tk1 (yb_ _) (Is.same sb hI)
  have k1':∀ b' o,b'≠st->H b'=some o->(upd Hb sp (DX patKind P w sp (putX ks (pk y) bk (.ref rc)))) b'=some o:=fun b' o q e=>ne1 _ _ (jg_ e hspH) (sb _ _ (ka b' o q e))
  generalize upd Hb sp (DX patKind P w sp (putX ks (pk y) bk (.ref rc)))=Hc at sp1 ne1 tk1 es1 tg1 nu1 er1 hz1 hI1 k1' ⊢
  clear ne1 tk1 p4 p3 p2 p1 spb
  walk_at "go"
  try refine xg_ (SqL.of er1) ?_
  refine zh_ (K:=K) (xs:=zc) (fun j σ H'=>∃(v8:Option V) (adr':Spt->Addr),σ=[some (.ref st),some (.ref a),some (.ref b),v3,v4,v5,some (.ref bk),some (.ref rc),v8]/\H' st=some (.ins cO dx (putF ("numbers":Str) (.ref nu) (putF ("spots":Str) (.ref sp) (putF ("told_gaps":Str) (.ref tg) []))))/\TGd P w H' tg (gapL ws)/\SPd P w H' sp ws (pr++[y]) (fun r=>∃ s,(j7_ ws pr s∨s∈(jl_ ws y).take j)/\r=adr' s)/\NUd P w H' nu adr' (fun s=>j7_ ws pr s∨s∈(jl_ ws y).take j) (fun s=>ju_ ws pr s++if s∈(jl_ ws y).take j then [n] else []) (i * 220+j)/\(∀ s,(j7_ ws pr s∨s∈(jl_ ws y).take j)->H (adr' s)=none)/\(∀ b' o,b'≠st->H b'=some o->H' b'=some o)/\H' rc=some (.lst zc)/\¬ (∃ s,(j7_ ws pr s∨s∈(jl_ ws y).take j)/\rc=adr' s)/\(∀ c zs,Hc c=some (.tup zs)->H' c=some (.tup zs)))
   ⟨_,adr,rfl,es1,tg1,sp1.mono (fun o e=>e) (fun c zs e=>e) (fun r zs e q=>⟨e,fun⟨s,hs,z⟩=>q ⟨s,hs.resolve_right (by simp),z⟩⟩),nu1.congr (fun s=>⟨fun q=>.inl q,fun q=>q.resolve_right (by simp)⟩) (fun s _=>by simp) (by omega),(fun s hs=>fra s (hs.resolve_right (by simp))),k1',er1,(fun⟨s,hs,z⟩=>rcbad ⟨s,hs.resolve_right (by simp),z⟩),fun c zs e=>e⟩ (fun j σ H' _ ⟨_,_,_,_,_,_,_,_,_,e,_⟩=>SqL.of e) ?_ ?_
  ·rintro j s0 σ Hd hs0 ⟨v8,adr',rfl,es2,tg2,sp2,nu2,fr2,k2',er2,rcb2,tk2⟩
   have hj:j < (jl_ ws y).length:=by have:=(pj_.mp hs0).1;omega
   obtain⟨y',d,hy',hd1,hIs⟩:=IsL.get (IsL.tk tk2 (zv_ _) hz1) (show j < ((jl_ ws y).map sptD).length by simpa using hj)
   rw[hs0] at hy'
   cases hy'
   rw[pf_,pa_ hj] at hd1
   cases hd1
   have hnew:(jl_ ws y)[j]∉(jl_ ws y).take j:=fun z=>by
    have h1:=hsnd
    rw[<- sh_ j (jl_ ws y)] at h1
    refine(qq_.mp h1).2.2 _ z _ ?_ rfl
    rw[re_ hj];exact pn_
   have htk2:(jl_ ws y).take (j+1)=(jl_ ws y).take j++[(jl_ ws y)[j]]:=by rw[p8_,pa_ hj];rfl
   rw[htk2]
   generalize (jl_ ws y)[j]=sj at *
   generalize (jl_ ws y).take j=lj at *
   obtain⟨kb,rfl,ekb⟩:=jqw_ hIs
   obtain⟨kn,n1,n2,n3,n4⟩:=nu2.ex
   walk_at "go"
   refine i_xsd ?_
   walk_at "go"
   refine vj_ ?_
   walk_at "go"
   refine vr_ es2 O.cl O.n_numbers rfl ?_
   refine⟨nu,rfl,⟨kn,.inl n1,n2⟩,?_⟩
   walk_at "go"
   intro z hz
   have szz:=jd_ hz (.lst [])
   have ez:=jb_ (H:=Hd) (a:=z) (o:=.lst [])
   generalize upd Hd z (.lst [])=He at szz ez ⊢
   have n1e:=szz _ _ n1
   have n2e:KO viewKind He kn:=fun x hx=>szz _ _ (n2 x hx)
   have ekbe:=szz _ _ ekb
   refine⟨kn,vk sj.1 sj.2,kb,n1e,n2e,rfl,ekbe,szn2 (by omega),fun v hv=>?_,fun hv=>?_⟩
   ·have hus:j7_ ws pr sj∨sj∈lj:=sl_ fun q=>by rw[(n4 sj).2 q] at hv;cases hv
    rw[(n4 sj).1 hus] at hv
    injection hv with hv
    subst hv
    obtain⟨ns,hns,hnp⟩:=nu2.lst sj hus
    have hnl:=hnp.length_eq
    rw[if_neg hnew,qk_] at hnp hnl
    have hnl2:(ju_ ws pr sj).length<=9000:=by unfold ju_;rw[pb_];exact p7_ (qf_ _ _) hprl
    have hnse:=szz _ _ hns
    have hIe:Is He (.ref bk) (patD y):=Is.same szz (Is.tk tk2 (yb_ _) hI1)
    have nue:=nu2.mono (H':=He) (fun o e=>szz _ _ e) (fun c zs e=>szz _ _ e) (fun s o _ e=>szz _ _ e)
    walk_at "go"
    refine⟨.ref bk,y,n,rfl,hIe,hn,hlrn,?_⟩
    walk_at "go"
    refine jlp_ hnse (szn2 (by rw[pb_];omega)) ?_
    walk_at "go"
    have hms:(ns++[n]).Perm (ju_ ws pr sj++[n]):=hnp.append_right _
    have hmm:ns.map V.int++[V.int n]=(ns++[n]).map V.int:=by rw[ph_];rfl
    rw[hmm]
    have nuf:=nue.old hus hnse hms
    have kne:∀ c o,c≠adr' sj->He c=some o->(upd He (adr' sj) (.lst ((ns++[n]).map V.int))) c=some o:=fun c o q e=>by rw[jh_ q];exact e
    have tke:∀ c zs,Hd c=some (.tup zs)->(upd He (adr' sj) (.lst ((ns++[n]).map V.int))) c=some (.tup zs):=fun c zs e=>kne _ _ (fun q=>by rw[q,hns] at e;cases e) (szz _ _ e)
    have hfs:=fr2 sj hus
    have hiff:∀ s,(j7_ ws pr s∨s∈lj)↔(j7_ ws pr s∨s∈lj++[sj]):=fun s=>by
     constructor
     ·rintro(q | q)
      ·exact .inl q
      ·exact .inr (qt_ _ q)
     ·rintro(q | q)
      ·exact .inl q
      ·rcases pt_.mp q with q | q
       ·exact .inr q
       ·rw[pv_.mp q];exact hus
    refine⟨_,adr',rfl,kne _ _ (fun q=>by rw[<- q,es2] at hns;cases hns) (szz _ _ es2),tg2.tk (fun o e=>kne _ _ (fun q=>by rw[<- q,tg2.ex.choose_spec.1] at hns;cases hns) (szz _ _ e)) tke,sp2.mono (fun o e=>kne _ _ (fun q=>by rw[<- q,sp2.ex.choose_spec.1] at hns;cases hns) (szz _ _ e)) tke (fun r zs e q=>⟨kne _ _ (fun q'=>q ⟨sj,hus,q'⟩) (szz _ _ e),fun⟨s,hs,e'⟩=>q ⟨s,(hiff s).mpr hs,e'⟩⟩),nuf.congr hiff (fun s _=>?_) (by omega),(fun s hs=>fr2 s ((hiff s).mpr hs)),(fun b' o q e=>kne _ _ (jg_ e hfs) (szz _ _ (k2' b' o q e))),kne _ _ (fun q=>rcb2 ⟨sj,hus,q⟩) (szz _ _ er2),(fun⟨s,hs,e'⟩=>rcb2 ⟨s,(hiff s).mpr hs,e'⟩),fun c zs e=>tke _ _ (tk2 _ _ e)⟩
    by_cases es:s=sj
    ·rw[if_pos es,if_pos (by rw[es];simp),es]
    ·rw[if_neg es]
     congr 1
     have:s∈lj++[sj]↔s∈lj:=by rw[pt_,pv_];exact⟨fun q=>q.resolve_right es,fun q=>.inl q⟩
     by_cases q:s∈lj
     ·rw[if_pos q,if_pos (this.mpr q)]
     ·rw[if_neg q,if_neg (fun q'=>q (this.mp q'))]
   ·have hus:¬ (j7_ ws pr sj∨sj∈lj):=fun q=>by rw[(n4 sj).1 q] at hv;cases hv
    have hza:∀ s',(j7_ ws pr s'∨s'∈lj)->adr' s'≠z:=fun s' hs' q=>by
     obtain⟨ns,q1,_⟩:=nu2.lst s' hs'
     rw[q,hz] at q1;cases q1
    have znu:z≠nu:=fun q=>by rw[q,n1] at hz;cases hz
    have nue:=nu2.mono (H':=He) (fun o e=>szz _ _ e) (fun c zs e=>szz _ _ e) (fun s o _ e=>szz _ _ e)
    have nuf:=nue.new hus n1e n2e n3 n4 ekbe ez hza n
    have ez2:(upd He nu (DX viewKind P w nu (putX kn (vk sj.1 sj.2) kb (.ref z)))) z=some (.lst []):=by rw[jh_ znu];exact ez
    have hIe:Is (upd He nu (DX viewKind P w nu (putX kn (vk sj.1 sj.2) kb (.ref z)))) (.ref bk) (patD y):=Is.tk (fun c zs e=>by rw[jh_ fun q=>by rw[q,n1e] at e;cases e];exact e) (yb_ _) (Is.same szz (Is.tk tk2 (yb_ _) hI1))
    walk_at "go"
    refine⟨.ref bk,y,n,rfl,hIe,hn,hlrn,?_⟩
    walk_at "go"
    try refine jlp_ ez2 (by decide) ?_
    try walk_at "go"
    have kne:∀ c o,c≠nu->Hd c=some o->(upd (upd He nu (DX viewKind P w nu (putX kn (vk sj.1 sj.2) kb (.ref z)))) z (.lst ([]++[V.int n]))) c=some o:=fun c o q e=>by
     rw[jh_ (jg_ e hz),jh_ q];exact szz _ _ e
    have tke:∀ c zs,Hd c=some (.tup zs)->(upd (upd He nu (DX viewKind P w nu (putX kn (vk sj.1 sj.2) kb (.ref z)))) z (.lst ([]++[V.int n]))) c=some (.tup zs):=fun c zs e=>kne _ _ (fun q=>by rw[q,n1] at e;cases e) e
    have hzH:H z=none:=by
     cases e:H z with
     | none=>rfl
     | some o =>
      have:z≠st:=fun q=>by rw[q,es2] at hz;cases hz
      have:=k2' z o this e
      rw[hz] at this;cases this
    have hiff:∀ s,((j7_ ws pr s∨s∈lj)∨s=sj)↔(j7_ ws pr s∨s∈lj++[sj]):=fun s=>by
     rw[pt_,pv_,or_assoc]
    have hrz:∀ r zs,Hd r=some (.lst zs)->r≠z:=fun r zs e q=>by rw[q,hz] at e;cases e
    refine⟨_,fun s'=>if s'=sj then z else adr' s',rfl,kne _ _ stnu es2,tg2.tk (fun o e=>kne _ _ tgnu e) tke,sp2.mono (fun o e=>kne _ _ spnu e) tke (fun r zs e q=>⟨kne _ _ (fun q'=>by rw[q',n1] at e;cases e) e,fun⟨s,hs,e'⟩=>?_⟩),nuf.congr hiff (fun s _=>?_) (by omega),(fun s hs=>?_),(fun b' o q e=>kne _ _ (jg_ e hnuH) (k2' b' o q e)),kne _ _ (fun q=>by rw[q,n1] at er2;cases er2) er2,(fun⟨s,hs,e'⟩=>?_),fun c zs e=>tke _ _ (tk2 _ _ e)⟩
    ·by_cases es:s=sj
     ·simp only[if_pos es] at e';exact hrz r zs e e'
     ·simp only[if_neg es] at e';exact q ⟨s,((hiff s).mpr hs).resolve_right es,e'⟩
    ·by_cases es:s=sj
     ·rw[if_pos es,if_pos (by rw[es];simp),es,jpl_ (fun q=>hus (.inl q))];rfl
     ·rw[if_neg es]
      congr 1
      have:s∈lj++[sj]↔s∈lj:=by rw[pt_,pv_];exact⟨fun q=>q.resolve_right es,fun q=>.inl q⟩
      by_cases q:s∈lj
      ·rw[if_pos q,if_pos (this.mpr q)]
      ·rw[if_neg q,if_neg (fun q'=>q (this.mp q'))]
    ·by_cases es:s=sj
     ·simp only[if_pos es];exact hzH
     ·simp only[if_neg es];exact fr2 s (((hiff s).mpr hs).resolve_right es)
    ·by_cases es:s=sj
     ·simp only[if_pos es] at e';exact hrz rc zc er2 e'
     ·simp only[if_neg es] at e';exact rcb2 ⟨s,((hiff s).mpr hs).resolve_right es,e'⟩
  ·rintro σ Hd ⟨v8,adr',rfl,es2,tg2,sp2,nu2,fr2,k2',er2,rcb2,tk2⟩
   rw[hzl,p0_] at sp2 nu2 fr2
   refine⟨_,_,_,_,_,_,adr',rfl,es2,tg2,sp2.mono (fun o e=>e) (fun c zs e=>e) (fun r zs e q=>⟨e,fun⟨s,hs,z⟩=>q ⟨s,used_snoc.mp hs,z⟩⟩),nu2.congr (fun s=>used_snoc.symm) (fun s _=>by rw[job_,hnum]) (by omega),(fun s hs=>fr2 s (used_snoc.mp hs)),k2'⟩
 ·rintro σ Ha ⟨v3,v4,v5,v6,v7,v8,adr,rfl,esa,tga,spa,nua,fra,ka⟩
  rw[hl2,p0_] at spa nua fra
  exact q tg sp nu adr Ha ⟨⟨dx,esa⟩,tga,spa,nua.congr (fun _=>Iff.rfl) (fun _ _=>rfl) (by omega)⟩ fra ka
end
theorem i_xin {K':Type} [DecidableEq K']{N:OwnKind K'}{P:Program}{w:World}{ty td:TE}{σ:St}{H:Hp}{Q:VK}(h:ty σ H fun y H1=>td σ H1 fun x H2=>∃ a o,x=.ref a/\DGetX N P w H2 a y o/\Q (.bl o.isSome) H2):tXIn N P w ty td σ H Q:=h
noncomputable def wV:Option (List Nat)->V
 | none=>.non
 | some w=>.str (S w)
theorem NUd.perm {P:Program}{w:World}{H:Hp}{nu:Addr}{adr:Spt->Addr}{us:Spt->Prop}{fn fn':Spt->List Int}{m:Nat}(h:NUd P w H nu adr us fn m)(hf:∀ s,us s->(fn s).Perm (fn' s)):NUd P w H nu adr us fn' m :=
 ⟨h.ex,fun s hs=>by obtain⟨ns,q1,q2⟩:=h.lst s hs;exact⟨ns,q1,q2.trans (hf s hs)⟩,h.inj⟩
theorem jth_ (y:Pat):0<=numF y:=by
 unfold numF
 cases h:y.2.filter fun v=>decide (0 < v) with
 | nil=>exact s3_ _
 | cons a l =>
  have:a∈y.2.filter fun v=>decide (0 < v):=by rw[h];exact pn_
  have:=of_decide_eq_true (py_.mp this).2
  show 0<=a
  omega
theorem jit_ {ws S:List Pat}{s:Spt}{n:Int}(h:n∈ju_ ws S s):0<=n:=by
 unfold ju_ at h
 obtain⟨y,_,rfl⟩:=pq_.mp h
 exact jth_ y
theorem jqx_ (ws S:List Pat)(s:Spt):(ju_ ws S s).length<=S.length:=by
 unfold ju_
 rw[pb_];exact qf_ _ _
theorem jcv_ {ws S:List Pat}{s:Spt}{y:Pat}(hy:y∈S)(hs:s∈jl_ ws y):numF y∈ju_ ws S s :=
 pq_.mpr ⟨y,py_.mpr ⟨hy,decide_eq_true hs⟩,rfl⟩
theorem StA.same {P:Program}{w:World}{C:Addr}{H H':Hp}{st tg sp nu:Addr}{adr:Spt->Addr}{ws ps S:List Pat}(h:StA P w C H st tg sp nu adr ws ps S)(s:Same H H'):StA P w C H' st tg sp nu adr ws ps S:=by
 obtain⟨dx,hi⟩:=h.ins
 exact⟨⟨dx,s _ _ hi⟩,h.tg.tk (fun o e=>s _ _ e) (fun c zs e=>s _ _ e),h.sp.mono (fun o e=>s _ _ e) (fun c zs e=>s _ _ e) (fun r zs e q=>⟨s _ _ e,q⟩),h.nu.mono (fun o e=>s _ _ e) (fun c zs e=>s _ _ e) (fun x o _ e=>s _ _ e)⟩
def jho_ (P:Program)(w:World)(C:Addr):Sp:=fun vs H Q _=>∃(st tg sp nu:Addr) (adr:Spt->Addr) (v:V) (ws ps S:List Pat) (y:Pat) (n:Int),vs=[.ref st,v]/\StA P w C H st tg sp nu adr ws ps S/\Is H v (patD y)/\y∈ps/\y∈S/\0 < n/\Lr n y/\S.length<=9000/\(∀ x∈ws,∀ g∈x.2,∃ k:Nat,g=(k:Int)) /\
 ∀ H',Same H H'->Q (wV (zq_ ws S y)) H'
def jhr_ (P:Program)(w:World)(C:Addr):Sp:=fun vs H Q _=>∃(st tg sp nu:Addr) (adr:Spt->Addr) (v:V) (ws ps S:List Pat) (y:Pat) (n:Int),vs=[.ref st,v]/\StA P w C H st tg sp nu adr ws ps S/\Is H v (patD y)/\y∈ps/\y∈S/\0 < n/\Lr n y/\(ws.map (·.1)).Nodup /\
 ∀ H',StA P w C H' st tg sp nu adr ws ps (S.erase y)->(∀ b o,(∀ s,j7_ ws ps s->b≠adr s)->H b=some o->H' b=some o)->Q .non H'
section
variable {P:Program}{w:World}{K:pc_}{mg:Str->Option Value}{base:Heap}{f:Addr}{fd:FuncData}{tk:Nat->Tok}{cO:Addr}
theorem jem_ (T:Txt mg tk)(O:Ow K mg cO)(F:Fun K "word_wanting" "Stand.word_wanting" s_Stand_word_wanting f fd)(D_number_of:Dn P w K mg base "number_of" 1 ["pattern"] jau_):FnOk P w K mg base CX0 2 f fd ["self","pattern"] (jho_ P w cO):=by
 refine F.ok sc_Stand_word_wanting (fun vs H Q E h=>?_) (fun cdv A outer s H vs Q E hr h=>?_)
 ·obtain⟨st,tg,sp,nu,adr,v,ws,ps,S,y,n,rfl,_⟩:=h
  rfl
 obtain⟨st,tg,sp,nu,adr,v,ws,ps,S,y,n,rfl,hS,hv,hyp,hyS,hn,hlr,hSl,hgs,q⟩:=h
 have nd:=sc_Stand_word_wanting.nd
 have hnum:=y9_ hn hlr
 obtain⟨bk,rfl,hat⟩:=jam_ hv
 obtain⟨dx,hst⟩:=hS.ins
 obtain⟨ks,p1,p2,p3,p4⟩:=hS.sp.ex
 obtain⟨rc,zc,r1,r2,r3,r4⟩:=p4 y hyp
 have hzl:=r3.length
 rw[pb_] at hzl
 refine⟨_,(je_ (j1_ pu_ rfl (zb_ (K:=K) (v0_ (N:=patKind) (P:=P) (w:=w) rfl rfl (z4_ hr) (vo_ (pv 0) rfl) (pv 1) (fun _ _=>rfl))) (jj_ (i:=2) nd rfl (Or.inl rfl))
   (je_ (jm_ (i:=3) nd rfl (Or.inl rfl) (zk_ jjz_ rfl T.z_list (by decide +kernel) (ja_ (v0_ (N:=viewKind) (P:=P) (w:=w) rfl rfl (z4_ hr) (vo_ (pv 0) rfl) (pv 2) (fun _ _=>rfl)) jc_)))
  (je_ (zp_ (z2_ (K:=K) p9_ kl_ km_ jfp_ (pv 3) (ja_ (jn_ D_number_of hr.mo_ rfl (ja_ (pv 1) jc_)) jc_)))
  (je_ (jm_ (i:=4) nd rfl (Or.inl rfl) (zs_ (o_eq hr.units) (jk_ xp_ (jcf_ rfl rfl T.z_max (pv 3) jf_) jf_) jf_ (j3_ _)))
  (ji_ (y1_ (zd_ (o_ne hr.units) (pv 4) (jxx_ (px_in (N:=viewKind) (P:=P) (w:=w) rfl rfl (z4_ hr) (pv 2) (vo_ (pv 0) rfl))) (j3_ _))
   (ji_ (j2_ (jz_ (js_ (K:=K)) (pv 2) jf_ (fun _ _=>rfl))))
   z1_))))))
  (ji_ (j2_ xx_))),?_⟩
 rw[show L2.start ["self","pattern","spot","others","breaks_without"] [.ref st,.ref bk]=[some (.ref st),some (.ref bk),none,none,none] from rfl]
 walk_at "go"
 refine vt_ ?_
 walk_at "go"
 refine vj_ ?_
 walk_at "go"
 refine vr_ hst O.cl O.n_spots rfl ?_
 walk_at "go"
 refine⟨sp,_,rfl,⟨ks,pk y,bk,.inl p1,p2,rfl,hat,r1.symm⟩,?_⟩
 refine xg_ (SqL.of r2) ?_
 refine zh_ (K:=K) (xs:=zc) (fun j σ H'=>∃(v2 v3 v4:Option V),σ=[some (.ref st),some (.ref bk),v2,v3,v4]/\(∀ s∈(jl_ ws y).take j,zw_ ws S y s=false)/\Same H H')
  ⟨none,none,none,rfl,(fun s hs=>by simp at hs),Same.refl _⟩ (fun j σ H' _ ⟨_,_,_,_,_,k⟩=>SqL.of (k _ _ r2)) ?_ ?_
 ·rintro j s0 σ Ha hs0 ⟨v2,v3,v4,rfl,hwf,sa⟩
  have hj:j < (jl_ ws y).length:=by have:=(pj_.mp hs0).1;omega
  obtain⟨y',d,hy',hd1,hIs⟩:=IsL.get (IsL.same sa r3) (show j < ((jl_ ws y).map sptD).length by simpa using hj)
  rw[hs0] at hy'
  cases hy'
  rw[pf_,pa_ hj] at hd1
  cases hd1
  have hmem:=ps_ hj
  have htk2:(jl_ ws y).take (j+1)=(jl_ ws y).take j++[(jl_ ws y)[j]]:=by rw[p8_,pa_ hj];rfl
  have hsplit:jl_ ws y=(jl_ ws y).take j++(jl_ ws y)[j]::(jl_ ws y).drop (j+1):=by
   rw[<- re_ hj,sh_]
  have hwant:zw_ ws S y (jl_ ws y)[j]=true->zq_ ws S y=some ((jl_ ws y)[j]).1:=fun hq=>by
   have hf:(jl_ ws y).find? (zw_ ws S y)=some (jl_ ws y)[j]:=(congrArg (List.find? (zw_ ws S y)) hsplit).trans (by
    rw[t1_,q6_.mpr (fun s hs=>by rw[hwf s hs];exact pk_),rp_,hq];rfl)
   unfold zq_
   rw[hf];rfl
  rw[htk2]
  generalize (jl_ ws y)[j]=sj at *
  obtain⟨kb,rfl,ekb⟩:=jqw_ hIs
  have hSa:=hS.same sa
  obtain⟨kn,n1,n2,n3,n4⟩:=hSa.nu.ex
  have hus:j7_ ws ps sj:=⟨y,hyp,hmem⟩
  obtain⟨ns,m1,m2⟩:=hSa.nu.lst sj hus
  have hsta:=sa _ _ hst
  obtain⟨kt,g1,g2,g3,g4⟩:=hSa.tg.ex
  have hnl:=m2.length_eq
  have hnl2:=jqx_ ws S sj
  walk_at "go"
  refine vt_ ?_
  walk_at "go"
  refine vj_ ?_
  walk_at "go"
  refine vr_ hsta O.cl O.n_numbers rfl ?_
  walk_at "go"
  refine⟨nu,_,rfl,⟨kn,vk sj.1 sj.2,kb,.inl n1,n2,rfl,ekb,((n4 sj).1 hus).symm⟩,?_⟩
  walk_at "go"
  refine jhq_ (j5_ m1) fun ot hot=>?_
  have sot:=jd_ hot (.lst (ns.map V.int))
  have eot:=jb_ (H:=Ha) (a:=ot) (o:=.lst (ns.map V.int))
  generalize upd Ha ot (.lst (ns.map V.int))=Hb at sot eot ⊢
  walk_at "go"
  refine⟨.ref bk,y,n,rfl,Is.same (sa.trans sot) hv,hn,hlr,?_⟩
  have hin:n∈ns:=by rw[<- hnum];exact m2.mem_iff.mpr (jcv_ hyS hmem)
  walk_at "go"
  refine jia_ eot hin ?_
  have eot2:=jb_ (H:=Hb) (a:=ot) (o:=.lst ((ns.erase n).map V.int))
  have sac:Same Ha (upd Hb ot (.lst ((ns.erase n).map V.int))):=fun c o e=>by rw[jh_ (jg_ e hot)];exact sot _ _ e
  generalize upd Hb ot (.lst ((ns.erase n).map V.int))=Hc at eot2 sac ⊢
  have sc:=sa.trans sac
  have hstc:=sac _ _ hsta
  have hmx:mxL (ns.erase n)=mxL ((ju_ ws S sj).erase (numF y)):=by rw[hnum];exact jgs_ fun k=>(m2.erase n).mem_iff
  have hwr:zw_ ws S y sj=(decide (mxL (ns.erase n) % 2=1) != yj_ ws sj):=by unfold zw_;rw[hmx]
  have hge:∀ k∈ns.erase n,0<=k:=fun k hk=>jit_ (m2.mem_iff.mp (List.mem_of_mem_erase hk))
  have htold:=jnv_ hgs sj
  walk_at "go"
  refine jhd_ ?_
  walk_at "go"
  refine⟨ot,ns.erase n,rfl,eot2,fun h0=>?_,fun m h1 h2=>?_⟩
  case' refine_1 =>
   have hm:(0:Int)=mxL (ns.erase n):=by rw[h0];rfl
  case' refine_2=>have hm:m=mxL (ns.erase n):=jro_ hge h1 h2
  all_goals
   walk_at "go"
   first
    | rw[show decide (V.int (m % 2)=V.int 1)=decide (mxL (ns.erase n) % 2=1) from by rw[<- hm];simp]
    | rw[show decide (V.int ((0:Int) % 2)=V.int 1)=decide (mxL (ns.erase n) % 2=1) from by rw[<- hm];simp]
   refine i_xin ?_
   walk_at "go"
   refine vj_ ?_
   walk_at "go"
   refine vr_ hstc O.cl O.n_told_gaps rfl ?_
   have ekbc:=sac _ _ ekb
   have g2c:KO viewKind Hc kt:=fun x hx=>sac _ _ (g2 x hx)
   refine⟨tg,_,rfl,⟨kt,vk sj.1 sj.2,kb,.inl (sac _ _ g1),g2c,rfl,ekbc,rfl⟩,?_⟩
   rw[g3,<- htold]
   walk_at "go"
   cases hw:zw_ ws S y sj with
   | true =>
    rw[hwr] at hw
    try refine⟨true,?_,?_⟩
    try (congr 1;generalize decide (mxL (ns.erase n) % 2=1)=p1 at hw ⊢;generalize yj_ ws sj=p2 at hw ⊢;cases p1 <;> cases p2 <;> first | rfl | (exact absurd hw (by decide)))
    try refine yl_ (by generalize decide (mxL (ns.erase n) % 2=1)=p1 at hw ⊢;generalize yj_ ws sj=p2 at hw ⊢;cases p1 <;> cases p2 <;> first | rfl | (exact absurd hw (by decide))) ?_
    walk_at "go"
    rw[<- hwr] at hw
    rw[hwant hw] at q
    exact q Hc sc
   | false =>
    have hw0:=hw
    rw[hwr] at hw
    try refine⟨false,?_,?_⟩
    try (congr 1;generalize decide (mxL (ns.erase n) % 2=1)=p1 at hw ⊢;generalize yj_ ws sj=p2 at hw ⊢;cases p1 <;> cases p2 <;> first | rfl | (exact absurd hw (by decide)))
    try refine yp_ (by generalize decide (mxL (ns.erase n) % 2=1)=p1 at hw ⊢;generalize yj_ ws sj=p2 at hw ⊢;cases p1 <;> cases p2 <;> first | rfl | (exact absurd hw (by decide))) ?_
    walk_at "go"
    refine⟨_,_,_,rfl,fun s hs=>?_,sc⟩
    rcases pt_.mp hs with q' | q'
    ·exact hwf s q'
    ·rw[pv_.mp q'];exact hw0
 ·rintro σ Ha ⟨v2,v3,v4,rfl,hwf,sa⟩
  rw[hzl,p0_] at hwf
  have hnone:zq_ ws S y=none:=by
   unfold zq_
   rw[q6_.mpr fun s hs=>by rw[hwf s hs];exact pk_];rfl
  rw[hnone] at q
  walk_at "go"
  exact q Ha sa
theorem jec_ (T:Txt mg tk)(O:Ow K mg cO)(F:Fun K "leave_out" "Stand.leave_out" s_Stand_leave_out f fd)(D_number_of:Dn P w K mg base "number_of" 1 ["pattern"] jau_):FnOk P w K mg base CX0 2 f fd ["self","pattern"] (jhr_ P w cO):=by
 refine F.ok sc_Stand_leave_out (fun vs H Q E h=>?_) (fun cdv A outer s H vs Q E hr h=>?_)
 ·obtain⟨st,tg,sp,nu,adr,v,ws,ps,S,y,n,rfl,_⟩:=h
  rfl
 obtain⟨st,tg,sp,nu,adr,v,ws,ps,S,y,n,rfl,hS,hv,hyp,hyS,hn,hlr,hwn,q⟩:=h
 have nd:=sc_Stand_leave_out.nd
 have hnum:=y9_ hn hlr
 obtain⟨bk,rfl,hat⟩:=jam_ hv
 obtain⟨dx,hst⟩:=hS.ins
 obtain⟨ks,p1,p2,p3,p4⟩:=hS.sp.ex
 obtain⟨rc,zc,r1,r2,r3,r4⟩:=p4 y hyp
 have hzl:=r3.length
 rw[pb_] at hzl
 refine⟨_,(ji_ (j1_ pu_ rfl (zb_ (K:=K) (v0_ (N:=patKind) (P:=P) (w:=w) rfl rfl (z4_ hr) (vo_ (pv 0) rfl) (pv 1) (fun _ _=>rfl))) (jj_ (i:=2) nd rfl (Or.inl rfl))
   (ji_ (zp_ (z2_ (K:=K) p9_ kl_ km_ jfp_ (v0_ (N:=viewKind) (P:=P) (w:=w) rfl rfl (z4_ hr) (vo_ (pv 0) rfl) (pv 2) (fun _ _=>rfl)) (ja_ (jn_ D_number_of hr.mo_ rfl (ja_ (pv 1) jc_)) jc_)))))),?_⟩
 rw[show L2.start ["self","pattern","spot"] [.ref st,.ref bk]=[some (.ref st),some (.ref bk),none] from rfl]
 walk_at "go"
 refine vt_ ?_
 walk_at "go"
 refine vj_ ?_
 walk_at "go"
 refine vr_ hst O.cl O.n_spots rfl ?_
 walk_at "go"
 refine⟨sp,_,rfl,⟨ks,pk y,bk,.inl p1,p2,rfl,hat,r1.symm⟩,?_⟩
 refine xg_ (SqL.of r2) ?_
 have hsnd:=up_ (y:=y) hwn
 refine zh_ (K:=K) (xs:=zc) (fun j σ H'=>∃(v2:Option V),σ=[some (.ref st),some (.ref bk),v2]/\H' st=some (.ins cO dx [(("told_gaps":Str),.ref tg),(("spots":Str),.ref sp),(("numbers":Str),.ref nu)])/\TGd P w H' tg (gapL ws)/\SPd P w H' sp ws ps (fun r=>∃ s,j7_ ws ps s/\r=adr s)/\NUd P w H' nu adr (j7_ ws ps) (fun s=>if s∈(jl_ ws y).take j then ju_ ws (S.erase y) s else ju_ ws S s) 2000000/\(∀ b o,(∀ s,j7_ ws ps s->b≠adr s)->H b=some o->H' b=some o))
  ⟨none,rfl,hst,hS.tg,hS.sp,hS.nu.perm (fun s _=>by simp),fun _ _ _ e=>e⟩ (fun j σ H' _ ⟨_,_,_,_,_,_,k⟩=>SqL.of (k _ _ (fun s hs z=>r4 ⟨s,hs,z⟩) r2)) ?_ ?_
 ·rintro j s0 σ Ha hs0 ⟨v2,rfl,esa,tga,spa,nua,ka⟩
  have hj:j < (jl_ ws y).length:=by have:=(pj_.mp hs0).1;omega
  have tka:∀ c zs,H c=some (.tup zs)->Ha c=some (.tup zs):=fun c zs e=>ka _ _ (fun s hs z=>by
   obtain⟨ns,m1,_⟩:=hS.nu.lst s hs
   rw[z,m1] at e;cases e) e
  obtain⟨y',d,hy',hd1,hIs⟩:=IsL.get (IsL.tk tka (zv_ _) r3) (show j < ((jl_ ws y).map sptD).length by simpa using hj)
  rw[hs0] at hy'
  cases hy'
  rw[pf_,pa_ hj] at hd1
  cases hd1
  have hmem:=ps_ hj
  have hnew:(jl_ ws y)[j]∉(jl_ ws y).take j:=fun z=>by
   have h1:=hsnd
   rw[<- sh_ j (jl_ ws y)] at h1
   refine(qq_.mp h1).2.2 _ z _ ?_ rfl
   rw[re_ hj];exact pn_
  have htk2:(jl_ ws y).take (j+1)=(jl_ ws y).take j++[(jl_ ws y)[j]]:=by rw[p8_,pa_ hj];rfl
  rw[htk2]
  generalize (jl_ ws y)[j]=sj at *
  generalize (jl_ ws y).take j=lj at *
  obtain⟨kb,rfl,ekb⟩:=jqw_ hIs
  obtain⟨kn,n1,n2,n3,n4⟩:=nua.ex
  have hus:j7_ ws ps sj:=⟨y,hyp,hmem⟩
  obtain⟨ns,m1,m2⟩:=nua.lst sj hus
  rw[if_neg hnew] at m2
  walk_at "go"
  refine vt_ ?_
  walk_at "go"
  refine vj_ ?_
  walk_at "go"
  refine vr_ esa O.cl O.n_numbers rfl ?_
  walk_at "go"
  refine⟨nu,_,rfl,⟨kn,vk sj.1 sj.2,kb,.inl n1,n2,rfl,ekb,((n4 sj).1 hus).symm⟩,?_⟩
  walk_at "go"
  refine⟨.ref bk,y,n,rfl,Is.tk tka (yb_ _) hv,hn,hlr,?_⟩
  have hin:n∈ns:=by rw[<- hnum];exact m2.mem_iff.mpr (jcv_ hyS hmem)
  walk_at "go"
  refine jia_ m1 hin ?_
  walk_at "go"
  have hpe:(ns.erase n).Perm (ju_ ws (S.erase y) sj):=(m2.erase n).trans (hnum▸u6_ hyS (decide_eq_true hmem))
  have nuf:=nua.old hus m1 hpe
  have kne:∀ c o,c≠adr sj->Ha c=some o->(upd Ha (adr sj) (.lst ((ns.erase n).map V.int))) c=some o:=fun c o q e=>by rw[jh_ q];exact e
  have tke:∀ c zs,Ha c=some (.tup zs)->(upd Ha (adr sj) (.lst ((ns.erase n).map V.int))) c=some (.tup zs):=fun c zs e=>kne _ _ (fun q=>by rw[q,m1] at e;cases e) e
  refine⟨_,rfl,kne _ _ (fun q=>by rw[<- q,esa] at m1;cases m1) esa,tga.tk (fun o e=>kne _ _ (fun q=>by rw[<- q,tga.ex.choose_spec.1] at m1;cases m1) e) tke,spa.mono (fun o e=>kne _ _ (fun q=>by rw[<- q,spa.ex.choose_spec.1] at m1;cases m1) e) tke (fun r zs e q=>⟨kne _ _ (fun q'=>q ⟨sj,hus,q'⟩) e,q⟩),nuf.perm (fun s _=>?_),fun b o q e=>kne _ _ (q sj hus) (ka b o q e)⟩
  by_cases es:s=sj
  ·rw[if_pos es,if_pos (by rw[es];simp),es]
  ·rw[if_neg es]
   have:s∈lj++[sj]↔s∈lj:=by rw[pt_,pv_];exact⟨fun q=>q.resolve_right es,fun q=>.inl q⟩
   by_cases q':s∈lj
   ·rw[if_pos q',if_pos (this.mpr q')]
   ·rw[if_neg q',if_neg (fun z=>q' (this.mp z))]
 ·rintro σ Ha ⟨v2,rfl,esa,tga,spa,nua,ka⟩
  rw[hzl,p0_] at nua
  exact q Ha ⟨⟨dx,esa⟩,tga,spa,nua.perm fun s _=>by
   by_cases h:s∈jl_ ws y
   ·rw[if_pos h]
   ·rw[if_neg h];exact(jbt_ (decide_eq_false h)).symm⟩ ka
end
noncomputable abbrev s_left_of_round:Stmt:=top 20
theorem sc_left_of_round:FnScope ["stand","patterns","left","pattern"] ["stand","patterns"] (jp_ s_left_of_round):=by walk_at "f"
noncomputable def rnd (ws S:List Pat):List Pat:=yg_ ws S.reverse S
theorem vz_ (ws:List Pat)(y:Pat):∀(r S:List Pat),yg_ ws (r++[y]) S=(if zq_ ws (yg_ ws r S) y=none then (yg_ ws r S).erase y else yg_ ws r S)
 | [],S=>rfl
 | x::r,S=>by
  show yg_ ws (r++[y]) _=_
  rw[vz_ ws y r];rfl
theorem jys_ {H:Hp}{Q:VK}{l:Addr}{i:Int}{y:V}{xs:List V}(h1:H l=some (.lst xs))(h2:0<=i/\i<=xs.length/\xs.length < 1000000)(h:Q .non (upd H l (.lst (xs.take i.toNat++y::xs.drop i.toNat)))):jcm_ (.ref l) [.int i,y] H Q:=by
 unfold jcm_
 simp only[h1]
 exact⟨h2.1,h2.2.1,h2.2.2,h⟩
def jgn_ (P:Program)(w:World)(C:Addr):Sp:=fun vs H Q _=>∃(st tg sp nu pa:Addr) (adr:Spt->Addr) (yp:List V) (ws ps S:List Pat),vs=[.ref st,.ref pa]/\StA P w C H st tg sp nu adr ws ps S/\H pa=some (.lst yp)/\L2.IsL H yp (S.map patD)/\(∀ s,j7_ ws ps s->pa≠adr s)/\(∀ y∈S,y∈ps)/\S.Nodup/\(∀ y∈ps,∃ n,0 < n/\Lr n y)/\S.length<=9000/\(∀ x∈ws,∀ g∈x.2,∃ k:Nat,g=(k:Int))/\(ws.map (·.1)).Nodup /\
 ∀(r:Addr) (zl:List V) (H':Hp),H r=none->H' r=some (.lst zl)->L2.IsL H' zl ((rnd ws S).map patD)->StA P w C H' st tg sp nu adr ws ps (rnd ws S)->(∀ b o,(∀ s,j7_ ws ps s->b≠adr s)->H b=some o->H' b=some o)->Q (.ref r) H'
section
variable {P:Program}{w:World}{K:pc_}{mg:Str->Option Value}{base:Heap}{f:Addr}{fd:FuncData}{tk:Nat->Tok}{cO:Addr}
theorem jbd_ (T:Txt mg tk)(O:Ow K mg cO)(F:Fun K "left_of_round" "left_of_round" s_left_of_round f fd)(D_Stand_word_wanting:Dm P w K mg base cO "word_wanting" 2 ["self","pattern"] (jho_ P w cO))(D_Stand_leave_out:Dm P w K mg base cO "leave_out" 2 ["self","pattern"] (jhr_ P w cO)):FnOk P w K mg base CX0 3 f fd ["stand","patterns"] (jgn_ P w cO):=by
 refine F.ok sc_left_of_round (fun vs H Q E h=>?_) (fun cdv A outer s H vs Q E hr h=>?_)
 ·obtain⟨st,tg,sp,nu,pa,adr,yp,ws,ps,S,rfl,_⟩:=h
  rfl
 obtain⟨st,tg,sp,nu,pa,adr,yp,ws,ps,S,rfl,hS,hpa,hyp,hpad,hsub,hnd,hlr,hSl,hgs,hwn,q⟩:=h
 have nd:=sc_left_of_round.nd
 have hypl:=hyp.length
 rw[pb_] at hypl
 refine⟨_,(je_ (jm_ (i:=2) nd rfl (Or.inl rfl) (j6_ jc_))
  (je_ (j1_ pu_ rfl (juv_ (K:=K) rfl rfl T.z_reversed (pv 1)) (jj_ (i:=3) nd rfl (Or.inl rfl))
   (ji_ (y1_ (zd_ o_is (jcu_ (pv 0) O.cl D_Stand_word_wanting hr.mo_ (ja_ (pv 3) jc_)) xx_ (j3_ _))
   (ji_ (zp_ (jcu_ (pv 0) O.cl D_Stand_leave_out hr.mo_ (ja_ (pv 3) jc_))))
   (ji_ (zp_ (z2_ (K:=K) p9_ PySem.F.slot_list_insert PySem.F.type_list_insert joy_ (pv 2) (ja_ jf_ (ja_ (pv 3) jc_))))))))
  (ji_ (j2_ (pv 2))))),?_⟩
 rw[show L2.start ["stand","patterns","left","pattern"] [.ref st,.ref pa]=[some (.ref st),some (.ref pa),none,none] from rfl]
 walk_at "go"
 intro lf hlf
 have s1:=jd_ hlf (.lst [])
 have elf:=jb_ (H:=H) (a:=lf) (o:=.lst [])
 have hS1:=hS.same s1
 have hpa1:=s1 _ _ hpa
 have hyp1:=IsL.same s1 hyp
 generalize upd H lf (.lst [])=H1 at s1 elf hS1 hpa1 hyp1 ⊢
 have hlfa:∀ s,j7_ ws ps s->lf≠adr s:=fun s hs z=>by
  obtain⟨ns,m1,_⟩:=hS.nu.lst s hs
  rw[<- z,hlf] at m1;cases m1
 have spx:SPd P w H1 sp ws ps (fun r=>(∃ s,j7_ ws ps s/\r=adr s)∨r=lf):=hS.sp.mono (fun o e=>s1 _ _ e) (fun c zs e=>s1 _ _ e) (fun r zs e q'=>⟨s1 _ _ e,fun z=>z.elim q' fun z=>by rw[z,hlf] at e;cases e⟩)
 have lfpa:lf≠pa:=fun z=>by rw[z,hpa] at hlf;cases hlf
 walk_at "go"
 refine jqd_ ?_
 walk_at "go"
 refine⟨pa,yp,rfl,SqL.of hpa1,?_⟩
 refine jrt_ (K:=K) (xs:=yp) (fun i σ H'=>∃(v3:Option V) (zl:List V) (L:List Pat),σ=[some (.ref st),some (.ref pa),some (.ref lf),v3]/\H' lf=some (.lst zl)/\L2.IsL H' zl (L.map patD)/\yg_ ws (S.reverse.take i) S=S.take (S.length - i)++L/\L.length<=i/\StA P w cO H' st tg sp nu adr ws ps (S.take (S.length - i)++L)/\SPd P w H' sp ws ps (fun r=>(∃ s,j7_ ws ps s/\r=adr s)∨r=lf)/\(∀ b o,(∀ s,j7_ ws ps s->b≠adr s)->b≠lf->H1 b=some o->H' b=some o))
  ⟨none,[],[],rfl,elf,(by simp[L2.IsL]),(by simp[yg_]),pm_ _,(by simpa using hS1),spx,fun _ _ _ _ e=>e⟩ (fun i σ H' _ ⟨_,_,_,_,_,_,_,_,_,_,k⟩=>SqL.of (k _ _ hpad lfpa.symm hpa1)) ?_ ?_
 ·rintro i v σ Ha hv ⟨v3,zl,L,rfl,ela,hzl,hrs,hLl,hSa,spa,ka⟩
  have hi:i < S.length:=by
   have:=(pj_.mp hv).1
   rw[List.length_reverse] at this;omega
  have hil:S.length - 1 - i < S.length:=by omega
  have hvi:yp[S.length - 1 - i]?=some v:=by
   rw[wb_ (by omega),hypl] at hv
   exact hv
  have tka:∀ c zs,H1 c=some (.tup zs)->Ha c=some (.tup zs):=fun c zs e=>ka _ _ (fun s hs z=>by
   obtain⟨ns,m1,_⟩:=hS1.nu.lst s hs
   rw[z,m1] at e;cases e) (fun z=>by rw[z,elf] at e;cases e) e
  obtain⟨y',d,hy',hd1,hI⟩:=IsL.get (IsL.tk tka (jw_ _) hyp1) (show S.length - 1 - i < (S.map patD).length by simpa using hil)
  rw[hvi] at hy'
  cases hy'
  rw[pf_,pa_ hil] at hd1
  cases hd1
  have hmem:=ps_ hil
  have hyr:S.reverse.take (i+1)=S.reverse.take i++[S[S.length - 1 - i]]:=by
   rw[p8_,wb_ hi,pa_ hil];rfl
  have htk:S.take (S.length - i)=S.take (S.length - (i+1))++[S[S.length - 1 - i]]:=by
   rw[show S.length - (i+1)=S.length - 1 - i by omega,show S.length - i=(S.length - 1 - i)+1 by omega,p8_,pa_ hil];rfl
  have hnin:S[S.length - 1 - i]∉S.take (S.length - (i+1)):=fun z=>by
   have h1:(S.take (S.length - i)).Nodup:=hnd.sublist (List.take_sublist _ _)
   rw[htk] at h1
   exact(qq_.mp h1).2.2 _ z _ (by simp) rfl
  rw[hyr,vz_,hrs]
  rw[htk] at hSa hrs ⊢
  have hlt:(S.take (S.length - (i+1))).length<=9000:=by rw[pw_];omega
  obtain⟨n,hn,hln⟩:=hlr _ (hsub _ hmem)
  have hyp':=hsub _ hmem
  have hrsl:(yg_ ws (S.reverse.take i) S).length<=9000:=by
   rw[hrs,pe_,pe_];rw[pw_];show _+1+_<=_;omega
  generalize S[S.length - 1 - i]=y at *
  generalize S.take (S.length - (i+1))=A at *
  obtain⟨dxa,hsta⟩:=hSa.ins
  have hyS:y∈A++[y]++L:=by simp
  have hSl2:(A++[y]++L).length<=9000:=by rw[<- hrs];exact hrsl
  obtain⟨bk,rfl,hat⟩:=jam_ hI
  walk_at "go"
  refine jkr_ ?_
  walk_at "go"
  refine jkp_ hsta rfl ?_
  walk_at "go"
  refine⟨st,tg,sp,nu,adr,.ref bk,ws,ps,A++[y]++L,y,n,rfl,hSa,hI,hyp',hyS,hn,hln,hSl2,hgs,fun Hb sb=>?_⟩
  have elb:=sb _ _ ela
  have hzlb:=IsL.same sb hzl
  have hSb:=hSa.same sb
  have spb:=spa.mono (H':=Hb) (bad':=fun r=>(∃ s,j7_ ws ps s/\r=adr s)∨r=lf) (fun o e=>sb _ _ e) (fun c zs e=>sb _ _ e) (fun r zs e q'=>⟨sb _ _ e,q'⟩)
  have hIb:=Is.same sb hI
  have hstb:=sb _ _ hsta
  walk_at "go"
  have hlfn:lf≠st/\lf≠tg/\lf≠sp/\lf≠nu:=⟨(fun z=>by rw[z,hsta] at ela;cases ela),(fun z=>by rw[z,hSa.tg.ex.choose_spec.1] at ela;cases ela),(fun z=>by rw[z,hSa.sp.ex.choose_spec.1] at ela;cases ela),(fun z=>by rw[z,hSa.nu.ex.choose_spec.1] at ela;cases ela)⟩
  cases hw:zq_ ws (A++[y]++L) y with
  | none =>
   have hv0:decide (wV (none:Option (List Nat))=V.non)=true:=by simp[wV]
   refine yl_ hv0 ?_
   walk_at "go"
   refine jkr_ ?_
   walk_at "go"
   refine jkp_ hstb rfl ?_
   walk_at "go"
   refine⟨st,tg,sp,nu,adr,.ref bk,ws,ps,A++[y]++L,y,n,rfl,hSb,hIb,hyp',hyS,hn,hln,hwn,fun Hc hSc kc=>?_⟩
   have hera:(A++[y]++L).erase y=A++L:=by
    rw[qw_,List.erase_append_right _ hnin]
    show A++(y::L).erase y=_
    rw[lp_]
   rw[hera] at hSc
   walk_at "go"
   have tkc:∀ c zs,Hb c=some (.tup zs)->Hc c=some (.tup zs):=fun c zs e=>kc _ _ (fun s hs z=>by
    obtain⟨ns,m1,_⟩:=hSb.nu.lst s hs
    rw[z,m1] at e;cases e) e
   exact⟨_,zl,L,rfl,kc _ _ hlfa elb,IsL.tk tkc (jw_ _) hzlb,by rw[if_pos rfl,hera],by omega,hSc,spb.mono (fun o e=>kc _ _ (fun s hs z=>by
    obtain⟨ns,m1,_⟩:=hSb.nu.lst s hs
    rw[<- z,e] at m1
    have:=hSb.sp.ex.choose_spec.1
    rw[this] at e
    injection e with e
    rw[<- e] at m1;cases m1) e) tkc (fun r zs e q'=>⟨kc _ _ (fun s hs z=>q' (.inl ⟨s,hs,z⟩)) e,q'⟩),fun b o h1 h2 e=>kc _ _ h1 (sb _ _ (ka b o h1 h2 e))⟩
  | some u =>
   refine yp_ (by simp[wV]) ?_
   walk_at "go"
   have hzll:=hzlb.length
   rw[pb_] at hzll
   refine jys_ elb ⟨by decide,by omega,by omega⟩ ?_
   walk_at "go"
   have e0:zl.take (0:Int).toNat++V.ref bk::zl.drop (0:Int).toNat=V.ref bk::zl:=rfl
   rw[e0]
   have kne:∀ c o,c≠lf->Hb c=some o->(upd Hb lf (.lst (V.ref bk::zl))) c=some o:=fun c o q e=>by rw[jh_ q];exact e
   have k4:Tk Hb (upd Hb lf (.lst (V.ref bk::zl))):=fun c zs e=>kne _ _ (fun z=>by rw[z,elb] at e;cases e) e
   have hap:A++[y]++L=A++(y::L):=by simp
   have hSd:StA P w cO (upd Hb lf (.lst (V.ref bk::zl))) st tg sp nu adr ws ps (A++[y]++L):=⟨⟨dxa,kne _ _ hlfn.1.symm hstb⟩,hSb.tg.tk (fun o e=>kne _ _ hlfn.2.1.symm e) k4,spb.mono (fun o e=>kne _ _ hlfn.2.2.1.symm e) k4 (fun r zs e q'=>⟨kne _ _ (fun z=>q' (.inr z)) e,fun z=>q' (.inl z)⟩),hSb.nu.mono (fun o e=>kne _ _ hlfn.2.2.2.symm e) k4 (fun s o hs e=>kne _ _ (hlfa s hs).symm e)⟩
   have spd:SPd P w (upd Hb lf (.lst (V.ref bk::zl))) sp ws ps (fun r=>(∃ s,j7_ ws ps s/\r=adr s)∨r=lf):=spb.mono (fun o e=>kne _ _ hlfn.2.2.1.symm e) k4 (fun r zs e q'=>⟨kne _ _ (fun z=>q' (.inr z)) e,q'⟩)
   ·rw[hap] at hSd
    refine⟨_,V.ref bk::zl,y::L,rfl,jb_,?_,by rw[if_neg (by simp),hap],by show _+1<=_;omega,hSd,spd,fun b o h1 h2 e=>kne _ _ h2 (sb _ _ (ka b o h1 h2 e))⟩
    rw[pr_]
    simp only[L2.IsL]
    exact⟨Is.tk k4 (yb_ _) hIb,IsL.tk k4 (jw_ _) hzlb⟩
 ·rintro σ Ha ⟨v3,zl,L,rfl,ela,hzl,hrs,hLl,hSa,spa,ka⟩
  rw[hypl,t9_,lr_,sq_] at hSa hrs
  rw[show S.reverse.take S.length=S.reverse by rw[<- List.length_reverse,p0_]] at hrs
  have hL:L=rnd ws S:=hrs.symm
  subst hL
  walk_at "go"
  exact q lf zl Ha hlf ela hzl hSa fun b o hb e=>ka b o hb (jg_ e hlf) (s1 _ _ e)
end
noncomputable abbrev s_full:Stmt:=top 21
theorem sc_full:FnScope ["words","levels","patterns","stand","left"] ["words","levels"] (jp_ s_full):=by walk_at "f"
theorem xn_ (ws:List Pat):∀(r S:List Pat),(yg_ ws r S).Sublist S
 | [],S=>l7_ _
 | y::r,S=>by
  show (yg_ ws r _).Sublist S
  split
  ·exact(xn_ ws r _).trans List.erase_sublist
  ·exact xn_ ws r S
theorem jbz_ (ws S:List Pat):(rnd ws S).Sublist S:=xn_ ws _ S
noncomputable def zj_ (ws:List Pat):Nat->List Pat->List Pat
 | 0,S=>S
 | k+1,S=>if (rnd ws S).length < S.length then zj_ ws k (rnd ws S) else rnd ws S
theorem ut_ (ws:List Pat):∀(k k':Nat) (S:List Pat),S.length < k->S.length < k'->zj_ ws k S=zj_ ws k' S
 | 0,_,S,h,_=>by omega
 | _,0,S,_,h=>by omega
 | k+1,k'+1,S,h,h'=>by
  unfold zj_
  split
  ·exact ut_ ws k k' _ (by omega) (by omega)
  ·rfl
theorem jrr_ {n m:Int}{y:Pat}(hn:0 < n)(hm:0 < m)(h1:Lr n y)(h2:Lr m y):n=m:=by rw[<- y9_ hn h1,y9_ hm h2]
theorem jqq_ {ws xs:List Pat}{n:Int}{c:Option Int}:∀{k:Nat}{a:List Pat},LV ws xs n c k a->a.Nodup
 | 0,a,h=>by rw[show a=[] from h];exact lq_
 | k+1,a,h=>by
  obtain⟨a1,a2,p1,p2,rfl⟩:=h
  refine qq_.mpr ⟨jqq_ p1,xa_ p2.2.1,fun x hx y hy e=>?_⟩
  subst e
  obtain⟨L,as,hL,ho⟩:=jdq_ p1 x hx
  have h1:=(ud_ x ho).1
  have h2:=(ud_ x ((p2.2.2 x).mp hy).1).1
  omega
theorem jsk_ {ws:List Pat}{lvs:List (Nat×Option Int)}:∀{k:Nat}{a:List Pat},TL ws lvs k a->a.Nodup/\∀ y∈a,∃ n:Int,0 < n/\n<=(k:Int)/\Lr n y
 | 0,a,h=>by rw[show a=[] from h];exact⟨lq_,fun y hy=>by cases hy⟩
 | k+1,a,h=>by
  obtain⟨a1,a2,l,p1,p2,p3,rfl⟩:=h
  obtain⟨i1,i2⟩:=jsk_ p1
  have h2:=jxm_ p3
  refine⟨qq_.mpr ⟨i1,jqq_ p3,fun x hx y hy e=>?_⟩,fun y hy=>?_⟩
  ·subst e
   obtain⟨n,hn,hnk,hl⟩:=i2 x hx
   have:=jrr_ hn (by omega) hl (h2 x hy)
   omega
  ·rcases pt_.mp hy with q | q
   ·obtain⟨n,hn,hnk,hl⟩:=i2 y q
    exact⟨n,hn,by omega,hl⟩
   ·exact⟨_,by omega,s3_ _,h2 y q⟩
theorem vg_ {ws:List Pat}{lvs:List (Nat×Option Int)}:∀{k:Nat}{a:List Pat},TEn ws lvs k a->a.Nodup/\∀ y∈a,∃ n:Int,0 < n/\n < ((lvs.length / 2 * 2+2+k:Nat):Int)/\Lr n y
 | 0,a,h=>by
  obtain⟨i1,i2⟩:=jsk_ h
  refine⟨i1,fun y hy=>?_⟩
  obtain⟨n,hn,hnk,hl⟩:=i2 y hy
  exact⟨n,hn,by omega,hl⟩
 | k+1,a,h=>by
  obtain⟨a1,a2,p1,p3,rfl⟩:=h
  obtain⟨i1,i2⟩:=vg_ p1
  have h2:=jxm_ p3
  refine⟨qq_.mpr ⟨i1,jqq_ p3,fun x hx y hy e=>?_⟩,fun y hy=>?_⟩
  ·subst e
   obtain⟨n,hn,hnk,hl⟩:=i2 x hx
   have:=jrr_ hn (by omega) hl (h2 x hy)
   omega
  ·rcases pt_.mp hy with q | q
   ·obtain⟨n,hn,hnk,hl⟩:=i2 y q
    exact⟨n,hn,by omega,hl⟩
   ·exact⟨_,by omega,by omega,h2 y q⟩
noncomputable def wD:Option (List Nat)->Dt
 | none=>.non
 | some u=>.str (S u)
theorem jqc_ {H:Hp}(o:Option (List Nat)):Is H (wV o) (wD o):=by
 cases o with
 | none=>simp only[Is,wD,wV]
 | some u=>simp only[Is,wD,wV]
noncomputable def itD (ws R:List Pat)(y:Pat):Dt:=.tup [patD y,wD (zq_ ws R y)]
theorem jvz_ (o:Option (List Nat)):xj_ (wD o)=true:=by cases o <;> rfl
theorem x3_ (ws R:List Pat):∀ l:List Pat,zf_ (l.map (itD ws R))=true
 | []=>rfl
 | y::l=>by
  rw[pr_]
  simp only[zf_,itD,xj_,yb_,jvz_,x3_ ws R l,sv_]
def jlr_:Sp:=fun vs H Q _=>∃(v u:V) (ws:List Pat) (lvs:List (Nat×Option Int)),vs=[v,u]/\Is H v (zc_ ws)/\Is H u (lvsD lvs)/\(∀ x∈ws,1<=x.1.length/\x.1.length<=7)/\(ws.length<=10/\gN ws<=12)/\(∀ l∈lvs,LvOk l)/\lvs.length<=20/\(lvs.length+2) * (gN ws * 81)<=9000/\(∀ x∈ws,x.2.length<=7/\∀ g∈x.2,∃ k:Nat,g=(k:Int))/\(ws.map (·.1)).Nodup /\
 ∀(r:Addr) (zs:List V) (ps:List Pat) (H':Hp),H r=none->H' r=some (.lst zs)->TEn ws lvs 2 ps->L2.IsL H' zs ((zj_ ws (ps.length+1) ps).map (itD ws (zj_ ws (ps.length+1) ps)))->Same H H'->Q (.ref r) H'
section
variable {P:Program}{w:World}{K:pc_}{mg:Str->Option Value}{base:Heap}{f:Addr}{fd:FuncData}{tk:Nat->Tok}{cO:Addr}
theorem jwj_ (T:Txt mg tk)(O:Ow K mg cO)(F:Fun K "full" "full" s_full f fd)(D_taught_to_the_end:Dn P w K mg base "taught_to_the_end" 9 ["words","levels"] jfn_)(D_Stand_init:Dk P w K mg base cO 3 ["self","words","patterns"] (jtg_ P w cO))(D_left_of_round:Dn P w K mg base "left_of_round" 3 ["stand","patterns"] (jgn_ P w cO))(D_Stand_word_wanting:Dm P w K mg base cO "word_wanting" 2 ["self","pattern"] (jho_ P w cO)):FnOk P w K mg base CX0 10 f fd ["words","levels"] jlr_:=by
 refine F.ok sc_full (fun vs H Q E h=>?_) (fun cdv A outer s H vs Q E hr h=>?_)
 ·obtain⟨v,u,ws,lvs,rfl,_⟩:=h
  rfl
 obtain⟨v,u,ws,lvs,rfl,hv,hu,hws,hwl,hlv,hll,hlg,hgs,hwn,q⟩:=h
 have nd:=sc_full.nd
 have hv0:=hv
 obtain⟨va,ys,rfl,hva,hys⟩:=yt_ hv
 refine⟨_,(je_ (jm_ (i:=2) nd rfl (Or.inl rfl) (jn_ D_taught_to_the_end hr.mo_ rfl (ja_ (pv 0) (ja_ (pv 1) jc_))))
  (je_ (jm_ (i:=3) nd rfl (Or.inr rfl) (jrk_ D_Stand_init hr.mo_ rfl O.m_Stand (ja_ (pv 0) (ja_ (pv 2) jc_))))
  (je_ (jm_ (i:=4) nd rfl (Or.inl rfl) (jn_ D_left_of_round hr.mo_ rfl (ja_ (pv 3) (ja_ (pv 2) jc_))))
  (je_ (jjg_ pu_ (zd_ o_lt (jo_ (zm_ (K:=K)) rfl T.z_len (by decide +kernel) (ja_ (pv 4) jc_)) (jo_ (zm_ (K:=K)) rfl T.z_len (by decide +kernel) (ja_ (pv 2) jc_)) (j3_ _))
   (je_ (jm_ (i:=2) nd rfl (Or.inl rfl) (pv 4))
  (ji_ (jm_ (i:=4) nd rfl (Or.inl rfl) (jn_ D_left_of_round hr.mo_ rfl (ja_ (pv 3) (ja_ (pv 2) jc_)))))))
  (ji_ (j2_ (zo_ ["stand","pattern"] [some 3,none] rfl (by kernel_rfl) rfl (zb_ (K:=K) (pv 4)) (fun _ _ _ _=>(jj_ (i:=1) (show (["stand","pattern"]:List Str).Nodup by decide +kernel) rfl (Or.inl rfl) (Or.inr rfl))) (fun _ _ _ _=>z6_) (fun _ _ _ _=>(zx_ (ja_ (pv 1) (ja_ (jcu_ (pv 0) O.cl D_Stand_word_wanting hr.mo_ (ja_ (pv 1) jc_)) jc_))))))))))),?_⟩
 rw[show L2.start ["words","levels","patterns","stand","left"] [.ref va,u]=[some (.ref va),some (u),none,none,none] from rfl]
 walk_at "go"
 refine⟨.ref va,u,ws,lvs,rfl,hv0,hu,hws,hwl,hlv,hll,hlg,fun pa yp ps H1 hpa epa hyp hte s1=>?_⟩
 obtain⟨hpnd,hpnum⟩:=vg_ hte
 have hplen:=y8_ (fun x hx=>(hws x hx).2) hte
 have hpv:=xi_ (fun l hl=>(hlv l hl).1) (fun x hx=>(hws x hx).2) hte
 have eva:=s1 _ _ hva
 walk_at "go"
 refine jzt_ ?_
 walk_at "go"
 intro st dx hst hdx hds
 have s2:Same H1 (upd (upd H1 dx (.own st)) st (.ins cO dx [])):=fun b o e=>by rw[jh_ (jg_ e hst),jh_ (jg_ e hdx)];exact e
 have est:=jb_ (H:=upd H1 dx (.own st)) (a:=st) (o:=.ins cO dx [])
 generalize upd (upd H1 dx (.own st)) st (.ins cO dx [])=H2 at s2 est ⊢
 have s02:=s1.trans s2
 refine⟨st,va,pa,dx,ys,yp,ws,ps,rfl,est,s02 _ _ hva,s2 _ _ epa,IsL.same s02 hys,IsL.same s2 hyp,hws,hwl.1,hgs,(fun y hy=>by obtain⟨n,h1,_,h2⟩:=hpnum y hy;exact⟨n,h1,h2⟩),(fun y hy=>(hpv y hy).2.1),hpnd,hwn,by omega,fun tg sp nu adr H3 hS fr k3=>⟨rfl,?_⟩⟩
 have hstH:H st=none:=s1.free hst
 have s03:Same H H3:=fun b o e=>k3 _ _ (jg_ e hstH) (s02 _ _ e)
 have past:pa≠st:=fun z=>by rw[z,hst] at epa;cases epa
 have epa3:=k3 _ _ past (s2 _ _ epa)
 have tk3:Tk H1 H3:=fun c zs e=>k3 _ _ (fun z=>by rw[z,hst] at e;cases e) (s2 _ _ e)
 have hyp3:=IsL.tk tk3 (jw_ _) hyp
 have hlr:∀ y∈ps,∃ n,0 < n/\Lr n y:=fun y hy=>by obtain⟨n,h1,_,h2⟩:=hpnum y hy;exact⟨n,h1,h2⟩
 have hgs2:∀ x∈ws,∀ g∈x.2,∃ k:Nat,g=(k:Int):=fun x hx=>(hgs x hx).2
 have hpaa:∀ s,j7_ ws ps s->pa≠adr s:=fun s hs z=>by
  have:=fr s hs
  rw[<- z,s2 _ _ epa] at this;cases this
 have hHa:∀ b o,H b=some o->∀ s,j7_ ws ps s->b≠adr s:=fun b o e s hs z=>by
  have:=fr s hs
  rw[<- z,s02 _ _ e] at this;cases this
 have hypl:=hyp.length
 rw[pb_] at hypl
 have hps9:ps.length<=9000:=by omega
 walk_at "go"
 refine⟨st,tg,sp,nu,pa,adr,yp,ws,ps,ps,rfl,hS,epa3,hyp3,hpaa,(fun y hy=>hy),hpnd,hlr,hps9,hgs2,hwn,fun lf zl H4 hlf elf hzl hS4 k4=>?_⟩
 have hlfa:∀ s,j7_ ws ps s->lf≠adr s:=fun s hs z=>by
  obtain⟨ns,m1,_⟩:=hS.nu.lst s hs
  rw[<- z,hlf] at m1;cases m1
 walk_at "go"
 refine⟨fun m σ H'=>∃(pb lf:Addr) (yb yl:List V) (S:List Pat),σ=[some (.ref va),some u,some (.ref pb),some (.ref st),some (.ref lf)]/\H' pb=some (.lst yb)/\yb.length=S.length/\H' lf=some (.lst yl)/\L2.IsL H' yl ((rnd ws S).map patD)/\StA P w cO H' st tg sp nu adr ws ps (rnd ws S)/\(∀ s,j7_ ws ps s->lf≠adr s)/\(∀ y∈S,y∈ps)/\S.Nodup/\S.length<=ps.length/\zj_ ws (S.length+1) S=zj_ ws (ps.length+1) ps/\m=S.length/\(∀ b o,(∀ s,j7_ ws ps s->b≠adr s)->H3 b=some o->H' b=some o),
  ⟨_,pa,lf,yp,zl,ps,rfl,k4 _ _ hpaa epa3,hypl,elf,hzl,hS4,hlfa,(fun y hy=>hy),hpnd,pm_ _,rfl,rfl,k4⟩,?_⟩
 rintro m σ Ha ⟨pb,lf,yb,yl,S,rfl,epb,hyb,ela,hyl,hSa,hla,hsub,hSnd,hSl,hfu,rfl,ka⟩
 have hyll:=hyl.length
 rw[pb_] at hyll
 have hrs:=jbz_ ws S
 have hrl:=hrs.length_le
 walk_at "go"
 by_cases hlt:(rnd ws S).length < S.length
 ·refine yl_ (decide_eq_true (by omega)) ?_
  refine⟨fun σ' H'=>∃(pb lf:Addr) (yb yl:List V) (S':List Pat),σ'=[some (.ref va),some u,some (.ref pb),some (.ref st),some (.ref lf)]/\H' pb=some (.lst yb)/\yb.length=S'.length/\H' lf=some (.lst yl)/\L2.IsL H' yl ((rnd ws S').map patD)/\StA P w cO H' st tg sp nu adr ws ps (rnd ws S')/\(∀ s,j7_ ws ps s->lf≠adr s)/\(∀ y∈S',y∈ps)/\S'.Nodup/\S'.length<=ps.length/\zj_ ws (S'.length+1) S'=zj_ ws (ps.length+1) ps/\S'.length < S.length/\(∀ b o,(∀ s,j7_ ws ps s->b≠adr s)->H3 b=some o->H' b=some o),?_,?_⟩
  ·rintro σ' H' ⟨pb',lf',yb',yl',S',h1,h2,h3,h4,h5,h6,h7,h8,h9,h10,h11,h12,h13⟩
   exact⟨_,h12,pb',lf',yb',yl',S',h1,h2,h3,h4,h5,h6,h7,h8,h9,h10,h11,rfl,h13⟩
  walk_at "go"
  refine⟨st,tg,sp,nu,lf,adr,yl,ws,ps,rnd ws S,rfl,hSa,ela,hyl,hla,(fun y hy=>hsub y (hrs.subset hy)),hSnd.sublist hrs,hlr,by omega,hgs2,hwn,fun lf2 zl2 Hb hlf2 elf2 hzl2 hSb kb=>?_⟩
  walk_at "go"
  refine⟨lf,lf2,yl,zl2,rnd ws S,rfl,kb _ _ hla ela,hyll,elf2,hzl2,hSb,(fun s hs z=>?_),(fun y hy=>hsub y (hrs.subset hy)),hSnd.sublist hrs,by omega,?_,hlt,fun b o h1 e=>kb _ _ h1 (ka b o h1 e)⟩
  ·obtain⟨ns,m1,_⟩:=hSa.nu.lst s hs
   rw[<- z,hlf2] at m1;cases m1
  ·rw[<- hfu]
   rw[show zj_ ws (S.length+1) S=zj_ ws S.length (rnd ws S) from if_pos hlt]
   exact ut_ ws _ _ _ (by omega) hlt
 ·refine yp_ (decide_eq_false (by omega)) ?_
  have hR:zj_ ws (ps.length+1) ps=rnd ws S:=by rw[<- hfu];exact if_neg hlt
  walk_at "go"
  intro cr hcr
  have sHa:Same H Ha:=fun b o e=>ka _ _ (hHa b o e) (s03 _ _ e)
  refine zr_ (K:=K) (xs:=yl) (fun j acc σ H'=>∃(v:Option V),σ=[some (.ref st),v]/\acc.length=j/\H' cr=some (.lst acc)/\L2.IsL H' acc (((rnd ws S).take j).map (itD ws (rnd ws S)))/\Same Ha H')
   (fun j acc σ H' _ ⟨_,_,_,_,_,s3⟩=>SqL.of (s3 _ _ ela)) ⟨none,rfl,rfl,jb_,(by simp[L2.IsL]),jd_ hcr _⟩ (fun j acc σ H' ⟨_,_,e,e3,_⟩=>⟨e3,s1_ e⟩) (szn (by omega)) ?_ ?_
  ·rintro j acc σ Hb hj ⟨v,rfl,hal,ecr,hacc,sb⟩
   have hj':j < (rnd ws S).length:=by omega
   obtain⟨x',d,hx1,hx2,hx3⟩:=IsL.get (IsL.same sb hyl) (i:=j) (by rw[pb_];exact hj')
   rw[pf_,pa_ hj'] at hx2
   cases hx2
   have hgd:yl.getD j .non=x':=by rw[pd_,hx1];rfl
   rw[hgd,p8_,pa_ hj',ph_]
   have hmem:=ps_ hj'
   have hyp':=hsub _ (hrs.subset hmem)
   obtain⟨n,hn,hln⟩:=hlr _ hyp'
   generalize (rnd ws S)[j]=y at *
   have hSb:=hSa.same sb
   obtain⟨dxb,hstb⟩:=hSb.ins
   walk_at "go"
   refine jkr_ ?_
   walk_at "go"
   refine jkp_ hstb rfl ?_
   walk_at "go"
   refine⟨st,tg,sp,nu,adr,x',ws,ps,rnd ws S,y,n,rfl,hSb,hx3,hyp',hmem,hn,hln,by omega,hgs2,fun Hc sc=>?_⟩
   walk_at "go"
   intro tp htp
   have stp:=jd_ htp (.tup [x',wV (zq_ ws (rnd ws S) y)])
   have etp:=jb_ (H:=Hc) (a:=tp) (o:=.tup [x',wV (zq_ ws (rnd ws S) y)])
   generalize upd Hc tp (.tup [x',wV (zq_ ws (rnd ws S) y)])=Hd at stp etp ⊢
   have sd:=sc.trans stp
   have ecd:=sd _ _ ecr
   have k5:Tk Hd (upd Hd cr (.lst (acc++[.ref tp]))):=Tk.lst ecd _
   refine⟨ecd,_,rfl,by rw[pe_,hal];rfl,jb_,IsL.append (IsL.tk k5 (x3_ ws _ _) (IsL.same sd hacc)) ?_,fun b' o e=>by rw[jh_ (jg_ e hcr)];exact sd _ _ (sb _ _ e)⟩
   simp only[r0_,pr_,qs_,L2.IsL,and_true]
   refine Is.tk k5 (by have:=x3_ ws (rnd ws S) [y];simpa [zf_] using this) ?_
   simp only[Is,itD]
   refine⟨tp,_,rfl,etp,?_⟩
   simp only[L2.IsL,and_true]
   exact⟨Is.same sd hx3,jqc_ _⟩
  ·rintro acc σ Hb ⟨v,rfl,hal,ecr,hacc,sb⟩
   rw[hyll,p0_] at hacc
   walk_at "go"
   exact q cr acc ps Hb (sHa.free hcr) ecr hte (by rw[hR];exact hacc) (sHa.trans sb)
end
noncomputable abbrev s_law_levels:Stmt:=top 29
theorem sc_law_levels:FnScope ["_law_script","_law_at","_law_many","_law_levels_here","_law_k","_law_told"] ["_law_script","_law_at","_law_many"] (jp_ s_law_levels):=by walk_at "f"
def jka_ (K:pc_):Sp:=fun vs H Q _=>∃(a:Addr) (ns:List Int) (k many:Nat),vs=[.ref a,.int (k:Int),.int (many:Int)]/\SqL K H a (ns.map V.int)/\k < 100/\many<=20 /\
 ∀(r:Addr) (ys:List V) (lvs:List (Nat×Option Int)) (H':Hp),H r=none->H' r=some (.lst ys)->L2.IsL H' ys (lvs.map lvD)->(∀ l∈lvs,LvOk l)->lvs.length=many->Same H H'->Q (.ref r) H'
theorem juo_ {i:Int}(h0:0<=i)(h1:i < 6):∃ c:Option Int,atI [V.int 1,V.int 2,V.int 3,V.int 4,V.int 1000,V.non] i=some (cV c)/\∀ k,c=some k->0<=k/\k<=1000000:=by
 obtain rfl | rfl | rfl | rfl | rfl | rfl:i=0∨i=1∨i=2∨i=3∨i=4∨i=5:=by omega
 ·exact⟨some 1,rfl,fun k e=>by cases e;omega⟩
 ·exact⟨some 2,rfl,fun k e=>by cases e;omega⟩
 ·exact⟨some 3,rfl,fun k e=>by cases e;omega⟩
 ·exact⟨some 4,rfl,fun k e=>by cases e;omega⟩
 ·exact⟨some 1000,rfl,fun k e=>by cases e;omega⟩
 ·exact⟨none,rfl,fun k e=>by cases e⟩
theorem jkc_ {x y:V}(b:Bool):atI [x,y] (if b=true then 1 else 0)=some (if b=true then y else x):=by cases b <;> rfl
section
variable {P:Program}{w:World}{K:pc_}{mg:Str->Option Value}{base:Heap}{f:Addr}{fd:FuncData}{tk:Nat->Tok}
theorem jeg_ (T:Txt mg tk)(F:Fun K "_law_levels" "_law_levels" s_law_levels f fd)(D_law_row:Dn P w K mg base "_law_row" 1 ["_law_script","_law_at","_law_bounds"] (jii_ K)):FnOk P w K mg base CX0 2 f fd ["_law_script","_law_at","_law_many"] (jka_ K):=by
 refine F.ok sc_law_levels (fun vs H Q E h=>?_) (fun cdv A outer s H vs Q E hr h=>?_)
 ·obtain⟨a,ns,k,many,rfl,_⟩:=h
  rfl
 obtain⟨a,ns,k,many,rfl,hS,hk,hm,q⟩:=h
 have nd:=sc_law_levels.nd
 refine⟨_,(je_ (jm_ (i:=3) nd rfl (Or.inl rfl) (j6_ jc_))
  (je_ (j1_ pu_ rfl (zi_ rfl T.z_range (ja_ (pv 2) jc_)) (jj_ (i:=4) nd rfl (Or.inl rfl))
   (je_ (jm_ (i:=5) nd rfl (Or.inl rfl) (jn_ D_law_row hr.mo_ rfl (ja_ (pv 0) (ja_ (jk_ jt_ (pv 1) (pv 4)) (ja_ (j6_ (ja_ jf_ (ja_ jf_ jc_))) jc_)))))
  (ji_ (zp_ (z2_ (K:=K) p9_ q7_ q8_ yu_ (pv 3) (ja_ (zx_ (ja_ (jk_ jt_ jf_ (jz_ (js_ (K:=K)) (pv 5) jf_ (fun _ _=>rfl))) (ja_ (jz_ (js_ (K:=K)) (j6_ (ja_ jf_ (ja_ jf_ (ja_ jf_ (ja_ jf_ (ja_ jf_ (ja_ xx_ jc_))))))) (jz_ (js_ (K:=K)) (pv 5) jf_ (fun _ _=>rfl)) (fun _ _=>rfl)) jc_))) jc_))))))
  (ji_ (j2_ (pv 3))))),?_⟩
 rw[show L2.start ["_law_script","_law_at","_law_many","_law_levels_here","_law_k","_law_told"] [.ref a,.int (k:Int),.int (many:Int)]=[some (.ref a),some (.int (k:Int)),some (.int (many:Int)),none,none,none] from rfl]
 walk_at "go"
 intro r hr0
 have s1:=jd_ hr0 (.lst [])
 walk_at "go"
 refine ze_ (fun i σ H'=>∃(v4 v5:Option V) (ys:List V) (lvs:List (Nat×Option Int)),σ=[some (.ref a),some (.int (k:Int)),some (.int (many:Int)),some (.ref r),v4,v5]/\H' r=some (.lst ys)/\L2.IsL H' ys (lvs.map lvD)/\(∀ l∈lvs,LvOk l)/\lvs.length=i/\Same H H')
  ⟨none,none,[],[],rfl,jb_,(by simp[L2.IsL]),(fun x hx=>nomatch hx),rfl,s1⟩ ?_ ?_
 ·rintro i σ Ha hi ⟨v4,v5,ys,lvs,rfl,er,hys,hlo,hll,sa⟩
  have hyl:=hys.length
  rw[pb_] at hyl
  walk_at "go"
  intro p1 h1
  have sp1:=jd_ h1 (.lst [.int 3,.int 6])
  walk_at "go"
  refine⟨a,ns,k+i,p1,[3,6],by simp only[lh_,ll_];rfl,(sa.trans sp1).seq hS,by omega,jb_,by decide,by decide,fun r1 ds Hb hr1 e2 hdl hds sb=>?_⟩
  have sab:=sp1.trans sb
  obtain⟨x,u,rfl⟩:∃ x u,ds=[x,u]:=by
   match ds,hdl with
   | [x,u],_=>exact⟨x,u,rfl⟩
  obtain⟨hx0,hx1⟩:=hds 0 x 3 rfl rfl
  obtain⟨hu0,hu1⟩:=hds 1 u 6 rfl rfl
  have e2:Hb r1=some (.lst [.int x,.int u]):=e2
  have erb:=sab _ _ er
  obtain⟨mo,hmo⟩:∃ mo:Nat,1+x=(mo:Int):=⟨(1+x).toNat,by omega⟩
  have hmo2:mo<=20:=by omega
  walk_at "go"
  rw[hmo]
  have e2c:=e2
  intro p3 h3
  have sp3:=jd_ h3 (.lst [.int 1,.int 2,.int 3,.int 4,.int 1000,.non])
  have e2d:=sp3 _ _ e2c
  walk_at "go"
  obtain⟨c,hc1,hc2⟩:=juo_ hu0 hu1
  refine y3_ vx_ hc1 ?_
  generalize upd Hb p3 (.lst [.int 1,.int 2,.int 3,.int 4,.int 1000,.non])=Hd at sp3 e2d ⊢
  walk_at "go"
  intro tp htp
  have stp:=jd_ htp (.tup [.int (mo:Int),cV c])
  have etp:=jb_ (H:=Hd) (a:=tp) (o:=.tup [.int (mo:Int),cV c])
  generalize upd Hd tp (.tup [.int (mo:Int),cV c])=He at stp etp ⊢
  have sae:=(sab.trans sp3).trans stp
  have ere:=sae _ _ er
  have hszp:ys.length < sizeLine:=szn (by omega)
  walk_at "go"
  have k4:Tk He (upd He r (.lst (ys++[.ref tp]))):=Tk.lst ere _
  refine⟨_,_,ys++[.ref tp],lvs++[(mo,c)],rfl,jb_,?_,fun l hl=>?_,by rw[pe_,hll];rfl,fun b o e=>?_⟩
  ·rw[ph_]
   exact IsL.snoc (IsL.tk k4 (jfs_ _) (IsL.same sae hys)) (Is.tk k4 (jjm_ _) (jue_ (l:=(mo,c)) etp))
  ·rcases pt_.mp hl with h | h
   ·exact hlo l h
   ·rw[pv_.mp h];exact⟨hmo2,hc2⟩
  ·rw[jh_ (jg_ e hr0)];exact sae _ _ (sa _ _ e)
 ·rintro σ Ha ⟨v4,v5,ys,lvs,rfl,er,hys,hlo,hll,sa⟩
  walk_at "go"
  exact q r ys lvs Ha hr0 er hys hlo (by omega) sa
end
noncomputable abbrev s_law_taught:Stmt:=top 30
theorem sc_law_taught:FnScope ["_law_words_here","_law_levels_here","_law_patterns","_law_k","_law_number","_law_most"] ["_law_words_here","_law_levels_here"] (jp_ s_law_taught):=by walk_at "f"
section
variable {P:Program}{w:World}{K:pc_}{mg:Str->Option Value}{base:Heap}{f:Addr}{fd:FuncData}{tk:Nat->Tok}
theorem jee_ (T:Txt mg tk)(F:Fun K "_law_taught" "_law_taught" s_law_taught f fd)(D_law_level:Dn P w K mg base "_law_level" 3 ["_law_words_here","_law_patterns","_law_number","_law_most","_law_cost"] yv_):FnOk P w K mg base CX0 4 f fd ["_law_words_here","_law_levels_here"] jfn_:=by
 refine F.ok sc_law_taught (fun vs H Q E h=>?_) (fun cdv A outer s H vs Q E hr h=>?_)
 ·obtain⟨v,u,ws,lvs,rfl,_⟩:=h
  rfl
 obtain⟨v,u,ws,lvs,rfl,hv,hu,hws,hwl,hlv,hll,hlg,q⟩:=h
 have nd:=sc_law_taught.nd
 have hv0:=hv
 obtain⟨va,ys,rfl,hva,hys⟩:=yt_ hv
 simp only[Is,lvsD] at hu
 obtain⟨ua,ya,rfl,hua,hya⟩:=hu
 have hyl:=hya.length
 rw[pb_] at hyl
 have hysl:=hys.length
 rw[pb_] at hysl
 refine⟨_,(je_ (jm_ (i:=2) nd rfl (Or.inl rfl) (j6_ jc_))
  (je_ (j1_ pu_ rfl (zi_ rfl T.z_range (ja_ (jo_ (zm_ (K:=K)) rfl T.z_len (by decide +kernel) (ja_ (pv 1) jc_)) jc_)) (jj_ (i:=3) nd rfl (Or.inl rfl))
   (ji_ (jm_ (i:=2) nd rfl (Or.inl rfl) (jk_ jt_ (pv 2) (jn_ D_law_level hr.mo_ rfl (ja_ (pv 0) (ja_ (pv 2) (ja_ (jk_ jt_ (pv 3) jf_) (ja_ (jz_ (js_ (K:=K)) (jz_ (js_ (K:=K)) (pv 1) (pv 3) (fun _ _=>rfl)) jf_ (fun _ _=>rfl)) (ja_ (jz_ (js_ (K:=K)) (jz_ (js_ (K:=K)) (pv 1) (pv 3) (fun _ _=>rfl)) jf_ (fun _ _=>rfl)) jc_))))))))))
  (je_ (jm_ (i:=4) nd rfl (Or.inl rfl) (jk_ jt_ jf_ (jk_ yo_ (jk_ jgg_ (jo_ (zm_ (K:=K)) rfl T.z_len (by decide +kernel) (ja_ (pv 1) jc_)) jf_) jf_)))
  (je_ (jm_ (i:=5) nd rfl (Or.inl rfl) (jk_ jt_ jf_ (jcf_ rfl rfl T.z_max (zo_ ["_law_word","_law_gaps"] [none,none] rfl (by kernel_rfl) rfl (zb_ (K:=K) (pv 0)) (fun _ _ _ _=>(jhc_ (K:=K) (n:=2) rfl rfl (jr_ (jj_ (i:=0) (show (["_law_word","_law_gaps"]:List Str).Nodup by decide +kernel) rfl (Or.inl rfl) (Or.inr rfl)) (jr_ (jj_ (i:=1) (show (["_law_word","_law_gaps"]:List Str).Nodup by decide +kernel) rfl (Or.inl rfl) (Or.inr rfl)) zu_)))) (fun _ _ _ _=>z6_) (fun _ _ _ _=>(jo_ (zm_ (K:=K)) rfl T.z_len (by decide +kernel) (ja_ (pv 0) jc_)))) jf_)))
  (je_ (jm_ (i:=2) nd rfl (Or.inl rfl) (jk_ jt_ (pv 2) (jn_ D_law_level hr.mo_ rfl (ja_ (pv 0) (ja_ (pv 2) (ja_ (pv 4) (ja_ (pv 5) (ja_ xx_ jc_))))))))
  (ji_ (j2_ (jk_ jt_ (pv 2) (jn_ D_law_level hr.mo_ rfl (ja_ (pv 0) (ja_ (pv 2) (ja_ (jk_ jt_ (pv 4) jf_) (ja_ (pv 5) (ja_ xx_ jc_)))))))))))))),?_⟩
 rw[show L2.start ["_law_words_here","_law_levels_here","_law_patterns","_law_k","_law_number","_law_most"] [.ref va,.ref ua]=[some (.ref va),some (.ref ua),none,none,none,none] from rfl]
 walk_at "go"
 intro d0 hd0
 have sd0:=jd_ hd0 (.lst [])
 have ed0:=jb_ (H:=H) (a:=d0) (o:=.lst [])
 generalize upd H d0 (.lst [])=H9 at sd0 ed0 ⊢
 have eua9:=sd0 _ _ hua
 walk_at "go"
 refine ze_ (fun i σ H'=>∃(v3:Option V) (dr:Addr) (zs:List V) (ps:List Pat),σ=[some (.ref va),some (.ref ua),some (.ref dr),v3,none,none]/\H dr=none/\H' dr=some (.lst zs)/\L2.IsL H' zs (ps.map patD)/\TL ws lvs i ps/\Same H H')
  ⟨none,d0,[],[],rfl,hd0,ed0,(by simp[L2.IsL]),rfl,sd0⟩ ?_ ?_
 ·rintro i σ Ha hi ⟨v3,dr,zs,ps,rfl,hdr,er,hzs,htl,sa⟩
  have hi:i < lvs.length:=by omega
  obtain⟨y',d,hy',hd1,hI⟩:=IsL.get hya (show i < (lvs.map lvD).length by simpa using hi)
  rw[pf_,pa_ hi] at hd1
  cases hd1
  obtain⟨la,rfl,hla⟩:=isLv hI
  have hlo:=hlv _ (ps_ hi)
  have hgl:lvs[i]?=some lvs[i]:=pa_ hi
  generalize lvs[i]=lv at hla hlo hgl
  obtain⟨mo,co⟩:=lv
  have hzl:=hzs.length
  rw[pb_] at hzl
  have hpl:=jav_ (fun x hx=>(hws x hx).2) htl
  have hpl2:(i+1) * (gN ws * 81)<=(lvs.length+2) * (gN ws * 81):=rr_ _ (by omega)
  rw[q3_] at hpl2
  have e8a:=sa _ _ hua
  have hlaa:Ha la=some (.tup [.int (mo:Int),cV co]):=sa _ _ hla
  have hat:atI ya (0+(i:Int))=some (.ref la):=z5_ (by omega) (by rw[show (0+(i:Int)).toNat=i by omega];exact hy')
  have h0i:(0:Int)+(i:Int)+1=((i+1:Nat):Int):=by omega
  walk_at "go"
  rw[h0i]
  refine⟨.ref va,.ref dr,ws,ps,((i+1:Nat):Int),mo,co,rfl,Is.same sa hv0,by simp only[Is,zc_];exact⟨dr,zs,rfl,er,hzs⟩,jcc_ (fun l hl=>(hlv l hl).1) htl,by omega,hws,by omega,by omega,by omega,by omega,hlo.1,hlo.2,fun r2 z2 p2 Hc hr2 er2 hz2 hl2 sc=>?_⟩
  have htl2:TL ws lvs (i+1) (ps++p2):=⟨ps,p2,(mo,co),htl,hgl,hl2,rfl⟩
  have hpl3:=jav_ (fun x hx=>(hws x hx).2) htl2
  rw[pe_,q3_] at hpl3
  have hz2l:=hz2.length
  rw[pb_] at hz2l
  have erc:=sc _ _ er
  walk_at "go"
  refine xz_ erc er2 (szn (by omega)) fun t3 ht3=>?_
  have st3:=jd_ ht3 (.lst (zs++z2))
  walk_at "go"
  refine⟨_,t3,_,_,rfl,(sa.trans sc).free ht3,jb_,?_,htl2,(sa.trans sc).trans st3⟩
  rw[ph_]
  exact IsL.append (IsL.same (sc.trans st3) hzs) (IsL.same st3 hz2)
 rintro σ H1 ⟨v3,dr,z0,p0,rfl,hdr,edr,hz0,htl,s1⟩
 rw[show (ya.length:Int).toNat=lvs.length by omega] at htl
 have eua1:=s1 _ _ hua
 have eva:=s1 _ _ hva
 walk_at "go"
 refine jhd_ ?_
 walk_at "go"
 intro c0 hc0
 refine zr_ (K:=K) (xs:=ys) (fun j acc σ H'=>∃(v v':Option V),σ=[v,v']/\acc=((ws.take j).map fun x=>(x.1.length:Int)).map V.int/\H' c0=some (.lst acc)/\Same H1 H')
  (fun j acc σ H' _ ⟨_,_,_,_,_,s3⟩=>SqL.of (s3 _ _ eva)) ⟨none,none,rfl,rfl,jb_,jd_ hc0 _⟩ (fun j acc σ H' ⟨_,_,_,e,e3,_⟩=>⟨e3,by rw[e,pb_,pb_,pw_];omega⟩) (szn (by omega)) ?_ ?_
 ·rintro j acc σ H2 hj ⟨v,v',rfl,rfl,e2,s2⟩
  have hjl:j < ws.length:=by omega
  obtain⟨x',d,hx1,hx2,hx3⟩:=IsL.get (IsL.same (s1.trans s2) hys) (i:=j) (by rw[pb_];exact hjl)
  rw[pf_,pa_ hjl] at hx2
  cases hx2
  have hgd:ys.getD j .non=x':=by rw[pd_,hx1];rfl
  rw[hgd]
  obtain⟨pa,nt,rfl,hpa,hnt⟩:=xk_ hx3
  have hxl:=(hws _ (ps_ hjl)).2
  refine yq_ hpa rfl (jv_ (jy_ (jv_ (jy_ (z9_ ?_)))))
  walk_at "go"
  refine⟨e2,_,_,rfl,?_,jb_,fun b' o e=>?_⟩
  ·rw[p8_,pa_ hjl,ph_,ph_];rfl
  ·rw[jh_ (jg_ e hc0)];exact s2 b' o e
 rintro acc σ H2 ⟨v,v',rfl,rfl,e2,s2⟩
 rw[hysl,p0_] at e2
 have hml:=x2_ fun x hx=>(hws x hx).2
 have hmx:=fun m h=>jfh_ (ws:=ws) (m:=m) h
 have s02:=s1.trans s2
 have edr2:=s2 _ _ edr
 have hz2:=IsL.same s2 hz0
 have hev:(2+(ya.length:Int) / 2 * 2)=((lvs.length / 2 * 2+2+0:Nat):Int):=by rw[hyl];omega
 have hevb:lvs.length / 2 * 2+2<=22:=by omega
 have main:∀(m:Int),m=(yr_ ws:Int)->tSeq (tAsg (tOp fAdd (tVar 2) (jfg_ yv_ [] E0 (ye_ (tVar 0) (ye_ (tVar 2) (ye_ (tVar 4) (ye_ (tVar 5) (ye_ (tC V.non) tNil))))))) (jdi_ 2))
   (tRet (tOp fAdd (tVar 2) (jfg_ yv_ [] E0 (ye_ (tVar 0) (ye_ (tVar 2) (ye_ (tOp fAdd (tVar 4) (tC (V.int 1))) (ye_ (tVar 5) (ye_ (tC V.non) tNil))))))))
   { nx:=fun x H'=>Q V.non H',rt:=Q } [some (V.ref va),some (V.ref ua),some (V.ref dr),v3,some (V.int (2+(ya.length:Int) / 2 * 2)),some (V.int (2+m))] H2:=by
  intro m hm
  have hmN:(2+m:Int)=((2+yr_ ws:Nat):Int):=by omega
  rw[hev,hmN]
  have hte0:TEn ws lvs 0 p0:=htl
  have hz0l:=hz2.length
  rw[pb_] at hz0l
  have hp0:=y8_ (fun x hx=>(hws x hx).2) hte0
  have hlg2:=hlg
  rw[kt_] at hlg2
  rw[Nat.add_zero] at hp0
  walk_at "go"
  refine⟨.ref va,.ref dr,ws,p0,((lvs.length / 2 * 2+2+0:Nat):Int),2+yr_ ws,none,rfl,Is.same s02 hv0,by simp only[Is,zc_];exact⟨dr,z0,rfl,edr2,hz2⟩,xi_ (fun l hl=>(hlv l hl).1) (fun x hx=>(hws x hx).2) hte0,by omega,hws,hwl,by omega,by omega,by omega,by omega,(fun k e=>by cases e),fun r1 z1 p1 H3 hr1 er1 hz1 hl1 s3=>?_⟩
  have hte1:TEn ws lvs 1 (p0++p1):=⟨p0,p1,hte0,hl1,rfl⟩
  have hp1:=y8_ (fun x hx=>(hws x hx).2) hte1
  rw[kt_] at hp1
  have hz1l:=hz1.length
  rw[pb_] at hz1l
  have hpl1:=hp1
  rw[pe_] at hpl1
  have edr3:=s3 _ _ edr2
  walk_at "go"
  refine xz_ edr3 er1 (szn (by omega)) fun t3 ht3=>?_
  have st3:=jd_ ht3 (.lst (z0++z1))
  have et3:=jb_ (H:=H3) (a:=t3) (o:=.lst (z0++z1))
  generalize upd H3 t3 (.lst (z0++z1))=H4 at st3 et3 ⊢
  have s04:=(s02.trans s3).trans st3
  have hz4:L2.IsL H4 (z0++z1) ((p0++p1).map patD):=by
   rw[ph_]
   exact IsL.append (IsL.same (s3.trans st3) hz2) (IsL.same st3 hz1)
  have h1i:(((lvs.length / 2 * 2+2+0:Nat):Int)+1)=((lvs.length / 2 * 2+2+1:Nat):Int):=by omega
  walk_at "go"
  rw[h1i]
  refine⟨.ref va,.ref t3,ws,p0++p1,((lvs.length / 2 * 2+2+1:Nat):Int),2+yr_ ws,none,rfl,Is.same s04 hv0,by simp only[Is,zc_];exact⟨t3,_,rfl,et3,hz4⟩,xi_ (fun l hl=>(hlv l hl).1) (fun x hx=>(hws x hx).2) hte1,by omega,hws,hwl,by omega,by omega,by omega,by omega,(fun k e=>by cases e),fun r2 z2 p2 H5 hr2 er2 hz2' hl2 s5=>?_⟩
  have hte2:TEn ws lvs 2 (p0++p1++p2):=⟨p0++p1,p2,hte1,hl2,rfl⟩
  have hp2:=y8_ (fun x hx=>(hws x hx).2) hte2
  have hz2l:=hz2'.length
  rw[pb_] at hz2l
  rw[pe_,kt_] at hp2
  have et5:=s5 _ _ et3
  have hzl4:(z0++z1).length=(p0++p1).length:=by rw[pe_,pe_];omega
  walk_at "go"
  refine xz_ et5 er2 (szn (by omega)) fun t6 ht6=>?_
  have st6:=jd_ ht6 (.lst (z0++z1++z2))
  have s05:=s04.trans s5
  walk_at "go"
  refine q t6 _ _ _ (s05.free ht6) jb_ ?_ hte2 (s05.trans st6)
  rw[ph_]
  exact IsL.append (IsL.same (s5.trans st6) hz4) (IsL.same st6 hz2')
 walk_at "go"
 refine⟨c0,_,rfl,e2,fun h0=>?_,fun m h1 h2=>?_⟩
 ·refine jed_ (jy_ ?_)
  exact main 0 (hmx 0 (.inl ⟨h0,rfl⟩))
 ·refine jed_ (jy_ ?_)
  exact main m (hmx m (.inr ⟨h1,h2⟩))
end
noncomputable abbrev s_law_laid:Stmt:=top 31
theorem sc_law_laid:FnScope ["_law_words_here","_law_patterns","_law_laid_here","_law_word","_law_gaps","_law_gap","_law_k","_law_number"] ["_law_words_here","_law_patterns"] (jp_ s_law_laid):=by walk_at "f"
theorem vb_ {y x:Pat}{n:Int}(hn:0 < n)(hy:Lr n y){j:Nat}(hj:j+1 < x.1.length):yn_ (frame x.1) (j+2) [y] n↔((x.1,j+1):Spt)∈zn_ y x:=by
 obtain⟨hp1,hp2,hp3⟩:=jmt_ hn hy
 unfold zn_
 constructor
 ·rintro⟨z,hz,b,hb,h1,h2,h3⟩
  rw[pv_.mp hz] at hb h2 h3
  rw[hp3] at h2 h3
  rw[v7_ hp1] at h2
  rw[v1_ hp1 (by omega)] at h3
  have e:j+2 - b=posF y:=by
   by_cases e:j+2 - b=posF y
   ·exact e
   ·rw[if_neg e] at h3;omega
  exact pq_.mpr ⟨b,py_.mpr ⟨hb,by unfold fitB;exact decide_eq_true (by omega)⟩,Prod.ext rfl (by dsimp only;omega)⟩
 ·intro h
  obtain⟨b,hb,e⟩:=pq_.mp h
  obtain⟨hb1,hb2⟩:=py_.mp hb
  unfold fitB at hb2
  have hb2:=of_decide_eq_true hb2
  injection e with _ e
  refine⟨y,pv_.mpr rfl,b,hb1,by omega,by rw[hp3,v7_ hp1];omega,?_⟩
  rw[hp3,v1_ hp1 (by omega),if_pos (by omega)]
theorem jcl_ {ws:List Pat}(hwn:(ws.map (·.1)).Nodup){x:Pat}(hx:x∈ws){y:Pat}{g:Nat}:((x.1,g):Spt)∈jl_ ws y↔((x.1,g):Spt)∈zn_ y x:=by
 constructor
 ·intro h
  obtain⟨x',hx',e1,_,_,hs⟩:=xt_ h
  have:x'=x:=y2_ hwn hx' hx e1.symm
  rw[this] at hs;exact hs
 ·intro h;exact qa_.mpr ⟨x,hx,h⟩
theorem jvw_ {ws:List Pat}(hwn:(ws.map (·.1)).Nodup){x:Pat}(hx:x∈ws){y:Pat}{n:Int}(hn:0 < n)(hy:Lr n y){j:Nat}(hj:j+1 < x.1.length):numA (frame x.1) (j+2) 0 [y]=if hitS ws y (x.1,j+1)=true then numF y else 0:=by
 have hb:∀ z∈[y],Lr n z:=fun z hz=>by rw[pv_.mp hz];exact hy
 have h0:numA (frame x.1) (j+2) 0 ([]:List Pat)=0:=rfl
 rw[y9_ hn hy]
 by_cases h:yn_ (frame x.1) (j+2) [y] n
 ·have e:=jgh_ (xs:=[]) hn hb (by rw[h0];omega) h
  rw[sq_] at e
  rw[e,if_pos]
  exact decide_eq_true ((jcl_ hwn hx).mpr ((vb_ hn hy hj).mp h))
 ·have e:=jdo_ (xs:=[]) hb h
  rw[sq_,h0] at e
  rw[e,if_neg]
  intro z
  exact h ((vb_ hn hy hj).mpr ((jcl_ hwn hx).mp (of_decide_eq_true z)))
noncomputable def nkD (p:Int×Nat):Dt:=.tup [.int p.1,.int (p.2:Int)]
theorem v2_:∀ l:List (Int×Nat),zf_ (l.map nkD)=true
 | []=>rfl
 | x::l=>by rw[pr_];simp only[zf_,v2_ l,sv_];rfl
theorem isNk {H:Hp}{v:V}{s:Int×Nat}(h:Is H v (nkD s)):∃ a,v=.ref a/\H a=some (.tup [.int s.1,.int (s.2:Int)]):=by
 simp only[Is,nkD] at h
 obtain⟨a,ys,rfl,ha,hy⟩:=h
 match ys,hy with
 | [y1,y2],hy =>
  simp only[L2.IsL,Is] at hy
  obtain⟨h1,h2,_⟩:=hy
  subst h1 h2
  exact⟨a,rfl,ha⟩
 | [],hy=>simp only[L2.IsL] at hy
 | [_],hy=>simp only[L2.IsL] at hy;exact hy.2.elim
 | _::_::_::_,hy=>simp only[L2.IsL] at hy;exact hy.2.2.elim
noncomputable def zg_ (ps:List Pat)(k:Nat):Pat:=ps.getD k ([],[])
noncomputable def ys_ (ws ps:List Pat)(s:Spt)(m:Nat):List (Int×Nat):=((po_ m).filter fun k=>hitS ws (zg_ ps k) s).map fun k=>(numF (zg_ ps k),k)
theorem jdv_ (ws ps:List Pat)(s:Spt)(m:Nat):(ys_ ws ps s m).length<=m:=by
 unfold ys_
 rw[pb_]
 exact p7_ (qf_ _ _) (by rw[qb_];exact pm_ _)
theorem jjo_ (ws ps:List Pat)(s:Spt)(m:Nat):ys_ ws ps s (m+1)=ys_ ws ps s m++if hitS ws (zg_ ps m) s=true then [(numF (zg_ ps m),m)] else []:=by
 unfold ys_
 rw[qm_,qd_,ph_]
 congr 1
 rw[pz_,qn_]
 split <;> rfl
def LdD (P:Program)(w:World)(H:Hp)(d:Addr)(ws ps:List Pat)(l:List Spt):Prop:=∃ kl:List (VKey×Addr×V),H d=some (DX viewKind P w d kl)/\KO viewKind H kl/\kl.length<=l.length/\∀ s∈l,∃ r zs,valX kl (vk s.1 s.2)=some (.ref r)/\H r=some (.lst zs)/\L2.IsL H zs ((ys_ ws ps s ps.length).map nkD)
theorem LdD.mono {P:Program}{w:World}{H H':Hp}{d:Addr}{ws ps:List Pat}{l:List Spt}(h:LdD P w H d ws ps l)(e:∀ o,H d=some o->H' d=some o)(t:∀ b xs,H b=some (.tup xs)->H' b=some (.tup xs))(k:∀ r zs,H r=some (.lst zs)->H' r=some (.lst zs)):LdD P w H' d ws ps l:=by
 obtain⟨kl,h1,h2,h3,h4⟩:=h
 refine⟨kl,e _ h1,fun x hx=>t _ _ (h2 x hx),h3,fun s hs=>?_⟩
 obtain⟨r,zs,q1,q2,q3⟩:=h4 s hs
 exact⟨r,zs,q1,k _ _ q2,IsL.tk t (v2_ _) q3⟩
theorem jfj_ {α β:Type}(f:α->List β)(m:Nat):∀ l:List α,(∀ a∈l,(f a).length<=m)->(l.flatMap f).length<=l.length * m
 | [],_=>by simp
 | a::l,h=>by
  have ih:=jfj_ f m l fun b hb=>h b (pl_ _ hb)
  have:=h a pn_
  rw[qi_,pe_,p3_,q3_];omega
noncomputable def gapS (x:Pat):List Spt:=(po_ (x.1.length - 1)).map fun j=>(x.1,j+1)
def jkw_ (P:Program)(w:World):Sp:=fun vs H Q _=>∃(v u:V) (ws ps:List Pat),vs=[v,u]/\Is H v (zc_ ws)/\Is H u (zc_ ps)/\(∀ x∈ws,1<=x.1.length/\x.1.length<=7)/\ws.length<=10/\(∀ y∈ps,∃ n,0 < n/\Lr n y)/\(∀ y∈ps,1<=y.1.length/\y.1.length<=1000/\y.2.length<=y.1.length+1)/\ps.length<=9000/\(ws.map (·.1)).Nodup /\
 ∀(d:Addr) (H':Hp),H d=none->LdD P w H' d ws ps (ws.flatMap gapS)->Same H H'->Q (.ref d) H'
section
variable {P:Program}{w:World}{K:pc_}{mg:Str->Option Value}{base:Heap}{f:Addr}{fd:FuncData}{tk:Nat->Tok}
theorem jiy_ (T:Txt mg tk)(F:Fun K "_law_laid" "_law_laid" s_law_laid f fd)(D_law_values:Dn P w K mg base "_law_values" 1 ["_law_patterns","_law_word"] yx_):FnOk P w K mg base CX0 2 f fd ["_law_words_here","_law_patterns"] (jkw_ P w):=by
 refine F.ok sc_law_laid (fun vs H Q E h=>?_) (fun cdv A outer s H vs Q E hr h=>?_)
 ·obtain⟨v,u,ws,ps,rfl,_⟩:=h
  rfl
 obtain⟨v,u,ws,ps,rfl,hv,hu,hws,hwl,hlr,hpv,hpl,hwn,q⟩:=h
 have nd:=sc_law_laid.nd
 obtain⟨va,ys,rfl,hva,hys⟩:=yt_ hv
 obtain⟨ua,yp,rfl,hua,hyp⟩:=yt_ hu
 have hysl:=hys.length
 rw[pb_] at hysl
 have hypl:=hyp.length
 rw[pb_] at hypl
 refine⟨_,(je_ (jm_ (i:=2) nd rfl (Or.inl rfl) (uj_ (N:=viewKind) (P:=P) (w:=w) rfl rfl))
  (je_ (j1_ pu_ rfl (zb_ (K:=K) (pv 0)) (yi_ rfl (jr_ (jj_ (i:=3) nd rfl (Or.inl rfl)) (jr_ (jj_ (i:=4) nd rfl (Or.inl rfl)) zu_)))
   (ji_ (j1_ pu_ rfl (ym_ rfl T.z_range (ja_ jf_ (ja_ (jo_ (zm_ (K:=K)) rfl T.z_len (by decide +kernel) (ja_ (pv 3) jc_)) jc_))) (jj_ (i:=5) nd rfl (Or.inl rfl))
   (je_ (jdu_ (N:=viewKind) (P:=P) (w:=w) rfl rfl (z4_ hr) (pv 2) (zx_ (ja_ (pv 3) (ja_ (pv 5) jc_))) (j6_ jc_) rfl)
  (ji_ (j1_ pu_ rfl (zi_ rfl T.z_range (ja_ (jo_ (zm_ (K:=K)) rfl T.z_len (by decide +kernel) (ja_ (pv 1) jc_)) jc_)) (jj_ (i:=6) nd rfl (Or.inl rfl))
   (je_ (jm_ (i:=7) nd rfl (Or.inl rfl) (jz_ (js_ (K:=K)) (jn_ D_law_values hr.mo_ rfl (ja_ (y0_ (vw_ (K:=K)) (pv 1) (z0_ (pv 6)) (z0_ (jk_ jt_ (pv 6) jf_))) (ja_ (pv 3) jc_))) (jk_ xr_ (pv 5) jf_) (fun _ _=>rfl)))
  (ji_ (y1_ (zd_ o_gt (pv 7) jf_ (j3_ _))
   (ji_ (zp_ (z2_ (K:=K) p9_ q7_ q8_ yu_ (v0_ (N:=viewKind) (P:=P) (w:=w) rfl rfl (z4_ hr) (pv 2) (zx_ (ja_ (pv 3) (ja_ (pv 5) jc_))) (fun _ _=>rfl)) (ja_ (zx_ (ja_ (pv 7) (ja_ (pv 6) jc_))) jc_))))
   z1_)))))))))
  (ji_ (j2_ (pv 2))))),?_⟩
 rw[show L2.start ["_law_words_here","_law_patterns","_law_laid_here","_law_word","_law_gaps","_law_gap","_law_k","_law_number"] [.ref va,.ref ua]=[some (.ref va),some (.ref ua),none,none,none,none,none,none] from rfl]
 walk_at "go"
 refine ui_ fun d hd=>?_
 have s1:=jd_ hd (DX viewKind P w d [])
 have ed:=jb_ (H:=H) (a:=d) (o:=DX viewKind P w d [])
 generalize upd H d (DX viewKind P w d [])=H1 at s1 ed ⊢
 have eva:=s1 _ _ hva
 walk_at "go"
 try refine xg_ (SqL.of eva) ?_
 refine zh_ (K:=K) (xs:=ys) (fun i σ H'=>∃(v3 v4 v5 v6 v7:Option V),σ=[some (.ref va),some (.ref ua),some (.ref d),v3,v4,v5,v6,v7]/\LdD P w H' d ws ps ((ws.take i).flatMap gapS)/\Same H H')
  ⟨none,none,none,none,none,rfl,⟨[],ed,fun x hx=>(nomatch hx),qj_ _,fun s hs=>by simp at hs⟩,s1⟩ (fun i σ H' _ ⟨_,_,_,_,_,_,_,k⟩=>SqL.of (k _ _ hva)) ?_ ?_
 ·rintro i y0 σ Ha hy0 ⟨v3,v4,v5,v6,v7,rfl,lda,sa⟩
  have hi:i < ws.length:=by have:=(pj_.mp hy0).1;omega
  obtain⟨y',dd,hy',hd1,hI⟩:=IsL.get (IsL.same sa hys) (show i < (ws.map patD).length by simpa using hi)
  rw[hy0] at hy'
  cases hy'
  rw[pf_,pa_ hi] at hd1
  cases hd1
  obtain⟨a2,t2,rfl,ea2,et2⟩:=xk_ hI
  have hxm:=ps_ hi
  obtain⟨hw1,hw2⟩:=hws _ hxm
  have htk:(ws.take (i+1)).flatMap gapS=(ws.take i).flatMap gapS++gapS ws[i]:=by rw[p8_,pa_ hi,ra_];simp
  rw[htk]
  have hl0:((ws.take i).flatMap gapS).length<=i * 7:=by
   have:=jfj_ gapS 7 (ws.take i) (fun x hx=>by unfold gapS;rw[pb_,qb_];have:=(hws x (qu_ hx)).2;omega)
   rw[pw_] at this
   have:min i ws.length * 7<=i * 7:=rr_ _ (by omega)
   omega
  generalize (ws.take i).flatMap gapS=l0 at lda hl0 ⊢
  clear htk
  generalize ws[i]=x at *
  refine yq_ ea2 rfl (jv_ (jy_ (jv_ (jy_ (z9_ ?_)))))
  walk_at "go"
  refine ze_ (fun j σ H'=>∃(v5 v6 v7:Option V),σ=[some (.ref va),some (.ref ua),some (.ref d),some (.str (S x.1)),some (.ref t2),v5,v6,v7]/\LdD P w H' d ws ps (l0++(po_ j).map fun j=>(x.1,j+1))/\Same H H')
   ⟨v5,v6,v7,rfl,by simpa using lda,sa⟩ ?_ ?_
  ·rintro j σ Hb hj ⟨v5,v6,v7,rfl,ldb,sb⟩
   have hj2:j+1 < x.1.length:=by omega
   have h1j:(1:Int)+(j:Int)=((j+1:Nat):Int):=by omega
   rw[qm_,ph_,<- qw_]
   have hl1:(l0++(po_ j).map fun j=>((x.1,j+1):Spt)).length<=200:=by rw[pe_,pb_,qb_];omega
   generalize (l0++(po_ j).map fun j=>((x.1,j+1):Spt))=l1 at ldb hl1 ⊢
   walk_at "go"
   rw[h1j]
   obtain⟨kl,b1,b2,b3,b4⟩:=ldb
   refine jaz_ ?_
   walk_at "go"
   intro rr hrr
   have srr:=jd_ hrr (.lst [])
   have err:=jb_ (H:=Hb) (a:=rr) (o:=.lst [])
   generalize upd Hb rr (.lst [])=Hc at srr err ⊢
   walk_at "go"
   intro tp htp
   have stp:=jd_ htp (.tup [.str (S x.1),.int ((j+1:Nat):Int)])
   have etp:=jb_ (H:=Hc) (a:=tp) (o:=.tup [.str (S x.1),.int ((j+1:Nat):Int)])
   generalize upd Hc tp (.tup [.str (S x.1),.int ((j+1:Nat):Int)])=Hd at stp etp ⊢
   have sbd:=srr.trans stp
   have b1d:=sbd _ _ b1
   have b2d:KO viewKind Hd kl:=fun z hz=>sbd _ _ (b2 z hz)
   refine⟨d,_,rfl,⟨kl,vk x.1 (j+1),tp,b1d,b2d,rfl,etp,szn (by omega),rfl⟩,?_⟩
   have kne:∀ c o,c≠d->Hd c=some o->(upd Hd d (DX viewKind P w d (putX kl (vk x.1 (j+1)) tp (.ref rr)))) c=some o:=fun c o z e=>by rw[jh_ z];exact e
   have ede:=jb_ (H:=Hd) (a:=d) (o:=DX viewKind P w d (putX kl (vk x.1 (j+1)) tp (.ref rr)))
   have rrd:rr≠d:=fun z=>by rw[z,b1] at hrr;cases hrr
   have tke:∀ c zs,Hd c=some (.tup zs)->(upd Hd d (DX viewKind P w d (putX kl (vk x.1 (j+1)) tp (.ref rr)))) c=some (.tup zs):=fun c zs e=>kne _ _ (fun z=>by rw[z,b1d] at e;cases e) e
   have koe:KO viewKind (upd Hd d (DX viewKind P w d (putX kl (vk x.1 (j+1)) tp (.ref rr)))) (putX kl (vk x.1 (j+1)) tp (.ref rr)):=fun z hz=>tke _ _ ((KO.put b2d (show viewKind.at_ Hd (vk x.1 (j+1)) tp from etp)) z hz)
   have erre:=kne _ _ rrd (stp _ _ err)
   have lke:∀ r zs,Hb r=some (.lst zs)->r≠rr/\(upd Hd d (DX viewKind P w d (putX kl (vk x.1 (j+1)) tp (.ref rr)))) r=some (.lst zs):=fun r zs e=>⟨(fun z=>by rw[z,hrr] at e;cases e),kne _ _ (fun z=>by rw[z,b1] at e;cases e) (sbd _ _ e)⟩
   have sHe:Same H (upd Hd d (DX viewKind P w d (putX kl (vk x.1 (j+1)) tp (.ref rr)))):=fun c o e=>kne _ _ (jg_ e hd) (sbd _ _ (sb _ _ e))
   have hrrH:H rr=none:=sb.free hrr
   have tkbe:∀ c zs,Hb c=some (.tup zs)->(upd Hd d (DX viewKind P w d (putX kl (vk x.1 (j+1)) tp (.ref rr)))) c=some (.tup zs):=fun c zs e=>tke _ _ (sbd _ _ e)
   generalize upd Hd d (DX viewKind P w d (putX kl (vk x.1 (j+1)) tp (.ref rr)))=He at kne ede tke koe erre lke sHe tkbe ⊢
   have euae:=sHe _ _ hua
   walk_at "go"
   refine ze_ (fun k σ H'=>∃(v6 v7:Option V) (zs:List V),σ=[some (.ref va),some (.ref ua),some (.ref d),some (.str (S x.1)),some (.ref t2),some (.int ((j+1:Nat):Int)),v6,v7]/\H' rr=some (.lst zs)/\L2.IsL H' zs ((ys_ ws ps (x.1,j+1) k).map nkD)/\∀ c o,c≠rr->He c=some o->H' c=some o)
    ⟨_,_,[],rfl,erre,(by simp[ys_,L2.IsL]),fun _ _ _ e=>e⟩ ?_ ?_
   ·rintro k σ Hf hk ⟨v6,v7,zs,rfl,erf,hzs,kf⟩
    have hk2:k < ps.length:=by omega
    have sHf:Same H Hf:=fun c o e=>kf _ _ (jg_ e hrrH) (sHe _ _ e)
    have euaf:=sHf _ _ hua
    have hpat:zg_ ps k=ps[k]:=by unfold zg_;rw[pd_,pa_ hk2];rfl
    obtain⟨n,hn,hln⟩:=hlr _ (ps_ hk2)
    have hpvk:=hpv _ (ps_ hk2)
    have h0k:(0:Int)+(k:Int)=(k:Int):=by omega
    have hcut:cutV yp (some (k:Int)) (some ((k:Int)+1))=(yp.drop k).take 1:=by
     rw[ux_,show (k:Int)+1=((k+1:Nat):Int) by omega,jax_ yp k (k+1) (by omega) (by omega)]
     congr 1
     omega
    have hyk:k < yp.length:=by omega
    have hdt:(yp.drop k).take 1=[yp[k]]:=by rw[re_ hyk];rfl
    rw[jjo_,hpat]
    have hzl:=hzs.length
    rw[pb_] at hzl
    have hlt:=jdv_ ws ps (x.1,j+1) k
    walk_at "go"
    rw[h0k]
    refine jjf_ (SqL.of euaf) fun sl hsl=>?_
    rw[hcut,hdt]
    have ssl:=jd_ hsl (.lst [yp[k]])
    have esl:=jb_ (H:=Hf) (a:=sl) (o:=.lst [yp[k]])
    generalize upd Hf sl (.lst [yp[k]])=Hg at ssl esl ⊢
    have hIk:Is Hg (yp[k]) (patD ps[k]):=by
     obtain⟨y',dd,q1,q2,q3⟩:=IsL.get (IsL.same (sHf.trans ssl) hyp) (show k < (ps.map patD).length by simpa using hk2)
     rw[pa_ hyk] at q1
     cases q1
     rw[pf_,pa_ hk2] at q2
     cases q2
     exact q3
    generalize yp[k]=vk0 at *
    generalize ps[k]=y at *
    walk_at "go"
    refine⟨.ref sl,[y],x.1,rfl,by simp only[Is,zc_];exact⟨sl,_,rfl,esl,by simp only[pr_,qs_,L2.IsL];exact⟨hIk,trivial⟩⟩,(fun z hz=>by rw[pv_.mp hz];exact hpvk),(show 1<=9000 by decide),hw1,by omega,fun rv Hh hrv erv sh=>?_⟩
    have hjv:j < (vals [y] x.1).length:=by rw[yy_];omega
    have hvj:(vals [y] x.1)[j]=if hitS ws y (x.1,j+1)=true then numF y else 0:=by
     have h1:=jea_ [y] x.1 j (by omega)
     rw[pa_ hjv] at h1
     injection h1 with h1
     rw[h1,jvw_ hwn hxm hn hln hj2]
    have hnf:=y9_ hn hln
    walk_at "go"
    refine y3_ (v:=.int (vals [y] x.1)[j]) (j5_ erv) (z5_ (by omega) (by rw[show (((j+1:Nat):Int) - 1).toNat=j by omega,pf_,pa_ hjv];rfl)) ?_
    rw[hvj]
    have sfh:=ssl.trans sh
    have erh:=sfh _ _ erf
    walk_at "go"
    by_cases hh:hitS ws y (x.1,j+1)=true
    ·rw[if_pos hh,if_pos hh]
     refine yl_ (decide_eq_true (by omega)) ?_
     walk_at "go"
     refine vt_ ?_
     walk_at "go"
     intro tq htq
     have stq:=jd_ htq (.tup [.str (S x.1),.int ((j+1:Nat):Int)])
     have etq:=jb_ (H:=Hh) (a:=tq) (o:=.tup [.str (S x.1),.int ((j+1:Nat):Int)])
     generalize upd Hh tq (.tup [.str (S x.1),.int ((j+1:Nat):Int)])=Hi at stq etq ⊢
     have sfi:=sfh.trans stq
     have edi:=sfi _ _ (kf _ _ rrd.symm ede)
     have koi:KO viewKind Hi (putX kl (vk x.1 (j+1)) tp (.ref rr)):=fun z hz=>sfi _ _ (kf _ _ (fun q'=>by have h9:He z.2.1=some (.tup (z.1.map oV)):=koe z hz;rw[q',erre] at h9;cases h9) (koe z hz))
     refine⟨d,_,rfl,⟨_,vk x.1 (j+1),tq,.inl edi,koi,rfl,etq,by rw[yf_,if_pos rfl]⟩,?_⟩
     have eri:=sfi _ _ erf
     walk_at "go"
     intro tn htn
     have stn:=jd_ htn (.tup [.int (numF y),.int (k:Int)])
     have etn:=jb_ (H:=Hi) (a:=tn) (o:=.tup [.int (numF y),.int (k:Int)])
     generalize upd Hi tn (.tup [.int (numF y),.int (k:Int)])=Hj at stn etn ⊢
     have sfj:=sfi.trans stn
     have erj:=sfj _ _ erf
     have hszp:zs.length < sizeLine:=szn (by omega)
     walk_at "go"
     have k4:Tk Hj (upd Hj rr (.lst (zs++[.ref tn]))):=Tk.lst erj _
     refine⟨_,_,zs++[.ref tn],rfl,jb_,?_,fun c o z e=>by rw[jh_ z];exact sfj _ _ (kf c o z e)⟩
     rw[ph_]
     refine IsL.append (IsL.tk k4 (v2_ _) (IsL.same sfj hzs)) ?_
     simp only[pr_,qs_,L2.IsL,and_true]
     refine Is.tk k4 rfl ?_
     simp only[Is,nkD]
     exact⟨tn,_,rfl,etn,by simp only[L2.IsL,Is,and_true]⟩
    ·rw[if_neg hh,if_neg hh]
     try refine yp_ (decide_eq_false (by omega)) ?_
     walk_at "go"
     rw[qk_]
     exact⟨_,_,zs,rfl,erh,IsL.same sfh hzs,fun c o z e=>sfh _ _ (kf c o z e)⟩
   ·rintro σ Hf ⟨v6,v7,zs,rfl,erf,hzs,kf⟩
    rw[show ((yp.length:Int)).toNat=ps.length by omega] at hzs
    have tkf:∀ c zs,He c=some (.tup zs)->Hf c=some (.tup zs):=fun c zs e=>kf _ _ (fun z=>by rw[z,erre] at e;cases e) e
    refine⟨_,_,_,rfl,⟨_,kf _ _ rrd.symm ede,fun z hz=>tkf _ _ (koe z hz),by rw[pe_];exact p7_ (zz_ ..) (by show _<=_+1;omega),fun s' hs'=>?_⟩,fun c o e=>kf _ _ (jg_ e hrrH) (sHe _ _ e)⟩
    rw[yf_]
    by_cases es:s'=((x.1,j+1):Spt)
    ·refine⟨rr,zs,by rw[if_pos (by rw[es])],erf,by rw[es];exact hzs⟩
    ·have hs2:s'∈l1:=by
      rcases pt_.mp hs' with z | z
      ·exact z
      ·exact absurd (by simpa using z) es
     obtain⟨r',zs',q1,q2,q3⟩:=b4 s' hs2
     obtain⟨g1,g2⟩:=lke _ _ q2
     refine⟨r',zs',by rw[if_neg (fun z=>es (by obtain⟨z1,z2⟩:=xh_ z;exact Prod.ext z1 z2))];exact q1,kf _ _ g1 g2,IsL.tk (fun c zs e=>tkf _ _ (tkbe _ _ e)) (v2_ _) q3⟩
  ·rintro σ Hb ⟨v5,v6,v7,rfl,ldb,sb⟩
   rw[show ((x.1.length:Int) - 1).toNat=x.1.length - 1 by omega] at ldb
   exact⟨_,_,_,_,_,rfl,ldb,sb⟩
 ·rintro σ Ha ⟨v3,v4,v5,v6,v7,rfl,lda,sa⟩
  rw[hysl,p0_] at lda
  walk_at "go"
  exact q d Ha hd lda sa
end
noncomputable abbrev s_law_first_wrong:Stmt:=top 32
theorem sc_law_first_wrong:FnScope ["_law_words_here","_law_laid_here","_law_left","_law_out","_law_word","_law_gaps","_law_gap","_law_some"] ["_law_words_here","_law_laid_here","_law_left","_law_out"] (jp_ s_law_first_wrong):=by walk_at "f"
theorem jme_ {ws:List Pat}(hwn:(ws.map (·.1)).Nodup){x:Pat}(hx:x∈ws)(g:Nat):yj_ ws (x.1,g)=decide ((g:Int)∈x.2):=by
 unfold yj_
 rw[r5_,q4_,decide_eq_true_eq]
 constructor
 ·rintro⟨z,hz,h⟩
  obtain⟨h1,h2⟩:=of_decide_eq_true h
  rw[<- y2_ hwn hz hx h1];exact h2
 ·intro h;exact⟨x,hx,decide_eq_true ⟨rfl,h⟩⟩
noncomputable def selI (fl:List Bool)(out m:Nat):List Nat:=(po_ m).filter fun k=>decide (k≠out)&&fl.getD k false
noncomputable def selT (ps:List Pat)(fl:List Bool)(out:Nat):List Pat:=(selI fl out ps.length).map (zg_ ps)
theorem jqo_ (ws ps:List Pat)(fl:List Bool)(out:Nat)(s:Spt):((ys_ ws ps s ps.length).filter fun p=>decide (p.2≠out)&&fl.getD p.2 false).map (·.1)=ju_ ws (selT ps fl out) s:=by
 unfold ys_ ju_ selT selI
 rw[lm_,qy_,lm_,qy_,w5_,w5_]
 have:(po_ ps.length).filter (fun a=>((fun p:Int×Nat=>decide (p.2≠out)&&fl.getD p.2 false)∘fun k=>(numF (zg_ ps k),k)) a&&hitS ws (zg_ ps a) s)=(po_ ps.length).filter fun a=>((fun y=>hitS ws y s)∘zg_ ps) a&&(decide (a≠out)&&fl.getD a false):=t4_ fun a _=>by
  simp only[wn_]
  exact Bool.and_comm _ _
 rw[this];rfl
noncomputable def badW (ws T:List Pat)(x:Pat)(j:Nat):Bool:=decide (mxL (ju_ ws T (x.1,j+1)) % 2=1) != yj_ ws (x.1,j+1)
theorem jdk_ (ws T:List Pat):xl_ ws T=(ws.find? fun x=>(po_ (x.1.length - 1)).any (badW ws T x)).map (·.1):=rfl
def spFw (P:Program)(w:World):Sp:=fun vs H Q _=>∃(v:V) (d le:Addr) (ws ps:List Pat) (fl:List Bool) (out:Nat),vs=[v,.ref d,.ref le,.int (out:Int)]/\Is H v (zc_ ws)/\LdD P w H d ws ps (ws.flatMap gapS)/\H le=some (.lst (fl.map V.bl))/\fl.length=ps.length/\ps.length<=9000/\(∀ x∈ws,1<=x.1.length/\x.1.length<=7)/\ws.length<=10/\(ws.map (·.1)).Nodup /\
 ∀ H',Same H H'->Q (wV (xl_ ws (selT ps fl out))) H'
section
variable {P:Program}{w:World}{K:pc_}{mg:Str->Option Value}{base:Heap}{f:Addr}{fd:FuncData}{tk:Nat->Tok}
theorem uo_ (T:Txt mg tk)(F:Fun K "_law_first_wrong" "_law_first_wrong" s_law_first_wrong f fd):FnOk P w K mg base CX0 1 f fd ["_law_words_here","_law_laid_here","_law_left","_law_out"] (spFw P w):=by
 refine F.ok sc_law_first_wrong (fun vs H Q E h=>?_) (fun cdv A outer s H vs Q E hr h=>?_)
 ·obtain⟨v,d,le,ws,ps,fl,out,rfl,_⟩:=h
  rfl
 obtain⟨v,d,le,ws,ps,fl,out,rfl,hv,hld,hle,hfl,hpl,hws,hwl,hwn,q⟩:=h
 have nd:=sc_law_first_wrong.nd
 obtain⟨va,ys,rfl,hva,hys⟩:=yt_ hv
 have hysl:=hys.length
 rw[pb_] at hysl
 generalize hTT:selT ps fl out=TT at q
 refine⟨_,(je_ (j1_ pu_ rfl (zb_ (K:=K) (pv 0)) (yi_ rfl (jr_ (jj_ (i:=4) nd rfl (Or.inl rfl)) (jr_ (jj_ (i:=5) nd rfl (Or.inl rfl)) zu_)))
   (ji_ (j1_ pu_ rfl (ym_ rfl T.z_range (ja_ jf_ (ja_ (jo_ (zm_ (K:=K)) rfl T.z_len (by decide +kernel) (ja_ (pv 4) jc_)) jc_))) (jj_ (i:=6) nd rfl (Or.inl rfl))
   (je_ (jci_ (i:=7) ["_law_out","_law_left","_law_number","_law_k"] [some 3,some 2,none,none] rfl (by kernel_rfl) rfl nd rfl rfl (zb_ (K:=K) (v0_ (N:=viewKind) (P:=P) (w:=w) rfl rfl (z4_ hr) (pv 1) (zx_ (ja_ (pv 4) (ja_ (pv 6) jc_))) (fun _ _=>rfl))) (fun _ _ _ _=>(jhc_ (K:=K) (n:=2) rfl rfl (jr_ (jj_ (i:=2) (show (["_law_out","_law_left","_law_number","_law_k"]:List Str).Nodup by decide +kernel) rfl (Or.inl rfl) (Or.inr rfl)) (jr_ (jj_ (i:=3) (show (["_law_out","_law_left","_law_number","_law_k"]:List Str).Nodup by decide +kernel) rfl (Or.inl rfl) (Or.inr rfl)) zu_)))) (fun _ _ _ _=>(xu_ (PW.pt (jgf_ (zd_ (o_ne hr.units) (pv 3) (pv 0) (j3_ _)) (jch_ (x7_ (jz_ (js_ (K:=K)) (pv 1) (pv 3) (fun _ _=>rfl)) (fun _=>rfl))))))) (fun _ _ _ _=>(pv 2)))
  (ji_ (y1_ (zd_ (o_ne hr.units) (zs_ (o_eq hr.units) (jk_ xp_ (jcf_ rfl rfl T.z_max (pv 7) jf_) jf_) jf_ (j3_ _)) (zs_ o_in (pv 6) (pv 5) (by with_unfolding_all rfl)) (j3_ _))
   (ji_ (j2_ (pv 4)))
   z1_))))))
  (ji_ (j2_ xx_))),?_⟩
 rw[show L2.start ["_law_words_here","_law_laid_here","_law_left","_law_out","_law_word","_law_gaps","_law_gap","_law_some"] [.ref va,.ref d,.ref le,.int (out:Int)]=[some (.ref va),some (.ref d),some (.ref le),some (.int (out:Int)),none,none,none,none] from rfl]
 walk_at "go"
 refine zh_ (K:=K) (xs:=ys) (fun i σ H'=>∃(v4 v5 v6 v7:Option V),σ=[some (.ref va),some (.ref d),some (.ref le),some (.int (out:Int)),v4,v5,v6,v7]/\(∀ x∈ws.take i,(po_ (x.1.length - 1)).any (badW ws TT x)=false)/\Same H H')
  ⟨none,none,none,none,rfl,(fun x hx=>by simp at hx),Same.refl _⟩ (fun i σ H' _ ⟨_,_,_,_,_,_,k⟩=>SqL.of (k _ _ hva)) ?_ ?_
 ·rintro i y0 σ Ha hy0 ⟨v4,v5,v6,v7,rfl,hno,sa⟩
  have hi:i < ws.length:=by have:=(pj_.mp hy0).1;omega
  obtain⟨y',dd,hy',hd1,hI⟩:=IsL.get hys (show i < (ws.map patD).length by simpa using hi)
  rw[hy0] at hy'
  cases hy'
  rw[pf_,pa_ hi] at hd1
  cases hd1
  obtain⟨a2,t2,rfl,ea2,et2⟩:=xk_ hI
  have hxm:=ps_ hi
  obtain⟨hw1,hw2⟩:=hws _ hxm
  have htk:ws.take (i+1)=ws.take i++[ws[i]]:=by rw[p8_,pa_ hi];rfl
  have hsplit:ws=ws.take i++ws[i]::ws.drop (i+1):=by rw[<- re_ hi,sh_]
  have hfirst:(po_ (ws[i].1.length - 1)).any (badW ws TT ws[i])=true->xl_ ws TT=some ws[i].1:=fun hq=>by
   have hf:(ws.find? fun x=>(po_ (x.1.length - 1)).any (badW ws TT x))=some ws[i]:=(congrArg (List.find? fun x=>(po_ (x.1.length - 1)).any (badW ws TT x)) hsplit).trans (by
    rw[t1_,q6_.mpr (fun s hs=>by rw[hno s hs];exact pk_),rp_,hq];rfl)
   rw[jdk_,hf];rfl
  rw[htk]
  generalize ws[i]=x at *
  refine yq_ (sa _ _ ea2) rfl (jv_ (jy_ (jv_ (jy_ (z9_ ?_)))))
  walk_at "go"
  refine ze_ (fun j σ H'=>∃(v6 v7:Option V),σ=[some (.ref va),some (.ref d),some (.ref le),some (.int (out:Int)),some (.str (S x.1)),some (.ref t2),v6,v7]/\(∀ j' < j,badW ws TT x j'=false)/\Same H H')
   ⟨v6,v7,rfl,(fun j' h=>by omega),sa⟩ ?_ ?_
  ·rintro j σ Hb hj ⟨v6,v7,rfl,hbj,sb⟩
   have hj2:j+1 < x.1.length:=by omega
   have h1j:(1:Int)+(j:Int)=((j+1:Nat):Int):=by omega
   have hldb:=hld.mono (H':=Hb) (fun o e=>sb _ _ e) (fun c zs e=>sb _ _ e) (fun r zs e=>sb _ _ e)
   obtain⟨kl,b1,b2,b3,b4⟩:=hldb
   obtain⟨r,zs,r1,r2,r3⟩:=b4 (x.1,j+1) (qa_.mpr ⟨x,hxm,pq_.mpr ⟨j,p5_.mpr (by omega),rfl⟩⟩)
   have hzl:=r3.length
   rw[pb_] at hzl
   have hll:=jdv_ ws ps (x.1,j+1) ps.length
   have hlk:∀ p∈ys_ ws ps (x.1,j+1) ps.length,p.2 < ps.length:=fun p hp=>by
    unfold ys_ at hp
    obtain⟨k,hk,rfl⟩:=pq_.mp hp
    exact p5_.mp (py_.mp hk).1
   have hnums:=jqo_ ws ps fl out (x.1,j+1)
   rw[hTT] at hnums
   walk_at "go"
   rw[h1j]
   generalize ys_ ws ps (x.1,j+1) ps.length=LL at *
   refine vt_ ?_
   walk_at "go"
   intro tp htp
   have stp:=jd_ htp (.tup [.str (S x.1),.int ((j+1:Nat):Int)])
   have etp:=jb_ (H:=Hb) (a:=tp) (o:=.tup [.str (S x.1),.int ((j+1:Nat):Int)])
   generalize upd Hb tp (.tup [.str (S x.1),.int ((j+1:Nat):Int)])=Hc at stp etp ⊢
   have sc:=sb.trans stp
   refine⟨d,_,rfl,⟨kl,vk x.1 (j+1),tp,.inl (stp _ _ b1),fun z hz=>stp _ _ (b2 z hz),rfl,etp,r1.symm⟩,?_⟩
   have r2c:=stp _ _ r2
   refine xg_ (SqL.of r2c) ?_
   intro cr hcr
   have hlec:=sc _ _ hle
   refine zr_ (K:=K) (xs:=zs) (fun m acc σ H'=>∃(v v':Option V),σ=[some (.int (out:Int)),some (.ref le),v,v']/\acc=(((LL.take m).filter fun p=>decide (p.2≠out)&&fl.getD p.2 false).map (·.1)).map V.int/\H' cr=some (.lst acc)/\Same Hc H')
    (fun m acc σ H' _ ⟨_,_,_,_,_,s3⟩=>SqL.of (s3 _ _ r2c)) ⟨none,none,rfl,rfl,jb_,jd_ hcr _⟩ (fun m acc σ H' ⟨_,_,_,e,e3,_⟩=>⟨e3,by rw[e,pb_,pb_];exact p7_ (qf_ _ _) (by rw[pw_];omega)⟩) (szn (by omega)) ?_ ?_
   ·rintro m acc σ Hd hm ⟨v,v',rfl,rfl,ecr,sd⟩
    have hm':m < LL.length:=by omega
    obtain⟨x',dd,hx1,hx2,hx3⟩:=IsL.get (IsL.same (stp.trans sd) r3) (i:=m) (by rw[pb_];exact hm')
    rw[pf_,pa_ hm'] at hx2
    cases hx2
    have hgd:zs.getD m .non=x':=by rw[pd_,hx1];rfl
    have hlk1:=hlk _ (ps_ hm')
    rw[hgd,p8_,pa_ hm',qd_,ph_,ph_]
    generalize LL[m]=p at *
    obtain⟨pa,rfl,epa⟩:=isNk hx3
    have hfp:fl.getD p.2 false=fl[p.2]'(by omega):=by rw[pd_,pa_ (by omega)];rfl
    have hat:atI (fl.map V.bl) (p.2:Int)=some (.bl (fl.getD p.2 false)):=z5_ (by omega) (by rw[hfp,show ((p.2:Int)).toNat=p.2 by omega,pf_,pa_ (show p.2 < fl.length by omega)];rfl)
    have hled:=sd _ _ hlec
    refine yq_ epa rfl (jv_ (jy_ (jv_ (jy_ (z9_ ?_)))))
    walk_at "go"
    by_cases hk:p.2=out
    ·have hsel:(decide (p.2≠out)&&fl.getD p.2 false)=false:=by rw[decide_eq_false (fun z=>z hk)];rfl
     try refine⟨false,by simp[hk],?_⟩
     try refine yp_ (by simp[hk]) ?_
     walk_at "go"
     refine⟨_,_,rfl,?_,ecr,sd⟩
     simp only[r0_,pz_,hsel,qn_];simp
    ·try refine⟨true,by simp;omega,?_⟩
     try refine yl_ (by simp;omega) ?_
     walk_at "go"
     try refine y3_ (j5_ hled) hat ?_
     try walk_at "go"
     cases hfv:fl.getD p.2 false with
     | false =>
      have hsel:(decide (p.2≠out)&&fl.getD p.2 false)=false:=by rw[hfv,Bool.and_false]
      try refine yp_ rfl ?_
      walk_at "go"
      refine⟨_,_,rfl,?_,ecr,sd⟩
      simp only[r0_,pz_,hsel,qn_];simp
     | true =>
      have hsel:(decide (p.2≠out)&&fl.getD p.2 false)=true:=by rw[hfv,decide_eq_true hk];rfl
      try refine yl_ rfl ?_
      walk_at "go"
      refine⟨ecr,_,_,rfl,?_,jb_,fun b' o e=>by rw[jh_ (jg_ e hcr)];exact sd _ _ e⟩
      simp only[r0_,pz_,hsel,qn_,if_true];rfl
   ·rintro acc σ Hd ⟨v,v',rfl,rfl,ecr,sd⟩
    rw[hzl,p0_,hnums] at ecr
    have sd0:=sc.trans sd
    have et2d:=sd0 _ _ et2
    have htold:=jme_ hwn hxm (j+1)
    have hbw:badW ws TT x j=(decide (mxL (ju_ ws TT (x.1,j+1)) % 2=1) != decide (((j+1:Nat):Int)∈x.2)):=by unfold badW;rw[htold]
    have hge:∀ k∈ju_ ws TT (x.1,j+1),0<=k:=fun k hk=>jit_ hk
    have hb1:inV (.int ((j+1:Nat):Int)) (x.2.map V.int)=decide (((j+1:Nat):Int)∈x.2):=jad_ ..
    generalize ju_ ws TT (x.1,j+1)=nn at *
    walk_at "go"
    refine jhd_ ?_
    walk_at "go"
    refine⟨cr,nn,rfl,ecr,fun h0=>?_,fun mm h1 h2=>?_⟩
    case' refine_1 =>
     have hm:(0:Int)=mxL nn:=by rw[h0];rfl
    case' refine_2=>have hm:mm=mxL nn:=jro_ hge h1 h2
    all_goals
     walk_at "go"
     refine jjc_ (xf_ et2d) ⟨rfl,ue_ _⟩ ?_
     rw[if_neg pk_,hb1]
     first
      | rw[show decide (V.int (mm % 2)=V.int 1)=decide (mxL nn % 2=1) from by rw[<- hm];simp]
      | rw[show decide (V.int ((0:Int) % 2)=V.int 1)=decide (mxL nn % 2=1) from by rw[<- hm];simp]
     walk_at "go"
     cases hw:badW ws TT x j with
     | true =>
      rw[hbw] at hw
      try refine⟨true,?_,?_⟩
      try (congr 1;generalize decide (mxL nn % 2=1)=p1 at hw ⊢;generalize decide (((j+1:Nat):Int)∈x.2)=p2 at hw ⊢;cases p1 <;> cases p2 <;> first | rfl | (exact absurd hw (by decide)))
      try refine yl_ (by generalize decide (mxL nn % 2=1)=p1 at hw ⊢;generalize decide (((j+1:Nat):Int)∈x.2)=p2 at hw ⊢;cases p1 <;> cases p2 <;> first | rfl | (exact absurd hw (by decide))) ?_
      walk_at "go"
      rw[<- hbw] at hw
      rw[hfirst (q4_.mpr ⟨j,p5_.mpr (by omega),hw⟩)] at q
      exact q Hd sd0
     | false =>
      have hw0:=hw
      rw[hbw] at hw
      try refine⟨false,?_,?_⟩
      try (congr 1;generalize decide (mxL nn % 2=1)=p1 at hw ⊢;generalize decide (((j+1:Nat):Int)∈x.2)=p2 at hw ⊢;cases p1 <;> cases p2 <;> first | rfl | (exact absurd hw (by decide)))
      try refine yp_ (by generalize decide (mxL nn % 2=1)=p1 at hw ⊢;generalize decide (((j+1:Nat):Int)∈x.2)=p2 at hw ⊢;cases p1 <;> cases p2 <;> first | rfl | (exact absurd hw (by decide))) ?_
      walk_at "go"
      refine⟨_,_,rfl,fun j' hj'=>?_,sd0⟩
      by_cases e:j'=j
      ·rw[e];exact hw0
      ·exact hbj j' (by omega)
  ·rintro σ Hb ⟨v6,v7,rfl,hbj,sb⟩
   rw[show ((x.1.length:Int) - 1).toNat=x.1.length - 1 by omega] at hbj
   refine⟨_,_,_,_,rfl,fun z hz=>?_,sb⟩
   rcases pt_.mp hz with e | e
   ·exact hno z e
   ·rw[pv_.mp e,List.any_eq_false]
    intro j' hj'
    rw[hbj j' (p5_.mp hj')];exact pk_
 ·rintro σ Ha ⟨v4,v5,v6,v7,rfl,hno,sa⟩
  rw[hysl,p0_] at hno
  have hnone:xl_ ws TT=none:=by
   rw[jdk_,q6_.mpr fun s hs=>by rw[hno s hs];exact pk_];rfl
  rw[hnone] at q
  walk_at "go"
  exact q Ha sa
end
theorem num_mx {ws:List Pat}(hwn:(ws.map (·.1)).Nodup){x:Pat}(hx:x∈ws){S:List Pat}(hS:∀ y∈S,∃ n,0 < n/\Lr n y){j:Nat}(hj:j+1 < x.1.length):numA (frame x.1) (j+2) 0 S=mxL (ju_ ws S (x.1,j+1)):=by
 refine tq_ ((yw_ ..).mpr ⟨jac_ _,fun v hv=>?_⟩) (jdy_ jdt_ fun n hn=>?_)
 ·obtain⟨y,hy,ht⟩:=tells_one.mp hv
  obtain⟨n,hn,hl⟩:=hS y hy
  rcases jae_ (bs:=[y]) (fun z hz=>by rw[pv_.mp hz];exact hl) ht with e | e
  ·rw[e] at ht ⊢
   refine jdr_ ?_
   rw[<- y9_ hn hl]
   exact jcv_ hy ((jcl_ hwn hx).mpr ((vb_ hn hl hj).mp ht))
  ·rw[e];exact jac_ _
 ·unfold ju_ at hn
  obtain⟨y,hy,rfl⟩:=pq_.mp hn
  obtain⟨hy1,hy2⟩:=py_.mp hy
  obtain⟨n,hn0,hl⟩:=hS y hy1
  rw[y9_ hn0 hl]
  exact jgb_ (tells_one.mpr ⟨y,hy1,(vb_ hn0 hl hj).mpr ((jcl_ hwn hx).mp (of_decide_eq_true hy2))⟩)
theorem jxh_ {ws:List Pat}(hwn:(ws.map (·.1)).Nodup){S:List Pat}(hS:∀ y∈S,∃ n,0 < n/\Lr n y):AsL ws S↔AsS ws S:=by
 have key:∀ x∈ws,∀ j,j < x.1.length - 1->(j8_ (vals S x.1) j=decide ((j:Int)+1∈x.2)↔decide (mxL (ju_ ws S (x.1,j+1)) % 2=1)=yj_ ws (x.1,j+1)):=fun x hx j hj=>by
  rw[x4_ hj,num_mx hwn hx hS (by omega),jme_ hwn hx,show ((j+1:Nat):Int)=(j:Int)+1 by omega];rfl
 exact⟨fun h x hx j hj=>(key x hx j hj).mp (h x hx j hj),fun h x hx j hj=>(key x hx j hj).mpr (h x hx j hj)⟩
noncomputable def selF (ps:List Pat)(fl:List Bool):List Pat:=((po_ ps.length).filter fun k=>fl.getD k false).map (zg_ ps)
theorem jfo_ {ps:List Pat}(hn:ps.Nodup){k k':Nat}(hk:k < ps.length)(hk':k' < ps.length)(h:zg_ ps k=zg_ ps k'):k=k':=by
 unfold zg_ at h
 rw[pd_,pd_,pa_ hk,pa_ hk'] at h
 exact(List.getElem_inj hn).mp h
theorem jty_ {ps:List Pat}(hn:ps.Nodup)(fl:List Bool):(selF ps fl).Nodup:=xy_ (wf_.filter _) fun a ha b hb e=>jfo_ hn (p5_.mp (py_.mp ha).1) (p5_.mp (py_.mp hb).1) e
theorem jje_ {ps:List Pat}{fl:List Bool}{k:Nat}(hk:k < ps.length)(hf:fl.getD k false=true):zg_ ps k∈selF ps fl:=pq_.mpr ⟨k,py_.mpr ⟨p5_.mpr hk,hf⟩,rfl⟩
theorem jon_ {ps:List Pat}{k:Nat}(hk:k < ps.length):zg_ ps k∈ps:=by
 unfold zg_
 rw[pd_,pa_ hk]
 exact ps_ hk
theorem vc_ {ps:List Pat}(hn:ps.Nodup)(fl:List Bool){k:Nat}(hk:k < ps.length):selT ps fl k=(selF ps fl).erase (zg_ ps k):=by
 rw[(jty_ hn fl).erase_eq_filter]
 unfold selT selI selF
 rw[lm_,w5_]
 congr 1
 refine t4_ fun a ha=>?_
 have ha:=p5_.mp ha
 simp only[wn_]
 congr 1
 by_cases e:a=k
 ·subst e;simp
 ·rw[decide_eq_true e]
  have:zg_ ps a≠zg_ ps k:=fun z=>e (jfo_ hn ha hk z)
  simp[this]
theorem jrb_ {ps:List Pat}(hn:ps.Nodup){fl:List Bool}{k:Nat}(hk:k < ps.length)(hl:fl.length=ps.length):selF ps (fl.set k false)=(selF ps fl).erase (zg_ ps k):=by
 rw[<- vc_ hn fl hk]
 unfold selF selT selI
 congr 1
 refine t4_ fun a ha=>?_
 have ha:=p5_.mp ha
 rw[pd_,pd_,List.getElem?_set]
 by_cases e:k=a
 ·subst e
  simp[show k < fl.length by omega]
 ·rw[if_neg e,decide_eq_true (td_ e)];rfl
theorem jiz_ (ps:List Pat):selF ps (pg_ ps.length true)=ps:=by
 unfold selF
 have h1:(po_ ps.length).filter (fun k=>(pg_ ps.length true).getD k false)=po_ ps.length:=List.filter_eq_self.mpr fun k hk=>by
  have:=p5_.mp hk
  simp[pd_,this]
 rw[h1]
 apply ki_
 intro i
 by_cases hi:i < ps.length
 ·rw[pf_,List.getElem?_range hi,pa_ hi]
  unfold zg_
  simp[pd_,hi]
 ·rw[sg_ (by rw[pb_,qb_];omega),sg_ (by omega)]
noncomputable def xs_ (ps:List Pat)(fl:List Bool)(m:Nat):List Pat:=(((po_ ps.length).filter fun k=>decide (m<=k)&&fl.getD k false).reverse).map (zg_ ps)
theorem jif_ (ps:List Pat)(fl:List Bool):xs_ ps fl 0=(selF ps fl).reverse:=by
 unfold xs_ selF
 rw[List.map_reverse]
 congr 2
theorem jgv_ (ps:List Pat)(fl:List Bool):xs_ ps fl ps.length=[]:=by
 unfold xs_
 rw[rs_.mpr fun k hk z=>by
  have:=p5_.mp hk
  rw[decide_eq_false (by omega)] at z;cases z]
 rfl
theorem jhm_ (ps:List Pat)(fl:List Bool){m:Nat}(hm:m < ps.length):xs_ ps fl m=xs_ ps fl (m+1)++if fl.getD m false=true then [zg_ ps m] else []:=by
 have hr:∀(N m:Nat),m < N->(po_ N).filter (fun k=>decide (m<=k)&&fl.getD k false)=(if fl.getD m false=true then [m] else [])++(po_ N).filter (fun k=>decide (m+1<=k)&&fl.getD k false):=fun N=>by
  induction N with
  | zero=>intro m h;omega
  | succ N ih =>
   intro m h
   rw[qm_,qd_,qd_]
   by_cases e:m=N
   ·subst e
    have z1:(po_ m).filter (fun k=>decide (m<=k)&&fl.getD k false)=[]:=rs_.mpr fun k hk z=>by
     have:=p5_.mp hk
     rw[decide_eq_false (by omega)] at z;cases z
    have z2:(po_ m).filter (fun k=>decide (m+1<=k)&&fl.getD k false)=[]:=rs_.mpr fun k hk z=>by
     have:=p5_.mp hk
     rw[decide_eq_false (by omega)] at z;cases z
    rw[z1,z2,pz_,pz_,qn_,decide_eq_true (pm_ m),decide_eq_false (by omega:¬ m+1<=m)]
    simp
   ·rw[ih m (by omega),qw_]
    congr 2
    rw[pz_,pz_,qn_,decide_eq_true (by omega:m<=N),decide_eq_true (by omega:m+1<=N)];rfl
 unfold xs_
 rw[hr _ m hm,List.reverse_append,ph_]
 congr 1
 split <;> rfl
noncomputable abbrev s_law_due:Stmt:=top 33
theorem sc_law_due:FnScope ["_law_words_here","_law_levels_here","_law_patterns","_law_laid_here","_law_left","_law_struck","_law_k","_law_some"] ["_law_words_here","_law_levels_here"] (jp_ s_law_due):=by walk_at "f"
theorem jwa_ {ws:List Pat}{lvs:List (Nat×Option Int)}{ps:List Pat}(hwn:(ws.map (·.1)).Nodup)(hw:∀ x∈ws,∀ c∈x.1,c≠46)(h:TEn ws lvs 2 ps):AsS ws ps:=by
 have hl:∀ y∈ps,∃ n,0 < n/\Lr n y:=fun y hy=>by obtain⟨n,h1,_,h2⟩:=(vg_ h).2 y hy;exact⟨n,h1,h2⟩
 rw[<- jxh_ hwn hl]
 obtain⟨a1,b2,⟨a0,b1,h0,l1,rfl⟩,l2,rfl⟩:=h
 have e1:((lvs.length / 2 * 2+2+1:Nat):Int)=((lvs.length / 2 * 2+2+0:Nat):Int)+1:=by omega
 rw[e1] at l2
 refine jrv_ (m:=((lvs.length / 2 * 2+2+0:Nat):Int)) (by omega) (by omega) hwn hw (fun x hx=>by have:=jbe_ hx;omega) (fun x hx j hj=>?_) l1 l2
 refine(yw_ ..).mpr ⟨by omega,fun v hv=>?_⟩
 obtain⟨y,hy,ht⟩:=tells_one.mp hv
 obtain⟨n,hn,hnk,hly⟩:=(vg_ h0).2 y hy
 rcases jae_ (bs:=[y]) (fun z hz=>by rw[pv_.mp hz];exact hly) ht with e | e
 ·rw[e];exact Int.le_of_lt hnk
 ·rw[e];exact Int.natCast_nonneg _
def spDu:Sp:=fun vs H Q _=>∃(v u:V) (ws:List Pat) (lvs:List (Nat×Option Int)),vs=[v,u]/\Is H v (zc_ ws)/\Is H u (lvsD lvs)/\(∀ x∈ws,1<=x.1.length/\x.1.length<=7)/\(ws.length<=10/\gN ws<=12)/\(∀ l∈lvs,LvOk l)/\lvs.length<=20/\(lvs.length+2) * (gN ws * 81)<=9000/\(∀ x∈ws,∀ c∈x.1,c≠46)/\(ws.map (·.1)).Nodup /\
 ∀(r:Addr) (zs:List V) (ps:List Pat) (H':Hp),H r=none->H' r=some (.lst zs)->TEn ws lvs 2 ps->L2.IsL H' zs ((zj_ ws (ps.length+1) ps).map (itD ws (zj_ ws (ps.length+1) ps)))->AsS ws (zj_ ws (ps.length+1) ps)->(∀ y∈zj_ ws (ps.length+1) ps,y∈ps)->Same H H'->Q (.ref r) H'
section
variable {P:Program}{w:World}{K:pc_}{mg:Str->Option Value}{base:Heap}{f:Addr}{fd:FuncData}{tk:Nat->Tok}
theorem jlj_ (T:Txt mg tk)(F:Fun K "_law_due" "_law_due" s_law_due f fd)(D_law_taught:Dn P w K mg base "_law_taught" 4 ["_law_words_here","_law_levels_here"] jfn_)(D_law_laid:Dn P w K mg base "_law_laid" 2 ["_law_words_here","_law_patterns"] (jkw_ P w))(D_law_first_wrong:Dn P w K mg base "_law_first_wrong" 1 ["_law_words_here","_law_laid_here","_law_left","_law_out"] (spFw P w)):FnOk P w K mg base CX0 5 f fd ["_law_words_here","_law_levels_here"] spDu:=by
 refine F.ok sc_law_due (fun vs H Q E h=>?_) (fun cdv A outer s H vs Q E hr h=>?_)
 ·obtain⟨v,u,ws,lvs,rfl,_⟩:=h
  rfl
 obtain⟨v,u,ws,lvs,rfl,hv,hu,hws,hwl,hlv,hll,hlg,hdot,hwn,q⟩:=h
 have nd:=sc_law_due.nd
 refine⟨_,(je_ (jm_ (i:=2) nd rfl (Or.inr rfl) (jn_ D_law_taught hr.mo_ rfl (ja_ (pv 0) (ja_ (pv 1) jc_))))
  (je_ (jm_ (i:=3) nd rfl (Or.inr rfl) (jn_ D_law_laid hr.mo_ rfl (ja_ (pv 0) (ja_ (pv 2) jc_))))
  (je_ (jm_ (i:=4) nd rfl (Or.inr rfl) (jk_ yo_ (j6_ (ja_ uh_ jc_)) (jo_ (zm_ (K:=K)) rfl T.z_len (by decide +kernel) (ja_ (pv 2) jc_))))
  (je_ (jm_ (i:=5) nd rfl (Or.inl rfl) uh_)
  (je_ (jjg_ pu_ (x7_ (pv 5) (fun _=>rfl))
   (je_ (jm_ (i:=5) nd rfl (Or.inl rfl) uh_)
  (ji_ (j1_ pu_ rfl (joc_ rfl T.z_range (ja_ (jk_ xr_ (jo_ (zm_ (K:=K)) rfl T.z_len (by decide +kernel) (ja_ (pv 2) jc_)) jf_) (ja_ (jmn_ jnc_ jf_) (ja_ (jmn_ jnc_ jf_) jc_)))) (jj_ (i:=6) nd rfl (Or.inl rfl))
   (ji_ (y1_ (PW.pt (jgf_ (x7_ (jz_ (js_ (K:=K)) (pv 4) (pv 6) (fun _ _=>rfl)) (fun _=>rfl)) (jch_ (zd_ o_is (jn_ D_law_first_wrong hr.mo_ rfl (ja_ (pv 0) (ja_ (pv 3) (ja_ (pv 4) (ja_ (pv 6) jc_))))) xx_ (j3_ _)))))
   (je_ (jct_ uh_ (jkv_ (pv 4) (pv 6) jsb_))
  (ji_ (jm_ (i:=5) nd rfl (Or.inl rfl) uh_)))
   z1_))))))
  (je_ (jci_ (i:=7) ["_law_left","_law_k"] [some 4,none] rfl (by kernel_rfl) rfl nd rfl rfl (zi_ rfl T.z_range (ja_ (jo_ (zm_ (K:=K)) rfl T.z_len (by decide +kernel) (ja_ (pv 2) jc_)) jc_)) (fun _ _ _ _=>(jj_ (i:=1) (show (["_law_left","_law_k"]:List Str).Nodup by decide +kernel) rfl (Or.inl rfl) (Or.inr rfl))) (fun _ _ _ _=>(xu_ (x7_ (jz_ (js_ (K:=K)) (pv 0) (pv 1) (fun _ _=>rfl)) (fun _=>rfl)))) (fun _ _ _ _=>(pv 1)))
  (ji_ (j2_ (zo_ ["_law_patterns","_law_words_here","_law_laid_here","_law_left","_law_k"] [some 2,some 0,some 3,some 4,none] rfl (by kernel_rfl) rfl (zb_ (K:=K) (pv 7)) (fun _ _ _ _=>(jj_ (i:=4) (show (["_law_patterns","_law_words_here","_law_laid_here","_law_left","_law_k"]:List Str).Nodup by decide +kernel) rfl (Or.inl rfl) (Or.inr rfl))) (fun _ _ _ _=>z6_) (fun _ _ _ _=>(zx_ (ja_ (jz_ (js_ (K:=K)) (pv 0) (pv 4) (fun _ _=>rfl)) (ja_ (jn_ D_law_first_wrong hr.mo_ rfl (ja_ (pv 1) (ja_ (pv 2) (ja_ (pv 3) (ja_ (pv 4) jc_))))) jc_))))))))))))),?_⟩
 rw[show L2.start ["_law_words_here","_law_levels_here","_law_patterns","_law_laid_here","_law_left","_law_struck","_law_k","_law_some"] [v,u]=[some (v),some (u),none,none,none,none,none,none] from rfl]
 walk_at "go"
 refine⟨v,u,ws,lvs,rfl,hv,hu,hws,hwl,hlv,hll,hlg,fun pa yp ps H1 hpa epa hyp hte s1=>?_⟩
 obtain⟨hpnd,hpnum⟩:=vg_ hte
 have hplen:=y8_ (fun x hx=>(hws x hx).2) hte
 have hpv:=xi_ (fun l hl=>(hlv l hl).1) (fun x hx=>(hws x hx).2) hte
 have hlr:∀ y∈ps,∃ n,0 < n/\Lr n y:=fun y hy=>by obtain⟨n,h1,_,h2⟩:=hpnum y hy;exact⟨n,h1,h2⟩
 have hps9:ps.length<=9000:=by omega
 have hypl:=hyp.length
 rw[pb_] at hypl
 have has:=jwa_ hwn hdot hte
 walk_at "go"
 refine⟨v,.ref pa,ws,ps,rfl,Is.same s1 hv,by simp only[Is,zc_];exact⟨pa,yp,rfl,epa,hyp⟩,hws,hwl.1,hlr,hpv,hps9,hwn,fun d H2 hd hld s2=>?_⟩
 have s02:=s1.trans s2
 have epa2:=s2 _ _ epa
 have hyp2:=IsL.same s2 hyp
 walk_at "go"
 intro t0 ht0
 have st0:=jd_ ht0 (.lst [.bl true])
 have epa2b:=st0 _ _ epa2
 walk_at "go"
 refine ul_ jb_ (by omega) fun le hle=>?_
 have hrep:(pg_ ((yp.length:Int)).toNat (V.bl true))=(pg_ ps.length true).map V.bl:=by
  rw[to_,hypl];congr 1
 rw[hrep]
 have sle:=jd_ hle (.lst ((pg_ ps.length true).map V.bl))
 have ele:=jb_ (H:=upd H2 t0 (.lst [.bl true])) (a:=le) (o:=.lst ((pg_ ps.length true).map V.bl))
 have s23:=st0.trans sle
 generalize upd (upd H2 t0 (.lst [.bl true])) le (.lst ((pg_ ps.length true).map V.bl))=H3 at sle ele s23 ⊢
 have s03:=s02.trans s23
 have epa3:=s23 _ _ epa2
 have hleH:H le=none:=(s02.trans st0).free hle
 have hld3:=hld.mono (H':=H3) (fun o e=>s23 _ _ e) (fun c zs e=>s23 _ _ e) (fun r zs e=>s23 _ _ e)
 have lepa:le≠pa:=fun z=>by rw[z,epa2b] at hle;cases hle
 have hle2:H2 le=none:=st0.free hle
 generalize hR:zj_ ws (ps.length+1) ps=R at q
 walk_at "go"
 refine⟨fun m σ H'=>∃(v6 v7:Option V) (fl:List Bool) (b:Bool),σ=[some v,some u,some (.ref pa),some (.ref d),some (.ref le),some (.bl b),v6,v7]/\H' le=some (.lst (fl.map V.bl))/\fl.length=ps.length/\(b=true->zj_ ws ((selF ps fl).length+1) (selF ps fl)=R)/\(b=false->selF ps fl=R)/\AsS ws (selF ps fl)/\m=(if b=true then (selF ps fl).length+1 else 0)/\(∀ c o,c≠le->H3 c=some o->H' c=some o),
  ⟨_,none,none,pg_ ps.length true,true,rfl,ele,q9_,(fun _=>by rw[jiz_];exact hR),(fun z=>by cases z),by rw[jiz_];exact has,rfl,fun _ _ _ e=>e⟩,?_⟩
 rintro m σ Ha ⟨v6,v7,fl,b,rfl,ela,hfl,hbt,hbf,hasf,rfl,ka⟩
 walk_at "go"
 cases b with
 | true =>
  have hbt:=hbt rfl
  refine yl_ rfl ?_
  refine⟨fun σ' H'=>∃(v6 v7:Option V) (fl':List Bool) (b':Bool),σ'=[some v,some u,some (.ref pa),some (.ref d),some (.ref le),some (.bl b'),v6,v7]/\H' le=some (.lst (fl'.map V.bl))/\fl'.length=ps.length/\(b'=true->zj_ ws ((selF ps fl').length+1) (selF ps fl')=R)/\(b'=false->selF ps fl'=R)/\AsS ws (selF ps fl')/\(if b'=true then (selF ps fl').length+1 else 0) < (selF ps fl).length+1/\(∀ c o,c≠le->H3 c=some o->H' c=some o),?_,?_⟩
  ·rintro σ' H' ⟨w6,w7,fl',b',h1,h2,h3,h4,h5,h6,h7,h8⟩
   exact⟨_,by rw[if_pos rfl];exact h7,w6,w7,fl',b',h1,h2,h3,h4,h5,h6,rfl,h8⟩
  have epaa:=ka _ _ lepa.symm epa3
  walk_at "go"
  refine jzr_ ?_
  walk_at "go"
  refine⟨(yp.length:Int) - 1,-1,rfl,by omega,?_⟩
  have hcount:((yp.length:Int) - 1 - -1).toNat=ps.length:=by omega
  rw[hcount]
  refine jjy_ (fun i σ H'=>∃(w6:Option V) (fl':List Bool) (b':Bool),σ=[some v,some u,some (.ref pa),some (.ref d),some (.ref le),some (.bl b'),w6,v7]/\H' le=some (.lst (fl'.map V.bl))/\fl'.length=ps.length/\(∀ k,k < ps.length - i->fl'.getD k false=fl.getD k false)/\selF ps fl'=yg_ ws (xs_ ps fl (ps.length - i)) (selF ps fl)/\AsS ws (selF ps fl')/\b'=decide ((selF ps fl').length < (selF ps fl).length)/\(∀ c o,c≠le->H3 c=some o->H' c=some o))
   ⟨_,fl,false,rfl,ela,hfl,(fun _ _=>rfl),by rw[Nat.sub_zero,jgv_];rfl,hasf,(by simp),ka⟩ ?_ ?_
  ·rintro i σ Hb hi ⟨w6,fl',b',rfl,elb,hfl',hag,hro,hasb,hb',kb⟩
   have hk:ps.length - 1 - i < ps.length:=by omega
   have hki:(yp.length:Int) - 1 - (i:Int)=((ps.length - 1 - i:Nat):Int):=by omega
   have hstep:=jhm_ ps fl hk
   rw[show ps.length - 1 - i+1=ps.length - i by omega] at hstep
   rw[show ps.length - (i+1)=ps.length - 1 - i by omega,hstep]
   have hagk:=hag (ps.length - 1 - i) (by omega)
   have hat:atI (fl'.map V.bl) ((ps.length - 1 - i:Nat):Int)=some (.bl (fl.getD (ps.length - 1 - i) false)):=z5_ (by omega) (by
    rw[<- hagk,pd_,show (((ps.length - 1 - i:Nat):Int)).toNat=ps.length - 1 - i by omega,pf_,pa_ (show ps.length - 1 - i < fl'.length by omega)];rfl)
   have hag2:∀ k,k < ps.length - 1 - i->fl'.getD k false=fl.getD k false:=fun k hk=>hag k (by omega)
   generalize ps.length - 1 - i=k at *
   rw[hki]
   walk_at "go"
   try refine y3_ (j5_ elb) hat ?_
   try walk_at "go"
   cases hfk:fl.getD k false with
   | false =>
    try refine yp_ rfl ?_
    walk_at "go"
    rw[if_neg pk_,qk_]
    exact⟨_,fl',b',rfl,elb,hfl',hag2,hro,hasb,hb',kb⟩
   | true =>
    rw[hfk] at hagk
    try refine yl_ rfl ?_
    have hldb:LdD P w Hb d ws ps (ws.flatMap gapS):=hld.mono (fun o e=>kb _ _ (jg_ e hle2) (s23 _ _ e)) (fun c zs e=>kb _ _ (jg_ e hle2) (s23 _ _ e)) (fun r zs e=>kb _ _ (jg_ e hle2) (s23 _ _ e))
    have sHb:Same H Hb:=fun c o e=>kb _ _ (jg_ e hleH) (s03 _ _ e)
    walk_at "go"
    refine⟨v,d,le,ws,ps,fl',k,rfl,Is.same sHb hv,hldb,elb,hfl',hps9,hws,hwl.1,hwn,fun Hc sc=>?_⟩
    have hyS:=jje_ hk hagk
    have hwf:zq_ ws (selF ps fl') (zg_ ps k)=xl_ ws (selT ps fl' k):=by rw[vc_ hpnd fl' hk];exact jcn_ hwn hasb hyS
    rw[if_pos rfl,vz_,<- hro,hwf]
    have elc:=sc _ _ elb
    have hsubl:(selF ps fl').length<=(selF ps fl).length:=by rw[hro];exact(xn_ ws _ _).length_le
    walk_at "go"
    cases hfw:xl_ ws (selT ps fl' k) with
    | none =>
     have hasn:AsS ws ((selF ps fl').erase (zg_ ps k)):=by rw[<- vc_ hpnd fl' hk];exact first_none.mp hfw
     have hel:=ss_ hyS
     have hpos:=tt_ hyS
     have hset:=jrb_ hpnd (fl:=fl') hk hfl'
     try refine yl_ (by simp[wV]) ?_
     walk_at "go"
     refine jmf_ elc (j:=k) (by unfold ixN;rw[pb_];simp;omega) ?_
     have hms:(fl'.map V.bl).set k (V.bl false)=(fl'.set k false).map V.bl:=by rw[List.map_set]
     rw[hms]
     walk_at "go"
     refine⟨_,fl'.set k false,true,rfl,jb_,by rw[List.length_set];exact hfl',(fun k' hk'=>?_),by rw[if_pos rfl,hset],by rw[hset];exact hasn,?_,fun c o z e=>by rw[jh_ z];exact sc _ _ (kb c o z e)⟩
     ·rw[<- hag2 k' hk',pd_,pd_,wg_ (by omega)]
     ·rw[hset,hel]
      exact(decide_eq_true (by omega)).symm
    | some u' =>
     try refine yp_ (by simp[wV]) ?_
     walk_at "go"
     rw[if_neg (by simp)]
     exact⟨_,fl',b',rfl,elc,hfl',hag2,rfl,hasb,hb',fun c o z e=>sc _ _ (kb c o z e)⟩
  ·rintro σ Hb ⟨w6,fl',b',rfl,elb,hfl',hag,hro,hasb,hb',kb⟩
   rw[t9_,jif_] at hro
   have hro2:selF ps fl'=rnd ws (selF ps fl):=hro
   refine⟨_,_,fl',b',rfl,elb,hfl',(fun z=>?_),(fun z=>?_),hasb,?_,kb⟩
   ·rw[hb'] at z
    have z:=of_decide_eq_true z
    rw[<- hbt,hro2] at *
    rw[show zj_ ws ((selF ps fl).length+1) (selF ps fl)=zj_ ws (selF ps fl).length (rnd ws (selF ps fl)) from if_pos z]
    exact ut_ ws _ _ _ (by omega) z
   ·rw[hb'] at z
    have z:=of_decide_eq_false z
    rw[hro2] at z ⊢
    rw[<- hbt]
    exact(if_neg z).symm
   ·split
    ·rename_i z
     rw[hb'] at z
     have z:=of_decide_eq_true z
     omega
    ·omega
 | false =>
  have hR2:=hbf rfl
  try refine yp_ rfl ?_
  have epaa:=ka _ _ lepa.symm epa3
  walk_at "go"
  intro so hso
  have sole:so≠le:=fun z=>by rw[z,ela] at hso;cases hso
  refine z7_ (fun j acc σ H'=>∃(w:Option V),σ=[some (.ref le),w]/\acc=((po_ j).filter fun k=>fl.getD k false).map (fun k:Nat=>V.int (k:Int))/\H' so=some (.lst acc)/\Same Ha H')
   ⟨none,rfl,rfl,jb_,jd_ hso _⟩ (fun j acc σ H' ⟨_,_,e,e3,_⟩=>⟨e3,by rw[e,pb_];exact p7_ (qf_ _ _) (by rw[qb_];exact pm_ _)⟩) (szn (by omega)) ?_ ?_
  ·rintro j acc σ Hb hj ⟨w',rfl,rfl,esb,sb⟩
   have hj2:j < fl.length:=by omega
   have elb:=sb _ _ ela
   have h0j:(0:Int)+(j:Int)=(j:Int):=by omega
   have hat:atI (fl.map V.bl) (j:Int)=some (.bl (fl.getD j false)):=z5_ (by omega) (by
    rw[pd_,show ((j:Int)).toNat=j by omega,pf_,pa_ hj2];rfl)
   rw[qm_,qd_,ph_,h0j]
   walk_at "go"
   try refine y3_ (j5_ elb) hat ?_
   try walk_at "go"
   cases hfk:fl.getD j false with
   | false =>
    try refine yp_ rfl ?_
    walk_at "go"
    refine⟨_,rfl,?_,esb,sb⟩
    rw[pz_,qn_,hfk];simp
   | true =>
    try refine yl_ rfl ?_
    walk_at "go"
    refine⟨esb,_,rfl,?_,jb_,fun b' o e=>by rw[jh_ (jg_ e hso)];exact sb _ _ e⟩
    rw[pz_,qn_,hfk];rfl
  rintro acc σ Hb ⟨w',rfl,rfl,esb,sb⟩
  rw[show ((yp.length:Int)).toNat=ps.length by omega] at esb
  have hsel:selF ps fl=((po_ ps.length).filter fun k=>fl.getD k false).map (zg_ ps):=rfl
  have hidx:∀ k∈(po_ ps.length).filter fun k=>fl.getD k false,k < ps.length/\fl.getD k false=true:=fun k hk=>⟨p5_.mp (py_.mp hk).1,(py_.mp hk).2⟩
  have hil:((po_ ps.length).filter fun k=>fl.getD k false).length<=9000:=p7_ (qf_ _ _) (by rw[qb_];exact hps9)
  generalize (po_ ps.length).filter (fun k=>fl.getD k false)=idx at *
  have sHa:Same H Ha:=fun c o e=>ka _ _ (jg_ e hleH) (s03 _ _ e)
  have hlda:LdD P w Ha d ws ps (ws.flatMap gapS):=hld.mono (fun o e=>ka _ _ (jg_ e hle2) (s23 _ _ e)) (fun c zs e=>ka _ _ (jg_ e hle2) (s23 _ _ e)) (fun r zs e=>ka _ _ (jg_ e hle2) (s23 _ _ e))
  have hypa:L2.IsL Ha yp (ps.map patD):=IsL.tk (fun c zs e=>ka _ _ (fun z=>by rw[z,ele] at e;cases e) e) (jw_ _) (IsL.same s23 hyp2)
  walk_at "go"
  intro cr hcr
  refine zr_ (K:=K) (xs:=idx.map fun k:Nat=>V.int (k:Int)) (fun j acc σ H'=>∃(w:Option V),σ=[some (.ref pa),some v,some (.ref d),some (.ref le),w]/\acc.length=j/\H' cr=some (.lst acc)/\L2.IsL H' acc (((idx.take j).map (zg_ ps)).map (itD ws R))/\Same Hb H')
   (fun j acc σ H' _ ⟨_,_,_,_,_,s3⟩=>SqL.of (s3 _ _ esb)) ⟨none,rfl,rfl,jb_,(by simp[L2.IsL]),jd_ hcr _⟩ (fun j acc σ H' ⟨_,_,e,e3,_⟩=>⟨e3,s1_ e⟩) (szn (by rw[pb_];omega)) ?_ ?_
  ·rintro j acc σ Hc hj ⟨w',rfl,hal,ecr,hacc,sc⟩
   have hj':j < idx.length:=by simpa using hj
   have hgd:(idx.map fun k:Nat=>V.int (k:Int)).getD j .non=V.int (idx[j]:Int):=by rw[pd_,pf_,pa_ hj'];rfl
   obtain⟨hk1,hk2⟩:=hidx _ (ps_ hj')
   rw[hgd,p8_,pa_ hj',ph_,ph_]
   generalize idx[j]=k at *
   have sac:=sb.trans sc
   have hkl:k < yp.length:=by omega
   have hatp:atI yp (k:Int)=some yp[k]:=z5_ (by omega) (by rw[show ((k:Int)).toNat=k by omega,pa_ hkl])
   have hIk:Is Hc yp[k] (patD (zg_ ps k)):=by
    obtain⟨y',dd,q1,q2,q3⟩:=IsL.get (IsL.same sac hypa) (show k < (ps.map patD).length by simpa using hk1)
    rw[pa_ hkl] at q1
    cases q1
    rw[pf_,pa_ hk1] at q2
    cases q2
    have hpe:zg_ ps k=ps[k]:=by unfold zg_;rw[pd_,pa_ hk1];rfl
    rw[hpe];exact q3
   generalize yp[k]=vy at *
   have epac:=sac _ _ epaa
   have hldc:=hlda.mono (H':=Hc) (fun o e=>sac _ _ e) (fun c zs e=>sac _ _ e) (fun r zs e=>sac _ _ e)
   have hwf:zq_ ws (selF ps fl) (zg_ ps k)=xl_ ws (selT ps fl k):=by rw[vc_ hpnd fl hk1];exact jcn_ hwn hasf (jje_ hk1 hk2)
   walk_at "go"
   refine⟨v,d,le,ws,ps,fl,k,rfl,Is.same (sHa.trans sac) hv,hldc,sac _ _ ela,hfl,hps9,hws,hwl.1,hwn,fun Hd sd=>?_⟩
   rw[<- hwf,hR2]
   walk_at "go"
   intro tp htp
   have stp:=jd_ htp (.tup [vy,wV (zq_ ws R (zg_ ps k))])
   have etp:=jb_ (H:=Hd) (a:=tp) (o:=.tup [vy,wV (zq_ ws R (zg_ ps k))])
   generalize upd Hd tp (.tup [vy,wV (zq_ ws R (zg_ ps k))])=He at stp etp ⊢
   have se:=sd.trans stp
   have ece:=se _ _ ecr
   have k5:Tk He (upd He cr (.lst (acc++[.ref tp]))):=Tk.lst ece _
   refine⟨ece,_,rfl,by rw[pe_,hal];rfl,jb_,IsL.append (IsL.tk k5 (x3_ ws _ _) (IsL.same se hacc)) ?_,fun b' o e=>by rw[jh_ (jg_ e hcr)];exact se _ _ (sc _ _ e)⟩
   simp only[r0_,pr_,qs_,L2.IsL,and_true]
   refine Is.tk k5 (by have:=x3_ ws R [zg_ ps k];simpa [zf_] using this) ?_
   simp only[Is,itD]
   refine⟨tp,_,rfl,etp,?_⟩
   simp only[L2.IsL,and_true]
   exact⟨Is.same se hIk,jqc_ _⟩
  ·rintro acc σ Hc ⟨w',rfl,hal,ecr,hacc,sc⟩
   rw[pb_,p0_,<- hsel,hR2] at hacc
   walk_at "go"
   refine q cr acc ps Hc ((sHa.trans sb).free hcr) ecr hte ?_ ?_ ?_ ((sHa.trans sb).trans sc)
   ·rw[hR];exact hacc
   ·rw[hR,<- hR2];exact hasf
   ·rw[hR,<- hR2,hsel]
    intro y hy
    obtain⟨k,hk,rfl⟩:=pq_.mp hy
    exact jon_ (hidx k hk).1
end
noncomputable abbrev s_law_is_full:Stmt:=top 34
theorem sc_law_is_full:FnScope ["_law_words_here","_law_found","_law_patterns","_law_word","_law_gaps","_law_told"] ["_law_words_here","_law_found"] (jp_ s_law_is_full):=by walk_at "f"
theorem jah_ (ws:List Pat):∀(k:Nat) (S:List Pat),S.length < k->rnd ws (zj_ ws k S)=zj_ ws k S
 | 0,S,h=>by omega
 | k+1,S,h=>by
  unfold zj_
  by_cases hl:(rnd ws S).length < S.length
  ·rw[if_pos hl]
   exact jah_ ws k _ (by omega)
  ·rw[if_neg hl]
   have hs:=jbz_ ws S
   have e:rnd ws S=S:=hs.eq_of_length (by have:=hs.length_le;omega)
   rw[e,e]
theorem jeb_ (ws:List Pat):∀(r S:List Pat),(∀ y∈r,y∈S)->yg_ ws r S=S->∀ y∈r,zq_ ws S y≠none
 | [],S,_,_,y,hy=>nomatch hy
 | x::r,S,hm,he,y,hy=>by
  have he:yg_ ws r (if zq_ ws S x=none then S.erase x else S)=S:=he
  by_cases hx:zq_ ws S x=none
  ·rw[if_pos hx] at he
   have h1:=(xn_ ws r (S.erase x)).length_le
   rw[he,ss_ (hm x pn_)] at h1
   have:=tt_ (hm x pn_)
   omega
  ·rw[if_neg hx] at he
   rcases p6_.mp hy with e | e
   ·rw[e];exact hx
   ·exact jeb_ ws r S (fun z hz=>hm z (pl_ _ hz)) he y e
theorem jos_ {ws S:List Pat}{k:Nat}(h:S.length < k):∀ y∈zj_ ws k S,zq_ ws (zj_ ws k S) y≠none:=fun y hy =>
 jeb_ ws _ _ (fun z hz=>List.mem_reverse.mp hz) (jah_ ws k S h) y (List.mem_reverse.mpr hy)
theorem isIt {H:Hp}{v:V}{ws R:List Pat}{y:Pat}(h:Is H v (itD ws R y)):∃ a v',v=.ref a/\H a=some (.tup [v',wV (zq_ ws R y)])/\Is H v' (patD y):=by
 simp only[Is,itD] at h
 obtain⟨a,ys,rfl,ha,hy⟩:=h
 match ys,hy with
 | [y1,y2],hy =>
  simp only[L2.IsL] at hy
  obtain⟨h1,h2,_⟩:=hy
  have e:y2=wV (zq_ ws R y):=by
   cases hw:zq_ ws R y with
   | none=>rw[hw] at h2;simpa only [Is,wD,wV] using h2
   | some u=>rw[hw] at h2;simpa only [Is,wD,wV] using h2
  subst e
  exact⟨a,y1,rfl,ha,h1⟩
 | [],hy=>simp only[L2.IsL] at hy
 | [_],hy=>simp only[L2.IsL] at hy;exact hy.2.elim
 | _::_::_::_,hy=>simp only[L2.IsL] at hy;exact hy.2.2.elim
theorem jdd_ {H:Hp}:∀ l:List Int,L2.IsL H (l.map V.int) (l.map Dt.int)
 | []=>by simp[L2.IsL]
 | a::l=>by
  rw[pr_,pr_]
  simp only[L2.IsL,Is,true_and]
  exact jdd_ l
def jrd_:Sp:=fun vs H Q _=>∃(v:V) (fr:Addr) (zs:List V) (ws R:List Pat),vs=[v,.ref fr]/\Is H v (zc_ ws)/\H fr=some (.lst zs)/\L2.IsL H zs (R.map (itD ws R))/\AsL ws R/\(∀ y∈R,zq_ ws R y≠none)/\(∀ y∈R,1<=y.1.length/\y.1.length<=1000/\y.2.length<=y.1.length+1)/\R.length<=9000/\(∀ x∈ws,GWn 7 x)/\ws.length<=10 /\
 ∀ H',Same H H'->Q (.bl true) H'
section
variable {P:Program}{w:World}{K:pc_}{mg:Str->Option Value}{base:Heap}{f:Addr}{fd:FuncData}{tk:Nat->Tok}
theorem jdb_ (T:Txt mg tk)(F:Fun K "_law_is_full" "_law_is_full" s_law_is_full f fd)(D_law_values:Dn P w K mg base "_law_values" 1 ["_law_patterns","_law_word"] yx_):FnOk P w K mg base CX0 2 f fd ["_law_words_here","_law_found"] jrd_:=by
 refine F.ok sc_law_is_full (fun vs H Q E h=>?_) (fun cdv A outer s H vs Q E hr h=>?_)
 ·obtain⟨v,fr,zs,ws,R,rfl,_⟩:=h
  rfl
 obtain⟨v,fr,zs,ws,R,rfl,hv,hfr,hzs,has,hwt,hRv,hRl,hws,hwl,q⟩:=h
 have nd:=sc_law_is_full.nd
 obtain⟨va,ys,rfl,hva,hys⟩:=yt_ hv
 have hysl:=hys.length
 rw[pb_] at hysl
 have hzl:=hzs.length
 rw[pb_] at hzl
 refine⟨_,(je_ (jci_ (i:=2) ["_law_one"] [none] rfl (by kernel_rfl) rfl nd rfl rfl (zb_ (K:=K) (pv 1)) (fun _ _ _ _=>(jj_ (i:=0) (show (["_law_one"]:List Str).Nodup by decide +kernel) rfl (Or.inl rfl) (Or.inr rfl))) (fun _ _ _ _=>z6_) (fun _ _ _ _=>(jz_ (js_ (K:=K)) (pv 0) jf_ (fun _ _=>rfl))))
  (je_ (j1_ pu_ rfl (zb_ (K:=K) (pv 0)) (yi_ rfl (jr_ (jj_ (i:=3) nd rfl (Or.inl rfl)) (jr_ (jj_ (i:=4) nd rfl (Or.inl rfl)) zu_)))
   (je_ (jm_ (i:=5) nd rfl (Or.inr rfl) (jn_ D_law_values hr.mo_ rfl (ja_ (pv 2) (ja_ (pv 3) jc_))))
  (ji_ (y1_ (zd_ (o_ne hr.units) (zk_ jaj_ rfl T.z_tuple (by decide +kernel) (ja_ (zo_ ["_law_told","_law_gap"] [some 5,none] rfl (by kernel_rfl) rfl (ym_ rfl T.z_range (ja_ jf_ (ja_ (jo_ (zm_ (K:=K)) rfl T.z_len (by decide +kernel) (ja_ (pv 3) jc_)) jc_))) (fun _ _ _ _=>(jj_ (i:=1) (show (["_law_told","_law_gap"]:List Str).Nodup by decide +kernel) rfl (Or.inl rfl) (Or.inr rfl))) (fun _ _ _ _=>(xu_ (zd_ (o_eq hr.units) (jk_ xp_ (jz_ (js_ (K:=K)) (pv 0) (jk_ xr_ (pv 1) jf_) (fun _ _=>rfl)) jf_) jf_ (j3_ _)))) (fun _ _ _ _=>(pv 1))) jc_)) (pv 4) (j3_ _))
   (ji_ (j2_ uh_))
   z1_))))
  (ji_ (j2_ (jo_ (c_all rfl) rfl T.z_all (by decide +kernel) (ja_ (zo_ ["_law_one"] [none] rfl (by kernel_rfl) rfl (zb_ (K:=K) (pv 1)) (fun _ _ _ _=>(jj_ (i:=0) (show (["_law_one"]:List Str).Nodup by decide +kernel) rfl (Or.inl rfl) (Or.inr rfl))) (fun _ _ _ _=>z6_) (fun _ _ _ _=>(jyp_ (jo_ vd_ rfl T.z_isinstance (by decide +kernel) (ja_ (pv 0) (ja_ (jgj_ (v:=.ty "tuple") rfl T.z_tuple (by decide +kernel) rfl) jc_))) (pe_one (jo_ vd_ rfl T.z_isinstance (by decide +kernel) (ja_ (jz_ (js_ (K:=K)) (pv 0) jf_ (fun _ _=>rfl)) (ja_ (jgj_ (v:=.ty "str") rfl T.z_str (by decide +kernel) rfl) jc_))))))) jc_)))))),?_⟩
 rw[show L2.start ["_law_words_here","_law_found","_law_patterns","_law_word","_law_gaps","_law_told"] [.ref va,.ref fr]=[some (.ref va),some (.ref fr),none,none,none,none] from rfl]
 walk_at "go"
 intro pr hpr
 refine zr_ (K:=K) (xs:=zs) (fun j acc σ H'=>∃(w:Option V),σ=[w]/\acc.length=j/\H' pr=some (.lst acc)/\L2.IsL H' acc ((R.take j).map patD)/\Same H H')
  (fun j acc σ H' _ ⟨_,_,_,_,_,s3⟩=>SqL.of (s3 _ _ hfr)) ⟨none,rfl,rfl,jb_,(by simp[L2.IsL]),jd_ hpr _⟩ (fun j acc σ H' ⟨_,_,e,e3,_⟩=>⟨e3,s1_ e⟩) (szn (by omega)) ?_ ?_
 ·rintro j acc σ H2 hj ⟨w',rfl,hal,e2,hacc,s2⟩
  have hj':j < R.length:=by omega
  obtain⟨x',d,hx1,hx2,hx3⟩:=IsL.get (IsL.same s2 hzs) (i:=j) (by rw[pb_];exact hj')
  rw[pf_,pa_ hj'] at hx2
  cases hx2
  have hgd:zs.getD j .non=x':=by rw[pd_,hx1];rfl
  rw[hgd,p8_,pa_ hj',ph_]
  generalize R[j]=y at *
  obtain⟨ia,iv,rfl,hia,hiv⟩:=isIt hx3
  walk_at "go"
  have k5:Tk H2 (upd H2 pr (.lst (acc++[iv]))):=Tk.lst e2 _
  refine⟨e2,_,rfl,by rw[pe_,hal];rfl,jb_,IsL.append (IsL.tk k5 (jw_ _) hacc) ?_,fun b' o e=>by rw[jh_ (jg_ e hpr)];exact s2 _ _ e⟩
  simp only[r0_,pr_,qs_,L2.IsL,and_true]
  exact Is.tk k5 (yb_ _) hiv
 rintro acc σ H2 ⟨w',rfl,hal,e2,hacc,s2⟩
 rw[hzl,p0_] at hacc
 have eva2:=s2 _ _ hva
 walk_at "go"
 refine zh_ (K:=K) (xs:=ys) (fun i σ H'=>∃(v3 v4 v5:Option V),σ=[some (.ref va),some (.ref fr),some (.ref pr),v3,v4,v5]/\Same H2 H')
  ⟨none,none,none,rfl,Same.refl _⟩ (fun i σ H' _ ⟨_,_,_,_,k⟩=>SqL.of (k _ _ eva2)) ?_ ?_
 ·rintro i y0 σ Ha hy0 ⟨v3,v4,v5,rfl,sa⟩
  have hi:i < ws.length:=by have:=(pj_.mp hy0).1;omega
  obtain⟨y',dd,hy',hd1,hI⟩:=IsL.get (IsL.same (s2.trans sa) hys) (show i < (ws.map patD).length by simpa using hi)
  rw[hy0] at hy'
  cases hy'
  rw[pf_,pa_ hi] at hd1
  cases hd1
  obtain⟨a2,t2,rfl,ea2,et2⟩:=xk_ hI
  have hxm:=ps_ hi
  obtain⟨_,hw1,hw2,cx,hcx⟩:=hws _ hxm
  have hasx:=has _ hxm
  generalize ws[i]=x at *
  refine yq_ ea2 rfl (jv_ (jy_ (jv_ (jy_ (z9_ ?_)))))
  walk_at "go"
  refine⟨.ref pr,R,x.1,rfl,by simp only[Is,zc_];exact⟨pr,acc,rfl,sa _ _ e2,IsL.same sa hacc⟩,hRv,hRl,hw1,by omega,fun rv Hb hrv erv sb=>?_⟩
  have hvl:=yy_ R x.1
  walk_at "go"
  intro cr hcr
  refine z7_ (fun j acc σ H'=>∃(w:Option V),σ=[some (.ref rv),w]/\acc=(((po_ j).filter (j8_ (vals R x.1))).map fun i:Nat=>(i:Int)+1).map V.int/\H' cr=some (.lst acc)/\Same Hb H')
   ⟨none,rfl,rfl,jb_,jd_ hcr _⟩ (fun j acc σ H' ⟨_,_,e,e3,_⟩=>⟨e3,by rw[e,pb_,pb_];exact p7_ (qf_ _ _) (by rw[qb_];exact pm_ _)⟩) (szn (by omega)) ?_ ?_
  ·rintro j acc' σ Hc hj ⟨w',rfl,rfl,ec,sc⟩
   have hj2:j < (vals R x.1).length:=by omega
   have erc:=sc _ _ erv
   have hod:decide (V.int ((vals R x.1)[j] % 2)=V.int 1)=j8_ (vals R x.1) j:=by unfold j8_;simp[pd_,hj2]
   rw[qm_,qd_,ph_,ph_]
   walk_at "go"
   refine y3_ (v:=.int (vals R x.1)[j]) (j5_ erc) (z5_ (by omega) (by rw[show ((1:Int)+(j:Int) - 1).toNat=j by omega,pf_,pa_ hj2];rfl)) ?_
   walk_at "go"
   rw[hod]
   cases hfk:j8_ (vals R x.1) j with
   | false =>
    try refine⟨false,rfl,?_⟩
    try refine yp_ rfl ?_
    walk_at "go"
    refine⟨_,rfl,?_,ec,sc⟩
    rw[pz_,qn_,hfk];simp
   | true =>
    try refine⟨true,rfl,?_⟩
    try refine yl_ rfl ?_
    walk_at "go"
    refine⟨ec,_,rfl,?_,jb_,fun b' o e=>by rw[jh_ (jg_ e hcr)];exact sc _ _ e⟩
    rw[pz_,qn_,hfk,w3_];rfl
  rintro acc' σ Hc ⟨w',rfl,rfl,ec,sc⟩
  rw[show ((x.1.length:Int) - 1).toNat=x.1.length - 1 by omega] at ec
  have hge:((po_ (x.1.length - 1)).filter (j8_ (vals R x.1))).map (fun i:Nat=>(i:Int)+1)=x.2:=by
   conv=>rhs;rw[hcx]
   congr 1
   refine t4_ fun j hj=>?_
   have hj:=p5_.mp hj
   rw[hasx j hj]
   rw[r5_,decide_eq_true_eq]
   conv=>lhs;rw[hcx]
   rw[pq_]
   constructor
   ·rintro⟨k,hk,e⟩
    have:k=j:=by omega
    subst this
    exact(py_.mp hk).2
   ·intro h;exact⟨j,py_.mpr ⟨p5_.mpr hj,h⟩,rfl⟩
  rw[hge] at ec
  walk_at "go"
  refine vq_ (j5_ ec) fun tn Hd etn sd=>?_
  have et2d:=sd _ _ (sc _ _ (sb _ _ et2))
  walk_at "go"
  refine jtq_ (d:=.tup (x.2.map Dt.int)) (by simp only[Is];exact⟨tn,_,rfl,etn,jdd_ _⟩) (by simp only[Is];exact⟨t2,_,rfl,et2d,jdd_ _⟩) ((Lay.tup (n:=0) Lay.ints).ok (by decide)) ?_
  walk_at "go"
  exact⟨_,_,_,rfl,((sa.trans sb).trans sc).trans sd⟩
 ·rintro σ Ha ⟨v3,v4,v5,rfl,sa⟩
  have sa0:=s2.trans sa
  have hfra:=sa0 _ _ hfr
  walk_at "go"
  intro cr hcr
  refine zr_ (K:=K) (xs:=zs) (fun j acc σ H'=>∃(w:Option V),σ=[w]/\acc=(pg_ j true).map V.bl/\H' cr=some (.lst acc)/\Same Ha H')
   (fun j acc σ H' _ ⟨_,_,_,_,s3⟩=>SqL.of (s3 _ _ hfra)) ⟨none,rfl,rfl,jb_,jd_ hcr _⟩ (fun j acc σ H' ⟨_,_,e,e3,_⟩=>⟨e3,by rw[e];simp⟩) (szn (by omega)) ?_ ?_
  ·rintro j acc' σ Hb hj ⟨w',rfl,rfl,ec,sb⟩
   have hj':j < R.length:=by omega
   obtain⟨x',d,hx1,hx2,hx3⟩:=IsL.get (IsL.same (sa0.trans sb) hzs) (i:=j) (by rw[pb_];exact hj')
   rw[pf_,pa_ hj'] at hx2
   cases hx2
   have hgd:zs.getD j .non=x':=by rw[pd_,hx1];rfl
   have hw:=hwt _ (ps_ hj')
   rw[hgd]
   generalize R[j]=y at *
   obtain⟨ia,iv,rfl,hia,hiv⟩:=isIt hx3
   cases hwy:zq_ ws R y with
   | none=>exact absurd hwy hw
   | some uu =>
    rw[hwy] at hia
    have hia:Hb ia=some (.tup [iv,.str (S uu)]):=hia
    walk_at "go"
    refine⟨ec,_,rfl,by rw[List.replicate_succ',ph_];rfl,jb_,fun b' o e=>by rw[jh_ (jg_ e hcr)];exact sb _ _ e⟩
  ·rintro acc' σ Hb ⟨w',rfl,rfl,ec,sb⟩
   walk_at "go"
   refine i_allL (u4_ ec) ?_
   walk_at "go"
   simp only[List.all_replicate]
   have e5:∀ k:Nat,(if k=0 then true else id true)=true:=fun k=>by split <;> rfl
   rw[e5]
   exact q Hb (sa0.trans sb)
end
noncomputable abbrev s_law:Stmt:=top 35
theorem sc_law:FnScope ["_law_script","_law_letters_here","_law_plan","_law_words_here","_law_levels_here","_law_due_here","_law_handed","_law_turn","_law_found"] ["_law_script"] (jp_ s_law):=by walk_at "f"
theorem jxp_ {m:Nat}:∀{ws:List Pat},(∀ x∈ws,x.1.length<=m+1)->gN ws<=ws.length * m
 | [],_=>qj_ _
 | x::ws,h=>by
  have ih:=jxp_ (m:=m) (ws:=ws) fun y hy=>h y (pl_ _ hy)
  have hx:=h x pn_
  unfold gN at ih ⊢
  rw[pr_,s4_,p3_,q3_];omega
theorem Lay.c {c:Option Int}:Lay 0 (cD c):=by cases c;exact Lay.non;exact Lay.int
theorem Lay.lvls {ls:List (Nat×Option Int)}:Lay 2 (lvsD ls):=Lay.lst fun d hd=>by
 obtain⟨x,hx,rfl⟩:=pq_.mp hd
 refine Lay.tup fun e he=>?_
 rcases p6_.mp he with h1 | h1
 ·rw[h1];exact Lay.int
 ·rw[pv_.mp h1];exact Lay.c
theorem jfe_ (ws:List Pat):∀(k:Nat) (S:List Pat),(zj_ ws k S).Sublist S
 | 0,S=>l7_ _
 | k+1,S=>by
  unfold zj_
  split
  ·exact(jfe_ ws k _).trans (jbz_ ws S)
  ·exact jbz_ ws S
theorem jrs_ (ws:List Pat)(k:Nat)(S:List Pat)(h:S.Nodup):(zj_ ws k S).Nodup:=h.sublist (jfe_ ws k S)
theorem Lay.its {ws R:List Pat}(hw:∀ x∈ws,∀ c∈x.1,c < 128)(hR:∀ y∈R,∀ c∈y.1,c < 128):Lay 4 (.lst (R.map (itD ws R))):=Lay.lst fun d hd=>by
 obtain⟨y,hy,rfl⟩:=pq_.mp hd
 refine Lay.tup fun e he=>?_
 rcases p6_.mp he with h1 | h1
 ·rw[h1];exact Lay.pat (hR y hy)
 ·rw[pv_.mp h1]
  cases hwy:zq_ ws R y with
  | none=>exact Lay.mono Lay.non (by decide)
  | some u =>
   refine Lay.mono (Lay.str fun c hc=>?_) (by decide)
   unfold zq_ at hwy
   obtain⟨s,hs,rfl⟩:=ts_.mp hwy
   obtain⟨x,hx,e1,_⟩:=xt_ (kc_ hs)
   rw[e1] at hc
   exact hw x hx c hc
def jms_ (K:pc_):Sp:=fun vs H Q _=>∃(a:Addr) (ns:List Int),vs=[.ref a]/\SqL K H a (ns.map V.int)/\ns.length<=63/\∀ H',Q (.bl true) H'
section
variable {P:Program}{w:World}{K:pc_}{mg:Str->Option Value}{base:Heap}{f:Addr}{fd:FuncData}{tk:Nat->Tok}
theorem zah_ (T:Txt mg tk)(F:Fun K "law" "law" s_law f fd)(D_law_row:Dn P w K mg base "_law_row" 1 ["_law_script","_law_at","_law_bounds"] (jii_ K))(D_law_letters:Dn P w K mg base "_law_letters" 1 ["_law_numbers"] jlv_)(D_law_words:Dn P w K mg base "_law_words" 2 ["_law_script","_law_at","_law_letters_here","_law_many","_law_longest"] (jha_ K))(D_law_levels:Dn P w K mg base "_law_levels" 2 ["_law_script","_law_at","_law_many"] (jka_ K))(D_law_due:Dn P w K mg base "_law_due" 5 ["_law_words_here","_law_levels_here"] spDu)(D_full:Dn P w K mg base "full" 10 ["words","levels"] jlr_)(D_law_is_full:Dn P w K mg base "_law_is_full" 2 ["_law_words_here","_law_found"] jrd_):FnOk P w K mg base CX0 11 f fd ["_law_script"] (jms_ K):=by
 refine F.ok sc_law (fun vs H Q E h=>?_) (fun cdv A outer s H vs Q E hr h=>?_)
 ·obtain⟨a,ns,rfl,_⟩:=h
  rfl
 obtain⟨a,ns,rfl,hS,hlen,q⟩:=h
 have nd:=sc_law.nd
 refine⟨_,(je_ (jm_ (i:=1) nd rfl (Or.inl rfl) (y0_ (vw_ (K:=K)) (jn_ D_law_letters hr.mo_ rfl (ja_ (jn_ D_law_row hr.mo_ rfl (ja_ (pv 0) (ja_ jf_ (ja_ (j6_ (ja_ jf_ (ja_ jf_ (ja_ jf_ jc_)))) jc_)))) jc_)) jwe_ (z0_ (jmn_ jnc_ jf_))))
  (je_ (jm_ (i:=2) nd rfl (Or.inl rfl) (jn_ D_law_row hr.mo_ rfl (ja_ (pv 0) (ja_ jf_ (ja_ (j6_ (ja_ jf_ (ja_ jf_ (ja_ jf_ jc_)))) jc_)))))
  (je_ (jm_ (i:=3) nd rfl (Or.inl rfl) (jn_ D_law_words hr.mo_ rfl (ja_ (pv 0) (ja_ jf_ (ja_ (pv 1) (ja_ (jz_ (js_ (K:=K)) (j6_ (ja_ (jz_ (js_ (K:=K)) (pv 2) jf_ (fun _ _=>rfl)) (ja_ jf_ jc_))) (zk_ jiq_ rfl T.z_int (by decide +kernel) (ja_ (zs_ (o_eq hr.units) (jz_ (js_ (K:=K)) (pv 2) jf_ (fun _ _=>rfl)) jf_ (j3_ _)) jc_)) (fun _ _=>rfl)) (ja_ (jz_ (js_ (K:=K)) (j6_ (ja_ jf_ (ja_ jf_ jc_))) (zk_ jiq_ rfl T.z_int (by decide +kernel) (ja_ (zs_ (o_eq hr.units) (jz_ (js_ (K:=K)) (pv 2) jf_ (fun _ _=>rfl)) jf_ (j3_ _)) jc_)) (fun _ _=>rfl)) jc_)))))))
  (je_ (jm_ (i:=4) nd rfl (Or.inl rfl) (jn_ D_law_levels hr.mo_ rfl (ja_ (pv 0) (ja_ jf_ (ja_ (jz_ (js_ (K:=K)) (j6_ (ja_ (jz_ (js_ (K:=K)) (pv 2) jf_ (fun _ _=>rfl)) (ja_ jf_ jc_))) (zk_ jiq_ rfl T.z_int (by decide +kernel) (ja_ (zs_ (o_eq hr.units) (jz_ (js_ (K:=K)) (pv 2) jf_ (fun _ _=>rfl)) jf_ (j3_ _)) jc_)) (fun _ _=>rfl)) jc_)))))
  (je_ (jm_ (i:=5) nd rfl (Or.inl rfl) (jn_ D_law_due hr.mo_ rfl (ja_ (pv 3) (ja_ (pv 4) jc_))))
  (je_ (jm_ (i:=6) nd rfl (Or.inl rfl) (j6_ (ja_ (zk_ jjz_ rfl T.z_list (by decide +kernel) (ja_ (pv 3) jc_)) (ja_ (zk_ jjz_ rfl T.z_list (by decide +kernel) (ja_ (pv 4) jc_)) jc_))))
  (je_ (j1_ pu_ rfl (zi_ rfl T.z_range (ja_ jf_ jc_)) (jj_ (i:=7) nd rfl (Or.inl rfl))
   (je_ (jm_ (i:=8) nd rfl (Or.inl rfl) (jn_ D_full hr.mo_ rfl (ja_ (jz_ (js_ (K:=K)) (pv 6) jf_ (fun _ _=>rfl)) (ja_ (jz_ (js_ (K:=K)) (pv 6) jf_ (fun _ _=>rfl)) jc_))))
  (je_ (y1_ (PW.pt (jwr_ (jll_ (x7_ (jo_ vd_ rfl T.z_isinstance (by decide +kernel) (ja_ (pv 8) (ja_ (jgj_ (v:=.ty "list") rfl T.z_list (by decide +kernel) rfl) jc_))) (fun _=>rfl))) (jwr_ (zd_ (o_ne hr.units) (pv 8) (pv 5) (j3_ _)) (jzj_ (zd_ (o_ne hr.units) (pv 6) (j6_ (ja_ (pv 3) (ja_ (pv 4) jc_))) (j3_ _))))))
   (ji_ (j2_ uh_))
   z1_)
  (je_ (y1_ (jll_ (x7_ (jn_ D_law_is_full hr.mo_ rfl (ja_ (pv 3) (ja_ (pv 8) jc_))) (fun _=>rfl)))
   (ji_ (j2_ uh_))
   z1_)
  (ji_ (zp_ (jwh_ (K:=K) p9_ PySem.F.slot_list_clear PySem.F.type_list_clear jvb_ (pv 8))))))))
  (ji_ (j2_ uh_))))))))),?_⟩
 rw[show L2.start ["_law_script","_law_letters_here","_law_plan","_law_words_here","_law_levels_here","_law_due_here","_law_handed","_law_turn","_law_found"] [.ref a]=[some (.ref a),none,none,none,none,none,none,none,none] from rfl]
 walk_at "go"
 intro p1 h1
 have s1:=jd_ h1 (.lst [.int 26,.int 6,.int 3])
 walk_at "go"
 refine⟨a,ns,0,p1,[26,6,3],rfl,s1.seq hS,by decide,jb_,by decide,by decide,fun r1 ds H2 hr1 e2 hdl hds s2=>?_⟩
 have s02:=s1.trans s2
 obtain⟨x,y,z,rfl⟩:∃ x y z,ds=[x,y,z]:=by
  match ds,hdl with
  | [x,y,z],_=>exact⟨x,y,z,rfl⟩
 obtain⟨hx0,hx1⟩:=hds 0 x 26 rfl rfl
 obtain⟨hy0,hy1⟩:=hds 1 y 6 rfl rfl
 obtain⟨hz0,hz1⟩:=hds 2 z 3 rfl rfl
 walk_at "go"
 refine⟨r1,x,y,z,rfl,e2,hx0,hx1,hy0,hy1,hz0,hz1,fun r2 l H3 hr2 e3 hlw hl3 hl5 s3=>?_⟩
 have s03:=s02.trans s3
 walk_at "go"
 refine jjf_ (SqL.of e3) fun lt hlt=>?_
 rw[ux_,lets,u8_]
 have hcl:=jdn_ l none (some (-1))
 have hsx:sx l.length l.length (some (-1))=l.length - 1:=by simp only[sx];rw[if_pos (by decide)];omega
 rw[hsx] at hcl
 have hcl:(cutA l none (some (-1))).length=l.length - 1:=hcl
 have hlo:=jvu_ hlw none (some (-1))
 generalize cutA l none (some (-1))=l' at hcl hlo ⊢
 have e4:(upd H3 lt (.lst (l'.map fun c=>V.str (S [c])))) lt=some (.lst (lets l')):=jb_
 have s04:=s03.trans (jd_ hlt (.lst (l'.map fun c=>V.str (S [c]))))
 generalize upd H3 lt (.lst (l'.map fun c=>V.str (S [c])))=H4 at e4 s04 ⊢
 clear e3 s3 s03 e2 s2 s02 hds hr2 hr1 hlt s1 h1
 walk_at "go"
 intro p5 h5
 have s5:=jd_ h5 (.lst [.int 4,.int 4,.int 8])
 walk_at "go"
 refine⟨a,ns,1,p5,[4,4,8],rfl,(s04.trans s5).seq hS,by decide,jb_,by decide,by decide,fun r5 ds H6 hr5 e6 hdl hds s6=>?_⟩
 have s46:=s5.trans s6
 have s06:=s04.trans s46
 obtain⟨m,n,n2,rfl⟩:∃ x y z,ds=[x,y,z]:=by
  match ds,hdl with
  | [x,y,z],_=>exact⟨x,y,z,rfl⟩
 obtain⟨hm0,hm1⟩:=hds 0 m 4 rfl rfl
 obtain⟨hn0,hn1⟩:=hds 1 n 4 rfl rfl
 have e46:=s46 _ _ e4
 have e6:H6 r5=some (.lst [.int m,.int n,.int n2]):=e6
 walk_at "go"
 intro q1 hq1
 have sq1:=jd_ hq1 (.lst [.int m,.int 6])
 have e6a:=sq1 _ _ e6
 walk_at "go"
 refine y3_ vx_ (jkc_ _) ?_
 generalize upd H6 q1 (.lst [.int m,.int 6])=H6a at sq1 e6a ⊢
 walk_at "go"
 intro q2 hq2
 have sq2:=jd_ hq2 (.lst [.int 5,.int 3])
 have e6b:=sq2 _ _ e6a
 walk_at "go"
 refine y3_ vx_ (jkc_ _) ?_
 generalize upd H6a q2 (.lst [.int 5,.int 3])=H6b at sq2 e6b ⊢
 obtain⟨many,lo,hmany,hlo2,hml,hl7,hl1,hm6⟩:∃ many lo:Nat,(if decide (V.int n2=V.int 5)=true then V.int 6 else V.int m)=V.int (many:Int)/\(if decide (V.int n2=V.int 5)=true then V.int 3 else V.int 5)=V.int (lo:Int)/\many * (lo - 1)<=12/\lo<=5/\1<=lo/\many<=6:=by
  split
  ·exact⟨6,3,rfl,rfl,by decide,by decide,by decide,by decide⟩
  ·exact⟨m.toNat,5,by congr 1;omega,rfl,by omega,by decide,by decide,by omega⟩
 rw[hmany,hlo2]
 have s66:=sq1.trans sq2
 have s06b:=s06.trans s66
 have e46b:=s66 _ _ e46
 walk_at "go"
 refine⟨a,ns,2,lt,l',many,lo,rfl,s06b.seq hS,by decide,e46b,hlo,by omega,by omega,by omega,hl1,by omega,fun wr ys ws H7 hwr e7 hys hws hwnd hwl s7=>?_⟩
 have s07:=s06b.trans s7
 have e67:=s7 _ _ e6b
 have hyl:=hys.length
 rw[pb_] at hyl
 walk_at "go"
 intro q3 hq3
 have sq3:=jd_ hq3 (.lst [.int n,.int 6])
 have e67a:=sq3 _ _ e67
 walk_at "go"
 refine y3_ vx_ (jkc_ _) ?_
 generalize upd H7 q3 (.lst [.int n,.int 6])=H7a at sq3 e67a ⊢
 obtain⟨ml,hmlv,hml6⟩:∃ ml:Nat,(if decide (V.int n2=V.int 3)=true then V.int 6 else V.int n)=V.int (ml:Int)/\ml<=6:=by
  split
  ·exact⟨6,rfl,by decide⟩
  ·exact⟨n.toNat,by congr 1;omega,by omega⟩
 rw[hmlv]
 walk_at "go"
 refine⟨a,ns,10,ml,rfl,(s07.trans sq3).seq hS,by decide,by omega,fun lr yl lvs H8 hlr e8 hyl8 hlvo hlvl s8=>?_⟩
 have s78:=sq3.trans s8
 have s08:=s07.trans s78
 have e78:=s78 _ _ e7
 have hys8:=IsL.same s78 hys
 have isX:∀{H':Hp}{b:Addr},Same H8 H'->H' b=some (.lst yl)->Is H' (.ref b) (lvsD lvs):=fun{H' b} s e=>by
  simp only[Is,lvsD]
  exact⟨b,yl,rfl,e,IsL.same s hyl8⟩
 have isW:∀{H':Hp}{b:Addr},Same H8 H'->H' b=some (.lst ys)->Is H' (.ref b) (zc_ ws):=fun{H' b} s e=>by
  simp only[Is,zc_]
  exact⟨b,ys,rfl,e,IsL.same s hys8⟩
 have hcsw:∀ x∈ws,∀ c∈x.1,c < 128:=fun x hx=>jzk_ (hws x hx).1
 have hlw:∀ x∈ws,1<=x.1.length/\x.1.length<=7:=fun x hx=>by
  obtain⟨_,h2,h3,_⟩:=hws x hx
  exact⟨h2,by omega⟩
 have hgn:gN ws<=12:=by
  have h1:=jxp_ (m:=lo - 1) (ws:=ws) fun x hx=>by have:=(hws x hx).2.2.1;omega
  have h2:ws.length * (lo - 1)<=many * (lo - 1):=rr_ _ hwl
  omega
 have hlg:(lvs.length+2) * (gN ws * 81)<=9000:=by
  have:(lvs.length+2) * (gN ws * 81)<=8 * (12 * 81):=t6_ (by omega) (by omega)
  omega
 have hdot:∀ x∈ws,∀ c∈x.1,c≠46:=fun x hx c hc z=>by
  have:=(hws x hx).1 c hc
  rw[z] at this
  exact absurd this (by decide)
 have hgs:∀ x∈ws,x.2.length<=7/\∀ g∈x.2,∃ k:Nat,g=(k:Int):=fun x hx=>by
  obtain⟨_,_,h3,c,hc⟩:=hws x hx
  refine⟨?_,fun g hg=>?_⟩
  ·rw[hc,pb_]
   exact p7_ (qf_ _ _) (by rw[qb_];omega)
  ·rw[hc] at hg
   obtain⟨k,_,rfl⟩:=pq_.mp hg
   exact⟨k+1,by omega⟩
 have hgw:∀ x∈ws,GWn 7 x:=fun x hx=>by
  obtain⟨h1,h2,h3,h4⟩:=hws x hx
  exact⟨h1,h2,by omega,h4⟩
 have hyll:=hyl8.length
 rw[pb_] at hyll
 clear e67 e46 s7 s46 s6 s5 s8 e7 hys hwr hr5 hds e4 sq1 sq2 sq3 e6a e6b e46b s66 s06b
 walk_at "go"
 refine⟨.ref wr,.ref lr,ws,lvs,rfl,isW (Same.refl _) e78,isX (Same.refl _) e8,hlw,by omega,hlvo,by omega,hlg,hdot,hwnd,fun dr us ps H11 hdr edr hte hus has hsubR s811=>?_⟩
 have hplen:=y8_ (fun x hx=>(hlw x hx).2) hte
 have hpvv:=xi_ (fun l hl=>(hlvo l hl).1) (fun x hx=>(hlw x hx).2) hte
 have hpcs:=jtt_ hcsw hte
 have hpnum:=(vg_ hte).2
 have hwant:=jos_ (ws:=ws) (S:=ps) (k:=ps.length+1) (sw_ _)
 have hRl:(zj_ ws (ps.length+1) ps).length<=9000:=by
  have:(zj_ ws (ps.length+1) ps).length<=ps.length:=v3_ (jrs_ ws _ _ (vg_ hte).1) hsubR
  omega
 have hasL:AsL ws (zj_ ws (ps.length+1) ps):=(jxh_ hwnd (fun y hy=>by obtain⟨n,h1,_,h2⟩:=hpnum y (hsubR y hy);exact⟨n,h1,h2⟩)).mpr has
 generalize hR:zj_ ws (ps.length+1) ps=R at *
 have e711:=s811 _ _ e78
 have e811:=s811 _ _ e8
 walk_at "go"
 refine jhq_ (j5_ e711) fun hw hhw=>?_
 have sw:=jd_ hhw (.lst ys)
 have e812:=sw _ _ e811
 walk_at "go"
 refine jhq_ (j5_ e812) fun hp hhp=>?_
 have sp:=jd_ hhp (.lst yl)
 walk_at "go"
 intro hn hhn
 have sn:=jd_ hhn (.lst [.ref hw,.ref hp])
 have s1113:=(sw.trans sp).trans sn
 have ehw:=sn _ _ (sp _ _ (jb_ (H:=H11) (a:=hw) (o:=.lst ys)))
 have ehp:=sn _ _ (jb_ (H:=upd H11 hw (.lst ys)) (a:=hp) (o:=.lst yl))
 have ehn:=jb_ (H:=upd (upd H11 hw (.lst ys)) hp (.lst yl)) (a:=hn) (o:=.lst [.ref hw,.ref hp])
 generalize upd (upd (upd H11 hw (.lst ys)) hp (.lst yl)) hn (.lst [.ref hw,.ref hp])=H13 at s1113 ehw ehp ehn ⊢
 have s813:=s811.trans s1113
 have edr13:=s1113 _ _ edr
 have hus13:=IsL.same s1113 hus
 clear s1113 sn sp sw e812 e811 e711 hhw hhp hhn
 walk_at "go"
 refine ze_ (fun i σ H'=>∃(v10 v11:Option V),σ=[some (.ref a),some (.ref lt),some (.ref r5),some (.ref wr),some (.ref lr),some (.ref dr),some (.ref hn),v10,v11]/\Same H13 H')
  ⟨_,_,rfl,Same.refl _⟩ ?_ ?_
 ·rintro i σ H14 hi ⟨v10,v11,rfl,s14⟩
  have ehn14:=s14 _ _ ehn
  have ehw14:=s14 _ _ ehw
  have ehp14:=s14 _ _ ehp
  have s814:=s813.trans s14
  walk_at "go"
  refine⟨.ref hw,.ref hp,ws,lvs,rfl,isW s814 ehw14,isX s814 ehp14,hlw,by omega,hlvo,by omega,hlg,hgs,hwnd,fun fr zf ps2 H15 hfr efr hte2 izf s15=>?_⟩
  have hpq:ps2=ps:=jni_ hte2 hte
  subst hpq
  rw[hR] at izf
  have s1315:=s14.trans s15
  have s815:=s813.trans s1315
  walk_at "go"
  refine jtq_ (d:=.lst (R.map (itD ws R))) (by simp only[Is];exact⟨fr,zf,rfl,efr,izf⟩) (by simp only[Is];exact⟨dr,us,rfl,s1315 _ _ edr13,IsL.same s1315 hus13⟩) ((Lay.its hcsw (fun y hy=>hpcs y (hsubR y hy))).ok (by decide)) ?_
  walk_at "go"
  intro cp hcp
  have s16:=jd_ hcp (.lst [.ref wr,.ref lr])
  have ecp:=jb_ (H:=H15) (a:=cp) (o:=.lst [.ref wr,.ref lr])
  have s816:=s815.trans s16
  have s1316:=s1315.trans s16
  have efr16:=s16 _ _ efr
  have izf16:=IsL.same s16 izf
  generalize upd H15 cp (.lst [.ref wr,.ref lr])=H16 at s16 ecp s816 s1316 efr16 izf16 ⊢
  refine jtq_ (d:=.lst [zc_ ws,lvsD lvs]) ?_ ?_ ?_ ?_
  ·simp only[Is]
   exact⟨hn,_,rfl,s1316 _ _ ehn,by simp only[L2.IsL];exact⟨isW s816 (s1316 _ _ ehw),isX s816 (s1316 _ _ ehp),trivial⟩⟩
  ·simp only[Is]
   exact⟨cp,_,rfl,ecp,by simp only[L2.IsL];exact⟨isW s816 (s816 _ _ e78),isX s816 (s816 _ _ e8),trivial⟩⟩
  ·refine(Lay.lst (n:=3) fun d hd=>?_).ok (by decide)
   simp only[p6_,List.not_mem_nil,or_false] at hd
   rcases hd with rfl | rfl
   ·exact Lay.pats hcsw
   ·exact Lay.mono Lay.lvls (by decide)
  walk_at "go"
  refine⟨.ref wr,fr,zf,ws,R,rfl,isW s816 (s816 _ _ e78),efr16,izf16,hasL,hwant,(fun y hy=>hpvv y (hsubR y hy)),hRl,hgw,by omega,fun H17 s17=>?_⟩
  have efr17:=s17 _ _ efr16
  walk_at "go"
  try refine zad_ efr17 ?_
  try walk_at "go"
  refine⟨_,_,rfl,fun b' o e=>?_⟩
  have hb1:b'≠fr:=fun z=>by rw[z,s14.free hfr] at e;cases e
  rw[jh_ hb1];exact s17 _ _ (s1316 _ _ e)
 ·rintro σ H14 ⟨v10,v11,rfl,s14⟩
  walk_at "go"
  exact q H14
end
def FuE (K:pc_)(x qual:Str)(st:Stmt)(f:Addr):Prop:=∃ fd,Fun K x qual st f fd
theorem bn1 {α:Type}{P:List α->Prop}(h:∀ a,P [a]):∀ us:List α,us.length=1->P us
 | [a],_=>h a
theorem bn2 {α:Type}{P:List α->Prop}(h:∀ a b,P [a,b]):∀ us:List α,us.length=2->P us
 | [a,b],_=>h a b
theorem bn3 {α:Type}{P:List α->Prop}(h:∀ a b c,P [a,b,c]):∀ us:List α,us.length=3->P us
 | [a,b,c],_=>h a b c
theorem bn4 {α:Type}{P:List α->Prop}(h:∀ a b c d,P [a,b,c,d]):∀ us:List α,us.length=4->P us
 | [a,b,c,d],_=>h a b c d
theorem bn5 {α:Type}{P:List α->Prop}(h:∀ a b c d e,P [a,b,c,d,e]):∀ us:List α,us.length=5->P us
 | [a,b,c,d,e],_=>h a b c d e
theorem all_mk {l:le_}{w:World}{K:pc_}{h:Heap}{mg:Str->Option Value}{fa f0 f1 f2 f3 f4 f5 f6 f7 f8 f9 f10 f11 f12 f13 f14 f15 f16 f17 f18 f19 f20 f21 f22 f23 f24 f25 f26 f27 f28 f29 f30 f31 f32:Addr}(X:K.In h)(G:h.Ns mainGlobals mg)(hfa:mg "law"=some (.ref fa))
  {cO:Addr} (aO:p1_ K mainGlobals "Stand"=some (some (.ref cO))) (pO:ta_ K cO Str.empty=true) (dO:tv_ K cO=true) (vO:ke_ K cO=true) (sO:qp_ K (.ref cO) "__setattr__"=some (some (.builtin "object.__setattr__"))) (mO:k9_ K cO=true) (kO:si_ K (.ref cO)=true)
  (n_told_gaps:qp_ K (.ref cO) "told_gaps"=some none)
  (n_spots:qp_ K (.ref cO) "spots"=some none)
  (n_numbers:qp_ K (.ref cO) "numbers"=some none)
  (a0:p1_ K mainGlobals "fitting_places"=some (some (.ref f0))) (F0:FuE K "fitting_places" "fitting_places" s_fitting_places f0)
  (a1:p1_ K mainGlobals "values_by_fits"=some (some (.ref f1))) (F1:FuE K "values_by_fits" "values_by_fits" s_values_by_fits f1)
  (a2:p1_ K mainGlobals "values"=some (some (.ref f2))) (F2:FuE K "values" "values" s_values f2)
  (a3:p1_ K mainGlobals "breaks"=some (some (.ref f3))) (F3:FuE K "breaks" "breaks" s_breaks f3)
  (a4:p1_ K mainGlobals "seen_gaps"=some (some (.ref f4))) (F4:FuE K "seen_gaps" "seen_gaps" s_seen_gaps f4)
  (a5:p1_ K mainGlobals "one_number"=some (some (.ref f5))) (F5:FuE K "one_number" "one_number" s_one_number f5)
  (a6:p1_ K mainGlobals "candidates_at"=some (some (.ref f6))) (F6:FuE K "candidates_at" "candidates_at" s_candidates_at f6)
  (a7:p1_ K mainGlobals "goods_and_bads"=some (some (.ref f7))) (F7:FuE K "goods_and_bads" "goods_and_bads" s_goods_and_bads f7)
  (a8:p1_ K mainGlobals "is_worth"=some (some (.ref f8))) (F8:FuE K "is_worth" "is_worth" s_is_worth f8)
  (a9:p1_ K mainGlobals "learnt_at"=some (some (.ref f9))) (F9:FuE K "learnt_at" "learnt_at" s_learnt_at f9)
  (a10:p1_ K mainGlobals "_law_row"=some (some (.ref f10))) (F10:FuE K "_law_row" "_law_row" s_law_row f10)
  (a11:p1_ K mainGlobals "_law_letters"=some (some (.ref f11))) (F11:FuE K "_law_letters" "_law_letters" s_law_letters f11)
  (a12:p1_ K mainGlobals "_law_values"=some (some (.ref f12))) (F12:FuE K "_law_values" "_law_values" s_law_values f12)
  (a13:p1_ K mainGlobals "_law_words"=some (some (.ref f13))) (F13:FuE K "_law_words" "_law_words" s_law_words f13)
  (a14:p1_ K mainGlobals "level"=some (some (.ref f14))) (F14:FuE K "level" "level" s_level f14)
  (a15:p1_ K mainGlobals "_law_counts"=some (some (.ref f15))) (F15:FuE K "_law_counts" "_law_counts" s_law_counts f15)
  (a16:p1_ K mainGlobals "_law_level"=some (some (.ref f16))) (F16:FuE K "_law_level" "_law_level" s_law_level f16)
  (a17:p1_ K mainGlobals "taught"=some (some (.ref f17))) (F17:FuE K "taught" "taught" s_taught f17)
  (a18:p1_ K mainGlobals "taught_to_the_end"=some (some (.ref f18))) (F18:FuE K "taught_to_the_end" "taught_to_the_end" s_taught_to_the_end f18)
  (a19:p1_ K mainGlobals "number_of"=some (some (.ref f19))) (F19:FuE K "number_of" "number_of" s_number_of f19)
  (a20:p1_ K mainGlobals "gaps_come_to"=some (some (.ref f20))) (F20:FuE K "gaps_come_to" "gaps_come_to" s_gaps_come_to f20)
  (iOX21:qp_ K (.ref cO) "__init__"=some (some (.ref f21))) (fOX21:t7_ K (.ref f21)=true) (F21:FuE K "__init__" "Stand.__init__" s_Stand_init f21)
  (iOX22:qp_ K (.ref cO) "word_wanting"=some (some (.ref f22))) (fOX22:t7_ K (.ref f22)=true) (F22:FuE K "word_wanting" "Stand.word_wanting" s_Stand_word_wanting f22)
  (iOX23:qp_ K (.ref cO) "leave_out"=some (some (.ref f23))) (fOX23:t7_ K (.ref f23)=true) (F23:FuE K "leave_out" "Stand.leave_out" s_Stand_leave_out f23)
  (a24:p1_ K mainGlobals "left_of_round"=some (some (.ref f24))) (F24:FuE K "left_of_round" "left_of_round" s_left_of_round f24)
  (a25:p1_ K mainGlobals "full"=some (some (.ref f25))) (F25:FuE K "full" "full" s_full f25)
  (a26:p1_ K mainGlobals "_law_levels"=some (some (.ref f26))) (F26:FuE K "_law_levels" "_law_levels" s_law_levels f26)
  (a27:p1_ K mainGlobals "_law_taught"=some (some (.ref f27))) (F27:FuE K "_law_taught" "_law_taught" s_law_taught f27)
  (a28:p1_ K mainGlobals "_law_laid"=some (some (.ref f28))) (F28:FuE K "_law_laid" "_law_laid" s_law_laid f28)
  (a29:p1_ K mainGlobals "_law_first_wrong"=some (some (.ref f29))) (F29:FuE K "_law_first_wrong" "_law_first_wrong" s_law_first_wrong f29)
  (a30:p1_ K mainGlobals "_law_due"=some (some (.ref f30))) (F30:FuE K "_law_due" "_law_due" s_law_due f30)
  (a31:p1_ K mainGlobals "_law_is_full"=some (some (.ref f31))) (F31:FuE K "_law_is_full" "_law_is_full" s_law_is_full f31)
  {od32 an32:Option Addr}{sl32:Array (Option Value)}{oc32 kV32 dc32 pm32 cd32 ct32:Value}
  (a32:p1_ K mainGlobals "law"=some (some (.ref f32))) (l32:K.lookup f32=some ⟨oc32,od32,.func (s2_ "law" "law" (v4_ s_law) (x9_ s_law) (jp_ s_law) .none kV32 dc32 pm32 an32 cd32 ct32),sl32⟩) (c_32:w7_ K cd32 "law"=true) (k32:si_ K (.ref f32)=true)
  (z_len:p1_ K mainGlobals "len"=some none)
  (z_all:p1_ K mainGlobals "all"=some none)
  (z_range:p1_ K mainGlobals "range"=some none)
  (z_enumerate:p1_ K mainGlobals "enumerate"=some none)
  (z_isinstance:p1_ K mainGlobals "isinstance"=some none)
  (z_tuple:p1_ K mainGlobals "tuple"=some none)
  (z_list:p1_ K mainGlobals "list"=some none)
  (z_bool:p1_ K mainGlobals "bool"=some none)
  (z_str:p1_ K mainGlobals "str"=some none)
  (z_int:p1_ K mainGlobals "int"=some none)
  (z_max:p1_ K mainGlobals "max"=some none)
  (z_min:p1_ K mainGlobals "min"=some none)
  (z_sorted:p1_ K mainGlobals "sorted"=some none)
  (z_any:p1_ K mainGlobals "any"=some none)
  (z_reversed:p1_ K mainGlobals "reversed"=some none)
  : ∃ fd:FuncData,(∀(s:Shared) (v:Value),BindsTo s fd ⟨[v],[]⟩ [("_law_script",v)])/\∀ base:Heap,K.In base->base.Ns mainGlobals mg->FnOk l.prog w K mg base CX0 11 fa fd ["_law_script"] (jms_ K):=by
 have e:=hfa.symm.trans (qc_ X G a32)
 cases e
 have T:Txt mg (fun i=>([]:List Tok).getD i 0):=⟨ql_ X G z_len,ql_ X G z_all,ql_ X G z_range,ql_ X G z_enumerate,ql_ X G z_isinstance,ql_ X G z_tuple,ql_ X G z_list,ql_ X G z_bool,ql_ X G z_str,ql_ X G z_int,ql_ X G z_max,ql_ X G z_min,ql_ X G z_sorted,ql_ X G z_any,ql_ X G z_reversed⟩
 have O:Ow K mg cO:=⟨qc_ X G aO,⟨pO,dO,vO,sO⟩,n_told_gaps,n_spots,n_numbers⟩
 obtain⟨fd0,F_fitting_places⟩:=F0
 have b_fitting_places:=F_fitting_places.binds (ps:=["signs","framed"]) fun _ _ _ _ _ _=>bn2 fun _ _=>rfl
 have m_fitting_places:=qc_ X G a0
 obtain⟨fd1,F_values_by_fits⟩:=F1
 have b_values_by_fits:=F_values_by_fits.binds (ps:=["fits","word"]) fun _ _ _ _ _ _=>bn2 fun _ _=>rfl
 have m_values_by_fits:=qc_ X G a1
 obtain⟨fd2,F_values⟩:=F2
 have b_values:=F_values.binds (ps:=["patterns","word"]) fun _ _ _ _ _ _=>bn2 fun _ _=>rfl
 have m_values:=qc_ X G a2
 obtain⟨fd3,F_breaks⟩:=F3
 have b_breaks:=F_breaks.binds (ps:=["patterns","word"]) fun _ _ _ _ _ _=>bn2 fun _ _=>rfl
 have m_breaks:=qc_ X G a3
 obtain⟨fd4,F_seen_gaps⟩:=F4
 have b_seen_gaps:=F_seen_gaps.binds (ps:=["words","patterns"]) fun _ _ _ _ _ _=>bn2 fun _ _=>rfl
 have m_seen_gaps:=qc_ X G a4
 obtain⟨fd5,F_one_number⟩:=F5
 have b_one_number:=F_one_number.binds (ps:=["number","place","length"]) fun _ _ _ _ _ _=>bn3 fun _ _ _=>rfl
 have m_one_number:=qc_ X G a5
 obtain⟨fd6,F_candidates_at⟩:=F6
 have b_candidates_at:=F_candidates_at.binds (ps:=["word","gap","number","length"]) fun _ _ _ _ _ _=>bn4 fun _ _ _ _=>rfl
 have m_candidates_at:=qc_ X G a6
 obtain⟨fd7,F_goods_and_bads⟩:=F7
 have b_goods_and_bads:=F_goods_and_bads.binds (ps:=["words","patterns","number","length"]) fun _ _ _ _ _ _=>bn4 fun _ _ _ _=>rfl
 have m_goods_and_bads:=qc_ X G a7
 obtain⟨fd8,F_is_worth⟩:=F8
 have b_is_worth:=F_is_worth.binds (ps:=["good","bad","cost"]) fun _ _ _ _ _ _=>bn3 fun _ _ _=>rfl
 have m_is_worth:=qc_ X G a8
 obtain⟨fd9,F_learnt_at⟩:=F9
 have b_learnt_at:=F_learnt_at.binds (ps:=["words","patterns","number","length","cost"]) fun _ _ _ _ _ _=>bn5 fun _ _ _ _ _=>rfl
 have m_learnt_at:=qc_ X G a9
 obtain⟨fd10,F_law_row⟩:=F10
 have b_law_row:=F_law_row.binds (ps:=["_law_script","_law_at","_law_bounds"]) fun _ _ _ _ _ _=>bn3 fun _ _ _=>rfl
 have m_law_row:=qc_ X G a10
 obtain⟨fd11,F_law_letters⟩:=F11
 have b_law_letters:=F_law_letters.binds (ps:=["_law_numbers"]) fun _ _ _ _ _ _=>bn1 fun _=>rfl
 have m_law_letters:=qc_ X G a11
 obtain⟨fd12,F_law_values⟩:=F12
 have b_law_values:=F_law_values.binds (ps:=["_law_patterns","_law_word"]) fun _ _ _ _ _ _=>bn2 fun _ _=>rfl
 have m_law_values:=qc_ X G a12
 obtain⟨fd13,F_law_words⟩:=F13
 have b_law_words:=F_law_words.binds (ps:=["_law_script","_law_at","_law_letters_here","_law_many","_law_longest"]) fun _ _ _ _ _ _=>bn5 fun _ _ _ _ _=>rfl
 have m_law_words:=qc_ X G a13
 obtain⟨fd14,F_level⟩:=F14
 have b_level:=F_level.binds (ps:=["words","patterns","number","most","cost"]) fun _ _ _ _ _ _=>bn5 fun _ _ _ _ _=>rfl
 have m_level:=qc_ X G a14
 obtain⟨fd15,F_law_counts⟩:=F15
 have b_law_counts:=F_law_counts.binds (ps:=["_law_words_here","_law_patterns","_law_number","_law_length"]) fun _ _ _ _ _ _=>bn4 fun _ _ _ _=>rfl
 have m_law_counts:=qc_ X G a15
 obtain⟨fd16,F_law_level⟩:=F16
 have b_law_level:=F_law_level.binds (ps:=["_law_words_here","_law_patterns","_law_number","_law_most","_law_cost"]) fun _ _ _ _ _ _=>bn5 fun _ _ _ _ _=>rfl
 have m_law_level:=qc_ X G a16
 obtain⟨fd17,F_taught⟩:=F17
 have b_taught:=F_taught.binds (ps:=["words","levels"]) fun _ _ _ _ _ _=>bn2 fun _ _=>rfl
 have m_taught:=qc_ X G a17
 obtain⟨fd18,F_taught_to_the_end⟩:=F18
 have b_taught_to_the_end:=F_taught_to_the_end.binds (ps:=["words","levels"]) fun _ _ _ _ _ _=>bn2 fun _ _=>rfl
 have m_taught_to_the_end:=qc_ X G a18
 obtain⟨fd19,F_number_of⟩:=F19
 have b_number_of:=F_number_of.binds (ps:=["pattern"]) fun _ _ _ _ _ _=>bn1 fun _=>rfl
 have m_number_of:=qc_ X G a19
 obtain⟨fd20,F_gaps_come_to⟩:=F20
 have b_gaps_come_to:=F_gaps_come_to.binds (ps:=["words","pattern"]) fun _ _ _ _ _ _=>bn2 fun _ _=>rfl
 have m_gaps_come_to:=qc_ X G a20
 obtain⟨fd21,F_Stand_init⟩:=F21
 have b_Stand_init:=F_Stand_init.binds (ps:=["self","words","patterns"]) fun _ _ _ _ _ _=>bn3 fun _ _ _=>rfl
 obtain⟨fd22,F_Stand_word_wanting⟩:=F22
 have b_Stand_word_wanting:=F_Stand_word_wanting.binds (ps:=["self","pattern"]) fun _ _ _ _ _ _=>bn2 fun _ _=>rfl
 obtain⟨fd23,F_Stand_leave_out⟩:=F23
 have b_Stand_leave_out:=F_Stand_leave_out.binds (ps:=["self","pattern"]) fun _ _ _ _ _ _=>bn2 fun _ _=>rfl
 obtain⟨fd24,F_left_of_round⟩:=F24
 have b_left_of_round:=F_left_of_round.binds (ps:=["stand","patterns"]) fun _ _ _ _ _ _=>bn2 fun _ _=>rfl
 have m_left_of_round:=qc_ X G a24
 obtain⟨fd25,F_full⟩:=F25
 have b_full:=F_full.binds (ps:=["words","levels"]) fun _ _ _ _ _ _=>bn2 fun _ _=>rfl
 have m_full:=qc_ X G a25
 obtain⟨fd26,F_law_levels⟩:=F26
 have b_law_levels:=F_law_levels.binds (ps:=["_law_script","_law_at","_law_many"]) fun _ _ _ _ _ _=>bn3 fun _ _ _=>rfl
 have m_law_levels:=qc_ X G a26
 obtain⟨fd27,F_law_taught⟩:=F27
 have b_law_taught:=F_law_taught.binds (ps:=["_law_words_here","_law_levels_here"]) fun _ _ _ _ _ _=>bn2 fun _ _=>rfl
 have m_law_taught:=qc_ X G a27
 obtain⟨fd28,F_law_laid⟩:=F28
 have b_law_laid:=F_law_laid.binds (ps:=["_law_words_here","_law_patterns"]) fun _ _ _ _ _ _=>bn2 fun _ _=>rfl
 have m_law_laid:=qc_ X G a28
 obtain⟨fd29,F_law_first_wrong⟩:=F29
 have b_law_first_wrong:=F_law_first_wrong.binds (ps:=["_law_words_here","_law_laid_here","_law_left","_law_out"]) fun _ _ _ _ _ _=>bn4 fun _ _ _ _=>rfl
 have m_law_first_wrong:=qc_ X G a29
 obtain⟨fd30,F_law_due⟩:=F30
 have b_law_due:=F_law_due.binds (ps:=["_law_words_here","_law_levels_here"]) fun _ _ _ _ _ _=>bn2 fun _ _=>rfl
 have m_law_due:=qc_ X G a30
 obtain⟨fd31,F_law_is_full⟩:=F31
 have b_law_is_full:=F_law_is_full.binds (ps:=["_law_words_here","_law_found"]) fun _ _ _ _ _ _=>bn2 fun _ _=>rfl
 have m_law_is_full:=qc_ X G a31
 have F_law:=jrl_ (st:=s_law) l32 c_32 k32
 have b_law:=F_law.binds (ps:=["_law_script"]) fun _ _ _ _ _ _=>bn1 fun _=>rfl
 have m_law:=qc_ X G a32
 refine⟨s2_ "law" "law" (v4_ s_law) (x9_ s_law) (jp_ s_law) .none kV32 dc32 pm32 an32 cd32 ct32,fun s v=>.of_eq rfl,fun base _ _=>?_⟩
 have D_fitting_places:Dn l.prog w K mg base "fitting_places" 1 ["signs","framed"] jmy_:=⟨_,_,m_fitting_places,F_fitting_places.kp,b_fitting_places,jai_ T F_fitting_places⟩
 have D_values_by_fits:Dn l.prog w K mg base "values_by_fits" 1 ["fits","word"] jds_:=⟨_,_,m_values_by_fits,F_values_by_fits.kp,b_values_by_fits,u5_ T F_values_by_fits⟩
 have D_values:Dn l.prog w K mg base "values" 2 ["patterns","word"] yx_:=⟨_,_,m_values,F_values.kp,b_values,jnr_ T F_values D_fitting_places D_values_by_fits⟩
 have D_breaks:Dn l.prog w K mg base "breaks" 3 ["patterns","word"] jcr_:=⟨_,_,m_breaks,F_breaks.kp,b_breaks,jph_ T F_breaks D_values⟩
 have D_seen_gaps:Dn l.prog w K mg base "seen_gaps" 4 ["words","patterns"] jlt_:=⟨_,_,m_seen_gaps,F_seen_gaps.kp,b_seen_gaps,jhs_ T F_seen_gaps D_breaks⟩
 have D_one_number:Dn l.prog w K mg base "one_number" 1 ["number","place","length"] jqk_:=⟨_,_,m_one_number,F_one_number.kp,b_one_number,jeq_ T F_one_number⟩
 have D_candidates_at:Dn l.prog w K mg base "candidates_at" 2 ["word","gap","number","length"] jke_:=⟨_,_,m_candidates_at,F_candidates_at.kp,b_candidates_at,jar_ T F_candidates_at D_one_number⟩
 have D_goods_and_bads:Dn l.prog w K mg base "goods_and_bads" 5 ["words","patterns","number","length"] (spGB l.prog w):=⟨_,_,m_goods_and_bads,F_goods_and_bads.kp,b_goods_and_bads,uz_ T F_goods_and_bads D_seen_gaps D_candidates_at⟩
 have D_is_worth:Dn l.prog w K mg base "is_worth" 1 ["good","bad","cost"] jhl_:=⟨_,_,m_is_worth,F_is_worth.kp,b_is_worth,jib_ T F_is_worth⟩
 have D_learnt_at:Dn l.prog w K mg base "learnt_at" 6 ["words","patterns","number","length","cost"] spLA:=⟨_,_,m_learnt_at,F_learnt_at.kp,b_learnt_at,jgt_ T F_learnt_at D_goods_and_bads D_is_worth⟩
 have D_law_row:Dn l.prog w K mg base "_law_row" 1 ["_law_script","_law_at","_law_bounds"] (jii_ K):=⟨_,_,m_law_row,F_law_row.kp,b_law_row,jko_ T F_law_row⟩
 have D_law_letters:Dn l.prog w K mg base "_law_letters" 1 ["_law_numbers"] jlv_:=⟨_,_,m_law_letters,F_law_letters.kp,b_law_letters,jdh_ T F_law_letters⟩
 have D_law_values:Dn l.prog w K mg base "_law_values" 1 ["_law_patterns","_law_word"] yx_:=⟨_,_,m_law_values,F_law_values.kp,b_law_values,jef_ T F_law_values⟩
 have D_law_words:Dn l.prog w K mg base "_law_words" 2 ["_law_script","_law_at","_law_letters_here","_law_many","_law_longest"] (jha_ K):=⟨_,_,m_law_words,F_law_words.kp,b_law_words,jhp_ T F_law_words D_law_row⟩
 have D_level:Dn l.prog w K mg base "level" 7 ["words","patterns","number","most","cost"] yv_:=⟨_,_,m_level,F_level.kp,b_level,jtj_ T F_level D_learnt_at⟩
 have D_law_counts:Dn l.prog w K mg base "_law_counts" 2 ["_law_words_here","_law_patterns","_law_number","_law_length"] (spLC l.prog w):=⟨_,_,m_law_counts,F_law_counts.kp,b_law_counts,jei_ T F_law_counts D_law_values⟩
 have D_law_level:Dn l.prog w K mg base "_law_level" 3 ["_law_words_here","_law_patterns","_law_number","_law_most","_law_cost"] yv_:=⟨_,_,m_law_level,F_law_level.kp,b_law_level,jhe_ T F_law_level D_law_counts⟩
 have D_taught:Dn l.prog w K mg base "taught" 8 ["words","levels"] jcs_:=⟨_,_,m_taught,F_taught.kp,b_taught,jog_ T F_taught D_level⟩
 have D_taught_to_the_end:Dn l.prog w K mg base "taught_to_the_end" 9 ["words","levels"] jfn_:=⟨_,_,m_taught_to_the_end,F_taught_to_the_end.kp,b_taught_to_the_end,vv_ T F_taught_to_the_end D_taught D_level⟩
 have D_number_of:Dn l.prog w K mg base "number_of" 1 ["pattern"] jau_:=⟨_,_,m_number_of,F_number_of.kp,b_number_of,jgx_ T F_number_of⟩
 have D_gaps_come_to:Dn l.prog w K mg base "gaps_come_to" 2 ["words","pattern"] jra_:=⟨_,_,m_gaps_come_to,F_gaps_come_to.kp,b_gaps_come_to,jbx_ T F_gaps_come_to D_number_of D_fitting_places⟩
 have D_Stand_init:Dk l.prog w K mg base cO 3 ["self","words","patterns"] (jtg_ l.prog w cO):=⟨_,_,⟨mO,iOX21,fOX21,kO⟩,b_Stand_init,jek_ T O F_Stand_init D_gaps_come_to D_number_of⟩
 have D_Stand_word_wanting:Dm l.prog w K mg base cO "word_wanting" 2 ["self","pattern"] (jho_ l.prog w cO):=⟨_,_,⟨iOX22,fOX22,F_Stand_word_wanting.kp⟩,b_Stand_word_wanting,jem_ T O F_Stand_word_wanting D_number_of⟩
 have D_Stand_leave_out:Dm l.prog w K mg base cO "leave_out" 2 ["self","pattern"] (jhr_ l.prog w cO):=⟨_,_,⟨iOX23,fOX23,F_Stand_leave_out.kp⟩,b_Stand_leave_out,jec_ T O F_Stand_leave_out D_number_of⟩
 have D_left_of_round:Dn l.prog w K mg base "left_of_round" 3 ["stand","patterns"] (jgn_ l.prog w cO):=⟨_,_,m_left_of_round,F_left_of_round.kp,b_left_of_round,jbd_ T O F_left_of_round D_Stand_word_wanting D_Stand_leave_out⟩
 have D_full:Dn l.prog w K mg base "full" 10 ["words","levels"] jlr_:=⟨_,_,m_full,F_full.kp,b_full,jwj_ T O F_full D_taught_to_the_end D_Stand_init D_left_of_round D_Stand_word_wanting⟩
 have D_law_levels:Dn l.prog w K mg base "_law_levels" 2 ["_law_script","_law_at","_law_many"] (jka_ K):=⟨_,_,m_law_levels,F_law_levels.kp,b_law_levels,jeg_ T F_law_levels D_law_row⟩
 have D_law_taught:Dn l.prog w K mg base "_law_taught" 4 ["_law_words_here","_law_levels_here"] jfn_:=⟨_,_,m_law_taught,F_law_taught.kp,b_law_taught,jee_ T F_law_taught D_law_level⟩
 have D_law_laid:Dn l.prog w K mg base "_law_laid" 2 ["_law_words_here","_law_patterns"] (jkw_ l.prog w):=⟨_,_,m_law_laid,F_law_laid.kp,b_law_laid,jiy_ T F_law_laid D_law_values⟩
 have D_law_first_wrong:Dn l.prog w K mg base "_law_first_wrong" 1 ["_law_words_here","_law_laid_here","_law_left","_law_out"] (spFw l.prog w):=⟨_,_,m_law_first_wrong,F_law_first_wrong.kp,b_law_first_wrong,uo_ T F_law_first_wrong⟩
 have D_law_due:Dn l.prog w K mg base "_law_due" 5 ["_law_words_here","_law_levels_here"] spDu:=⟨_,_,m_law_due,F_law_due.kp,b_law_due,jlj_ T F_law_due D_law_taught D_law_laid D_law_first_wrong⟩
 have D_law_is_full:Dn l.prog w K mg base "_law_is_full" 2 ["_law_words_here","_law_found"] jrd_:=⟨_,_,m_law_is_full,F_law_is_full.kp,b_law_is_full,jdb_ T F_law_is_full D_law_values⟩
 exact zah_ T F_law D_law_row D_law_letters D_law_words D_law_levels D_law_due D_full D_law_is_full
theorem walk {l:le_}{q:Program}{loose:List Str}{XP:(Str->Option Value)->Heap->Prop}{YP:World->Heap->Prop}{d:DefRec}{K:Params->pc_}(hn:l.most=some 63)(hdf:d.params.defaults=[])
  (hY:∀(w:World) (h:Heap),YP w h->(K w.params).In h)
  (F:∀(w:World) (mg:Str->Option Value) (fa:Addr) (h:Heap),(K w.params).In h->h.Ns mainGlobals mg->mg d.name=some (.ref fa) ->
   ∃ fd:FuncData,(∀(s:Shared) (u:Value),BindsTo s fd ⟨[u],[]⟩ [("_law_script",u)])/\∀ base:Heap,(K w.params).In base->base.Ns mainGlobals mg->FnOk l.prog w (K w.params) mg base CX0 11 fa fd ["_law_script"] (jms_ (K w.params))) :
  PySem.W.WalkO q loose XP YP l.row.toRowW d [] (fun f vs=>PySem.call f vs) :=
 L2.jnm_ (n:=63) (k:=11) (x:="_law_script") (CX:=fun _=>CX0) (sp:=fun w=>jms_ (K w.params)) hn (by decide) hdf ⟨rfl,by decide,by decide⟩ hY F (fun _ _ a ns hl _ hS=>⟨a,ns,rfl,hS,hl,fun _=>rfl⟩) fun _ _ _ _ _ z=>z
end K44
local macro_rules | `(tactic| walk_at "w")=>`(tactic| (refine' ⟨_,L2.jrl_ ?l ?c ?k⟩;(case l=>k_is);(case c=>k_is);(case k=>k_is)))
open PySem PySem.W PyProof.Rows
set_option maxRecDepth 100000 in
set_option maxHeartbeats 0 in
theorem PySem.Challenge.cw_breakwords_k44_whole_full_patterns_holds : PySem.Challenge.rw_breakwords_k44_whole_full_patterns.Holds := by
 w_on;o_law;k_head;(case hw=>w_witness2)
 k_fill
 refine K44.walk (l:=PySem.Challenge.rw_breakwords_k44_whole_full_patterns) rfl rfl (fun w h Y=>PySem.W.kIn_of Y) ?F
 case F =>
  intro w mg fa h KX G hmg
  refine' K44.all_mk KX G hmg ?aO ?pO ?dO ?vO ?sO ?mO ?kO ?n_told_gaps ?n_spots ?n_numbers ?a0 ?F0 ?a1 ?F1 ?a2 ?F2 ?a3 ?F3 ?a4 ?F4 ?a5 ?F5 ?a6 ?F6 ?a7 ?F7 ?a8 ?F8 ?a9 ?F9 ?a10 ?F10 ?a11 ?F11 ?a12 ?F12 ?a13 ?F13 ?a14 ?F14 ?a15 ?F15 ?a16 ?F16 ?a17 ?F17 ?a18 ?F18 ?a19 ?F19 ?a20 ?F20 ?iOX21 ?fOX21 ?F21 ?iOX22 ?fOX22 ?F22 ?iOX23 ?fOX23 ?F23 ?a24 ?F24 ?a25 ?F25 ?a26 ?F26 ?a27 ?F27 ?a28 ?F28 ?a29 ?F29 ?a30 ?F30 ?a31 ?F31 ?a32 ?l32 ?c_32 ?k32 ?z_len ?z_all ?z_range ?z_enumerate ?z_isinstance ?z_tuple ?z_list ?z_bool ?z_str ?z_int ?z_max ?z_min ?z_sorted ?z_any ?z_reversed
  case aO | pO | dO | vO | sO | mO | kO | n_told_gaps | n_spots | n_numbers | a0=>k_is
  case F0=>walk_at "w"
  case a1=>k_is
  case F1=>walk_at "w"
  case a2=>k_is
  case F2=>walk_at "w"
  case a3=>k_is
  case F3=>walk_at "w"
  case a4=>k_is
  case F4=>walk_at "w"
  case a5=>k_is
  case F5=>walk_at "w"
  case a6=>k_is
  case F6=>walk_at "w"
  case a7=>k_is
  case F7=>walk_at "w"
  case a8=>k_is
  case F8=>walk_at "w"
  case a9=>k_is
  case F9=>walk_at "w"
  case a10=>k_is
  case F10=>walk_at "w"
  case a11=>k_is
  case F11=>walk_at "w"
  case a12=>k_is
  case F12=>walk_at "w"
  case a13=>k_is
  case F13=>walk_at "w"
  case a14=>k_is
  case F14=>walk_at "w"
  case a15=>k_is
  case F15=>walk_at "w"
  case a16=>k_is
  case F16=>walk_at "w"
  case a17=>k_is
  case F17=>walk_at "w"
  case a18=>k_is
  case F18=>walk_at "w"
  case a19=>k_is
  case F19=>walk_at "w"
  case a20=>k_is
  case F20=>walk_at "w"
  case iOX21 | fOX21=>k_is
  case F21=>walk_at "w"
  case iOX22 | fOX22=>k_is
  case F22=>walk_at "w"
  case iOX23 | fOX23=>k_is
  case F23=>walk_at "w"
  case a24=>k_is
  case F24=>walk_at "w"
  case a25=>k_is
  case F25=>walk_at "w"
  case a26=>k_is
  case F26=>walk_at "w"
  case a27=>k_is
  case F27=>walk_at "w"
  case a28=>k_is
  case F28=>walk_at "w"
  case a29=>k_is
  case F29=>walk_at "w"
  case a30=>k_is
  case F30=>walk_at "w"
  case a31=>k_is
  case F31=>walk_at "w"
  case a32 | l32 | c_32 | k32 | z_len | z_all | z_range | z_enumerate | z_isinstance | z_tuple | z_list | z_bool | z_str | z_int | z_max | z_min | z_sorted | z_any | z_reversed=>k_is
#print axioms PySem.Challenge.cw_breakwords_k44_whole_full_patterns_holds
namespace K44
end K44
