import PyProof.Rows.All
import Wide.All
import OpenK.AllK
import Wide.FinOn
import Lean
import PyProof.EqAt
import PyProof.EqKinds
import PyProof.TupleCall
import PyProof.CompFree
import PyProof.P3Eq
import PyProof.Draws
import PyProof.EnumMake
import PyProof.WalksMore
import PyProof.StrLawsIn
import KE.KDictOf
import PyProof.ZipIter
import PyProof.CollectIter
import PyProof.TupleOfGen
import PyProof.ListRange
import KE.KRevIter
import PyProof.CollectWalk
import PyProof.ListNew
import PyProof.WalkInts
import PyProof.SeqI3
import KE.KIntText
import PyProof.AutoListH
import PyProof.ConsumeWalk
import PyProof.Rows.SortShellK
import PyProof.Rows.SortStr
import KE.KDictSum
import KE.KDictList
import PyProof.DictTruth
import PyProof.DictWalks
import KE.KDictLaws
import PyProof.Rows.TupDisplay
import PyProof.Cells
import KE.KItemsList
import PyProof.DictValues
import PyProof.MeetsSeq
import PyProof.FactsAll.list_4
import PyProof.FactsAll.list_3
import PySem.Challenge.RW_breakwords_k35_whole_pared
local macro_rules | `(tactic| omega)=>`(tactic| lia)
namespace PySem.W.Fast
def tw209818786399343087:=0
def tw7766162224365790537:=0
def tw1408474198288808024:=0
def tw12088761170043086698:=0
def tw12185243837899184464:=0
def tw13229174110167109453:=0
def tw4750530631575421003:=0
def tw8756804613684874275:=0
def tw11681418067304836973:=0
def tw2452396391088494870:=0
def tw9722540180429185825:=0
def tw2866410085626034480:=0
def tw11588929678082925652:=0
def tw12947829225549227854:=0
def tw3555101163800999854:=0
def tw4016837741109033916:=0
def tw8392581733137059450:=0
def tw7294410624624460614:=0
def tw9022091865125599076:=0
def tw16644756994203125903:=0
def tw14975387335148608834:=0
def tw11833663371011073669:=0
def tw3604505194949254484:=0
def tw2494059685825171566:=0
def tw10846740588815526762:=0
def tw2703965456894722595:=0
def tw1147594941642906810:=0
def tw15936685881521755277:=0
def tw13850684893733726764:=0
def tw10790805030902617358:=0
def tw16271200473199387549:=0
def tw11554995912512852659:=0
def tw2871666846143324799:=0
def tw4726133435126302446:=0
def tw2587451877764011748:=0
def tw14716517719049598531:=0
def tw8607789896213962965:=0
def tw11747935774790770425:=0
def tw6283620170824025679:=0
def tw14862566544139449229:=0
def tw3888763811022420441:=0
def tw7097494044599703561:=0
def tw13222406285954236740:=0
def tw9596954676856226865:=0
def tw6759122791332776827:=0
def tw4956837288037319810:=0
def tw1496870423833639514:=0
def tw11216184427356896703:=0
def tw3714904265606982883:=0
def tw3513552580898496858:=0
def tw73291092140329082:=0
def tw11380188638999334883:=0
def tw8636507651191525279:=0
def tw10545103303003380526:=0
def tw2202087484059283570:=0
def tw12903861008087733984:=0
def tw12155753863514039970:=0
def tw13491580478359703691:=0
def tw15627343682557222834:=0
def tw5759390818964464349:=0
def tw3736066845878989709:=0
def tw1866441367877832994:=0
def tw12067343314220038849:=0
def tw15001625505150671090:=0
def tw4295387997546836057:=0
def tw7369786711657085367:=0
def tw6375598476012352350:=0
def tw938733925306231579:=0
def tw17169886888952674764:=0
def tw16469279371682281145:=0
def tw15438126450407284093:=0
def tw8245832717995677271:=0
def tw9682156875536189307:=0
def tw8356314829233019507:=0
def tw7365582171568565609:=0
def tw13386832051248939577:=0
def tw8123947175269685017:=0
def tw9945987819036833323:=0
def tw17864454343873758571:=0
def tw16738663040271257768:=0
def tw16775780788826015570:=0
def tw9197736608837644639:=0
def tw2854367393819713746:=0
def tw15081955567623751767:=0
def tw1741175463681058017:=0
def tw15932709265119404023:=0
def tw14280372881641174015:=0
def tw11184610324297804506:=0
def tw3090673902255354536:=0
def tw3932064791966973047:=0
def tw2495121858724750367:=0
def tw352808639535936056:=0
def tw9187631900795268999:=0
def tw17429469866879276361:=0
def tw1016115298673950155:=0
def tw3085994059045444564:=0
def tw11703235848243194493:=0
def tw17422643163208480857:=0
def tw16331747612311935011:=0
def tw15411175838551380532:=0
def tw12573772398629065608:=0
def tw12079343026223491910:=0
def tw875067207035052545:=0
def tw14700877062140437465:=0
def tw2381033052687940451:=0
def tw1607045431723625314:=0
def tw12732028946868040812:=0
def tw6012409386780916779:=0
def tw5510579845509902260:=0
def tw2114594052349191619:=0
def tw16178366642742973140:=0
def tw2665400734017396951:=0
def tw4284342454003868744:=0
def tw4183781274104204415:=0
def tw6553509673281833345:=0
def tw49271559519601523:=0
def tw16741095528326096943:=0
def tw6643234537498003648:=0
def tw4748416735152567489:=0
def tw8634932900151343522:=0
def tw4463999402846838422:=0
def tw13420541077277614184:=0
def tw16546331107306409741:=0
def tw15516231845904523781:=0
def tw9734469756780163664:=0
def tw11714555725831749697:=0
def tw17046175528388141246:=0
def tw9431146930385389695:=0
def tw13137926952937180750:=0
def tw12397717531830175570:=0
def tw8889535391659085184:=0
def tw14555315319395864689:=0
def tw11812588534409718909:=0
def tw2237170840643914613:=0
def tw4535943802359738443:=0
def tw11038889345536287932:=0
def tw11909289920254809769:=0
def tw12559451038779633972:=0
def tw2314429137385757188:=0
def tw8074594862998630863:=0
def tw17763855666817242503:=0
def tw17975296170175478973:=0
def tw5155996624022238312:=0
def tw2007914091509525680:=0
def tw5241587703630174313:=0
def tw13269557717679433380:=0
def tw14420302821752545210:=0
def tw8243848691782297094:=0
end PySem.W.Fast
set_option Elab.async false
set_option linter.all false
set_option maxRecDepth 100000
open List renaming getElem?_eq_getElem→pa_,length_map→pb_,mem_append→pe_,getD_eq_getElem?_getD→pf_,length_append→pg_,mem_singleton→ph_,mem_cons_of_mem→pj_,map_append→pk_,getElem?_map→pl_,mem_cons_self→pm_,size_toArray→pn_,map_cons→pp_,getElem?_eq_some_iff→pq_,replicate→pr_,length_cons→ps_,range→pu_,getElem_mem→px_,take_length→py_,mem_cons→p0_,length_take→p2_,take_succ→p3_,map_nil→p7_,length_singleton→p8_,length_set→p9_,mem_map→qb_,mem_append_right→qc_,lookup_cons→qd_,length_drop→qh_,Sublist→qj_,mem_of_mem_take→ql_,length_nil→qm_,length_filter_le→qn_,filter_append→qo_,append_nil→qq_,find?_cons→qr_,filter_cons_of_pos→qw_,filter_cons_of_neg→q0_,map_map→q1_,mem_or_eq_of_mem_set→q3_,any_eq_true→q4_,drop_append_of_le_length→q5_,length_pos_iff→q6_,map_set→ra_,mem_of_mem_drop→rc_,mem_iff_getElem→rd_,foldl_append→rg_,any_cons→rh_,take_append_of_le_length→rk_,mem_range→rl_,flatten_cons→rm_,replicate_succ→ro_,forIn_cons→rp_,filter_nil→rq_,take_of_length_le→rr_,getElem?_append_right→rs_,mem_flatMap→rw_,getElem?_append_left→r0_,forIn_nil→r2_,mem_filter→r3_,append_assoc→r6_,map_congr_left→sc_,nodup_cons→si_,any_eq_false→sl_,length_range→sn_,erase_cons_tail→sp_,cons_append→ss_,not_mem_nil→st_,filterMap_cons→su_,suffix_iff_eq_drop→s2_,lookup→s5_,eraseIdxIfInBounds_toArray→s6_,flatMap_cons→s9_,getElem?_eq_none→te_,all_eq_true→th_,zipIdx_cons→ti_,flatMap_nil→tk_,map_take→tn_,take_succ_cons→tu_,range_succ→tv_,zipIdx_nil→tx_,getElem_of_mem→ty_,erase_sublist→t6_,drop_eq_getElem_cons→t9_,take_zero→wc_,length_erase_of_mem→wh_,eraseIdx_cons_succ→wo_,getElem?_cons_zero→ws_,drop_suffix→wu_,getElem?_set_self→ww_,filter_eq_nil_iff→w1_,of_mem_zip→w5_,foldl_cons→w6_,any_map→kb_,mem_append_left→ki_,getElem?_set_ne→kj_,mem_of_getElem?→kk_,mem_erase_of_ne→kl_,erase_cons_head→kn_,drop_zero→ko_,all_cons→kv_,map_drop→kz_,find?→k3_
open PySem.W renaming Frag→pc_,nsIn→pw_,mg_of→p4_,mg_none_of→qg_,findIn→qi_,emptyDict→q7_,instObj→rn_,keepIn→rz_,isFn→sa_,fnOf→sj_,plainGet→sr_,hasDictIn→s4_,methodCall_KW→ta_,plainGet_of→tr_,callWith_K→t3_,lookIn→t7_,codeIn→t8_,methodObj→wd_,plainOver→we_,cellsFrom_some→wx_,takerIn→w3_,makesIn→w4_,OpenLaw→w8_,specialIn→k1_,kitx_list→k2_
open PySem.Heap renaming get?_push_of_some→pd_,lt_size→pt_,get?_push_size→pv_,SameBut→qv_,size_push→qx_,get?_update_self→tb_,get?_update_other→wz_
open Bool renaming false_ne_true→pi_,and_eq_true→qk_,eq_iff_iff→qt_,not_eq_true→rv_,false_eq_true→t4_,false_or→ky_
open Nat renaming le_refl→po_,ne_of_lt→p6_,lt_of_lt_of_le→qa_,le_trans→qe_,zero_le→qz_,lt_of_le_of_lt→ry_,lt_succ_self→sd_,lt_irrefl→sk_,le_of_lt→sy_,not_lt_zero→s1_,le_of_succ_le→s8_,ne_of_gt→t2_,lt_succ_of_lt→wg_,exists_eq_add_of_le'→wj_,le_succ→wm_,not_lt_of_le→wv_,succ_mul→w7_,sub_self→k8_,zero_add→la_,mul_zero→lb_
open PySem.Builtin.SmallTypes renaming ownedTupleIsFree→pz_,nextOf→p1_,ownedTupleHandOut→q2_
open PySem.PassesOwn renaming never→p5_
open PySem.F renaming plainAttrs_list→qf_,slot_list_append→q8_,type_list_append→q9_,slot_dict_keyiterator_next→rb_,slot_dict_get→ri_,slot_tuple_iterator_next→rt_,entry_dict_get→sg_,plainAttrs_str→sh_,slot_NoneType_hash→so_,slot_zip_next→s3_,args_dict_keyiterator_next_1→td_,slot_str_join→tf_,type_str_join→tg_,entry_dict_keyiterator_next→tj_,args_tuple_iterator_next_1→tm_,entry_tuple_iterator_next→tt_,args_tuple_add_2→wf_,entry_tuple_add→wn_,args_dict_get_2→wp_,args_dict_get_3→wq_,plainAttrs_dict→wr_,slot_tuple_add→wy_,type_dict_get→ka_,slot_list_pop→kf_,type_list_pop→kg_
open Int renaming emod_lt_of_pos→qp_,emod_nonneg→qu_,toNat_natCast→r8_,le_refl→sx_,le_trans→tc_,le_antisymm→tw_,zero_add→kd_
open PySem.SeqAt renaming EqAt→qs_
open PyProof.Rows renaming callWith_type1→qy_,slot_tuple_getitem→r4_
open PySem.Str renaming ofString→re_
open PySem renaming mem_of_lookup→rf_,Within→w2_
open PySem.Calls renaming spliced_cons→rj_,callWith_builtin→sf_,spliced_nil→sm_,evalArgs_plain→tl_,Name_function_global→tz_
open False renaming elim→ru_
open Array renaming getElem?_toList→rx_,length_toList→sv_,toArray_toList→km_
open PySem.Builtin.Slice renaming slicePlaces→r1_,sliceAdjust→sq_,sliceApplied→t0_
open PySem.Builtin.Tuple renaming tupleExact→r5_
open PySem.Builtin.List renaming listTooLong→r7_,listFitsIndex→t1_
open List.Sublist renaming refl→r9_
open PySem.Value renaming isInt→sb_
open Option renaming getD_some→se_,isSome_map→s7_,map_some→ts_,getD_none→wt_,map_eq_some_iff→w0_,isSome_some→k0_
open PySem.Heap.SameBut renaming update→sw_
open PySem.Paired renaming length→sz_
open PySem.Obj renaming data_mapFields→s0_,isFreed_of_fields→w9_,mapSeq→kh_
open PySem.Builtin.Dict_items renaming ownsTuple→to_
open PySem.PyData renaming eqvAll→tp_,canLay0→wa_,depth→k9_
open Ne renaming symm→tq_
open PySem.Txt renaming contains→t5_,slice→kw_,join→kx_,endswith→k7_
open Classical renaming byContradiction→wb_
open PySem.Sem renaming wp_loadIfAlive→wi_
open PySem.Builtin.Range renaming rangeSize→wk_
open PySem.Builtin.Str renaming occurrences→wl_
open PySem.Builtin.Dict renaming showsAll→kc_
open List.cons renaming injEq→ke_
open PySem.SeqAt.EqAt renaming none_int→kp_,none_str→kq_,int_none→kr_,str_none→ks_,int_str→kt_,str_int→ku_
open Option.some renaming injEq→k4_
open PySem.Around renaming under→k5_
open PySem.Code renaming isFrame→k6_
namespace L2
open PySem PySem.Spec PyProof.Rows
noncomputable abbrev Key:=Sum Int Str
noncomputable def up_:Key->Value->Bool
 | .inl k,v=>sb_ k v
 | .inr x,v=>Value.isStrOf x v
noncomputable def keyH (w:World):Key->Int
 | .inl k=>hashInt k
 | .inr x=>hashStr w x
theorem ze_:∀{k:Key}{v:Value},up_ k v=true->(∃ i t,k=Sum.inl i/\v=Value.int i t)∨(∃ x t,k=Sum.inr x/\v=Value.str x t)
 | .inl i,v,h=>by
  obtain⟨t,e⟩:=Value.isInt_shape (k:=i) (v:=v) h
  exact .inl ⟨i,t,rfl,e⟩
 | .inr x,v,h=>by
  obtain⟨t,e⟩:=Value.isStrOf_shape (x:=x) (v:=v) h
  exact .inr ⟨x,t,rfl,e⟩
theorem jmh_ (i:Int)(t:Tok):up_ (.inl i) (.int i t)=true:=by simp[up_,sb_]
theorem jnr_ (x:Str)(t:Tok):up_ (.inr x) (.str x t)=true:=by simp[up_,Value.isStrOf]
theorem jxl_ (a b:Int):decide ((Sum.inl a:Key)=Sum.inl b)=(a == b):=by
 by_cases e:a=b
 ·subst e;simp
 ·have h:¬ (Sum.inl a:Key)=Sum.inl b:=fun q=>e (Sum.inl.inj q)
  rw[decide_eq_false h]
  exact(beq_eq_false_iff_ne.mpr e).symm
theorem jwm_ (a b:Str):decide ((Sum.inr a:Key)=Sum.inr b)=decide (a=b):=by
 by_cases e:a=b
 ·subst e;simp
 ·have h:¬ (Sum.inr a:Key)=Sum.inr b:=fun q=>e (Sum.inr.inj q)
  rw[decide_eq_false h,decide_eq_false e]
theorem jxa_ (a:Int)(b:Str):decide ((Sum.inl a:Key)=Sum.inr b)=false:=decide_eq_false (fun q=>nomatch q)
theorem jxy_ (a:Str)(b:Int):decide ((Sum.inr a:Key)=Sum.inl b)=false:=decide_eq_false (fun q=>nomatch q)
noncomputable def zb_ (prog:Program)(w:World):PySem.KeyKind prog w Key where
 is:=up_
 hash:=keyH w
 inj:=fun v a b ha hb=>by
  rcases ze_ ha with ⟨i,t,rfl,rfl⟩ | ⟨x,t,rfl,rfl⟩
  ·rcases ze_ hb with ⟨j,u,rfl,e⟩ | ⟨y,u,rfl,e⟩
   ·injection e with e1 _;rw[e1]
   ·exact nomatch e
  ·rcases ze_ hb with ⟨j,u,rfl,e⟩ | ⟨y,u,rfl,e⟩
   ·exact nomatch e
   ·injection e with e1 _;rw[e1]
 byValue:=fun k v h=>by
  rcases ze_ h with ⟨i,t,rfl,rfl⟩ | ⟨x,t,rfl,rfl⟩ <;> rfl
 pyHash:=fun hv h=>by
  rcases ze_ hv with ⟨i,t,rfl,rfl⟩ | ⟨x,t,rfl,rfl⟩
  ·exact wpAny_pyHash_int h
  ·exact wpAny_pyHash_str h
 eqBool:=fun hu hv h=>by
  rcases ze_ hu with ⟨i,t,rfl,rfl⟩ | ⟨x,t,rfl,rfl⟩
  ·rcases ze_ hv with ⟨j,u,rfl,rfl⟩ | ⟨y,u,rfl,rfl⟩
   ·rw[jxl_] at h;exact wpAny_eqBool_int h
   ·rw[jxa_] at h;exact kt_ i t y u _ _ _ _ h
  ·rcases ze_ hv with ⟨j,u,rfl,rfl⟩ | ⟨y,u,rfl,rfl⟩
   ·rw[jxy_] at h;exact ku_ x t j u _ _ _ _ h
   ·rw[jwm_] at h;exact wpAny_eqBool_str h
 «strs»:=fun k x t v h=>by
  rcases ze_ h with ⟨i,u,rfl,e⟩ | ⟨y,u,rfl,e⟩
  ·exact nomatch e
  ·injection e with e1 _
   subst e1
   cases v <;> rfl
theorem jgz_ (prog:Program)(w:World)(i:Int)(t:Tok):(zb_ prog w).is (.inl i) (.int i t)=true:=jmh_ i t
theorem jhc_ (prog:Program)(w:World)(x:Str)(t:Tok):(zb_ prog w).is (.inr x) (.str x t)=true:=jnr_ x t
end L2
namespace L2
open PySem PySem.Spec PyProof.Rows
inductive V where
 | non | bl (b:Bool) | int (i:Int) | str (x:Str) | byt (b:Array UInt8) | flt (b:UInt64) | ref (a:Addr) | ty (n:String)
 deriving DecidableEq
def RelV:V->Value->Prop
 | .non,u=>u=Value.none
 | .bl b,u=>u=Value.bool b
 | .int i,u=>∃ t,u=Value.int i t
 | .str x,u=>∃ t,u=Value.str x t
 | .byt b,u=>∃ t,u=Value.bytes b t
 | .flt b,u=>∃ t,u=Value.float b t
 | .ref a,u=>u=Value.ref a
 | .ty n,u=>u=Value.type n
abbrev Vals:List V->List Value->Prop:=Paired RelV
theorem Vals.length {xs:List V}{us:List Value}(r:Vals xs us):xs.length=us.length:=sz_ r
theorem Vals.get:∀{xs:List V}{us:List Value}{i:Nat}{x:V},Vals xs us->xs[i]?=some x->∃ u,us[i]?=some u/\RelV x u
 | _,_,_,_,.nil,e=>by simp at e
 | _,_,0,_,.cons r _,e=>by simp at e;subst e;exact⟨_,rfl,r⟩
 | _,_,i+1,x,.cons _ t,e=>by
  obtain⟨u,h1,h2⟩:=Vals.get (i:=i) (x:=x) t (by simpa using e)
  exact⟨u,by simpa using h1,h2⟩
theorem Vals.set {x:V}{u:Value}(r:RelV x u):∀{xs:List V}{us:List Value} (i:Nat),Vals xs us->Vals (xs.set i x) (us.set i u)
 | _,_,_,.nil=>.nil
 | _,_,0,.cons _ t=>.cons r t
 | _,_,i+1,.cons q t=>.cons q (Vals.set r i t)
theorem Vals.append:∀{xs ys:List V}{us ws:List Value},Vals xs us->Vals ys ws->Vals (xs++ys) (us++ws)
 | _,_,_,_,.nil,s=>s
 | _,_,_,_,.cons r t,s=>.cons r (Vals.append t s)
theorem Vals.take:∀{xs:List V}{us:List Value} (n:Nat),Vals xs us->Vals (xs.take n) (us.take n)
 | _,_,0,_=>.nil
 | _,_,_+1,.nil=>.nil
 | _,_,n+1,.cons r t=>.cons r (Vals.take n t)
theorem Vals.drop:∀{xs:List V}{us:List Value} (n:Nat),Vals xs us->Vals (xs.drop n) (us.drop n)
 | _,_,0,r=>r
 | _,_,_+1,.nil=>.nil
 | _,_,n+1,.cons _ t=>Vals.drop n t
def RelO:Option V->Option Value->Prop
 | some v,some u=>RelV v u
 | none,none=>True
 | _,_=>False
def KV {κ:Type}:List (κ×V)->List (κ×Value)->Prop:=Paired fun(p:κ×V) (q:κ×Value)=>p.1=q.1/\RelV p.2 q.2
noncomputable def kV:Key->V
 | .inl i=>.int i
 | .inr x=>.str x
inductive HO where
 | lst (xs:List V)
 | tup (xs:List V)
 | dK (kvs:List (Key×V)) | dT (kvs:List (List Key×V))
 | set (S:Int->Bool) (n:Nat)
 | ins (C dx:Addr) (fs:List (Str×V))
 | own (x:Addr)
 | xd (fs:List (Str×V))
 | met (f x:Addr)
 | rng (lo hi:Int)
 | frz (o:Obj) (u:HO)
 | tbl (ps:Array Value)
 | ext (φ:Heap->Prop)
noncomputable abbrev Hp:=Addr->Option HO
noncomputable def upd (H:Hp)(a:Addr)(o:HO):Hp:=fun b=>if b=a then some o else H b
theorem jb_ {H:Hp}{a:Addr}{o:HO}:upd H a o a=some o:=by unfold upd;rw[if_pos rfl]
theorem ji_ {H:Hp}{a b:Addr}{o:HO}(h:b≠a):upd H a o b=H b:=by unfold upd;rw[if_neg h]
theorem jla_ {H:Hp}{a:Addr}{o u:HO}:upd (upd H a o) a u=upd H a u:=by
 funext b;unfold upd;split <;> rfl
theorem juh_ {H:Hp}{a b:Addr}{o u:HO}(h:H a=some o)(h':H b=some u)(d:o≠u):a≠b:=by
 intro e;subst e;rw[h] at h';exact d (Option.some.inj h')
theorem j3_ {H:Hp}{a b:Addr}{o:HO}(h:H a=some o)(h':H b=none):a≠b:=by
 intro e;subst e;rw[h] at h';cases h'
def DcN (h:Heap)(a:Addr):Prop:=∀ o,h.get? a=some o->o.dict=none
theorem DcN.new (h:Heap)(items:Array Value){n:Nat}:DcN (h.push { cls:=.type "tuple",data:=.seq items n }) h.objs.size:=fun o e=>by
 rw[pv_ _ rfl] at e;cases e;rfl
section
variable (P:Program) (w:World)
def ObjOk (H:Hp)(h:Heap)(a:Addr):HO->Prop
 | .lst xs=>xs.length<=sizeLine/\∃(its:List Value) (n:Nat),Vals xs its/\h.get? a=some { cls:=.type "list",data:=.seq its.toArray n }
 | .tup xs=>xs.length<=sizeLine/\∃ its:List Value,Vals xs its/\IsTup h a its.toArray/\DcN h a
 | .dK kvs=>kvs.length<=sizeLine/\(a == sysModules)=false/\∃ vs,KV kvs vs/\h.DictOf (zb_ P w) a vs
 | .dT kvs=>kvs.length<=sizeLine/\(a == sysModules)=false/\∃ xs:List (List Key×Addr×Value),
   Paired (fun(p:List Key×V) (q:List Key×Addr×Value)=>p.1=q.1/\H q.2.1=some (.tup (p.1.map kV))/\RelV p.2 q.2.2) kvs xs /\
   ∃ o es ep,h.get? a=some o/\o.ExactDict/\o.data=.dict es ep/\es.toList=xs.map (entryOfKey (tupleKind (zb_ P w)))/\(xs.map (·.1)).Nodup
 | .set S n=>h.SetOf (intKind P w) a S n
 | .ins C dx fs=>H dx=some (.own a)/\fs.length<=1000/\dx≠a/\h.get? a=some (rn_ C dx) /\
   ∃ mA,h.Ns1 dx mA/\(∀ f,RelO (fs.lookup f) (mA f))/\w2_ mA (fs.map (·.1))
 | .own _=>∃ o,h.get? a=some o
 | .xd fs=>∃ mA,h.Ns1 a mA/\∀ f,RelO (fs.lookup f) (mA f)
 | .rng lo hi=>∃ t u v,h.get? a=some { cls:=.type "range",data:=.fields #[.int lo t,.int hi u,.int 1 v] }
 | .frz o u=>h.get? a=some o/\ObjOk H h a u
 | .tbl ps=>h.get? a=some { cls:=.none,data:=.fields ps }
 | .met f x=>h.get? a=some (wd_ (.ref f) (.ref x))
 | .ext φ=>φ h/\(∃ o,h.get? a=some o)/\∀ h1 h2:Heap,φ h1->(∀ o,h1.get? a=some o->h2.get? a=some o)->φ h2
def HOk (H:Hp)(h:Heap):Prop:=∀ a o,H a=some o->ObjOk P w H h a o
end
section
variable {P:Program}{w:World}{H H':Hp}{h h':Heap}{a:Addr}{o:HO}
theorem ObjOk.lt (x:ObjOk P w H h a o):a < h.objs.size:=by
 cases o with
 | lst xs=>obtain⟨_,_,_,_,e⟩:=x;exact pt_ e
 | tup xs=>obtain⟨_,_,_,p⟩:=x;exact p.1.lt
 | dK kvs=>obtain⟨_,_,_,_,o,_,_,e,_⟩:=x;exact pt_ e
 | dT kvs=>obtain⟨_,_,_,_,o,_,_,e,_⟩:=x;exact pt_ e
 | set S n=>obtain⟨o,_,_,_,e,_⟩:=x;exact pt_ e
 | ins C dx fs=>obtain⟨_,_,_,e,_⟩:=x;exact pt_ e
 | own y=>obtain⟨_,e⟩:=x;exact pt_ e
 | xd fs=>obtain⟨_,⟨_,_,_,e,_⟩,_⟩:=x;exact pt_ e
 | rng lo hi=>obtain⟨_,_,_,e⟩:=x;exact pt_ e
 | frz ob u=>obtain⟨e,_⟩:=x;exact pt_ e
 | tbl ps=>exact pt_ (show h.get? a=some _ from x)
 | met f y=>exact pt_ (show h.get? a=some _ from x)
 | ext φ=>obtain⟨_,⟨_,e⟩,_⟩:=x;exact pt_ e
theorem Paired.mapP {α β:Type}{F G:α->β->Prop}:∀{l₁:List α}{l₂:List β},Paired F l₁ l₂->(∀ a b,F a b->G a b)->Paired G l₁ l₂
 | _,_,.nil,_=>.nil
 | _,_,.cons r t,f=>.cons (f _ _ r) (Paired.mapP t f)
theorem ObjOk.stay (x:ObjOk P w H h a o)(k:∀ b u,(b=a∨H b=some (.own a))->h.get? b=some u->h'.get? b=some u)
  (ho:∀ b,H b=some (.own a)->H' b=some (.own a)) (ht:∀ b xs,H b=some (.tup xs)->H' b=some (.tup xs)):ObjOk P w H' h' a o:=by
 induction o with
 | lst xs=>obtain⟨z,its,n,r,e⟩:=x;exact⟨z,its,n,r,k _ _ (.inl rfl) e⟩
 | tup xs=>obtain⟨z,its,r,⟨ob,e,c⟩,dn⟩:=x;exact⟨z,its,r,⟨ob,k _ _ (.inl rfl) e,c⟩,fun o' e'=>by rw[k _ _ (.inl rfl) e] at e';cases e';exact dn ob e⟩
 | dK kvs=>obtain⟨z,y,vs,r,ob,es,ep,e,c⟩:=x;exact⟨z,y,vs,r,ob,es,ep,k _ _ (.inl rfl) e,c⟩
 | dT kvs =>
  obtain⟨z,y,xs,r,ob,es,ep,e,c⟩:=x
  exact⟨z,y,xs,Paired.mapP r fun p q z=>⟨z.1,ht _ _ z.2.1,z.2.2⟩,ob,es,ep,k _ _ (.inl rfl) e,c⟩
 | set S n=>obtain⟨ob,es,ep,t,e,c⟩:=x;exact⟨ob,es,ep,t,k _ _ (.inl rfl) e,c⟩
 | ins C dx fs =>
  obtain⟨d,z,ne,e,mA,⟨od,es,ep,e2,c⟩,r⟩:=x
  exact⟨ho _ d,z,ne,k _ _ (.inl rfl) e,mA,⟨od,es,ep,k _ _ (.inr d) e2,c⟩,r⟩
 | own y=>obtain⟨ob,e⟩:=x;exact⟨ob,k _ _ (.inl rfl) e⟩
 | xd fs=>obtain⟨mA,⟨od,es,ep,e,c⟩,r⟩:=x;exact⟨mA,⟨od,es,ep,k _ _ (.inl rfl) e,c⟩,r⟩
 | rng lo hi=>obtain⟨t,u,v,e⟩:=x;exact⟨t,u,v,k _ _ (.inl rfl) e⟩
 | frz ob u ih=>obtain⟨e,q⟩:=x;exact⟨k _ _ (.inl rfl) e,ih q⟩
 | tbl ps =>
  have e:h.get? a=some { cls:=.none,data:=.fields ps }:=x
  show h'.get? a=some { cls:=.none,data:=.fields ps }
  exact k a _ (.inl rfl) e
 | met f y =>
  have e:h.get? a=some (wd_ (.ref f) (.ref y)):=x
  show h'.get? a=some (wd_ (.ref f) (.ref y))
  exact k a _ (.inl rfl) e
 | ext φ=>obtain⟨p,⟨o,e⟩,st⟩:=x;exact⟨st _ _ p fun o q=>k _ _ (.inl rfl) q,⟨o,k _ _ (.inl rfl) e⟩,st⟩
theorem HOk.lt (x:HOk P w H h)(e:H a=some o):a < h.objs.size:=(x a o e).lt
theorem HOk.fresh (x:HOk P w H h)(e:h.objs.size<=a):H a=none:=by
 cases q:H a with
 | none=>rfl
 | some u=>exact absurd (qa_ (x.lt q) e) (sk_ _)
theorem HOk.kept (x:HOk P w H h)(k:∀ b u,h.get? b=some u->h'.get? b=some u):HOk P w H h':=fun a o e =>
 (x a o e).stay (fun b u _ q=>k b u q) (fun _ q=>q) fun _ _ q=>q
theorem HOk.laid (x:HOk P w H h)(k:∀ b u,h.get? b=some u->h'.get? b=some u)(hp:h.objs.size<=a)(new:ObjOk P w (upd H a o) h' a o):HOk P w (upd H a o) h':=fun b u e=>by
 have hn:=x.fresh hp
 by_cases hb:b=a
 ·subst hb;rw[jb_] at e;cases e;exact new
 ·rw[ji_ hb] at e
  exact(x b u e).stay (fun c v _ q=>k c v q) (fun c q=>by rw[ji_ (j3_ q hn)];exact q) fun c xs q=>by rw[ji_ (j3_ q hn)];exact q
end
def Rd (H:Hp)(a:Addr)(u:HO):Prop:=H a=some u∨∃ o,H a=some (.frz o u)
theorem Rd.ok {P:Program}{w:World}{H:Hp}{h:Heap}{a:Addr}{u:HO}(r:Rd H a u)(x:HOk P w H h):ObjOk P w H h a u:=by
 rcases r with r | ⟨o,r⟩
 ·exact x a u r
 ·obtain⟨_,q⟩:=x a _ r
  exact q
def Mut:Option HO->Prop
 | some (.lst _)=>True
 | some (.dK _)=>True
 | some (.dT _)=>True
 | some (.set _ _)=>True
 | some (.ins _ _ _)=>True
 | some (.ext _)=>True
 | _=>False
section
variable {P:Program}{w:World}{H:Hp}{h h':Heap}{x e:Addr}{o':HO}
theorem HOk.write (ok:HOk P w H h)(mu:Mut (H x))(he:e=x∨H e=some (.own x))(k:∀ b u,b≠e->h.get? b=some u->h'.get? b=some u)(heo:∃ u,h'.get? e=some u)
  (new:ObjOk P w (upd H x o') h' x o'):HOk P w (upd H x o') h':=fun b u q=>by
 have nown:∀ c y,H c=some (.own y)->c≠x:=fun c y r z=>by subst z;rw[r] at mu;exact mu
 have ntup:∀ c xs,H c=some (.tup xs)->c≠x:=fun c xs r z=>by subst z;rw[r] at mu;exact mu
 by_cases hb:b=x
 ·subst hb;rw[jb_] at q;cases q;exact new
 ·rw[ji_ hb] at q
  by_cases hbe:b=e
  ·have q':H b=some (.own x):=by
    rcases he with z | z
    ·exact absurd (hbe.trans z) hb
    ·rw[hbe];exact z
   rw[q] at q';cases q'
   obtain⟨v,hv⟩:=heo
   exact⟨v,by rw[hbe];exact hv⟩
  ·refine(ok b u q).stay (fun c v hc r=>k c v ?_ r) (fun c r=>by rw[ji_ (nown c b r)];exact r) fun c xs r=>by rw[ji_ (ntup c xs r)];exact r
   rcases hc with rfl | hc
   ·exact hbe
   ·rintro rfl
    rcases he with z | z
    ·exact nown c b hc z
    ·rw[hc] at z;cases z;exact hb rfl
end
structure Un (fs ex:List Addr)(H H':Hp)(h h':Heap):Prop where
 keep:∀ b o,h.get? b=some o->H b=none->b∉fs->b∉ex->h'.get? b=some o
 slot:∀ b o,h.get? b=some o->H b=none->b∈fs->b∉ex->∃ sl,h'.get? b=some { o with slots:=sl }
 free:∀ b o,h.get? b=some o->H b=none->b∉ex->H' b=none
 there:∀ b o,h.get? b=some o->b∉ex->∃ o',h'.get? b=some o'
 tups:∀ b xs,H b=some (.tup xs)->H' b=some (.tup xs)
 frzs:∀ b o u,H b=some (.frz o u)->H' b=some (.frz o u)
 tbls:∀ b ps,H b=some (.tbl ps)->∃ more,H' b=some (.tbl (ps++more))
section
variable {fs fs' ex ex':List Addr}{H H1 H2:Hp}{h h1 h2 h':Heap}{a x e:Addr}{o:HO}
theorem Un.any (u:Un fs ex H H1 h h1){b:Addr}{ob:Obj}(q:h.get? b=some ob)(n:H b=none)(hx:b∉ex):∃ sl,h1.get? b=some { ob with slots:=sl }:=by
 by_cases hb:b∈fs
 ·exact u.slot b ob q n hb hx
 ·exact⟨ob.slots,u.keep b ob q n hb hx⟩
theorem Un.kept (k:∀ b u,h.get? b=some u->h'.get? b=some u):Un fs ex H H h h' :=
 ⟨fun b ob q _ _ _=>k b ob q,fun b ob q _ _ _=>⟨ob.slots,k b ob q⟩,fun _ _ _ n _=>n,fun b ob q _=>⟨ob,k b ob q⟩,fun _ _ q=>q,fun _ _ _ q=>q,fun _ ps q=>⟨#[],by rw[q];simp⟩⟩
theorem Un.refl:Un fs ex H H h h:=Un.kept fun _ _ q=>q
theorem Un.laid (k:∀ b u,h.get? b=some u->h'.get? b=some u)(hp:h.objs.size<=a)(hn:H a=none):Un fs ex H (upd H a o) h h' where
 keep:=fun b u q _ _ _=>k b u q
 slot:=fun b u q _ _ _=>⟨u.slots,k b u q⟩
 free:=fun b u q n _=>by rw[ji_ (p6_ (qa_ (pt_ q) hp))];exact n
 there:=fun b u q _=>⟨u,k b u q⟩
 tups:=fun b xs q=>by rw[ji_ (j3_ q hn)];exact q
 frzs:=fun b u xs q=>by rw[ji_ (j3_ q hn)];exact q
 tbls:=fun b ps q=>⟨#[],by rw[ji_ (j3_ q hn),q];simp⟩
theorem Un.write (mu:Mut (H x))(he:e=x∨H e=some (.own x))(k:∀ b u,b≠e->h.get? b=some u->h'.get? b=some u)(heo:∃ u,h'.get? e=some u):Un fs ex H (upd H x o) h h':=by
 have hx:∀ b,H b=none->b≠x:=fun b n z=>by subst z;rw[n] at mu;exact mu
 have hb:∀ b,H b=none->b≠e:=fun b n z=>by
  subst z
  rcases he with r | r
  ·exact hx b n r
  ·rw[n] at r;cases r
 have hm:∀ b u,H b=some u->¬ Mut (some u)->b≠x:=fun b u q nm z=>by subst z;rw[q] at mu;exact nm mu
 refine⟨fun b u q n _ _=>k b u (hb b n) q,fun b u q n _ _=>⟨u.slots,k b u (hb b n) q⟩,fun b u q n _=>by rw[ji_ (hx b n)];exact n,fun b u q _=>?_,
  fun b xs q=>by rw[ji_ (hm b _ q fun z=>z)];exact q,fun b u xs q=>by rw[ji_ (hm b _ q fun z=>z)];exact q,fun b ps q=>⟨#[],by rw[ji_ (hm b _ q fun z=>z),q];simp⟩⟩
 by_cases hbe:b=e
 ·subst hbe;exact heo
 ·exact⟨u,k b u hbe q⟩
end
noncomputable def trk (h:Heap)(H:Hp):List Addr:=(pu_ h.objs.size).filter fun a=>(H a).isSome
noncomputable def hidT (h:Heap)(H:Hp):Heap:=PySem.W.hideAll h (trk h H)
theorem jno_ (h:Heap)(H:Hp):(hidT h H).objs.size=h.objs.size:=PySem.W.hideAll_size _ _
theorem jrb_ {h:Heap}{H:Hp}{b:Addr}{o:Obj}(e:h.get? b=some o)(n:H b=none):(hidT h H).get? b=some o :=
 PySem.W.hideAll_get _ e fun hm=>by
  have q:(H b).isSome=true:=(r3_.mp hm).2
  rw[n] at q;simp at q
theorem jta_ {h:Heap}{H:Hp}{b:Addr}{o:Obj}(e:(hidT h H).get? b=some o):h.get? b=some o/\H b=none:=by
 have e':h.get? b=some o:=PySem.W.of_hideAll (trk h H) e
 refine⟨e',?_⟩
 cases q:H b with
 | none=>rfl
 | some x =>
  have hm:b∈trk h H:=r3_.mpr ⟨rl_.mpr (pt_ e'),by simp[q]⟩
  have z:(hidT h H).get? b=none:=PySem.W.hideAll_none (trk h H) hm
  rw[z] at e;cases e
end L2
namespace L2
open PySem PySem.Spec PyProof.Rows
structure Mod (K:pc_)(mg:Str->Option Value)(base:Heap):Prop where
 kin:K.In base
 glob:base.Ns mainGlobals mg
 blt:∃ mb,base.Ns builtinsNs mb/\∀ x:Str,x≠"__name__"->mb x=bootBuiltins x
 nolimit:base.NoLimit
structure Cx where
 prog:Program
 w:World
 K:pc_
 mg:Str->Option Value
 base:Heap
 A:Around
 N:List Str
 s₀:Shared
 H₀:Hp
 env:Env
 outer:List Env
 stack:List Env
 ex:List Addr
 fn:Str->Bool
 calm:Bool
 pn:List (Addr×Obj)
 xe:Value->Shared->Prop
noncomputable def frs (l:List Env):List Addr:=l.filterMap (·.frame)
noncomputable abbrev Cx.fs (X:Cx):List Addr:=frs X.outer
def Vis (sc:Scope)(x:Str):Prop:=sc.names.lookup x=some .local∨sc.names.lookup x=some .cell∨sc.names.lookup x=some .free
def Loc (sc:Scope)(x:Str):Prop:=sc.names.lookup x=some .local∨sc.names.lookup x=some .cell
noncomputable def Look (env:Env)(h:Heap)(m:Str->Option Value)(x:Str)(u:Value):Prop :=
 (env.kindOf x=some .local/\m x=some u)∨((env.kindOf x=some .cell∨env.kindOf x=some .free)/\∃ c,env.cells.lookup x=some c/\h.IsCell c (some u))
structure Cx.Ok (X:Cx):Prop where
 mod:Mod X.K X.mg X.base
 kind:X.env.scope.kind=.function
 glob:X.env.globals=mainGlobals
 blt:X.env.builtins=builtinsNs
 above:X.s₀.heap.objs.size<=X.env.locals
 inj:∀ x y c,X.env.cells.lookup x=some c->X.env.cells.lookup y=some c->x=y
 has:∀ x,(X.env.kindOf x=some .cell∨X.env.kindOf x=some .free)->∃ c,X.env.cells.lookup x=some c
 cab:∀ x c,X.fn x=true->X.env.cells.lookup x=some c->X.s₀.heap.objs.size<=c
 hd:X.calm=true->X.A.handled=none
 frames:X.A.frames=some X.stack
 stk:X.stack=X.outer∨(X.stack=X.env::X.outer/\X.env.frame=some X.env.locals)
 exf:∀ b∈X.ex,b≠X.env.locals/\∀ x c,X.env.cells.lookup x=some c->c≠b
 bs:∀ b o,X.base.get? b=some o->X.s₀.heap.get? b=some o/\X.H₀ b=none
 bsz:X.base.objs.size<=X.s₀.heap.objs.size
 noex:∀ b o,X.base.get? b=some o->b∉X.ex
 exfs:∀ b∈X.ex,b∉X.fs
 funs:X.s₀.heap.FunFrames X.base X.outer
 frf:∀ b∈X.fs,X.H₀ b=none
structure Inv (X:Cx)(pins:List (Addr×Obj))(σ:List (Option V))(H:Hp)(s:Shared):Prop where
 ok:X.Ok
 os:s.os=X.s₀.os
 bare:AllBare s.gens
 base:Un X.fs X.ex X.H₀ H X.s₀.heap s.heap
 loc:∃ m,s.heap.Ns X.env.locals m/\∀(i:Nat) (x:Str) (v:V),X.N[i]?=some x->σ[i]?=some (some v)->Vis X.env.scope x->∃ u,RelV v u/\Look X.env s.heap m x u
 cell:∀ x c,X.env.cells.lookup x=some c->∃ v,s.heap.IsCell c v
 free:H X.env.locals=none
 freeC:∀ x c,X.env.cells.lookup x=some c->H c=none
 pin:∀ p∈X.pn++pins,s.heap.get? p.1=some p.2/\H p.1=none/\p.1≠X.env.locals/\p.1∉X.fs/\∀ v,p.2.data≠.cell v
 hok:HOk X.prog X.w H s.heap
 len:σ.length=X.N.length
section
variable {X:Cx}{pins:List (Addr×Obj)}{σ:List (Option V)}{H H':Hp}{s:Shared}{h':Heap}
theorem Cx.Ok.nofr (ok:X.Ok){b:Addr}{o:Obj}(e:X.base.get? b=some o):b∉X.fs:=fun hb=>by
 have:=(ok.funs.mem hb).1
 rw[e] at this;cases this
theorem Inv.bs (I:Inv X pins σ H s):∀ b o,X.base.get? b=some o->s.heap.get? b=some o/\H b=none:=fun b o e =>
 ⟨I.base.keep b o (I.ok.bs b o e).1 (I.ok.bs b o e).2 (I.ok.nofr e) (I.ok.noex b o e),I.base.free b o (I.ok.bs b o e).1 (I.ok.bs b o e).2 (I.ok.noex b o e)⟩
theorem Inv.bk (I:Inv X pins σ H s):∀ b o,X.base.get? b=some o->s.heap.get? b=some o:=fun b o e=>(I.bs b o e).1
theorem Inv.mod (I:Inv X pins σ H s):Mod X.K X.mg X.base:=I.ok.mod
theorem Inv.kIn (I:Inv X pins σ H s):X.K.In s.heap:=I.ok.mod.kin.keeps I.bk
theorem Inv.lt (I:Inv X pins σ H s):X.env.locals < s.heap.objs.size:=let ⟨_,hn,_⟩:=I.loc;hn.lt
theorem Inv.sz (I:Inv X pins σ H s):X.s₀.heap.objs.size<=s.heap.objs.size:=qe_ I.ok.above (sy_ I.lt)
theorem Inv.nofs (I:Inv X pins σ H s){a:Addr}(h:s.heap.objs.size<=a):a∉X.fs:=fun hb=>by
 obtain⟨_,o,ho,_⟩:=I.ok.funs.mem hb
 exact absurd (qa_ (pt_ ho) (qe_ I.sz h)) (sk_ _)
theorem Inv.cne (I:Inv X pins σ H s):∀ x c,X.env.cells.lookup x=some c->c≠X.env.locals:=fun x c e z=>by
 obtain⟨v,o,ho,hd⟩:=I.cell x c e
 obtain⟨m,⟨o',es,ep,ho',hd',_⟩,_⟩:=I.loc
 rw[z,ho'] at ho;cases ho;rw[hd'] at hd;cases hd
theorem Inv.funs (I:Inv X pins σ H s):s.heap.FunFrames X.base X.outer:=by
 have all:∀(l:List Env),(∀ b∈frs l,b∈X.fs)->X.s₀.heap.FunFrames X.base l->s.heap.FunFrames X.base l:=by
  intro l
  induction l with
  | nil=>intro _ _;trivial
  | cons env r ih =>
   intro hs hl
   obtain⟨hk,⟨L,o,hf,hn,ho,hd⟩,hr⟩:=hl
   have hL:L∈X.fs:=hs L (by unfold frs;rw[su_,hf];exact pm_)
   obtain⟨sl,e⟩:=I.base.slot L o ho (I.ok.frf L hL) hL fun z=>I.ok.exfs L z hL
   exact⟨hk,⟨L,_,hf,hn,e,hd⟩,ih (fun b hb=>hs b (by unfold frs;rw[su_,hf];exact pj_ _ hb)) hr⟩
 exact all X.outer (fun _ hb=>hb) I.ok.funs
theorem Inv.stack (I:Inv X pins σ H s):s.heap.FunFrames X.base X.stack:=by
 rcases I.ok.stk with e | ⟨e,hf⟩
 ·rw[e];exact I.funs
 ·rw[e]
  obtain⟨m,hn,_⟩:=I.loc
  refine .cons (by rw[I.ok.kind];decide) hf hn ?_ I.funs
  exact Heap.get?_none_of_le (qe_ I.ok.bsz I.ok.above)
theorem Inv.stkSub (I:Inv X pins σ H s):∀ b∈frs X.stack,b∈X.env.locals::X.fs:=fun b hb=>by
 rcases I.ok.stk with e | ⟨e,hf⟩
 ·rw[e] at hb;exact pj_ _ hb
 ·rw[e] at hb
  unfold frs at hb
  rw[su_,hf] at hb
  exact hb
theorem Inv.stkFree (I:Inv X pins σ H s):∀ b∈frs X.stack,H b=none:=fun b hb=>by
 rcases p0_.mp (I.stkSub b hb) with e | hb
 ·rw[e];exact I.free
 ·obtain⟨_,o,ho,_⟩:=I.ok.funs.mem hb
  exact I.base.free b o ho (I.ok.frf b hb) fun z=>I.ok.exfs b z hb
theorem Inv.step {g':Array GenState}{t':Nat}{d':Drawn}{ch:List Addr}(I:Inv X pins σ H s)
  (hch:∀ b∈ch,(b∈X.ex∨X.s₀.heap.objs.size<=b)/\b≠X.env.locals/\(∀ x c,X.env.cells.lookup x=some c->c≠b)/\∀ p∈X.pn++pins,p.1≠b)
  (keep:∀ b o,b≠X.env.locals->b∉X.fs->b∉ch->s.heap.get? b=some o->H b=none->h'.get? b=some o)
  (slot:∀ b o,b≠X.env.locals->b∈X.fs->b∉ch->s.heap.get? b=some o->H b=none->∃ sl,h'.get? b=some { o with slots:=sl }) (free:∀ b o,b∉ch->s.heap.get? b=some o->H b=none->H' b=none)
  (there:∀ b o,b∉ch->s.heap.get? b=some o->∃ o',h'.get? b=some o')
  (tups:∀ b xs,H b=some (.tup xs)->H' b=some (.tup xs)) (frzs:∀ b o u,H b=some (.frz o u)->H' b=some (.frz o u)) (tbls:∀ b ps,H b=some (.tbl ps)->∃ more,H' b=some (.tbl (ps++more)))
  (ns:∀ m,s.heap.Ns X.env.locals m->h'.Ns X.env.locals m) (hok:HOk X.prog X.w H' h') (hg:AllBare g') :
  Inv X pins σ H' { s with heap:=h',gens:=g',drawn:=d',toks:=t' }:=by
 have neL:∀ b o,X.s₀.heap.get? b=some o->b≠X.env.locals:=fun b o e=>p6_ (qa_ (pt_ e) I.ok.above)
 have neC:∀ b o,X.s₀.heap.get? b=some o->b∉X.ex->b∉ch:=fun b o e hx hb=>by
  rcases (hch b hb).1 with z | z
  ·exact hx z
  ·exact absurd (qa_ (pt_ e) z) (sk_ _)
 have cellK:∀ x c,X.env.cells.lookup x=some c->∀ v,s.heap.IsCell c v->h'.IsCell c v:=fun x c e v ⟨o,ho,hd⟩=>by
  have nch:c∉ch:=fun z=>(hch c z).2.2.1 x c e rfl
  by_cases hc:c∈X.fs
  ·obtain⟨sl,q⟩:=slot c o (I.cne x c e) hc nch ho (I.freeC x c e)
   exact⟨_,q,hd⟩
  ·exact⟨o,keep c o (I.cne x c e) hc nch ho (I.freeC x c e),hd⟩
 refine⟨I.ok,I.os,hg,⟨fun b o e n hb hx=>?_,fun b o e n hb hx=>?_,fun b o e n hx=>?_,fun b o e hx=>?_,fun b xs e=>tups b xs (I.base.tups b xs e),fun b o xs e=>frzs b o xs (I.base.frzs b o xs e),fun b ps e=>?_⟩,?_,fun x c e=>?_,?_,fun x c e=>?_,fun p hp=>?_,hok,I.len⟩
 ·exact keep b o (neL b o e) hb (neC b o e hx) (I.base.keep b o e n hb hx) (I.base.free b o e n hx)
 ·obtain⟨sl,e1⟩:=I.base.slot b o e n hb hx
  obtain⟨sl',e2⟩:=slot b _ (neL b o e) hb (neC b o e hx) e1 (I.base.free b o e n hx)
  exact⟨sl',e2⟩
 ·obtain⟨o',e1⟩:=I.base.there b o e hx
  exact free b o' (neC b o e hx) e1 (I.base.free b o e n hx)
 ·obtain⟨o',e1⟩:=I.base.there b o e hx
  exact there b o' (neC b o e hx) e1
 ·obtain⟨m1,e1⟩:=I.base.tbls b ps e
  obtain⟨m2,e2⟩:=tbls b _ e1
  exact⟨m1++m2,by rw[e2,Array.append_assoc]⟩
 ·obtain⟨m,hn,hl⟩:=I.loc
  refine⟨m,ns m hn,fun i x v e1 e2 e3=>?_⟩
  obtain⟨u,r,l⟩:=hl i x v e1 e2 e3
  refine⟨u,r,?_⟩
  rcases l with l | ⟨k,c,e,z⟩
  ·exact .inl l
  ·exact .inr ⟨k,c,e,cellK x c e _ z⟩
 ·obtain⟨v,z⟩:=I.cell x c e
  exact⟨v,cellK x c e v z⟩
 ·obtain⟨m,⟨o,_,_,ho,_⟩,_⟩:=I.loc
  exact free _ o (fun z=>(hch _ z).2.1 rfl) ho I.free
 ·obtain⟨v,o,ho,hd⟩:=I.cell x c e
  exact free c o (fun z=>(hch c z).2.2.1 x c e rfl) ho (I.freeC x c e)
 ·obtain⟨e,n,ne,nf,d⟩:=I.pin p hp
  have nch:p.1∉ch:=fun z=>(hch p.1 z).2.2.2 p hp rfl
  exact⟨keep p.1 p.2 ne nf nch e n,free p.1 p.2 nch e n,ne,nf,d⟩
theorem Inv.un {t':Nat}(I:Inv X pins σ H s)(u:Un X.fs [] H H' s.heap h')(hok:HOk X.prog X.w H' h'):Inv X pins σ H' { s with heap:=h',toks:=t' }:=by
 obtain⟨m,⟨o,es,ep,ho,r⟩,_⟩:=id I.loc
 obtain⟨sl,hL⟩:=u.any ho I.free (by simp)
 exact I.step (g':=s.gens) (d':=s.drawn) (ch:=[]) (fun _ z=>nomatch z) (fun b o _ hb _ e n=>u.keep b o e n hb (by simp)) (fun b o _ hb _ e n=>u.slot b o e n hb (by simp)) (fun b o _ e n=>u.free b o e n (by simp)) (fun b o _ e=>u.there b o e (by simp)) u.tups u.frzs u.tbls (fun m' hm=>by
  obtain⟨o',es',ep',ho',r'⟩:=hm
  rw[ho] at ho';cases ho'
  exact⟨_,es',ep',hL,r'⟩) hok I.bare
theorem Inv.call {g':Array GenState}{t':Nat}{d':Drawn}{ch:List Addr}(I:Inv X pins σ H s)(u:Un (frs X.stack) ch H H' s.heap h')(hok:HOk X.prog X.w H' h')(hg:AllBare g')
  (hch:∀ b∈ch,(b∈X.ex∨X.s₀.heap.objs.size<=b)/\b≠X.env.locals/\(∀ x c,X.env.cells.lookup x=some c->c≠b)/\∀ p∈X.pn++pins,p.1≠b) :
  Inv X pins σ H' { s with heap:=h',gens:=g',drawn:=d',toks:=t' }:=by
 obtain⟨m,⟨o,es,ep,ho,r⟩,_⟩:=id I.loc
 obtain⟨sl,hL⟩:=u.any ho I.free fun z=>(hch _ z).2.1 rfl
 exact I.step (ch:=ch) hch (fun b o hL hb hc e n=>u.keep b o e n (fun z=>(p0_.mp (I.stkSub b z)).elim hL hb) hc) (fun b o _ _ hc e n=>u.any e n hc) (fun b o hc e n=>u.free b o e n hc) (fun b o hc e=>u.there b o e hc) u.tups u.frzs u.tbls (fun m' hm=>by
  obtain⟨o',es',ep',ho',r'⟩:=hm
  rw[ho] at ho';cases ho'
  exact⟨_,es',ep',hL,r'⟩) hok hg
theorem Inv.turned {t':Nat}{it:Addr}(I:Inv X pins σ H s)(k:∀ b o,b≠it->s.heap.get? b=some o->h'.get? b=some o)(hn:H it=none)(hL:it≠X.env.locals)
  (h1:it∈X.ex∨X.s₀.heap.objs.size<=it) (h2:∀ x c,X.env.cells.lookup x=some c->c≠it) (h3:∀ p∈X.pn++pins,p.1≠it):Inv X pins σ H { s with heap:=h',toks:=t' }:=by
 have nit:∀ b u,H b=some u->b≠it:=fun b u e z=>by rw[z,hn] at e;cases e
 refine I.step (g':=s.gens) (d':=s.drawn) (ch:=[it]) (fun b hb=>?_) (fun b o _ _ hc e _=>k b o (fun z=>hc (by simp[z])) e) (fun b o _ _ hc e _=>⟨o.slots,k b o (fun z=>hc (by simp[z])) e⟩) (fun _ _ _ _ n=>n)
  (fun b o hc e=>⟨o,k b o (fun z=>hc (by simp[z])) e⟩) (fun _ _ e=>e) (fun _ _ _ e=>e) (fun b ps e=>⟨#[],by rw[e];simp⟩) (fun m hm=>?_) (fun b u e=>?_) I.bare
 ·have e:b=it:=by simpa using hb
  subst e
  exact⟨h1,hL,h2,h3⟩
 ·obtain⟨o,es,ep,ho,r⟩:=hm
  exact⟨o,es,ep,k _ o (tq_ hL) ho,r⟩
 ·refine(I.hok b u e).stay (fun c v hc q=>k c v ?_ q) (fun _ q=>q) fun _ _ q=>q
  rcases hc with z | z
  ·rw[z];exact nit b u e
  ·exact nit c _ z
theorem Inv.tok (I:Inv X pins σ H s)(t:Nat):Inv X pins σ H { s with toks:=t }:=I.un (h':=s.heap) (t':=t) Un.refl I.hok
theorem Inv.kept {t':Nat}(I:Inv X pins σ H s)(k:∀ b u,s.heap.get? b=some u->h'.get? b=some u):Inv X pins σ H { s with heap:=h',toks:=t' }:=I.un (Un.kept k) (I.hok.kept k)
theorem Inv.laid {a:Addr}{o:HO}{t':Nat}(I:Inv X pins σ H s)(k:∀ b u,s.heap.get? b=some u->h'.get? b=some u)(hp:s.heap.objs.size<=a)(new:ObjOk X.prog X.w (upd H a o) h' a o) :
  Inv X pins σ (upd H a o) { s with heap:=h',toks:=t' }:=I.un (Un.laid k hp (I.hok.fresh hp)) (I.hok.laid k hp new)
theorem Inv.write {x e:Addr}{o:HO}{t':Nat}(I:Inv X pins σ H s)(mu:Mut (H x))(he:e=x∨H e=some (.own x))(k:∀ b u,b≠e->s.heap.get? b=some u->h'.get? b=some u)(heo:∃ u,h'.get? e=some u)
  (new:ObjOk X.prog X.w (upd H x o) h' x o):Inv X pins σ (upd H x o) { s with heap:=h',toks:=t' }:=I.un (Un.write mu he k heo) (I.hok.write mu he k heo new)
theorem Inv.pins_of {pins':List (Addr×Obj)}(I:Inv X pins σ H s)(h:∀ p∈pins',s.heap.get? p.1=some p.2/\H p.1=none/\p.1≠X.env.locals/\p.1∉X.fs/\∀ v,p.2.data≠.cell v):Inv X pins' σ H s :=
 ⟨I.ok,I.os,I.bare,I.base,I.loc,I.cell,I.free,I.freeC,fun p hp=>(pe_.mp hp).elim (fun z=>I.pin p (ki_ _ z)) (h p),I.hok,I.len⟩
theorem jgb_ {N:List Str}(hN:N.Nodup){i j:Nat}{x:Str}(a:N[i]?=some x)(b:N[j]?=some x):i=j:=by
 obtain⟨h1,e1⟩:=pq_.mp a
 obtain⟨h2,e2⟩:=pq_.mp b
 exact(List.getElem_inj hN).mp (e1.trans e2.symm)
theorem jds_ {M:Model}{A:Around}{E:Value->Shared->Prop}{i:Nat}{x:Str}{v:V}{u:Value}{Q:Unit->Shared->Prop}(I:Inv X pins σ H s)(hN:X.N.Nodup)(hi:X.N[i]?=some x)(hx:Loc X.env.scope x)(r:RelV v u)
  (h:∀ s',Inv X pins (σ.set i (some v)) H s'->(∃ a,qv_ a s.heap s'.heap/\(a=X.env.locals∨X.env.cells.lookup x=some a))->Q () s') (hf:X.fn x=true∨X.env.scope.names.lookup x=some .local:=by first | exact .inl rfl | exact .inr rfl | assumption):wpAny M A (storeName X.env x u) Q E s:=by
 obtain⟨m,hn,hl⟩:=id I.loc
 have hcls:(X.env.scope.kind == .class || (X.env.scope.kind == .module&&X.env.locals != X.env.globals))=false:=by rw[I.ok.kind];rfl
 have hiσ:i < σ.length:=by rw[I.len];exact(pq_.mp hi).1
 have cne:=I.cne
 have tracked:∀{a:Addr}{h':Heap},(∃ o,s.heap.get? a=some o/\H a=none)->qv_ a s.heap h'->HOk X.prog X.w H h':=fun{a h'} ha hs b ob e=>by
  obtain⟨_,_,hfree⟩:=ha
  refine(I.hok b ob e).stay (fun c w' hc q=>(hs.2 c ?_).trans q) (fun _ q=>q) fun _ _ q=>q
  rintro rfl
  rcases hc with rfl | hc
  ·rw[hfree] at e;cases e
  ·rw[hfree] at hc;cases hc
 rcases hx with hk | hk
 ·refine wpAny_storeName_local hk hn (fun h' hn' hs=>?_) hcls
  obtain⟨oL,_,_,hoL,_⟩:=id hn
  refine h _ ⟨I.ok,I.os,I.bare,⟨fun b o e n hb hx=>?_,fun b o e n hb hx=>?_,I.base.free,fun b o e hx=>?_,I.base.tups,I.base.frzs,I.base.tbls⟩,⟨_,hn',fun j y v' e1 e2 e3=>?_⟩,fun y c e=>?_,I.free,I.freeC,fun p hp=>?_,tracked ⟨oL,hoL,I.free⟩ hs,by simpa using I.len⟩ ⟨_,hs,.inl rfl⟩
  ·exact(hs.2 b (p6_ (qa_ (pt_ e) I.ok.above))).trans (I.base.keep b o e n hb hx)
  ·obtain⟨sl,e1⟩:=I.base.slot b o e n hb hx
   exact⟨sl,(hs.2 b (p6_ (qa_ (pt_ e) I.ok.above))).trans e1⟩
  ·obtain⟨o',e1⟩:=I.base.there b o e hx
   exact⟨o',(hs.2 b (p6_ (qa_ (pt_ e) I.ok.above))).trans e1⟩
  ·by_cases hj:j=i
   ·subst hj
    rw[hi] at e1;cases e1
    rw[ww_ hiσ] at e2
    cases e2
    exact⟨u,r,.inl ⟨hk,by simp⟩⟩
   ·rw[kj_ (tq_ hj)] at e2
    obtain⟨u',r',q⟩:=hl j y v' e1 e2 e3
    refine⟨u',r',?_⟩
    rcases q with ⟨k,e⟩ | ⟨k,c,e,z⟩
    ·refine .inl ⟨k,?_⟩
     have:y≠x:=fun e=>hj (jgb_ hN e1 (e▸hi))
     simp[this,e]
    ·exact .inr ⟨k,c,e,z.sameBut hs (cne y c e)⟩
  ·obtain⟨w',z⟩:=I.cell y c e
   exact⟨w',z.sameBut hs (cne y c e)⟩
  ·obtain⟨e,n,ne,nf,d⟩:=I.pin p hp
   exact⟨(hs.2 p.1 ne).trans e,n,ne,nf,d⟩
 ·have hfn:X.fn x=true:=by
   rcases hf with z | z
   ·exact z
   ·rw[z] at hk;cases hk
  obtain⟨c,hc⟩:=I.ok.has x (.inl hk)
  obtain⟨w',z⟩:=I.cell x c hc
  refine wpAny_storeName_cell I.ok.kind hk hc z (fun h' hc' hs=>?_)
  obtain⟨oc,hoc,hocd⟩:=id z
  refine h { s with heap:=h' } ⟨I.ok,I.os,I.bare,⟨fun b o e n hb hx=>?_,fun b o e n hb hx=>?_,I.base.free,fun b o e hx=>?_,I.base.tups,I.base.frzs,I.base.tbls⟩,⟨m,hn.sameBut hs (tq_ (cne x c hc)),fun j y v' e1 e2 e3=>?_⟩,fun y c' e=>?_,I.free,I.freeC,fun p hp=>?_,tracked ⟨oc,hoc,I.freeC x c hc⟩ hs,by simpa using I.len⟩ ⟨c,hs,.inr hc⟩
  ·exact(hs.2 b (p6_ (qa_ (pt_ e) (I.ok.cab x c hfn hc)))).trans (I.base.keep b o e n hb hx)
  ·obtain⟨sl,e1⟩:=I.base.slot b o e n hb hx
   exact⟨sl,(hs.2 b (p6_ (qa_ (pt_ e) (I.ok.cab x c hfn hc)))).trans e1⟩
  ·obtain⟨o',e1⟩:=I.base.there b o e hx
   exact⟨o',(hs.2 b (p6_ (qa_ (pt_ e) (I.ok.cab x c hfn hc)))).trans e1⟩
  ·by_cases hj:j=i
   ·subst hj
    rw[hi] at e1;cases e1
    rw[ww_ hiσ] at e2
    cases e2
    exact⟨u,r,.inr ⟨.inl hk,c,hc,hc'⟩⟩
   ·rw[kj_ (tq_ hj)] at e2
    obtain⟨u',r',q⟩:=hl j y v' e1 e2 e3
    refine⟨u',r',?_⟩
    rcases q with q | ⟨k,c',e,z'⟩
    ·exact .inl q
    ·refine .inr ⟨k,c',e,z'.sameBut hs ?_⟩
     rintro rfl
     exact hj (jgb_ hN e1 (I.ok.inj _ _ _ e hc▸hi))
  ·by_cases hcc:c'=c
   ·subst hcc;exact⟨_,hc'⟩
   ·obtain⟨w2,z2⟩:=I.cell y c' e
    exact⟨w2,z2.sameBut hs hcc⟩
  ·obtain⟨e,n,ne,nf,d⟩:=I.pin p hp
   refine⟨(hs.2 p.1 ?_).trans e,n,ne,nf,d⟩
   intro q
   rw[q,hoc] at e
   have q':oc=p.2:=Option.some.inj e
   exact d w' (by rw[<- q'];exact hocd)
theorem um_ {M:Model}{A:Around}{E:Value->Shared->Prop}{i:Nat}{x:Str}{v:V}{u:Value}{Q:Unit->Shared->Prop}(I:Inv X pins σ H s)(hN:X.N.Nodup)(hi:X.N[i]?=some x)(hx:Loc X.env.scope x)(r:RelV v u)
  (h:∀ s',Inv X pins (σ.set i (some v)) H s'->Q () s') (hf:X.fn x=true∨X.env.scope.names.lookup x=some .local:=by first | exact .inl rfl | exact .inr rfl | assumption):wpAny M A (storeName X.env x u) Q E s :=
 jds_ I hN hi hx r (fun s' I' _=>h s' I') hf
theorem Inv.call' {s':Shared}{ch:List Addr}(I:Inv X pins σ H s)(ho:s'.os=s.os)(u:Un (frs X.stack) ch H H' s.heap s'.heap)(hok:HOk X.prog X.w H' s'.heap)(hg:AllBare s'.gens)
  (hch:∀ b∈ch,(b∈X.ex∨X.s₀.heap.objs.size<=b)/\b≠X.env.locals/\(∀ x c,X.env.cells.lookup x=some c->c≠b)/\∀ p∈X.pn++pins,p.1≠b):Inv X pins σ H' s':=by
 obtain⟨h',g',d',t',o'⟩:=s'
 have e:o'=s.os:=ho
 subst e
 exact I.call (g':=g') (t':=t') (d':=d') u hok hg hch
end
abbrev XK:=Value->Option Addr->Hp->Prop
noncomputable abbrev St:=List (Option V)
abbrev VK:=V->Hp->Prop
abbrev TE:=St->Hp->VK->Prop
abbrev TT:=St->Hp->(Bool->Hp->Prop)->Prop
abbrev TA:=St->Hp->(List V->Hp->Prop)->Prop
structure Ends where
 nx:St->Hp->Prop
 rt:VK
 bk:St->Hp->Prop:=fun _ _=>False
 ct:St->Hp->Prop:=fun _ _=>False
abbrev TS:=Ends->St->Hp->Prop
def EP (X:Cx)(pins:List (Addr×Obj))(σ:St)(Q:VK)(u:Value)(s':Shared):Prop:=∃ v H',Inv X pins σ H' s'/\RelV v u/\Q v H'
def TP (X:Cx)(pins:List (Addr×Obj))(σ:St)(Q:Bool->Hp->Prop)(b:Bool)(s':Shared):Prop:=∃ H',Inv X pins σ H' s'/\Q b H'
def AP (X:Cx)(pins:List (Addr×Obj))(σ:St)(Q:List V->Hp->Prop)(us:List Value)(s':Shared):Prop:=∃ vs H',Inv X pins σ H' s'/\Vals vs us/\Q vs H'
noncomputable def SP (X:Cx)(pins:List (Addr×Obj))(D:Ends)(f:Flow)(s':Shared):Prop :=
 match f with
 | .next=>∃ σ' H',Inv X pins σ' H' s'/\D.nx σ' H'
 | .brk=>∃ σ' H',Inv X pins σ' H' s'/\D.bk σ' H'
 | .cont=>∃ σ' H',Inv X pins σ' H' s'/\D.ct σ' H'
 | .ret u=>∃ v σ' H',Inv X pins σ' H' s'/\RelV v u/\D.rt v H'
noncomputable def PE (X:Cx)(e:Expr)(t:TE):Prop :=
 ∀(pins:List (Addr×Obj)) (s:Shared) (σ:St) (H:Hp) (Q:VK),Inv X pins σ H s->t σ H Q->wpAny (model X.prog X.w) X.A (eval e X.env) (EP X pins σ Q) X.xe s
noncomputable def PT (X:Cx)(e:Expr)(t:TT):Prop :=
 ∀(pins:List (Addr×Obj)) (s:Shared) (σ:St) (H:Hp) (Q:Bool->Hp->Prop),Inv X pins σ H s->t σ H Q->wpAny (model X.prog X.w) X.A (isTrue e X.env (eval e X.env)) (TP X pins σ Q) X.xe s
noncomputable def PW (X:Cx)(e:Expr)(t:TT):Prop :=
 ∀(whole:Sem Value) (pins:List (Addr×Obj)) (s:Shared) (σ:St) (H:Hp) (Q:Bool->Hp->Prop),Inv X pins σ H s->t σ H Q->wpAny (model X.prog X.w) X.A (isTrue e X.env whole) (TP X pins σ Q) X.xe s
theorem PW.pt {X:Cx}{e:Expr}{t:TT}(h:PW X e t):PT X e t:=h _
noncomputable def PA (X:Cx)(es:List Expr)(t:TA):Prop :=
 ∀(pos:Pos) (pins:List (Addr×Obj)) (s:Shared) (σ:St) (H:Hp) (Q:List V->Hp->Prop),Inv X pins σ H s->t σ H Q->wpAny (model X.prog X.w) X.A (spliced (backTo pos (starEach es X.env))) (AP X pins σ Q) X.xe s
noncomputable def PS (X:Cx)(st:Stmt)(t:TS):Prop :=
 ∀(pins:List (Addr×Obj)) (s:Shared) (σ:St) (H:Hp) (D:Ends),Inv X pins σ H s->t D σ H->wpAny (model X.prog X.w) X.A (exec st X.env) (SP X pins D) X.xe s
noncomputable def PSs (X:Cx)(st:List Stmt)(t:TS):Prop :=
 ∀(pins:List (Addr×Obj)) (s:Shared) (σ:St) (H:Hp) (D:Ends),Inv X pins σ H s->t D σ H->wpAny (model X.prog X.w) X.A (execs st X.env) (SP X pins D) X.xe s
theorem thn {α:Type}{t:Sem α}{Q Q':α->Shared->Prop}{M:Model}{A:Around}{E:Value->Shared->Prop}{s:Shared}(h:wpAny M A t Q E s)(hQ:∀ a s,Q a s->Q' a s):wpAny M A t Q' E s:=wpAny_mono h hQ fun _ _ x=>x
end L2
namespace L2
open PySem PySem.Spec PyProof.Rows
section
variable {X:Cx}
theorem bin {a b:Expr}{ta tb:TE}(ha:PE X a ta)(hb:PE X b tb){pins:List (Addr×Obj)}{s:Shared}{σ:St}{H:Hp}{R:V->V->Hp->Prop}(I:Inv X pins σ H s)(h:ta σ H fun x H1=>tb σ H1 fun y H2=>R x y H2)
  {α:Type}{Q:α->Shared->Prop}{f:Value->Value->Sem α}
  (hf:∀ v u s2 x y H2,Inv X pins σ H2 s2->RelV x v->RelV y u->R x y H2->wpAny (model X.prog X.w) X.A (f v u) Q X.xe s2) :
  wpAny (model X.prog X.w) X.A (eval a X.env) (fun v s₁=>wpAny (model X.prog X.w) X.A (eval b X.env) (fun u s₂=>wpAny (model X.prog X.w) X.A (f v u) Q X.xe s₂) X.xe s₁) X.xe s:=by
 refine thn (ha pins s σ H _ I h) fun v s1 ⟨x,H1,I1,r1,q1⟩=>?_
 refine thn (hb pins s1 σ H1 _ I1 q1) fun u s2 ⟨y,H2,I2,r2,q2⟩=>?_
 exact hf v u s2 x y H2 I2 r1 r2 q2
def tVar (i:Nat):TE:=fun σ H Q=>∃ v,σ[i]?=some (some v)/\Q v H
def tC (v:V):TE:=fun _ H Q=>Q v H
theorem jxb_ {i:Nat}{x:Str}{pos:Pos}(hN:X.N[i]?=some x)(hv:Vis X.env.scope x)(hd:(x == ("__debug__":Str))=false:=by decide)(hcd:(x == ("__classdict__":Str))=false:=by decide):PE X (.Name x pos) (tVar i):=by
 intro pins s σ H Q I h
 obtain⟨v,e,h⟩:=h
 obtain⟨m,hn,hl⟩:=I.loc
 obtain⟨u,r,l⟩:=hl i x v hN e hv
 have fin:EP X pins σ Q u s:=⟨v,H,I,r,h⟩
 rcases l with ⟨hk,hm⟩ | ⟨hk,c,hc,hcell⟩
 ·exact wpAny_Name (wpAny_loadName_local I.ok.kind hk hn hm fin) hd
 ·rcases hk with hk | hk
  ·exact wpAny_Name (wpAny_loadName_cell I.ok.kind hk hc hcell fin) hd
  ·exact wpAny_Name (wpAny_loadName_free I.ok.kind hk hc hcell fin hcd) hd
theorem jd_ {i j pos}:PE X (.Constant (.int i) j pos) (tC (.int i)):=fun _ _ _ H _ I h=>wpAny_Constant_int ⟨.int i,H,I.tok _,⟨_,rfl⟩,h⟩
theorem xm_ {b j pos}:PE X (.Constant (.bool b) j pos) (tC (.bl b)):=fun _ _ _ H _ I h=>Constant_bool ⟨.bl b,H,I,rfl,h⟩
theorem yz_ {j pos}:PE X (.Constant .none j pos) (tC .non):=fun _ _ _ H _ I h=>Constant_none ⟨.non,H,I,rfl,h⟩
theorem zh_ {x j pos}:PE X (.Constant (.str x) j pos) (tC (.str x)):=fun _ _ _ H _ I h=>Calls.Constant_str ⟨.str x,H,I.tok _,⟨_,rfl⟩,h⟩
def Gl (X:Cx)(x:Str):Prop:=X.env.kindOf x=some .globalImplicit
theorem jfj_ {E:Value->Shared->Prop}{pins:List (Addr×Obj)}{s:Shared}{σ:St}{H:Hp}{x:Str}{u:Value}{pos:Pos}{Q:Value->Shared->Prop}(I:Inv X pins σ H s)(hg:Gl X x)(hm:X.mg x=some u)(h:Q u s)
  (hd:(x == ("__debug__":Str))=false:=by decide):wpAny (model X.prog X.w) X.A (eval (.Name x pos) X.env) Q E s :=
 tz_ I.ok.kind hg (Calls.loadGlobal_global (by rw[I.ok.glob];exact I.mod.glob.keeps I.bk) hm h) hd
theorem x1_ {E:Value->Shared->Prop}{pins:List (Addr×Obj)}{s:Shared}{σ:St}{H:Hp}{x:Str}{u:Value}{pos:Pos}{Q:Value->Shared->Prop}(I:Inv X pins σ H s)(hg:Gl X x)(hm:X.mg x=none)(hv:bootBuiltins x=some u)(h:Q u s)
  (hn:x≠"__name__":=by decide) (hd:(x == ("__debug__":Str))=false:=by decide):wpAny (model X.prog X.w) X.A (eval (.Name x pos) X.env) Q E s:=by
 obtain⟨mb,h1,h2⟩:=I.mod.blt
 exact tz_ I.ok.kind hg (Calls.loadGlobal_builtin (by rw[I.ok.glob];exact I.mod.glob.keeps I.bk) hm (by rw[I.ok.blt];exact h1.keeps I.bk) ((h2 x hn).trans hv) h) hd
theorem jkx_ {x:Str}{v:V}{u:Value}{pos:Pos}(hg:Gl X x)(hm:X.mg x=some u)(r:RelV v u)(hd:(x == ("__debug__":Str))=false:=by decide):PE X (.Name x pos) (tC v) :=
 fun _ _ _ H _ I h=>jfj_ I hg hm ⟨v,H,I,r,h⟩ hd
theorem jlh_ {x:Str}{v:V}{u:Value}{pos:Pos}(hg:Gl X x)(hm:X.mg x=none)(hv:bootBuiltins x=some u)(r:RelV v u)(hn:x≠"__name__":=by decide)(hd:(x == ("__debug__":Str))=false:=by decide):PE X (.Name x pos) (tC v) :=
 fun _ _ _ H _ I h=>x1_ I hg hm hv ⟨v,H,I,r,h⟩ hn hd
variable {a b:Expr}{ta tb:TE}{pos:Pos}
noncomputable def PC (X:Cx)(op:CmpOp)(a b:Expr)(t:TE):Prop :=
 ∀(pins:List (Addr×Obj)) (s:Shared) (σ:St) (H:Hp) (Q:VK),Inv X pins σ H s->t σ H Q ->
  wpAny (model X.prog X.w) X.A (eval a X.env) (fun v s₁=>wpAny (model X.prog X.w) X.A (eval b X.env) (fun u s₂=>wpAny (model X.prog X.w) X.A (compareOp op v u) (EP X pins σ Q) X.xe s₂) X.xe s₁) X.xe s
def tB (t:TE):TT:=fun σ H Q=>t σ H fun x H1=>∃ c,x=.bl c/\Q c H1
theorem jbm_ {op:CmpOp}{t:TE}(h:PC X op a b t)(h1:behindInMarks op b=false:=by first | exact nobehind _ (by decide) (by decide) | rfl):PT X (.Compare a [op] [b] pos) (tB t):=by
 intro pins s σ H Q I hw
 refine wpAny_isTrue_Compare1 (thn (h pins s σ H _ I hw) fun v s1 h1=>thn h1 fun u s2 h2=>thn h2 fun c s3 ⟨x,H1,I1,r1,q1⟩=>?_) h1
 obtain⟨d,rfl,q⟩:=q1
 cases r1
 exact wpAny_truthy_bool ⟨H1,I1,q⟩
variable {tA tB':TT}{rest:List Expr}
def tAnd (t u:TT):TT:=fun σ H Q=>t σ H fun c H1=>if c=true then u σ H1 Q else Q false H1
def tOr (t u:TT):TT:=fun σ H Q=>t σ H fun c H1=>if c=true then Q true H1 else u σ H1 Q
def tNot (t:TT):TT:=fun σ H Q=>t σ H fun c H1=>Q (!c) H1
theorem jdz_ (ha:PT X a tA):PW X (.BoolOp .And [a] pos) tA:=by
 intro wh pins s σ H Q I h
 refine isTrue_and (thn (ha pins s σ H Q I h) fun c s1 e=>?_)
 cases c with
 | true=>exact isTrue_and_nil e
 | false=>exact e
theorem jau_ (ha:PT X a tA):PW X (.BoolOp .Or [a] pos) tA:=by
 intro wh pins s σ H Q I h
 refine isTrue_or (thn (ha pins s σ H Q I h) fun c s1 e=>?_)
 cases c with
 | false=>exact isTrue_or_nil e
 | true=>exact e
theorem jic_ (ha:PT X a tA)(hb:PW X (.BoolOp .And (b::rest) pos) tB'):PW X (.BoolOp .And (a::b::rest) pos) (tAnd tA tB'):=by
 intro wh pins s σ H Q I h
 refine isTrue_and (thn (ha pins s σ H _ I h) fun c s1 ⟨H1,I1,q1⟩=>?_)
 cases c with
 | true=>exact hb wh pins s1 σ H1 Q I1 q1
 | false=>exact⟨H1,I1,q1⟩
theorem jcw_ (ha:PT X a tA)(hb:PW X (.BoolOp .Or (b::rest) pos) tB'):PW X (.BoolOp .Or (a::b::rest) pos) (tOr tA tB'):=by
 intro wh pins s σ H Q I h
 refine isTrue_or (thn (ha pins s σ H _ I h) fun c s1 ⟨H1,I1,q1⟩=>?_)
 cases c with
 | true=>exact⟨H1,I1,q1⟩
 | false=>exact hb wh pins s1 σ H1 Q I1 q1
theorem jjf_ (ha:PT X a tA):PT X (.UnaryOp .Not a pos) (tNot tA):=by
 intro pins s σ H Q I h
 exact isTrue_not (ha pins s σ H (fun c H1=>Q (!c) H1) I h)
def tIf (t:TT)(ta tb:TE):TE:=fun σ H Q=>t σ H fun c H1=>if c=true then ta σ H1 Q else tb σ H1 Q
theorem jqj_ {c:Expr}(hc:PT X c tA)(ha:PE X a ta)(hb:PE X b tb):PE X (.IfExp c a b pos) (tIf tA ta tb):=by
 intro pins s σ H Q I h
 refine wpAny_IfExp (thn (hc pins s σ H _ I h) fun d s1 ⟨H1,I1,q1⟩=>?_)
 cases d with
 | true=>exact ha pins s1 σ H1 Q I1 q1
 | false=>exact hb pins s1 σ H1 Q I1 q1
end
end L2
namespace L2
open PySem PySem.Spec PyProof.Rows
noncomputable def SqL (K:pc_)(H:Hp)(a:Addr)(xs:List V):Prop :=
 Rd H a (.lst xs) ∨
  ∃(o:Obj) (its:Array Value) (n:Nat),K.lookup a=some o/\o.cls=.type "list"/\o.dict=none/\o.data=.seq its n/\its.size<=sizeLine/\Vals xs its.toList
noncomputable def SqT (K:pc_)(H:Hp)(a:Addr)(xs:List V):Prop :=
 Rd H a (.tup xs) ∨
  ∃(o:Obj) (its:Array Value) (n:Nat),K.lookup a=some o/\o.cls=.type "tuple"/\o.data=.seq its n/\its.size<=sizeLine/\Vals xs its.toList
noncomputable def absV:Value->Option V
 | .none=>some .non
 | .bool b=>some (.bl b)
 | .int i _=>some (.int i)
 | .str x _=>some (.str x)
 | .bytes b _=>some (.byt b)
 | .float b _=>some (.flt b)
 | .ref a=>some (.ref a)
 | .type n=>some (.ty n)
 | _=>none
theorem RelV.abs {x:V}{u:Value}(r:RelV x u):absV u=some x:=by
 cases x with
 | non=>cases r;rfl
 | bl _=>cases r;rfl
 | int _=>obtain⟨t,rfl⟩:=r;rfl
 | str _=>obtain⟨t,rfl⟩:=r;rfl
 | byt _=>obtain⟨t,rfl⟩:=r;rfl
 | flt _=>obtain⟨t,rfl⟩:=r;rfl
 | ref _=>cases r;rfl
 | ty _=>cases r;rfl
theorem RelV.inj {x y:V}{u:Value}(r:RelV x u)(q:RelV y u):x=y:=Option.some.inj (r.abs.symm.trans q.abs)
theorem Vals.inj:∀{xs ys:List V}{us:List Value},Vals xs us->Vals ys us->xs=ys
 | _,_,_,.nil,.nil=>rfl
 | _,_,_,.cons r t,.cons r' t'=>by rw[r.inj r',Vals.inj t t']
section
variable {X:Cx}{pins:List (Addr×Obj)}{σ:St}{H:Hp}{s:Shared}{a:Addr}{xs ys:List V}
theorem SqL.of {K:pc_}(h:H a=some (.lst xs)):SqL K H a xs:=.inl (.inl h)
theorem SqT.of {K:pc_}(h:H a=some (.tup xs)):SqT K H a xs:=.inl (.inl h)
theorem Inv.list (I:Inv X pins σ H s)(h:SqL X.K H a xs):∃ its:List Value,Vals xs its/\PlainL s.heap a its.toArray/\xs.length<=sizeLine:=by
 rcases h with h | ⟨o,its,n,hk,hc,hd,hs,hz,r⟩
 ·obtain⟨z,its,n,r,e⟩:=h.ok I.hok
  exact⟨its,r,⟨_,n,e,rfl,rfl,rfl⟩,z⟩
 ·refine⟨its.toList,r,⟨o,n,I.kIn a o hk,hc,hd,by simpa using hs⟩,?_⟩
  have e:=r.length
  simp only[sv_] at e
  omega
theorem Inv.tuple (I:Inv X pins σ H s)(h:SqT X.K H a xs):∃ its:List Value,Vals xs its/\IsTup s.heap a its.toArray/\xs.length<=sizeLine:=by
 rcases h with h | ⟨o,its,n,hk,hc,hs,hz,r⟩
 ·obtain⟨z,its,r,p⟩:=h.ok I.hok
  exact⟨its,r,p.1,z⟩
 ·refine⟨its.toList,r,⟨o,I.kIn a o hk,hc,n,by simpa using hs⟩,?_⟩
  have e:=r.length
  simp only[sv_] at e
  omega
theorem Inv.list_inj (I:Inv X pins σ H s)(h:SqL X.K H a xs)(h':SqL X.K H a ys):xs=ys:=by
 obtain⟨its,r,⟨o,n,e,_,_,d⟩,_⟩:=I.list h
 obtain⟨its',r',⟨o',n',e',_,_,d'⟩,_⟩:=I.list h'
 rw[e] at e';cases e'
 rw[d] at d'
 injection d' with d1 _
 have:its=its':=by simpa using congrArg Array.toList d1
 subst this
 exact r.inj r'
theorem Inv.tuple_inj (I:Inv X pins σ H s)(h:SqT X.K H a xs)(h':SqT X.K H a ys):xs=ys:=by
 obtain⟨its,r,⟨o,e,_,n,d⟩,_⟩:=I.tuple h
 obtain⟨its',r',⟨o',e',_,n',d'⟩,_⟩:=I.tuple h'
 rw[e] at e';cases e'
 rw[d] at d'
 injection d' with d1 _
 have:its=its':=by simpa using congrArg Array.toList d1
 subst this
 exact r.inj r'
end
noncomputable abbrev Cx.wish (X:Cx)(E:Value->Shared->Prop):Cx:={ X with xe:=E }
noncomputable abbrev Cx.nox (X:Cx):Cx:=X.wish fun _ _=>False
theorem Cx.Ok.wish {X:Cx}(ok:X.Ok)(E:Value->Shared->Prop):(X.wish E).Ok :=
 ⟨ok.mod,ok.kind,ok.glob,ok.blt,ok.above,ok.inj,ok.has,ok.cab,ok.hd,ok.frames,ok.stk,ok.exf,ok.bs,ok.bsz,ok.noex,ok.exfs,ok.funs,ok.frf⟩
theorem Cx.Ok.unwish {X:Cx}{E:Value->Shared->Prop}(ok:(X.wish E).Ok):X.Ok :=
 ⟨ok.mod,ok.kind,ok.glob,ok.blt,ok.above,ok.inj,ok.has,ok.cab,ok.hd,ok.frames,ok.stk,ok.exf,ok.bs,ok.bsz,ok.noex,ok.exfs,ok.funs,ok.frf⟩
section
variable {X:Cx}{pins:List (Addr×Obj)}{σ:St}{H:Hp}{s:Shared}{E:Value->Shared->Prop}
theorem Inv.wish (I:Inv X pins σ H s)(E:Value->Shared->Prop):Inv (X.wish E) pins σ H s:=⟨I.ok.wish E,I.os,I.bare,I.base,I.loc,I.cell,I.free,I.freeC,I.pin,I.hok,I.len⟩
theorem Inv.unwish (I:Inv (X.wish E) pins σ H s):Inv X pins σ H s:=⟨I.ok.unwish,I.os,I.bare,I.base,I.loc,I.cell,I.free,I.freeC,I.pin,I.hok,I.len⟩
theorem SP.unwish {D:Ends}{f:Flow}{s':Shared}(h:SP (X.wish E) pins D f s'):SP X pins D f s':=by
 cases f with
 | next=>obtain⟨σ',H',I,q⟩:=h;exact⟨σ',H',I.unwish,q⟩
 | brk=>obtain⟨σ',H',I,q⟩:=h;exact⟨σ',H',I.unwish,q⟩
 | cont=>obtain⟨σ',H',I,q⟩:=h;exact⟨σ',H',I.unwish,q⟩
 | ret u=>obtain⟨v,σ',H',I,r,q⟩:=h;exact⟨v,σ',H',I.unwish,r,q⟩
theorem PSs.nox {st:List Stmt}{t:TS}(h:PSs X.nox st t):PSs X st t:=fun pins s σ H D I hw =>
 wpAny_mono (h pins s σ H D (I.wish _) hw) (fun _ _ q=>q.unwish) fun _ _ z=>ru_ z
end
section
variable {X:Cx}{st:Stmt}{rest:List Stmt}{t u:TS}{e:Expr}{te:TE}{pos:Pos}
def jqv_:TS:=fun D σ H=>D.nx σ H
def tSeq (t u:TS):TS:=fun D σ H=>t { D with nx:=u D } σ H
theorem j5_:PSs X [] jqv_:=fun _ _ σ H _ I h=>wpAny_execs_nil ⟨σ,H,I,h⟩
theorem jf_ (h1:PS X st t)(h2:PSs X rest u):PSs X (st::rest) (tSeq t u):=by
 intro pins s σ H D I h
 refine wpAny_execs_cons (thn (h1 pins s σ H { D with nx:=u D } I h) fun f s1 q=>?_)
 cases f with
 | next =>
  obtain⟨σ',H',I',q⟩:=q
  exact h2 pins s1 σ' H' D I' q
 | ret v=>exact q
 | brk=>exact q
 | cont=>exact q
theorem jg_ (h1:PS X st t):PSs X [st] t:=by
 intro pins s σ H D I h
 refine wpAny_execs_cons (thn (h1 pins s σ H D I h) fun f s1 q=>?_)
 cases f with
 | next=>exact wpAny_execs_nil q
 | ret v=>exact q
 | brk=>exact q
 | cont=>exact q
theorem Inv.quiet {pins:List (Addr×Obj)}{σ:St}{H:Hp}{s:Shared}(I:Inv X pins σ H s):interactive X.env=false:=by simp[interactive,I.ok.kind]
def juz_ (te:TE):TS:=fun D σ H=>te σ H fun _ H1=>D.nx σ H1
theorem ys_ (he:PE X e te)(hs:swapsWith e none pos.line X.env=pure false:=by rfl):PS X (.Expr e pos) (juz_ te):=by
 intro pins s σ H D I h
 exact wpAny_Expr_any (thn (he pins s σ H _ I h) fun v s1 ⟨x,H1,I1,r1,q1⟩=>⟨σ,H1,I1,q1⟩) I.quiet hs
def tRet (te:TE):TS:=fun D σ H=>te σ H D.rt
theorem jt_ (he:PE X e te):PS X (.Return (some e) pos) (tRet te):=by
 intro pins s σ H D I h
 exact wpAny_Return_some (thn (he pins s σ H _ I h) fun v s1 ⟨x,H1,I1,r1,q1⟩=>⟨x,σ,H1,I1,r1,q1⟩)
def tIfS (c:TT)(t u:TS):TS:=fun D σ H=>c σ H fun b H1=>if b=true then t D σ H1 else u D σ H1
theorem zr_ {c:Expr}{a b:List Stmt}{tc:TT}(hc:PT X c tc)(ha:PSs X a t)(hb:PSs X b u):PS X (.If c a b pos) (tIfS tc t u):=by
 intro pins s σ H D I h
 refine wpAny_If (thn (hc pins s σ H _ I h) fun d s1 ⟨H1,I1,q1⟩=>?_)
 cases d with
 | true=>exact ha pins s1 σ H1 D I1 q1
 | false=>exact hb pins s1 σ H1 D I1 q1
end
abbrev TG:=V->St->Hp->(St->Hp->Prop)->Prop
abbrev TGs:=List V->St->Hp->(St->Hp->Prop)->Prop
noncomputable def PG (X:Cx)(target:Expr)(t:TG):Prop :=
 ∀(pins:List (Addr×Obj)) (s:Shared) (σ:St) (H:Hp) (v:V) (u:Value) (Q:St->Hp->Prop),Inv X pins σ H s->RelV v u->t v σ H Q ->
  wpAny (model X.prog X.w) X.A (assign target X.env u) (fun _ s'=>∃ σ' H',Inv X pins σ' H' s'/\Q σ' H') X.xe s
noncomputable def PGs (X:Cx)(ts:List Expr)(t:TGs):Prop :=
 ∀(pins:List (Addr×Obj)) (s:Shared) (σ:St) (H:Hp) (vs:List V) (us:List Value) (Q:St->Hp->Prop),Inv X pins σ H s->Vals vs us->t vs σ H Q ->
  wpAny (model X.prog X.w) X.A (assignInOrder ((assignEach ts X.env).map (·.2)) us) (fun _ s'=>∃ σ' H',Inv X pins σ' H' s'/\Q σ' H') X.xe s
abbrev TSet:=V->V->V->Hp->(Hp->Prop)->Prop
noncomputable def PSet (X:Cx)(t:TSet):Prop :=
 ∀(pins:List (Addr×Obj)) (s:Shared) (σ:St) (H:Hp) (o i v:V) (ov iv u:Value) (Q:Hp->Prop),Inv X pins σ H s->RelV o ov->RelV i iv->RelV v u->t o i v H Q ->
  wpAny (model X.prog X.w) X.A (setItem ov iv u) (fun _ s'=>∃ H',Inv X pins σ H' s'/\Q H') X.xe s
section
variable {X:Cx}{pos:Pos}
def jbe_ (i:Nat):TG:=fun v σ H Q=>Q (σ.set i (some v)) H
theorem jn_ {i:Nat}{x:Str}(hN:X.N.Nodup)(hi:X.N[i]?=some x)(hx:Loc X.env.scope x)(hf:X.fn x=true∨X.env.scope.names.lookup x=some .local:=by first | exact .inl rfl | exact .inr rfl | assumption):PG X (.Name x pos) (jbe_ i):=by
 intro pins s σ H v u Q I r h
 exact wpAny_assign_Name (um_ I hN hi hx r (fun s' I'=>⟨_,H,I',h⟩) hf)
def gNil:TGs:=fun vs σ H Q=>vs=[]/\Q σ H
def jui_ (t:TG)(u:TGs):TGs:=fun vs σ H Q=>∃ v r,vs=v::r/\t v σ H fun σ' H'=>u r σ' H' Q
theorem ue_:PGs X [] gNil:=by
 intro pins s σ H vs us Q I r h
 obtain⟨e,h⟩:=h
 subst e
 cases r
 exact assignInOrder_nil ⟨σ,H,I,h⟩
theorem z8_ {e:Expr}{es:List Expr}{t:TG}{u:TGs}(h1:PG X e t)(h2:PGs X es u)
  (hs:(assignEach (e::es) X.env).map (·.2)=assign e X.env::(assignEach es X.env).map (·.2):=by rfl):PGs X (e::es) (jui_ t u):=by
 intro pins s σ H vs us Q I r h
 obtain⟨v,vr,e1,h⟩:=h
 subst e1
 cases r with
 | cons r rr =>
  rw[hs]
  refine assignInOrder_cons (thn (h1 pins s σ H _ _ _ I r h) fun _ s1 ⟨σ1,H1,I1,q1⟩=>?_)
  exact h2 pins s1 σ1 H1 _ _ Q I1 rr q1
noncomputable def PrX (a:Addr)(xs:List V):HO:=.ext fun h=>xs.length<=sizeLine/\∃ its:List Value,Vals xs its/\IsTup h a its.toArray
def gTup (K:pc_)(n:Nat)(t:TGs):TG:=fun v σ H Q=>∃ a xs,v=.ref a/\(SqT K H a xs∨H a=some (PrX a xs))/\xs.length=n/\t xs σ H Q
theorem jax_ {es:List Expr}{k:Nat}{t:TGs}{n:Nat}(hc:X.calm=true)(h:PGs X es t)
  (hn:(assignEach es X.env).length=n:=by rfl) (hst:(assignEach es X.env).findIdx? (·.1)=none:=by rfl):PG X (.Tuple es k pos) (gTup X.K n t):=by
 intro pins s σ H v u Q I r hw
 obtain⟨a,xs,e1,hq,hl,hw⟩:=hw
 subst e1
 cases r
 obtain⟨its,rv,ht,hz⟩:∃ its:List Value,Vals xs its/\IsTup s.heap a its.toArray/\xs.length<=sizeLine:=hq.elim (fun q=>I.tuple q) fun q=>by
  obtain⟨⟨z,its,r,p⟩,_⟩:=(show ObjOk X.prog X.w H s.heap a (PrX a xs) from I.hok a _ q)
  exact⟨its,r,p,z⟩
 refine assign_Tuple_tuple (I.ok.hd hc) ht (by simp[hn,<- hl,rv.length]) hst fun h' hx=>?_
 have I1:Inv X pins σ H { s with heap:=h' }:=I.kept (t':=s.toks) fun b o e=>hx b o (p6_ (pt_ e)) e
 exact h pins _ σ H xs _ Q I1 (by simpa using rv) hw
def gSub (to ti:TE)(t:TSet):TG:=fun v σ H Q=>to σ H fun o H1=>ti σ H1 fun i H2=>t o i v H2 fun H3=>Q σ H3
theorem jbs_ {o i:Expr}{to ti:TE}{t:TSet}(ho:PE X o to)(hi:PE X i ti)(hs:PSet X t)
  (ha:∀ v,assign (.Subscript o i pos) X.env v=(do
   let ov <- holding [v] (eval o X.env)
   let iv <- holding [v,ov] (eval i X.env)
   standAt pos
   holding [v,ov,iv] (setItem ov iv v)
   release [v,ov,iv] []):=by intro _;rfl):PG X (.Subscript o i pos) (gSub to ti t):=by
 intro pins s σ H v u Q I r h
 rw[ha]
 refine wpAny_bind (wpAny_holding (thn (ho pins s σ H _ I h) fun ov s1 ⟨x,H1,I1,r1,q1⟩=>?_))
 refine wpAny_bind (wpAny_holding (thn (hi pins s1 σ H1 _ I1 q1) fun iv s2 ⟨y,H2,I2,r2,q2⟩=>?_))
 refine wpAny_bind (wpAny_standAt (wpAny_bind (wpAny_holding (thn (hs pins s2 σ H2 x y v ov iv u _ I2 r1 r2 r q2) fun _ s3 ⟨H3,I3,q3⟩=>?_))))
 exact wpAny_release ⟨σ,H3,I3,q3⟩
def tAsg (te:TE)(g:TG):TS:=fun D σ H=>te σ H fun x H1=>g x σ H1 D.nx
theorem u1_ {tg e:Expr}{te:TE}{g:TG}(he:PE X e te)(hg:PG X tg g)(hs:swapsWithSole [tg] e pos.line X.env=pure false:=by rfl)(hw:swappedStores [tg] e X.env=pure none:=by rfl)
  (h1:(assignEach [tg] X.env).map (·.2)=[assign tg X.env]:=by rfl):PS X (.Assign [tg] e pos) (tAsg te g):=by
 intro pins s σ H D I h
 refine wpAny_Assign_stores (thn (he pins s σ H _ I h) fun v s1 ⟨x,H1,I1,r1,q1⟩=>?_) hs hw
 rw[h1]
 exact thn (hg pins s1 σ H1 x v _ I1 r1 q1) fun _ s2 q=>q
theorem jl_ {i:Nat}{x:Str}{e:Expr}{te:TE}{pos':Pos}(hN:X.N.Nodup)(hi:X.N[i]?=some x)(hx:Loc X.env.scope x)(he:PE X e te)(hs:swapsWith e (some (.Name x pos')) pos.line X.env=pure false:=by rfl)(hf:X.fn x=true∨X.env.scope.names.lookup x=some .local:=by first | exact .inl rfl | exact .inr rfl | assumption) :
  PS X (.Assign [.Name x pos'] e pos) (tAsg te (jbe_ i)):=by
 intro pins s σ H D I h
 refine wpAny_Assign_Name (thn (he pins s σ H _ I h) fun v s1 ⟨y,H1,I1,r1,q1⟩=>?_) hs
 exact um_ I1 hN hi hx r1 (fun s2 I2=>⟨_,H1,I2,q1⟩) hf
def tPar (i j:Nat)(ta:TA):TS:=fun D σ H=>ta σ H fun vs H1=>∃ v w,vs=[v,w]/\D.nx ((σ.set i (some v)).set j (some w)) H1
theorem jvo_ {i j:Nat}{x y:Str}{a b:Expr}{ta:TA}{px py pt:Pos}{kt k2 pt2}(hc:X.calm=true)(hN:X.N.Nodup)(hi:X.N[i]?=some x)(hj:X.N[j]?=some y)(hij:i≠j)
  (hx:X.env.scope.names.lookup x=some .local) (hy:X.env.scope.names.lookup y=some .local) (ha:PA X [a,b] ta)
  (hw:swappedStores [.Tuple [.Name x px,.Name y py] kt pt] (.Tuple [a,b] k2 pt2) X.env=pure (some [x,y]))
  (hs:swapsWithSole [.Tuple [.Name x px,.Name y py] kt pt] (.Tuple [a,b] k2 pt2) pos.line X.env=pure false:=by rfl) :
  PS X (.Assign [.Tuple [.Name x px,.Name y py] kt pt] (.Tuple [a,b] k2 pt2) pos) (tPar i j ta):=by
 intro pins s σ H D I h
 rw[exec_Assign_arm]
 refine wpAny_bind (wpAny_standAt ?_)
 rw[hs]
 refine wpAny_bind (wpAny_pure ?_)
 rw[if_neg (by decide)]
 refine wpAny_bind (Tuple_ (thn (ha _ pins s σ H _ I h) fun us s1 ⟨vs,H1,I1,r1,q1⟩=>?_))
 obtain⟨v,w,e1,q1⟩:=q1
 subst e1
 obtain⟨u1,u2,rfl,rv,rw'⟩:∃ u1 u2,us=[u1,u2]/\RelV v u1/\RelV w u2:=by
  cases r1 with
  | cons p q =>
   cases q with
   | cons p' q' =>
    cases q'
    exact⟨_,_,rfl,p,p'⟩
 refine wpAny_newObj_type ?_ (by show 2<=sizeLine;decide)
 have I2:Inv X pins σ H1 { s1 with heap:=s1.heap.push { cls:=.type "tuple",data:=.seq [u1,u2].toArray } }:=I1.kept (t':=s1.toks) fun b o e=>pd_ _ e
 rw[hw]
 refine wpAny_bind (wpAny_pure ?_)
 show wpAny (model X.prog X.w) X.A (do rule "assign.swapped-stores";let items <- unpackItems (.ref s1.heap.objs.size) 2 none;assignInOrder [fun v=>bindName X.env y v,fun v=>bindName X.env x v] items.reverse;pure Flow.next) _ _ _
 refine wpAny_bind (wpAny_rule (wpAny_bind (unpackItems_tuple (items:=#[u1,u2]) (I.ok.hd hc) (IsTup.new s1.heap _) fun h' hx'=>?_)))
 have I3:=I2.kept (h':=h') (t':=s1.toks) fun b o e=>hx' b o (p6_ (pt_ e)) e
 show wpAny _ _ (assignInOrder [fun v=>bindName X.env y v,fun v=>bindName X.env x v] [u2,u1] >>= fun _=>pure Flow.next) _ _ _
 refine wpAny_bind (assignInOrder_cons (wpAny_bindName (um_ I3 hN hj (.inl hy) rw' (fun s2 I4=>?_) (.inr hy))))
 refine assignInOrder_cons (wpAny_bindName (um_ I4 hN hi (.inl hx) rv (fun s3 I5=>assignInOrder_nil (wpAny_pure ?_)) (.inr hx)))
 rw[List.set_comm _ _ (tq_ hij)] at I5
 exact⟨_,H1,I5,q1⟩
end
section
variable {X:Cx}{pos:Pos}
def jvr_ (c:TT)(tb:TS):TS:=fun D σ H=>∃ W:Nat->St->Hp->Prop,(∃ m,W m σ H)/\∀ m σ H,W m σ H ->
 c σ H fun b H1=>if b=true then ∃ N:St->Hp->Prop,(∀ σ' H',N σ' H'->∃ m',m' < m/\W m' σ' H')/\tb { D with nx:=N,ct:=N,bk:=D.nx } σ H1 else D.nx σ H1
theorem x5_ {c:Expr}{body:List Stmt}{tc:TT}{tb:TS}(hp:PassesOwn (model X.prog X.w) X.A X.env X.xe)(hc:PT X c tc)(hb:PSs X body tb):PS X (.While c body [] pos) (jvr_ tc tb):=by
 intro pins s σ H D I h
 obtain⟨W,⟨m0,w0⟩,turn⟩:=h
 refine wpAny_While (codeAny_whileLoop (fun n s'=>∃ σ' H',Inv X pins σ' H' s'/\W n σ' H') ?_ m0 ⟨σ,H,I,w0⟩)
 rintro n s1 ⟨σ1,H1,I1,w1⟩
 refine wpAny_passesOwn hp (thn (hc pins s1 σ1 H1 _ I1 (turn n σ1 H1 w1)) fun b s2 ⟨H2,I2,q2⟩=>?_)
 cases b with
 | true =>
  obtain⟨N,hN,q2⟩:=q2
  rw[if_pos rfl]
  refine wpAny_passesOwn hp (thn (hb pins s2 σ1 H2 _ I2 q2) fun f s3 q3=>?_)
  cases f with
  | next =>
   obtain⟨σ3,H3,I3,n3⟩:=q3
   obtain⟨m',hm,w3⟩:=hN σ3 H3 n3
   exact⟨m',hm,σ3,H3,I3,w3⟩
  | cont =>
   obtain⟨σ3,H3,I3,n3⟩:=q3
   obtain⟨m',hm,w3⟩:=hN σ3 H3 n3
   exact⟨m',hm,σ3,H3,I3,w3⟩
  | brk=>exact q3
  | ret v=>exact q3
 | false =>
  rw[if_neg pi_]
  exact wpAny_execs_nil ⟨σ1,H2,I2,q2⟩
end
structure It where
 go:Nat->Hp->Prop
 yld:Nat->Hp->V->Hp->Prop
 stop:Nat->Hp->Prop
noncomputable def FpOk (X:Cx)(pins:List (Addr×Obj))(H:Hp)(b:Addr):Prop :=
 H b=none/\b≠X.env.locals/\b∉X.fs/\(b∈X.ex∨X.s₀.heap.objs.size<=b)/\(∀ x c,X.env.cells.lookup x=some c->c≠b)/\∀ p∈X.pn++pins,p.1≠b
theorem Inv.fpOk {X:Cx}{pins:List (Addr×Obj)}{σ:St}{H H':Hp}{s:Shared}{b:Addr}(I:Inv X pins σ H s)(hb:s.heap.objs.size<=b)(hn:H' b=none):FpOk X pins H' b:=by
 refine⟨hn,t2_ (qa_ I.lt hb),I.nofs hb,.inr (qe_ I.sz hb),fun x c e z=>?_,fun p hp z=>?_⟩
 ·obtain⟨v,q⟩:=I.cell x c e
  exact absurd (qa_ q.lt (by rw[z];exact hb)) (sk_ _)
 ·exact absurd (qa_ (pt_ (I.pin p hp).1) (by rw[z];exact hb)) (sk_ _)
structure Turn (P:Program)(w:World)(K:pc_)(tg:Expr)(J:It)(fp:List Addr)(it:Addr)(tn:Nat->Heap->Prop):Prop where
 mem:it∈fp
 obj:∀ i h,tn i h->∀ b∈fp,∃ o,h.get? b=some o/\∀ v,o.data≠.cell v
 keep:∀ i h h',tn i h->(∀ b∈fp,∀ o,h.get? b=some o->h'.get? b=some o)->tn i h'
 item:∀(X:Cx),X.prog=P->X.w=w->X.K=K->X.calm=true->∀(i:Nat) (pins:List (Addr×Obj)) (s:Shared) (σ:St) (H:Hp) (E:Value->Shared->Prop),Inv X pins σ H s->(∀ b∈fp,FpOk X pins H b)->tn i s.heap->J.go i H ->
  wpAny (model P w) X.A (pyNext (.ref it)) (fun r s1=>∃ u,r=some u /\
   wpAny (model P w) X.A (letOwnedTupleGo tg (.ref it) u) (fun _ s2=>∃ x H',Inv X pins σ H' s2/\RelV x u/\J.yld i H x H'/\tn (i+1) s2.heap/\∀ b∈fp,H' b=none) E s1) E s
 done:∀(X:Cx),X.prog=P->X.w=w->X.K=K->X.calm=true->∀(i:Nat) (pins:List (Addr×Obj)) (s:Shared) (σ:St) (H:Hp) (E:Value->Shared->Prop),Inv X pins σ H s->(∀ b∈fp,FpOk X pins H b)->tn i s.heap->J.stop i H ->
  wpAny (model P w) X.A (pyNext (.ref it)) (fun r s1=>r=none/\Inv X pins σ H s1) E s
 self:∀(A:Around) (i:Nat) (s:Shared) (Q:Value->Shared->Prop) (E:Value->Shared->Prop),tn i s.heap->Q (.ref it) s->wpAny (model P w) A (pyIter (.ref it)) Q E s
abbrev TI:=St->Hp->(It->Hp->Prop)->Prop
noncomputable def PIE (X:Cx)(pins:List (Addr×Obj))(σ:St)(tg:Expr)(R:It->Hp->Prop)(itv:Value)(s2:Shared):Prop :=
 ∃(it:Addr) (fp:List Addr) (tn:Nat->Heap->Prop) (J:It) (H':Hp),itv=.ref it/\Inv X pins σ H' s2/\Turn X.prog X.w X.K tg J fp it tn/\tn 0 s2.heap/\(∀ b∈fp,FpOk X pins H' b)/\R J H'
noncomputable def PI (X:Cx)(tg iter:Expr)(wi:TI):Prop :=
 ∀(pins:List (Addr×Obj)) (s:Shared) (σ:St) (H:Hp) (R:It->Hp->Prop),Inv X pins σ H s->wi σ H R ->
  wpAny (model X.prog X.w) X.A (eval iter X.env) (fun v s1=>wpAny (model X.prog X.w) X.A (pyIter v) (PIE X pins σ tg R) X.xe s1) X.xe s
theorem jkd_ {M:Model}{A:Around}{E:Value->Shared->Prop}{s:Shared}{tg:Expr}{it:Addr}{u:Value}{o:Obj}{n:String}{vs:Array Value}{Q:Unit->Shared->Prop}(ho:s.heap.get? it=some o)(hc:o.cls=.type n)(hd:o.data=.fields vs)
  (hn:["enumerate","zip","dict_itemiterator","dict_reverseitemiterator","odict_iterator","itertools.zip_longest","itertools.pairwise"].contains n=false) (hQ:Q () s):wpAny M A (letOwnedTupleGo tg (.ref it) u) Q E s:=by
 unfold letOwnedTupleGo
 cases tg <;> first
  | exact wpAny_pure hQ
  | (cases u <;> first
    | exact wpAny_pure hQ
    | (refine wpAny_bind (wpAny_load ho ?_)
       rw[hc,hd]
       show wpAny M A (if (["enumerate","zip","dict_itemiterator","dict_reverseitemiterator","odict_iterator","itertools.zip_longest","itertools.pairwise"].contains n&&vs[0]? == some (rawInt _))=true then _ else _) Q E s
       rw[if_neg (by intro h;rw[hn,Bool.false_and] at h;cases h)]
       exact wpAny_pure hQ))
noncomputable def Itl (K:pc_)(a:Addr):It :=
 ⟨fun i H=>∃ xs x,SqL K H a xs/\xs[i]?=some x,fun i H x H'=>H'=H/\∀ xs,SqL K H a xs->xs[i]?=some x,fun i H=>∃ xs,SqL K H a xs/\xs.length<=i⟩
noncomputable def Itt (K:pc_)(a:Addr):It :=
 ⟨fun i H=>∃ xs x,SqT K H a xs/\xs[i]?=some x,fun i H x H'=>H'=H/\∀ xs,SqT K H a xs->xs[i]?=some x,fun i H=>∃ xs,SqT K H a xs/\xs.length<=i⟩
noncomputable def Itr (lo:Int)(n:Nat):It:=⟨fun i _=>i < n,fun i H x H'=>H'=H/\x=.int (lo+i),fun i _=>n<=i⟩
theorem jmj_ {P:Program}{w:World}{K:pc_}{tg:Expr}(a it:Addr):Turn P w K tg (Itl K a) [it] it (fun i h=>h.IsListIter it a i) where
 mem:=by simp
 obj:=fun i h st b hb=>by
  have e:b=it:=by simpa using hb
  subst e
  obtain⟨o,e,c,d⟩:=st
  exact⟨o,e,fun v z=>by rw[d] at z;cases z⟩
 keep:=fun i h h' st k=>st.at fun o e=>k it (by simp) o e
 item:=by
  intro X hP hw hK hc i pins s σ H E I hf st hg
  subst hP hw hK
  obtain⟨xs,x,hq,hx⟩:=hg
  obtain⟨its,rv,p,hz⟩:=I.list hq
  obtain⟨u,hu,ru⟩:=rv.get hx
  obtain⟨f0,f1,f2,f3,f4,f5⟩:=hf it (by simp)
  refine wpAny_pyNext_list_item st p.isList (x:=u) (by simpa using hu) fun h' st' sb=>?_
  have I1:Inv X pins σ H { s with heap:=h' }:=I.turned (t':=s.toks) (fun b o hb e=>(sb.2 b hb).trans e) f0 f1 f3 f4 f5
  obtain⟨o,e,c,d⟩:=id st'
  exact⟨u,rfl,jkd_ (s:={ s with heap:=h' }) e c d (by decide) ⟨x,H,I1,ru,⟨rfl,fun ys hy=>by rw[I.list_inj hy hq];exact hx⟩,st',fun b hb=>(hf b hb).1⟩⟩
 done:=by
  intro X hP hw hK hc i pins s σ H E I hf st hg
  subst hP hw hK
  obtain⟨xs,hq,hx⟩:=hg
  obtain⟨its,rv,p,hz⟩:=I.list hq
  obtain⟨f0,f1,f2,f3,f4,f5⟩:=hf it (by simp)
  have hl:=rv.length
  exact wpAny_pyNext_list_end (I.ok.hd hc) st p.isList (by simp;omega) fun h' eb=>⟨rfl,I.turned (t':=s.toks) (fun b o hb e=>eb b o hb e) f0 f1 f3 f4 f5⟩
 self:=fun _ _ _ _ _ st h=>wpAny_pyIter_listiter st h
theorem jid_ {P:Program}{w:World}{K:pc_}{tg:Expr}(a it:Addr):Turn P w K tg (Itt K a) [it] it (fun i h=>h.IsTupleIter it a i) where
 mem:=by simp
 obj:=fun i h st b hb=>by
  have e:b=it:=by simpa using hb
  subst e
  obtain⟨o,e,c,d⟩:=st
  exact⟨o,e,fun v z=>by rw[d] at z;cases z⟩
 keep:=fun i h h' st k=>st.at fun o e=>k it (by simp) o e
 item:=by
  intro X hP hw hK hc i pins s σ H E I hf st hg
  subst hP hw hK
  obtain⟨xs,x,hq,hx⟩:=hg
  obtain⟨its,rv,p,hz⟩:=I.tuple hq
  obtain⟨u,hu,ru⟩:=rv.get hx
  obtain⟨f0,f1,f2,f3,f4,f5⟩:=hf it (by simp)
  refine wpAny_pyNext_tuple_item st (show s.heap.IsTuple a its.toArray from p) (x:=u) (by simpa using hu) fun h' st' sb=>?_
  have I1:Inv X pins σ H { s with heap:=h' }:=I.turned (t':=s.toks) (fun b o hb e=>(sb.2 b hb).trans e) f0 f1 f3 f4 f5
  obtain⟨o,e,c,d⟩:=id st'
  exact⟨u,rfl,jkd_ (s:={ s with heap:=h' }) e c d (by decide) ⟨x,H,I1,ru,⟨rfl,fun ys hy=>by rw[I.tuple_inj hy hq];exact hx⟩,st',fun b hb=>(hf b hb).1⟩⟩
 done:=by
  intro X hP hw hK hc i pins s σ H E I hf st hg
  subst hP hw hK
  obtain⟨xs,hq,hx⟩:=hg
  obtain⟨its,rv,p,hz⟩:=I.tuple hq
  obtain⟨f0,f1,f2,f3,f4,f5⟩:=hf it (by simp)
  have hl:=rv.length
  exact wpAny_pyNext_tuple_end (I.ok.hd hc) st (show s.heap.IsTuple a its.toArray from p) (by simp;omega) fun h' eb=>⟨rfl,I.turned (t':=s.toks) (fun b o hb e=>eb b o hb e) f0 f1 f3 f4 f5⟩
 self:=fun _ _ _ _ _ st h=>wpAny_pyIter_tupleiter st h
theorem jik_ {P:Program}{w:World}{K:pc_}{tg:Expr}(it:Addr)(lo:Int)(n:Nat):Turn P w K tg (Itr lo n) [it] it (fun i h=>IsRangeIter h it (lo+(i:Nat) * 1) ((n:Int) - (i:Nat)) 1) where
 mem:=by simp
 obj:=fun i h st b hb=>by
  have e:b=it:=by simpa using hb
  subst e
  exact⟨_,st,fun v z=>by
   have z':Data.fields _=Data.cell v:=z
   cases z'⟩
 keep:=fun i h h' st k=>k it (by simp) _ st
 item:=by
  intro X hP hw hK hc i pins s σ H E I hf st hg
  subst hP hw hK
  obtain⟨f0,f1,f2,f3,f4,f5⟩:=hf it (by simp)
  have W:=Walks.range (prog:=X.prog) (w:=X.w) (I.ok.hd hc) it lo 1 n
  refine W.item i s _ _ hg st fun v h' tk hv st' kk=>?_
  obtain⟨t,rfl⟩:=hv
  have I1:Inv X pins σ H { s with heap:=h',toks:=tk }:=I.turned (fun b o hb e=>kk b o (by simpa using hb) e) f0 f1 f3 f4 f5
  refine⟨_,rfl,jkd_ (s:={ s with heap:=h',toks:=tk }) (n:="range_iterator") st' rfl rfl (by decide) ⟨.int (lo+i),H,I1,⟨t,?_⟩,⟨rfl,rfl⟩,st',fun b hb=>(hf b hb).1⟩⟩
  rw[Int.mul_one]
 done:=by
  intro X hP hw hK hc i pins s σ H E I hf st hg
  subst hP hw hK
  obtain⟨f0,f1,f2,f3,f4,f5⟩:=hf it (by simp)
  exact wpAny_pyNext_range_end (I.ok.hd hc) st (by have:n<=i:=hg;omega) fun h' eb=>⟨rfl,I.turned (t':=s.toks) (fun b o hb e=>eb b o hb e) f0 f1 f3 f4 f5⟩
 self:=fun _ _ _ _ _ st h=>wpAny_pyIter_rangeiter st h
end L2
namespace L2
open PySem PySem.Spec PyProof.Rows
section
variable {X:Cx}{tg:Expr}
theorem jgc_ {pins:List (Addr×Obj)}{σ:St}{H:Hp}{s:Shared}{R:It->Hp->Prop}{E:Value->Shared->Prop}{lo hi:Int}{t u v:Tok}{tk:Nat}(I:Inv X pins σ H s)(h1:-(2 ^ 62)<=lo)(h2:lo < 2 ^ 62)(h3:-(2 ^ 62)<=hi)(h4:hi < 2 ^ 62)
  (q:R (Itr lo (hi - lo).toNat) H):wpAny (model X.prog X.w) X.A (pyIter (.ref s.heap.objs.size)) (PIE X pins σ tg R) E { s with heap:=s.heap.push { cls:=.type "range",data:=.fields #[.int lo t,.int hi u,.int 1 v] },toks:=tk }:=by
 refine wpAny_pyIter_range (IsRange.new ..) (small_one h1 h2 h3 h4) ?_
 have I1:Inv X pins σ H { s with heap:=s.heap.push { cls:=.type "range",data:=.fields #[.int lo t,.int hi u,.int 1 v] },toks:=tk }:=I.kept fun b o e=>pd_ _ e
 refine⟨(s.heap.push { cls:=.type "range",data:=.fields #[.int lo t,.int hi u,.int 1 v] }).objs.size,[(s.heap.push { cls:=.type "range",data:=.fields #[.int lo t,.int hi u,.int 1 v] }).objs.size],_,_,H,rfl,
  I1.kept (t':=tk) fun b o e=>pd_ _ e,jik_ _ lo (hi - lo).toNat,?_,fun b hb=>?_,q⟩
 ·have e1:lo+((0:Nat):Int) * 1=lo:=by simp
  have e2:(((hi - lo).toNat:Nat):Int) - ((0:Nat):Int)=wk_ lo hi 1:=by rw[rangeSize_one];split <;> omega
  show IsRangeIter _ _ (lo+((0:Nat):Int) * 1) ((((hi - lo).toNat:Nat):Int) - ((0:Nat):Int)) 1
  rw[e1,e2]
  exact pv_ _ rfl
 ·have e:b=(s.heap.push { cls:=.type "range",data:=.fields #[.int lo t,.int hi u,.int 1 v] }).objs.size:=by simpa using hb
  subst e
  exact I1.fpOk (po_ _) (I1.hok.fresh (po_ _))
def jvb_ (ta:TA):TI:=fun σ H R=>ta σ H fun vs H1=>∃ j:Int,vs=[.int j]/\-(2 ^ 62)<=j/\j < 2 ^ 62/\R (Itr 0 j.toNat) H1
def juj_ (ta:TA):TI:=fun σ H R=>ta σ H fun vs H1=>∃ i j:Int,vs=[.int i,.int j]/\(-(2 ^ 62)<=i/\i < 2 ^ 62/\-(2 ^ 62)<=j/\j < 2 ^ 62)/\R (Itr i (j - i).toNat) H1
theorem z5_ {a:Expr}{ta:TA}{p pos:Pos}(hg:Gl X "range")(hm:X.mg "range"=none)(ha:PA X [a] ta)(hs:starEach [a] X.env=[(false,eval a X.env)]:=by rfl):PI X tg (.Call (.Name "range" p) [a] [] pos) (jvb_ ta):=by
 intro pins s σ H R I h
 refine Call_ (x1_ I hg hm boot_range (qy_ (thn (ha pos pins s σ H _ I h) fun us s1 ⟨vs,H1,I1,r1,q1⟩=>?_) hs rfl))
 obtain⟨j,e,q1,q2,q⟩:=q1
 subst e
 cases r1 with
 | cons r rr =>
  cases rr
  obtain⟨t,rfl⟩:=r
  exact call_range_1 (jgc_ I1 (by omega) (by omega) q1 q2 (by simpa using q))
theorem vm_ {a b:Expr}{ta:TA}{p pos:Pos}(hg:Gl X "range")(hm:X.mg "range"=none)(ha:PA X [a,b] ta)(hs:starEach [a,b] X.env=[(false,eval a X.env),(false,eval b X.env)]:=by rfl)(hs2:starEach [b] X.env=[(false,eval b X.env)]:=by rfl) :
  PI X tg (.Call (.Name "range" p) [a,b] [] pos) (juj_ ta):=by
 intro pins s σ H R I h
 refine Call_ (x1_ I hg hm boot_range (qy_ (thn (ha pos pins s σ H _ I h) fun us s1 ⟨vs,H1,I1,r1,q1⟩=>?_) (by rw[hs,hs2]) (by rw[hs2];rfl)))
 obtain⟨i,j,e,⟨q1,q2,q3,q4⟩,q⟩:=q1
 subst e
 cases r1 with
 | cons r rr =>
  cases rr with
  | cons r' rr =>
   cases rr
   obtain⟨t,rfl⟩:=r
   obtain⟨t',rfl⟩:=r'
   exact call_range_2 (jgc_ I1 q1 q2 q3 q4 q)
def tFor (wi:TI)(g:TG)(tb:TS):TS:=fun D σ H=>wi σ H fun J H1=>∃ W:Nat->Nat->St->Hp->Prop,(∃ m,W 0 m σ H1)/\∀ i m σ H,W i m σ H ->
 (J.stop i H/\D.nx σ H)∨(J.go i H/\∃ N:St->Hp->Prop,(∀ σ' H',N σ' H'->∃ m',m' < m/\W (i+1) m' σ' H')/\∀ x H',J.yld i H x H'->g x σ H' fun σ2 H2=>tb { D with nx:=N,ct:=N,bk:=D.nx } σ2 H2)
noncomputable def uy_ (fp:List Addr)(h:Heap):List (Addr×Obj):=fp.filterMap fun b=>(h.get? b).map fun o=>(b,o)
theorem yj_ {fp:List Addr}{h:Heap}{b:Addr}{o:Obj}(hb:b∈fp)(e:h.get? b=some o):(b,o)∈uy_ fp h:=List.mem_filterMap.mpr ⟨b,hb,by rw[e];rfl⟩
theorem jnj_ {fp:List Addr}{h:Heap}{p:Addr×Obj}(hp:p∈uy_ fp h):p.1∈fp/\h.get? p.1=some p.2:=by
 obtain⟨b,hb,e⟩:=List.mem_filterMap.mp hp
 cases q:h.get? b with
 | none=>rw[q] at e;cases e
 | some o =>
  rw[q] at e
  have e':(b,o)=p:=Option.some.inj e
  subst e'
  exact⟨hb,q⟩
theorem Inv.pinned {pins:List (Addr×Obj)}{σ:St}{H:Hp}{s:Shared}{fp:List Addr}(I:Inv X pins σ H s)(hf:∀ b∈fp,FpOk X pins H b)(ho:∀ b∈fp,∃ o,s.heap.get? b=some o/\∀ v,o.data≠.cell v):Inv X (pins++uy_ fp s.heap) σ H s :=
 I.pins_of fun p hp=>(pe_.mp hp).elim (fun z=>I.pin p (qc_ _ z)) fun z=>by
  obtain⟨hb,e⟩:=jnj_ z
  obtain⟨f0,f1,f2,_⟩:=hf p.1 hb
  obtain⟨o,e',d⟩:=ho p.1 hb
  rw[e] at e';cases e'
  exact⟨e,f0,f1,f2,d⟩
theorem Inv.unpinned {pins pl:List (Addr×Obj)}{σ:St}{H:Hp}{s:Shared}(I:Inv X (pins++pl) σ H s):Inv X pins σ H s:=I.pins_of fun p hp=>I.pin p (qc_ _ (ki_ _ hp))
theorem zo_ {iter:Expr}{body:List Stmt}{wi:TI}{g:TG}{tb:TS}{pos:Pos}(hp:PassesOwn (model X.prog X.w) X.A X.env X.xe)(hc:X.calm=true)(hi:PI X tg iter wi)(hg:PG X tg g)(hb:PSs X body tb)
  (hs:∀ x,foldedSetIterable iter X.env x=pure x:=by intro _;rfl):PS X (.For tg iter body [] pos) (tFor wi g tb):=by
 intro pins s σ H D I h
 refine wpAny_For (thn (hi pins s σ H _ I h) fun v s1 h1=>thn h1 fun itv s2 h2=>?_) hs
 obtain⟨it,fp,tn,J,H2,e,I2,T,st2,f2,W,⟨m0,w0⟩,turn⟩:=h2
 subst e
 -- what stays true of the iterator's objects through the loop
 have stat:∀{H':Hp},(∀ b∈fp,H' b=none)->∀ b∈fp,FpOk X pins H' b:=fun hn b hb=>⟨hn b hb,(f2 b hb).2⟩
 refine codeAny_forLoop_any (fun n s'=>∃ i σ' H',Inv X pins σ' H' s'/\tn i s'.heap/\(∀ b∈fp,H' b=none)/\W i n σ' H') ?_ m0 ⟨0,σ,H2,I2,st2,fun b hb=>(f2 b hb).1,w0⟩
 rintro n s3 ⟨i,σ3,H3,I3,st3,fr3,w3⟩
 rcases turn i n σ3 H3 w3 with ⟨stop,qn⟩ | ⟨go,N,hN,step⟩
 ·refine wpAny_passesOwn hp (thn (T.done X rfl rfl rfl hc i pins s3 σ3 H3 X.xe I3 (stat fr3) st3 stop) fun r s4 ⟨hr,I4⟩=>?_)
  subst hr
  exact wpAny_execs_nil ⟨σ3,H3,I4,qn⟩
 ·refine wpAny_passesOwn hp (thn (T.item X rfl rfl rfl hc i pins s3 σ3 H3 X.xe I3 (stat fr3) st3 go) fun r s4 ⟨u,hr,h4⟩=>?_)
  subst hr
  refine wpAny_passesOwn hp (thn h4 fun _ s5 ⟨x,H5,I5,r5,y5,st5,fr5⟩=>?_)
  have I5':=I5.pinned (stat fr5) (T.obj _ _ st5)
  refine wpAny_passesOwn hp (thn (hg _ s5 σ3 H5 x u _ I5' r5 (step x H5 y5)) fun _ s6 ⟨σ6,H6,I6,q6⟩=>?_)
  refine wpAny_passesOwn hp (thn (hb _ s6 σ6 H6 _ I6 q6) fun f s7 q7=>?_)
  have again:∀{σ7:St}{H7:Hp},Inv X (pins++uy_ fp s5.heap) σ7 H7 s7->N σ7 H7->∃ m,m < n/\∃ i σ' H',Inv X pins σ' H' s7/\tn i s7.heap/\(∀ b∈fp,H' b=none)/\W i m σ' H':=fun{σ7 H7} I7 n7=>by
   obtain⟨m',hm,w7⟩:=hN σ7 H7 n7
   refine⟨m',hm,i+1,σ7,H7,I7.unpinned,T.keep _ _ _ st5 fun b hb o e=>(I7.pin (b,o) (qc_ _ (qc_ _ (yj_ hb e)))).1,fun b hb=>?_,w7⟩
   obtain⟨o,e,d⟩:=T.obj _ _ st5 b hb
   exact(I7.pin (b,o) (qc_ _ (qc_ _ (yj_ hb e)))).2.1
  cases f with
  | next=>obtain⟨σ7,H7,I7,n7⟩:=q7;exact again I7 n7
  | cont=>obtain⟨σ7,H7,I7,n7⟩:=q7;exact again I7 n7
  | brk=>obtain⟨σ7,H7,I7,q7⟩:=q7;exact⟨σ7,H7,I7.unpinned,q7⟩
  | ret v=>obtain⟨x7,σ7,H7,I7,r7,q7⟩:=q7;exact⟨x7,σ7,H7,I7.unpinned,r7,q7⟩
end
theorem zy_ {K:pc_}{a:Addr}{xs:List V}{g:TG}{tb:TS}{D:Ends}{σ:St}{H:Hp}(Pv:Nat->St->Hp->Prop)(h0:Pv 0 σ H)(hl:∀ i σ H,i<=xs.length->Pv i σ H->SqL K H a xs)
  (hs:∀ i x σ H,xs[i]?=some x->Pv i σ H->g x σ H fun σ2 H2=>tb { D with nx:=Pv (i+1),ct:=Pv (i+1),bk:=D.nx } σ2 H2) (hd:∀ σ H,Pv xs.length σ H->D.nx σ H) :
  ∃ W:Nat->Nat->St->Hp->Prop,(∃ m,W 0 m σ H)/\∀ i m σ H,W i m σ H ->
   ((Itl K a).stop i H/\D.nx σ H)∨((Itl K a).go i H/\∃ N:St->Hp->Prop,(∀ σ' H',N σ' H'->∃ m',m' < m/\W (i+1) m' σ' H')/\∀ x H',(Itl K a).yld i H x H'->g x σ H' fun σ2 H2=>tb { D with nx:=N,ct:=N,bk:=D.nx } σ2 H2):=by
 refine⟨fun i m σ H=>m=xs.length - i/\i<=xs.length/\Pv i σ H,⟨xs.length,by simp,qz_ _,h0⟩,?_⟩
 rintro i m σ H ⟨rfl,hi,p⟩
 have q:=hl i σ H hi p
 by_cases hlt:i < xs.length
 ·refine .inr ⟨⟨xs,xs[i],q,by simp[hlt]⟩,Pv (i+1),fun σ' H' p'=>⟨xs.length - (i+1),by omega,rfl,hlt,p'⟩,fun x H' y=>?_⟩
  obtain⟨e,y⟩:=y
  subst e
  exact hs i x σ _ (y xs q) p
 ·have e:i=xs.length:=by omega
  subst e
  exact .inl ⟨⟨xs,q,po_ _⟩,hd σ H p⟩
theorem zu_ {lo:Int}{n:Nat}{g:TG}{tb:TS}{D:Ends}{σ:St}{H:Hp}(Pv:Nat->St->Hp->Prop)(h0:Pv 0 σ H)
  (hs:∀ i σ H,i < n->Pv i σ H->g (.int (lo+i)) σ H fun σ2 H2=>tb { D with nx:=Pv (i+1),ct:=Pv (i+1),bk:=D.nx } σ2 H2) (hd:∀ σ H,Pv n σ H->D.nx σ H) :
  ∃ W:Nat->Nat->St->Hp->Prop,(∃ m,W 0 m σ H)/\∀ i m σ H,W i m σ H ->
   ((Itr lo n).stop i H/\D.nx σ H)∨((Itr lo n).go i H/\∃ N:St->Hp->Prop,(∀ σ' H',N σ' H'->∃ m',m' < m/\W (i+1) m' σ' H')/\∀ x H',(Itr lo n).yld i H x H'->g x σ H' fun σ2 H2=>tb { D with nx:=N,ct:=N,bk:=D.nx } σ2 H2):=by
 refine⟨fun i m σ H=>m=n - i/\i<=n/\Pv i σ H,⟨n,by simp,qz_ _,h0⟩,?_⟩
 rintro i m σ H ⟨rfl,hi,p⟩
 by_cases hlt:i < n
 ·refine .inr ⟨hlt,Pv (i+1),fun σ' H' p'=>⟨n - (i+1),by omega,rfl,hlt,p'⟩,fun x H' y=>?_⟩
  obtain⟨e,y⟩:=y
  subst e y
  exact hs i σ _ hlt p
 ·have e:i=n:=by omega
  subst e
  exact .inl ⟨po_ _,hd σ H p⟩
end L2
namespace L2
open PySem PySem.Spec PyProof.Rows
abbrev R2:=V->V->Hp->VK->Prop
noncomputable def OpR (X:Cx)(f:Value->Value->Sem Value)(r:R2):Prop :=
 ∀(pins:List (Addr×Obj)) (s:Shared) (σ:St) (H:Hp) (x y:V) (v u:Value) (Q:VK),Inv X pins σ H s->RelV x v->RelV y u->r x y H Q ->
  wpAny (model X.prog X.w) X.A (f v u) (EP X pins σ Q) X.xe s
noncomputable def UnR (X:Cx)(f:Value->Sem Value)(r:V->Hp->VK->Prop):Prop :=
 ∀(pins:List (Addr×Obj)) (s:Shared) (σ:St) (H:Hp) (x:V) (v:Value) (Q:VK),Inv X pins σ H s->RelV x v->r x H Q ->
  wpAny (model X.prog X.w) X.A (f v) (EP X pins σ Q) X.xe s
noncomputable def CallR (X:Cx)(f:Value)(r:List V->Hp->VK->Prop):Prop :=
 ∀(pins:List (Addr×Obj)) (s:Shared) (σ:St) (H:Hp) (xs:List V) (us:List Value) (Q:VK),Inv X pins σ H s->Vals xs us->r xs H Q ->
  wpAny (model X.prog X.w) X.A (call f us) (EP X pins σ Q) X.xe s
noncomputable def TruR (X:Cx)(r:V->Hp->(Bool->Hp->Prop)->Prop):Prop :=
 ∀(pins:List (Addr×Obj)) (s:Shared) (σ:St) (H:Hp) (x:V) (v:Value) (Q:Bool->Hp->Prop),Inv X pins σ H s->RelV x v->r x H Q ->
  wpAny (model X.prog X.w) X.A (truthy v) (TP X pins σ Q) X.xe s
def tOp (r:R2)(ta tb:TE):TE:=fun σ H Q=>ta σ H fun x H1=>tb σ H1 fun y H2=>r x y H2 Q
def tUn (r:V->Hp->VK->Prop)(ta:TE):TE:=fun σ H Q=>ta σ H fun x H1=>r x H1 Q
def rI (C:Int->Int->Prop)(g:Int->Int->V):R2:=fun x y H Q=>∃ i j,x=.int i/\y=.int j/\C i j/\Q (g i j) H
def rI0 (g:Int->Int->V):R2:=fun x y H Q=>∃ i j,x=.int i/\y=.int j/\Q (g i j) H
def rU (g:Int->V):V->Hp->VK->Prop:=fun x H Q=>∃ i,x=.int i/\Q (g i) H
section
variable {X:Cx}{a b c:Expr}{ta tb tc:TE}{pos:Pos}
theorem binT (ha:PE X a ta)(hb:PE X b tb){pins:List (Addr×Obj)}{s:Shared}{σ:St}{H:Hp}{R:V->V->Hp->Prop}(I:Inv X pins σ H s)
  (h:ta σ H fun x H1=>tb σ H1 fun y H2=>R x y H2) {Q:Value->Shared->Prop}{f:Value->Value->Sem Value}
  (hf:∀ v u s2 x y H2,Inv X pins σ H2 s2->RelV x v->RelV y u->R x y H2->wpAny (model X.prog X.w) X.A (f v u) Q X.xe s2) :
  wpAny (model X.prog X.w) X.A (eval a X.env) (fun v s₁=>wpAny (model X.prog X.w) X.A (eval b X.env) (fun u s₂=>wpAny (model X.prog X.w) X.A (f v u) Q X.xe s₂) X.xe s₁) X.xe s:=by
 refine thn (ha pins s σ H _ I h) fun v s1 ⟨x,H1,I1,r1,q1⟩=>?_
 refine thn (hb pins s1 σ H1 _ I1 q1) fun u s2 ⟨y,H2,I2,r2,q2⟩=>?_
 exact hf v u s2 x y H2 I2 r1 r2 q2
theorem jk_ {op:Operator}{r:R2}(ho:OpR X (binaryOp op) r)(ha:PE X a ta)(hb:PE X b tb):PE X (.BinOp a op b pos) (tOp r ta tb):=by
 intro pins s σ H Q I h
 exact wpAny_BinOp (binT ha hb I h fun v u s2 x y H2 I2 rx ry q=>ho pins s2 σ H2 x y v u Q I2 rx ry q)
theorem jkm_ {op:UnaryOp}{r:V->Hp->VK->Prop}(ho:UnR X (unaryOp op) r)(ha:PE X a ta):PE X (.UnaryOp op a pos) (tUn r ta):=by
 intro pins s σ H Q I h
 exact UnaryOp_ (thn (ha pins s σ H _ I h) fun v s1 ⟨x,H1,I1,r1,q1⟩=>ho pins s1 σ H1 x v Q I1 r1 q1)
theorem opI {f:Value->Value->Sem Value}{C:Int->Int->Prop}{g:Int->Int->Int}
  (rule:∀(i j:Int) (t u:Tok) (s:Shared) (Q:Value->Shared->Prop) (E:Value->Shared->Prop),C i j->Q (.int (g i j) s.toks) { s with toks:=s.toks+1 }->wpAny (model X.prog X.w) X.A (f (.int i t) (.int j u)) Q E s) :
  OpR X f (rI C fun i j=>.int (g i j)):=by
 intro pins s σ H x y v u Q I rx ry h
 obtain⟨i,j,rfl,rfl,hc,q⟩:=h
 obtain⟨t,rfl⟩:=rx
 obtain⟨t',rfl⟩:=ry
 exact rule i j t t' s _ _ hc ⟨.int (g i j),H,I.tok _,⟨_,rfl⟩,q⟩
theorem opI0 {f:Value->Value->Sem Value}{g:Int->Int->Int}
  (rule:∀(i j:Int) (t u:Tok) (s:Shared) (Q:Value->Shared->Prop) (E:Value->Shared->Prop),Q (.int (g i j) s.toks) { s with toks:=s.toks+1 }->wpAny (model X.prog X.w) X.A (f (.int i t) (.int j u)) Q E s) :
  OpR X f (rI0 fun i j=>.int (g i j)):=by
 intro pins s σ H x y v u Q I rx ry h
 obtain⟨i,j,rfl,rfl,q⟩:=h
 obtain⟨t,rfl⟩:=rx
 obtain⟨t',rfl⟩:=ry
 exact rule i j t t' s _ _ ⟨.int (g i j),H,I.tok _,⟨_,rfl⟩,q⟩
theorem opB0 {f:Value->Value->Sem Value}{g:Int->Int->Bool}
  (rule:∀(i j:Int) (t u:Tok) (s:Shared) (Q:Value->Shared->Prop) (E:Value->Shared->Prop),Q (.bool (g i j)) s->wpAny (model X.prog X.w) X.A (f (.int i t) (.int j u)) Q E s) :
  OpR X f (rI0 fun i j=>.bl (g i j)):=by
 intro pins s σ H x y v u Q I rx ry h
 obtain⟨i,j,rfl,rfl,q⟩:=h
 obtain⟨t,rfl⟩:=rx
 obtain⟨t',rfl⟩:=ry
 exact rule i j t t' s _ _ ⟨.bl (g i j),H,I,rfl,q⟩
def CDiv (i j:Int):Prop:=0 < j/\j < 1073741824
def CPow (i j:Int):Prop:=0<=j/\j<=1000000/\i.natAbs < 2 ^ 64
def CMul (i j:Int):Prop:=(-(2 ^ 64) < i/\i < 2 ^ 64)∨(-(2 ^ 64) < j/\j < 2 ^ 64)
theorem CMul.ok {i j:Int}(h:CMul i j):IntMulOk i j:=by
 rcases h with ⟨h1,h2⟩ | ⟨h1,h2⟩
 ·exact .of_left (intBits_le_64 h1 h2)
 ·exact .of_right (intBits_le_64 h1 h2)
theorem jvw_:OpR X (binaryOp .Add) (rI0 fun i j=>.int (i+j)):=opI0 fun _ _ _ _ _ _ _ q=>add_int q
theorem op_sub:OpR X (binaryOp .Sub) (rI0 fun i j=>.int (i - j)):=opI0 fun _ _ _ _ _ _ _ q=>sub_int q
theorem jvp_:OpR X (binaryOp .Mult) (rI CMul fun i j=>.int (i * j)):=opI fun _ _ _ _ _ _ _ hc q=>mul_int q hc.ok
theorem op_fdiv:OpR X (binaryOp .FloorDiv) (rI CDiv fun i j=>.int (i / j)):=opI fun i j _ _ _ _ _ hc q=>by
 have h1:(0:Int) < j:=hc.1
 have h2:j < 1073741824:=hc.2
 exact floordiv_int (by omega) (by rw[Int.fdiv_eq_ediv_of_nonneg i (by omega)];exact q) (.inl (PyProof.noPylong_small (by omega)))
theorem op_mod:OpR X (binaryOp .Mod) (rI (fun _ j=>0 < j) fun i j=>.int (i % j)):=opI fun i j _ _ _ _ _ hc q=>by
 have h1:(0:Int) < j:=hc
 exact mod_int' (by omega) (by rw[Int.fmod_eq_emod_of_nonneg i (by omega)];exact q)
theorem op_pow:OpR X (binaryOp .Pow) (rI CPow fun i j=>.int (i ^ j.toNat)):=opI fun _ _ _ _ _ _ _ hc q=>pow_int_small hc.1 hc.2.1 hc.2.2 q
theorem unI {f:Value->Sem Value}{g:Int->Int}
  (rule:∀(i:Int) (t:Tok) (s:Shared) (Q:Value->Shared->Prop) (E:Value->Shared->Prop),Q (.int (g i) s.toks) { s with toks:=s.toks+1 }->wpAny (model X.prog X.w) X.A (f (.int i t)) Q E s) :
  UnR X f (rU fun i=>.int (g i)):=by
 intro pins s σ H x v Q I rx h
 obtain⟨i,rfl,q⟩:=h
 obtain⟨t,rfl⟩:=rx
 exact rule i t s _ _ ⟨.int (g i),H,I.tok _,⟨_,rfl⟩,q⟩
theorem jwk_:UnR X (unaryOp .USub) (rU fun i=>.int (-i)):=unI fun _ _ _ _ _ q=>neg_int q
end
noncomputable def scal:V->V->Bool
 | .non,.non=>true | .non,.int _=>true | .int _,.non=>true | .non,.bl _=>true | .bl _,.non=>true | .non,.str _=>true | .str _,.non=>true
 | .int _,.int _=>true | .bl _,.bl _=>true | .str _,.str _=>true | .byt _,.byt _=>true
 | .int _,.str _=>true | .str _,.int _=>true | .bl _,.str _=>true | .str _,.bl _=>true
 | _,_=>false
def rEq:R2:=fun x y H Q=>scal x y=true/\Q (.bl (decide (x=y))) H
def rNe:R2:=fun x y H Q=>scal x y=true/\Q (.bl (!decide (x=y))) H
theorem jkf_ {i j:Int}:decide (V.int i=V.int j)=(i == j):=by
 rw[qt_]
 simp
theorem jpz_ {i j:Bool}:decide (V.bl i=V.bl j)=(i == j):=by
 rw[qt_]
 simp
theorem jkh_ {i j:Str}:decide (V.str i=V.str j)=(i == j):=by
 rw[qt_]
 simp
theorem jls_ {i j:Array UInt8}:decide (V.byt i=V.byt j)=(i.toList == j.toList):=by
 rw[qt_]
 cases i
 cases j
 simp
section
variable {X:Cx}{a b c:Expr}{ta tb tc:TE}{pos:Pos}
theorem j4_ {pins:List (Addr×Obj)}{σ:St}{H:Hp}{s:Shared}{Q:VK}{k k':Bool}(I:Inv X pins σ H s)(q:Q (.bl k) H)(e:k=k'):EP X pins σ Q (.bool k') s:=by
 subst e
 exact⟨.bl k,H,I,rfl,q⟩
theorem jyp_:OpR X (compareOp .Eq) rEq:=by
 intro pins s σ H x y v u Q I rx ry h
 obtain⟨hs,q⟩:=h
 cases x with
 | non =>
  cases rx
  cases y with
  | non=>cases ry;exact PySem.EqNone.eq_none_none (j4_ I q (by simp))
  | bl j=>cases ry;exact PySem.EqNone.eq_none_bool (j4_ I q (by simp))
  | int j=>obtain⟨t',rfl⟩:=ry;exact PySem.EqNone.eq_none_int (j4_ I q (by simp))
  | str j=>obtain⟨t',rfl⟩:=ry;exact PySem.EqNone.eq_none_str (j4_ I q (by simp))
  | _=>exact absurd (show false=true from hs) pi_
 | bl i =>
  cases rx
  cases y with
  | non=>cases ry;exact PySem.EqNone.eq_bool_none (j4_ I q (by simp))
  | bl j=>cases ry;exact eq_bool (j4_ I q jpz_)
  | str j=>obtain⟨t',rfl⟩:=ry;exact PySem.EqMixed.eq_bool_str (j4_ I q (by simp))
  | _=>exact absurd (show false=true from hs) pi_
 | int i =>
  obtain⟨t,rfl⟩:=rx
  cases y with
  | non=>cases ry;exact PySem.EqNone.eq_int_none (j4_ I q (by simp))
  | int j=>obtain⟨t',rfl⟩:=ry;exact eq_int (j4_ I q jkf_)
  | str j=>obtain⟨t',rfl⟩:=ry;exact PySem.EqMixed.eq_int_str (j4_ I q (by simp))
  | _=>exact absurd (show false=true from hs) pi_
 | str i =>
  obtain⟨t,rfl⟩:=rx
  cases y with
  | non=>cases ry;exact PySem.EqNone.eq_str_none (j4_ I q (by simp))
  | bl j=>cases ry;exact PySem.EqMixed.eq_str_bool (j4_ I q (by simp))
  | int j=>obtain⟨t',rfl⟩:=ry;exact PySem.EqMixed.eq_str_int (j4_ I q (by simp))
  | str j=>obtain⟨t',rfl⟩:=ry;exact eq_str (j4_ I q jkh_)
  | _=>exact absurd (show false=true from hs) pi_
 | byt i =>
  obtain⟨t,rfl⟩:=rx
  cases y with
  | byt j=>obtain⟨t',rfl⟩:=ry;exact PySem.W.eq_bytes (j4_ I q jls_)
  | _=>exact absurd (show false=true from hs) pi_
 | _=>cases y <;> exact absurd (show false=true from hs) pi_
theorem jyl_:OpR X (compareOp .NotEq) rNe:=by
 intro pins s σ H x y v u Q I rx ry h
 obtain⟨hs,q⟩:=h
 cases x with
 | non =>
  cases rx
  cases y with
  | non=>cases ry;exact PySem.EqNone.ne_none_none (j4_ I q (by simp))
  | bl j=>cases ry;exact PySem.EqNone.ne_none_bool (j4_ I q (by simp))
  | int j=>obtain⟨t',rfl⟩:=ry;exact PySem.EqNone.ne_none_int (j4_ I q (by simp))
  | str j=>obtain⟨t',rfl⟩:=ry;exact PySem.EqNone.ne_none_str (j4_ I q (by simp))
  | _=>exact absurd (show false=true from hs) pi_
 | bl i =>
  cases rx
  cases y with
  | non=>cases ry;exact PySem.EqNone.ne_bool_none (j4_ I q (by simp))
  | bl j=>cases ry;exact ne_bool (j4_ I q (congrArg not jpz_))
  | str j=>obtain⟨t',rfl⟩:=ry;exact PySem.EqMixed.ne_bool_str (j4_ I q (by simp))
  | _=>exact absurd (show false=true from hs) pi_
 | int i =>
  obtain⟨t,rfl⟩:=rx
  cases y with
  | non=>cases ry;exact PySem.EqNone.ne_int_none (j4_ I q (by simp))
  | int j=>obtain⟨t',rfl⟩:=ry;exact ne_int (j4_ I q (congrArg not jkf_))
  | str j=>obtain⟨t',rfl⟩:=ry;exact PySem.EqMixed.ne_int_str (j4_ I q (by simp))
  | _=>exact absurd (show false=true from hs) pi_
 | str i =>
  obtain⟨t,rfl⟩:=rx
  cases y with
  | non=>cases ry;exact PySem.EqNone.ne_str_none (j4_ I q (by simp))
  | bl j=>cases ry;exact PySem.EqMixed.ne_str_bool (j4_ I q (by simp))
  | int j=>obtain⟨t',rfl⟩:=ry;exact PySem.EqMixed.ne_str_int (j4_ I q (by simp))
  | str j=>obtain⟨t',rfl⟩:=ry;exact ne_str (j4_ I q (congrArg not jkh_))
  | _=>exact absurd (show false=true from hs) pi_
 | byt i =>
  obtain⟨t,rfl⟩:=rx
  cases y with
  | byt j=>obtain⟨t',rfl⟩:=ry;exact PySem.W.ne_bytes (j4_ I q (congrArg not jls_))
  | _=>exact absurd (show false=true from hs) pi_
 | _=>cases y <;> exact absurd (show false=true from hs) pi_
theorem op_lt:OpR X (compareOp .Lt) (rI0 fun i j=>.bl (decide (i < j))):=opB0 fun _ _ _ _ _ _ _ q=>lt_int q
theorem op_le:OpR X (compareOp .LtE) (rI0 fun i j=>.bl (decide (i<=j))):=opB0 fun _ _ _ _ _ _ _ q=>le_int q
theorem op_gt:OpR X (compareOp .Gt) (rI0 fun i j=>.bl (decide (j < i))):=opB0 fun _ _ _ _ _ _ _ q=>gt_int q
theorem op_ge:OpR X (compareOp .GtE) (rI0 fun i j=>.bl (decide (j<=i))):=opB0 fun _ _ _ _ _ _ _ q=>ge_int q
theorem jmk_:OpR X (compareOp .In) (fun x y H Q=>∃ i j,x=.str i/\y=.str j/\Q (.bl (!(wl_ j i 0 j.length 1).isEmpty)) H):=by
 intro pins s σ H x y v u Q I rx ry h
 obtain⟨i,j,rfl,rfl,q⟩:=h
 obtain⟨t,rfl⟩:=rx
 obtain⟨t',rfl⟩:=ry
 exact in_str (j4_ I q rfl)
theorem jwn_:OpR X (compareOp .Is) (fun x y H Q=>y=.non/\Q (.bl (decide (x=.non))) H):=by
 intro pins s σ H x y v u Q I rx ry h
 obtain⟨rfl,q⟩:=h
 cases ry
 refine is_none_gen (j4_ I q ?_)
 cases x <;> first
  | (cases rx;rfl)
  | (obtain⟨t,rfl⟩:=rx;rfl)
theorem jue_:OpR X (compareOp .IsNot) (fun x y H Q=>y=.non/\Q (.bl (!decide (x=.non))) H):=by
 intro pins s σ H x y v u Q I rx ry h
 obtain⟨rfl,q⟩:=h
 cases ry
 refine isnot_none_gen (j4_ I q ?_)
 cases x <;> first
  | (cases rx;rfl)
  | (obtain⟨t,rfl⟩:=rx;rfl)
theorem jfg_:OpR X (compareOp .NotIn) (fun x y H Q=>∃ i j,x=.str i/\y=.str j/\Q (.bl (!(!(wl_ j i 0 j.length 1).isEmpty))) H):=by
 intro pins s σ H x y v u Q I rx ry h
 obtain⟨i,j,rfl,rfl,q⟩:=h
 obtain⟨t,rfl⟩:=rx
 obtain⟨t',rfl⟩:=ry
 exact notIn_str (j4_ I q rfl)
theorem j6_ (b:Expr){op:CmpOp}(h:op≠.In:=by decide)(h2:op≠.NotIn:=by decide):behindInMarks op b=false:=by
 have e1:(op == CmpOp.In)=false:=by cases op <;> first | rfl | exact absurd rfl h
 have e2:(op == CmpOp.NotIn)=false:=by cases op <;> first | rfl | exact absurd rfl h2
 cases b <;> simp[behindInMarks,e1,e2]
theorem jat_ {op:CmpOp}{r:R2}(ho:OpR X (compareOp op) r)(ha:PE X a ta)(hb:PE X b tb)(hm:behindInMarks op b=false):PE X (.Compare a [op] [b] pos) (tOp r ta tb):=by
 intro pins s σ H Q I h
 exact wpAny_Compare1 (binT ha hb I h fun v u s2 x y H2 I2 rx ry q=>ho pins s2 σ H2 x y v u Q I2 rx ry q) hm
def jnw_ (t:TE):TT:=fun σ H Q=>t σ H fun x H'=>∃ k,x=.bl k/\Q k H'
theorem ju_ {op:CmpOp}{r:R2}(ho:OpR X (compareOp op) r)(ha:PE X a ta)(hb:PE X b tb)(hm:behindInMarks op b=false):PT X (.Compare a [op] [b] pos) (jnw_ (tOp r ta tb)):=by
 intro pins s σ H Q I h
 refine wpAny_isTrue_Compare1 (thn (ha pins s σ H _ I h) fun v s1 ⟨x,H1,I1,r1,q1⟩=>thn (hb pins s1 σ H1 _ I1 q1) fun u s2 ⟨y,H2,I2,r2,q2⟩ =>
  thn (ho pins s2 σ H2 x y v u _ I2 r1 r2 q2) fun c s3 ⟨z,H3,I3,r3,k,e,q3⟩=>?_) hm
 subst e
 cases r3
 exact wpAny_truthy_bool ⟨H3,I3,q3⟩
def jrk_ (r r':R2)(ta tb tc:TE):TE:=fun σ H Q=>ta σ H fun x H1=>tb σ H1 fun y H2=>r x y H2 fun z H3=>∃ k,z=.bl k /\
 (if k=true then tc σ H3 fun w' H4=>r' y w' H4 Q else Q (.bl false) H3)
theorem jpb_ {op op':CmpOp}{r r':R2}(ho:OpR X (compareOp op) r)(ho':OpR X (compareOp op') r')(ha:PE X a ta)(hb:PE X b tb)(hc:PE X c tc)
  (hm:lastMarks [op,op'] [b,c]=false:=by with_unfolding_all rfl):PT X (.Compare a [op,op'] [b,c] pos) (jnw_ (jrk_ r r' ta tb tc)):=by
 intro pins s σ H Q I h
 refine isTrue_chain (thn (ha pins s σ H _ I h) fun v s1 ⟨x,H1,I1,r1,q1⟩=>test_link (thn (hb pins s1 σ H1 _ I1 q1) fun u s2 ⟨y,H2,I2,r2,q2⟩ =>
  thn (ho pins s2 σ H2 x y v u _ I2 r1 r2 q2) fun d s3 ⟨z,H3,I3,r3,k,e,q3⟩=>?_)) hm
 subst e
 cases r3
 refine wpAny_truthy_bool ?_
 cases k with
 | false =>
  obtain⟨k',e',q'⟩:=q3
  cases e'
  exact ite_ff ⟨H3,I3,q'⟩
 | true =>
  refine ite_tt (test_last (thn (hc pins s3 σ H3 _ I3 q3) fun w' s4 ⟨z',H4,I4,r4,q4⟩=>thn (ho' pins s4 σ H4 y z' u w' _ I4 r2 r4 q4) fun d' s5 ⟨z2,H5,I5,r5,k2,e2,q5⟩=>?_))
  subst e2
  cases r5
  exact wpAny_truthy_bool ⟨H5,I5,q5⟩
noncomputable def TruV (K:pc_)(x:V)(H:Hp)(k:Bool):Prop :=
 match x with
 | .non=>k=false
 | .bl b=>k=b
 | .int i=>k=(i != 0)
 | .str y=>y.length<=sizeLine/\k=((y.length:Int) != 0)
 | .byt y=>y.size<=sizeLine/\k=((y.size:Int) != 0)
 | .ref p=>(∃ xs,SqL K H p xs/\k=!xs.isEmpty)∨(∃ xs,SqT K H p xs/\k=!xs.isEmpty)∨∃ kvs,H p=some (.dK kvs)/\k=!kvs.isEmpty
 | _=>False
theorem jif_ {κ:Type}{kvs:List (κ×V)}{vs:List (κ×Value)}(r:KV kvs vs):(!vs.isEmpty)=!kvs.isEmpty:=by
 cases r <;> rfl
theorem jbb_ {xs:List V}{its:List Value}(r:Vals xs its):(!its.toArray.isEmpty)=!xs.isEmpty:=by
 cases r <;> simp
theorem vz_:(sizeLine:Nat) < 2 ^ 63:=by rw[sizeLine_eq];decide
theorem jwu_:TruR X (fun x H Q=>∃ k,TruV X.K x H k/\Q k H):=by
 intro pins s σ H x v Q I rx h
 obtain⟨k,e,q⟩:=h
 have hl:=vz_
 have hs:sizeLine=16777216:=sizeLine_eq
 cases x with
 | non =>
  cases rx
  have e':k=false:=e
  subst e'
  exact truthy_none ⟨H,I,q⟩
 | bl b =>
  cases rx
  have e':k=b:=e
  subst e'
  exact wpAny_truthy_bool ⟨H,I,q⟩
 | int i =>
  obtain⟨t,rfl⟩:=rx
  have e':k=(i != 0):=e
  subst e'
  exact PySem.P.truthy_int ⟨H,I,q⟩
 | str y =>
  obtain⟨t,rfl⟩:=rx
  obtain⟨hy,e'⟩:y.length<=sizeLine/\k=((y.length:Int) != 0):=e
  subst e'
  exact PySem.P.truthy_str (by omega) ⟨H,I.tok _,q⟩
 | byt y =>
  obtain⟨t,rfl⟩:=rx
  obtain⟨hy,e'⟩:y.size<=sizeLine/\k=((y.size:Int) != 0):=e
  subst e'
  exact PySem.W.truthy_bytes (by omega) ⟨H,I.tok _,q⟩
 | ref p =>
  cases rx
  have e':(∃ xs,SqL X.K H p xs/\k=!xs.isEmpty)∨(∃ xs,SqT X.K H p xs/\k=!xs.isEmpty)∨∃ kvs,H p=some (.dK kvs)/\k=!kvs.isEmpty:=e
  rcases e' with ⟨xs,hx,e'⟩ | ⟨xs,hx,e'⟩ | ⟨kvs,hx,e'⟩
  ·subst e'
   obtain⟨its,r,pl,hz⟩:=I.list hx
   have hlen:=r.length
   exact wpAny_truthy_list pl.isList (by simp only[pn_];omega) ⟨H,I.tok _,by rw[jbb_ r];exact q⟩
  ·subst e'
   obtain⟨its,r,pl,hz⟩:=I.tuple hx
   have hlen:=r.length
   exact truthy_tuple pl (by simp only[pn_];omega) ⟨H,I.tok _,by rw[jbb_ r];exact q⟩
  ·subst e'
   obtain⟨hz,hS,vs,r,m⟩:kvs.length<=sizeLine/\(p == sysModules)=false/\∃ vs,KV kvs vs/\s.heap.DictOf (zb_ X.prog X.w) p vs:=I.hok p _ hx
   have hlen:kvs.length=vs.length:=sz_ r
   exact wpAny_truthy_dict hS m (by omega) ⟨H,I.tok _,by rw[jif_ r];exact q⟩
 | _=>exact(show False from e).elim
theorem jjg_:OpR X (binaryOp .Add) (fun x y H Q=>∃ i j,x=.str i/\y=.str j/\i.length+j.length<=sizeLine/\Q (.str (i++j)) H):=by
 intro pins s σ H x y v u Q I rx ry h
 obtain⟨i,j,rfl,rfl,hz,q⟩:=h
 obtain⟨t,rfl⟩:=rx
 obtain⟨t',rfl⟩:=ry
 exact add_str (fun t' tk=>⟨.str (i++j),H,I.tok _,⟨_,rfl⟩,q⟩) hz
theorem vd_ {x:V}{us:List Value}(r:Vals [x] us):∃ u,us=[u]/\RelV x u:=by
 cases r with
 | cons r1 r2=>cases r2;exact⟨_,rfl,r1⟩
theorem jrs_ {x y:V}{us:List Value}(r:Vals [x,y] us):∃ u w',us=[u,w']/\RelV x u/\RelV y w':=by
 cases r with
 | cons r1 r2 =>
  cases r2 with
  | cons r3 r4=>cases r4;exact⟨_,_,rfl,r1,r3⟩
theorem jmi_ (hc:X.calm=true):CallR X (.builtin "max") (fun xs H Q=>∃ i j,xs=[.int i,.int j]/\Q (.int (if j > i then j else i)) H):=by
 intro pins s σ H xs us Q I r h
 obtain⟨i,j,rfl,q⟩:=h
 obtain⟨u,w',rfl,⟨t,rfl⟩,⟨t',rfl⟩⟩:=jrs_ r
 refine max_two_ints (I.ok.hd hc) fun h' tk k=>⟨_,H,I.kept k,?_,q⟩
 by_cases hj:j > i
 ·rw[if_pos hj,if_pos hj];exact⟨_,rfl⟩
 ·rw[if_neg hj,if_neg hj];exact⟨_,rfl⟩
theorem call_int1:CallR X (.type "int") (fun xs H Q=>(∃ i,xs=[.int i]/\Q (.int i) H)∨∃ k,xs=[.bl k]/\Q (.int (if k then 1 else 0)) H):=by
 intro pins s σ H xs us Q I r h
 rcases h with ⟨i,rfl,q⟩ | ⟨k,rfl,q⟩
 ·obtain⟨u,rfl,t,rfl⟩:=vd_ r
  exact call_int_int ⟨.int i,H,I,⟨_,rfl⟩,q⟩
 ·obtain⟨u,rfl,r1⟩:=vd_ r
  cases r1
  exact call_int_bool ⟨.int (if k then 1 else 0),H,I.tok _,⟨_,rfl⟩,q⟩
end
end L2
namespace L2
open PySem PySem.Spec PyProof.Rows
structure ObjM (h:Heap)(x dx C:Addr)(mA:Str->Option Value):Prop where
 obj:h.get? x=some (rn_ C dx)
 ns:h.Ns1 dx mA
 ne:dx≠x
theorem jni_ {h:Heap}{dx:Addr}{mA:Str->Option Value}(n:h.Ns1 dx mA):∃ od,h.get? dx=some od/\∀ name,t7_ name od=some (mA name):=by
 obtain⟨o,es,ep,ho,hd,hk,_,hm⟩:=n
 refine⟨o,ho,fun name=>?_⟩
 have e:=hm name
 unfold nsFind findBy at e
 rw[<- Array.find?_toList] at e
 unfold t7_
 rw[hd]
 dsimp only
 split
 ·rename_i y q
  rw[q] at e
  exact congrArg some e
 ·rename_i q
  rw[q] at e
  have a:es.toList.any (·.refKey)=false:=by
   rw[sl_]
   intro y hy
   obtain⟨z,t,hkey⟩:=hk y (Array.mem_toList_iff.mp hy)
   simp[DictEntry.refKey,hkey]
  have a':¬ es.toList.any (·.refKey)=true:=by rw[a];exact pi_
  rw[if_neg a']
  exact congrArg some e
theorem ObjM.look {h:Heap}{x dx C:Addr}{mA:Str->Option Value}(I:ObjM h x dx C mA):∃ od,PySem.W.InstAt h x (rn_ C dx) C (some od)/\∀ name,t7_ name od=some (mA name) :=
 let ⟨od,ho,hl⟩:=jni_ I.ns
 ⟨od,⟨I.obj,rfl,rfl,ho⟩,hl⟩
section
variable {prog:Program}{w:World}{A:Around}{E:Value->Shared->Prop}{s:Shared}{K:pc_}{x dx C f:Addr}{mA:Str->Option Value}{name:Str}{v:Value}
theorem jtd_ {expr:Bool}{Q:Value->Shared->Prop}(X:K.In s.heap)(I:ObjM s.heap x dx C mA)(hg:sr_ K C name=true)(hh:s4_ K C=true)
  (ha:qi_ K (.ref C) name=some none) (hv:mA name=some v) (hv':PySem.W.handedIn v=true) (h:Q v { s with toks:=s.toks+1 }) :
  wpAny (model prog w) A (getAttr (.ref x) name expr) Q E s:=by
 obtain⟨od,J,hl⟩:=I.look
 exact PySem.W.get_value X J (tr_ hg).1 (PySem.W.findObj_own hh ha rfl (by rw[hl,hv])) hv' h
theorem joe_ {pl:Sem Bool}{Q:Value×List Value->Shared->Prop}(X:K.In s.heap)(I:ObjM s.heap x dx C mA)(hg:sr_ K C name=true)
  (hf:qi_ K (.ref C) name=some (some (.ref f))) (ht:sa_ K (.ref f)=true) (hv:mA name=none) (h:Q (.ref f,[.ref x]) s) :
  wpAny (model prog w) A (getMethod (.ref x) name pl) Q E s:=by
 obtain⟨od,J,hl⟩:=I.look
 exact PySem.W.method_fn X J (tr_ hg).1 (tr_ hg).2 hf (beq_iff_eq.mp ht) (by show (t7_ name od).map (·.isSome)=some false;rw[hl,hv];rfl) h
theorem jsj_ {ns:List Str}{Q:Unit->Shared->Prop}(X:K.In s.heap)(I:ObjM s.heap x dx C mA)
  (hs:qi_ K (.ref C) "__setattr__"=some (some (.builtin "object.__setattr__"))) (hp:we_ K C=true) (ht:w3_ K C name=some none) (hh:s4_ K C=true)
  (hw:w2_ mA ns) (hsz:ns.length<=sizeLine)
  (h:∀ h',ObjM h' x dx C (fun y=>if y=name then some v else mA y)->qv_ dx s.heap h'->Q () { s with heap:=h',toks:=s.toks+2 }) :
  wpAny (model prog w) A (setAttr (.ref x) name v) Q E s:=by
 obtain⟨od,J,hl⟩:=I.look
 refine PySem.W.set_plain X J hs (PySem.W.osa_open (s:={ s with toks:=s.toks+1 }) (r:=none) X J hp ht fun b=>?_)
 obtain⟨cd,hc,hd'⟩:=PySem.W.any_some hh
 have hx:s.heap.get? x=some ⟨.ref C,some dx,.plain,#[]⟩:=I.obj
 refine wpAny_bind (wpAny_pure (wpAny_bind (wpAny_bind (wpAny_loadPart hx (wpAny_bind (PySem.W.Looks.here (s:={ s with toks:=s.toks+1 }) (PySem.W.looks_clsIn X hc) ?_))))))
 rw[hd']
 refine wpAny_pure (a:=some dx) (wpAny_bind (wpAny_pure (wpAny_bind ?_)))
 refine wpAny_nsSet1 (s:={ s with toks:=s.toks+1 }) I.ns fun h' hn2 hs2=>?_
 obtain⟨oD,esD,epD,hoD,hdD,hcD⟩:=hn2.count (w2_.cons name v hw)
 refine wpAny_bind (wpAny_lookBehind hoD (by rw[hdD];exact pastItsLine_dict (qe_ hcD (by rw[ps_];omega))) ?_)
 exact wpAny_pure (h _ ⟨(hs2.2 _ (tq_ I.ne)).trans I.obj,hn2,I.ne⟩ hs2)
theorem jpg_ {R:Result->Shared->Prop}{vs:List Value}{kw:List (Str×Value)}(X:K.In s.heap)(hm:w4_ K C=true)
  (hi:qi_ K (.ref C) "__init__"=some (some (.ref f))) (hf:PySem.W.typeIn K (.ref f)=some (.type "function"))
  (h:codeAny (model prog w) (A.under (.builtin "type.__call__" ⟨.ref C::vs,kw⟩)) (.call (.ref f) ⟨.ref (s.heap.objs.size+1)::vs,kw⟩) (PySem.W.InitBack (s.heap.objs.size+1) R)
   { s with heap:=(s.heap.push q7_).push (rn_ C s.heap.objs.size) }) :
  codeAny (model prog w) A (.call (.ref C) ⟨vs,kw⟩) R s:=by
 obtain⟨hh,g,d,t,os⟩:=s
 exact PySem.W.make_core (PySem.W.makes_of X hm) (PySem.W.looks_findIn X hi) (fun self=>PySem.W.bind_fn X self hf) (.inl rfl) h
end
noncomputable def putF (f:Str)(v:V):List (Str×V)->List (Str×V)
 | []=>[(f,v)]
 | (g,x)::r=>if g=f then (g,v)::r else (g,x)::putF f v r
theorem jae_ (f g:Str)(v:V):∀ fs:List (Str×V),(putF f v fs).lookup g=if g=f then some v else fs.lookup g
 | []=>by
  show s5_ g [(f,v)]=_
  by_cases h:g=f
  ·have hb:(g == f)=true:=beq_iff_eq.mpr h
   simp only[s5_,hb,if_pos h]
  ·have hb:(g == f)=false:=beq_eq_false_iff_ne.mpr h
   simp only[s5_,hb,if_neg h]
 | (k,x)::r=>by
  have ih:=jae_ f g v r
  rw[show putF f v ((k,x)::r)=(if k=f then (k,v)::r else (k,x)::putF f v r) from rfl]
  by_cases hk:k=f
  ·rw[if_pos hk]
   by_cases h:g=k
   ·have hb:(g == k)=true:=beq_iff_eq.mpr h
    simp only[s5_,hb,if_pos (h.trans hk)]
   ·have hb:(g == k)=false:=beq_eq_false_iff_ne.mpr h
    simp only[s5_,hb,if_neg (fun e:g=f=>h (e.trans hk.symm))]
  ·rw[if_neg hk]
   by_cases h:g=k
   ·have hb:(g == k)=true:=beq_iff_eq.mpr h
    simp only[s5_,hb,if_neg (fun e:g=f=>hk (h.symm.trans e))]
   ·have hb:(g == k)=false:=beq_eq_false_iff_ne.mpr h
    simp only[s5_,hb]
    exact ih
theorem u2_ (f:Str)(v:V):∀ fs:List (Str×V),f∈(putF f v fs).map (·.1)/\∀ g,g∈fs.map (·.1)->g∈(putF f v fs).map (·.1)
 | []=>⟨by simp[putF],fun g h=>by simp at h⟩
 | (k,x)::r=>by
  obtain⟨i1,i2⟩:=u2_ f v r
  rw[show putF f v ((k,x)::r)=(if k=f then (k,v)::r else (k,x)::putF f v r) from rfl]
  by_cases hk:k=f
  ·rw[if_pos hk]
   subst hk
   exact⟨by simp,fun g h=>by simpa using h⟩
  ·rw[if_neg hk]
   refine⟨?_,fun g h=>?_⟩
   ·rw[pp_]
    exact pj_ _ i1
   ·rw[pp_] at h ⊢
    rcases p0_.mp h with e | e
    ·exact p0_.mpr (.inl e)
    ·exact pj_ _ (i2 g e)
theorem jad_ (f:Str)(v:V):∀ fs:List (Str×V),(putF f v fs).length<=fs.length+1
 | []=>by simp[putF]
 | (k,x)::r=>by
  have ih:=jad_ f v r
  rw[show putF f v ((k,x)::r)=(if k=f then (k,v)::r else (k,x)::putF f v r) from rfl]
  by_cases hk:k=f
  ·rw[if_pos hk,ps_,ps_];omega
  ·rw[if_neg hk,ps_,ps_];omega
theorem RelO.some_of {v:V}{o:Option Value}(r:RelO (some v) o):∃ u,o=some u/\RelV v u:=by
 cases o with
 | none=>exact(show False from r).elim
 | some u=>exact⟨u,rfl,r⟩
theorem RelO.none_of {o:Option Value}(r:RelO none o):o=none:=by
 cases o with
 | none=>rfl
 | some u=>exact(show False from r).elim
theorem jnp_ {v:V}{u:Value}(r:RelV v u):PySem.W.handedIn u=true:=by
 cases v with
 | non=>cases (show u=Value.none from r);rfl
 | bl b=>cases (show u=Value.bool b from r);rfl
 | int i=>obtain⟨t,e⟩:=(show ∃ t,u=Value.int i t from r);cases e;rfl
 | str x=>obtain⟨t,e⟩:=(show ∃ t,u=Value.str x t from r);cases e;rfl
 | byt b=>obtain⟨t,e⟩:=(show ∃ t,u=Value.bytes b t from r);cases e;rfl
 | flt b=>obtain⟨t,e⟩:=(show ∃ t,u=Value.float b t from r);cases e;rfl
 | ref a=>cases (show u=Value.ref a from r);rfl
 | ty n=>cases (show u=Value.type n from r);rfl
section
variable {P:Program}{w:World}{H H':Hp}{h h':Heap}{a C dx:Addr}{fs fs':List (Str×V)}
theorem jew_ (hok:HOk P w H h)(e:H a=some (.ins C dx fs)):∃ mA,ObjM h a dx C mA/\(∀ f,RelO (fs.lookup f) (mA f))/\w2_ mA (fs.map (·.1))/\fs.length<=1000/\H dx=some (.own a):=by
 obtain⟨d,z,ne,ob,mA,n,r,q⟩:=(show ObjOk P w H h a (.ins C dx fs) from hok a _ e)
 exact⟨mA,⟨ob,n,ne⟩,r,q,z,d⟩
end
structure Cls (K:pc_)(C:Addr):Prop where
 pg:sr_ K C Str.empty=true
 hd:s4_ K C=true
 po:we_ K C=true
 sa:qi_ K (.ref C) "__setattr__"=some (some (.builtin "object.__setattr__"))
theorem Cls.get {K:pc_}{C:Addr}(c:Cls K C)(f:Str):sr_ K C f=true:=c.pg
def NoAttr (K:pc_)(C:Addr)(f:Str):Prop:=qi_ K (.ref C) f=some none
theorem NoAttr.taker {K:pc_}{C:Addr}{f:Str}(n:NoAttr K C f):w3_ K C f=some none:=by
 unfold w3_
 rw[show qi_ K (.ref C) f=some none from n]
 rfl
structure Con (K:pc_)(C:Addr)(f:Str)(v:V)(u:Value):Prop where
 at_:qi_ K (.ref C) f=some (some u)
 rel:RelV v u
 get:k1_ K u "__get__"=some none
 cp:PySem.W.copiedNames.contains f=false
structure Meth (K:pc_)(C:Addr)(m:Str)(f:Addr):Prop where
 at_:qi_ K (.ref C) m=some (some (.ref f))
 fn:sa_ K (.ref f)=true
 kp:rz_ K (.ref f)=true
section
variable {X:Cx}{pins:List (Addr×Obj)}{σ:St}{H:Hp}{s:Shared}{a C dx:Addr}{fs:List (Str×V)}{f:Str}{v:V}{A:Around}{E:Value->Shared->Prop}
theorem jjn_ {b:Bool}{Q:Value->Shared->Prop}(I:Inv X pins σ H s)(e:H a=some (.ins C dx fs))(c:Cls X.K C)(n:NoAttr X.K C f)(l:fs.lookup f=some v)
  (h:∀ u s',Inv X pins σ H s'->RelV v u->Q u s'):wpAny (model X.prog X.w) A (getAttr (.ref a) f b) Q E s:=by
 obtain⟨mA,O,r,_,_,_⟩:=jew_ I.hok e
 obtain⟨u,hu,ru⟩:=RelO.some_of (v:=v) (o:=mA f) (by rw[<- l];exact r f)
 exact jtd_ I.kIn O (c.get f) c.hd n hu (jnp_ ru) (h u _ (I.tok _) ru)
theorem v6_ {m:Str}{g:Addr}{pl:Sem Bool}{Q:Value×List Value->Shared->Prop}(I:Inv X pins σ H s)(e:H a=some (.ins C dx fs))(c:Cls X.K C)(k:Meth X.K C m g)(l:fs.lookup m=none)
  (h:Q (.ref g,[.ref a]) s):wpAny (model X.prog X.w) A (getMethod (.ref a) m pl) Q E s:=by
 obtain⟨mA,O,r,_,_,_⟩:=jew_ I.hok e
 have hn:mA m=none:=RelO.none_of (by rw[<- l];exact r m)
 exact joe_ I.kIn O (c.get m) k.at_ k.fn hn h
theorem jjx_ {y:V}{u:Value}{Q:Unit->Shared->Prop}(I:Inv X pins σ H s)(e:H a=some (.ins C dx fs))(c:Cls X.K C)(n:NoAttr X.K C f)(hl:fs.length < 1000)(ry:RelV y u)
  (h:∀ s',Inv X pins σ (upd H a (.ins C dx (putF f y fs))) s'->Q () s'):wpAny (model X.prog X.w) A (setAttr (.ref a) f u) Q E s:=by
 obtain⟨mA,O,r,wi,_,ho⟩:=jew_ I.hok e
 have hz:(fs.map (·.1)).length<=sizeLine:=by rw[pb_,sizeLine_eq];omega
 refine jsj_ I.kIn O c.sa c.po n.taker c.hd wi hz fun h' O' sb=>h _ ?_
 have hd:∃ o,h'.get? dx=some o:=let ⟨o,_,_,e',_⟩:=O'.ns;⟨o,e'⟩
 refine I.write (x:=a) (e:=dx) (by rw[e];exact True.intro) (.inr ho) (fun b q hb z=>(sb.2 b hb).trans z) hd ?_
 refine⟨by rw[ji_ O.ne];exact ho,?_,O.ne,O'.obj,_,O'.ns,fun g=>?_,fun g hg=>?_⟩
 ·have:=jad_ f y fs;omega
 ·show RelO ((putF f y fs).lookup g) (if g=f then some u else mA g)
  rw[jae_]
  by_cases q:g=f
  ·rw[if_pos q,if_pos q];exact ry
  ·rw[if_neg q,if_neg q];exact r g
 ·by_cases q:g=f
  ·rw[q];exact(u2_ f y fs).1
  ·refine(u2_ f y fs).2 g (wi g fun z=>hg ?_)
   show (if g=f then some u else mA g)=none
   rw[if_neg q];exact z
theorem Inv.made (I:Inv X pins σ H s):Inv X pins σ (upd (upd H s.heap.objs.size (.own (s.heap.objs.size+1))) (s.heap.objs.size+1) (.ins C s.heap.objs.size []))
  { s with heap:=(s.heap.push q7_).push (rn_ C s.heap.objs.size) }:=by
 have e1:(s.heap.push q7_).get? s.heap.objs.size=some q7_:=pv_ s.heap rfl
 have e2:((s.heap.push q7_).push (rn_ C s.heap.objs.size)).get? (s.heap.objs.size+1)=some (rn_ C s.heap.objs.size):=by
  have:=pv_ (s.heap.push q7_) (o:=rn_ C s.heap.objs.size) rfl
  rwa [qx_] at this
 have e3:(s.heap.push q7_).Ns s.heap.objs.size (fun _=>none):=⟨q7_,#[],_,e1,rfl,(fun e he=>absurd he (by simp)),fun _=>rfl⟩
 have I1:=I.laid (a:=s.heap.objs.size) (o:=.own (s.heap.objs.size+1)) (h':=s.heap.push q7_) (t':=s.toks) (fun b u q=>pd_ _ q) (po_ _) ⟨_,e1⟩
 refine I1.laid (a:=s.heap.objs.size+1) (o:=.ins C s.heap.objs.size []) (t':=s.toks) (fun b u q=>pd_ _ q) (Nat.le_of_eq (qx_ _ _)) ?_
 have ne:s.heap.objs.size≠s.heap.objs.size+1:=p6_ (sd_ _)
 refine⟨by rw[ji_ ne,jb_],qz_ _,ne,e2,fun _=>none,(Heap.Ns1.of_empty e3).at fun o q=>pd_ _ q,fun _=>True.intro,fun y hy=>absurd rfl hy⟩
theorem jsy_ {prog:Program}{w:World}{env:Env}{e:Expr}{f:Str}{pos:Pos}{s:Shared}{Q:Value->Shared->Prop}(hb:attributeBase e f env (eval e env)=eval e env)
  (h:wpAny (model prog w) A (eval e env) (fun o s₁=>wpAny (model prog w) A (getAttr o f true) Q E s₁) E s):wpAny (model prog w) A (eval (.Attribute e f pos) env) Q E s :=
 Attribute_any_ h (by rw[arm_eval_Attribute,hb])
end
def tFld (K:pc_)(ta:TE)(f:Str):TE:=fun σ H Q=>ta σ H fun x H1=>∃ a C dx fs v,x=.ref a/\H1 a=some (.ins C dx fs)/\Cls K C/\NoAttr K C f/\fs.lookup f=some v/\Q v H1
def sFld (K:pc_)(ta tv:TE)(f:Str):TS:=fun D σ H=>tv σ H fun y H1=>ta σ H1 fun x H2=>∃ a C dx fs,x=.ref a/\H2 a=some (.ins C dx fs)/\Cls K C/\NoAttr K C f/\fs.length < 1000 /\
 D.nx σ (upd H2 a (.ins C dx (putF f y fs)))
section
variable {X:Cx}{o e value:Expr}{f:Str}{pos pos' tpos:Pos}{ta tv:TE}
theorem jhz_ (he:PE X e ta)(hb:attributeBase e f X.env (eval e X.env)=eval e X.env):PE X (.Attribute e f pos) (tFld X.K ta f):=by
 intro pins s σ H Q I h
 refine jsy_ hb (thn (he pins s σ H _ I h) fun u s1 ⟨x,H1,I1,rx,a,C,dx,fs,v,ex,ea,c,n,l,q⟩=>?_)
 subst ex
 obtain rfl:u=Value.ref a:=rx
 exact jjn_ I1 ea c n l fun u' s2 I2 ru=>⟨v,H1,I2,ru,q⟩
theorem jjh_ (ha:PE X o ta)(hv:PE X value tv)(hs:swapsWith value (some (.Attribute o f pos')) pos.line X.env=pure false):PS X (.Assign [.Attribute o f pos'] value pos) (sFld X.K ta tv f):=by
 intro pins s σ H D I h
 refine plainObj_wpAny_Assign_Attribute (thn (hv pins s σ H _ I h) fun u s1 ⟨y,H1,I1,ry,q⟩=>thn (ha pins s1 σ H1 _ I1 q) fun ov s2 ⟨x,H2,I2,rx,a,C,dx,fs,ex,ea,c,n,l,q2⟩=>?_) hs
 subst ex
 obtain rfl:ov=Value.ref a:=rx
 exact jjx_ I2 ea c n l ry fun s3 I3=>⟨σ,_,I3,q2⟩
theorem jvg_ {pl:Sem Bool}{m:Str}{apos:Pos}{args:List Expr}{pins:List (Addr×Obj)}{s:Shared}{σ:St}{H:Hp}{Q:Value->Shared->Prop}{te:TE}(he:PE X e te)(I:Inv X pins σ H s)
  (h:te σ H fun x H1=>∃ a C dx fs g,x=.ref a/\H1 a=some (.ins C dx fs)/\Cls X.K C/\Meth X.K C m g/\fs.lookup m=none /\
   ∀ s1,Inv X pins σ H1 s1->wpAny (model X.prog X.w) X.A (callWith pos (.ref g) [.ref a] (backTo pos (starEach args X.env)) (backToKw pos (keywordEach [] X.env))) Q X.xe s1)
  (ht:eval (.Call (.Attribute e m apos) args [] pos) X.env=(do
   let ov <- eval e X.env
   standAt apos.atName
   let (f,first) <- holding [ov] (getMethod ov m pl)
   callWith pos f first (backTo pos (starEach args X.env)) (backToKw pos (keywordEach [] X.env)))) :
  wpAny (model X.prog X.w) X.A (eval (.Call (.Attribute e m apos) args [] pos) X.env) Q X.xe s:=by
 refine ta_ (pl:=pl) (thn (he pins s σ H _ I h) fun u s1 ⟨x,H1,I1,rx,a,C,dx,fs,g,ex,ea,c,k,l,q⟩=>?_) ht
 subst ex
 obtain rfl:u=Value.ref a:=rx
 exact v6_ I1 ea c k l (q s1 I1)
end
section
variable {X:Cx}{pins:List (Addr×Obj)}{σ:St}{H:Hp}{s:Shared}{A:Around}{E:Value->Shared->Prop}{Q:Value->Shared->Prop}{c:Value}{b:Bool}
inductive TyOf (K:pc_) (H:Hp):V->Value->Prop where
 | non:TyOf K H .non (.type "NoneType")
 | bl (x:Bool):TyOf K H (.bl x) (.type "bool")
 | int (i:Int):TyOf K H (.int i) (.type "int")
 | str (x:Str):TyOf K H (.str x) (.type "str")
 | flt (x:UInt64):TyOf K H (.flt x) (.type "float")
 | lst {a:Addr}{xs:List V} (e:H a=some (.lst xs)):TyOf K H (.ref a) (.type "list")
 | frz {a:Addr}{o:Obj}{xs:List V} (e:H a=some (.frz o (.lst xs))):TyOf K H (.ref a) (.type "list")
 | tup {a:Addr}{xs:List V} (e:H a=some (.tup xs)):TyOf K H (.ref a) (.type "tuple")
 | dK {a:Addr}{kvs:List (Key×V)} (e:H a=some (.dK kvs)):TyOf K H (.ref a) (.type "dict")
 | dT {a:Addr}{kvs:List (List Key×V)} (e:H a=some (.dT kvs)):TyOf K H (.ref a) (.type "dict")
 | ins {a C dx:Addr}{fs:List (Str×V)} (e:H a=some (.ins C dx fs)) (cl:Cls K C) (ha:qi_ K (.ref C) "__class__"=some (some (.builtin "object.__class__")))
   (hn:k1_ K (.builtin "object.__class__") "__get__"=some (some (.builtin "getset_descriptor.__get__"))) (htk:PySem.W.takesIn K (.builtin "object.__class__")=some true)
   (hm:PySem.W.mroIn K C (.type "object")=some true):TyOf K H (.ref a) (.ref C)
end
end L2
namespace L2
open PySem PySem.Spec PyProof.Rows
structure Room (k:Nat)(A:Around):Prop where
 hd:A.handled=none
 dp:A.depth+3 * k+5 < recursionLimit
 un:A.units+16 * k+200 < cLine
theorem Room.mono {j k:Nat}{A:Around}(r:Room k A)(h:j<=k):Room j A:=⟨r.hd,by have:=r.dp;omega,by have:=r.un;omega⟩
theorem Room.deeper {k:Nat}{A:Around}(r:Room (k+1) A)(env:Env):Room k (A.deeper env) :=
 ⟨r.hd,by have:=r.dp;show A.depth+1+3 * k+5 < _;omega,by have:=r.un;show A.units+3+16 * k+200 < _;omega⟩
theorem jis_ {A:Around}{C:Addr}{us:List Value}{kw:List (Str×Value)}:(A.under (.builtin "type.__call__" ⟨.ref C::us,kw⟩)).depth=A.depth+1:=by
 first | rfl | simp[k5_,Code.weight,Code.isCreation,Code.isGuard,Code.isCaller,Code.frames,k6_,guardIds]
theorem jjv_ {A:Around}{C:Addr}{us:List Value}{kw:List (Str×Value)}:(A.under (.builtin "type.__call__" ⟨.ref C::us,kw⟩)).units=A.units+1:=by
 first | rfl | simp[k5_,Code.cUnits,Code.frames,k6_]
theorem Room.make {k:Nat}{A:Around}(r:Room (k+1) A)(C:Addr)(us:List Value)(kw:List (Str×Value)):Room k (A.under (.builtin "type.__call__" ⟨.ref C::us,kw⟩)) :=
 ⟨r.hd,by have:=r.dp;rw[jis_];omega,by have:=r.un;rw[jjv_];omega⟩
theorem Room.depth {k:Nat}{A:Around}(r:Room k A):A.depth < recursionLimit:=by have:=r.dp;omega
theorem Room.units {k:Nat}{A:Around}(r:Room k A):A.units+64 < cLine:=by have:=r.un;omega
def tNil:TA:=fun _ H Q=>Q [] H
def jvd_ (ta:TE)(tr:TA):TA:=fun σ H Q=>ta σ H fun x H1=>tr σ H1 fun xs H2=>Q (x::xs) H2
section
variable {X:Cx}{e:Expr}{es:List Expr}{te:TE}{t:TA}{pos:Pos}
theorem je_:PA X [] tNil:=fun _ _ _ _ H Q I h=>sm_ ⟨[],H,I,.nil,h⟩
theorem ja_ (ha:PE X e te)(hr:PA X es t)(hs:starEach (e::es) X.env=(false,eval e X.env)::starEach es X.env:=by rfl):PA X (e::es) (jvd_ te t):=by
 intro pos pins s σ H Q I h
 rw[hs]
 show wpAny _ _ (spliced ((false,eval e X.env)::backTo pos (starEach es X.env))) _ _ s
 refine rj_ (thn (ha pins s σ H _ I h) fun u s1 ⟨x,H1,I1,r1,q1⟩=>?_)
 exact thn (hr pos pins s1 σ H1 _ I1 q1) fun us s2 ⟨xs,H2,I2,r2,q2⟩=>⟨x::xs,H2,I2,.cons r1 r2,q2⟩
def tTup (t:TA):TE:=fun σ H Q=>t σ H fun xs H1=>xs.length<=sizeLine/\∀ p,H1 p=none->Q (.ref p) (upd H1 p (.tup xs))
def tLst (t:TA):TE:=fun σ H Q=>t σ H fun xs H1=>xs.length<=sizeLine/\∀ p,H1 p=none->Q (.ref p) (upd H1 p (.lst xs))
theorem zd_ {x1}(h:PA X es t):PE X (.Tuple es x1 pos) (tTup t):=by
 intro pins s σ H Q I hq
 refine wpAny_Tuple_spliced (thn (h pos pins s σ H _ I hq) fun us s1 ⟨xs,H1,I1,r,z,q⟩=>⟨by rw[<- r.length];exact z,?_⟩)
 have hf:H1 s1.heap.objs.size=none:=I1.hok.fresh (po_ _)
 refine⟨.ref s1.heap.objs.size,upd H1 s1.heap.objs.size (.tup xs),I1.laid (t':=s1.toks) (fun b u e=>pd_ _ e) (po_ _) ?_,rfl,q _ hf⟩
 exact⟨z,us,r,⟨_,pv_ _ rfl,rfl,_,rfl⟩,DcN.new _ _⟩
theorem j0_ (h:PA X es t):PE X (.List es pos) (tLst t):=by
 intro pins s σ H Q I hq
 refine wpAny_List_spliced (thn (h pos pins s σ H _ I hq) fun us s1 ⟨xs,H1,I1,r,z,q⟩=>⟨by rw[<- r.length];exact z,?_⟩)
 have hf:H1 s1.heap.objs.size=none:=I1.hok.fresh (po_ _)
 refine⟨.ref s1.heap.objs.size,upd H1 s1.heap.objs.size (.lst xs),I1.laid (t':=s1.toks) (fun b u e=>pd_ _ e) (po_ _) ?_,rfl,q _ hf⟩
 exact⟨z,us,0,r,pv_ _ rfl⟩
end
abbrev Sp:=List V->Hp->VK->XK->Prop
abbrev CXT:=List Env->Hp->Shared->XK->Value->Shared->Prop
structure Env0 (P:Program)(w:World)(K:pc_)(mg:Str->Option Value)(base:Heap)(A:Around)(outer:List Env)(s:Shared)(H:Hp):Prop where
 frames:A.frames=some outer
 mod:Mod K mg base
 bs:∀ b o,base.get? b=some o->s.heap.get? b=some o/\H b=none
 bsz:base.objs.size<=s.heap.objs.size
 funs:s.heap.FunFrames base outer
 frf:∀ b∈frs outer,H b=none
 hok:HOk P w H s.heap
 bare:AllBare s.gens
noncomputable def CE (outer:List Env)(P:Program)(w:World)(H:Hp)(s:Shared)(Q:VK)(u:Value)(s':Shared):Prop :=
 ∃ v H',s'.os=s.os/\AllBare s'.gens/\Un (frs outer) [] H H' s.heap s'.heap/\HOk P w H' s'.heap/\RelV v u/\Q v H'
noncomputable def CR (CX:CXT)(outer:List Env)(P:Program)(w:World)(H:Hp)(s:Shared)(Q:VK)(E:XK)(r:Result)(s':Shared):Prop :=
 match r with
 | .ok (.ret u)=>CE outer P w H s Q u s'
 | .ok _=>False
 | .error e=>CX outer H s E e s'
structure FnOk (P:Program)(w:World)(K:pc_)(mg:Str->Option Value)(base:Heap)(CX:CXT)(k:Nat)(f:Addr)(fd:FuncData)(ps:List Str)(sp:Sp):Prop where
 len:∀ vs H Q E,sp vs H Q E->vs.length=ps.length
 run:∀(A:Around) (outer:List Env) (s:Shared) (H:Hp) (args:Args) (us:List Value) (vs:List V) (Q:VK) (E:XK),Room k A->Env0 P w K mg base A outer s H->BindsTo s fd args (ps.zip us)->Vals vs us->sp vs H Q E ->
  codeAny (model P w) A (.call (.ref f) args) (CR CX outer P w H s Q E) s
theorem Env0.make {P:Program}{w:World}{K:pc_}{mg:Str->Option Value}{base:Heap}{A:Around}{outer:List Env}{s:Shared}{H:Hp}(e:Env0 P w K mg base A outer s H)(C:Addr)(us:List Value)(kw:List (Str×Value)) :
  Env0 P w K mg base (A.under (.builtin "type.__call__" ⟨.ref C::us,kw⟩)) outer s H:=⟨by first | exact e.frames | (simpa [k5_,Code.envs,k6_,pushEnvs] using e.frames),e.mod,e.bs,e.bsz,e.funs,e.frf,e.hok,e.bare⟩
section
variable {X:Cx}{pins:List (Addr×Obj)}{σ:St}{H:Hp}{s s':Shared}
theorem Inv.env0 (I:Inv X pins σ H s):Env0 X.prog X.w X.K X.mg X.base X.A X.stack s H :=
 ⟨I.ok.frames,I.ok.mod,I.bs,qe_ I.ok.bsz I.sz,I.stack,I.stkFree,I.hok,I.bare⟩
theorem Inv.after {Q:VK}{u:Value}(I:Inv X pins σ H s)(h:CE X.stack X.prog X.w H s Q u s'):EP X pins σ Q u s':=by
 obtain⟨v,H',os,bare,un,hok,r,q⟩:=h
 obtain⟨hh,g,d,t,os'⟩:=s'
 obtain rfl:os'=s.os:=os
 exact⟨v,H',I.call (h':=hh) (g':=g) (d':=d) (t':=t) (ch:=[]) un hok bare (fun b z=>absurd z (by simp)),r,q⟩
end
def jsa_ (sp:Sp)(dvs:List V)(E:XK)(t:TA):TE:=fun σ H Q=>t σ H fun vs H1=>sp (vs++dvs) H1 Q E
def jhe_ (C:Addr)(m:Str)(sp:Sp)(dvs:List V)(E:XK)(ta:TE)(t:TA):TE:=fun σ H Q=>ta σ H fun x H1=>∃ a dx fs,x=.ref a/\H1 a=some (.ins C dx fs)/\fs.lookup m=none /\
 t σ H1 fun vs H2=>sp (x::(vs++dvs)) H2 Q E
def jqt_ (C:Addr)(sp:Sp)(dvs:List V)(E:XK)(t:TA):TE:=fun σ H Q=>t σ H fun vs H1=>∀ x dx,H1 x=none->H1 dx=none->dx≠x ->
 sp (.ref x::(vs++dvs)) (upd (upd H1 dx (.own x)) x (.ins C dx [])) (fun v H2=>v=.non/\Q (.ref x) H2) E
noncomputable def Binds (K:pc_)(fd:FuncData)(ps:List Str)(ds:List Value):Prop :=
 ∀(s:Shared) (us:List Value),K.In s.heap->(us++ds).length=ps.length->BindsTo s fd ⟨us,[]⟩ (ps.zip (us++ds))
theorem Binds.all {K:pc_}{fd:FuncData}{ps:List Str}(h:∀ us:List Value,us.length=ps.length->bindArgs fd ⟨us,[]⟩=pure (ps.zip us)):Binds K fd ps []:=fun s us _ hl=>by
 rw[qq_] at hl ⊢
 exact .of_eq (h us hl)
def v3_ (CX:CXT)(X:Cx)(E:XK):Prop:=∀(pins:List (Addr×Obj)) (σ:St) (H:Hp) (s:Shared) (e:Value) (s':Shared),Inv X pins σ H s->CX X.stack H s E e s'->X.xe e s'
section
variable {X:Cx}{CX:CXT}{k:Nat}{f C:Addr}{fd:FuncData}{ps:List Str}{sp:Sp}{dvs:List V}{ds:List Value}{E:XK}{x m:Str}{p pos apos:Pos}{e o:Expr}{es:List Expr}{ta:TE}{t:TA}
theorem jiv_ {pins:List (Addr×Obj)}{σ:St}{H:Hp}{s:Shared}{Q:VK}{us:List Value}{vs:List V}(F:FnOk X.prog X.w X.K X.mg X.base CX k f fd ps sp)(hr:Room k X.A)(hb:Binds X.K fd ps ds)(hd:Vals dvs ds)(hx:v3_ CX X E)
  (I:Inv X pins σ H s) (r:Vals vs us) (h:sp (vs++dvs) H Q E):wpAny (model X.prog X.w) X.A (call (.ref f) us) (EP X pins σ Q) X.xe s:=by
 have r2:Vals (vs++dvs) (us++ds):=r.append hd
 have hl:(us++ds).length=ps.length:=by rw[<- r2.length];exact F.len _ _ _ _ h
 refine wpAny_call (codeAny_mono (F.run X.A X.stack s H ⟨us,[]⟩ (us++ds) (vs++dvs) Q E hr I.env0 (hb s us I.kIn hl) r2 h) fun r s' hq=>?_)
 cases r with
 | error e=>exact hx pins σ H s e s' I hq
 | ok fl =>
  cases fl with
  | ret u=>exact I.after hq
  | next=>exact ru_ hq
  | brk=>exact ru_ hq
  | cont=>exact ru_ hq
theorem jtt_ (F:FnOk X.prog X.w X.K X.mg X.base CX k f fd ps sp)(hr:Room k X.A)(hg:Gl X x)(hm:X.mg x=some (.ref f))(hk:rz_ X.K (.ref f)=true)(hb:Binds X.K fd ps ds)(hd:Vals dvs ds)(hx:v3_ CX X E)
  (ha:PA X (e::es) t) (hdb:(x == ("__debug__":Str))=false:=by decide) (he:starEach (e::es) X.env=(false,eval e X.env)::starEach es X.env:=by rfl) (hpl:(backTo pos (starEach es X.env)).any (·.1)=false:=by rfl) :
  PE X (.Call (.Name x p) (e::es) [] pos) (jsa_ sp dvs E t):=by
 intro pins s σ H Q I h
 refine wpAny_Call_Name_kw (jfj_ I hg hm ?_ hdb)
 refine t3_ (h₀:=X.base) I.ok.mod.kin hk (thn (ha pos pins s σ H _ I h) fun us s1 ⟨vs,H1,I1,r,q⟩=>⟨I1.kIn,?_⟩) he hpl
 exact jiv_ F hr hb hd hx I1 r q
theorem jsq_ {pl:Sem Bool}(he:PE X o ta)(c:Cls X.K C)(hm:Meth X.K C m f)(F:FnOk X.prog X.w X.K X.mg X.base CX k f fd ps sp)(hr:Room k X.A)(hb:Binds X.K fd ps ds)(hd:Vals dvs ds)(hx:v3_ CX X E)(ha:PA X (e::es) t)
  (hst:starEach (e::es) X.env=(false,eval e X.env)::starEach es X.env:=by rfl) (hpl:(backTo pos (starEach es X.env)).any (·.1)=false:=by rfl)
  (ht:eval (.Call (.Attribute o m apos) (e::es) [] pos) X.env=(do
   let ov <- eval o X.env
   standAt apos.atName
   let (f,first) <- holding [ov] (getMethod ov m pl)
   callWith pos f first (backTo pos (starEach (e::es) X.env)) (backToKw pos (keywordEach [] X.env))):=by rfl) :
  PE X (.Call (.Attribute o m apos) (e::es) [] pos) (jhe_ C m sp dvs E ta t):=by
 intro pins s σ H Q I h
 refine ta_ (pl:=pl) (thn (he pins s σ H _ I h) fun u s1 ⟨x,H1,I1,rx,a,dx,fs,ex,ea,l,q⟩=>?_) ht
 subst ex
 obtain rfl:u=Value.ref a:=rx
 refine v6_ I1 ea c hm l ?_
 refine t3_ (first:=[.ref a]) (h₀:=X.base) I.ok.mod.kin hm.kp (thn (ha pos pins s1 σ H1 _ I1 q) fun us s2 ⟨vs,H2,I2,r,q2⟩=>⟨I2.kIn,?_⟩) hst hpl
 exact jiv_ (us:=.ref a::us) (vs:=.ref a::vs) F hr hb hd hx I2 (.cons rfl r) q2
theorem jny_ {pl:Sem Bool}(he:PE X o ta)(c:Cls X.K C)(hm:Meth X.K C m f)(F:FnOk X.prog X.w X.K X.mg X.base CX k f fd ps sp)(hr:Room k X.A)(hb:Binds X.K fd ps ds)(hd:Vals dvs ds)(hx:v3_ CX X E)
  (ht:eval (.Call (.Attribute o m apos) [] [] pos) X.env=(do
   let ov <- eval o X.env
   standAt apos.atName
   let (f,first) <- holding [ov] (getMethod ov m pl)
   callWith pos f first (backTo pos (starEach [] X.env)) (backToKw pos (keywordEach [] X.env))):=by rfl) :
  PE X (.Call (.Attribute o m apos) [] [] pos) (jhe_ C m sp dvs E ta tNil):=by
 intro pins s σ H Q I h
 refine ta_ (pl:=pl) (thn (he pins s σ H _ I h) fun u s1 ⟨x,H1,I1,rx,a,dx,fs,ex,ea,l,q⟩=>?_) ht
 subst ex
 obtain rfl:u=Value.ref a:=rx
 refine v6_ I1 ea c hm l ?_
 exact PySem.W.callWith_K0 (first:=[.ref a]) I1.kIn hm.kp (jiv_ (us:=[.ref a]) (vs:=[.ref a]) F hr hb hd hx I1 (.cons rfl .nil) q)
structure Mk (K:pc_)(C f:Addr):Prop where
 makes:w4_ K C=true
 init:qi_ K (.ref C) "__init__"=some (some (.ref f))
 fn:sa_ K (.ref f)=true
 kp:rz_ K (.ref C)=true
theorem jqx_ {pins:List (Addr×Obj)}{σ:St}{H:Hp}{s:Shared}{Q:VK}{us:List Value}{vs:List V}(M:Mk X.K C f)(F:FnOk X.prog X.w X.K X.mg X.base CX k f fd ps sp)(hr:Room (k+1) X.A)(hb:Binds X.K fd ps ds)(hd:Vals dvs ds)
  (hx:v3_ CX X E) (I:Inv X pins σ H s) (r:Vals vs us)
  (h:∀ x dx,H x=none->H dx=none->dx≠x->sp (.ref x::(vs++dvs)) (upd (upd H dx (.own x)) x (.ins C dx [])) (fun v H2=>v=.non/\Q (.ref x) H2) E) :
  wpAny (model X.prog X.w) X.A (call (.ref C) us) (EP X pins σ Q) X.xe s:=by
 have hq:=h (s.heap.objs.size+1) s.heap.objs.size (I.hok.fresh (wm_ _)) (I.hok.fresh (po_ _)) (p6_ (sd_ _))
 have I2:=Inv.made (C:=C) I
 have r2:Vals (V.ref (s.heap.objs.size+1)::(vs++dvs)) (Value.ref (s.heap.objs.size+1)::(us++ds)):=.cons rfl (r.append hd)
 have hl:(Value.ref (s.heap.objs.size+1)::us++ds).length=ps.length:=by
  have e:=r2.length
  rw[F.len _ _ _ _ hq] at e
  exact e.symm
 refine wpAny_call (jpg_ (f:=f) I.kIn M.makes M.init (beq_iff_eq.mp M.fn) (codeAny_mono (F.run _ X.stack _ _ ⟨Value.ref (s.heap.objs.size+1)::us,[]⟩ (Value.ref (s.heap.objs.size+1)::(us++ds)) _ _ E (hr.make C us [])
  (I2.env0.make C us []) (hb _ (Value.ref (s.heap.objs.size+1)::us) I2.kIn hl) r2 hq) fun r s' hq'=>?_))
 cases r with
 | error e=>exact hx pins σ _ _ e s' I2 hq'
 | ok fl =>
  cases fl with
  | ret u =>
   obtain⟨v,H',I3,rv,ev,q3⟩:=I2.after hq'
   subst ev
   exact⟨rv,⟨V.ref (s.heap.objs.size+1),H',I3,rfl,q3⟩⟩
  | next=>exact ru_ hq'
  | brk=>exact ru_ hq'
  | cont=>exact ru_ hq'
theorem jub_ (M:Mk X.K C f)(F:FnOk X.prog X.w X.K X.mg X.base CX k f fd ps sp)(hr:Room (k+1) X.A)(hg:Gl X x)(hm:X.mg x=some (.ref C))(hb:Binds X.K fd ps ds)(hd:Vals dvs ds)(hx:v3_ CX X E)
  (ha:PA X (e::es) t) (hdb:(x == ("__debug__":Str))=false:=by decide) (he:starEach (e::es) X.env=(false,eval e X.env)::starEach es X.env:=by rfl) (hpl:(backTo pos (starEach es X.env)).any (·.1)=false:=by rfl) :
  PE X (.Call (.Name x p) (e::es) [] pos) (jqt_ C sp dvs E t):=by
 intro pins s σ H Q I h
 refine wpAny_Call_Name_kw (jfj_ I hg hm ?_ hdb)
 refine t3_ (h₀:=X.base) I.ok.mod.kin M.kp (thn (ha pos pins s σ H _ I h) fun us s1 ⟨vs,H1,I1,r,q⟩=>⟨I1.kIn,?_⟩) he hpl
 exact jqx_ M F hr hb hd hx I1 r q
end
section
variable {X:Cx}{CX:CXT}{k:Nat}{f C:Addr}{fd:FuncData}{ps ks:List Str}{sp:Sp}{E:XK}{x m:Str}{p pos apos kpos:Pos}{e o:Expr}{es:List Expr}{kws:List Keyword}{te ta:TE}{t tk:TA}{nm:Option Str}
structure KBinds (K:pc_)(fd:FuncData)(ps ks:List Str)(g:List Value->List Value->List Value)(gV:List V->List V->List V):Prop where
 to:∀(s:Shared) (us ws:List Value),K.In s.heap->(g us ws).length=ps.length->BindsTo s fd ⟨us,ks.zip ws⟩ (ps.zip (g us ws))
 rel:∀{vs:List V}{us:List Value}{zs:List V}{ws:List Value},Vals vs us->Vals zs ws->Vals (gV vs zs) (g us ws)
variable {g:List Value->List Value->List Value}{gV:List V->List V->List V}
end
structure FnScope (N P:List Str)(sc:Scope):Prop where
 kind:sc.kind=.function
 co:sc.isCoroutine=false
 gen:sc.isGenerator=false
 nd:N.Nodup
 pre:N.take P.length=P
 par:∀ x∈P,sc.names.lookup x=some .local∨sc.names.lookup x=some .cell
 nofree:∀ y∈sc.names,y.2≠.free
theorem jdf_ {kindOf:Str->Option NameKind}{x:Str}:∀{binds:List (Str×Value)}{m:Str->Option Value},(∀ v,(x,v)∉binds)->bindL kindOf binds m x=m x
 | [],_,_=>rfl
 | (n,v)::r,m,h=>by
  unfold bindL
  rw[jdf_ fun w hw=>h w (pj_ _ hw)]
  split
  ·have:x≠n:=by rintro rfl;exact h v pm_
   simp[this]
  ·rfl
theorem jdi_ {kindOf:Str->Option NameKind}{x:Str}:∀{binds:List (Str×Value)}{m:Str->Option Value},(∀ v,(x,v)∉binds)->bindC kindOf binds m x=m x
 | [],_,_=>rfl
 | (n,v)::r,m,h=>by
  unfold bindC
  rw[jdi_ fun w hw=>h w (pj_ _ hw)]
  split
  ·rfl
  ·have:x≠n:=by rintro rfl;exact h v pm_
   simp[this]
theorem jdc_ {kindOf:Str->Option NameKind}{x:Str}{v:Value}:∀{P:List Str}{vs:List Value}{i:Nat}{m:Str->Option Value},P.Nodup->P[i]?=some x->vs[i]?=some v->kindOf x=some .local ->
  bindL kindOf (P.zip vs) m x=some v
 | [],_,_,_,_,h,_,_=>by simp at h
 | _::_,[],_,_,_,_,h,_=>by simp at h
 | p::P,w::vs,0,m,nd,h1,h2,hk=>by
  simp at h1 h2;subst h1;subst h2
  show bindL kindOf ((p,w)::P.zip vs) m p=_
  unfold bindL
  rw[jdf_ fun v hv=>(si_.mp nd).1 (w5_ hv).1,if_pos hk]
  simp
 | p::P,w::vs,i+1,m,nd,h1,h2,hk=>by
  show bindL kindOf ((p,w)::P.zip vs) m x=_
  unfold bindL
  exact jdc_ (i:=i) (si_.mp nd).2 (by simpa using h1) (by simpa using h2) hk
theorem jdd_ {kindOf:Str->Option NameKind}{x:Str}{v:Value}:∀{P:List Str}{vs:List Value}{i:Nat}{m:Str->Option Value},P.Nodup->P[i]?=some x->vs[i]?=some v->kindOf x≠some .local ->
  bindC kindOf (P.zip vs) m x=some v
 | [],_,_,_,_,h,_,_=>by simp at h
 | _::_,[],_,_,_,_,h,_=>by simp at h
 | p::P,w::vs,0,m,nd,h1,h2,hk=>by
  simp at h1 h2;subst h1;subst h2
  show bindC kindOf ((p,w)::P.zip vs) m p=_
  unfold bindC
  rw[jdi_ fun v hv=>(si_.mp nd).1 (w5_ hv).1,if_neg hk]
  simp
 | p::P,w::vs,i+1,m,nd,h1,h2,hk=>by
  show bindC kindOf ((p,w)::P.zip vs) m x=_
  unfold bindC
  exact jdd_ (i:=i) (si_.mp nd).2 (by simpa using h1) (by simpa using h2) hk
noncomputable def j7_ (N:List Str)(vs:List V):St:=vs.map some++pr_ (N.length - vs.length) none
noncomputable def cxOf (CX:CXT)(P:Program)(w:World)(K:pc_)(mg:Str->Option Value)(base:Heap)(N:List Str)(qual:Str)(scope:Scope)(f:Addr)(cd:Value)(A:Around)(outer:List Env)(s:Shared)(H:Hp)(E:XK):Cx where
 prog:=P
 w:=w
 K:=K
 mg:=mg
 base:=base
 A:=A.deeper (envOfC qual scope s.heap.objs.size f cd)
 N:=N
 s₀:=s
 H₀:=H
 env:=envOfC qual scope s.heap.objs.size f cd
 outer:=outer
 stack:=envOfC qual scope s.heap.objs.size f cd::outer
 ex:=[]
 calm:=true
 fn:=fun _=>true
 pn:=[]
 xe:=fun e s'=>wpAny (model P w) (A.deeper (envOfC qual scope s.heap.objs.size f cd)) (leaving (envOfC qual scope s.heap.objs.size f cd) e) (fun _ s''=>CX outer H s E e s'') (fun e' s''=>CX outer H s E e' s'') s'
theorem jhk_ {sc:Scope}{n:Nat}{x:Str}(h:sc.names.lookup x=some .cell):∃ c,(cellsFrom n sc.names []).lookup x=some c:=by
 have q:=wx_ sc.names n [] (.inl h)
 exact Option.isSome_iff_exists.mp q
theorem jma_ {CX:CXT}{P:Program}{w:World}{K:pc_}{mg:Str->Option Value}{base:Heap}{N ps:List Str}{qual:Str}{scope:Scope}{f:Addr}{cd:Value}{A:Around}{outer:List Env}{s s1:Shared}{H:Hp}{E:XK}{us:List Value}{vs:List V}
  (S:FnScope N ps scope) (hd:A.handled=none) (e0:Env0 P w K mg base A outer s H) (hl:vs.length=ps.length) (r:Vals vs us)
  (x:InCallC s s.heap.objs.size (bindL (envOfC qual scope s.heap.objs.size f cd).kindOf (ps.zip us) fun _=>none) (cellsFrom (s.heap.objs.size+1) scope.names []) (bindC (envOfC qual scope s.heap.objs.size f cd).kindOf (ps.zip us) fun _=>none) s1) :
  Inv (cxOf CX P w K mg base N qual scope f cd A outer s H E) [] (j7_ N vs) H s1:=by
 have hpl:ps.length<=N.length:=by have:=congrArg List.length S.pre;rw[p2_] at this;omega
 obtain⟨h1,tk,rfl,hk⟩:=x.done
 have noA:∀ b:Addr,b∉(cxOf CX P w K mg base N qual scope f cd A outer s H E).ex:=fun b z=>absurd (show b∈([]:List Addr) from z) (by simp)
 refine⟨⟨e0.mod,S.kind,rfl,rfl,po_ _,fun y z c h1 h2=>?_,fun y hy=>?_,fun y c _ h=>?_,fun _=>hd,Around.frames_deeper e0.frames,.inr ⟨rfl,rfl⟩,fun b z=>absurd z (noA b),e0.bs,e0.bsz,fun b _ _=>noA b,fun b z=>absurd z (noA b),e0.funs,e0.frf⟩,
  rfl,e0.bare,Un.kept hk,⟨_,x.toInCall.ns,fun i y v h1 h2 h3=>?_⟩,fun y c h=>⟨_,x.cell y c h⟩,e0.hok.fresh (po_ _),fun y c h=>?_,fun p hp=>absurd (show p∈([]:List (Addr×Obj)) from hp) (by simp),e0.hok.kept hk,?_⟩
 ·exact name_of_addr x.apart (rf_ h1) (rf_ h2)
 ·have hy:scope.names.lookup y=some .cell∨scope.names.lookup y=some .free:=hy
  rcases hy with hy | hy
  ·exact jhk_ hy
  ·exact absurd rfl (S.nofree _ (rf_ hy))
 ·exact sy_ (x.above y c (rf_ h))
 ·have hi:i < vs.length:=by
   unfold j7_ at h2
   by_cases hi:i < vs.length
   ·exact hi
   ·rw[rs_ (by simpa using hi)] at h2
    rw[List.getElem?_replicate] at h2
    split at h2 <;> cases h2
  have ha:vs[i]?=some v:=by
   unfold j7_ at h2
   rw[r0_ (by simpa using hi),pl_] at h2
   cases e:vs[i]? with
   | none=>rw[e] at h2;cases h2
   | some a=>rw[e] at h2;cases h2;rfl
  obtain⟨u,hu,rv⟩:=r.get ha
  have hp:ps[i]?=some y:=by
   rw[<- S.pre,List.getElem?_take_of_lt (by omega)];exact h1
  have ndP:ps.Nodup:=by rw[<- S.pre];exact S.nd.sublist (List.take_sublist _ _)
  refine⟨u,rv,?_⟩
  rcases S.par y (kk_ hp) with k | k
  ·exact .inl ⟨k,jdc_ ndP hp hu k⟩
  ·obtain⟨c,e⟩:=jhk_ (n:=s.heap.objs.size+1) k
   refine .inr ⟨.inl k,c,e,?_⟩
   have q:=x.cell y c e
   rw[jdd_ ndP hp hu (by show scope.names.lookup y≠_;rw[k];decide)] at q
   exact q
 ·exact e0.hok.fresh (sy_ (x.above y c (rf_ h)))
 ·unfold j7_
  show _=N.length
  rw[pg_,pb_,List.length_replicate]
  omega
theorem jyc_ {CX:CXT}{P:Program}{w:World}{K:pc_}{mg:Str->Option Value}{base:Heap}{k:Nat}{f:Addr}{name qual:Str}{params:Arguments}{body:List Stmt}{scope:Scope}{dV kV doc pm cdv ct oc:Value}{an od:Option Addr}
  {osl:Array (Option Value)}{N ps:List Str}{sp:Sp} (lk:K.lookup f=some ⟨oc,od,.func (sj_ name qual params body scope dV kV doc pm an cdv ct),osl⟩) (hcd:t8_ K cdv qual=true) (S:FnScope N ps scope)
  (len:∀ vs H Q E,sp vs H Q E->vs.length=ps.length)
  (hbody:∀(A:Around) (outer:List Env) (s:Shared) (H:Hp) (vs:List V) (Q:VK) (E:XK),Room k (A.deeper (envOfC qual scope s.heap.objs.size f cdv))->sp vs H Q E ->
   ∃ t,PSs (cxOf CX P w K mg base N qual scope f cdv A outer s H E) body t/\t { nx:=fun _ H'=>Q .non H',rt:=Q } (j7_ N vs) H) :
  FnOk P w K mg base CX (k+1) f (sj_ name qual params body scope dV kV doc pm an cdv ct) ps sp:=by
 refine⟨len,fun A outer s H args us vs Q E hr e0 hb r hsp=>?_⟩
 have hl:=len _ _ _ _ hsp
 have KX:K.In s.heap:=e0.mod.kin.keeps fun b o e=>(e0.bs b o e).1
 have lim:s.heap.NoLimit:=e0.mod.nolimit.keeps fun b o e=>(e0.bs b o e).1
 have hkind:∀ y∈ps.zip us,scope.names.lookup y.1=some .local∨(scope.names.lookup y.1=some .cell/\((cellsFrom (s.heap.objs.size+1) scope.names []).lookup y.1).isSome=true):=fun⟨n,v⟩ hy=>by
  rcases S.par n (w5_ hy).1 with q | q
  ·exact .inl q
  ·exact .inr ⟨q,wx_ _ _ _ (.inl q)⟩
 refine codeAny_call_function hr.depth (KX _ _ lk) rfl S.co S.gen rfl (PySem.W.codeRec_of KX hcd) (hb _ _ _ _ ?_)
 refine wpAny_newFunctionEnv_cells S.kind hkind fun env he s1 x=>?_
 subst he
 refine⟨lim.keeps x.toInCall.keep,codeAny_func ?_⟩
 obtain⟨t,ht,hq⟩:=hbody A outer s H vs Q E (hr.deeper _) hsp
 have I:Inv (cxOf CX P w K mg base N qual scope f cdv A outer s H E) [] (j7_ N vs) H s1:=jma_ S hr.hd e0 hl r x
 refine wpAny_mono (ht [] s1 (j7_ N vs) H _ I hq) (fun fl s' hs=>?_) fun e s' hs=>hs
 have fin:∀{σ':St}{H':Hp}{v:V}{u:Value},Inv (cxOf CX P w K mg base N qual scope f cdv A outer s H E) [] σ' H' s'->RelV v u->Q v H'->CE outer P w H s Q u s' :=
  fun{σ' H' v u} J rv q=>⟨v,H',J.os,J.bare,J.base,J.hok,rv,q⟩
 cases fl with
 | ret u =>
  obtain⟨v,σ',H',J,rv,q⟩:=hs
  exact fin J rv q
 | next =>
  obtain⟨σ',H',J,q⟩:=hs
  exact fin (v:=V.non) (u:=Value.none) J rfl q
 | brk =>
  obtain⟨_,_,_,q⟩:=hs
  exact ru_ q
 | cont =>
  obtain⟨_,_,_,q⟩:=hs
  exact ru_ q
end L2
namespace L2
open PySem PySem.Spec PyProof.Rows
section
variable {X:Cx}{x:Str}{p pos:Pos}{e:Expr}{es:List Expr}{t:TA}{id T:String}{r:List V->Hp->VK->Prop}
def tCB (r:List V->Hp->VK->Prop)(t:TA):TE:=fun σ H Q=>t σ H fun vs H1=>r vs H1 Q
theorem jo_ (hc:CallR X (.builtin id) r)(hg:Gl X x)(hm:X.mg x=none)(hv:bootBuiltins x=some (.builtin id))(ha:PA X (e::es) t)(hn:x≠"__name__":=by decide)(hdb:(x == ("__debug__":Str))=false:=by decide)
  (he:starEach (e::es) X.env=(false,eval e X.env)::starEach es X.env:=by rfl) (hpl:(backTo pos (starEach es X.env)).any (·.1)=false:=by rfl):PE X (.Call (.Name x p) (e::es) [] pos) (tCB r t):=by
 intro pins s σ H Q I h
 refine wpAny_Call_Name_kw (x1_ I hg hm hv ?_ hn hdb)
 exact PyProof.Rows.callWith_builtin1 (thn (ha pos pins s σ H _ I h) fun us s1 ⟨vs,H1,I1,r1,q1⟩=>hc pins s1 σ H1 vs us Q I1 r1 q1) he hpl
theorem zz_ (hc:CallR X (.type T) r)(hg:Gl X x)(hm:X.mg x=none)(hv:bootBuiltins x=some (.type T))(ha:PA X (e::es) t)(hn:x≠"__name__":=by decide)(hdb:(x == ("__debug__":Str))=false:=by decide)
  (he:starEach (e::es) X.env=(false,eval e X.env)::starEach es X.env:=by rfl) (hpl:(backTo pos (starEach es X.env)).any (·.1)=false:=by rfl):PE X (.Call (.Name x p) (e::es) [] pos) (tCB r t):=by
 intro pins s σ H Q I h
 refine wpAny_Call_Name_kw (x1_ I hg hm hv ?_ hn hdb)
 exact qy_ (thn (ha pos pins s σ H _ I h) fun us s1 ⟨vs,H1,I1,r1,q1⟩=>hc pins s1 σ H1 vs us Q I1 r1 q1) he hpl
end
end L2
namespace HT
open PySem PyProof.Rows
section
open PySem.SeqAt
open PySem.AutoSeq1 (wpAny_loadPart')
open PySem.MeetsSeq PySem.MeetsSeq2 PySem.MeetsSeq3
end
section
variable {prog:Program}{w:World}{A:Around}{E:Value->Shared->Prop}{s:Shared}
theorem cat_tup {t b:Addr}{vs ws:List Value}{Q:Value->Shared->Prop}(ht:IsTup s.heap t vs.toArray)(hb:IsTup s.heap b ws.toArray)(hv:vs≠[])
  (h1:ws=[]->Q (.ref t) s) (h2:ws≠[]->Q (.ref s.heap.objs.size) { s with heap:=s.heap.push { cls:=.type "tuple",data:=.seq (vs++ws).toArray } })
  (hsz:vs.length+ws.length<=sizeLine):wpAny (model prog w) A (binaryOp .Add (.ref t) (.ref b)) Q E s:=by
 obtain⟨⟨cls,dd,data,sl⟩,ho,hc,n,hd⟩:=id ht
 obtain⟨⟨cls2,dd2,data2,sl2⟩,ho2,hc2,n2,hd2⟩:=id hb
 simp only at hc hd hc2 hd2
 subst hc hd hc2 hd2
 have e:vs.toArray++ws.toArray=(vs++ws).toArray:=by simp
 by_cases hw:ws=[]
 ·exact concat_meets ⟨_,ho,rfl⟩ ⟨_,ho2,rfl⟩ noFill_tuple_add seq_tuple_add wy_ wn_ (wf_ _ _)
   (tuple_addW1 t b vs.toArray ws.toArray n n2 dd dd2 sl sl2 (by simpa using hv) (by simp[hw])) ⟨ho,ho2,h1 hw⟩
 ·refine concat_meets ⟨_,ho,rfl⟩ ⟨_,ho2,rfl⟩ noFill_tuple_add seq_tuple_add wy_ wn_ (wf_ _ _)
   (tuple_addW2 t b vs.toArray ws.toArray n n2 dd dd2 sl sl2 (by simpa using hv) (by simpa using hw) (by rw[pn_,pn_];exact hsz)) ⟨ho,ho2,?_⟩
  rw[e]
  exact h2 hw
noncomputable def sIx (n d:Nat):Option Int->Nat
 | none=>d
 | some v=>if v < 0 then (v+(n:Int)).toNat else min v.toNat n
theorem jwp_ (n d:Nat)(hd:d<=n)(o:Option Int):sIx n d o<=n:=by
 cases o with
 | none=>exact hd
 | some v =>
  show (if v < 0 then (v+(n:Int)).toNat else min v.toNat n)<=n
  by_cases hv:v < 0
  ·rw[if_pos hv];omega
  ·rw[if_neg hv];exact Nat.min_le_right _ _
theorem jkz_ (v:Int)(n d:Nat):(if v < 0 then max (v+(n:Int)) 0 else min v (n:Int))=((sIx n d (some v):Nat):Int):=by
 show (if v < 0 then max (v+(n:Int)) 0 else min v (n:Int))=(((if v < 0 then (v+(n:Int)).toNat else min v.toNat n):Nat):Int)
 by_cases hv:v < 0
 ·simp only[if_pos hv];omega
 ·simp only[if_neg hv];omega
theorem jjz_ (lo hi:Option Int)(n:Nat):sq_ lo hi 1 (n:Int)=(((sIx n 0 lo:Nat):Int),((sIx n n hi:Nat):Int)):=by
 have h1:¬ ((1:Int) < 0):=by omega
 unfold sq_
 simp only[h1,if_false]
 refine Prod.ext ?_ ?_
 ·cases lo with
  | none=>rfl
  | some v=>exact jkz_ v n 0
 ·cases hi with
  | none=>rfl
  | some v=>exact jkz_ v n n
theorem jjk_ (i j:Nat):r1_ (i:Int) (j:Int) 1=j - i:=by
 unfold r1_
 have h1:(1:Int) > 0:=by omega
 simp only[h1,if_true,Int.ediv_one]
 split <;> omega
theorem jbt_ {v:Value}{o:Option Int}{Q:Option Int->Shared->Prop}(p:IsPart v o)(h:Q o s):wpAny (model prog w) A (Builtin.Slice.slicePartIndex v) Q E s:=by
 cases p with
 | none=>exact slicePart_none h
 | int i t=>exact slicePart_int h
theorem u4_ {sl:Addr}{vl vu:Value}{lo hi:Option Int}{n:Nat}{Q:Int×Int×Nat->Shared->Prop}(hs:s.heap.IsSliceOf sl vl vu .none)(pl:IsPart vl lo)(pu:IsPart vu hi)
  (h:Q (((sIx n 0 lo:Nat):Int),1,sIx n n hi - sIx n 0 lo) s):wpAny (model prog w) A (t0_ (.ref sl) (pure (n:Int))) Q E s:=by
 obtain⟨os,hos,hcs,hds⟩:=id hs
 unfold t0_ Builtin.Slice.sliceFields
 refine wpAny_bind (wpAny_bind (wpAny_field hos hds (x:=vl) rfl (wpAny_bind (wpAny_field hos hds (x:=vu) rfl (wpAny_bind (wpAny_field hos hds (x:=.none) rfl (wpAny_pure ?_)))))))
 refine wpAny_bind (slicePart_none ?_)
 show wpAny _ _ (if ((1:Int) == 0)=true then _ else _) _ _ s
 rw[if_neg (by decide)]
 refine wpAny_bind (jbt_ pl (wpAny_bind (jbt_ pu (wpAny_bind (wpAny_pure ?_)))))
 show wpAny _ _ (match sq_ lo hi 1 (n:Int) with | (lo,hi)=>pure (lo,(1:Int),r1_ lo hi 1)) _ _ s
 rw[jjz_ lo hi n]
 show wpAny _ _ (pure (((sIx n 0 lo:Nat):Int),(1:Int),r1_ ((sIx n 0 lo:Nat):Int) ((sIx n n hi:Nat):Int) 1)) _ _ s
 rw[jjk_]
 exact wpAny_pure h
theorem jqi_ (xs:Array Value)(i k:Nat):((pu_ k).filterMap fun(m:Nat)=>xs[((i:Int)+(m:Int) * 1).toNat]?).toArray=((xs.toList.drop i).take k).toArray:=by
 have e:(fun(m:Nat)=>xs[((i:Int)+(m:Int) * 1).toNat]?)=fun m=>xs[i+m]?:=by
  funext m
  have:((i:Int)+(m:Int) * 1).toNat=i+m:=by omega
  rw[this]
 rw[e]
 have:=pick_run xs i k
 rw[List.filterMap_map] at this
 have e2:((fun x=>xs[x]?)∘fun x=>i+x)=fun m=>xs[i+m]?:=rfl
 rw[e2] at this
 rw[this]
theorem getItem_tuple_cut {t sl:Addr}{items:Array Value}{vl vu:Value}{lo hi:Option Int}{Q:Value->Shared->Prop}(ht:IsTup s.heap t items)(hs:s.heap.IsSliceOf sl vl vu .none)(pl:IsPart vl lo)(pu:IsPart vu hi)
  (hw:¬ (sIx items.size 0 lo=0/\sIx items.size items.size hi=items.size))
  (h:Q (.ref s.heap.objs.size) { s with heap:=s.heap.push { cls:=.type "tuple",data:=.seq ((items.toList.drop (sIx items.size 0 lo)).take (sIx items.size items.size hi - sIx items.size 0 lo)).toArray } })
  (hsz:items.size<=sizeLine):wpAny (model prog w) A (getItem (.ref t) (.ref sl)) Q E s:=by
 have htake:sizeOk (.seq ((items.toList.drop (sIx items.size 0 lo)).take (sIx items.size items.size hi - sIx items.size 0 lo)).toArray):=by
  show ((items.toList.drop (sIx items.size 0 lo)).take (sIx items.size items.size hi - sIx items.size 0 lo)).toArray.size<=sizeLine
  rw[pn_,p2_,qh_,sv_]
  omega
 have hj:sIx items.size items.size hi<=items.size:=jwp_ _ _ (po_ _) hi
 obtain⟨os,hos,hcs,hds⟩:=id hs
 have hTs:s.TypeIs (.ref sl) "slice":=⟨os,hos,hcs⟩
 unfold getItem
 try with_reducible refine wpAny_holding ?_
 first | refine wpAny_bind (wpAny_pure ?_) | skip
 refine wpAny_bind (wpAny_sequenceKey ht.typeIs (by decide) ?_)
 refine wpAny_bind (wpAny_callSpecial?_slot (name:=re_ "__getitem__") ht.typeIs r4_
  (wpAny_call_entry r4_ ht.typeIs entry_tuple_getitem ?_ (args_tuple_getitem _ _)))
 show wpAny _ _ (Builtin.Tuple.tupleItemsOf (.ref t) >>= _) _ _ s
 refine wpAny_bind (tupleItemsOf_ ht ?_)
 refine wpAny_bind (wpAny_typeOf hTs ?_)
 rw[if_pos (by decide)]
 refine wpAny_bind (u4_ hs pl pu ?_)
 have hno:¬ ((((sIx items.size 0 lo:Nat):Int) == 0&&(1:Int) == 1&&(sIx items.size items.size hi - sIx items.size 0 lo) == items.size)=true):=by
  intro q
  rw[qk_,qk_] at q
  have q1:((sIx items.size 0 lo:Nat):Int)=0:=eq_of_beq q.1.1
  have q2:sIx items.size items.size hi - sIx items.size 0 lo=items.size:=eq_of_beq q.2
  exact hw ⟨by omega,by omega⟩
 show wpAny _ _ (if (((sIx items.size 0 lo:Nat):Int) == 0&&(1:Int) == 1&&(sIx items.size items.size hi - sIx items.size 0 lo) == items.size)=true then _ else _) _ _ s
 rw[if_neg hno,jqi_]
 first
  | exact wpAny_bind (m:=r5_ _) (wpAny_newObj_type (wpAny_pure ⟨_,rfl,wpAny_pure h⟩) htake)
  | exact wpAny_bind (m:=r5_ _) (wpAny_newObj_type (wpAny_bind (wpAny_pure (wpAny_pure ⟨_,rfl,wpAny_pure h⟩))) htake)
  | exact wpAny_bind (wpAny_bind (m:=r5_ _) (wpAny_newObj_type (wpAny_pure (wpAny_pure ⟨_,rfl,wpAny_pure h⟩)) htake))
  | exact wpAny_bind (wpAny_bind (m:=r5_ _) (wpAny_newObj_type (wpAny_pure ⟨_,rfl,wpAny_pure h⟩) htake))
end
end HT
namespace L2
open PySem PySem.Spec PyProof.Rows
abbrev TO:=St->Hp->(Option Int->Hp->Prop)->Prop
noncomputable def PO (X:Cx)(e:Option Expr)(t:TO):Prop :=
 ∀(pins:List (Addr×Obj)) (s:Shared) (σ:St) (H:Hp) (Q:Option Int->Hp->Prop),Inv X pins σ H s->t σ H Q ->
  wpAny (model X.prog X.w) X.A (evalPart e X.env) (fun u s'=>∃ o H',Inv X pins σ H' s'/\IsPart u o/\Q o H') X.xe s
def jlg_:TO:=fun _ H Q=>Q none H
def juu_ (t:TE):TO:=fun σ H Q=>t σ H fun x H1=>∃ i,x=.int i/\Q (some i) H1
section
variable {X:Cx}{e:Expr}{te:TE}{lo hi:Option Expr}{tl th:TO}{pos p2:Pos}
theorem z6_:PO X none jlg_:=by
 intro pins s σ H Q I h
 rw[evalPart_none]
 exact wpAny_pure ⟨none,H,I,.none,h⟩
theorem zk_ (h:PE X e te):PO X (some e) (juu_ te):=by
 intro pins s σ H Q I hw
 rw[evalPart_some]
 refine thn (h pins s σ H _ I hw) fun u s1 ⟨x,H1,I1,r1,q1⟩=>?_
 obtain⟨i,rfl,q⟩:=q1
 obtain⟨t,rfl⟩:=r1
 exact⟨some i,H1,I1,.int i t,q⟩
noncomputable def SlR (X:Cx)(r:V->Option Int->Option Int->Hp->VK->Prop):Prop :=
 ∀(pins:List (Addr×Obj)) (s:Shared) (σ:St) (H:Hp) (x:V) (v vl vu:Value) (lo hi:Option Int) (sl:Addr) (Q:VK),Inv X pins σ H s->RelV x v->s.heap.IsSliceOf sl vl vu .none->IsPart vl lo->IsPart vu hi->r x lo hi H Q ->
  ∃ T id,typeLookup (.type T) "__getitem__"=pure (some (.builtin id))/\s.TypeIs v T/\wpAny (model X.prog X.w) X.A (getItem v (.ref sl)) (EP X pins σ Q) X.xe s
def tSl (r:V->Option Int->Option Int->Hp->VK->Prop)(te:TE)(tl th:TO):TE:=fun σ H Q=>te σ H fun x H1=>tl σ H1 fun l H2=>th σ H2 fun u H3=>r x l u H3 Q
theorem zj_ {r:V->Option Int->Option Int->Hp->VK->Prop}(hr:SlR X r)(he:PE X e te)(hl:PO X lo tl)(hu:PO X hi th):PE X (.Subscript e (.Slice lo hi none p2) pos) (tSl r te tl th):=by
 intro pins s σ H Q I h
 refine Subscript_ (thn (he pins s σ H _ I h) fun v s1 ⟨x,H1,I1,r1,q1⟩=>?_)
 refine wpAny_Slice (thn (hl pins s1 σ H1 _ I1 q1) fun vl s2 ⟨l,H2,I2,pl,q2⟩=>thn (hu pins s2 σ H2 _ I2 q2) fun vu s3 ⟨u,H3,I3,pu,q3⟩=>?_)
 rw[evalPart_none]
 refine wpAny_pure ?_
 have I4:Inv X pins σ H3 { s3 with heap:=s3.heap.push { cls:=.type "slice",data:=.fields #[vl,vu,.none] } }:=I3.kept (t':=s3.toks) fun b ob q=>pd_ _ q
 obtain⟨T,id,hT,ht,hg⟩:=hr pins { s3 with heap:=s3.heap.push { cls:=.type "slice",data:=.fields #[vl,vu,.none] } } σ H3 x v vl vu l u s3.heap.objs.size Q I4 r1 (Heap.IsSliceOf.new ..) pl pu q3
 show wpAny (model X.prog X.w) X.A (subscriptTail e (.Slice lo hi none p2) v (.ref s3.heap.objs.size)) (EP X pins σ Q) X.xe { s3 with heap:=s3.heap.push { cls:=.type "slice",data:=.fields #[vl,vu,.none] } }
 exact tail_any (ops:=[.ref s3.heap.objs.size,v]) ht hT hg (by with_unfolding_all rfl)
noncomputable def cutV (xs:List V)(lo hi:Option Int):List V:=(xs.drop (HT.sIx xs.length 0 lo)).take (HT.sIx xs.length xs.length hi - HT.sIx xs.length 0 lo)
theorem yb_ (xs:List V)(lo hi:Option Int):(cutV xs lo hi).length<=xs.length:=by
 unfold cutV
 rw[p2_,qh_]
 omega
def rSlT (K:pc_):V->Option Int->Option Int->Hp->VK->Prop:=fun x lo hi H Q=>∃ a xs,x=.ref a/\SqT K H a xs /\
 ¬ (HT.sIx xs.length 0 lo=0/\HT.sIx xs.length xs.length hi=xs.length)/\∀ p,H p=none->Q (.ref p) (upd H p (.tup (cutV xs lo hi)))
theorem jwx_:SlR X (rSlT X.K):=by
 intro pins s σ H x v vl vu lo hi sl Q I rx hs pl pu h
 obtain⟨a,xs,rfl,hx,hw,q⟩:=h
 cases rx
 obtain⟨its,r,ht,hz⟩:=I.tuple hx
 have hlen:its.toArray.size=xs.length:=by rw[pn_];exact r.length.symm
 refine⟨"tuple",_,r4_.lookup,ht.typeIs,?_⟩
 refine HT.getItem_tuple_cut ht hs pl pu (by rw[hlen];exact hw) ?_ (by rw[hlen];exact hz)
 rw[hlen]
 refine⟨.ref s.heap.objs.size,_,I.laid (t':=s.toks) (o:=.tup (cutV xs lo hi)) (fun b ob q=>pd_ _ q) (po_ _) ?_,rfl,q _ (I.hok.fresh (po_ _))⟩
 exact⟨qe_ (yb_ xs lo hi) hz,_,(r.drop (HT.sIx xs.length 0 lo)).take (HT.sIx xs.length xs.length hi - HT.sIx xs.length 0 lo),IsTup.new _ _,DcN.new _ _⟩
def jyv_ (K:pc_):R2:=fun x y H Q=>∃ a b xs ys,x=.ref a/\y=.ref b/\SqT K H a xs/\SqT K H b ys/\xs≠[]/\xs.length+ys.length<=sizeLine /\
 (ys=[]->Q (.ref a) H)/\(ys≠[]->∀ p,H p=none->Q (.ref p) (upd H p (.tup (xs++ys))))
theorem Vals.nil_iff {xs:List V}{us:List Value}(r:Vals xs us):us=[]↔xs=[]:=by
 cases r with
 | nil=>simp
 | cons _ _=>simp
theorem jsv_:OpR X (binaryOp .Add) (jyv_ X.K):=by
 intro pins s σ H x y v u Q I rx ry h
 obtain⟨a,b,xs,ys,rfl,rfl,ha,hb,hx,hz,q1,q2⟩:=h
 cases rx
 cases ry
 obtain⟨its,r1,p1,_⟩:=I.tuple ha
 obtain⟨its2,r2,p2,_⟩:=I.tuple hb
 refine HT.cat_tup p1 p2 (fun z=>hx (r1.nil_iff.mp z)) (fun z=>⟨.ref a,H,I,rfl,q1 (r2.nil_iff.mp z)⟩) (fun z=>?_) (by rw[<- r1.length,<- r2.length];exact hz)
 refine⟨.ref s.heap.objs.size,_,I.laid (t':=s.toks) (o:=.tup (xs++ys)) (fun b ob q=>pd_ _ q) (po_ _) ?_,rfl,q2 (fun w=>z (r2.nil_iff.mpr w)) _ (I.hok.fresh (po_ _))⟩
 exact⟨by rw[pg_];exact hz,_,r1.append r2,IsTup.new _ _,DcN.new _ _⟩
end
end L2
namespace L2
open PySem PySem.Spec PyProof.Rows
noncomputable def ixN (n:Nat)(i:Int):Option Nat:=if 0<=i then (if i < n then some i.toNat else none) else if -(n:Int)<=i then some (i+n).toNat else none
noncomputable def atI {α:Type}(xs:List α)(i:Int):Option α:=(ixN xs.length i).bind fun j=>xs[j]?
theorem jlv_ {n:Nat}{i:Int}{j:Nat}(h:ixN n i=some j):seqIndex? i n=some j/\j < n/\-(n:Int)<=i/\i < n:=by
 unfold ixN at h
 by_cases h0:0<=i
 ·rw[if_pos h0] at h
  by_cases h1:i < n
  ·rw[if_pos h1] at h
   have e:i.toNat=j:=Option.some.inj h
   exact⟨by rw[seqIndex_of h0 h1,e],by omega,by omega,h1⟩
  ·rw[if_neg h1] at h;cases h
 ·rw[if_neg h0] at h
  by_cases h1:-(n:Int)<=i
  ·rw[if_pos h1] at h
   have e:(i+n).toNat=j:=Option.some.inj h
   exact⟨by rw[seqIndex_neg (by omega) h1,e],by omega,h1,by omega⟩
  ·rw[if_neg h1] at h;cases h
theorem jej_ {α:Type}{xs:List α}{i:Int}{v:α}(h:atI xs i=some v):∃ j,seqIndex? i xs.length=some j/\xs[j]?=some v/\j < xs.length/\-(xs.length:Int)<=i/\i < xs.length:=by
 unfold atI at h
 cases e:ixN xs.length i with
 | none=>rw[e] at h;cases h
 | some j =>
  rw[e] at h
  obtain⟨h1,h2,h3,h4⟩:=jlv_ e
  exact⟨j,h1,h,h2,h3,h4⟩
theorem us_ {α:Type}{xs:List α}{j:Nat}{v:α}(h:xs[j]?=some v):atI xs (j:Int)=some v:=by
 have hj:j < xs.length:=(pq_.mp h).1
 have e:ixN xs.length (j:Int)=some j:=by
  unfold ixN
  rw[if_pos (by omega),if_pos (by omega)];simp
 unfold atI;rw[e];exact h
def jtl_ (b:Expr):Prop:=∀ o i,subscripted b false o i=operate [o,i] (getItem o i)
noncomputable def IxR (X:Cx)(r:R2):Prop :=
 ∀(value slice:Expr) (pins:List (Addr×Obj)) (s:Shared) (σ:St) (H:Hp) (x y:V) (v u:Value) (Q:VK),Inv X pins σ H s->RelV x v->RelV y u->r x y H Q ->
  subscripted slice false v u=operate [v,u] (getItem v u)->wpAny (model X.prog X.w) X.A (subscriptTail value slice v u) (EP X pins σ Q) X.xe s
noncomputable def MtR (X:Cx)(id:String)(r:V->List V->Hp->VK->Prop):Prop :=
 ∀(pins:List (Addr×Obj)) (s:Shared) (σ:St) (H:Hp) (x:V) (xs:List V) (v:Value) (us:List Value) (Q:VK),Inv X pins σ H s->RelV x v->Vals xs us->r x xs H Q ->
  wpAny (model X.prog X.w) X.A (call (.builtin id) (v::us)) (EP X pins σ Q) X.xe s
section
variable {X:Cx}{a b:Expr}{ta tb:TE}{pos:Pos}
theorem jj_ {r:R2}(hr:IxR X r)(ha:PE X a ta)(hb:PE X b tb)(hs:jtl_ b):PE X (.Subscript a b pos) (tOp r ta tb):=by
 intro pins s σ H Q I h
 exact Subscript_ (binT ha hb I h fun v u s2 x y H2 I2 rx ry q=>hr a b pins s2 σ H2 x y v u Q I2 rx ry q (hs _ _))
def rIxL (K:pc_):R2:=fun x y H Q=>∃ p xs i v,x=.ref p/\y=.int i/\SqL K H p xs/\atI xs i=some v/\Q v H
def rIxT (K:pc_):R2:=fun x y H Q=>∃ p xs i v,x=.ref p/\y=.int i/\SqT K H p xs/\atI xs i=some v/\Q v H
def rIxS:R2:=fun x y H Q=>∃ z i c,x=.str z/\y=.int i/\z.length<=sizeLine/\atI z.cps.toList i=some c/\Q (.str ⟨#[c]⟩) H
theorem jug_:IxR X (rIxL X.K):=by
 intro value slice pins s σ H x y v u Q I rx ry h hs
 obtain⟨p,xs,i,z,rfl,rfl,hq,he,q⟩:=h
 cases rx
 obtain⟨t,rfl⟩:=ry
 obtain⟨its,r,pl,hz⟩:=I.list hq
 obtain⟨j,h1,h2,h3,h4,h5⟩:=jej_ he
 obtain⟨w,ew,rw'⟩:=r.get h2
 have hl:=r.length
 have hn:=vz_
 have fin:EP X pins σ Q w s:=⟨z,H,I,rw',q⟩
 by_cases h0:0<=i
 ·have hj:i.toNat=j:=by
   rw[seqIndex_of h0 h5] at h1
   exact Option.some.inj h1
  exact item_listR pl.isList h0 (by omega) (by rw[hj];simpa using ew) fin hs
 ·have hj:(i+(its.toArray.size:Int)).toNat=j:=by
   rw[seqIndex_neg (by omega) h4] at h1
   rw[pn_,<- hl]
   exact Option.some.inj h1
  exact subscriptTail_builtinR (x:=w) pl.isList.typeIs slot_list_getitem.lookup
   (wpAny_getItem_list_neg (Q:=fun r s'=>r=w/\EP X pins σ Q r s') pl.isList (by omega) (by rw[pn_] <;> omega) (by omega) (by rw[hj];simpa using ew) ⟨rfl,fin⟩) hs
theorem jvs_:IxR X (rIxT X.K):=by
 intro value slice pins s σ H x y v u Q I rx ry h hs
 obtain⟨p,xs,i,z,rfl,rfl,hq,he,q⟩:=h
 cases rx
 obtain⟨t,rfl⟩:=ry
 obtain⟨its,r,pl,hz⟩:=I.tuple hq
 obtain⟨j,h1,h2,h3,h4,h5⟩:=jej_ he
 obtain⟨w,ew,rw'⟩:=r.get h2
 have hl:=r.length
 have hn:=vz_
 have fin:EP X pins σ Q w s:=⟨z,H,I,rw',q⟩
 exact subscriptTail_builtinR (x:=w) pl.typeIs slot_tuple_getitem.lookup
  (getItem_tuple (j:=j) (Q:=fun r s'=>r=w/\EP X pins σ Q r s') pl (by omega) (by omega) (by rw[pn_,<- hl];exact h1) (by simpa using ew) ⟨rfl,fin⟩) hs
theorem jvy_:IxR X rIxS:=by
 intro value slice pins s σ H x y v u Q I rx ry h hs
 obtain⟨z,i,c,rfl,rfl,hz,he,q⟩:=h
 obtain⟨t,rfl⟩:=rx
 obtain⟨t',rfl⟩:=ry
 obtain⟨j,h1,h2,h3,h4,h5⟩:=jej_ he
 have hl:z.cps.toList.length=z.length:=by simp[Str.length]
 rw[hl] at h1 h4 h5
 have hn:=vz_
 exact tail_any (typeIs_str s z t) slot_str_getitem.lookup (getItem_str (c:=c) (by
  have e1:decide (i < -(2 ^ 63:Int))=false:=decide_eq_false (by omega)
  have e2:decide (i≥2 ^ 63)=false:=decide_eq_false (by omega)
  rw[e1,e2,Bool.or_false]) (by rw[h1];simpa using h2) ⟨.str ⟨#[c]⟩,H,I.tok _,⟨_,rfl⟩,q⟩) hs
theorem jjd_ (its:List Value)(n j:Nat)(u:Value):kh_ (·.setIfInBounds j u) { cls:=.type "list",data:=.seq its.toArray n }={ cls:=.type "list",data:=.seq (its.set j u).toArray n }:=by
 simp[kh_]
theorem Inv.lst {pins:List (Addr×Obj)}{σ:St}{H:Hp}{s:Shared}{p:Addr}{xs:List V}(I:Inv X pins σ H s)(h:H p=some (.lst xs)) :
  ∃(its:List Value) (n:Nat),Vals xs its/\s.heap.get? p=some { cls:=.type "list",data:=.seq its.toArray n }/\xs.length<=sizeLine:=by
 obtain⟨z,its,n,r,e⟩:=I.hok p _ h
 exact⟨its,n,r,e,z⟩
theorem Inv.lstUpd {pins:List (Addr×Obj)}{σ:St}{H:Hp}{s:Shared}{p:Addr}{xs ys:List V}{its its':List Value}{n n':Nat}{f:Obj->Obj}(I:Inv X pins σ H s)(h:H p=some (.lst xs))
  (ho:s.heap.get? p=some { cls:=.type "list",data:=.seq its.toArray n }) (hf:f { cls:=.type "list",data:=.seq its.toArray n }={ cls:=.type "list",data:=.seq its'.toArray n' }) (r:Vals ys its') (hz:ys.length<=sizeLine) (t:Nat) :
  Inv X pins σ (upd H p (.lst ys)) { s with heap:=s.heap.update p f,toks:=t }:=by
 have e:(s.heap.update p f).get? p=some { cls:=.type "list",data:=.seq its'.toArray n' }:=by
  rw[tb_ f ho (by rw[hf] <;> rfl),hf]
 refine I.write (x:=p) (e:=p) (by rw[h];trivial) (.inl rfl) (fun b u hb q=>(wz_ _ _ (tq_ hb)).trans q) ⟨_,e⟩ ?_
 exact⟨hz,its',n',r,e⟩
def jyb_:V->V->V->Hp->(Hp->Prop)->Prop:=fun o i v H Q=>∃ p xs k j,o=.ref p/\i=.int k/\H p=some (.lst xs)/\ixN xs.length k=some j/\Q (upd H p (.lst (xs.set j v)))
theorem jru_:PSet X jyb_:=by
 intro pins s σ H o i v ov iv u Q I ro ri rv h
 obtain⟨p,xs,k,j,rfl,rfl,hp,hj,q⟩:=h
 cases ro
 obtain⟨t,rfl⟩:=ri
 obtain⟨its,n,r,ho,hz⟩:=I.lst hp
 obtain⟨h1,h2,h3,h4⟩:=jlv_ hj
 have hl:=r.length
 have hn:=vz_
 have I':Inv X pins σ (upd H p (.lst (xs.set j v))) { s with heap:=s.heap.update p (kh_ (·.setIfInBounds j u)) } :=
  I.lstUpd hp ho (jjd_ its n j u) (r.set rv j) (by rw[p9_];exact hz) s.toks
 by_cases h0:0<=k
 ·have hk:k.toNat=j:=by
   rw[seqIndex_of h0 h4] at h1
   exact Option.some.inj h1
  exact PySem.W.ki_setAt ho h0 (by omega) (by rw[pn_,<- hl];exact h4) (by rw[hk];exact⟨_,I',q⟩)
 ·have hk:(k+(its.toArray.size:Int)).toNat=j:=by
   rw[seqIndex_neg (by omega) h3] at h1
   rw[pn_,<- hl]
   exact Option.some.inj h1
  exact PySem.W.ki_setBack ho (by omega) (by rw[pn_,<- hl];exact h3) (by omega) (by rw[hk];exact⟨_,I',q⟩)
theorem jfu_ (lo hi:Option Int)(n:Nat):(sliceBounds lo hi none n).1=((HT.sIx n 0 lo:Nat):Int)/\(sliceBounds lo hi none n).2.1=((HT.sIx n n hi:Nat):Int)/\(sliceBounds lo hi none n).2.2=1:=by
 refine⟨?_,?_,rfl⟩
 ·cases lo with
  | none=>simp[sliceBounds,HT.sIx]
  | some i =>
   simp only[sliceBounds,HT.sIx,wt_,show (1:Int) > 0 by decide,if_true]
   by_cases h:i < 0
   ·simp only[h,if_true] <;> omega
   ·simp only[h,if_false] <;> omega
 ·cases hi with
  | none=>simp[sliceBounds,HT.sIx]
  | some i =>
   simp only[sliceBounds,HT.sIx,wt_,show (1:Int) > 0 by decide,if_true]
   by_cases h:i < 0
   ·simp only[h,if_true] <;> omega
   ·simp only[h,if_false] <;> omega
theorem jcg_ (its:List Value)(lo hi:Option Int):slicePick its.toArray lo hi none=((its.drop (HT.sIx its.length 0 lo)).take (HT.sIx its.length its.length hi - HT.sIx its.length 0 lo)).toArray:=by
 obtain⟨h1,h2,h3⟩:=jfu_ lo hi its.toArray.size
 unfold slicePick
 rw[h1,h2,h3]
 simp only[sliceRange_one,pick_run,pn_] <;> rfl
def rSlL (K:pc_):V->Option Int->Option Int->Hp->VK->Prop:=fun x lo hi H Q=>∃ a xs,x=.ref a/\SqL K H a xs/\∀ p,H p=none->Q (.ref p) (upd H p (.lst (cutV xs lo hi)))
theorem jso_:SlR X (rSlL X.K):=by
 intro pins s σ H x v vl vu lo hi sl Q I rx hs pl pu h
 obtain⟨a,xs,rfl,hx,q⟩:=h
 cases rx
 obtain⟨its,r,ht,hz⟩:=I.list hx
 have hlen:=r.length
 refine⟨"list",_,slot_list_getitem.lookup,ht.isList.typeIs,?_⟩
 refine wpAny_getItem_list_slice ht.isList hs pl pu .none (by simp) ?_ (by rw[pn_] <;> omega)
 rw[jcg_,<- hlen]
 refine⟨.ref s.heap.objs.size,_,I.laid (t':=s.toks) (o:=.lst (cutV xs lo hi)) (fun b ob q=>pd_ _ q) (po_ _) ?_,rfl,q _ (I.hok.fresh (po_ _))⟩
 exact⟨qe_ (yb_ xs lo hi) hz,_,0,(r.drop (HT.sIx xs.length 0 lo)).take (HT.sIx xs.length xs.length hi - HT.sIx xs.length 0 lo),pv_ _ rfl⟩
noncomputable def xi_:V->Bool
 | .non=>true
 | .bl _=>true
 | .int _=>true
 | .str _=>true
 | _=>false
noncomputable def eqV:V->V->Bool
 | .non,.non=>true
 | .bl a,.bl b=>a == b
 | .bl a,.int b=>(if a then 1 else 0) == b
 | .int a,.bl b=>a == (if b then 1 else 0)
 | .int a,.int b=>a == b
 | .str a,.str b=>a == b
 | _,_=>false
theorem jok_ {A:Around}{s:Shared}{y x:V}{u v:Value}(ry:RelV y u)(rx:RelV x v)(fy:xi_ y=true)(fx:xi_ x=true):qs_ A s u v (eqV y x):=by
 cases y with
 | non =>
  cases ry
  cases x with
  | non=>cases rx;exact qs_.same _
  | bl b=>cases rx;exact qs_.none_bool b
  | int b=>obtain⟨t,rfl⟩:=rx;exact kp_ b t
  | str b=>obtain⟨t,rfl⟩:=rx;exact kq_ b t
  | _=>exact absurd (show false=true from fx) pi_
 | bl a =>
  cases ry
  cases x with
  | non=>cases rx;exact qs_.bool_none a
  | bl b=>cases rx;exact qs_.bool_bool a b
  | int b=>obtain⟨t,rfl⟩:=rx;exact qs_.bool_int a b t
  | str b=>obtain⟨t,rfl⟩:=rx;exact qs_.bool_str a b t
  | _=>exact absurd (show false=true from fx) pi_
 | int a =>
  obtain⟨t',rfl⟩:=ry
  cases x with
  | non=>cases rx;exact kr_ a t'
  | bl b=>cases rx;exact qs_.int_bool a t' b
  | int b=>obtain⟨t,rfl⟩:=rx;exact qs_.int_int a t' b t
  | str b=>obtain⟨t,rfl⟩:=rx;exact kt_ a t' b t
  | _=>exact absurd (show false=true from fx) pi_
 | str a =>
  obtain⟨t',rfl⟩:=ry
  cases x with
  | non=>cases rx;exact ks_ a t'
  | bl b=>cases rx;exact qs_.str_bool a t' b
  | int b=>obtain⟨t,rfl⟩:=rx;exact ku_ a t' b t
  | str b=>obtain⟨t,rfl⟩:=rx;exact qs_.str_str a t' b t
  | _=>exact absurd (show false=true from fx) pi_
 | _=>exact absurd (show false=true from fy) pi_
noncomputable def eqU (x:V)(u:Value):Bool:=match u with
 | .none=>eqV .non x
 | .bool b=>eqV (.bl b) x
 | .int i _=>eqV (.int i) x
 | .str z _=>eqV (.str z) x
 | _=>false
theorem jqs_ {x y:V}{u:Value}(r:RelV y u)(f:xi_ y=true):eqU x u=eqV y x:=by
 cases y with
 | non=>cases r;rfl
 | bl b=>cases r;rfl
 | int i=>obtain⟨t,rfl⟩:=r;rfl
 | str z=>obtain⟨t,rfl⟩:=r;rfl
 | _=>exact absurd (show false=true from f) pi_
theorem uj_ {x:V}:∀{xs:List V}{us:List Value},Vals xs us->xs.all xi_=true->us.any (eqU x)=xs.any fun y=>eqV y x
 | _,_,.nil,_=>rfl
 | y::xs,u::us,.cons r t,f=>by
  rw[kv_,qk_] at f
  rw[rh_,rh_,jqs_ r f.1,uj_ t f.2]
theorem xw_ {A:Around}{s:Shared}{x:V}{v:Value}(rx:RelV x v)(fx:xi_ x=true):∀{xs:List V}{us:List Value},Vals xs us->xs.all xi_=true->∀ u∈us,qs_ A s u v (eqU x u)
 | _,_,.nil,_=>fun u hu=>by cases hu
 | y::xs,u::us,.cons r t,f=>fun u' hu=>by
  rw[kv_,qk_] at f
  rcases p0_.mp hu with rfl | hu
  ·rw[jqs_ r f.1];exact jok_ r rx f.1 fx
  ·exact xw_ rx fx t f.2 u' hu
noncomputable def inV (x:V)(xs:List V):Bool:=xs.any fun y=>eqV y x
def rIn (K:pc_)(neg:Bool):R2:=fun x y H Q=>∃ p xs,y=.ref p/\(SqL K H p xs∨SqT K H p xs)/\xi_ x=true/\xs.all xi_=true/\Q (.bl (if neg then !inV x xs else inV x xs)) H
theorem jmv_:OpR X (compareOp .In) (rIn X.K false):=by
 intro pins s σ H x y v u Q I rx ry h
 obtain⟨p,xs,rfl,hq,fx,fs,q⟩:=h
 cases ry
 rcases hq with hq | hq
 ·obtain⟨its,r,pl,hz⟩:=I.list hq
  refine SeqAt.in_listAt (eqU x) pl.isList (fun w hw=>xw_ rx fx r fs w (by simpa using hw)) ⟨.bl _,H,I,rfl,?_⟩
  rw[show its.toArray.any (eqU x)=its.any (eqU x) by simp,uj_ r fs]
  exact q
 ·obtain⟨its,r,pl,hz⟩:=I.tuple hq
  refine SeqAt.in_tupleAt (eqU x) pl (fun w hw=>xw_ rx fx r fs w (by simpa using hw)) ⟨.bl _,H,I,rfl,?_⟩
  rw[show its.toArray.any (eqU x)=its.any (eqU x) by simp,uj_ r fs]
  exact q
theorem jez_:OpR X (compareOp .NotIn) (rIn X.K true):=by
 intro pins s σ H x y v u Q I rx ry h
 obtain⟨p,xs,rfl,hq,fx,fs,q⟩:=h
 cases ry
 rcases hq with hq | hq
 ·obtain⟨its,r,pl,hz⟩:=I.list hq
  refine SeqAt.notIn_listAt (eqU x) pl.isList (fun w hw=>xw_ rx fx r fs w (by simpa using hw)) ⟨.bl _,H,I,rfl,?_⟩
  rw[show its.toArray.any (eqU x)=its.any (eqU x) by simp,uj_ r fs]
  exact q
 ·obtain⟨its,r,pl,hz⟩:=I.tuple hq
  refine SeqAt.notIn_tupleAt (eqU x) pl (fun w hw=>xw_ rx fx r fs w (by simpa using hw)) ⟨.bl _,H,I,rfl,?_⟩
  rw[show its.toArray.any (eqU x)=its.any (eqU x) by simp,uj_ r fs]
  exact q
theorem jed_:CallR X (.builtin "len") (fun xs H Q=>∃ p ys,xs=[.ref p]/\(SqL X.K H p ys∨SqT X.K H p ys)/\Q (.int ys.length) H):=by
 intro pins s σ H xs us Q I r h
 obtain⟨p,ys,rfl,hq,q⟩:=h
 obtain⟨u,rfl,rx⟩:=vd_ r
 cases rx
 have hn:=vz_
 rcases hq with hq | hq
 ·obtain⟨its,r',pl,hz⟩:=I.list hq
  have hlen:=r'.length
  exact Calls.call_len_list pl.isList (by simp only[pn_] <;> omega) ⟨.int ys.length,H,I.tok _,⟨s.toks+1,by rw[pn_,hlen]⟩,q⟩
 ·obtain⟨its,r',pl,hz⟩:=I.tuple hq
  have hlen:=r'.length
  exact len_tuple pl (by simp only[pn_] <;> omega) ⟨.int ys.length,H,I.tok _,⟨s.toks+1,by rw[pn_,hlen]⟩,q⟩
theorem jeg_:CallR X (.builtin "len") (fun xs H Q=>∃ z,xs=[.str z]/\z.length<=sizeLine/\Q (.int z.length) H):=by
 intro pins s σ H xs us Q I r h
 obtain⟨z,rfl,hz,q⟩:=h
 obtain⟨u,rfl,t,rfl⟩:=vd_ r
 have hn:=vz_
 exact len_str (by omega) ⟨.int z.length,H,I.tok _,⟨_,rfl⟩,q⟩
theorem call_list_of:CallR X (.type "list") (fun xs H Q=>∃ p ys,xs=[.ref p]/\(SqL X.K H p ys∨SqT X.K H p ys)/\∀ l,H l=none->Q (.ref l) (upd H l (.lst ys))):=by
 intro pins s σ H xs us Q I r h
 obtain⟨p,ys,rfl,hq,q⟩:=h
 obtain⟨u,rfl,rx⟩:=vd_ r
 cases rx
 have fin:∀(its:List Value),Vals ys its->ys.length<=sizeLine->∀(h':Heap) (c':Nat),(∀ b o',s.heap.get? b=some o'->h'.get? b=some o') ->
   h'.get? s.heap.objs.size=some { cls:=.type "list",dict:=none,data:=.seq its.toArray c',slots:=#[] }->EP X pins σ Q (.ref s.heap.objs.size) { s with heap:=h' }:=fun its r' hz h' c' kp e =>
  ⟨.ref s.heap.objs.size,_,I.laid (t':=s.toks) kp (po_ _) (show ObjOk X.prog X.w _ h' _ (.lst ys) from ⟨hz,its,c',r',e⟩),rfl,q _ (I.hok.fresh (po_ _))⟩
 rcases hq with hq | hq
 ·obtain⟨its,r',pl,hz⟩:=I.list hq
  have hlen:=r'.length
  obtain⟨o,ho,hc,n,hd⟩:=pl.isList
  exact call_list_seq p (.inl rfl) ho hc hd (fun h' c' kp e=>fin its r' hz h' c' kp e) (by simp only[pn_] <;> omega)
 ·obtain⟨its,r',pl,hz⟩:=I.tuple hq
  have hlen:=r'.length
  obtain⟨o,ho,hc,n,hd⟩:=pl
  exact call_list_seq p (.inr rfl) ho hc hd (fun h' c' kp e=>fin its r' hz h' c' kp e) (by simp only[pn_] <;> omega)
theorem call_tuple_of:CallR X (.type "tuple") (fun xs H Q=>∃ p ys,xs=[.ref p]/\((SqL X.K H p ys/\∀ l,H l=none->Q (.ref l) (upd H l (.tup ys)))∨(SqT X.K H p ys/\Q (.ref p) H))):=by
 intro pins s σ H xs us Q I r h
 obtain⟨p,ys,rfl,h⟩:=h
 obtain⟨u,rfl,rx⟩:=vd_ r
 cases rx
 rcases h with ⟨hq,q⟩ | ⟨hq,q⟩
 ·obtain⟨its,r',pl,hz⟩:=I.list hq
  have hlen:=r'.length
  refine call_tuple_list pl.isList (fun h' kp=>?_) (by simp only[pn_] <;> omega)
  have I1:Inv X pins σ H { s with heap:=h' }:=I.kept (t':=s.toks) kp
  have I2:Inv X pins σ (upd H h'.objs.size (.tup ys)) { s with heap:=h'.push { cls:=.type "tuple",data:=.seq its.toArray } } :=
   I1.laid (t':=s.toks) (fun b o e=>pd_ _ e) (po_ _) (show ObjOk X.prog X.w _ _ _ (.tup ys) from ⟨hz,its,r',IsTup.new _ _,DcN.new _ _⟩)
  exact⟨.ref h'.objs.size,_,I2,rfl,q _ (I1.hok.fresh (po_ _))⟩
 ·obtain⟨its,r',pl,hz⟩:=I.tuple hq
  exact call_tuple_same pl ⟨.ref p,H,I,rfl,q⟩
def tyV (K:pc_)(T:String)(x:V)(H:Hp):Prop:=match x with
 | .str _=>T="str"
 | .int _=>T="int"
 | .ref p=>(T="list"/\∃ xs,SqL K H p xs)∨(T="tuple"/\∃ o,K.lookup p=some o/\o.cls=.type "tuple"/\o.dict=none) ∨
   (T="dict"/\((∃ kvs,H p=some (.dK kvs))∨∃ kvs,H p=some (.dT kvs)))∨(T="set"/\∃ S n,H p=some (.set S n))
 | _=>False
theorem jrd_ {pins:List (Addr×Obj)}{σ:St}{H:Hp}{s:Shared}{T:String}{x:V}{v:Value}(I:Inv X pins σ H s)(r:RelV x v)(ty:tyV X.K T x H) :
  s.TypeIs v T/\∀ a,v=.ref a->∃ ob,s.heap.get? a=some ob/\ob.dict=none:=by
 cases x with
 | str z =>
  obtain⟨t,rfl⟩:=r
  cases (show T="str" from ty)
  exact⟨typeIs_str s z t,fun _ e=>nomatch e⟩
 | int i =>
  obtain⟨t,rfl⟩:=r
  cases (show T="int" from ty)
  exact⟨typeIs_int s i t,fun _ e=>nomatch e⟩
 | ref p =>
  cases r
  rcases ty with ⟨rfl,xs,hq⟩ | ⟨rfl,o,hk,hc,hd⟩ | ⟨rfl,hk⟩ | ⟨rfl,S,n,hk⟩
  ·obtain⟨its,_,pl,_⟩:=I.list hq
   refine⟨pl.isList.typeIs,fun a e=>?_⟩
   cases e
   obtain⟨o,n,e,c,hd,_⟩:=pl
   exact⟨o,e,hd⟩
  ·refine⟨⟨o,I.kIn p o hk,hc⟩,fun a e=>?_⟩
   cases e
   exact⟨o,I.kIn _ o hk,hd⟩
  ·have z:∃ o,s.heap.get? p=some o/\o.ExactDict:=by
    rcases hk with ⟨kvs,hk⟩ | ⟨kvs,hk⟩
    ·obtain⟨_,_,_,_,o,_,_,e,ex,_⟩:=I.hok p _ hk
     exact⟨o,e,ex⟩
    ·obtain⟨_,_,_,_,o,_,_,e,ex,_⟩:=I.hok p _ hk
     exact⟨o,e,ex⟩
   obtain⟨o,e,ex⟩:=z
   refine⟨⟨o,e,ex.1⟩,fun a e2=>?_⟩
   cases e2
   exact⟨o,e,ex.2.1⟩
  ·obtain⟨o,_,_,_,e,ex,_⟩:=I.hok p _ hk
   refine⟨⟨o,e,ex.1⟩,fun a e2=>?_⟩
   cases e2
   exact⟨o,e,ex.2.1⟩
 | _=>exact ru_ ty
def tBM0 (K:pc_)(T:String)(r:V->List V->Hp->VK->Prop)(to:TE):TE:=fun σ H Q=>to σ H fun x H1=>tyV K T x H1/\r x [] H1 Q
def tBM (K:pc_)(T:String)(r:V->List V->Hp->VK->Prop)(to:TE)(t:TA):TE:=fun σ H Q=>to σ H fun x H1=>tyV K T x H1/\t σ H1 fun xs H2=>r x xs H2 Q
variable {o e:Expr}{es:List Expr}{to:TE}{t:TA}{name:Str}{apos cpos:Pos}{T id:String}{r:V->List V->Hp->VK->Prop}
theorem jxd_ (pa:PlainAttrs T)(slot:Slot T name id)(hty:typeOf (.builtin id)=pure (.type "method_descriptor"))(hm:MtR X id r)(ho:PE X o to)
  (hbase:attributeBase o name X.env (eval o X.env)=eval o X.env:=by rfl) (hline:(apos.endLine == cpos.line)=true:=by rfl):PE X (.Call (.Attribute o name apos) [] [] cpos) (tBM0 X.K T r to):=by
 intro pins s σ H Q I h
 refine wpAny_Call_method0_late hbase hline (thn (ho pins s σ H _ I h) fun v s1 ⟨x,H1,I1,r1,ty,q1⟩=>?_)
 obtain⟨h1,h2⟩:=jrd_ I1 r1 ty
 exact⟨T,id,pa,slot,hty,h1,h2,sf_ rfl (PySem.evalArgs_none (hm pins s1 σ H1 x [] v [] Q I1 r1 .nil q1))⟩
theorem jzk_ (pa:PlainAttrs T)(slot:Slot T name id)(hty:typeOf (.builtin id)=pure (.type "method_descriptor"))(hm:MtR X id r)(ho:PE X o to)(ha:PA X (e::es) t)
  (hbase:attributeBase o name X.env (eval o X.env)=eval o X.env:=by rfl)
  (hfew:((backTo cpos (starEach (e::es) X.env)).all (fun x=>!x.1)&&(backToKw cpos (keywordEach [] X.env)).all (fun x=>x.1.isSome)
   && decide ((e::es).length+([]:List Keyword).length+(if ([]:List Keyword).isEmpty then 0 else 1) < 30))=true:=by rfl)
  (hline:(apos.endLine == cpos.line)=true:=by rfl) (hs:starEach (e::es) X.env=(false,eval e X.env)::starEach es X.env:=by rfl) (hplain:(backTo cpos (starEach es X.env)).any (·.1)=false:=by rfl) :
  PE X (.Call (.Attribute o name apos) (e::es) [] cpos) (tBM X.K T r to t):=by
 intro pins s σ H Q I h
 refine wpAny_Call_method_late hbase hfew hline rfl (thn (ho pins s σ H _ I h) fun v s1 ⟨x,H1,I1,r1,ty,q1⟩=>?_)
 obtain⟨h1,h2⟩:=jrd_ I1 r1 ty
 refine⟨T,id,pa,slot,hty,h1,h2,?_⟩
 have hA:=ha cpos pins s1 σ H1 _ I1 q1
 rw[hs] at hA ⊢
 refine sf_ (by show (false || (backTo cpos (starEach es X.env)).any (·.1))=false;rw[hplain] <;> rfl) (tl_ ?_)
 exact thn hA fun us s2 ⟨vs,H2,I2,r2,q2⟩=>hm pins s2 σ H2 x vs v us Q I2 r1 r2 q2
/- xs.append(e),list.index on a module's tuple .. are MtR facts of 06m -/
end
end L2
namespace L2
open PySem PySem.Spec PyProof.Rows
noncomputable def MtM (X:Cx)(id:String)(r:V->List V->Hp->VK->Prop):Prop :=
 ∀(pins:List (Addr×Obj)) (s:Shared) (σ:St) (H:Hp) (x:V) (xs:List V) (v:Value) (us:List Value) (Q:VK),Inv X pins σ H s->RelV x v->Vals xs us->r x xs H Q ->
  wpAny (model X.prog X.w) X.A (call (.builtin id) (v::us)) (EP X pins σ Q) X.xe s
theorem Vals.one:∀{x:V}{us:List Value},Vals [x] us->∃ u,us=[u]/\RelV x u
 | _,_,.cons r .nil=>⟨_,rfl,r⟩
theorem Vals.zero:∀{us:List Value},Vals [] us->us=[]
 | _,.nil=>rfl
theorem Vals.dropLast {xs:List V}{us:List Value}(h:Vals xs us):Vals xs.dropLast us.dropLast:=by
 induction h with
 | nil=>exact .nil
 | cons r t ih =>
  cases t with
  | nil=>exact .nil
  | cons q t'=>exact .cons r ih
theorem Vals.eraseIdx:∀{xs:List V}{us:List Value} (i:Nat),Vals xs us->Vals (xs.eraseIdx i) (us.eraseIdx i)
 | _,_,_,.nil=>.nil
 | _,_,0,.cons _ t=>t
 | _,_,i+1,.cons r t=>.cons r (Vals.eraseIdx i t)
theorem Vals.rep {xs:List V}{us:List Value}(h:Vals xs us):∀ k:Nat,Vals (pr_ k xs).flatten (pr_ k us).flatten
 | 0=>.nil
 | k+1=>by
  rw[ro_,ro_,rm_,rm_]
  exact Vals.append h (Vals.rep h k)
theorem jir_ {α:Type}(l:List α):l.eraseIdx (l.length - 1)=l.dropLast:=by
 induction l with
 | nil=>rfl
 | cons a r ih =>
  cases r with
  | nil=>rfl
  | cons b r =>
   have e:(a::b::r).length - 1=((b::r).length - 1)+1:=by
    have h1:(a::b::r).length=r.length+2:=rfl
    have h2:(b::r).length=r.length+1:=rfl
    omega
   rw[e,wo_,ih]
   all_goals rfl
theorem jcm_ {α:Type}:∀(l:List α) (i:Nat),(l.eraseIdx i).length<=l.length
 | [],_=>po_ _
 | _::_,0=>wm_ _
 | _::r,i+1=>Nat.succ_le_succ (jcm_ r i)
theorem jcr_ (its:List Value):∀(k:Nat) (acc:List Value),
  List.foldl (fun x1 x2=>x1++x2) acc.toArray (pr_ k its.toArray)=(acc++(pr_ k its).flatten).toArray
 | 0,acc=>by simp
 | k+1,acc=>by
  have e:acc.toArray++its.toArray=(acc++its).toArray:=by simp
  have e2:(acc++its)++(pr_ k its).flatten=acc++(pr_ (k+1) its).flatten:=by
   rw[ro_,rm_,r6_]
  rw[<- e2,<- jcr_ its k (acc++its),<- e,ro_,w6_]
section
variable {X:Cx}{pins:List (Addr×Obj)}{σ:St}{H:Hp}{s:Shared}{l b:Addr}{xs ys zs:List V}
theorem Inv.lset {its its':List Value}{n:Nat}{f:Array Value->Array Value}{t':Nat}(I:Inv X pins σ H s)(hH:H l=some (.lst xs))
  (e:s.heap.get? l=some { cls:=.type "list",data:=.seq its.toArray n }) (hf:f its.toArray=its'.toArray) (hv:Vals ys its') (hz:ys.length<=sizeLine) :
  Inv X pins σ (upd H l (.lst ys)) { s with heap:=s.heap.update l (kh_ f),toks:=t' }:=by
 have q:=PySem.IsL.update e f
 rw[hf] at q
 refine I.write (x:=l) (e:=l) (by rw[hH];exact trivial) (.inl rfl) (fun b' u hb hu=>(wz_ s.heap (kh_ f) (tq_ hb)).trans hu) ⟨_,q⟩ ?_
 exact⟨hz,its',_,hv,q⟩
theorem Inv.lnew {its:List Value}{t':Nat}(I:Inv X pins σ H s)(hv:Vals ys its)(hz:ys.length<=sizeLine) :
  Inv X pins σ (upd H s.heap.objs.size (.lst ys)) { s with heap:=s.heap.push { cls:=.type "list",data:=.seq its.toArray },toks:=t' } :=
 I.laid (fun _ _ q=>pd_ _ q) (po_ _) ⟨hz,its,0,hv,pv_ _ rfl⟩
theorem Inv.fresh (I:Inv X pins σ H s):H s.heap.objs.size=none:=I.hok.fresh (po_ _)
theorem Inv.lstM (I:Inv X pins σ H s)(hH:H l=some (.lst xs)):xs.length<=sizeLine/\∃(its:List Value) (n:Nat),Vals xs its/\xs.length=its.length/\s.heap.get? l=some { cls:=.type "list",data:=.seq its.toArray n }:=by
 obtain⟨z,its,n,r,e⟩:=I.hok l _ hH
 exact⟨z,its,n,r,r.length,e⟩
theorem jhb_ {n:Nat}(h:n<=sizeLine):r7_ n=false:=by
 unfold r7_
 exact decide_eq_false (by omega)
end
section
variable {X:Cx}
def jtg_:V->List V->Hp->VK->Prop:=fun x vs H Q=>∃ l xs y,x=.ref l/\vs=[y]/\H l=some (.lst xs)/\xs.length < sizeLine/\Q .non (upd H l (.lst (xs++[y])))
theorem u7_:MtM X "list.append" jtg_:=by
 intro pins s σ H x vs v us Q I rx rv h
 obtain⟨l,xs,y,rfl,rfl,hH,hz,q⟩:=h
 cases rx
 obtain⟨u,rfl,ru⟩:=rv.one
 obtain⟨z,its,n,r,hl,e⟩:=I.lstM hH
 refine call_meets F.slot_list_append ⟨_,e,rfl⟩ F.entry_list_append (F.args_list_append_2 _ _) (PySem.list_append l its.toArray n u (by rw[pn_];omega)) ⟨e,?_⟩
 refine⟨.non,_,I.lset (its':=its++[u]) hH e (by simp) (r.append (.cons ru .nil)) ?_,rfl,q⟩
 rw[pg_,p8_]
 omega
def jtf_:V->List V->Hp->VK->Prop:=fun x vs H Q=>∃ l b xs zs,x=.ref l/\vs=[.ref b]/\H l=some (.lst xs)/\H b=some (.lst zs)/\xs.length+zs.length<=sizeLine/\Q .non (upd H l (.lst (xs++zs)))
theorem jxz_:MtM X "list.extend" jtf_:=by
 intro pins s σ H x vs v us Q I rx rv h
 obtain⟨l,b,xs,zs,rfl,rfl,hH,hB,hz,q⟩:=h
 cases rx
 obtain⟨u,rfl,ru⟩:=rv.one
 cases ru
 obtain⟨z,its,n,r,hl,e⟩:=I.lstM hH
 obtain⟨z2,its2,n2,r2,hl2,e2⟩:=I.lstM hB
 have hsz:its.toArray.size+its2.toArray.size<=sizeLine:=by rw[pn_,pn_];omega
 have hlong:¬ (!its.toArray.isEmpty&&r7_ (its.toArray.size+its2.toArray.size))=true:=by
  rw[jhb_ hsz,Bool.and_false]
  exact pi_
 refine call_meets F.slot_list_extend ⟨_,e,rfl⟩ F.entry_list_extend (F.args_list_extend_2 _ _)
  (AutoSeq1.list_extend_list_list_0 l its.toArray n b its2.toArray n2 hlong (by rw[pn_];omega) (by omega)) ⟨e,e2,?_⟩
 refine⟨.non,_,I.lset (its':=its++its2) hH e (by simp) (r.append r2) ?_,rfl,q⟩
 rw[pg_]
 omega
def rPop:V->List V->Hp->VK->Prop:=fun x vs H Q=>∃ l xs y,x=.ref l/\vs=[]/\H l=some (.lst xs)/\xs[xs.length - 1]?=some y/\Q y (upd H l (.lst xs.dropLast))
theorem jwi_:MtM X "list.pop" rPop:=by
 intro pins s σ H x vs v us Q I rx rv h
 obtain⟨l,xs,y,rfl,rfl,hH,hy,q⟩:=h
 cases rx
 have hus:=rv.zero
 subst hus
 obtain⟨z,its,n,r,hl,e⟩:=I.lstM hH
 obtain⟨u,hu,ru⟩:=r.get hy
 have hy':its.toArray[its.toArray.size - 1]?=some u:=by
  show its.toArray[its.length - 1]?=some u
  rw[<- rx_,<- hl]
  exact hu
 refine call_meets F.slot_list_pop ⟨_,e,rfl⟩ F.entry_list_pop (F.args_list_pop_1 _) (MeetsSeq.list_pop_last l its.toArray n u hy' (by rw[pn_];omega)) ⟨e,?_⟩
 refine⟨y,_,I.lset (its':=its.dropLast) hH e ?_ r.dropLast ?_,ru,q⟩
 ·show its.toArray.eraseIdxIfInBounds (its.toArray.size - 1)=its.dropLast.toArray
  rw[pn_,s6_,jir_]
 ·rw[List.length_dropLast]
  omega
def jjm_:V->List V->Hp->VK->Prop:=fun x vs H Q=>∃ l xs i k y,x=.ref l/\vs=[.int i]/\H l=some (.lst xs)/\-(2 ^ 63)<=i/\i < 2 ^ 63/\seqIndex? i xs.length=some k/\xs[k]?=some y/\Q y (upd H l (.lst (xs.eraseIdx k)))
theorem jpa_:MtM X "list.pop" jjm_:=by
 intro pins s σ H x vs v us Q I rx rv h
 obtain⟨l,xs,i,k,y,rfl,rfl,hH,h1,h2,hk,hy,q⟩:=h
 cases rx
 obtain⟨u,rfl,ru⟩:=rv.one
 obtain⟨t,rfl⟩:=ru
 obtain⟨z,its,n,r,hl,e⟩:=I.lstM hH
 obtain⟨w,hw,rw'⟩:=r.get hy
 refine call_meets F.slot_list_pop ⟨_,e,rfl⟩ F.entry_list_pop (F.args_list_pop_2 _ _)
  (MeetsSeq.list_pop_at l its.toArray n i t k w (fitsIndex_both h1 h2) (by rw[pn_,<- hl];exact hk) (by rw[<- rx_];exact hw) (by rw[pn_];omega)) ⟨e,?_⟩
 refine⟨y,_,I.lset (its':=its.eraseIdx k) hH e ?_ (r.eraseIdx k) ?_,rw',q⟩
 ·show its.toArray.eraseIdxIfInBounds k=(its.eraseIdx k).toArray
  rw[s6_]
 ·have:=jcm_ xs k
  omega
def jxj_:V->List V->Hp->VK->Prop:=fun x vs H Q=>∃ l xs,x=.ref l/\vs=[]/\H l=some (.lst xs)/\Q .non (upd H l (.lst []))
theorem jsc_:MtM X "list.clear" jxj_:=by
 intro pins s σ H x vs v us Q I rx rv h
 obtain⟨l,xs,rfl,rfl,hH,q⟩:=h
 cases rx
 have hus:=rv.zero
 subst hus
 obtain⟨z,its,n,r,hl,e⟩:=I.lstM hH
 refine call_meets F.slot_list_clear ⟨_,e,rfl⟩ F.entry_list_clear (F.args_list_clear_1 _) (AutoSeq1.list_clear_list_0 l its.toArray n (by rw[pn_];omega)) ⟨e,?_⟩
 exact⟨.non,_,I.lset (its':=[]) (ys:=[]) hH e rfl .nil (qz_ _),rfl,q⟩
def rCat:R2:=fun x y H Q=>∃ l b xs zs,x=.ref l/\y=.ref b/\H l=some (.lst xs)/\H b=some (.lst zs)/\xs.length+zs.length<=sizeLine/\∀ p,H p=none->Q (.ref p) (upd H p (.lst (xs++zs)))
theorem jxr_:OpR X (binaryOp .Add) rCat:=by
 intro pins s σ H x y v u Q I rx ry h
 obtain⟨l,b,xs,zs,rfl,rfl,hH,hB,hz,q⟩:=h
 cases rx
 cases ry
 obtain⟨z,its,n,r,hl,e⟩:=I.lstM hH
 obtain⟨z2,its2,n2,r2,hl2,e2⟩:=I.lstM hB
 refine PySem.P.add_list e e2 ?_ (by rw[pn_,pn_];omega)
 have ea:its.toArray++its2.toArray=(its++its2).toArray:=by simp
 rw[ea]
 exact⟨.ref _,_,I.lnew (t':=s.toks) (r.append r2) (by rw[pg_];omega),rfl,q _ I.fresh⟩
def rRep:R2:=fun x y H Q=>∃ l k xs,x=.ref l/\y=.int k/\H l=some (.lst xs)/\-(2 ^ 63)<=k/\k < 2 ^ 63/\xs.length * k.toNat<=sizeLine /\
 ∀ p,H p=none->Q (.ref p) (upd H p (.lst (pr_ k.toNat xs).flatten))
theorem jtb_ {α:Type}(xs:List α)(k:Nat):(pr_ k xs).flatten.length=k * xs.length:=by
 induction k with
 | zero=>simp
 | succ k ih=>rw[ro_,rm_,pg_,ih,w7_,Nat.add_comm]
theorem jxc_:OpR X (binaryOp .Mult) rRep:=by
 intro pins s σ H x y v u Q I rx ry h
 obtain⟨l,k,xs,rfl,rfl,hH,h1,h2,hz,q⟩:=h
 cases rx
 obtain⟨t,rfl⟩:=ry
 obtain⟨z,its,n,r,hl,e⟩:=I.lstM hH
 have hlen:its.toArray.size * k.toNat<=sizeLine:=by rw[pn_,<- hl];exact hz
 have hcap:¬ its.toArray.size * k.toNat > (2 ^ 63 - 1) / 8:=by
  have:(sizeLine:Nat)<=(2 ^ 63 - 1) / 8:=by decide
  omega
 have hfit:¬ (!Builtin.List.listFitsIndex k)=true:=by
  rw[fitsIndex_both h1 h2]
  exact pi_
 have hlong:¬ r7_ (its.toArray.size * k.toNat)=true:=by
  rw[jhb_ hlen]
  exact pi_
 have hnew:List.foldl (fun x1 x2=>x1++x2) #[] (pr_ (if its.toArray.isEmpty=true then 0 else k.toNat) its.toArray)=(pr_ k.toNat its).flatten.toArray:=by
  have f0:∀ m:Nat,List.foldl (fun x1 x2=>x1++x2) #[] (pr_ m its.toArray)=(pr_ m its).flatten.toArray:=fun m=>by
   have:=jcr_ its m []
   rw[List.nil_append] at this
   exact this
  rw[f0]
  cases its with
  | nil=>simp
  | cons a r'=>rw[if_neg (by simp)]
 refine wpAny_binaryOp_repeat_ref (T:="list") (U:="int") (by decide) ⟨_,e,rfl⟩ (fun s'=>typeIs_int s' k t) noFill_list_mul F.fills_int_mul F.slot_int_rmul repeat_list F.slot_int_index.lookup
  (call_meets F.slot_int_rmul (typeIs_int s k t) F.entry_int_rmul (F.args_int_rmul_2 _ _) (int___rmul___int_list k t l its.toArray n)
   ⟨e,rfl,⟨_,e,rfl⟩,call_meets F.slot_list_mul ⟨_,e,rfl⟩ F.entry_list_mul (F.args_list_mul_2 _ _) (AutoListH.list___mul___list_int_3 l its.toArray n k t hfit hcap hlong) ⟨e,?_⟩⟩)
 rw[hnew]
 exact⟨.ref _,_,I.lnew (t':=s.toks) (r.rep k.toNat) (by rw[jtb_,Nat.mul_comm];exact hz),rfl,q _ I.fresh⟩
end
section
variable {prog:Program}{w:World}{A:Around}{E:Value->Shared->Prop}{s:Shared}
set_option maxRecDepth 100000 in
end
section
variable {X:Cx}
end
end L2
namespace Att
open PySem PySem.W PySem.Calls PyProof.Rows
theorem jaj_ {P:Params}{h:Heap}:∀(ns:List Int) (vs:List Value),WellAll P h vs (ns.map WData.int)->IntsAre vs ns:=by
 intro ns
 induction ns with
 | nil =>
  intro vs w
  rw[p7_] at w
  cases w
  exact .nil
 | cons n ns ih =>
  intro vs w
  rw[pp_] at w
  cases w with
  | cons a b =>
   cases a
   exact .cons _ _ (ih _ b)
theorem jme_ {l:OpenLaw}{n:Nat}(hn:l.most=some n){P:Params}{h:Heap}{args:List WData}{vals:List Value}
  (hpre:l.row.toRowW.claim.pre args=true) (hwl:WellAll P h vals args) :
  ∃ a vs ns,vals=[Value.ref a]/\args=[WData.list (ns.map WData.int)]/\h.get? a=some { cls:=.type "list",data:=.seq vs.toArray }/\IntsAre vs ns/\ns.length<=n:=by
 have hsh:WShape.hasAll [] args [.list .int]=true:=(pre_splitW hpre).1
 have hc:l.pre.holds [] { args:=args }=true:=(pre_splitW hpre).2
 obtain⟨d,r,rfl,h1,h2⟩:=hasAllW_cons hsh
 obtain rfl:=hasAllW_nil h2
 obtain⟨xs,rfl,h3⟩:=hasW_list h1
 obtain⟨ns,rfl⟩:=items_int h3
 have hlen:ns.length<=n:=by
  unfold OpenLaw.pre at hc
  have h4:(WTm.not (.lt (.lit (.int (n:Int))) (.len (.arg 0)))).holds [] { args:=[.list (ns.map .int)] }=true:=by
   have h4:=(holds_andW hc).1
   rw[hn] at h4
   exact h4
  have h5:=condW_of h4 (w_not (w_lt w_lit (w_len_list (w_arg rfl))))
  rw[pb_] at h5
  refine Nat.le_of_not_lt fun q=>?_
  have q':(n:Int) < ((ns.length:Nat):Int):=by omega
  first
   | (rw[decide_eq_true q'] at h5;exact absurd h5 (by decide))
   | (simp at h5;omega)
 cases hwl with
 | cons w1 w2 =>
  cases w2
  cases w1 with
  | list ho hall=>exact⟨_,_,ns,rfl,rfl,ho,jaj_ ns _ hall,hlen⟩
theorem jnq_ (l:OpenLaw)(args:List WData):l.row.toRowW.claim.post args (.bool true) args=true :=
 postW_of (r:=l.row.toRowW) (X:=(true == true))
  (show WShape.has [] (.bool true) .bool=true by first | rfl | decide | simp[WShape.has,WShape.arms,WShape.armsAll])
  (show (WTm.eq .res (.lit (.bool true))).value [] { args:=args,res:=some (.bool true),after:=args }=some (.bool (true == true)) from w_eq_bool (w_res rfl) w_lit) rfl
theorem attach_call {l:OpenLaw}{n:Nat}{q:Program}{loose:List Str}{XP:(Str->Option Value)->Heap->Prop}{YP:World->Heap->Prop}{d:DefRec}
  (hn:l.most=some n) (hdf:d.params.defaults=[])
  (call:∀(w:World) (s₀ s₁:Shared) (mg mb:Str->Option Value) (fa:Addr) (o:Obj) (pm cd doc:Value) (a:Addr) (vs:List Value) (ns:List Int),
   Ground q loose [] XP w s₀ mg mb s₁.heap->YP w s₁.heap ->
   s₁.heap.get? fa=some o->o.data=.func (docDef d.name d.params d.body d.scope pm cd doc)->s₁.heap.CodeRec cd d.name->mg d.name=some (.ref fa) ->
   s₁.heap.get? a=some { cls:=.type "list",data:=.seq vs.toArray }->IntsAre vs ns->ns.length<=n->s₁.gens=#[] ->
   codeAny (model l.prog w) callerA (.call (.ref fa) ⟨[.ref a],[]⟩) (fun r s'=>r=.ok (.ret (.bool true))/\OldK s₁.heap s'.heap/\s'.os=s₁.os/\AllBare s'.gens) s₁) :
  WalkO q loose XP YP l.row.toRowW d [] (fun f vs=>PySem.call f vs):=by
 intro w s₀ s₁ mg mb G Y fa o pm cd doc dV kV ho hd hcd hD hmg hg args vals as hpre hlay hrd hwl hlo
 obtain rfl:dV=.none:=Dflts.none hD hdf
 obtain rfl:kV=.none:=Dflts.noKw hD
 obtain⟨a,vs,ns,rfl,rfl,hobj,hints,hlen⟩:=jme_ hn hpre hwl
 refine enter_call (codeAny_mono (call w s₀ s₁ mg mb fa o pm cd doc a vs ns G Y ho (fd_plain hd) hcd hmg hobj hints hlen hg) fun r s' hq=>?_)
 obtain⟨rfl,h2,h3,h4⟩:=hq
 exact⟨.inl ⟨.bool true,.bool true,[],rfl,fun _=>rfl,.bool true,jnq_ l _,fun _=>⟨List.Pairwise.nil,fun _ hm=>(nomatch hm)⟩⟩,h2,h3,h4⟩
section
variable {prog:Program}{w:World}{A:Around}{E:Value->Shared->Prop}{s:Shared}{K:Frag}
end
end Att
namespace L2
open PySem PySem.Spec PyProof.Rows
theorem jdb_:∀{vs:List Value}{ns:List Int},IntsAre vs ns->Vals (ns.map V.int) vs
 | _,_,.nil=>.nil
 | _,_,.cons n t h=>.cons ⟨t,rfl⟩ (jdb_ h)
def Only (H:Hp):Prop:=∀ b,H b=none∨∃ o xs,H b=some (.frz o (.lst xs))
theorem jqr_ {P:Program}{w:World}{K:pc_}{mg mb:Str->Option Value}{CX:CXT}{k:Nat}{fa a:Addr}{fd:FuncData}{x:Str}{sp:Sp}{s₁:Shared}{vs:List Value}{ns:List Int}
  (KX:K.In s₁.heap) (hns:s₁.heap.Ns mainGlobals mg) (hb:s₁.heap.Ns builtinsNs mb) (hbb:∀ x:Str,x≠"__name__"->mb x=bootBuiltins x) (hlim:s₁.heap.NoLimit) (hg:s₁.gens=#[])
  (ha:s₁.heap.get? a=some { cls:=.type "list",data:=.seq vs.toArray }) (hi:IntsAre vs ns) (hl:ns.length<=sizeLine) (hr:Room k callerA)
  (F:∀ base:Heap,K.In base->base.Ns mainGlobals mg->FnOk P w K mg base CX k fa fd [x] sp) (hbind:∀(s:Shared) (u:Value),BindsTo s fd ⟨[u],[]⟩ [(x,u)])
  (hsp:∀ H:Hp,Only H->SqL K H a (ns.map V.int)->sp [.ref a] H (fun v _=>v=.bl true) fun _ _ _=>False)
  (hCX:∀ H e s',CX [] H s₁ (fun _ _ _=>False) e s'->False) :
  codeAny (model P w) callerA (.call (.ref fa) ⟨[.ref a],[]⟩) (fun r s'=>r=.ok (.ret (.bool true))/\OldK s₁.heap s'.heap/\s'.os=s₁.os/\AllBare s'.gens) s₁:=by
 have rv:=jdb_ hi
 have lenV:=hi.length
 -- from an abstract heap in which nothing but the script may be tracked
 have core:∀ H:Hp,Only H->SqL K H a (ns.map V.int)->HOk P w H s₁.heap->(∀ b,H b≠none->b=a)->(H a≠none->K.lookup a=none) ->
   codeAny (model P w) callerA (.call (.ref fa) ⟨[.ref a],[]⟩) (fun r s'=>r=.ok (.ret (.bool true))/\OldK s₁.heap s'.heap/\s'.os=s₁.os/\AllBare s'.gens) s₁:=by
  intro H hO hS hok hA hK
  have base_of:∀{b:Addr}{o:Obj},s₁.heap.get? b=some o->H b=none->(hidT s₁.heap H).get? b=some o:=fun e n=>jrb_ e n
  have noA:∀{b:Addr}{o:Obj}{es:Array DictEntry}{ep:Nat},s₁.heap.get? b=some o->o.data=.dict es ep->H b=none:=fun{b o es ep} e d=>by
   cases q:H b with
   | none=>rfl
   | some u =>
    have e':b=a:=hA b (by rw[q];simp)
    subst e'
    rw[ha] at e;cases e
    have d':Data.seq vs.toArray _=Data.dict es ep:=d
    cases d'
  have nsK:∀{b:Addr}{m:Str->Option Value},s₁.heap.Ns b m->(hidT s₁.heap H).Ns b m:=fun{b m} ⟨o,es,ep,e,d,r⟩=>⟨o,es,ep,base_of e (noA e d),d,r⟩
  have hKb:K.In (hidT s₁.heap H):=fun b o e=>base_of (KX b o e) (by
   cases q:H b with
   | none=>rfl
   | some u =>
    have e':b=a:=hA b (by rw[q];simp)
    subst e'
    rw[hK (by rw[q];simp)] at e;cases e)
  have hM:Mod K mg (hidT s₁.heap H):=⟨hKb,nsK hns,⟨mb,nsK hb,hbb⟩,let ⟨mc,h1,h2⟩:=hlim;⟨mc,nsK h1,h2⟩⟩
  have e0:Env0 P w K mg (hidT s₁.heap H) callerA [] s₁ H:=⟨rfl,hM,fun b o e=>jta_ e,Nat.le_of_eq (jno_ _ _),trivial,fun b hb=>absurd (show b∈([]:List Addr) from hb) (by simp),hok,.of_eq hg⟩
  refine codeAny_mono ((F _ hKb (nsK hns)).run callerA [] s₁ H ⟨[.ref a],[]⟩ [.ref a] [.ref a] _ _ hr e0 (hbind s₁ (.ref a)) (.cons rfl .nil) (hsp H hO hS)) fun r s' h=>?_
  cases r with
  | error e=>exact(hCX H e s' h).elim
  | ok fl =>
   cases fl with
   | next=>exact ru_ h
   | brk=>exact ru_ h
   | cont=>exact ru_ h
   | ret u =>
    obtain⟨v,H',os,bare,un,hok',r',q⟩:=h
    have q':v=.bl true:=q
    subst q'
    obtain rfl:u=Value.bool true:=r'
    refine⟨rfl,OldK.of_keep fun b o e=>?_,os,bare⟩
    cases q:H b with
    | none=>exact un.keep b o e q (by intro z;exact absurd (show b∈([]:List Addr) from z) (by simp)) (by simp)
    | some u =>
     rcases hO b with z | ⟨ob,xs,z⟩
     ·rw[q] at z;cases z
     ·have z2:=un.frzs b ob _ z
      obtain⟨e1,_⟩:=hok b _ z
      obtain⟨e2,_⟩:=hok' b _ z2
      rw[e] at e1;cases e1
      exact e2
 cases hk:K.lookup a with
 | some o =>
  -- the script is one of the module's own objects
  have e:=KX a o hk
  rw[ha] at e
  cases e
  refine core (fun _=>none) (fun _=>.inl rfl) (.inr ⟨_,vs.toArray,_,hk,rfl,rfl,rfl,by rw[pn_,lenV];exact hl,by simpa using rv⟩) (fun b u z=>by have z':(none:Option HO)=some u:=z;cases z') (fun b z=>absurd rfl z) fun z=>absurd rfl z
 | none =>
  refine core (fun b=>if b=a then some (.frz { cls:=.type "list",data:=.seq vs.toArray } (.lst (ns.map V.int))) else none) (fun b=>?_) (.inl (.inr ⟨{ cls:=.type "list",data:=.seq vs.toArray },if_pos rfl⟩)) (fun b u z=>?_) (fun b z=>?_) fun _=>hk
  ·by_cases hb:b=a
   ·exact .inr ⟨_,_,if_pos hb⟩
   ·exact .inl (if_neg hb)
  ·by_cases hb:b=a
   ·have z':=(if_pos hb).symm.trans z
    cases z'
    subst hb
    exact⟨ha,by rw[pb_];exact hl,vs,_,rv,ha⟩
   ·have z':=(if_neg hb).symm.trans z
    cases z'
  ·by_cases hb:b=a
   ·exact hb
   ·exact absurd (if_neg hb) z
end L2
namespace L2
open PySem PySem.Spec PyProof.Rows
theorem jkn_ {l:w8_}{n k:Nat}{q:Program}{loose:List Str}{XP:(Str->Option Value)->Heap->Prop}{YP:World->Heap->Prop}{d:DefRec}{K:Params->pc_}{CX:World->CXT}{sp:World->Sp}{x:Str}
  (hn:l.most=some n) (hn2:n<=sizeLine) (hdf:d.params.defaults=[]) (hr:Room k callerA)
  (hY:∀(w:World) (h:Heap),YP w h->(K w.params).In h)
  (F:∀(w:World) (mg:Str->Option Value) (fa:Addr) (h:Heap),(K w.params).In h->h.Ns mainGlobals mg->mg d.name=some (.ref fa) ->
   ∃ fd:FuncData,(∀(s:Shared) (u:Value),BindsTo s fd ⟨[u],[]⟩ [(x,u)]) /\
    ∀ base:Heap,(K w.params).In base->base.Ns mainGlobals mg->FnOk l.prog w (K w.params) mg base (CX w) k fa fd [x] (sp w))
  (hsp:∀(w:World) (H:Hp) (a:Addr) (ns:List Int),ns.length<=n->Only H->SqL (K w.params) H a (ns.map V.int)->sp w [.ref a] H (fun v _=>v=.bl true) fun _ _ _=>False)
  (hCX:∀(w:World) (H:Hp) (s:Shared) (e:Value) (s':Shared),CX w [] H s (fun _ _ _=>False) e s'->False) :
  PySem.W.WalkO q loose XP YP l.row.toRowW d [] (fun f vs=>PySem.call f vs):=by
 refine Att.attach_call hn hdf fun w s₀ s₁ mg mb fa o pm cd doc a vs ns G Y ho hd hcd hmg hobj hints hlen hg=>?_
 have KX:=hY w _ Y
 obtain⟨fd,hb,hF⟩:=F w mg fa _ KX G.T.g hmg
 exact jqr_ KX G.T.g G.T.b G.T.builtins G.T.nolimit hg hobj hints (qe_ hlen hn2) hr hF hb (fun H hO hS=>hsp w H a ns hlen hO hS) fun H e s'=>hCX w H s₁ e s'
end L2
/- THE LAST THEOREM (shape;LID,My.* are yours):
  My.Adr: a structure of the addresses that your layer names (classes,functions);My.Txt K t: a structure (Prop) of the equations over K;
  My.txt_mk:{K}{implicit addresses ..} (e1:nsIn K mainGlobals "law"=some (some (.ref f))) (e2:K.lookup f=some ⟨oc,od,.func (fnOf "law" "law" params body scope dV kV doc pm an cdv ct),sl⟩) (e3:codeIn K cdv "law"=true) ..:∃ t,My.Txt K t
set_option maxRecDepth 100000 in
set_option maxHeartbeats 0 in
theorem PySem.Challenge.cw_LID_holds : PySem.Challenge.rw_LID.Holds := by
 w_on;o_law;k_head;(case hw=>w_witness2)
 k_fill
 refine L2.jkn_ (l:=PySem.Challenge.rw_LID) (n:=63) (k:=40) (x:="script") (CX:=fun w=>..) (sp:=fun _=>My.sp_law) rfl (by decide) rfl ⟨rfl,by decide,by decide⟩ (fun w h Y=>PySem.W.kIn_of Y) ?F ?S ?C
 case F =>
  intro w mg fa h KX G hmg
  have T:∃ t,My.Txt (L2.KOf KX) t:=by
   dsimp only [L2.KOf]                          -- K must stand as «<heap const> w.params» for k_is
   refine' My.txt_mk ?e1 ?e2 ?e3 ..
   (case e1=>PySem.W.k_is)                    -- in the order: a name -> its address -> its object -> its parts
   (case e2=>PySem.W.k_is)
   ..
  obtain⟨t,T⟩:=T
  have e0:=hmg.symm.trans (p4_ KX G T.law)
  cases e0                                       -- fa is the law's own address
  exact⟨_,fun s u=>.of_eq rfl,fun base kb nb=>My.law_fn T kb nb⟩     -- if «.of_eq rfl» comes too early: refine' ⟨_,?b,fun base kb nb=>My.law_fn T kb nb⟩;exact fun s u=>.of_eq rfl
 case S=>exact fun w H a ns hl hO hS=>..
 case C=>exact ..
(the tactic k_is has no namespace: write k_is) -/
namespace L2
open PySem PySem.Spec PyProof.Rows
noncomputable def vk_ (s:Stmt)(j:Nat):Stmt:=match s with
 | .ClassDef _ _ _ body _ _ _ _ _ _ _=>body.getD j (.Pass ⟨0,0,0,0⟩)
 | _=>.Pass ⟨0,0,0,0⟩
noncomputable def ve_ (s:Stmt):Arguments:=match s with
 | .FunctionDef _ a _ _ _ _ _ _ _ _=>a
 | _=>{ posonlyargs:=[],args:=[],vararg:=none,kwonlyargs:=[],kw_defaults:=[],kwarg:=none,defaults:=[] }
noncomputable def xp_ (s:Stmt):List Stmt:=match s with
 | .FunctionDef _ _ b _ _ _ _ _ _ _=>b
 | _=>[]
noncomputable def jm_ (s:Stmt):Scope:=match s with
 | .FunctionDef _ _ _ _ _ _ sc _ _ _=>sc
 | _=>{ kind:=.function,names:=[],isGenerator:=false,isCoroutine:=false }
noncomputable abbrev CX0:CXT:=fun _ _ _ _ _ _=>False
noncomputable abbrev E0:XK:=fun _ _ _=>False
theorem jkw_ {X:Cx}:v3_ CX0 X E0:=fun _ _ _ _ _ _ _ h=>h.elim
structure Fun (K:pc_)(x qual:Str)(st:Stmt)(f:Addr)(fd:FuncData):Prop where
 ex:∃(oc:Value) (od:Option Addr) (kV doc pm:Value) (an:Option Addr) (cdv ct:Value) (osl:Array (Option Value)),
  fd=sj_ x qual (ve_ st) (xp_ st) (jm_ st) .none kV doc pm an cdv ct/\K.lookup f=some ⟨oc,od,.func fd,osl⟩/\t8_ K cdv qual=true
 kp:rz_ K (.ref f)=true
section
variable {P:Program}{w:World}{K:pc_}{mg:Str->Option Value}{base:Heap}
theorem Fun.ok {x qual:Str}{st:Stmt}{f:Addr}{fd:FuncData}{N ps:List Str}{k:Nat}{sp:Sp}(F:Fun K x qual st f fd)(S:FnScope N ps (jm_ st))(len:∀ vs H Q E,sp vs H Q E->vs.length=ps.length)
  (hbody:∀(cdv:Value) (A:Around) (outer:List Env) (s:Shared) (H:Hp) (vs:List V) (Q:VK) (E:XK),Room k (A.deeper (envOfC qual (jm_ st) s.heap.objs.size f cdv))->sp vs H Q E ->
   ∃ t,PSs (cxOf CX0 P w K mg base N qual (jm_ st) f cdv A outer s H E).nox (xp_ st) t/\t { nx:=fun _ H'=>Q .non H',rt:=Q } (j7_ N vs) H):FnOk P w K mg base CX0 (k+1) f fd ps sp:=by
 obtain⟨oc,od,kV,doc,pm,an,cdv,ct,osl,rfl,lk,hcd⟩:=F.ex
 refine jyc_ lk hcd S len fun A outer s H vs Q E hr hsp=>?_
 obtain⟨t,h,q⟩:=hbody cdv A outer s H vs Q E hr hsp
 exact⟨t,h.nox,q⟩
theorem Fun.binds {x qual:Str}{st:Stmt}{f:Addr}{fd:FuncData}{ps:List Str}(F:Fun K x qual st f fd)
  (h:∀(kV doc pm:Value) (an:Option Addr) (cdv ct:Value) (us:List Value),us.length=ps.length->bindArgs (sj_ x qual (ve_ st) (xp_ st) (jm_ st) .none kV doc pm an cdv ct) ⟨us,[]⟩=pure (ps.zip us)):Binds K fd ps []:=by
 obtain⟨oc,od,kV,doc,pm,an,cdv,ct,osl,rfl,lk,hcd⟩:=F.ex
 exact .all (h kV doc pm an cdv ct)
theorem jps_ {x qual:Str}{st:Stmt}{f:Addr}{oc:Value}{od an:Option Addr}{osl:Array (Option Value)}{kV doc pm cdv ct:Value}(l:K.lookup f=some ⟨oc,od,.func (sj_ x qual (ve_ st) (xp_ st) (jm_ st) .none kV doc pm an cdv ct),osl⟩)
  (c:t8_ K cdv qual=true) (k:rz_ K (.ref f)=true):Fun K x qual st f (sj_ x qual (ve_ st) (xp_ st) (jm_ st) .none kV doc pm an cdv ct):=⟨⟨oc,od,kV,doc,pm,an,cdv,ct,osl,rfl,l,c⟩,k⟩
end
theorem jag_ {A:Around}{k:Nat}(hr:Room k A):A.units+1 < cLine:=ry_ (Nat.add_le_add_left (by decide:1<=64) _) hr.units
section
variable {X:Cx}
theorem pv (i:Nat){x:Str}{pos:Pos}(hN:X.N[i]?=some x:=by rfl)(hv:Vis X.env.scope x:=by first | exact Or.inl rfl | exact Or.inr (Or.inl rfl) | exact Or.inr (Or.inr rfl))(hd:(x == ("__debug__":Str))=false:=by decide)
  (hcd:(x == ("__classdict__":Str))=false:=by decide):PE X (.Name x pos) (tVar i):=jxb_ hN hv hd hcd
end
theorem iteF {A B:Prop}(h:B):if false=true then A else B:=by
 rw[if_neg pi_]
 exact h
theorem iteT {A B:Prop}(h:A):if true=true then A else B:=by
 rw[if_pos rfl]
 exact h
def Same (H H':Hp):Prop:=∀ b o,H b=some o->H' b=some o
theorem Same.trans {H H1 H2:Hp}(a:Same H H1)(b:Same H1 H2):Same H H2:=fun c o h=>b c o (a c o h)
theorem Same.free {H H':Hp}(e:Same H H'){l:Addr}(h:H' l=Option.none):H l=Option.none:=by
 cases q:H l with
 | none=>rfl
 | some o =>
  rw[e l o q] at h
  cases h
theorem Same.seq {K:pc_}{H H':Hp}{a:Addr}{xs:List V}(e:Same H H')(h:SqL K H a xs):SqL K H' a xs:=by
 rcases h with (h | ⟨o,h⟩) | h
 ·exact .inl (.inl (e _ _ h))
 ·exact .inl (.inr ⟨o,e _ _ h⟩)
 ·exact .inr h
end L2
namespace L2
open PySem
noncomputable def clTo (cells:List (Str×Addr)):List (Str×NameKind)->List (Str×Addr)->List (Str×Addr)
 | [],acc=>acc
 | (n,k)::r,acc=>if k == .free then clTo cells r ((n,(cells.lookup n).getD 0)::acc) else clTo cells r acc
theorem vr_ {scope:Scope}{env:Env}(h:∀ y∈scope.names,y.2=.free->∃ c,env.cells.lookup y.1=some c) :
  closureFor scope env=pure (clTo env.cells scope.names []):=by
 simp only[closureFor]
 generalize ([]:List (Str×Addr))=acc
 revert h
 generalize scope.names=l
 intro h
 have key:∀(l:List (Str×NameKind)) (acc:List (Str×Addr)),(∀ y∈l,y.2=.free->∃ c,env.cells.lookup y.1=some c) ->
   (forIn l acc (fun x r=>if (x.snd == NameKind.free)=true then do
      let a <- cellOf env x.fst
      pure (ForInStep.yield ((x.fst,a)::r)) else pure (ForInStep.yield r)):Sem _)=pure (clTo env.cells l acc):=by
  intro l
  induction l with
  | nil=>intro acc _;rfl
  | cons y l ih =>
   intro acc h
   obtain⟨n,k⟩:=y
   rw[rp_]
   have hr:=fun y hy=>h y (pj_ _ hy)
   by_cases hk:(k == NameKind.free)=true
   ·obtain⟨c,hc⟩:=h (n,k) pm_ (by simpa using hk)
    have hc':env.cells.lookup n=some c:=hc
    have e1:cellOf env n=pure c:=by unfold cellOf;rw[hc']
    simp only[hk,if_true,e1,clTo,hc',se_,pure_bind]
    exact ih _ hr
   ·simp only[rv_] at hk
    simp only[hk,t4_,if_false,clTo,pure_bind]
    exact ih _ hr
 rw[key l acc h]
 rfl
theorem yu_ {cells:List (Str×Addr)}{x:Str}:∀(l:List (Str×NameKind)) (acc:List (Str×Addr)),((x,NameKind.free)∈l∨acc.lookup x=some ((cells.lookup x).getD 0)) ->
  (clTo cells l acc).lookup x=some ((cells.lookup x).getD 0)
 | [],acc,h=>by
  rcases h with h | h
  ·cases h
  ·exact h
 | (n,k)::r,acc,h=>by
  unfold clTo
  by_cases hk:(k == NameKind.free)=true
  ·rw[if_pos hk]
   refine yu_ r _ ?_
   by_cases e:x=n
   ·subst e;right;simp
   ·rcases h with h | h
    ·left
     rcases p0_.mp h with h | h
     ·injection h with h1 _;exact absurd h1 e
     ·exact h
    ·right
     rw[qd_,beq_eq_false_iff_ne.mpr e];exact h
  ·rw[if_neg hk]
   refine yu_ r _ ?_
   rcases h with h | h
   ·left
    rcases p0_.mp h with h | h
    ·injection h with _ h2;rw[<- h2] at hk;exact absurd rfl hk
    ·exact h
   ·exact .inr h
theorem jap_ {cells:List (Str×Addr)}{x:Str}{c:Addr}:∀(l:List (Str×NameKind)) (acc:List (Str×Addr)),(clTo cells l acc).lookup x=some c ->
  acc.lookup x=some c∨((x,NameKind.free)∈l/\c=(cells.lookup x).getD 0)
 | [],acc,h=>.inl h
 | (n,k)::r,acc,h=>by
  unfold clTo at h
  by_cases hk:(k == NameKind.free)=true
  ·rw[if_pos hk] at h
   rcases jap_ r _ h with q | ⟨q1,q2⟩
   ·by_cases e:x=n
    ·subst e
     rw[qd_,beq_self_eq_true] at q
     have hk':k=.free:=by simpa using hk
     subst hk'
     exact .inr ⟨pm_,(Option.some.inj q).symm⟩
    ·rw[qd_,beq_eq_false_iff_ne.mpr e] at q
     exact .inl q
   ·exact .inr ⟨pj_ _ q1,q2⟩
  ·rw[if_neg hk] at h
   rcases jap_ r _ h with q | ⟨q1,q2⟩
   ·exact .inl q
   ·exact .inr ⟨pj_ _ q1,q2⟩
section
variable {prog:Program}{w:World}{A:Around}
 {R:Result->Shared->Prop}{s:Shared}
theorem uh_ {M:Model}(hM:M=model prog w){elt target iter:Expr}{ifs:List Expr}{scope:Scope}{pos:Pos}{it acc:Value}{env:Env}(I:Nat->Shared->Prop)
  (turn:∀ n s,I n s->wpAny M A (pyNext it) (fun r z₁=>match r with
   | none=>R (.ok .next) z₁
   | some v=>wpAny M A (letOwnedTupleGo target it v) (fun _ z₀=>wpAny M A (assign target env v) (fun _ z₂ =>
     wpAny M A (forIn ifs true fun c r=>if r=true then do let ok <- isTrue c env (eval c env);pure (ForInStep.yield ok) else pure (ForInStep.yield r)) (fun ok z₃ =>
      if ok=true then wpAny M A (eval elt env) (fun x z₄ =>
       wpAny M A (call (.builtin "list.append") [acc,x]) (fun _ z₅=>∃ m,m < n/\I m z₅) (notedBy M A env fun e s'=>R (.error e) s') z₄) (notedBy M A env fun e s'=>R (.error e) s') z₃
      else ∃ m,m < n/\I m z₃) (notedBy M A env fun e s'=>R (.error e) s') z₂) (notedBy M A env fun e s'=>R (.error e) s') z₀) (notedBy M A env fun e s'=>R (.error e) s') z₁) (notedBy M A env fun e s'=>R (.error e) s') s)
  (n:Nat) (h:I n s) :
  codeAny M A (.compLoop (.ListComp elt [⟨target,iter,ifs,0⟩] scope pos) 0 it acc env) R s:=by
 subst hM
 refine codeAny_loop rfl I (fun k z hz=>?_) n h
 show wpAny _ A (Sem.onRaise (compTurn (.ListComp elt [⟨target,iter,ifs,0⟩] scope pos) 0 it acc env) _) _ _ z
 rw[compTurn_list]
 refine wpAny_noted (wpAny_bind (wpAny_standAt (wpAny_bind (wpAny_mono (turn k z hz) (fun r z1 g1=>?_) fun _ _ e=>e))))
 match r,g1 with
 | none,g1=>exact wpAny_pure g1
 | some v,g1 =>
  refine wpAny_bind (wpAny_mono g1 (fun _ z2 g2=>wpAny_bind (wpAny_mono g2 (fun _ z3 g3=>wpAny_bind (wpAny_mono g3 (fun b z4 g4=>?_) fun _ _ e=>e)) fun _ _ e=>e)) fun _ _ e=>e)
  match b,g4 with
  | false,g4=>exact wpAny_pure ⟨rfl,g4⟩
  | true,g4 =>
   refine wpAny_bind (wpAny_bind (wpAny_mono g4 (fun y z5 g5=>wpAny_bind (wpAny_mono g5 (fun _ z6 g6=>?_) fun _ _ e=>e)) fun _ _ e=>e))
   exact wpAny_pure (wpAny_pure ⟨rfl,g6⟩)
end
end L2
namespace L2
open PySem PySem.Spec PyProof.Rows
noncomputable def jsb_ (σ:St):Option Nat->Option V
 | none=>none
 | some j=>match σ[j]? with
  | some (some v)=>some v
  | _=>none
noncomputable def pick (ix:List (Option Nat))(σ:St):St:=ix.map (jsb_ σ)
theorem jgj_ {ix:List (Option Nat)}{σ:St}{i:Nat}{v:V}(h:(pick ix σ)[i]?=some (some v)):∃ j,ix[i]?=some (some j)/\σ[j]?=some (some v):=by
 unfold pick at h
 rw[pl_] at h
 cases e:ix[i]? with
 | none=>rw[e] at h;cases h
 | some o =>
  rw[e] at h
  have h':jsb_ σ o=some v:=Option.some.inj h
  cases o with
  | none=>cases h'
  | some j =>
   refine⟨j,rfl,?_⟩
   unfold jsb_ at h'
   dsimp only at h'
   split at h'
   ·rename_i q;rw[q,h']
   ·cases h'
noncomputable def z0_ (X:Cx)(pins:List (Addr×Obj))(scope:Scope)(N':List Str)(fp:List Addr)(s3:Shared)(H3:Hp):Cx where
 prog:=X.prog
 w:=X.w
 K:=X.K
 mg:=X.mg
 base:=X.base
 A:=X.A
 N:=N'
 s₀:=s3
 H₀:=H3
 env:=compEnvC scope (clTo X.env.cells scope.names []) s3.heap.objs.size X.env
 outer:=X.stack
 stack:=X.stack
 ex:=fp
 fn:=fun _=>false
 calm:=X.calm
 pn:=X.pn++pins
 xe:=fun _ _=>False
noncomputable def z2_ (names:List (Str×NameKind))(N:List Str):List (Option Nat)->List Str->Bool
 | [],[]=>true
 | none::r,_::q=>z2_ names N r q
 | some j::r,x::q=>N[j]? == some x&&names.lookup x == some .free&&z2_ names N r q
 | _,_=>false
noncomputable def jaw_ (sc:Scope)(N:List Str)(scope:Scope)(N':List Str)(ix:List (Option Nat)):Bool :=
 scope.names.all (fun y=>y.2 != .cell)&&scope.names.all (fun y=>y.2 != .local || scope.names.lookup y.1 == some .local)
  && scope.names.all (fun y=>y.2 != .free || (sc.names.lookup y.1 == some .cell || sc.names.lookup y.1 == some .free))&&z2_ scope.names N ix N'
theorem xs_ {names:List (Str×NameKind)}{N:List Str}:∀{ix:List (Option Nat)}{N':List Str},z2_ names N ix N'=true->ix.length=N'.length
 | [],[],_=>rfl
 | none::r,_::q,h=>by simp only[z2_] at h;simp[xs_ h]
 | some j::r,x::q,h=>by simp only[z2_,qk_] at h;simp[xs_ h.2]
 | [],_::_,h=>by simp[z2_] at h
 | none::_,[],h=>by simp[z2_] at h
 | some _::_,[],h=>by simp[z2_] at h
theorem xt_ {names:List (Str×NameKind)}{N:List Str}:∀{ix:List (Option Nat)}{N':List Str}{i j:Nat}{x:Str},z2_ names N ix N'=true->ix[i]?=some (some j)->N'[i]?=some x ->
  N[j]?=some x/\names.lookup x=some .free
 | [],[],_,_,_,_,e,_=>by simp at e
 | none::r,_::q,0,_,_,_,e,_=>by simp at e
 | none::r,_::q,i+1,_,_,h,e,e'=>by
  simp only[z2_] at h
  exact xt_ h (by simpa using e) (by simpa using e')
 | some j::r,x::q,0,_,_,h,e,e'=>by
  simp only[z2_,qk_] at h
  simp at e e'
  subst e;subst e'
  exact⟨by simpa using h.1.1,by simpa using h.1.2⟩
 | some j::r,x::q,i+1,_,_,h,e,e'=>by
  simp only[z2_,qk_] at h
  exact xt_ h.2 (by simpa using e) (by simpa using e')
 | [],_::_,_,_,_,h,_,_=>by simp[z2_] at h
 | none::_,[],_,_,_,h,_,_=>by simp[z2_] at h
 | some _::_,[],_,_,_,h,_,_=>by simp[z2_] at h
theorem mem_of_lookup {α β:Type} [BEq α] [LawfulBEq α]{x:α}{k:β}:∀{l:List (α×β)},l.lookup x=some k->(x,k)∈l
 | [],h=>by cases h
 | (n,k')::r,h=>by
  rw[qd_] at h
  by_cases e:x == n
  ·rw[e] at h
   have e':x=n:=by simpa using e
   cases h
   rw[e'];exact pm_
  ·have e':(x == n)=false:=by simpa using e
   rw[e'] at h
   exact pj_ _ (mem_of_lookup h)
theorem xo_ {env:Env}{x:Str}{k:NameKind}:∀{names:List (Str×NameKind)},(∀ y∈names,y.2≠.cell) ->
  (names.map fun(n,k)=>if (k == NameKind.free&&env.scope.kind == .function&&env.kindOf n == some .cell) then (n,NameKind.cell) else (n,k)).lookup x=some k->(k=.cell∨k=.free)->(x,NameKind.free)∈names
 | [],_,h,_=>by cases h
 | (n,k')::r,hc,h,hk=>by
  rw[pp_] at h
  have hc':=fun y hy=>hc y (pj_ _ hy)
  have hk':k'≠.cell:=hc (n,k') pm_
  by_cases e:x=n
  ·subst e
   dsimp only at h
   split at h
   ·rename_i q
    rw[qd_,beq_self_eq_true] at h
    have:k'=.free:=by simp only[qk_] at q;simpa using q.1.1
    subst this;exact pm_
   ·rw[qd_,beq_self_eq_true] at h
    have hkk:k'=k:=Option.some.inj h
    subst hkk
    rcases hk with z | z
    ·exact absurd z hk'
    ·subst z;exact pm_
  ·have e':(x == n)=false:=beq_eq_false_iff_ne.mpr e
   refine pj_ _ (xo_ (env:=env) hc' ?_ hk)
   dsimp only at h
   split at h
   ·rw[qd_,e'] at h;exact h
   ·rw[qd_,e'] at h;exact h
theorem yr_ {env:Env}{x:Str}:∀{names:List (Str×NameKind)},names.lookup x=some .free ->
  (names.map fun(n,k)=>if (k == NameKind.free&&env.scope.kind == .function&&env.kindOf n == some .cell) then (n,NameKind.cell) else (n,k)).lookup x=some .cell ∨
  (names.map fun(n,k)=>if (k == NameKind.free&&env.scope.kind == .function&&env.kindOf n == some .cell) then (n,NameKind.cell) else (n,k)).lookup x=some .free
 | [],h=>by cases h
 | (n,k')::r,h=>by
  rw[pp_]
  rw[qd_] at h
  by_cases e:x=n
  ·subst e
   rw[beq_self_eq_true] at h
   have hk:k'=.free:=Option.some.inj h
   subst hk
   dsimp only
   split
   ·left;rw[qd_,beq_self_eq_true]
   ·right;rw[qd_,beq_self_eq_true]
  ·have e':(x == n)=false:=beq_eq_false_iff_ne.mpr e
   rw[e'] at h
   dsimp only
   split
   ·rw[qd_,e'];exact yr_ h
   ·rw[qd_,e'];exact yr_ h
structure CompFacts (X:Cx)(scope:Scope)(N':List Str)(ix:List (Option Nat)):Prop where
 nocell:∀ y∈scope.names,y.2≠.cell
 names:∀ y∈scope.names,y.2=.local->scope.names.lookup y.1=some .local
 free:∀ x,(x,NameKind.free)∈scope.names->X.env.kindOf x=some .cell∨X.env.kindOf x=some .free
 len:ix.length=N'.length
 link:∀{i j:Nat}{x:Str},ix[i]?=some (some j)->N'[i]?=some x->X.N[j]?=some x/\scope.names.lookup x=some .free
theorem jms_ {X:Cx}{scope:Scope}{N':List Str}{ix:List (Option Nat)}(h:jaw_ X.env.scope X.N scope N' ix=true):CompFacts X scope N' ix:=by
 simp only[jaw_,qk_,th_] at h
 obtain⟨⟨⟨h1,h2⟩,h3⟩,h4⟩:=h
 refine⟨fun y hy=>by simpa using h1 y hy,fun y hy e=>?_,fun x hx=>?_,xs_ h4,fun e e'=>xt_ h4 e e'⟩
 ·have q:=h2 y hy
  rw[e] at q
  simpa using q
 ·have q:=h3 _ hx
  have q':X.env.scope.names.lookup x=some .cell∨X.env.scope.names.lookup x=some .free:=by simpa using q
  exact q'
section
variable {X:Cx}{pins:List (Addr×Obj)}{σ:St}{H H':Hp}{s s':Shared}{scope:Scope}{N':List Str}{ix:List (Option Nat)}{fp:List Addr}
theorem FpOk.stk {b:Addr}(I:Inv X pins σ H s)(f:FpOk X pins H b):b∉frs X.stack:=fun z=>by
 rcases p0_.mp (I.stkSub b z) with q | q
 ·exact f.2.1 q
 ·exact f.2.2.1 q
theorem yx_ (I:Inv X pins σ H s)(F:CompFacts X scope N' ix){x:Str}{c:Addr}(h:(clTo X.env.cells scope.names []).lookup x=some c):X.env.cells.lookup x=some c/\(x,NameKind.free)∈scope.names:=by
 rcases jap_ _ _ h with q | ⟨q1,q2⟩
 ·cases q
 ·obtain⟨c',e⟩:=I.ok.has x (F.free x q1)
  rw[e] at q2
  exact⟨by rw[e,q2];rfl,q1⟩
theorem jtv_ (I:Inv X pins σ H s)(F:CompFacts X scope N' ix)(hk:scope.kind=.function)(hf:∀ b∈fp,FpOk X pins H b)(ho:∀ b∈fp,∃ o,s.heap.get? b=some o):(z0_ X pins scope N' fp s H).Ok where
 mod:=I.ok.mod
 kind:=hk
 glob:=I.ok.glob
 blt:=I.ok.blt
 above:=po_ _
 inj:=fun x y c e1 e2=>I.ok.inj x y c (yx_ I F e1).1 (yx_ I F e2).1
 has:=fun x hx=>by
  have q:(x,NameKind.free)∈scope.names:=by
   rcases hx with z | z
   ·exact xo_ F.nocell z (.inl rfl)
   ·exact xo_ F.nocell z (.inr rfl)
  exact⟨_,yu_ _ _ (.inl q)⟩
 cab:=fun x c e=>by cases e
 hd:=I.ok.hd
 frames:=I.ok.frames
 stk:=.inl rfl
 exf:=fun b hb=>by
  obtain⟨o,e⟩:=ho b hb
  exact⟨p6_ (pt_ e),fun x c q=>(hf b hb).2.2.2.2.1 x c (yx_ I F q).1⟩
 bs:=fun b o e=>I.bs b o e
 bsz:=qe_ I.ok.bsz I.sz
 noex:=fun b o e hb=>by
  rcases (hf b hb).2.2.2.1 with z | z
  ·exact I.ok.noex b o e z
  ·exact absurd (qa_ (pt_ (I.ok.bs b o e).1) z) (sk_ _)
 exfs:=fun b hb=>FpOk.stk I (hf b hb)
 funs:=I.stack
 frf:=I.stkFree
theorem joz_ {h':Heap}{m:Str->Option Value}{ob:Obj}{t:Nat}(I:Inv X pins σ H s)(F:CompFacts X scope N' ix)(hk:scope.kind=.function)(hf:∀ b∈fp,FpOk X pins H b)(ho:∀ b∈fp,∃ o,s.heap.get? b=some o)
  (hn:h'.Ns s.heap.objs.size m) (hs:qv_ s.heap.objs.size (s.heap.push ob) h') :
  Inv (z0_ X pins scope N' fp s H) [] (pick ix σ) H { s with heap:=h',toks:=t }:=by
 have k:∀ b u,s.heap.get? b=some u->h'.get? b=some u:=fun b u e =>
  (hs.2 b (p6_ (pt_ e))).trans (pd_ _ e)
 refine⟨jtv_ I F hk hf ho,rfl,I.bare,Un.kept k,⟨m,hn,fun i x v e1 e2 e3=>?_⟩,fun x c e=>?_,I.fresh,fun x c e=>?_,fun p hp=>?_,I.hok.kept k,?_⟩
 ·obtain⟨j,ej,ev⟩:=jgj_ e2
  obtain⟨l1,l2⟩:=F.link ej e1
  have fr:(x,NameKind.free)∈scope.names:=mem_of_lookup l2
  obtain⟨m0,hn0,hl⟩:=I.loc
  have vis:Vis X.env.scope x:=.inr (F.free x fr)
  obtain⟨u,r,l⟩:=hl j x v l1 ev vis
  refine⟨u,r,.inr ⟨yr_ l2,?_⟩⟩
  rcases l with ⟨l,_⟩ | ⟨_,c,e,z⟩
  ·rcases F.free x fr with q | q
   ·rw[q] at l;cases l
   ·rw[q] at l;cases l
  ·refine⟨c,?_,z.keeps k⟩
   show (clTo X.env.cells scope.names []).lookup x=some c
   rw[yu_ _ _ (.inl fr),e];rfl
 ·obtain⟨v,z⟩:=I.cell x c (yx_ I F e).1
  exact⟨v,z.keeps k⟩
 ·exact I.freeC x c (yx_ I F e).1
 ·have hp':p∈X.pn++pins:=by
   have z:p∈(X.pn++pins)++[]:=hp
   rwa [qq_] at z
  obtain⟨e,n,ne,nf,d⟩:=I.pin p hp'
  refine⟨k _ _ e,n,p6_ (pt_ e),fun z=>?_,d⟩
  rcases p0_.mp (I.stkSub p.1 z) with q | q
  ·exact ne q
  ·exact nf q
 ·show (pick ix σ).length=N'.length
  unfold pick;rw[pb_];exact F.len
theorem HOk.sameBut {P:Program}{w:World}{h h':Heap}{a:Addr}(ok:HOk P w H h)(hn:H a=none)(hs:qv_ a h h'):HOk P w H h':=fun b ob e=>by
 refine(ok b ob e).stay (fun c w' hc q=>(hs.2 c ?_).trans q) (fun _ q=>q) fun _ _ q=>q
 rintro rfl
 rcases hc with rfl | hc
 ·rw[hn] at e;cases e
 ·rw[hn] at hc;cases hc
theorem jhw_ {σ':St}{ps:List (Addr×Obj)}{h':Heap}(I:Inv X pins σ H s)(hf:∀ b∈fp,FpOk X pins H b)(I':Inv (z0_ X pins scope N' fp s H) ps σ' H' s')(hs:qv_ s.heap.objs.size s'.heap h') :
  Inv X pins σ H' { s' with heap:=h' }:=by
 have bk:∀{b o o'},s.heap.get? b=some o->s'.heap.get? b=some o'->h'.get? b=some o':=fun{b o o'} e e'=>(hs.2 b (p6_ (pt_ e))).trans e'
 refine I.call' (s':={ s' with heap:=h' }) (ch:=fp) I'.os ⟨fun b o e n hb hx=>?_,fun b o e n hb hx=>?_,I'.base.free,fun b o e hx=>?_,I'.base.tups,I'.base.frzs,I'.base.tbls⟩ (I'.hok.sameBut I'.free hs) I'.bare fun b hb=>⟨(hf b hb).2.2.2.1,(hf b hb).2.1,(hf b hb).2.2.2.2.1,(hf b hb).2.2.2.2.2⟩
 ·exact bk e (I'.base.keep b o e n hb hx)
 ·obtain⟨sl,q⟩:=I'.base.slot b o e n hb hx
  exact⟨sl,bk e q⟩
 ·obtain⟨o',q⟩:=I'.base.there b o e hx
  exact⟨o',bk e q⟩
end
noncomputable def PTs (X:Cx)(ifs:List Expr)(t:TT):Prop :=
 ∀(pins:List (Addr×Obj)) (s:Shared) (σ:St) (H:Hp) (Q:Bool->Hp->Prop),Inv X pins σ H s->t σ H Q ->
  wpAny (model X.prog X.w) X.A (forIn ifs true fun c r=>if r=true then do let ok <- isTrue c X.env (eval c X.env);pure (ForInStep.yield ok) else pure (ForInStep.yield r)) (TP X pins σ Q) X.xe s
def jup_:TT:=fun _ H Q=>Q true H
theorem zn_ {X:Cx}:PTs X [] jup_:=fun _ _ _ H _ I h=>wpAny_tests_nil ⟨H,I,h⟩
theorem vh_ {X:Cx}{c:Expr}{t:TT}(h:PT X c t):PTs X [c] t:=fun pins s σ H Q I q=>wpAny_tests_one (h pins s σ H Q I q)
noncomputable def yp_ (J:It)(p:Addr)(g:TG)(tc:TT)(te:TE)(Q:VK)(σ0:St)(H0:Hp):Prop :=
 ∃ W:Nat->Nat->List V->St->Hp->Prop,(∃ m,W 0 m [] σ0 H0)/\∀ i m acc σ' H',W i m acc σ' H'->H' p=some (.lst acc) /\
  ((J.stop i H'/\Q (.ref p) H')∨(J.go i H'/\acc.length < sizeLine/\∃ N:List V->St->Hp->Prop,(∀ a' σ3 H3,N a' σ3 H3->∃ m',m' < m/\W (i+1) m' a' σ3 H3) /\
   ∀ x H2,J.yld i H' x H2->g x σ' H2 fun σ3 H3=>tc σ3 H3 fun b H4 =>
    if b=true then te σ3 H4 fun v H5=>H5 p=some (.lst acc)/\N (acc++[v]) σ3 (upd H5 p (.lst (acc++[v]))) else N acc σ3 H4))
def jdu_ (ix:List (Option Nat))(wi:TI)(g:TG)(tc:TT)(te:TE):TE:=fun σ H Q=>wi σ H fun J H1=>∀ p,H1 p=none->yp_ J p g tc te Q (pick ix σ) (upd H1 p (.lst []))
section
variable {X:Cx}{elt tg iter:Expr}{ifs:List Expr}{scope:Scope}{pos:Pos}{N':List Str}{ix:List (Option Nat)}{wi:TI}{g:TG}{tc:TT}{te:TE}
theorem jfv_ {use:Option (Value->Sem Unit)}{R:Value->Shared->Prop}{pins:List (Addr×Obj)}{s:Shared}{σ:St}{H:Hp}{Q:VK}(hc:X.calm=true)(ok:jaw_ X.env.scope X.N scope N' ix=true)(hk:scope.kind=.function)
  (hi:PI X tg iter wi)
  (hg:∀ pins fp s3 H3,PG (z0_ X pins scope N' fp s3 H3) tg g) (ht:∀ pins fp s3 H3,PTs (z0_ X pins scope N' fp s3 H3) ifs tc) (he:∀ pins fp s3 H3,PE (z0_ X pins scope N' fp s3 H3) elt te)
  (hs:∀ x,foldedSetIterable iter X.env x=pure x) (I:Inv X pins σ H s) (h:jdu_ ix wi g tc te σ H Q)
  (fin:∀(p C:Addr) (H':Hp) (s':Shared),(∃ m,s'.heap.Ns C m)->FpOk X pins H' C->(∀ h',qv_ C s'.heap h'->Inv X pins σ H' { s' with heap:=h' })->Q (.ref p) H'->compPost (model X.prog X.w) X.A X.xe use R (.ref p) C (.ok .next) s') :
  wpAny (model X.prog X.w) X.A (comprehension (.ListComp elt [⟨tg,iter,ifs,0⟩] scope pos) scope X.env (firstIterPos [⟨tg,iter,ifs,0⟩] pos) (newList []) (firstAsync [⟨tg,iter,ifs,0⟩]) (firstIter [⟨tg,iter,ifs,0⟩] X.env) use) R X.xe s:=by
 have F:=jms_ ok
 refine wpAny_comprehension_free (cl:=clTo X.env.cells scope.names []) rfl hs (vr_ fun y hy e=>?_) hk F.names ?_
 ·obtain⟨n,k⟩:=y
  have e':k=.free:=e
  subst e'
  exact I.ok.has n (F.free n hy)
 refine thn (hi pins s σ H _ I h) fun v s1 h1=>thn h1 fun itv s2 h2=>?_
 obtain⟨it,fp,tn,J,H2,e,I2,T,st2,f2,rd⟩:=h2
 subst e
 refine wpAny_newObj_type ?_
 have hp:=I2.fresh
 obtain⟨W,⟨m0,w0⟩,turn⟩:=rd _ hp
 have I3:=I2.lnew (ys:=[]) (its:=[]) (t':=s2.toks) Paired.nil (qz_ _)
 have hf3:∀ b∈fp,FpOk X pins (upd H2 s2.heap.objs.size (.lst [])) b:=fun b hb=>by
  obtain⟨o,e,_⟩:=T.obj _ _ st2 b hb
  exact⟨by rw[ji_ (p6_ (pt_ e))];exact(f2 b hb).1,(f2 b hb).2⟩
 have ho3:∀ b∈fp,∃ o,(s2.heap.push { cls:=.type "list",data:=.seq ([]:List Value).toArray }).get? b=some o:=fun b hb=>by
  obtain⟨o,e,_⟩:=T.obj _ _ st2 b hb
  exact⟨o,pd_ _ e⟩
 have hpC:s2.heap.objs.size≠(s2.heap.push { cls:=.type "list",data:=.seq ([]:List Value).toArray }).objs.size:=by
  rw[qx_];exact p6_ (sd_ _)
 refine wpAny_newFunctionEnv F.nocell (by intro y hy;simp at hy) (fun h4 hn4 hs4=>?_) hk
 have I4:=joz_ (t:=s2.toks+([]:List (Str×Value)).length) I3 F hk hf3 ho3 hn4 hs4
 have k4:∀ b o,s2.heap.get? b=some o->h4.get? b=some o:=fun b o e =>
  (hs4.2 b (p6_ (qa_ (pt_ e) (by rw[qx_];exact wm_ _)))).trans (pd_ _ (pd_ _ e))
 have st4:tn 0 h4:=T.keep _ _ _ st2 fun b _ o e=>k4 b o e
 have fx:∀{H':Hp}{ps:List (Addr×Obj)},(∀ b∈fp,H' b=none)->(∀ b∈fp,∀ p∈ps,p.1≠b)->∀ b∈fp,FpOk (z0_ X pins scope N' fp { s2 with heap:=s2.heap.push { cls:=.type "list",data:=.seq ([]:List Value).toArray },toks:=s2.toks } (upd H2 s2.heap.objs.size (.lst []))) ps H' b:=fun{H' ps} hn hps b hb=>by
  obtain⟨o,e⟩:=ho3 b hb
  refine⟨hn b hb,p6_ (pt_ e),FpOk.stk I3 (hf3 b hb),.inl hb,fun x c q=>(hf3 b hb).2.2.2.2.1 x c (yx_ I3 F q).1,fun p hp=>?_⟩
  rcases pe_.mp hp with z | z
  ·exact(hf3 b hb).2.2.2.2.2 p z
  ·exact hps b hb p z
 have loop:codeAny (model X.prog X.w) X.A (.compLoop (.ListComp elt [⟨tg,iter,ifs,0⟩] scope pos) 0 (.ref it) (.ref s2.heap.objs.size) (compEnvC scope (clTo X.env.cells scope.names []) (s2.heap.push { cls:=.type "list",data:=.seq ([]:List Value).toArray }).objs.size X.env))
   (compPost (model X.prog X.w) X.A X.xe use R (.ref s2.heap.objs.size) (s2.heap.push { cls:=.type "list",data:=.seq ([]:List Value).toArray }).objs.size) { s2 with heap:=h4,toks:=s2.toks+([]:List (Str×Value)).length }:=by
  refine uh_ rfl (fun n s'=>∃ i acc σ' H',Inv (z0_ X pins scope N' fp { s2 with heap:=s2.heap.push { cls:=.type "list",data:=.seq ([]:List Value).toArray },toks:=s2.toks } (upd H2 s2.heap.objs.size (.lst []))) [] σ' H' s'/\tn i s'.heap/\(∀ b∈fp,H' b=none)/\W i n acc σ' H')
   ?_ m0 ⟨0,[],_,_,I4,st4,fun b hb=>(hf3 b hb).1,w0⟩
  rintro n s5 ⟨i,acc,σ5,H5,I5,st5,fr5,w5⟩
  obtain⟨hacc,alt⟩:=turn i n acc σ5 H5 w5
  rcases alt with ⟨stop,q⟩ | ⟨go,hz,N,hN,step⟩
  ·refine wpAny_mono (T.done (z0_ X pins scope N' fp { s2 with heap:=s2.heap.push { cls:=.type "list",data:=.seq ([]:List Value).toArray },toks:=s2.toks } (upd H2 s2.heap.objs.size (.lst []))) rfl rfl rfl hc i [] s5 σ5 H5 (fun _ _=>False) I5 (fx (ps:=[]) fr5 (fun _ _ _ z=>nomatch z)) st5 stop) (fun r s6 ⟨hr,I6⟩=>?_) fun _ _ f=>f.elim
   subst hr
   refine fin _ _ H5 s6 ?_ (I3.fpOk (po_ _) I6.free) (fun h' hs'=>jhw_ I3 hf3 I6 hs') q
   obtain⟨m,hm,_⟩:=I6.loc
   exact⟨m,hm⟩
  ·refine wpAny_mono (T.item (z0_ X pins scope N' fp { s2 with heap:=s2.heap.push { cls:=.type "list",data:=.seq ([]:List Value).toArray },toks:=s2.toks } (upd H2 s2.heap.objs.size (.lst []))) rfl rfl rfl hc i [] s5 σ5 H5 (fun _ _=>False) I5 (fx (ps:=[]) fr5 (fun _ _ _ z=>nomatch z)) st5 go) (fun r s6 ⟨u,hr,h6⟩=>?_) fun _ _ f=>f.elim
   subst hr
   refine wpAny_mono h6 (fun _ s7 ⟨x,H7,I7,r7,y7,st7,fr7⟩=>?_) fun _ _ f=>f.elim
   have I7':=I7.pinned (fx (ps:=[]) fr7 (fun _ _ _ z=>nomatch z)) (T.obj _ _ st7)
   refine wpAny_mono (hg _ _ _ _ _ s7 σ5 H7 x u _ I7' r7 (step x H7 y7)) (fun _ s8 ⟨σ8,H8,I8,q8⟩=>?_) fun _ _ f=>f.elim
   refine wpAny_mono (ht _ _ _ _ _ s8 σ8 H8 _ I8 q8) (fun b s9 ⟨H9,I9,q9⟩=>?_) fun _ _ f=>f.elim
   have keep:∀{σ':St}{H':Hp}{s':Shared},Inv (z0_ X pins scope N' fp { s2 with heap:=s2.heap.push { cls:=.type "list",data:=.seq ([]:List Value).toArray },toks:=s2.toks } (upd H2 s2.heap.objs.size (.lst []))) ([]++uy_ fp s7.heap) σ' H' s' ->
     tn (i+1) s'.heap/\∀ b∈fp,H' b=none:=fun{σ' H' s'} I'=>by
    refine⟨T.keep _ _ _ st7 fun b hb o e=>(I'.pin (b,o) (qc_ _ (qc_ _ (yj_ hb e)))).1,fun b hb=>?_⟩
    obtain⟨o,e,d⟩:=T.obj _ _ st7 b hb
    exact(I'.pin (b,o) (qc_ _ (qc_ _ (yj_ hb e)))).2.1
   cases b with
   | false =>
    rw[if_neg pi_] at q9 ⊢
    obtain⟨m',hm,w9⟩:=hN _ _ _ q9
    exact⟨m',hm,i+1,acc,σ8,H9,I9.unpinned,(keep I9).1,(keep I9).2,w9⟩
   | true =>
    rw[if_pos rfl] at q9 ⊢
    refine wpAny_mono (he _ _ _ _ _ s9 σ8 H9 _ I9 q9) (fun y s10 ⟨v10,H10,I10,r10,hl10,w10⟩=>?_) fun _ _ f=>f.elim
    refine wpAny_mono (u7_ (X:=(z0_ X pins scope N' fp { s2 with heap:=s2.heap.push { cls:=.type "list",data:=.seq ([]:List Value).toArray },toks:=s2.toks } (upd H2 s2.heap.objs.size (.lst [])))) _ s10 σ8 H10 (.ref s2.heap.objs.size) [v10] (.ref s2.heap.objs.size) [y] (fun _ H'=>N (acc++[v10]) σ8 H') I10 rfl (.cons r10 .nil) ⟨_,acc,v10,rfl,rfl,hl10,hz,w10⟩) (fun _ s11 ⟨_,H11,I11,_,n11⟩=>?_) fun _ _ f=>f.elim
    obtain⟨m',hm,w11⟩:=hN _ _ _ n11
    exact⟨m',hm,i+1,acc++[v10],σ8,H11,I11.unpinned,(keep I11).1,(keep I11).2,w11⟩
 exact codeAny_compStart_list loop (T.self X.A 0 _ _ _ st4 loop)
theorem zs_ (N':List Str)(ix:List (Option Nat))(hc:X.calm=true)(ok:jaw_ X.env.scope X.N scope N' ix=true)(hk:scope.kind=.function)(hi:PI X tg iter wi)
  (hg:∀ pins fp s3 H3,PG (z0_ X pins scope N' fp s3 H3) tg g) (ht:∀ pins fp s3 H3,PTs (z0_ X pins scope N' fp s3 H3) ifs tc) (he:∀ pins fp s3 H3,PE (z0_ X pins scope N' fp s3 H3) elt te)
  (hs:∀ x,foldedSetIterable iter X.env x=pure x:=by intro _;rfl):PE X (.ListComp elt [⟨tg,iter,ifs,0⟩] scope pos) (jdu_ ix wi g tc te):=by
 intro pins s σ H Q I h
 rw[eval_ListComp]
 refine jfv_ hc ok hk hi hg ht he hs I h fun p C H' s' hm fC inv q=>?_
 obtain⟨m,hm⟩:=hm
 exact⟨m,hm,fun h' hs'=>⟨.ref p,H',inv h' hs',rfl,q⟩⟩
theorem xn_ {i:Nat}{x:Str}{pos' spos:Pos}(N':List Str)(ix:List (Option Nat))(hc:X.calm=true)(ok:jaw_ X.env.scope X.N scope N' ix=true)(hk:scope.kind=.function)(hN:X.N.Nodup)(hx1:X.N[i]?=some x)(hx:X.env.scope.names.lookup x=some .local)
  (hi:PI X tg iter wi)
  (hg:∀ pins fp s3 H3,PG (z0_ X pins scope N' fp s3 H3) tg g) (ht:∀ pins fp s3 H3,PTs (z0_ X pins scope N' fp s3 H3) ifs tc) (he:∀ pins fp s3 H3,PE (z0_ X pins scope N' fp s3 H3) elt te)
  (hw:swapsWith (.ListComp elt [⟨tg,iter,ifs,0⟩] scope pos) (some (.Name x pos')) spos.line X.env=pure true:=by rfl)
  (hs:∀ x,foldedSetIterable iter X.env x=pure x:=by intro _;rfl):PS X (.Assign [.Name x pos'] (.ListComp elt [⟨tg,iter,ifs,0⟩] scope pos) spos) (tAsg (jdu_ ix wi g tc te) (jbe_ i)):=by
 intro pins s σ H D I h
 rw[exec_Assign_Name_used _ _ _ _ hw]
 refine wpAny_bind (wpAny_standAt (wpAny_bind ?_))
 show wpAny _ X.A (do let _ <- comprehension (.ListComp elt [⟨tg,iter,ifs,0⟩] scope pos) scope X.env (firstIterPos [⟨tg,iter,ifs,0⟩] pos) (newList []) (firstAsync [⟨tg,iter,ifs,0⟩]) (firstIter [⟨tg,iter,ifs,0⟩] X.env) (some (assign (.Name x pos') X.env))) _ _ s
 refine wpAny_bind (thn (jfv_ (R:=fun _ s'=>∃ σ' H',Inv X pins σ' H' s'/\D.nx σ' H') hc ok hk hi hg ht he hs I h fun p C H' s' hm fC inv q=>?_) fun _ s' ⟨σ',H',I',q⟩=>wpAny_pure (wpAny_pure ⟨σ',H',I',q⟩))
 have inv0:Inv X pins σ H' s':=by
  have:=inv s'.heap ⟨rfl,fun _ _=>rfl⟩
  exact this
 obtain⟨m,hm⟩:=hm
 refine wpAny_assign_Name ?_
 refine jds_ (v:=.ref p) inv0 hN hx1 (.inl hx) rfl (fun s'' I'' ⟨a,sb,ha⟩=>?_) (.inr hx)
 have ne:C≠a:=by
  rcases ha with z | z
  ·rw[z];exact fC.2.1
  ·exact fun q=>fC.2.2.2.2.1 x a z q.symm
 refine⟨m,hm.sameBut sb ne,fun h' hs'=>⟨_,H',?_,q⟩⟩
 exact I''.turned (t':=s''.toks) (it:=C) (fun b o hb e=>(hs'.2 b hb).trans e) fC.1 fC.2.1 fC.2.2.2.1 fC.2.2.2.2.1 fC.2.2.2.2.2
end
end L2
namespace L2
open PySem PySem.Spec PyProof.Rows
inductive Dt where
 | non | bl (b:Bool) | int (i:Int) | str (x:Str) | tup (ds:List Dt) | lst (ds:List Dt)
mutual
def Is (H:Hp):V->Dt->Prop
 | v,.non=>v=.non
 | v,.bl b=>v=.bl b
 | v,.int i=>v=.int i
 | v,.str x=>v=.str x
 | v,.tup ds=>∃ a xs,v=.ref a/\H a=some (.tup xs)/\IsL H xs ds
 | v,.lst ds=>∃ a xs,v=.ref a/\H a=some (.lst xs)/\IsL H xs ds
def IsL (H:Hp):List V->List Dt->Prop
 | [],[]=>True
 | x::xs,d::ds=>Is H x d/\IsL H xs ds
 | _,_=>False
end
mutual
noncomputable def dep:Dt->Nat
 | .tup ds=>depL ds+1
 | .lst ds=>depL ds+1
 | _=>0
noncomputable def depL:List Dt->Nat
 | []=>0
 | d::ds=>max (dep d) (depL ds)
end
mutual
theorem Is.same {H H':Hp}(h:∀ b o,H b=some o->H' b=some o):∀{d:Dt}{v:V},Is H v d->Is H' v d
 | .non,_,k=>by simp only[Is] at k ⊢;exact k
 | .bl _,_,k=>by simp only[Is] at k ⊢;exact k
 | .int _,_,k=>by simp only[Is] at k ⊢;exact k
 | .str _,_,k=>by simp only[Is] at k ⊢;exact k
 | .tup ds,_,k=>by
  simp only[Is] at k ⊢
  obtain⟨a,xs,e,h1,h2⟩:=k
  exact⟨a,xs,e,h _ _ h1,IsL.same h h2⟩
 | .lst ds,_,k=>by
  simp only[Is] at k ⊢
  obtain⟨a,xs,e,h1,h2⟩:=k
  exact⟨a,xs,e,h _ _ h1,IsL.same h h2⟩
theorem IsL.same {H H':Hp}(h:∀ b o,H b=some o->H' b=some o):∀{ds:List Dt}{xs:List V},IsL H xs ds->IsL H' xs ds
 | [],[],_=>by simp only[IsL]
 | d::ds,x::xs,k=>by
  simp only[IsL] at k ⊢
  exact⟨Is.same h k.1,IsL.same h k.2⟩
 | [],_::_,k=>by simp only[IsL] at k
 | _::_,[],k=>by simp only[IsL] at k
end
theorem IsL.length {H:Hp}:∀{ds:List Dt}{xs:List V},IsL H xs ds->xs.length=ds.length
 | [],[],_=>rfl
 | d::ds,x::xs,k=>by
  simp only[IsL] at k
  simp only[ps_,IsL.length k.2]
 | [],_::_,k=>by simp only[IsL] at k
 | _::_,[],k=>by simp only[IsL] at k
theorem IsL.get {H:Hp}:∀{ds:List Dt}{xs:List V}{i:Nat},IsL H xs ds->i < ds.length->∃ x d,xs[i]?=some x/\ds[i]?=some d/\Is H x d
 | [],_,_,_,h=>by simp at h
 | d::ds,x::xs,0,k,_=>by
  simp only[IsL] at k
  exact⟨x,d,rfl,rfl,k.1⟩
 | d::ds,x::xs,i+1,k,h=>by
  simp only[IsL] at k
  obtain⟨y,e,h1,h2,h3⟩:=IsL.get (i:=i) k.2 (by simpa using h)
  exact⟨y,e,by simpa using h1,by simpa using h2,h3⟩
 | _::_,[],_,k,_=>by simp only[IsL] at k
theorem IsL.ints (H:Hp):∀ ns:List Int,IsL H (ns.map V.int) (ns.map Dt.int)
 | []=>by simp only[p7_,IsL]
 | n::ns=>by simp only[pp_,IsL,Is,true_and];exact IsL.ints H ns
mutual
noncomputable def toP:Dt->PyData
 | .non=>.none
 | .bl b=>.bool b
 | .int i=>.int i
 | .str x=>.str x
 | .tup ds=>.tuple (toPs ds)
 | .lst ds=>.list (toPs ds)
noncomputable def toPs:List Dt->List PyData
 | []=>[]
 | d::ds=>toP d::toPs ds
end
mutual
theorem Is.reads {P:Program}{w:World}{H:Hp}{h:Heap}(ok:HOk P w H h):∀{d:Dt}{v:V}{u:Value},Is H v d->RelV v u->∃ as,Reads h u (toP d) as
 | .non,_,_,k,r=>by simp only[Is] at k;subst k;cases r;exact⟨_,Reads.none⟩
 | .bl b,_,_,k,r=>by simp only[Is] at k;subst k;cases r;exact⟨_,Reads.bool b⟩
 | .int i,_,_,k,r=>by simp only[Is] at k;subst k;obtain⟨t,rfl⟩:=r;exact⟨_,Reads.int i t⟩
 | .str x,_,_,k,r=>by simp only[Is] at k;subst k;obtain⟨t,rfl⟩:=r;exact⟨_,Reads.str x t⟩
 | .tup ds,_,_,k,r=>by
  simp only[Is] at k
  obtain⟨a,xs,rfl,h1,h2⟩:=k
  cases r
  obtain⟨_,its,rv,⟨o,ho,hc,n,hd⟩,_⟩:=(show ObjOk P w H h a (.tup xs) from ok a _ h1)
  obtain⟨as,q⟩:=IsL.reads ok h2 rv
  exact⟨_,Reads.tuple ho hc hd (by simpa using q)⟩
 | .lst ds,_,_,k,r=>by
  simp only[Is] at k
  obtain⟨a,xs,rfl,h1,h2⟩:=k
  cases r
  obtain⟨_,its,n,rv,e⟩:=(show ObjOk P w H h a (.lst xs) from ok a _ h1)
  obtain⟨as,q⟩:=IsL.reads ok h2 rv
  exact⟨_,Reads.list e rfl rfl (by simpa using q)⟩
theorem IsL.reads {P:Program}{w:World}{H:Hp}{h:Heap}(ok:HOk P w H h):∀{ds:List Dt}{xs:List V}{us:List Value},IsL H xs ds->Vals xs us->∃ as,ReadsAll h us (toPs ds) as
 | [],[],_,_,.nil=>⟨_,ReadsAll.nil⟩
 | d::ds,x::xs,_,k,.cons r t=>by
  simp only[IsL] at k
  obtain⟨as,q⟩:=Is.reads ok k.1 r
  obtain⟨bs,q2⟩:=IsL.reads ok k.2 t
  exact⟨_,ReadsAll.cons q q2⟩
 | [],_::_,_,k,_=>by simp only[IsL] at k
 | _::_,[],_,k,_=>by simp only[IsL] at k
end
def okD (d:Dt):Prop:=SeqAt.shaped (toP d)=true
noncomputable def eqD (d e:Dt):Bool:=PyData.eqv (toP d) (toP e)
theorem jgd_ {d:Dt}(h:okD d):eqD d d=true:=SeqAt.eqv_refl _ (SeqAt.canLay_of_shaped h)
end L2
namespace L2
open PySem PySem.Spec PyProof.Rows
section
variable {X:Cx}
theorem OpR.imp {f:Value->Value->Sem Value}{r r':R2}(h:OpR X f r)(hi:∀ x y H Q,r' x y H Q->r x y H Q):OpR X f r':=fun pins s σ H x y v u Q I rx ry q=>h pins s σ H x y v u Q I rx ry (hi x y H Q q)
theorem CallR.imp {f:Value}{r r':List V->Hp->VK->Prop}(h:CallR X f r)(hi:∀ xs H Q,r' xs H Q->r xs H Q):CallR X f r':=fun pins s σ H xs us Q I rs q=>h pins s σ H xs us Q I rs (hi xs H Q q)
end
section
variable {X:Cx}{pins:List (Addr×Obj)}{σ:St}{H:Hp}{s:Shared}{Q:VK}
theorem endS {z:Str}{t:Tok}(I:Inv X pins σ H s)(q:Q (.str z) H):EP X pins σ Q (.str z t) s:=⟨.str z,H,I,⟨t,rfl⟩,q⟩
theorem endB {b:Bool}(I:Inv X pins σ H s)(q:Q (.bl b) H):EP X pins σ Q (.bool b) s:=⟨.bl b,H,I,rfl,q⟩
end
noncomputable def lstR (H:Hp)(a:Addr):Option (List V):=match H a with
 | some (.lst xs)=>some xs
 | some (.frz _ (.lst xs))=>some xs
 | _=>none
noncomputable def tupR (H:Hp)(a:Addr):Option (List V):=match H a with
 | some (.tup xs)=>some xs
 | _=>none
noncomputable def seqR (H:Hp)(a:Addr):Option (List V):=match lstR H a with
 | some xs=>some xs
 | none=>tupR H a
theorem ym_ {H:Hp}{a:Addr}{xs:List V}(h:H a=some (.lst xs)):lstR H a=some xs:=by unfold lstR;rw[h]
theorem jsk_ {H:Hp}{a:Addr}{xs:List V}(h:H a=some (.tup xs)):tupR H a=some xs:=by unfold tupR;rw[h]
theorem jr_ {H:Hp}{a:Addr}{xs:List V}(h:H a=some (.lst xs)):seqR H a=some xs:=by unfold seqR;rw[ym_ h]
theorem yi_ {H:Hp}{a:Addr}{xs:List V}(h:H a=some (.tup xs)):seqR H a=some xs:=by
 have e:lstR H a=none:=by unfold lstR;rw[h]
 unfold seqR;rw[e];exact jsk_ h
theorem jas_ {K:pc_}{H:Hp}{a:Addr}{xs:List V}(h:lstR H a=some xs):SqL K H a xs:=by
 unfold lstR at h
 split at h
 ·rename_i e;cases h;exact .inl (.inl e)
 ·rename_i e;cases h;exact .inl (.inr ⟨_,e⟩)
 ·cases h
theorem jeq_ {K:pc_}{H:Hp}{a:Addr}{xs:List V}(h:tupR H a=some xs):SqT K H a xs:=by
 unfold tupR at h
 split at h
 ·rename_i e;cases h;exact .inl (.inl e)
 ·cases h
theorem vn_ {K:pc_}{H:Hp}{a:Addr}{xs:List V}(h:seqR H a=some xs):SqL K H a xs∨SqT K H a xs:=by
 unfold seqR at h
 split at h
 ·rename_i e;cases h;exact .inl (jas_ e)
 ·exact .inr (jeq_ h)
def GetT (H:Hp)(xs:List V)(Q:VK):Prop:=∀ p H',H' p=some (.tup xs)->(∀ b o,H b=some o->H' b=some o)->Q (.ref p) H'
theorem GetT.new {H:Hp}{xs:List V}{Q:VK}(h:GetT H xs Q){p:Addr}(hp:H p=none):Q (.ref p) (upd H p (.tup xs)) :=
 h p _ jb_ fun b o e=>by rw[ji_ (j3_ e hp)];exact e
theorem GetT.old {H:Hp}{xs:List V}{Q:VK}(h:GetT H xs Q){p:Addr}(hp:H p=some (.tup xs)):Q (.ref p) H:=h p _ hp fun b o e=>e
def GetL (H:Hp)(xs:List V)(Q:VK):Prop:=∀ p,H p=none->Q (.ref p) (upd H p (.lst xs))
def fAdd:R2:=fun x y H Q=>match x,y with
 | .int i,.int j=>Q (.int (i+j)) H
 | .str i,.str j=>i.length+j.length<=sizeLine/\Q (.str (i++j)) H
 | .ref a,.ref b=>match H a,H b with
  | some (.lst xs),some (.lst ys)=>xs.length+ys.length<=sizeLine/\GetL H (xs++ys) Q
  | some (.tup xs),some (.tup ys)=>xs≠[]/\xs.length+ys.length<=sizeLine/\GetT H (xs++ys) Q
  | _,_=>False
 | _,_=>False
def fMul:R2:=fun x y H Q=>match x,y with
 | .int i,.int j=>CMul i j/\Q (.int (i * j)) H
 | .str z,.int n=>z.length * n.toNat<=1000000/\-(2 ^ 62) < n/\n < 2 ^ 62/\Q (.str (Txt.mul z n)) H
 | .ref a,.int k=>match H a with
  | some (.lst xs)=>-(2 ^ 63)<=k/\k < 2 ^ 63/\xs.length * k.toNat<=sizeLine/\GetL H (pr_ k.toNat xs).flatten Q
  | _=>False
 | _,_=>False
def fI (C:Int->Int->Prop)(g:Int->Int->V):R2:=fun x y H Q=>match x,y with
 | .int i,.int j=>C i j/\Q (g i j) H
 | _,_=>False
def fI0 (g:Int->Int->V):R2:=fun x y H Q=>match x,y with
 | .int i,.int j=>Q (g i j) H
 | _,_=>False
theorem ul_ {g:Int->Int->V}:∀ x y H Q,fI0 g x y H Q->rI0 g x y H Q:=fun x y H Q h=>by
 unfold fI0 at h
 split at h
 ·exact⟨_,_,rfl,rfl,h⟩
 ·exact h.elim
theorem joc_ {C:Int->Int->Prop}{g:Int->Int->V}:∀ x y H Q,fI C g x y H Q->rI C g x y H Q:=fun x y H Q h=>by
 unfold fI at h
 split at h
 ·exact⟨_,_,rfl,rfl,h.1,h.2⟩
 ·exact h.elim
section
variable {X:Cx}
theorem jx_:OpR X (binaryOp .Add) fAdd:=by
 intro pins s σ H x y v u Q I rx ry h
 unfold fAdd at h
 split at h
 ·exact jvw_ pins s σ H _ _ v u Q I rx ry ⟨_,_,rfl,rfl,h⟩
 ·exact jjg_ pins s σ H _ _ v u Q I rx ry ⟨_,_,rfl,rfl,h.1,h.2⟩
 ·split at h
  ·rename_i h1 h2
   exact jxr_ pins s σ H _ _ v u Q I rx ry ⟨_,_,_,_,rfl,rfl,h1,h2,h.1,h.2⟩
  ·rename_i xs ys h1 h2
   refine jsv_ pins s σ H _ _ v u Q I rx ry ⟨_,_,_,_,rfl,rfl,SqT.of h1,SqT.of h2,h.1,h.2.1,fun e=>?_,fun _ p hp=>h.2.2.new hp⟩
   subst e
   have:=h.2.2
   rw[qq_] at this
   exact this.old h1
  ·exact h.elim
 ·exact h.elim
theorem uf_:OpR X (binaryOp .Sub) (fI0 fun i j=>.int (i - j)):=op_sub.imp ul_
theorem jim_:OpR X (binaryOp .FloorDiv) (fI CDiv fun i j=>.int (i / j)):=op_fdiv.imp joc_
theorem yf_:OpR X (binaryOp .Mod) (fI (fun _ j=>0 < j) fun i j=>.int (i % j)):=op_mod.imp joc_
theorem jrc_:OpR X (binaryOp .Pow) (fI CPow fun i j=>.int (i ^ j.toNat)):=op_pow.imp joc_
theorem jqa_ {z:Str}{n:Int}(h:z.length * n.toNat<=1000000)(h1:-(2 ^ 62) < n)(h2:n < 2 ^ 62):MulOk z n:=by
 have e1:((2:Int) ^ 62)=4611686018427387904:=by decide
 have e2:((2:Int) ^ 63)=9223372036854775808:=by decide
 rw[e1] at h1 h2
 refine⟨?_,fun hn _=>?_,fun hn _=>?_⟩
 ·rw[e2];simp only[Bool.or_eq_false_iff,decide_eq_false_iff_not];omega
 ·have hp:0 < n:=by omega
  have hz:(z.length:Int)<=1000000:=by
   have:z.length * 1<=z.length * n.toNat:=Nat.mul_le_mul_left _ (by omega)
   omega
  have e3:((2:Int) ^ 63 - 1)=9223372036854775807:=by decide
  rw[e3]
  intro hgt
  have h3:(9223372036854775807:Int) / n < z.length:=hgt
  have h4:(9223372036854775807:Int) < z.length * n:=by
   have:=Int.lt_mul_of_ediv_lt hp h3
   exact this
  have h5:(z.length:Int) * n<=1000000:=by
   have e:((z.length * n.toNat:Nat):Int)=(z.length:Int) * n:=by
    rw[Int.natCast_mul];congr 1;omega
   omega
  omega
 ·unfold Builtin.Str.tooLong sizeLine
  have e4:(2:Nat) ^ 24=16777216:=by decide
  exact decide_eq_false (by omega)
theorem x0_:OpR X (binaryOp .Mult) fMul:=by
 intro pins s σ H x y v u Q I rx ry h
 unfold fMul at h
 split at h
 ·exact jvp_ pins s σ H _ _ v u Q I rx ry ⟨_,_,rfl,rfl,h.1,h.2⟩
 ·obtain⟨h1,h2,h3,q⟩:=h
  obtain⟨t,rfl⟩:=rx
  obtain⟨t',rfl⟩:=ry
  exact SB.mul (jqa_ h1 h2 h3) fun t' k=>endS (I.tok _) q
 ·split at h
  ·rename_i h1
   exact jxc_ pins s σ H _ _ v u Q I rx ry ⟨_,_,_,rfl,rfl,h1,h.1,h.2.1,h.2.2.1,h.2.2.2⟩
  ·exact h.elim
 ·exact h.elim
theorem o_lt:OpR X (compareOp .Lt) (fI0 fun i j=>.bl (decide (i < j))):=op_lt.imp ul_
theorem o_le:OpR X (compareOp .LtE) (fI0 fun i j=>.bl (decide (i<=j))):=op_le.imp ul_
theorem o_gt:OpR X (compareOp .Gt) (fI0 fun i j=>.bl (decide (j < i))):=op_gt.imp ul_
theorem o_ge:OpR X (compareOp .GtE) (fI0 fun i j=>.bl (decide (j<=i))):=op_ge.imp ul_
def fEq:R2:=fun x y H Q=>(scal x y=true/\Q (.bl (decide (x=y))) H)∨∃ d e,Is H x d/\Is H y e/\okD d/\okD e/\Q (.bl (eqD d e)) H
def fNe:R2:=fun x y H Q=>(scal x y=true/\Q (.bl (!decide (x=y))) H)∨∃ d e,Is H x d/\Is H y e/\okD d/\okD e/\Q (.bl (!eqD d e)) H
def fIs:R2:=fun x y H Q=>y=.non/\Q (.bl (decide (x=.non))) H
def jri_:R2:=fun x y H Q=>y=.non/\Q (.bl (!decide (x=.non))) H
theorem o_eq (hu:X.A.units+64 < cLine):OpR X (compareOp .Eq) fEq:=by
 intro pins s σ H x y v u Q I rx ry h
 rcases h with h | ⟨d,e,h1,h2,h3,h4,q⟩
 ·exact jyp_ pins s σ H x y v u Q I rx ry h
 ·obtain⟨as,r1⟩:=Is.reads I.hok h1 rx
  obtain⟨bs,r2⟩:=Is.reads I.hok h2 ry
  exact eq_dataH r1 r2 h3 h4 hu (endB I q)
theorem o_ne (hu:X.A.units+64 < cLine):OpR X (compareOp .NotEq) fNe:=by
 intro pins s σ H x y v u Q I rx ry h
 rcases h with h | ⟨d,e,h1,h2,h3,h4,q⟩
 ·exact jyl_ pins s σ H x y v u Q I rx ry h
 ·obtain⟨as,r1⟩:=Is.reads I.hok h1 rx
  obtain⟨bs,r2⟩:=Is.reads I.hok h2 ry
  exact ne_dataH r1 r2 h3 h4 hu (endB I q)
theorem o_is:OpR X (compareOp .Is) fIs:=jwn_
theorem jsu_:OpR X (compareOp .IsNot) jri_:=jue_
def fIn (neg:Bool):R2:=fun x y H Q=>match x,y with
 | .str i,.str j=>Q (.bl (xor neg (t5_ j i))) H
 | x,.ref p=>match seqR H p with
  | some xs=>xi_ x=true/\xs.all xi_=true/\Q (.bl (if neg then !inV x xs else inV x xs)) H
  | none=>False
 | _,_=>False
theorem o_in:OpR X (compareOp .In) (fIn false):=by
 intro pins s σ H x y v u Q I rx ry h
 unfold fIn at h
 split at h
 ·refine jmk_ pins s σ H _ _ v u Q I rx ry ⟨_,_,rfl,rfl,?_⟩
  simpa [t5_] using h
 ·split at h
  ·rename_i e
   exact jmv_ pins s σ H _ _ v u Q I rx ry ⟨_,_,rfl,vn_ e,h.1,h.2.1,h.2.2⟩
  ·exact h.elim
 ·exact h.elim
theorem jky_:OpR X (compareOp .NotIn) (fIn true):=by
 intro pins s σ H x y v u Q I rx ry h
 unfold fIn at h
 split at h
 ·refine jfg_ pins s σ H _ _ v u Q I rx ry ⟨_,_,rfl,rfl,?_⟩
  simpa [t5_] using h
 ·split at h
  ·rename_i e
   exact jez_ pins s σ H _ _ v u Q I rx ry ⟨_,_,rfl,vn_ e,h.1,h.2.1,h.2.2⟩
  ·exact h.elim
 ·exact h.elim
def fNeg:V->Hp->VK->Prop:=fun x H Q=>match x with
 | .int i=>Q (.int (-i)) H
 | _=>False
theorem jku_:UnR X (unaryOp .USub) fNeg:=fun pins s σ H x v Q I rx h=>by
 unfold fNeg at h
 split at h
 ·exact jwk_ pins s σ H _ v Q I rx ⟨_,rfl,h⟩
 ·exact h.elim
def fIx (K:pc_):R2:=fun x y H Q=>match x,y with
 | .ref p,.int i=>∃ xs v,(SqL K H p xs∨SqT K H p xs)/\atI xs i=some v/\Q v H
 | .str z,.int i=>z.length<=sizeLine/\(match atI z.cps.toList i with | some c=>Q (.str ⟨#[c]⟩) H | none=>False)
 | _,_=>False
theorem jh_ {K:pc_}(hK:X.K=K:=by rfl):IxR X (fIx K):=by
 subst hK
 intro value slice pins s σ H x y v u Q I rx ry h hs
 unfold fIx at h
 split at h
 ·obtain⟨xs,w',e,e',h⟩:=h
  rcases e with q | q
  ·exact jug_ value slice pins s σ H _ _ v u Q I rx ry ⟨_,_,_,_,rfl,rfl,q,e',h⟩ hs
  ·exact jvs_ value slice pins s σ H _ _ v u Q I rx ry ⟨_,_,_,_,rfl,rfl,q,e',h⟩ hs
 ·obtain⟨hz,h⟩:=h
  split at h
  ·rename_i c e
   exact jvy_ value slice pins s σ H _ _ v u Q I rx ry ⟨_,_,_,rfl,rfl,hz,e,h⟩ hs
  ·exact h.elim
 ·exact h.elim
def fSl (K:pc_):V->Option Int->Option Int->Hp->VK->Prop:=fun x lo hi H Q=>match x with
 | .str z=>z.length<=sizeLine/\Q (.str (kw_ z lo hi)) H
 | .ref a=>(∃ xs,SqL K H a xs/\GetL H (cutV xs lo hi) Q) ∨
  (∃ xs,SqT K H a xs/\¬ (HT.sIx xs.length 0 lo=0/\HT.sIx xs.length xs.length hi=xs.length)/\GetT H (cutV xs lo hi) Q)
 | _=>False
theorem jxv_:SlR X (fun x lo hi H Q=>∃ z,x=.str z/\z.length<=sizeLine/\Q (.str (kw_ z lo hi)) H):=by
 intro pins s σ H x v vl vu lo hi sl Q I rx hs pl pu h
 obtain⟨z,rfl,hz,q⟩:=h
 obtain⟨t,rfl⟩:=rx
 refine⟨"str",_,PySem.F.slot_str_getitem.lookup,typeIs_str _ _ _,?_⟩
 have fin:∀(l u:Option (Int×Tok)),l.map (·.1)=lo->u.map (·.1)=hi->s.heap.IsSlice sl l u none->wpAny (model X.prog X.w) X.A (getItem (.str z t) (.ref sl)) (EP X pins σ Q) X.xe s:=fun l u el eu hs'=>by
  subst el eu
  refine wpAny_getItem_str_slice hs' rfl ?_
  have q':∀ t' k,EP X pins σ Q (.str (kw_ z (l.map (·.1)) (u.map (·.1))) t') { s with toks:=k }:=fun t' k=>endS (I.tok _) q
  exact post_val_or_str ⟨qe_ (Txt.slice_le z _ _) hz,fun t' k=>q' t' k⟩
 cases pl with
 | none =>
  cases pu with
  | none=>exact fin none none rfl rfl hs
  | int j u=>exact fin none (some (j,u)) rfl rfl hs
 | int i t' =>
  cases pu with
  | none=>exact fin (some (i,t')) none rfl rfl hs
  | int j u=>exact fin (some (i,t')) (some (j,u)) rfl rfl hs
theorem z7_ {K:pc_}(hK:X.K=K:=by rfl):SlR X (fSl K):=by
 subst hK
 intro pins s σ H x v vl vu lo hi sl Q I rx hs pl pu h
 unfold fSl at h
 split at h
 ·exact jxv_ pins s σ H _ v vl vu lo hi sl Q I rx hs pl pu ⟨_,rfl,h.1,h.2⟩
 ·rcases h with ⟨xs,e,h⟩ | ⟨xs,e,h⟩
  ·exact jso_ pins s σ H _ v vl vu lo hi sl Q I rx hs pl pu ⟨_,_,rfl,e,h⟩
  ·exact jwx_ pins s σ H _ v vl vu lo hi sl Q I rx hs pl pu ⟨_,_,rfl,e,h.1,fun p hp=>h.2.new hp⟩
 ·exact h.elim
def fLen (K:pc_):List V->Hp->VK->Prop:=fun xs H Q=>match xs with
 | [.str z]=>z.length<=sizeLine/\Q (.int z.length) H
 | [.ref p]=>∃ ys,(SqL K H p ys∨SqT K H p ys)/\Q (.int ys.length) H
 | _=>False
theorem zq_ {K:pc_}(hK:X.K=K:=by rfl):CallR X (.builtin "len") (fLen K):=by
 subst hK
 intro pins s σ H xs us Q I r h
 unfold fLen at h
 split at h
 ·exact jeg_ pins s σ H _ us Q I r ⟨_,rfl,h.1,h.2⟩
 ·obtain⟨ys,e,h⟩:=h
  exact jed_ pins s σ H _ us Q I r ⟨_,_,rfl,e,h⟩
 ·exact h.elim
def f2I (g:Int->Int->V):List V->Hp->VK->Prop:=fun xs H Q=>match xs with
 | [.int i,.int j]=>Q (g i j) H
 | _=>False
theorem jbf_ (hc:X.calm=true):CallR X (.builtin "max") (f2I fun i j=>.int (if j > i then j else i)):=(jmi_ hc).imp fun xs H Q h=>by
 unfold f2I at h
 split at h
 ·exact⟨_,_,rfl,h⟩
 ·exact h.elim
def fInt:List V->Hp->VK->Prop:=fun xs H Q=>match xs with
 | [.int i]=>Q (.int i) H
 | [.bl b]=>Q (.int (if b then 1 else 0)) H
 | _=>False
theorem jyf_:CallR X (.type "int") fInt:=call_int1.imp fun xs H Q h=>by
 unfold fInt at h
 split at h
 ·exact .inl ⟨_,rfl,h⟩
 ·exact .inr ⟨_,rfl,h⟩
 ·exact h.elim
def jos_:List V->Hp->VK->Prop:=fun xs H Q=>match xs with
 | [.ref p]=>(match seqR H p with | some ys=>GetL H ys Q | none=>False)
 | _=>False
theorem jig_:CallR X (.type "list") jos_:=call_list_of.imp fun xs H Q h=>by
 unfold jos_ at h
 split at h
 ·split at h
  ·rename_i e;exact⟨_,_,rfl,vn_ e,h⟩
  ·exact h.elim
 ·exact h.elim
def jiq_:List V->Hp->VK->Prop:=fun xs H Q=>match xs with
 | [.ref p]=>(match seqR H p with | some ys=>GetT H ys Q | none=>False)
 | _=>False
theorem jrx_ {H:Hp}{p:Addr}{ys:List V}(h:tupR H p=some ys):H p=some (.tup ys):=by
 unfold tupR at h
 split at h
 ·rename_i e;cases h;exact e
 ·cases h
theorem jan_:CallR X (.type "tuple") jiq_:=call_tuple_of.imp fun xs H Q h=>by
 unfold jiq_ at h
 split at h
 ·split at h
  ·rename_i ys e
   refine⟨_,ys,rfl,?_⟩
   unfold seqR at e
   split at e
   ·rename_i e';cases e
    exact .inl ⟨jas_ e',fun l hl=>h.new hl⟩
   ·exact .inr ⟨jeq_ e,h.old (jrx_ e)⟩
  ·exact h.elim
 ·exact h.elim
def fTru (x:V)(H:Hp)(Q:Bool->Hp->Prop):Prop:=match x with
 | .non=>Q false H
 | .bl b=>Q b H
 | .int i=>Q (i != 0) H
 | .str z=>z.length<=sizeLine/\Q ((z.length:Int) != 0) H
 | .ref p=>(match seqR H p with | some xs=>Q (!xs.isEmpty) H | none=>False)
 | _=>False
theorem vb_ {a:Expr}{ta:TE}(ha:PE X a ta)(he:∀ whole,isTrue a X.env whole=(do let v <- whole;standAt a.pos;holding [v] (truthy v))) :
  PT X a (fun σ H Q=>ta σ H fun x H'=>fTru x H' Q):=by
 intro pins s σ H Q I h
 show wpAny _ _ (isTrue a X.env (eval a X.env)) _ _ _
 rw[he]
 refine wpAny_bind (thn (ha pins s σ H _ I h) fun v s1 ⟨x,H1,I1,r1,q1⟩=>wpAny_bind (wpAny_standAt (wpAny_holding ?_)))
 refine jwu_ pins s1 σ H1 x v Q I1 r1 ?_
 have q1:fTru x H1 Q:=q1
 unfold fTru at q1
 split at q1
 ·exact⟨_,rfl,q1⟩
 ·exact⟨_,rfl,q1⟩
 ·exact⟨_,rfl,q1⟩
 ·exact⟨_,⟨q1.1,rfl⟩,q1.2⟩
 ·split at q1
  ·rename_i xs e
   refine⟨_,?_,q1⟩
   rcases vn_ (K:=X.K) e with z | z
   ·exact .inl ⟨_,z,rfl⟩
   ·exact .inr (.inl ⟨_,z,rfl⟩)
  ·exact q1.elim
 ·exact q1.elim
def jfd_:V->List V->Hp->VK->Prop:=fun x vs H Q=>match x,vs with
 | .ref l,[y]=>(match H l with | some (.lst xs)=>xs.length < sizeLine/\Q .non (upd H l (.lst (xs++[y]))) | _=>False)
 | _,_=>False
theorem yv_:MtR X "list.append" jfd_:=fun pins s σ H x xs v us Q I rx rs h=>by
 unfold jfd_ at h
 split at h
 ·split at h
  ·rename_i e
   exact u7_ pins s σ H _ _ v us Q I rx rs ⟨_,_,_,rfl,rfl,e,h.1,h.2⟩
  ·exact h.elim
 ·exact h.elim
theorem jbg_:∀{ys:List Str}{us:List Value},Vals (ys.map V.str) us->StrsAre us ys
 | [],_,.nil=>.nil
 | y::ys,_,.cons r t=>by
  obtain⟨k,rfl⟩:=r
  exact .cons y k (jbg_ t)
noncomputable def strs?:List V->Option (List Str)
 | []=>some []
 | .str z::r=>(strs? r).map (z::·)
 | _=>none
theorem strs?_map:∀ ys:List Str,strs? (ys.map V.str)=some ys
 | []=>rfl
 | y::ys=>by simp only[pp_,strs?,strs?_map ys,ts_]
theorem strs?_of:∀{xs:List V}{ys:List Str},strs? xs=some ys->xs=ys.map V.str
 | [],_,h=>by cases h;rfl
 | .str z::r,ys,h=>by
  simp only[strs?] at h
  cases e:strs? r with
  | none=>rw[e] at h;cases h
  | some q=>rw[e] at h;cases h;rw[strs?_of e];rfl
 | .non::_,_,h=>by cases h
 | .bl _::_,_,h=>by cases h
 | .int _::_,_,h=>by cases h
 | .byt _::_,_,h=>by cases h
 | .flt _::_,_,h=>by cases h
 | .ref _::_,_,h=>by cases h
 | .ty _::_,_,h=>by cases h
def jpf_:V->List V->Hp->VK->Prop:=fun x vs H Q=>match x,vs with
 | .str z,[.ref p]=>(match lstR H p with
  | some xs=>(match strs? xs with
   | some ys=>(ys.map (·.length)).sum+ys.length * z.length<=16777216/\Q (.str (kx_ z ys)) H
   | none=>False)
  | none=>False)
 | _,_=>False
theorem jfl_:MtR X "str.join" jpf_:=fun pins s σ H x xs v us Q I rx rs h=>by
 unfold jpf_ at h
 split at h
 ·rename_i z p
  split at h
  ·rename_i ws e
   split at h
   ·rename_i ys e2
    obtain⟨t,rfl⟩:=rx
    obtain⟨u,rfl,ru⟩:=vd_ rs
    cases ru
    obtain⟨its,r',pl,hz⟩:=I.list (jas_ e)
    rw[strs?_of e2] at r'
    exact join_list pl.isList (jbg_ (by simpa using r')) h.1 fun t' k=>endS (I.tok _) h.2
   ·exact h.elim
  ·exact h.elim
 ·exact h.elim
def fSS (g:Str->Str->V):V->List V->Hp->VK->Prop:=fun x vs H Q=>match x,vs with
 | .str z,[.str y]=>Q (g z y) H
 | _,_=>False
theorem jgy_:MtR X "str.endswith" (fSS fun z y=>.bl (k7_ z y)):=fun pins s σ H x xs v us Q I rx rs h=>by
 unfold fSS at h
 split at h
 ·obtain⟨t,rfl⟩:=rx
  obtain⟨u,rfl,t',rfl⟩:=vd_ rs
  exact SC.endswith (endB I h)
 ·exact h.elim
end
end L2
namespace L2
open PySem PySem.Spec PyProof.Rows
noncomputable def tyN (H:Hp):V->Option String
 | .non=>some "NoneType"
 | .bl _=>some "bool"
 | .int _=>some "int"
 | .str _=>some "str"
 | .ref a=>match H a with
  | some (.lst _)=>some "list"
  | some (.frz _ (.lst _))=>some "list"
  | some (.tup _)=>some "tuple"
  | _=>none
 | _=>none
noncomputable def subB (t T:String):Bool:=t == T || (t == "bool"&&T == "int")
noncomputable def tys?:List V->Option (List String)
 | []=>some []
 | .ty T::r=>(tys? r).map (T::·)
 | _=>none
noncomputable def vx_ (T:String):Bool:=["bool","int","str","list","tuple"].contains T
theorem jcy_ {K:pc_}{t T:String}(ht:t="NoneType"∨t="bool"∨t="int"∨t="str"∨t="list"∨t="tuple")(hT:T="bool"∨T="int"∨T="str"∨T="list"∨T="tuple") :
  PySem.W.kitOne K (.type t) (.type T)=some (subB t T):=by
 rcases ht with rfl | rfl | rfl | rfl | rfl | rfl <;> rcases hT with rfl | rfl | rfl | rfl | rfl <;> kernel_rfl
def fIsi:List V->Hp->VK->Prop:=fun xs H Q=>match xs with
 | [x,.ty T]=>(match tyN H x with
  | some t=>vx_ T=true/\Q (.bl (subB t T)) H
  | none=>False)
 | [x,.ref p]=>(match tyN H x,tupR H p with
  | some t,some ts=>(match tys? ts with
   | some Ts=>Ts.all vx_=true/\Q (.bl (Ts.any (subB t))) H
   | none=>False)
  | _,_=>False)
 | _=>False
section
variable {X:Cx}
theorem jkc_ {K:pc_}{pins:List (Addr×Obj)}{σ:St}{H:Hp}{s:Shared}{x:V}{u:Value}{t:String}(I:Inv X pins σ H s)(rx:RelV x u)(e:tyN H x=some t) :
  (t="NoneType"∨t="bool"∨t="int"∨t="str"∨t="list"∨t="tuple")/\u≠.builtin "__main__.__loader__#opaque"/\∃ Hp',PySem.W.KitX K u (.type t) Hp'/\Hp' s.heap:=by
 cases x with
 | non=>cases (show u=Value.none from rx);cases e;exact⟨by simp,(fun z=>nomatch z),_,PySem.W.kitx_none,True.intro⟩
 | bl b=>cases (show u=Value.bool b from rx);cases e;exact⟨by simp,(fun z=>nomatch z),_,PySem.W.kitx_bool,True.intro⟩
 | int i=>obtain⟨k,q⟩:=(show ∃ t,u=Value.int i t from rx);cases q;cases e;exact⟨by simp,(fun z=>nomatch z),_,PySem.W.kitx_int,True.intro⟩
 | str z=>obtain⟨k,q⟩:=(show ∃ t,u=Value.str z t from rx);cases q;cases e;exact⟨by simp,(fun z=>nomatch z),_,PySem.W.kitx_str,True.intro⟩
 | ref a =>
  cases (show u=Value.ref a from rx)
  unfold tyN at e
  dsimp only at e
  split at e
  ·rename_i xs ea
   cases e
   obtain⟨_,_,n,_,h1⟩:=(show ObjOk X.prog X.w H s.heap a (.lst xs) from I.hok a _ ea)
   exact⟨by simp,(fun z=>nomatch z),_,k2_,⟨_,h1,rfl⟩⟩
  ·rename_i ob xs ea
   cases e
   obtain⟨_,_,_,n,_,h1⟩:=(show ObjOk X.prog X.w H s.heap a (.frz ob (.lst xs)) from I.hok a _ ea)
   exact⟨by simp,(fun z=>nomatch z),_,k2_,⟨_,h1,rfl⟩⟩
  ·rename_i xs ea
   cases e
   obtain⟨_,_,_,p⟩:=(show ObjOk X.prog X.w H s.heap a (.tup xs) from I.hok a _ ea)
   obtain⟨⟨o,h1,h2,_⟩,_⟩:=p
   exact⟨by simp,(fun z=>nomatch z),_,PySem.W.kitx_tuple,⟨o,h1,h2⟩⟩
  ·cases e
 | byt _=>cases e
 | flt _=>cases e
 | ty _=>cases e
theorem jcq_ {T:String}(h:vx_ T=true):T="bool"∨T="int"∨T="str"∨T="list"∨T="tuple":=by
 simpa [vx_] using h
theorem jks_ {K:pc_}{t:String}(ht:t="NoneType"∨t="bool"∨t="int"∨t="str"∨t="list"∨t="tuple"):∀{ts:List V}{Ts:List String}{its:List Value},tys? ts=some Ts->Vals ts its->Ts.all vx_=true ->
  PySem.W.kitAny K (.type t) its=some (Ts.any (subB t))
 | [],_,_,e,.nil,_=>by cases e;rfl
 | .ty T::r,Ts,_,e,.cons rv rt,hk=>by
  simp only[tys?] at e
  cases er:tys? r with
  | none=>rw[er] at e;cases e
  | some q =>
   rw[er] at e
   cases e
   simp only[kv_,qk_] at hk
   cases rv
   have h1:=jcy_ (K:=K) ht (jcq_ hk.1)
   have h2:=jks_ (K:=K) ht er rt hk.2
   unfold PySem.W.kitAny
   rw[h1]
   cases hb:subB t T with
   | true=>simp[hb]
   | false=>simp only[rh_,hb,ky_];exact h2
 | .non::_,_,_,e,_,_=>by cases e
 | .bl _::_,_,_,e,_,_=>by cases e
 | .int _::_,_,_,e,_,_=>by cases e
 | .str _::_,_,_,e,_,_=>by cases e
 | .byt _::_,_,_,e,_,_=>by cases e
 | .flt _::_,_,_,e,_,_=>by cases e
 | .ref _::_,_,_,e,_,_=>by cases e
theorem uc_:CallR X (.builtin "isinstance") fIsi:=by
 intro pins s σ H xs us Q I r h
 unfold fIsi at h
 split at h
 ·rename_i x T
  split at h
  ·rename_i t et
   obtain⟨u,c,rfl,rx,rc⟩:=jrs_ r
   cases rc
   obtain⟨ht,hu,H',hk,hH⟩:=jkc_ (K:=X.K) I rx et
   exact PySem.W.kia_one hk I.kIn hH (jcy_ ht (jcq_ h.1)) hu fun tk=>endB (I.tok _) h.2
  ·exact h.elim
 ·rename_i x p
  split at h
  ·rename_i t ts et ep
   split at h
   ·rename_i Ts eT
    obtain⟨u,c,rfl,rx,rc⟩:=jrs_ r
    cases rc
    obtain⟨ht,hu,H',hk,hH⟩:=jkc_ (K:=X.K) I rx et
    obtain⟨its,rv,pl,hz⟩:=I.tuple (jeq_ ep)
    obtain⟨⟨cls,dd,data,sl⟩,ho,hc,n,hd⟩:=id pl
    simp only at hc hd
    subst hc hd
    exact PySem.W.kia_tup hk I.kIn hH ho (jks_ ht eT rv h.1) hu fun tk=>endB (I.tok _) h.2
   ·exact h.elim
  ·exact h.elim
 ·exact h.elim
noncomputable def bls?:List V->Option (List Bool)
 | []=>some []
 | .bl b::r=>(bls? r).map (b::·)
 | _=>none
theorem bls?_map:∀ bs:List Bool,bls? (bs.map V.bl)=some bs
 | []=>rfl
 | b::bs=>by simp only[pp_,bls?,bls?_map bs,ts_]
theorem bls?_of:∀{xs:List V}{bs:List Bool},bls? xs=some bs->xs=bs.map V.bl
 | [],_,h=>by cases h;rfl
 | .bl z::r,ys,h=>by
  simp only[bls?] at h
  cases e:bls? r with
  | none=>rw[e] at h;cases h
  | some q=>rw[e] at h;cases h;rw[bls?_of e];rfl
 | .non::_,_,h=>by cases h
 | .str _::_,_,h=>by cases h
 | .int _::_,_,h=>by cases h
 | .byt _::_,_,h=>by cases h
 | .flt _::_,_,h=>by cases h
 | .ref _::_,_,h=>by cases h
 | .ty _::_,_,h=>by cases h
def fAll (f:List Bool->Bool):List V->Hp->VK->Prop:=fun xs H Q=>match xs with
 | [.ref p]=>(match lstR H p with
  | some ys=>(match bls? ys with | some bs=>Q (.bl (f bs)) H | none=>False)
  | none=>False)
 | _=>False
end
noncomputable def Its (xs:List V):It:=⟨fun i _=>i < xs.length,fun i H x H'=>H'=H/\xs[i]?=some x,fun i _=>i=xs.length⟩
noncomputable def chs (z:Str):List V:=z.cps.toList.map fun c=>V.str ⟨#[c]⟩
theorem zi_ (z:Str):(chs z).length=z.length:=by unfold chs;rw[pb_];rfl
theorem jbi_ {P:Program}{w:World}{K:pc_}{tg:Expr}{it:Addr}{n:Nat}{Pv:Nat->Value->Prop}{St:Nat->Heap->Prop}{xs:List V}
  (hW:∀ A:Around,A.handled=none->Walks P w A it [it] [it] n Pv St) (hn:xs.length=n) (hx:∀ i u,Pv i u->∃ x,xs[i]?=some x/\RelV x u)
  (hobj:∀ i h,St i h->∃ o ty vs,h.get? it=some o/\o.cls=.type ty/\o.data=.fields vs/\["enumerate","zip","dict_itemiterator","dict_reverseitemiterator","odict_iterator","itertools.zip_longest","itertools.pairwise"].contains ty=false)
  (hself:∀(A:Around) (i:Nat) (s:Shared) (Q:Value->Shared->Prop) (E:Value->Shared->Prop),St i s.heap->Q (.ref it) s->wpAny (model P w) A (pyIter (.ref it)) Q E s) :
  Turn P w K tg (Its xs) [it] it St where
 mem:=by simp
 obj:=fun i h st b hb=>by
  have e:b=it:=by simpa using hb
  subst e
  obtain⟨o,ty,vs,ho,_,hd,_⟩:=hobj i h st
  exact⟨o,ho,fun v z=>by rw[hd] at z;cases z⟩
 keep:=fun i h h' st k=>(hW {} rfl).frame i h h' st k
 item:=by
  intro X hP hw hK hc i pins s σ H E I hf st hg
  subst hP hw hK
  obtain⟨f0,f1,f2,f3,f4,f5⟩:=hf it (by simp)
  have hlt:i < n:=by rw[<- hn];exact hg
  refine(hW X.A (I.ok.hd hc)).item i s _ E hlt st fun v h' tk pv st' k=>?_
  obtain⟨x,ex,rx⟩:=hx i v pv
  have I1:Inv X pins σ H { s with heap:=h',toks:=tk }:=I.turned (fun b o hb e=>k b o (by simpa using hb) e) f0 f1 f3 f4 f5
  obtain⟨o,ty,vs,ho,hcl,hd,hnn⟩:=hobj _ _ st'
  exact⟨v,rfl,jkd_ (s:={ s with heap:=h',toks:=tk }) ho hcl hd hnn ⟨x,H,I1,rx,⟨rfl,ex⟩,st',fun b hb=>(hf b hb).1⟩⟩
 done:=by
  intro X hP hw hK hc i pins s σ H E I hf st hg
  subst hP hw hK
  obtain⟨f0,f1,f2,f3,f4,f5⟩:=hf it (by simp)
  have e:i=n:=by rw[<- hn];exact hg
  subst e
  exact(hW X.A (I.ok.hd hc)).done s _ E st fun h' tk k=>⟨rfl,I.turned (fun b o hb e=>k b o (by simpa using hb) e) f0 f1 f3 f4 f5⟩
 self:=hself
section
variable {X:Cx}{tg:Expr}
def jdp_ (K:pc_)(R:It->Hp->Prop):V->Hp->Prop:=fun x H1=>match x with
 | .str z=>R (Its (chs z)) H1
 | .ref a=>(∃ xs,SqL K H1 a xs/\R (Itl K a) H1)∨(∃ xs,SqT K H1 a xs/\R (Itt K a) H1)
 | _=>False
def iAny (K:pc_)(te:TE):TI:=fun σ H R=>te σ H (jdp_ K R)
theorem jgi_ {z:Str}{i:Nat}{u:Value}(h:SignAt z i u):∃ x,(chs z)[i]?=some x/\RelV x u:=by
 obtain⟨c,k,hc,rfl⟩:=h
 refine⟨.str ⟨#[c]⟩,?_,⟨k,rfl⟩⟩
 unfold chs
 rw[pl_,rx_,hc]
 rfl
theorem j9_ {K:pc_}{l:Expr}{tl:TE}(hl:PE X l tl)(hK:X.K=K:=by rfl):PI X tg l (iAny K tl):=by
 subst hK
 intro pins s σ H R I h
 refine thn (hl pins s σ H _ I h) fun v s1 ⟨x,H1,I1,r1,q1⟩=>?_
 have fresh1:∀ b∈[s1.heap.objs.size],FpOk X pins H1 b:=fun b hb=>by
  have e:b=s1.heap.objs.size:=by simpa using hb
  subst e
  exact I1.fpOk (po_ _) (I1.hok.fresh (po_ _))
 have kept1:∀ ob:Obj,Inv X pins σ H1 { s1 with heap:=s1.heap.push ob }:=fun ob=>I1.kept (t':=s1.toks) fun b o e=>pd_ _ e
 unfold jdp_ at q1
 split at q1
 ·rename_i z
  obtain⟨t,rfl⟩:=r1
  have hlen:(chs z).length=z.cps.size:=by unfold chs;simp
  cases ha:z.cps.all (· < 128)
  ·refine wpAny_pyIter_wide ha ⟨s1.heap.objs.size,[s1.heap.objs.size],_,_,H1,rfl,kept1 _,jbi_ (fun A hA=>Walks.strWide hA s1.heap.objs.size z t) hlen (fun i u hu=>jgi_ hu) ?_ (fun A i s Q E st q=>wpAny_pyIter_striter_wide st q),⟨_,pv_ _ rfl,rfl,rfl⟩,fresh1,q1⟩
   intro i h st
   obtain⟨o,ho,hc,hd⟩:=st
   exact⟨o,_,_,ho,hc,hd,by decide⟩
  ·refine wpAny_pyIter_ascii ha ⟨s1.heap.objs.size,[s1.heap.objs.size],_,_,H1,rfl,kept1 _,jbi_ (fun A hA=>Walks.strAscii hA s1.heap.objs.size z t) hlen (fun i u hu=>jgi_ hu) ?_ (fun A i s Q E st q=>wpAny_pyIter_striter_ascii st q),⟨_,pv_ _ rfl,rfl,rfl⟩,fresh1,q1⟩
   intro i h st
   obtain⟨o,ho,hc,hd⟩:=st
   exact⟨o,_,_,ho,hc,hd,by decide⟩
 ·rename_i a
  cases r1
  rcases q1 with ⟨xs,e,q1⟩ | ⟨xs,e,q1⟩
  ·obtain⟨its,rv,p,hz⟩:=I1.list e
   exact wpAny_pyIter_list p.isList ⟨s1.heap.objs.size,[s1.heap.objs.size],_,_,H1,rfl,kept1 _,jmj_ a _,⟨_,pv_ _ rfl,rfl,rfl⟩,fresh1,q1⟩
  ·obtain⟨its,rv,p,hz⟩:=I1.tuple e
   exact wpAny_pyIter_tuple (show s1.heap.IsTuple a its.toArray from p) ⟨s1.heap.objs.size,[s1.heap.objs.size],_,_,H1,rfl,kept1 _,jid_ a _,⟨_,pv_ _ rfl,rfl,rfl⟩,fresh1,q1⟩
 ·exact q1.elim
end
theorem jaq_ {J:It}{n:Nat}{val:Nat->V}{p:Addr}{g:TG}{tc:TT}{te:TE}{Q:VK}{σ0:St}{H0:Hp}(Pv:Nat->List V->St->Hp->Prop)
  (hgo:∀ i acc σ H,i < n->Pv i acc σ H->J.go i H) (hst:∀ acc σ H,Pv n acc σ H->J.stop n H) (hy:∀ i acc σ H x H',i < n->Pv i acc σ H->J.yld i H x H'->H'=H/\x=val i)
  (h0:Pv 0 [] σ0 H0) (hp:∀ i acc σ H,Pv i acc σ H->H p=some (.lst acc)/\acc.length<=i) (hz:n<=sizeLine)
  (hs:∀ i acc σ H,i < n->Pv i acc σ H->g (val i) σ H fun σ3 H3=>tc σ3 H3 fun b H4 =>
   if b=true then te σ3 H4 fun v H5=>H5 p=some (.lst acc)/\Pv (i+1) (acc++[v]) σ3 (upd H5 p (.lst (acc++[v]))) else Pv (i+1) acc σ3 H4)
  (hd:∀ acc σ H,Pv n acc σ H->Q (.ref p) H) :
  yp_ J p g tc te Q σ0 H0:=by
 refine⟨fun i m acc σ H=>m=n - i/\i<=n/\Pv i acc σ H,⟨n,by simp,qz_ _,h0⟩,fun i m acc σ' H' w=>?_⟩
 obtain⟨rfl,hi,q⟩:=w
 obtain⟨q1,q2⟩:=hp i acc σ' H' q
 refine⟨q1,?_⟩
 by_cases hlt:i < n
 ·refine .inr ⟨hgo i acc σ' H' hlt q,by omega,Pv (i+1),fun a' σ3 H3 k=>⟨n - (i+1),by omega,rfl,hlt,k⟩,fun x H2 y=>?_⟩
  obtain⟨rfl,rfl⟩:=hy i acc σ' H' x H2 hlt q y
  exact hs i acc σ' _ hlt q
 ·have e:i=n:=by omega
  subst e
  exact .inl ⟨hst acc σ' H' q,hd acc σ' H' q⟩
theorem v2_ {lo:Int}{n:Nat}{p:Addr}{g:TG}{tc:TT}{te:TE}{Q:VK}{σ0:St}{H0:Hp}(Pv:Nat->List V->St->Hp->Prop)
  (h0:Pv 0 [] σ0 H0) (hp:∀ i acc σ H,Pv i acc σ H->H p=some (.lst acc)/\acc.length<=i) (hz:n<=sizeLine)
  (hs:∀ i acc σ H,i < n->Pv i acc σ H->g (.int (lo+i)) σ H fun σ3 H3=>tc σ3 H3 fun b H4 =>
   if b=true then te σ3 H4 fun v H5=>H5 p=some (.lst acc)/\Pv (i+1) (acc++[v]) σ3 (upd H5 p (.lst (acc++[v]))) else Pv (i+1) acc σ3 H4)
  (hd:∀ acc σ H,Pv n acc σ H->Q (.ref p) H):yp_ (Itr lo n) p g tc te Q σ0 H0 :=
 jaq_ (J:=Itr lo n) (val:=fun i=>.int (lo+i)) Pv (fun _ _ _ _ h _=>h) (fun _ _ _ _=>po_ n) (fun _ _ _ _ _ _ _ _ y=>y) h0 hp hz hs hd
theorem un_ {xs:List V}{p:Addr}{g:TG}{tc:TT}{te:TE}{Q:VK}{σ0:St}{H0:Hp}(Pv:Nat->List V->St->Hp->Prop)
  (h0:Pv 0 [] σ0 H0) (hp:∀ i acc σ H,Pv i acc σ H->H p=some (.lst acc)/\acc.length<=i) (hz:xs.length<=sizeLine)
  (hs:∀ i acc σ H,i < xs.length->Pv i acc σ H->g (xs.getD i .non) σ H fun σ3 H3=>tc σ3 H3 fun b H4 =>
   if b=true then te σ3 H4 fun v H5=>H5 p=some (.lst acc)/\Pv (i+1) (acc++[v]) σ3 (upd H5 p (.lst (acc++[v]))) else Pv (i+1) acc σ3 H4)
  (hd:∀ acc σ H,Pv xs.length acc σ H->Q (.ref p) H):yp_ (Its xs) p g tc te Q σ0 H0 :=
 jaq_ (J:=Its xs) (n:=xs.length) (val:=fun i=>xs.getD i .non) Pv (fun _ _ _ _ h _=>h) (fun _ _ _ _=>rfl)
  (fun i _ _ _ x _ hi _ y=>⟨y.1,by have:=y.2;rw[pf_,this];rfl⟩) h0 hp hz hs hd
theorem j8_ {K:pc_}{a:Addr}{xs:List V}{p:Addr}{g:TG}{tc:TT}{te:TE}{Q:VK}{σ0:St}{H0:Hp}(Pv:Nat->List V->St->Hp->Prop)
  (hl:∀ i acc σ H,i<=xs.length->Pv i acc σ H->SqL K H a xs)
  (h0:Pv 0 [] σ0 H0) (hp:∀ i acc σ H,Pv i acc σ H->H p=some (.lst acc)/\acc.length<=i) (hz:xs.length<=sizeLine)
  (hs:∀ i acc σ H,i < xs.length->Pv i acc σ H->g (xs.getD i .non) σ H fun σ3 H3=>tc σ3 H3 fun b H4 =>
   if b=true then te σ3 H4 fun v H5=>H5 p=some (.lst acc)/\Pv (i+1) (acc++[v]) σ3 (upd H5 p (.lst (acc++[v]))) else Pv (i+1) acc σ3 H4)
  (hd:∀ acc σ H,Pv xs.length acc σ H->Q (.ref p) H):yp_ (Itl K a) p g tc te Q σ0 H0 :=
 jaq_ (J:=Itl K a) (n:=xs.length) (val:=fun i=>xs.getD i .non) Pv
  (fun i acc σ H hi q=>⟨xs,xs[i],(hl i acc σ H (sy_ hi) q),by simp[hi]⟩) (fun acc σ H q=>⟨xs,(hl _ acc σ H (po_ _) q),po_ _⟩)
  (fun i acc σ H x _ hi q y=>⟨y.1,by have:=y.2 xs (hl i acc σ H (sy_ hi) q);rw[pf_,this];rfl⟩) h0 hp hz hs hd
section
variable {X:Cx}{o e:Expr}{es:List Expr}{to:TE}{t:TA}{name:Str}{apos cpos:Pos}{T id:String}{r:V->List V->Hp->VK->Prop}
theorem yg_ {K:pc_}(pa:PlainAttrs T)(slot:Slot T name id)(hty:typeOf (.builtin id)=pure (.type "method_descriptor"))(hm:MtR X id r)(ho:PE X o to)(ha:PA X (e::es) t)(hK:X.K=K:=by rfl)
  (hb:attributeBase o name X.env (eval o X.env)=eval o X.env:=by rfl)
  (hf:((backTo cpos (starEach (e::es) X.env)).all (fun x=>!x.1)&&(backToKw cpos (keywordEach [] X.env)).all (fun x=>x.1.isSome)&&decide ((e::es).length+([]:List Keyword).length+(if ([]:List Keyword).isEmpty then 0 else 1) < 30))=true:=by rfl)
  (hl:(apos.endLine == cpos.line)=true:=by rfl) (he:starEach (e::es) X.env=(false,eval e X.env)::starEach es X.env:=by rfl) (hpl:(backTo cpos (starEach es X.env)).any (·.1)=false:=by rfl):PE X (.Call (.Attribute o name apos) (e::es) [] cpos) (tBM K T r to t):=by
 subst hK
 exact jzk_ pa slot hty hm ho ha hb hf hl he hpl
theorem jkt_ {K:pc_}(pa:PlainAttrs T)(slot:Slot T name id)(hty:typeOf (.builtin id)=pure (.type "method_descriptor"))(hm:MtR X id r)(ho:PE X o to)(hK:X.K=K:=by rfl)
  (hbase:attributeBase o name X.env (eval o X.env)=eval o X.env:=by rfl) (hline:(apos.endLine == cpos.line)=true:=by rfl):PE X (.Call (.Attribute o name apos) [] [] cpos) (tBM0 K T r to):=by
 subst hK
 exact jxd_ pa slot hty hm ho hbase hline
end
def fSet:V->V->V->Hp->(Hp->Prop)->Prop:=fun o i v H Q=>match o,i with
 | .ref p,.int k=>(match H p with
  | some (.lst xs)=>(match ixN xs.length k with | some j=>Q (upd H p (.lst (xs.set j v))) | none=>False)
  | _=>False)
 | _,_=>False
theorem jhp_ {X:Cx}:PSet X fSet:=fun pins s σ H o i v ov iv u Q I ro ri rv h=>by
 unfold fSet at h
 split at h
 ·split at h
  ·rename_i xs e
   split at h
   ·rename_i j ej
    exact jru_ pins s σ H _ _ v ov iv u Q I ro ri rv ⟨_,_,_,_,rfl,rfl,e,ej,h⟩
   ·exact h.elim
  ·exact h.elim
 ·exact h.elim
structure Dn (P:Program)(w:World)(K:pc_)(mg:Str->Option Value)(base:Heap)(x:Str)(k:Nat)(ps:List Str)(sp:Sp):Prop where
 ex:∃(f:Addr) (fd:FuncData),mg x=some (.ref f)/\rz_ K (.ref f)=true/\Binds K fd ps []/\FnOk P w K mg base CX0 k f fd ps sp
theorem jq_ {X:Cx}{x:Str}{k:Nat}{ps:List Str}{sp:Sp}{e:Expr}{es:List Expr}{t:TA}{p pos:Pos}(D:Dn X.prog X.w X.K X.mg X.base x k ps sp)(hr:Room k X.A)(hg:Gl X x)(ha:PA X (e::es) t)
  (hdb:(x == ("__debug__":Str))=false:=by decide) (he:starEach (e::es) X.env=(false,eval e X.env)::starEach es X.env:=by rfl) (hpl:(backTo pos (starEach es X.env)).any (·.1)=false:=by rfl) :
  PE X (.Call (.Name x p) (e::es) [] pos) (jsa_ sp [] E0 t):=by
 obtain⟨f,fd,h1,h2,h3,h4⟩:=D.ex
 exact jtt_ h4 hr hg h1 h2 h3 .nil jkw_ ha hdb he hpl
end L2
namespace L2
open PySem
open Sem (wp)
open AutoSeq1 (wpAny_loadPart')
section
variable {prog:Program}{w:World}{A:Around}{E:Value->Shared->Prop}{s:Shared}
theorem jjw_ {it t:Addr}{i:Nat}{items:Array Value}{x:Value}{Q:Value->Shared->Prop}(hit:s.heap.IsTupleIter it t i)(ht:s.heap.IsTuple t items)(hx:items[i]?=some x)
  (hQ:∀ h',h'.IsTupleIter it t (i+1)->qv_ it s.heap h'->Q x { s with heap:=h' }):wpAny (model prog w) A (p1_ (.ref it)) Q E s:=by
 obtain⟨ob,hob,hcl,hdt⟩:=id hit
 obtain⟨ot,hot,_,nt,hdot⟩:=ht
 unfold p1_
 refine wpAny_bind (wpAny_callSpecial?_slot (name:=re_ "__next__") hit.typeIs rt_ (wpAny_call_entry rt_ hit.typeIs tt_ ?_ (tm_ _)))
 show wpAny _ _ (field (.ref it) 0 >>= _) _ _ s
 refine wpAny_bind (wpAny_field hob hdt (x:=.ref t) rfl ?_)
 have nn:¬ ((Value.ref t == Value.none)=true):=pi_
 show wpAny _ _ (if (Value.ref t == Value.none)=true then _ else _) _ _ s
 rw[if_neg nn]
 show wpAny _ _ (field (.ref it) 1 >>= _) _ _ s
 refine wpAny_bind (wpAny_field hob hdt (x:=.int i 0) rfl ?_)
 show wpAny _ _ (seqItems? (.ref t) >>= _) _ _ s
 refine wpAny_bind (wpAny_seqItems hot hdot ?_)
 simp only[r8_,hx]
 refine wpAny_bind (wpAny_setField hob hdt (by simp) (wpAny_pure ⟨x,rfl,wpAny_pure (hQ _ ?_ (sw_ ..))⟩))
 exact⟨_,tb_ _ hob (w9_ (s0_ hdt _)),(Obj.cls_mapFields ..).trans hcl,by rw[s0_ hdt];simp[rawInt]⟩
theorem jlx_ {it t:Addr}{i:Nat}{items:Array Value}{Q:Value->Shared->Prop}(hh:A.handled=none)(hit:s.heap.IsTupleIter it t i)(ht:s.heap.IsTuple t items)(hx:items[i]?=none)
  (hE:∀ h' e,Heap.ExtBut it s.heap h'->(∃ o,h'.get? e=some o/\o.cls=.type "StopIteration")->E (.ref e) { s with heap:=h' }):wpAny (model prog w) A (p1_ (.ref it)) Q E s:=by
 obtain⟨ob,hob,hcl,hdt⟩:=id hit
 obtain⟨ot,hot,_,nt,hdot⟩:=ht
 unfold p1_
 refine wpAny_bind (wpAny_callSpecial?_slot (name:=re_ "__next__") hit.typeIs rt_ (wpAny_call_entry rt_ hit.typeIs tt_ ?_ (tm_ _)))
 show wpAny _ _ (field (.ref it) 0 >>= _) _ _ s
 refine wpAny_bind (wpAny_field hob hdt (x:=.ref t) rfl ?_)
 have nn:¬ ((Value.ref t == Value.none)=true):=pi_
 show wpAny _ _ (if (Value.ref t == Value.none)=true then _ else _) _ _ s
 rw[if_neg nn]
 show wpAny _ _ (field (.ref it) 1 >>= _) _ _ s
 refine wpAny_bind (wpAny_field hob hdt (x:=.int i 0) rfl ?_)
 show wpAny _ _ (seqItems? (.ref t) >>= _) _ _ s
 refine wpAny_bind (wpAny_seqItems hot hdot ?_)
 simp only[r8_,hx]
 refine wpAny_bind (wpAny_rule (wpAny_bind (wpAny_setField hob hdt (by simp) ?_)))
 show wpAny _ _ (newExc (.type "StopIteration") [] >>= _) _ _ _
 refine wpAny_bind ?_
 simp only[newExc,newTuple]
 refine wpAny_bind (wpAny_newObj_type ?_ (by size_fits))
 refine wpAny_bind (m:=firstArgMember _ _) (wpAny_of_eq (a:=Value.none) (by first | rfl | (simp only[firstArgMember];rfl)) (wpAny_newObj_type ?_ (by size_fits)))
 simp only[raiseNew]
 refine wpAny_bind (wpAny_handled ?_)
 first | rw[show A.in1.handled=none from hh] | rw[hh]
 exact wpAny_bind (wpAny_pure (wpAny_throw (hE _ _ (((sw_ ..).extBut.push _).push _) ⟨_,pv_ _ rfl,rfl⟩)))
end
theorem jih_ {prog:Program}{w:World}{A:Around}(hh:A.handled=none)(it t:Addr)(hne:t≠it)(items:Array Value) :
  Draws prog w A it [it,t] items.size (fun i v=>items[i]?=some v) (fun i h=>h.IsTupleIter it t i/\h.IsTuple t items) where
 live:=fun _ _ st=>let ⟨o,ho,_⟩:=st.1;⟨o,ho⟩
 frame:=fun _ _ _ st hk=>⟨st.1.at fun o e=>hk it (by simp) o e,let ⟨o,ho,r⟩:=st.2;⟨o,hk t (by simp) o ho,r⟩⟩
 item:=fun i s Q E hi st hQ=>by
  refine jjw_ st.1 st.2 (x:=items[i]) (by simp[hi]) fun h' hit' hs'=>?_
  exact hQ _ h' s.toks (by simp[hi]) ⟨hit',st.2.extBut hs'.extBut hne⟩ hs'
 done:=fun s Q E st hE=>jlx_ hh st.1 st.2 (by simp) hE
set_option maxHeartbeats 4000000 in
set_option maxHeartbeats 4000000 in
section
variable {prog:Program}{w:World}{A:Around}{E:Value->Shared->Prop}{s:Shared}
set_option maxHeartbeats 4000000 in
end
end L2
namespace L2
open PySem PySem.Spec PyProof.Rows
section
variable {X:Cx}{pins:List (Addr×Obj)}{σ:St}{H:Hp}{s:Shared}{h':Heap}
theorem Inv.turnedL {t':Nat}{ch:List Addr}(I:Inv X pins σ H s)(k:∀ b u,b∉ch->s.heap.get? b=some u->h'.get? b=some u)(hf:∀ b∈ch,FpOk X pins H b):Inv X pins σ H { s with heap:=h',toks:=t' }:=by
 have nch:∀ b u,H b=some u->b∉ch:=fun b u e z=>by rw[(hf b z).1] at e;cases e
 refine I.step (g':=s.gens) (d':=s.drawn) (ch:=ch) (fun b hb=>⟨(hf b hb).2.2.2.1,(hf b hb).2.1,(hf b hb).2.2.2.2.1,(hf b hb).2.2.2.2.2⟩)
  (fun b u _ _ hc e _=>k b u hc e) (fun b u _ _ hc e _=>⟨u.slots,k b u hc e⟩) (fun _ _ _ _ n=>n)
  (fun b u hc e=>⟨u,k b u hc e⟩) (fun _ _ e=>e) (fun _ _ _ e=>e) (fun b ps e=>⟨#[],by rw[e];simp⟩) (fun m hm=>?_) (fun b u e=>?_) I.bare
 ·obtain⟨ob,es,ep,ho,r⟩:=hm
  exact⟨ob,es,ep,k _ ob (fun z=>(hf _ z).2.1 rfl) ho,r⟩
 ·refine(I.hok b u e).stay (fun c v hc q=>k c v ?_ q) (fun _ q=>q) fun _ _ q=>q
  rcases hc with z | z
  ·rw[z];exact nch b u e
  ·exact nch c _ z
theorem Inv.turnedNew {t':Nat}{ch:List Addr}{T:Addr}{o:HO}(I:Inv X pins σ H s)(hT:s.heap.objs.size<=T)
  (k:∀ b u,b∉ch->s.heap.get? b=some u->h'.get? b=some u) (hf:∀ b∈ch,FpOk X pins H b) (new:ObjOk X.prog X.w (upd H T o) h' T o) :
  Inv X pins σ (upd H T o) { s with heap:=h',toks:=t' }:=by
 have hn:H T=none:=I.hok.fresh hT
 have nch:∀ b u,H b=some u->b∉ch:=fun b u e z=>by rw[(hf b z).1] at e;cases e
 refine I.step (g':=s.gens) (d':=s.drawn) (ch:=ch) (fun b hb=>⟨(hf b hb).2.2.2.1,(hf b hb).2.1,(hf b hb).2.2.2.2.1,(hf b hb).2.2.2.2.2⟩)
  (fun b u _ _ hc e _=>k b u hc e) (fun b u _ _ hc e _=>⟨u.slots,k b u hc e⟩) (fun b u _ e n=>by rw[ji_ (p6_ (qa_ (pt_ e) hT))];exact n)
  (fun b u hc e=>⟨u,k b u hc e⟩) (fun b xs e=>by rw[ji_ (j3_ e hn)];exact e) (fun b u v e=>by rw[ji_ (j3_ e hn)];exact e) (fun b ps e=>⟨#[],by rw[ji_ (j3_ e hn),e];simp⟩)
  (fun m hm=>?_) (fun b u e=>?_) I.bare
 ·obtain⟨ob,es,ep,ho,r⟩:=hm
  exact⟨ob,es,ep,k _ ob (fun z=>(hf _ z).2.1 rfl) ho,r⟩
 ·by_cases hb:b=T
  ·subst hb;rw[jb_] at e;cases e;exact new
  ·rw[ji_ hb] at e
   refine(I.hok b u e).stay (fun c v hc q=>k c v ?_ q) (fun c q=>by rw[ji_ (j3_ q hn)];exact q) fun c xs q=>by rw[ji_ (j3_ q hn)];exact q
   rcases hc with z | z
   ·rw[z];exact nch b u e
   ·exact nch c _ z
end
theorem PrX.ok {P:Program}{w:World}{H:Hp}{h:Heap}{a:Addr}{xs:List V}(x:xs.length<=sizeLine/\∃ its:List Value,Vals xs its/\IsTup h a its.toArray):ObjOk P w H h a (PrX a xs):=by
 refine⟨x,?_,fun h1 h2 q k=>?_⟩
 ·obtain⟨_,_,_,o,ho,_⟩:=x
  exact⟨o,ho⟩
 ·obtain⟨z,its,r,o,ho,c⟩:=q
  exact⟨z,its,r,o,k o ho,c⟩
noncomputable def jjy_ (P:Program)(w:World)(A:Around)(it:Addr)(xs:List V)(St0:Nat->Heap->Prop)(H:Hp)(i:Nat)(h:Heap):Prop :=
 ∃(fp:List Addr) (Pv:Nat->Value->Prop) (St:Nat->Heap->Prop),Draws P w A it fp xs.length Pv St/\it∈fp/\(∀ b∈fp,b=it∨H b≠none)/\St i h/\(∀ j x,Pv j x->∃ v,xs[j]?=some v/\RelV v x)/\∀ j h',St j h'->St0 j h'
section
variable {X:Cx}
end
theorem jlk_ {X:Cx}{pins:List (Addr×Obj)}{σ:St}{H:Hp}{s:Shared}{it a:Addr}{xs:List V}{i:Nat}(hc:X.calm=true)(I:Inv X pins σ H s)(h:SqT X.K H a xs)(hn:H it=none)(ha:H a≠none)(st:s.heap.IsTupleIter it a i) :
  jjy_ X.prog X.w X.A.in1 it xs (fun i h=>h.IsTupleIter it a i) H i s.heap:=by
 obtain⟨its,rv,pl,hz⟩:=I.tuple h
 have hl:its.toArray.size=xs.length:=by rw[pn_];exact rv.length.symm
 have hne:a≠it:=fun z=>ha (z▸hn)
 refine⟨[it,a],_,_,hl▸jih_ (A:=X.A.in1) (show X.A.in1.handled=none from I.ok.hd hc) it a hne its.toArray,by simp,fun b hb=>?_,⟨st,pl⟩,fun j x hx=>?_,fun _ _ q=>q.1⟩
 ·rcases p0_.mp hb with z | z
  ·exact .inl z
  ·have z':b=a:=by simpa using z
   rw[z'];exact .inr ha
 ·have hx':its[j]?=some x:=by simpa using hx
  have hj:j < xs.length:=by rw[rv.length];exact(pq_.mp hx').1
  obtain⟨u,hu,ru⟩:=rv.get (i:=j) (x:=xs[j]) (by simp[hj])
  rw[hx'] at hu
  cases hu
  exact⟨xs[j],by simp[hj],ru⟩
section
variable {X:Cx}
end
end L2
namespace L2
open PySem PySem.Spec PyProof.Rows
section
variable {σ:St}{H:Hp}{D:Ends}{Q:VK}{QB:Bool->Hp->Prop}{QA:List V->Hp->Prop}
theorem jpi_ {t u:TS}(h:t { D with nx:=u D } σ H):tSeq t u D σ H:=h
theorem jyz_ {c:TT}{t u:TS}(h:c σ H fun b H1=>if b=true then t D σ H1 else u D σ H1):tIfS c t u D σ H:=h
theorem jvn_ (h:D.nx σ H):jqv_ D σ H:=h
theorem jyq_ {te:TE}(h:te σ H D.rt):tRet te D σ H:=h
theorem jxm_ {te:TE}(h:te σ H fun _ H1=>D.nx σ H1):juz_ te D σ H:=h
theorem jyt_ {te:TE}{g:TG}(h:te σ H fun x H1=>g x σ H1 D.nx):tAsg te g D σ H:=h
theorem y1_ {i:Nat}{v:V}{K:St->Hp->Prop}(h:K (σ.set i (some v)) H):jbe_ i v σ H K:=h
theorem jwl_ {to ti:TE}{t:TSet}{v:V}{K:St->Hp->Prop}(h:to σ H fun o H1=>ti σ H1 fun i H2=>t o i v H2 fun H3=>K σ H3):gSub to ti t v σ H K:=h
theorem jbu_ {K':pc_}{n:Nat}{t:TGs}{a:Addr}{xs:List V}{K:St->Hp->Prop}(h1:H a=some (.tup xs))(h2:xs.length=n)(h:t xs σ H K):gTup K' n t (.ref a) σ H K:=⟨a,xs,rfl,.inl (SqT.of h1),h2,h⟩
theorem jbl_ {K:St->Hp->Prop}(h:K σ H):gNil [] σ H K:=⟨rfl,h⟩
theorem yn_ {t:TG}{u:TGs}{v:V}{r:List V}{K:St->Hp->Prop}(h:t v σ H fun σ' H'=>u r σ' H' K):jui_ t u (v::r) σ H K:=⟨v,r,rfl,h⟩
theorem jyi_ {wi:TI}{g:TG}{tb:TS} (h:wi σ H fun J H1=>∃ W:Nat->Nat->St->Hp->Prop,(∃ m,W 0 m σ H1)/\∀ i m σ H,W i m σ H ->
 (J.stop i H/\D.nx σ H)∨(J.go i H/\∃ N:St->Hp->Prop,(∀ σ' H',N σ' H'->∃ m',m' < m/\W (i+1) m' σ' H')/\∀ x H',J.yld i H x H'->g x σ H' fun σ2 H2=>tb { D with nx:=N,ct:=N,bk:=D.nx } σ2 H2)):tFor wi g tb D σ H:=h
theorem jze_ {i:Nat}{v:V}(e:σ[i]?=some (some v))(h:Q v H):tVar i σ H Q:=⟨v,e,h⟩
theorem i_c {v:V}(h:Q v H):tC v σ H Q:=h
theorem i_op {r:R2}{ta tb:TE}(h:ta σ H fun x H1=>tb σ H1 fun y H2=>r x y H2 Q):tOp r ta tb σ H Q:=h
theorem i_un {r:V->Hp->VK->Prop}{ta:TE}(h:ta σ H fun x H1=>r x H1 Q):tUn r ta σ H Q:=h
theorem jvi_ {t:TE}(h:t σ H fun x H'=>∃ k,x=.bl k/\QB k H'):jnw_ t σ H QB:=h
theorem i_bl {b:Bool}{P:Bool->Prop}(h:P b):∃ k,V.bl b=.bl k/\P k:=⟨b,rfl,h⟩
theorem jyy_ {t u:TT}(h:t σ H fun c H1=>if c=true then u σ H1 QB else QB false H1):tAnd t u σ H QB:=h
theorem i_or {t u:TT}(h:t σ H fun c H1=>if c=true then QB true H1 else u σ H1 QB):tOr t u σ H QB:=h
theorem jyr_ {t:TT}(h:t σ H fun c H1=>QB (!c) H1):tNot t σ H QB:=h
theorem jyj_ {t:TT}{ta tb:TE}(h:t σ H fun c H1=>if c=true then ta σ H1 Q else tb σ H1 Q):tIf t ta tb σ H Q:=h
theorem jtw_ {r r':R2}{ta tb tc:TE}(h:ta σ H fun x H1=>tb σ H1 fun y H2=>r x y H2 fun z H3=>∃ k,z=.bl k/\(if k=true then tc σ H3 fun w' H4=>r' y w' H4 Q else Q (.bl false) H3)):jrk_ r r' ta tb tc σ H Q:=h
theorem jza_ (h:QA [] H):tNil σ H QA:=h
theorem jxu_ {ta:TE}{tr:TA}(h:ta σ H fun x H1=>tr σ H1 fun xs H2=>QA (x::xs) H2):jvd_ ta tr σ H QA:=h
theorem i_cb {r:List V->Hp->VK->Prop}{t:TA}(h:t σ H fun vs H1=>r vs H1 Q):tCB r t σ H Q:=h
theorem jxx_ {sp:Sp}{dvs:List V}{E:XK}{t:TA}(h:t σ H fun vs H1=>sp (vs++dvs) H1 Q E):jsa_ sp dvs E t σ H Q:=h
theorem jyh_ {t:TA}(h:t σ H fun xs H1=>xs.length<=sizeLine/\∀ p,H1 p=none->Q (.ref p) (upd H1 p (.lst xs))):tLst t σ H Q:=h
theorem jzj_ {t:TA}(h:t σ H fun xs H1=>xs.length<=sizeLine/\∀ p,H1 p=none->Q (.ref p) (upd H1 p (.tup xs))):tTup t σ H Q:=h
theorem i_bm {K:pc_}{T:String}{r:V->List V->Hp->VK->Prop}{to:TE}{t:TA}(h:to σ H fun x H1=>tyV K T x H1/\t σ H1 fun xs H2=>r x xs H2 Q):tBM K T r to t σ H Q:=h
theorem jyn_ {K:pc_}{T:String}{r:V->List V->Hp->VK->Prop}{to:TE}(h:to σ H fun x H1=>tyV K T x H1/\r x [] H1 Q):tBM0 K T r to σ H Q:=h
theorem i_sl {r:V->Option Int->Option Int->Hp->VK->Prop}{te:TE}{tl th:TO}(h:te σ H fun x H1=>tl σ H1 fun l H2=>th σ H2 fun u H3=>r x l u H3 Q):tSl r te tl th σ H Q:=h
theorem jrf_ {K:Option Int->Hp->Prop}(h:K none H):jlg_ σ H K:=h
theorem jxs_ {t:TE}{K:Option Int->Hp->Prop}(h:t σ H fun x H1=>∃ i,x=.int i/\K (some i) H1):juu_ t σ H K:=h
theorem jye_ {i:Int}{P:Int->Prop}(h:P i):∃ k,V.int i=.int k/\P k:=⟨i,rfl,h⟩
theorem jxw_ {ix:List (Option Nat)}{wi:TI}{g:TG}{tc:TT}{te:TE}(h:wi σ H fun J H1=>∀ p,H1 p=none->yp_ J p g tc te Q (pick ix σ) (upd H1 p (.lst []))):jdu_ ix wi g tc te σ H Q:=h
theorem jwy_ (h:QB true H):jup_ σ H QB:=h
theorem jwz_ {ta:TA}{R:It->Hp->Prop}(h:ta σ H fun vs H1=>∃ j:Int,vs=[.int j]/\-(2 ^ 62)<=j/\j < 2 ^ 62/\R (Itr 0 j.toNat) H1):jvb_ ta σ H R:=h
theorem p62:((2:Int) ^ 62)=4611686018427387904:=by decide
theorem p63:((2:Int) ^ 63)=9223372036854775808:=by decide
theorem i_r1 {j:Int}{P:Int->Prop}(h1:-1000000000<=j/\j<=1000000000)(h:P j):∃ k:Int,[V.int j]=[.int k]/\-(2 ^ 62)<=k/\k < 2 ^ 62/\P k:=⟨j,rfl,by rw[p62];omega,by rw[p62];omega,h⟩
theorem jwr_ {ta:TA}{R:It->Hp->Prop}(h:ta σ H fun vs H1=>∃ i j:Int,vs=[.int i,.int j]/\(-(2 ^ 62)<=i/\i < 2 ^ 62/\-(2 ^ 62)<=j/\j < 2 ^ 62)/\R (Itr i (j - i).toNat) H1):juj_ ta σ H R:=h
theorem i_r2 {i j:Int}{P:Int->Int->Prop}(h1:-1000000000<=i/\i<=1000000000/\-1000000000<=j/\j<=1000000000)(h:P i j):∃ a b:Int,[V.int i,V.int j]=[.int a,.int b]/\(-(2 ^ 62)<=a/\a < 2 ^ 62/\-(2 ^ 62)<=b/\b < 2 ^ 62)/\P a b:=⟨i,j,rfl,by rw[p62];omega,h⟩
theorem jys_ {K:pc_}{te:TE}{R:It->Hp->Prop}(h:te σ H (jdp_ K R)):iAny K te σ H R:=h
theorem jwo_ {K:pc_}{R:It->Hp->Prop}{z:Str}(h:R (Its (chs z)) H):jdp_ K R (.str z) H:=h
theorem jiu_ {K:pc_}{R:It->Hp->Prop}{a:Addr}{xs:List V}(h1:SqL K H a xs)(h:R (Itl K a) H):jdp_ K R (.ref a) H:=.inl ⟨xs,h1,h⟩
theorem jwh_ {K:pc_}{R:It->Hp->Prop}{a:Addr}{xs:List V}(h1:SqT K H a xs)(h:R (Itt K a) H):jdp_ K R (.ref a) H:=.inr ⟨xs,h1,h⟩
theorem jyd_ {K:pc_}{z:Str}{R:Prop}(h:R):tyV K "str" (.str z) H/\R:=⟨rfl,h⟩
theorem jyx_ {K:pc_}{p:Addr}{xs:List V}{R:Prop}(h1:SqL K H p xs)(h:R):tyV K "list" (.ref p) H/\R:=⟨.inl ⟨rfl,xs,h1⟩,h⟩
theorem jzc_ {g:Int->Int->V}{i j:Int}(h:Q (g i j) H):fI0 g (.int i) (.int j) H Q:=h
theorem i_fI {C:Int->Int->Prop}{g:Int->Int->V}{i j:Int}(c:C i j)(h:Q (g i j) H):fI C g (.int i) (.int j) H Q:=⟨c,h⟩
theorem jwd_ {i j:Int}(h:Q (.int (i+j)) H):fAdd (.int i) (.int j) H Q:=h
theorem jre_ {i j:Str}(c:i.length+j.length<=sizeLine)(h:Q (.str (i++j)) H):fAdd (.str i) (.str j) H Q:=⟨c,h⟩
theorem yh_ {a b:Addr}{xs ys:List V}(h1:H a=some (.lst xs))(h2:H b=some (.lst ys))(c:xs.length+ys.length<=sizeLine)(h:∀ p,H p=none->Q (.ref p) (upd H p (.lst (xs++ys)))):fAdd (.ref a) (.ref b) H Q:=by
 show (match H a,H b with | some (.lst xs),some (.lst ys)=>_ | some (.tup xs),some (.tup ys)=>_ | _,_=>_)
 rw[h1,h2];exact⟨c,h⟩
theorem jbp_ {i j:Int}(c:CMul i j)(h:Q (.int (i * j)) H):fMul (.int i) (.int j) H Q:=⟨c,h⟩
theorem jvv_ {a:Addr}{xs:List V}{k:Int}(h1:H a=some (.lst xs))(c:-1000000000<=k/\k<=1000000000/\xs.length * k.toNat<=1000000)(h:∀ p,H p=none->Q (.ref p) (upd H p (.lst (pr_ k.toNat xs).flatten))):fMul (.ref a) (.int k) H Q:=by
 show (match H a with | some (.lst xs)=>_ | _=>_)
 rw[h1];exact⟨by rw[p63];omega,by rw[p63];omega,qe_ c.2.2 (by decide),h⟩
theorem jux_ {K:pc_}{p:Addr}{i:Int}{xs:List V}{v:V}(h1:SqL K H p xs)(h2:atI xs i=some v)(h:Q v H):fIx K (.ref p) (.int i) H Q:=⟨xs,v,.inl h1,h2,h⟩
theorem xa_ {K:pc_}{p:Addr}{i:Int}{xs:List V}{v:V}(h1:seqR H p=some xs)(h2:atI xs i=some v)(h:Q v H):fIx K (.ref p) (.int i) H Q:=⟨xs,v,vn_ h1,h2,h⟩
theorem y6_ {K:pc_}{z:Str}{i:Int}{c:Nat}(hz:z.length<=sizeLine)(h2:atI z.cps.toList i=some c)(h:Q (.str ⟨#[c]⟩) H):fIx K (.str z) (.int i) H Q:=by
 refine⟨hz,?_⟩
 rw[h2];exact h
theorem y4_ {p:Addr}{k:Int}{v:V}{xs:List V}{j:Nat}{K:Hp->Prop}(h1:H p=some (.lst xs))(h2:ixN xs.length k=some j)(h:K (upd H p (.lst (xs.set j v)))):fSet (.ref p) (.int k) v H K:=by
 show (match H p with | some (.lst xs)=>(match ixN xs.length k with | some j=>K (upd H p (.lst (xs.set j v))) | none=>False) | _=>False)
 rw[h1];dsimp only;rw[h2];exact h
theorem jzf_ {i:Int}(h:Q (.int (-i)) H):fNeg (.int i) H Q:=h
theorem i_eq {x y:V}(c:scal x y=true)(h:Q (.bl (decide (x=y))) H):fEq x y H Q:=.inl ⟨c,h⟩
theorem i_ne {x y:V}(c:scal x y=true)(h:Q (.bl (!decide (x=y))) H):fNe x y H Q:=.inl ⟨c,h⟩
theorem jrz_ {x y:V}{d:Dt}(h1:Is H x d)(h2:Is H y d)(c:okD d)(h:Q (.bl false) H):fNe x y H Q:=.inr ⟨d,d,h1,h2,c,c,by rw[jgd_ c];exact h⟩
theorem jun_ {x y:V}{d e:Dt}(h1:Is H x d)(h2:Is H y e)(c:okD d)(c2:okD e)(h:Q (.bl (!eqD d e)) H):fNe x y H Q:=.inr ⟨d,e,h1,h2,c,c2,h⟩
theorem i_is {x:V}(h:Q (.bl (decide (x=.non))) H):fIs x .non H Q:=⟨rfl,h⟩
theorem jte_ {x:V}(h:Q (.bl (!decide (x=.non))) H):jri_ x .non H Q:=⟨rfl,h⟩
theorem jzl_ {neg:Bool}{i j:Str}(h:Q (.bl (xor neg (t5_ j i))) H):fIn neg (.str i) (.str j) H Q:=h
theorem jli_ {neg:Bool}{x:V}{p:Addr}{xs:List V}(h1:seqR H p=some xs)(c:xi_ x=true/\xs.all xi_=true)(h:Q (.bl (if neg then !inV x xs else inV x xs)) H):fIn neg x (.ref p) H Q:=by
 unfold fIn
 cases x <;> (dsimp only;rw[h1];exact⟨c.1,c.2,h⟩)
theorem joh_ {K:pc_}{z:Str}(hz:z.length<=sizeLine)(h:Q (.int z.length) H):fLen K [.str z] H Q:=⟨hz,h⟩
theorem jwv_ {K:pc_}{p:Addr}{xs:List V}(h1:SqL K H p xs)(h:Q (.int xs.length) H):fLen K [.ref p] H Q:=⟨xs,.inl h1,h⟩
theorem jvh_ {K:pc_}{p:Addr}{xs:List V}(h1:seqR H p=some xs)(h:Q (.int xs.length) H):fLen K [.ref p] H Q:=⟨xs,vn_ h1,h⟩
theorem i_2I {g:Int->Int->V}{i j:Int}(h:Q (g i j) H):f2I g [.int i,.int j] H Q:=h
theorem jxk_ {b:Bool}(h:Q (.int (if b then 1 else 0)) H):fInt [.bl b] H Q:=h
theorem jex_ {p:Addr}{xs:List V}(h1:seqR H p=some xs)(h:∀ q,H q=none->Q (.ref q) (upd H q (.lst xs))):jos_ [.ref p] H Q:=by
 show (match seqR H p with | some ys=>GetL H ys Q | none=>False)
 rw[h1];exact h
theorem za_ {p:Addr}{xs:List V}(h1:seqR H p=some xs)(h:GetT H xs Q):jiq_ [.ref p] H Q:=by
 show (match seqR H p with | some ys=>GetT H ys Q | none=>False)
 rw[h1];exact h
theorem juq_ {K:pc_}{z:Str}{lo hi:Option Int}(hz:z.length<=sizeLine)(h:Q (.str (kw_ z lo hi)) H):fSl K (.str z) lo hi H Q:=⟨hz,h⟩
theorem vq_ {K:pc_}{a:Addr}{xs:List V}{lo hi:Option Int}(h1:SqL K H a xs)(h:∀ q,H q=none->Q (.ref q) (upd H q (.lst (cutV xs lo hi)))):fSl K (.ref a) lo hi H Q:=.inl ⟨xs,h1,h⟩
theorem jva_ {K:pc_}{a:Addr}{xs:List V}{lo hi:Option Int}(h1:H a=some (.tup xs))(c:¬ (HT.sIx xs.length 0 lo=0/\HT.sIx xs.length xs.length hi=xs.length))(h:GetT H (cutV xs lo hi) Q):fSl K (.ref a) lo hi H Q:=.inr ⟨xs,SqT.of h1,c,h⟩
theorem jvx_ {b:Bool}(h:QB b H):fTru (.bl b) H QB:=h
theorem jen_ {l:Addr}{y:V}{xs:List V}(h1:H l=some (.lst xs))(c:xs.length < sizeLine)(h:Q .non (upd H l (.lst (xs++[y])))):jfd_ (.ref l) [y] H Q:=by
 show (match H l with | some (.lst xs)=>xs.length < sizeLine/\Q .non (upd H l (.lst (xs++[y]))) | _=>False)
 rw[h1];exact⟨c,h⟩
theorem jje_ {z:Str}{p:Addr}{ys:List Str}(h1:lstR H p=some (ys.map V.str))(c:(ys.map (·.length)).sum+ys.length * z.length<=16777216)(h:Q (.str (kx_ z ys)) H):jpf_ (.str z) [.ref p] H Q:=by
 show (match lstR H p with | some xs=>(match strs? xs with | some ys=>(ys.map (·.length)).sum+ys.length * z.length<=16777216/\Q (.str (kx_ z ys)) H | none=>False) | none=>False)
 rw[h1];dsimp only;rw[strs?_map];exact⟨c,h⟩
theorem i_SS {g:Str->Str->V}{z y:Str}(h:Q (g z y) H):fSS g (.str z) [.str y] H Q:=h
theorem jeu_ {f:List Bool->Bool}{p:Addr}{bs:List Bool}(h1:lstR H p=some (bs.map V.bl))(h:Q (.bl (f bs)) H):fAll f [.ref p] H Q:=by
 show (match lstR H p with | some ys=>(match bls? ys with | some bs=>Q (.bl (f bs)) H | none=>False) | none=>False)
 rw[h1];dsimp only;rw[bls?_map];exact h
theorem jya_ {x:V}{t T:String}(h1:tyN H x=some t)(c:vx_ T=true)(h:Q (.bl (subB t T)) H):fIsi [x,.ty T] H Q:=by
 show (match tyN H x with | some t=>vx_ T=true/\Q (.bl (subB t T)) H | none=>False)
 rw[h1];exact⟨c,h⟩
end
theorem iteD {c A B:Prop} [Decidable c](h1:c->A)(h2:¬ c->B):if decide c=true then A else B:=by
 by_cases h:c
 ·rw[if_pos (decide_eq_true h)];exact h1 h
 ·rw[if_neg (by rw[decide_eq_false h];exact pi_)];exact h2 h
theorem jlp_ {c A B:Prop} [Decidable c](hc:c)(h:A):if decide c=true then A else B:=by rw[if_pos (decide_eq_true hc)];exact h
theorem jce_ {c A B:Prop} [Decidable c](hc:¬ c)(h:B):if decide c=true then A else B:=by rw[if_neg (by rw[decide_eq_false hc];exact pi_)];exact h
theorem jlu_ {b:Bool}{A B:Prop}(h:b=true)(hA:A):if b=true then A else B:=by rw[if_pos h];exact hA
theorem jrw_ {b:Bool}{A B:Prop}(h:b=false)(hB:B):if b=true then A else B:=by rw[h];exact iteF hB
theorem szc {xs:List V}(h:decide (xs.length<=1000)=true):xs.length<=sizeLine:=qe_ (of_decide_eq_true h) (by decide)
theorem szn {n:Nat}(h:n<=1000000):n<=sizeLine:=qe_ h (by decide)
theorem i_sz {xs:List V}{R:Prop}(h:xs.length<=sizeLine)(r:R):xs.length<=sizeLine/\R:=⟨h,r⟩
theorem jsn_ {H:Hp}{a:Addr}{xs:List V}(h:H a=some (.tup xs)):tyN H (.ref a)=some "tuple":=by
 show (match H a with | some (.lst _)=>some "list" | some (.frz _ (.lst _))=>some "list" | some (.tup _)=>some "tuple" | _=>none)=_
 rw[h]
theorem jsp_ {H:Hp}{a:Addr}{xs:List V}(h:H a=some (.lst xs)):tyN H (.ref a)=some "list":=by
 show (match H a with | some (.lst _)=>some "list" | some (.frz _ (.lst _))=>some "list" | some (.tup _)=>some "tuple" | _=>none)=_
 rw[h]
theorem jc_ {H:Hp}{p:Addr}(h:H p=none)(o:HO):Same H (upd H p o):=fun b u q=>by rw[ji_ (j3_ q h)];exact q
theorem iteB {b:Bool}{A B:Prop}(h1:b=true->A)(h2:b=false->B):if b=true then A else B:=by
 cases b
 ·exact iteF (h2 rfl)
 ·exact iteT (h1 rfl)
theorem juv_ {α:Type}(x:α)(xs:List α):atI (x::xs) 0=some x:=us_ (xs:=x::xs) (j:=0) (v:=x) rfl
theorem jzd_ {α:Type}(x y:α)(xs:List α):atI (x::y::xs) 1=some y:=us_ (xs:=x::y::xs) (j:=1) (v:=y) rfl
theorem jyo_ {α:Type}(x y z:α)(xs:List α):atI (x::y::z::xs) 2=some z:=us_ (xs:=x::y::z::xs) (j:=2) (v:=z) rfl
theorem jzi_ {α:Type}(x y z u:α)(xs:List α):atI (x::y::z::u::xs) 3=some u:=us_ (xs:=x::y::z::u::xs) (j:=3) (v:=u) rfl
theorem jvk_ {n:Nat}{i:Int}(h:0<=i)(h2:i < n):ixN n i=some i.toNat:=by
 unfold ixN;rw[if_pos h,if_pos h2]
theorem jow_ {H:Hp}{p:Addr}{xs:List V}:seqR (upd H p (.lst xs)) p=some xs:=jr_ jb_
theorem jpe_ {H:Hp}{p:Addr}{xs:List V}:lstR (upd H p (.lst xs)) p=some xs:=ym_ jb_
theorem jnb_ {H:Hp}{p:Addr}{xs:List V}:seqR (upd H p (.tup xs)) p=some xs:=yi_ jb_
theorem zg_ {α:Type}{xs:List α}{i:Int}{v:α}(h:0<=i)(h2:xs[i.toNat]?=some v):atI xs i=some v:=by
 have e:i=((i.toNat:Nat):Int):=by omega
 rw[e];exact us_ h2
theorem CMul.l {i j:Int}(h1:-(2 ^ 64) < i)(h2:i < 2 ^ 64):CMul i j:=.inl ⟨h1,h2⟩
theorem CMul.r {i j:Int}(h1:-(2 ^ 64) < j)(h2:j < 2 ^ 64):CMul i j:=.inr ⟨h1,h2⟩
end L2
namespace L2
noncomputable def xx_ (sep:List Nat):List (List Nat)->List Nat
 | []=>[]
 | [x]=>x
 | x::y::r=>x++sep++xx_ sep (y::r)
theorem jdq_:∀ ls:List (List Nat),xx_ [] ls=ls.flatten
 | []=>rfl
 | [x]=>by simp[xx_]
 | x::y::r=>by
  have:=jdq_ (y::r)
  simp only[xx_,this,qq_,rm_]
noncomputable def jkk_ (c:Nat):Bool:=decide (97<=c/\c<=122)
def Low (l:List Nat):Prop:=∀ c∈l,jkk_ c=true
structure RS where
 w:List Nat
 g:List Nat
 lacks:Bool
end L2
namespace L2
open PySem PySem.Builtin PySem.Builtin.Str
noncomputable def S (l:List Nat):Str:=⟨l.toArray⟩
theorem x2_ (l:List Nat):(S l).cps.toList=l:=rfl
theorem js_ (l:List Nat):(S l).length=l.length:=by show l.toArray.size=_;simp
theorem jbx_ (a b:List Nat):S a++S b=S (a++b):=by
 show (⟨a.toArray++b.toArray⟩:Str)=⟨(a++b).toArray⟩
 rw[List.append_toArray]
theorem jlo_ {a b:List Nat}(h:S a=S b):a=b:=by
 have:=congrArg (fun z:Str=>z.cps.toList) h
 exact this
noncomputable def sx (n d:Nat):Option Int->Nat
 | none=>d
 | some v=>if v < 0 then (v+(n:Int)).toNat else min v.toNat n
noncomputable def cutA {α:Type}(l:List α)(lo hi:Option Int):List α:=(l.drop (sx l.length 0 lo)).take (sx l.length l.length hi - sx l.length 0 lo)
theorem jqf_ (n d:Nat)(hd:d<=n)(o:Option Int):sx n d o<=n:=by
 cases o with
 | none=>exact hd
 | some v=>simp only[sx];split <;> omega
theorem jst_ (lo hi:Option Int)(n:Nat):strSliceIndices lo hi 1 n=(pu_ (sx n n hi - sx n 0 lo)).map (sx n 0 lo+·):=by
 have key:∀(a c:Nat),sliceRange (a:Int) (c:Int) 1=(pu_ (c - a)).map (a+·):=fun a c=>by
  unfold sliceRange
  have e:(if (1:Int) > 0 then (if (a:Int) < (c:Int) then ((c:Int) - a+1 - 1) / 1 else 0) else (if (a:Int) > (c:Int) then ((a:Int) - c - 1 - 1) / (-1) else 0)).toNat=c - a:=by
   rw[if_pos (by decide)]
   split
   ·rw[Int.ediv_one];omega
   ·omega
  simp only[e]
  apply sc_
  intro k _
  omega
 have cl:∀ v:Int,max 0 (min (if v < 0 then v+(n:Int) else v) (n:Int))=(((if v < 0 then (v+(n:Int)).toNat else min v.toNat n):Nat):Int):=fun v=>by
  by_cases hv:v < 0
  ·simp only[if_pos hv];omega
  ·simp only[if_neg hv];omega
 unfold strSliceIndices
 have h1:((1:Int) > 0)=True:=by simp
 cases lo with
 | none =>
  cases hi with
  | none=>simp only[h1,if_true];exact key 0 n
  | some v=>simp only[h1,if_true,cl];exact key 0 _
 | some u =>
  cases hi with
  | none=>simp only[h1,if_true,cl];exact key _ n
  | some v=>simp only[h1,if_true,cl];exact key _ _
theorem jur_ (l:List Nat):∀(m a:Nat),a+m<=l.length->((pu_ m).map (a+·)).filterMap (l.toArray[·]?)=(l.drop a).take m
 | 0,a,_=>by simp
 | m+1,a,h=>by
  have ha:a < l.length:=by omega
  rw[List.range_succ_eq_map,pp_,su_,q1_]
  have e:((a+·)∘Nat.succ)=((a+1)+·):=by funext k;simp;omega
  have:=jur_ l m (a+1) (by omega)
  rw[e,this,t9_ ha,tu_]
  simp[ha]
theorem jmw_ (l:List Nat)(lo hi:Option Int) :
  (if ((1:Int) == 1&&(strSliceIndices lo hi 1 (S l).length).length == (S l).length)=true then S l else ⟨((strSliceIndices lo hi 1 (S l).length).filterMap ((S l).cps[·]?)).toArray⟩:Str)=S (cutA l lo hi):=by
 have h1:=jqf_ l.length l.length (po_ _) hi
 have h2:=jqf_ l.length 0 (qz_ _) lo
 rw[js_,jst_]
 unfold cutA
 generalize sx l.length l.length hi=c at *
 generalize sx l.length 0 lo=a at *
 split
 ·rename_i hc
  simp only[pb_,sn_,beq_self_eq_true,Bool.true_and,beq_iff_eq] at hc
  by_cases h0:l.length=0
  ·have:l=[]:=List.length_eq_zero_iff.mp h0
   subst this;simp
  ·have ha:a=0:=by omega
   have hc':c=l.length:=by omega
   subst ha hc'
   simp
 ·by_cases hac:a<=c
  ·show S _=S _
   congr 1
   exact jur_ l _ a (by omega)
  ·have:c - a=0:=by omega
   rw[this]
   simp[S]
noncomputable def fits (p l:List Nat)(i:Nat):Bool:=decide (i+p.length<=l.length)&&((l.drop i).take p.length == p)
theorem jua_ (l p:List Nat)(i:Nat):subAt (S l) (S p) i=((l.drop i).take p.length == p):=by
 rw[StrLaws.subAt_eq,js_];rfl
theorem juk_ (sep:List Nat):∀ ls:List (List Nat),Str.join (S sep) (ls.map S)=S (xx_ sep ls)
 | []=>rfl
 | [x]=>rfl
 | x::y::r=>by
  have ih:=juk_ sep (y::r)
  show S x++S sep++Str.join (S sep) ((y::r).map S)=_
  rw[ih,jbx_,jbx_]
  rfl
theorem jts_ (big:List Nat)(c:Nat):(!(occurrences (S big) (S [c]) 0 (S big).length 1).isEmpty)=decide (c∈big):=by
 have:=StrLaws.found_one (S big) c
 exact this
end L2
namespace L2
open PySem PySem.Spec PyProof.Rows
noncomputable def LET:Str:=S [97,98,99,100,101,102,103,104,105,106,107,108,109,110,111,112,113,114,115,116,117,118,119,120,121,122]
theorem jvz_:re_ "abcdefghijklmnopqrstuvwxyz"=LET:=by decide +kernel
end L2
namespace L2
open PySem PySem.Spec PyProof.Rows
end L2
namespace L2
open PySem PySem.Spec PyProof.Rows
theorem jto_ (l:List Nat)(lo hi:Option Int):kw_ (S l) lo hi=S (cutA l lo hi):=jmw_ l lo hi
theorem jqq_ (sep:List Nat)(ls:List (List Nat)):kx_ (S sep) (ls.map S)=S (xx_ sep ls):=by
 show Builtin.Str.glued (S sep) (ls.map S)=_
 rw[StrLaws.glued_eq_join,juk_]
theorem v7_ (big:List Nat)(c:Nat):t5_ (S big) (S [c])=decide (c∈big):=jts_ big c
theorem jym_ (l:List Nat):chs (S l)=l.map fun c=>V.str (S [c]):=rfl
theorem jao_ {l:List Nat}{i:Nat}(h:i < l.length):(chs (S l)).getD i .non=V.str (S [l[i]]):=by
 rw[jym_];simp[pf_,h]
theorem jcx_ {α:Type}(l:List α)(i j:Nat)(h:j<=l.length)(hij:i<=j):cutA l (some (i:Int)) (some (j:Int))=(l.drop i).take (j - i):=by
 unfold cutA
 have e1:sx l.length 0 (some (i:Int))=i:=by simp only[sx];rw[if_neg (by omega)];omega
 have e2:sx l.length l.length (some (j:Int))=j:=by simp only[sx];rw[if_neg (by omega)];omega
 rw[e1,e2]
theorem va_ {α:Type}(l:List α)(i:Nat)(h:i<=l.length):cutA l (some (i:Int)) none=l.drop i:=by
 unfold cutA
 have e1:sx l.length 0 (some (i:Int))=i:=by simp only[sx];rw[if_neg (by omega)];omega
 rw[e1]
 show (l.drop i).take (l.length - i)=_
 rw[rr_ (by simp)]
theorem xq_ (xs:List V)(lo hi:Option Int):cutV xs lo hi=cutA xs lo hi:=rfl
theorem juf_ {l:List Nat}(h:Low l)(lo hi:Option Int):Low (cutA l lo hi):=fun c hc=>h c (rc_ (ql_ hc))
theorem vy_ {a b:List Nat}(ha:Low a)(hb:Low b):Low (a++b):=fun c hc=>(pe_.mp hc).elim (ha c) (hb c)
theorem yk_ {α:Type}(l:List α)(lo hi:Option Int):(cutA l lo hi).length=sx l.length l.length hi - sx l.length 0 lo:=by
 have h1:=jqf_ l.length l.length (po_ _) hi
 unfold cutA
 rw[p2_,qh_]
 omega
noncomputable def LETL:List Nat:=[97,98,99,100,101,102,103,104,105,106,107,108,109,110,111,112,113,114,115,116,117,118,119,120,121,122]
theorem jon_:Low LETL:=by unfold Low;decide
theorem jpp_:re_ "abcdefghijklmnopqrstuvwxyz"=S LETL:=jvz_
theorem xc_:re_ ""=S []:=by decide +kernel
theorem jaa_:re_ "."=S [46]:=by decide +kernel
theorem jbv_ (ws:List Nat):kx_ (S []) (ws.map fun c=>S [c])=S ws:=by
 have e:(ws.map fun c=>S [c])=(ws.map fun c=>[c]).map S:=by rw[q1_];rfl
 rw[e,jqq_,jdq_]
 congr 1
 clear e
 induction ws with
 | nil=>rfl
 | cons c ws ih=>simp only[pp_,rm_];rw[ih];rfl
theorem jko_ (ws:List Nat):((ws.map fun c=>S [c]).map (·.length)).sum=ws.length:=by
 induction ws with
 | nil=>rfl
 | cons c ws ih=>simp only[pp_,List.sum_cons,ps_,js_,qm_];rw[q1_] at ih ⊢;omega
theorem jlb_ (ws:List Nat):(ws.map fun c=>V.str (S [c]))=(ws.map fun c=>S [c]).map V.str:=by rw[q1_];rfl
theorem jvu_ {H:Hp}{Q:VK}{a b:List Nat}(hz:a.length+b.length<=1000000)(h:Q (.str (S (a++b))) H):fAdd (.str (S a)) (.str (S b)) H Q:=jre_ (szn (by rw[js_,js_];exact hz)) (by rw[jbx_];exact h)
theorem jzb_ {K:pc_}{H:Hp}{Q:VK}{l:List Nat}{lo hi:Option Int}(hz:l.length<=1000000)(h:Q (.str (S (cutA l lo hi))) H):fSl K (.str (S l)) lo hi H Q:=juq_ (szn (by rw[js_];exact hz)) (by rw[jto_];exact h)
theorem jxi_ {K:pc_}{H:Hp}{Q:VK}{l:List Nat}(hz:l.length<=1000000)(h:Q (.int (l.length:Int)) H):fLen K [.str (S l)] H Q:=joh_ (szn (by rw[js_];exact hz)) (by rw[js_];exact h)
theorem jia_ {H:Hp}{Q:VK}{a:Addr}{x:V}{k:Int}(h1:H a=some (.lst [x]))(c:0<=k/\k<=1000000)(h:∀ p,H p=none->Q (.ref p) (upd H p (.lst (pr_ k.toNat x)))):fMul (.ref a) (.int k) H Q:=by
 refine jvv_ h1 ⟨by omega,by omega,by simp;omega⟩ fun p hp=>?_
 have e:(pr_ k.toNat [x]).flatten=pr_ k.toNat x:=by
  generalize k.toNat=m
  induction m with
  | zero=>rfl
  | succ m ih=>rw[ro_,rm_,ih];rfl
 rw[e];exact h p hp
theorem y2_ {α β:Type}(g:α->β)(l:List α)(lo hi:Option Int):cutA (l.map g) lo hi=(cutA l lo hi).map g:=by
 unfold cutA
 rw[pb_,tn_,kz_]
noncomputable def patD (x:List Nat×List Int):Dt:=.tup [.str (S x.1),.tup (x.2.map Dt.int)]
noncomputable def x3_ (xs:List (List Nat×List Int)):Dt:=.lst (xs.map patD)
structure GP (x:List Nat×List Int):Prop where
 ne:1<=x.1.length
 le:x.1.length<=22
 len:x.2.length=x.1.length+1
 num:∀ v∈x.2,0<=v/\v<=9
 cs:∀ c∈x.1,c < 128
theorem jcz_ {H:Hp}:∀{g:List Int}{xs:List V},L2.IsL H xs (g.map Dt.int)->xs=g.map V.int
 | [],[],_=>rfl
 | [],_::_,h=>by simp only[p7_,L2.IsL] at h
 | _::_,[],h=>by simp only[pp_,L2.IsL] at h
 | k::g,x::xs,h=>by
  simp only[pp_,L2.IsL,Is] at h
  rw[h.1,jcz_ h.2];rfl
theorem vt_ {H:Hp}{v:V}{x:List Nat×List Int}(h:Is H v (patD x)):∃ a t,v=.ref a/\H a=some (.tup [.str (S x.1),.ref t])/\H t=some (.tup (x.2.map V.int)):=by
 simp only[Is,patD] at h
 obtain⟨a,xs,rfl,ha,hxs⟩:=h
 match xs,hxs with
 | [],h=>simp only[L2.IsL] at h
 | [_],h=>simp only[L2.IsL] at h;exact h.2.elim
 | _::_::_::_,h=>simp only[L2.IsL] at h;exact h.2.2.elim
 | [y,z],h =>
  simp only[L2.IsL,Is] at h
  obtain⟨rfl,⟨t,ys,rfl,ht,hys⟩,_⟩:=h
  have:=jcz_ hys
  subst this
  exact⟨a,t,rfl,ha,ht⟩
theorem yy_ {H:Hp}{a t:Addr}{x:List Nat×List Int}(h1:H a=some (.tup [.str (S x.1),.ref t]))(h2:H t=some (.tup (x.2.map V.int))):Is H (.ref a) (patD x):=by
 simp only[Is,patD,L2.IsL]
 exact⟨a,_,rfl,h1,rfl,⟨t,_,rfl,h2,IsL.ints _ _⟩,trivial⟩
theorem jfk_ {H:Hp}{v:V}{xs:List (List Nat×List Int)}(h:Is H v (x3_ xs)):∃ a ys,v=.ref a/\H a=some (.lst ys)/\L2.IsL H ys (xs.map patD):=by
 simp only[Is,x3_] at h
 exact h
theorem IsL.append {H:Hp}:∀{ds es:List Dt}{xs ys:List V},L2.IsL H xs ds->L2.IsL H ys es->L2.IsL H (xs++ys) (ds++es)
 | [],_,[],_,_,h=>h
 | d::ds,es,x::xs,ys,h,k=>by
  simp only[L2.IsL] at h
  simp only[ss_,L2.IsL]
  exact⟨h.1,IsL.append h.2 k⟩
 | [],_,_::_,_,h,_=>by simp only[L2.IsL] at h
 | _::_,_,[],_,h,_=>by simp only[L2.IsL] at h
end L2
namespace L2
noncomputable abbrev Pat:=List Nat×List Int
noncomputable def mx (a b:Int):Int:=if b > a then b else a
theorem mx_le {a b c:Int}:mx a b<=c↔a<=c/\b<=c:=by unfold mx;split <;> omega
theorem mx_l (a b:Int):a<=mx a b:=by unfold mx;split <;> omega
theorem mx_r (a b:Int):b<=mx a b:=by unfold mx;split <;> omega
noncomputable def put (t:List Int)(p:Nat)(v:Int):List Int:=t.set p (mx (t.getD p 0) v)
noncomputable def laid (t:List Int)(b:Nat):List Int->List Int
 | []=>t
 | v::r=>laid (put t b v) (b+1) r
noncomputable def xu_ (m:Int)(p b:Nat):List Int->Int
 | []=>m
 | v::r=>xu_ (if b=p then mx m v else m) p (b+1) r
noncomputable def xb_ (p f:List Nat):List Nat:=(pu_ f.length).filter (fits p f)
noncomputable def numP (f:List Nat)(p:Nat)(m:Int)(x:Pat):Int:=(xb_ x.1 f).foldl (fun m b=>xu_ m p b x.2) m
noncomputable def numA (f:List Nat)(p:Nat)(m:Int)(xs:List Pat):Int:=xs.foldl (numP f p) m
noncomputable def frame (w:List Nat):List Nat:=46::(w++[46])
theorem ud_ (w:List Nat):(frame w).length=w.length+2:=by simp[frame]
noncomputable def vals (xs:List Pat)(w:List Nat):List Int:=(pu_ (w.length - 1)).map fun j=>numA (frame w) (j+2) 0 xs
theorem v9_ (p:Nat):∀(ns:List Int) (m:Int) (b:Nat),xu_ m p b ns=if b<=p/\p < b+ns.length then mx m (ns.getD (p - b) 0) else m
 | [],m,b=>by
  simp only[xu_,qm_]
  rw[if_neg (by omega)]
 | v::r,m,b=>by
  simp only[xu_,ps_]
  rw[v9_ p r]
  by_cases e:b=p
  ·subst e
   rw[if_pos rfl,if_neg (by omega),if_pos (by omega),k8_];rfl
  ·rw[if_neg e]
   by_cases h:b+1<=p/\p < b+1+r.length
   ·have:p - b=(p - (b+1))+1:=by omega
    rw[if_pos h,if_pos (by omega),this];rfl
   ·rw[if_neg h,if_neg (by omega)]
def juw_ (f:List Nat)(p:Nat)(xs:List Pat)(v:Int):Prop:=∃ x∈xs,∃ b∈xb_ x.1 f,b<=p/\p < b+x.2.length/\v=x.2.getD (p - b) 0
theorem jtj_ (f:List Nat)(p:Nat)(x:Pat)(m c:Int):numP f p m x<=c↔m<=c/\∀ b∈xb_ x.1 f,b<=p->p < b+x.2.length->x.2.getD (p - b) 0<=c:=by
 unfold numP
 generalize xb_ x.1 f=bs
 induction bs generalizing m with
 | nil=>simp
 | cons b bs ih =>
  simp only[w6_]
  rw[ih,v9_]
  constructor
  ·rintro⟨h1,h2⟩
   split at h1
   ·rename_i hc
    have:=mx_le.mp h1
    refine⟨this.1,fun b' hb' k1 k2=>?_⟩
    rcases p0_.mp hb' with rfl | hb'
    ·exact this.2
    ·exact h2 b' hb' k1 k2
   ·rename_i hc
    refine⟨h1,fun b' hb' k1 k2=>?_⟩
    rcases p0_.mp hb' with rfl | hb'
    ·exact absurd ⟨k1,k2⟩ hc
    ·exact h2 b' hb' k1 k2
  ·rintro⟨h1,h2⟩
   refine⟨?_,fun b' hb'=>h2 b' (pj_ _ hb')⟩
   split
   ·rename_i hc
    exact mx_le.mpr ⟨h1,h2 b pm_ hc.1 hc.2⟩
   ·exact h1
theorem xf_ (f:List Nat)(p:Nat):∀(xs:List Pat) (m c:Int),numA f p m xs<=c↔m<=c/\∀ v,juw_ f p xs v->v<=c
 | [],m,c=>by
  show m<=c↔_
  constructor
  ·exact fun h=>⟨h,fun v ⟨x,hx,_⟩=>by cases hx⟩
  ·exact fun h=>h.1
 | x::xs,m,c=>by
  show numA f p (numP f p m x) xs<=c↔_
  rw[xf_ f p xs,jtj_]
  constructor
  ·rintro⟨⟨h1,h2⟩,h3⟩
   refine⟨h1,fun v ⟨y,hy,b,hb,k1,k2,e⟩=>?_⟩
   rcases p0_.mp hy with rfl | hy
   ·rw[e];exact h2 b hb k1 k2
   ·exact h3 v ⟨y,hy,b,hb,k1,k2,e⟩
  ·rintro⟨h1,h2⟩
   exact⟨⟨h1,fun b hb k1 k2=>h2 _ ⟨x,pm_,b,hb,k1,k2,rfl⟩⟩,fun v ⟨y,hy,r⟩=>h2 v ⟨y,pj_ _ hy,r⟩⟩
theorem uk_ {f:List Nat}{p:Nat}{xs:List Pat}{m v:Int}(h:juw_ f p xs v):v<=numA f p m xs:=((xf_ f p xs m _).mp (sx_ _)).2 v h
theorem x7_ {f:List Nat}{p:Nat}{xs:List Pat}{m:Int}:m<=numA f p m xs:=((xf_ f p xs m _).mp (sx_ _)).1
end L2
namespace L2
open PySem PySem.Spec PyProof.Rows
section
variable {κ:Type} [DecidableEq κ]
noncomputable def valV (kvs:List (κ×V))(k:κ):Option V:=(kvs.find? fun kv=>decide (kv.1=k)).map (·.2)
noncomputable def putK (kvs:List (κ×V))(k:κ)(v:V):List (κ×V) :=
 if (kvs.any fun kv=>decide (kv.1=k))=true then kvs.map (fun kv=>if kv.1=k then (kv.1,v) else kv) else kvs++[(k,v)]
theorem xv_ {p:κ×V}{r:List (κ×V)}{k:κ}(e:p.1=k):valV (p::r) k=some p.2:=by simp[valV,qr_,e]
theorem xy_ {p:κ×V}{r:List (κ×V)}{k:κ}(e:¬ p.1=k):valV (p::r) k=valV r k:=by simp[valV,qr_,e]
theorem jgf_ (k:κ):∀ kvs:List (κ×V),(kvs.any fun kv=>decide (kv.1=k))=(valV kvs k).isSome
 | []=>rfl
 | p::r=>by
  rw[rh_]
  by_cases e:p.1=k
  ·simp only[xv_ e,decide_eq_true e,Bool.true_or,k0_]
  ·rw[xy_ e,decide_eq_false e,ky_];exact jgf_ k r
theorem xe_ (kvs:List (κ×V))(k:κ)(v:V):(putK kvs k v).length<=kvs.length+1:=by
 unfold putK
 split
 ·rw[pb_];omega
 ·rw[pg_,ps_,qm_];omega
theorem RelO.isSome_eq {o:Option V}{u:Option Value}(r:RelO o u):o.isSome=u.isSome:=by
 cases o with
 | none=>cases u with
  | none=>rfl
  | some _=>exact(show False from r).elim
 | some _=>cases u with
  | none=>exact(show False from r).elim
  | some _=>rfl
theorem RelO.getD {o:Option V}{u:Option Value}{d:V}{d':Value}(r:RelO o u)(rd:RelV d d'):RelV (o.getD d) (u.getD d'):=by
 cases o with
 | none=>cases u with
  | none=>exact rd
  | some _=>exact(show False from r).elim
 | some _=>cases u with
  | none=>exact(show False from r).elim
  | some _=>exact r
theorem KV.val {kvs:List (κ×V)}{vs:List (κ×Value)}(r:KV kvs vs)(k:κ):RelO (valV kvs k) (valueAt vs k):=by
 unfold KV at r
 induction r with
 | nil=>exact True.intro
 | @cons p q ps qs h t ih =>
  obtain⟨h1,h2⟩:=h
  by_cases e:p.1=k
  ·have e':q.1=k:=h1.symm.trans e
   have b:valueAt (q::qs) k=some q.2:=by simp[valueAt,qr_,e']
   rw[xv_ e,b];exact h2
  ·have e':¬ q.1=k:=fun z=>e (h1.trans z)
   have b:valueAt (q::qs) k=valueAt qs k:=by simp[valueAt,qr_,e']
   rw[xy_ e,b];exact ih
theorem KV.any {kvs:List (κ×V)}{vs:List (κ×Value)}(r:KV kvs vs)(k:κ):(kvs.any fun kv=>decide (kv.1=k))=vs.any fun kv=>decide (kv.1=k):=by
 unfold KV at r
 induction r with
 | nil=>rfl
 | cons h t ih=>rw[rh_,rh_,ih,h.1]
theorem KV.repl {kvs:List (κ×V)}{vs:List (κ×Value)}(r:KV kvs vs)(k:κ){y:V}{u:Value}(ry:RelV y u) :
  KV (kvs.map fun kv=>if kv.1=k then (kv.1,y) else kv) (vs.map fun kv=>if kv.1=k then (kv.1,u) else kv):=by
 unfold KV at r ⊢
 induction r with
 | nil=>exact .nil
 | @cons p q ps qs h t ih =>
  rw[pp_,pp_]
  refine .cons ?_ ih
  obtain⟨h1,h2⟩:=h
  by_cases e:p.1=k
  ·rw[if_pos e,if_pos (h1.symm.trans e)];exact⟨h1,ry⟩
  ·rw[if_neg e,if_neg (fun z=>e (h1.trans z))];exact⟨h1,h2⟩
theorem KV.put {kvs:List (κ×V)}{vs:List (κ×Value)}(r:KV kvs vs)(k:κ){y:V}{u:Value}(ry:RelV y u):KV (putK kvs k y) (stored vs k u):=by
 unfold putK stored
 rw[r.any k]
 by_cases e:(vs.any fun kv=>decide (kv.1=k))=true
 ·rw[if_pos e,if_pos e];exact r.repl k ry
 ·rw[if_neg e,if_neg e];exact Paired.snoc r ⟨rfl,ry⟩
theorem KV.length {kvs:List (κ×V)}{vs:List (κ×Value)}(r:KV kvs vs):kvs.length=vs.length:=sz_ r
end
theorem jaf_ {P:Program}{w:World}{k:Key}{u:Value}(r:RelV (kV k) u):(zb_ P w).is k u=true:=by
 cases k with
 | inl i=>obtain⟨t,e⟩:=(show ∃ t,u=Value.int i t from r);subst e;exact jgz_ P w i t
 | inr x=>obtain⟨t,e⟩:=(show ∃ t,u=Value.str x t from r);subst e;exact jhc_ P w x t
theorem jdh_ {P:Program}{w:World}:∀{ks:List Key}{us:List Value},Vals (ks.map kV) us->ItemsAre (zb_ P w) ks us
 | [],_,r=>by rw[p7_] at r;cases r;exact .nil
 | k::ks,_,r=>by
  rw[pp_] at r
  cases r with
  | cons h t=>exact .cons (jaf_ h) (jdh_ t)
abbrev KT (H:Hp):List (List Key×V)->List (List Key×Addr×Value)->Prop:=Paired fun p q=>p.1=q.1/\H q.2.1=some (.tup (p.1.map kV))/\RelV p.2 q.2.2
theorem KT.val {H:Hp}{kvs:List (List Key×V)}{xs:List (List Key×Addr×Value)}(r:KT H kvs xs)(k:List Key):RelO (valV kvs k) ((atKey xs k).map (·.2)):=by
 induction r with
 | nil=>exact True.intro
 | @cons p q ps qs h t ih =>
  obtain⟨h1,_,h2⟩:=h
  by_cases e:p.1=k
  ·have e':q.1=k:=h1.symm.trans e
   have b:atKey (q::qs) k=some q.2:=by simp[atKey,qr_,e']
   rw[xv_ e,b];exact h2
  ·have e':¬ q.1=k:=fun z=>e (h1.trans z)
   have b:atKey (q::qs) k=atKey qs k:=by simp[atKey,qr_,e']
   rw[xy_ e,b];exact ih
theorem KT.repl {H:Hp}{kvs:List (List Key×V)}{xs:List (List Key×Addr×Value)}(r:KT H kvs xs)(k:List Key){y:V}{u:Value}(ry:RelV y u) :
  KT H (kvs.map fun kv=>if kv.1=k then (kv.1,y) else kv) (xs.map (putAt k u)):=by
 induction r with
 | nil=>exact .nil
 | @cons p q ps qs h t ih =>
  rw[pp_,pp_]
  refine .cons ?_ ih
  obtain⟨h1,h2,h3⟩:=h
  unfold putAt
  by_cases e:p.1=k
  ·rw[if_pos e,if_pos (h1.symm.trans e)];exact⟨h1,h2,ry⟩
  ·rw[if_neg e,if_neg (fun z=>e (h1.trans z))];exact⟨h1,h2,h3⟩
theorem KT.put {H:Hp}{kvs:List (List Key×V)}{xs:List (List Key×Addr×Value)}(r:KT H kvs xs)(k:List Key){b:Addr}{y:V}{u:Value}(hb:H b=some (.tup (k.map kV)))(ry:RelV y u) :
  KT H (putK kvs k y) (storedH xs k b u):=by
 have e:(kvs.any fun kv=>decide (kv.1=k))=(atKey xs k).isSome:=by
  rw[jgf_,(r.val k).isSome_eq,s7_]
 unfold putK storedH
 rw[e]
 by_cases q:(atKey xs k).isSome=true
 ·rw[if_pos q,if_pos q];exact r.repl k ry
 ·rw[if_neg q,if_neg q];exact Paired.snoc r ⟨rfl,hb,ry⟩
theorem KT.keeps {H H':Hp}{kvs:List (List Key×V)}{xs:List (List Key×Addr×Value)}(r:KT H kvs xs)(ht:∀ b ys,H b=some (.tup ys)->H' b=some (.tup ys)):KT H' kvs xs :=
 Paired.mapP r fun _ _ z=>⟨z.1,ht _ _ z.2.1,z.2.2⟩
section
variable {P:Program}{w:World}{H:Hp}{h:Heap}{a:Addr}
theorem jqw_ {u:HO}(ok:HOk P w H h)(e:Rd H a u):ObjOk P w H h a u:=e.ok ok
theorem jcs_ {kvs:List (Key×V)}(ok:HOk P w H h)(e:Rd H a (.dK kvs)):kvs.length<=sizeLine/\(a == sysModules)=false/\∃ vs,KV kvs vs/\h.DictOf (zb_ P w) a vs :=
 show ObjOk P w H h a (.dK kvs) from jqw_ ok e
theorem juo_ {kvs:List (Key×V)}(ok:HOk P w H h)(e:H a=some (.dK kvs)):kvs.length<=sizeLine/\(a == sysModules)=false/\∃ vs,KV kvs vs/\h.DictOf (zb_ P w) a vs:=jcs_ ok (.inl e)
theorem ux_ {ks:List Key}(ok:HOk P w H h)(e:H a=some (.tup (ks.map kV))):(tupleKind (zb_ P w)).is h ks a:=by
 obtain⟨_,its,r,⟨o,h1,h2,n,h3⟩,_⟩:=(show ObjOk P w H h a (.tup (ks.map kV)) from ok a _ e)
 exact⟨o,its.toArray,n,h1,h2,h3,by simpa using jdh_ r⟩
theorem jdg_ {kvs:List (List Key×V)}(ok:HOk P w H h)(e:Rd H a (.dT kvs)):kvs.length<=sizeLine/\(a == sysModules)=false /\
  ∃ xs,KT H kvs xs/\h.DictOfH (tupleKind (zb_ P w)) a xs:=by
 obtain⟨z,y,xs,r,o,es,ep,h1,h2,h3,h4,h5⟩:=(show ObjOk P w H h a (.dT kvs) from jqw_ ok e)
 refine⟨z,y,xs,r,o,es,ep,h1,h2,h3,h4,fun x hx=>?_,h5⟩
 have all:∀{l:List (List Key×V)}{m:List (List Key×Addr×Value)},KT H l m->∀ x∈m,(tupleKind (zb_ P w)).is h x.1 x.2.1:=by
  intro l m q
  induction q with
  | nil=>intro x hx;exact nomatch hx
  | @cons p q ps qs hq t ih =>
   intro x hx
   rcases p0_.mp hx with e | hx
   ·subst e
    exact ux_ ok (by rw[<- hq.1];exact hq.2.1)
   ·exact ih x hx
 exact all r x hx
theorem jyk_ {kvs:List (List Key×V)}(ok:HOk P w H h)(e:H a=some (.dT kvs)):kvs.length<=sizeLine/\(a == sysModules)=false /\
  ∃ xs,KT H kvs xs/\h.DictOfH (tupleKind (zb_ P w)) a xs:=jdg_ ok (.inl e)
end
noncomputable def DGet (H:Hp)(a:Addr)(y:V)(r:Option V):Prop :=
 (∃ kvs k,Rd H a (.dK kvs)/\y=kV k/\r=valV kvs k)∨∃ kvs k b,Rd H a (.dT kvs)/\y=.ref b/\H b=some (.tup (k.map kV))/\r=valV kvs k
noncomputable def DPut (H:Hp)(a:Addr)(y v:V)(H':Hp):Prop :=
 (∃ kvs k,H a=some (.dK kvs)/\y=kV k/\kvs.length < sizeLine/\H'=upd H a (.dK (putK kvs k v))) ∨
 ∃ kvs k b,H a=some (.dT kvs)/\y=.ref b/\H b=some (.tup (k.map kV))/\kvs.length < sizeLine/\H'=upd H a (.dT (putK kvs k v))
theorem DGet.k {H:Hp}{a:Addr}{kvs:List (Key×V)}{k:Key}(e:H a=some (.dK kvs)):DGet H a (kV k) (valV kvs k):=.inl ⟨kvs,k,.inl e,rfl,rfl⟩
theorem DPut.k {H:Hp}{a:Addr}{kvs:List (Key×V)}{k:Key}{v:V}(e:H a=some (.dK kvs))(hl:kvs.length < sizeLine):DPut H a (kV k) v (upd H a (.dK (putK kvs k v))):=.inl ⟨kvs,k,e,rfl,hl,rfl⟩
section
variable {X:Cx}{pins:List (Addr×Obj)}{σ:St}{H:Hp}{s:Shared}{a:Addr}{y v:V}{u r:Value}{o:Option V}{A:Around}{E:Value->Shared->Prop}
theorem Inv.big (I:Inv X pins σ H s):sysModules < s.heap.objs.size:=by
 have h:mainGlobals < s.heap.objs.size:=(I.mod.glob.keeps I.bk).lt
 exact Nat.lt_trans (by decide) h
theorem d_in {Q:Value->Shared->Prop}(hu:A.units+1 < cLine)(I:Inv X pins σ H s)(g:DGet H a y o)(ry:RelV y u)(h:∀ s',Inv X pins σ H s'->Q (.bool o.isSome) s') :
  wpAny (model X.prog X.w) A (compareOp .In u (.ref a)) Q E s:=by
 rcases g with ⟨kvs,k,e,ey,l⟩ | ⟨kvs,k,b,e,ey,eb,l⟩
 ·subst ey
  obtain⟨z,hd,vs,rel,dd⟩:=jcs_ I.hok e
  refine wpAny_in_of (jaf_ ry) hd dd.mapOf ?_
  rw[<- (rel.val k).isSome_eq,<- l]
  exact h _ (I.tok _)
 ·subst ey
  cases (show u=Value.ref b from ry)
  obtain⟨z,hd,xs,rel,dd⟩:=jdg_ I.hok e
  refine wpAny_in_heap (tupleKind_room_in1 hu) (ux_ I.hok eb) hd dd ?_
  have q:=(rel.val k).isSome_eq
  rw[s7_] at q
  rw[<- q,<- l]
  exact h _ (I.tok _)
theorem jss_ {Q:Value->Shared->Prop}(hu:A.units+1 < cLine)(I:Inv X pins σ H s)(g:DGet H a y o)(ry:RelV y u)(h:∀ s',Inv X pins σ H s'->Q (.bool (!o.isSome)) s') :
  wpAny (model X.prog X.w) A (compareOp .NotIn u (.ref a)) Q E s:=by
 rcases g with ⟨kvs,k,e,ey,l⟩ | ⟨kvs,k,b,e,ey,eb,l⟩
 ·subst ey
  obtain⟨z,hd,vs,rel,dd⟩:=jcs_ I.hok e
  refine wpAny_notIn_of (jaf_ ry) hd dd.mapOf ?_
  rw[<- (rel.val k).isSome_eq,<- l]
  exact h _ (I.tok _)
 ·subst ey
  cases (show u=Value.ref b from ry)
  obtain⟨z,hd,xs,rel,dd⟩:=jdg_ I.hok e
  refine wpAny_notIn_heap (tupleKind_room_in1 hu) (ux_ I.hok eb) hd dd ?_
  have q:=(rel.val k).isSome_eq
  rw[s7_] at q
  rw[<- q,<- l]
  exact h _ (I.tok _)
theorem ua_ {h':Heap}{t':Nat}{ob:HO}(I:Inv X pins σ H s)(mu:Mut (H a))(hs:qv_ a s.heap h')(he:∃ q,h'.get? a=some q)(new:ObjOk X.prog X.w (upd H a ob) h' a ob) :
  Inv X pins σ (upd H a ob) { s with heap:=h',toks:=t' } :=
 I.write (x:=a) (e:=a) mu (.inl rfl) (fun b q hb z=>(hs.2 b hb).trans z) he new
theorem jpv_ {P:Program}{w:World}{H':Hp}{h':Heap}{kvs:List (Key×V)}{vs:List (Key×Value)}(z:kvs.length<=sizeLine)(hd:(a == sysModules)=false)(rel:KV kvs vs)(dd:h'.DictOf (zb_ P w) a vs) :
  ObjOk P w H' h' a (.dK kvs):=⟨z,hd,vs,rel,dd⟩
theorem jml_ {H':Hp}{Q:Unit->Shared->Prop}(hu:A.units+1 < cLine)(I:Inv X pins σ H s)(g:DPut H a y v H')(ry:RelV y u)(rv:RelV v r)(h:∀ s',Inv X pins σ H' s'->Q () s') :
  wpAny (model X.prog X.w) A (setItem (.ref a) u r) Q E s:=by
 rcases g with ⟨kvs,k,e,ey,l,eH⟩ | ⟨kvs,k,b,e,ey,eb,l,eH⟩
 ·subst ey eH
  obtain⟨z,hd,vs,rel,dd⟩:=juo_ I.hok e
  have hz:vs.length<=sizeLine:=by rw[<- rel.length];exact z
  have hl:(putK kvs k v).length<=sizeLine:=by have:=xe_ kvs k v;omega
  refine wpAny_setItem_pairs (hsz:=hz) (jaf_ ry) dd fun h' dd' hs=>h _ ?_
  have he:∃ q,h'.get? a=some q:=let ⟨q,_,_,hq,_⟩:=dd';⟨q,hq⟩
  exact ua_ I (by rw[e];exact True.intro) hs he (jpv_ hl hd (rel.put k rv) dd')
 ·subst ey eH
  cases (show u=Value.ref b from ry)
  obtain⟨z,hd,xs,rel,dd⟩:=jyk_ I.hok e
  have hz:xs.length<=sizeLine:=by rw[<- sz_ rel];exact z
  have hl:(putK kvs k v).length<=sizeLine:=by have:=xe_ kvs k v;omega
  refine wpAny_setItem_heap (hsz:=hz) (tupleKind_room_in1 hu) (ux_ I.hok eb) dd fun h' dd' hs=>h _ ?_
  obtain⟨q,es,ep,hq,h2,h3,h4,_,h5⟩:=dd'
  refine ua_ I (by rw[e];exact True.intro) hs ⟨q,hq⟩ ⟨hl,hd,_,(rel.put k eb rv).keeps fun c ys ec=>?_,q,es,ep,hq,h2,h3,h4,h5⟩
  rw[ji_ (juh_ ec e (fun z=>nomatch z))]
  exact ec
end
section
variable {X:Cx}{pins:List (Addr×Obj)}{σ:St}{H:Hp}{s:Shared}{a:Addr}{kvs:List (Key×V)}{k:Key}{u:Value}{A:Around}{E:Value->Shared->Prop}
end
def NoSl (i:Expr):Prop:=∀ ov iv,subscripted i false ov iv=operate [ov,iv] (getItem ov iv)
theorem jsi_ {prog:Program}{w:World}{A:Around}{E:Value->Shared->Prop}{s:Shared}{env:Env}{value slice:Expr}{pos:Pos}{T id:String}{Q:Value->Shared->Prop}
  (hl:typeLookup (.type T) "__getitem__"=pure (some (.builtin id))) (hs:NoSl slice)
  (h:wpAny (model prog w) A (eval value env) (fun o s₁=>wpAny (model prog w) A (eval slice env) (fun i s₂=>s₂.TypeIs o T/\wpAny (model prog w) A (getItem o i) Q E s₂) E s₁) E s) :
  wpAny (model prog w) A (eval (.Subscript value slice pos) env) Q E s:=by
 refine Subscript_ (wpAny_mono h (fun o s₁ h₁=>wpAny_mono h₁ (fun i s₂ h₂=>?_) fun _ _ x=>x) fun _ _ x=>x)
 obtain⟨hT,h₂⟩:=h₂
 unfold subscriptTail
 refine wpAny_bind ?_
 rw[getitemInPython_of_ne hT.not_modules]
 refine wpAny_bind (wpAny_specialOf hT hl ?_)
 have fin:wpAny (model prog w) A (subscripted slice false o i) (fun r s₃=>wpAny (model prog w) A (letTemporaryGo value o r >>= fun _=>pure r) Q E s₃) E s₂:=by
  rw[hs o i]
  exact wpAny_operating (wpAny_mono h₂ (fun r s₃ h₃=>wpAny_bind (wpAny_letTemporaryGo (wpAny_pure h₃))) fun _ _ x=>x)
 first
  | exact wpAny_pure (wpAny_bind fin)
  | exact wpAny_bind (wpAny_pure (wpAny_bind fin))
  | exact wpAny_bind fin
def tDIn (ty td:TE):TE:=fun σ H Q=>ty σ H fun y H1=>td σ H1 fun x H2=>∃ a o,x=.ref a/\DGet H2 a y o/\Q (.bl o.isSome) H2
def jll_ (ty td:TE):TE:=fun σ H Q=>ty σ H fun y H1=>td σ H1 fun x H2=>∃ a o,x=.ref a/\DGet H2 a y o/\Q (.bl (!o.isSome)) H2
def jvf_ (td ty tv:TE):TS:=fun D σ H=>tv σ H fun v H1=>td σ H1 fun x H2=>ty σ H2 fun y H3=>∃ a H4,x=.ref a/\DPut H3 a y v H4/\D.nx σ H4
section
variable {X:Cx}{o i e value:Expr}{pos pos' tpos:Pos}{td ty tv:TE}
theorem jqk_ (hu:X.A.units+1 < cLine)(hi:PE X i ty)(ho:PE X o td):PC X .In i o (tDIn ty td):=by
 intro pins s σ H Q I h
 refine thn (hi pins s σ H _ I h) fun iv s1 ⟨y,H1,I1,ry,q1⟩=>thn (ho pins s1 σ H1 _ I1 q1) fun u s2 ⟨x,H2,I2,rx,a,ov,ex,g,q2⟩=>?_
 subst ex
 obtain rfl:u=Value.ref a:=rx
 exact d_in hu I2 g ry fun s3 I3=>⟨.bl ov.isSome,H2,I3,rfl,q2⟩
theorem jmt_ (hu:X.A.units+1 < cLine)(hi:PE X i ty)(ho:PE X o td):PC X .NotIn i o (jll_ ty td):=by
 intro pins s σ H Q I h
 refine thn (hi pins s σ H _ I h) fun iv s1 ⟨y,H1,I1,ry,q1⟩=>thn (ho pins s1 σ H1 _ I1 q1) fun u s2 ⟨x,H2,I2,rx,a,ov,ex,g,q2⟩=>?_
 subst ex
 obtain rfl:u=Value.ref a:=rx
 exact jss_ hu I2 g ry fun s3 I3=>⟨.bl (!ov.isSome),H2,I3,rfl,q2⟩
theorem jee_ (hu:X.A.units+1 < cLine)(ho:PE X o td)(hi:PE X i ty)(hv:PE X value tv)(hs:swapsWith value (some (.Subscript o i pos')) pos.line X.env=pure false) :
  PS X (.Assign [.Subscript o i pos'] value pos) (jvf_ td ty tv):=by
 intro pins s σ H D I h
 refine wpAny_Assign_Subscript (thn (hv pins s σ H _ I h) fun r s1 ⟨v,H1,I1,rv,q1⟩=>thn (ho pins s1 σ H1 _ I1 q1) fun u s2 ⟨x,H2,I2,rx,q2⟩=>thn (hi pins s2 σ H2 _ I2 q2) fun iv s3 ⟨y,H3,I3,ry,a,H4,ex,g,q3⟩=>?_) hs
 subst ex
 obtain rfl:u=Value.ref a:=rx
 exact jml_ hu I3 g ry rv fun s4 I4=>⟨σ,H4,I4,q3⟩
end
theorem jgr_ {P:Program}{w:World}{H:Hp}(h:Heap)(hb:sysModules < h.objs.size):ObjOk P w H (h.push { cls:=.type "dict",data:=.dict #[] }) h.objs.size (.dK []) :=
 ⟨qz_ _,beq_eq_false_iff_ne.mpr (tq_ (p6_ hb)),[],.nil,Heap.DictOf.new h⟩
def joa_:TE:=fun _ H Q=>∀ p,H p=none->Q (.ref p) (upd H p (.dK []))
section
variable {X:Cx}{pos:Pos}
theorem joj_:PE X (.Dict [] [] pos) joa_:=fun pins s σ H Q I h =>
 wpAny_Dict_empty ⟨.ref s.heap.objs.size,_,I.laid (a:=s.heap.objs.size) (o:=.dK []) (t':=s.toks) (fun _ _ q=>pd_ _ q) (po_ _) (jgr_ s.heap I.big),rfl,h _ (I.hok.fresh (po_ _))⟩
end
def uv_:List (TE×TE)->St->Hp->(List (V×V)->Hp->Prop)->Prop
 | [],_,H,Q=>Q [] H
 | (tk,tv)::r,σ,H,Q=>tk σ H fun x H1=>tv σ H1 fun y H2=>uv_ r σ H2 fun ps H3=>Q ((x,y)::ps) H3
abbrev VV:List (V×V)->List (Value×Value)->Prop:=Paired fun p q=>RelV p.1 q.1/\RelV p.2 q.2
noncomputable def PPs (X:Cx)(pos:Pos)(keys:List (Option Expr))(values:List Expr)(trs:List (TE×TE)):Prop :=
 ∀(pins:List (Addr×Obj)) (s:Shared) (σ:St) (H:Hp) (Q:List (V×V)->Hp->Prop),Inv X pins σ H s->uv_ trs σ H Q ->
  wpAny (model X.prog X.w) X.A (evalPairs (pairTrees keys values X.env pos)) (fun vs s'=>∃ ps H',Inv X pins σ H' s'/\VV ps vs/\Q ps H') X.xe s
theorem jlj_ {X:Cx}{pos:Pos}:PPs X pos [] [] []:=fun pins s σ H Q I h=>pairTrees_nil_walk ⟨[],H,I,.nil,h⟩
theorem jgh_ {X:Cx}{pos:Pos}{k v:Expr}{ks:List (Option Expr)}{vs:List Expr}{tk tv:TE}{trs:List (TE×TE)}(hk:PE X k tk)(hv:PE X v tv)(hr:PPs X pos ks vs trs) :
  PPs X pos (some k::ks) (v::vs) ((tk,tv)::trs):=fun pins s σ H Q I h =>
 pairTrees_cons_walk (thn (hk pins s σ H _ I h) fun u s1 ⟨x,H1,I1,rx,q1⟩=>thn (hv pins s1 σ H1 _ I1 q1) fun w2 s2 ⟨y,H2,I2,ry,q2⟩ =>
  thn (hr pins s2 σ H2 _ I2 q2) fun ws s3 ⟨ps,H3,I3,rel,q3⟩=>⟨(x,y)::ps,H3,I3,.cons ⟨rx,ry⟩ rel,q3⟩)
noncomputable def vc_ (kvs more:List (Key×V)):List (Key×V):=more.foldl (fun acc kv=>putK acc kv.1 kv.2) kvs
theorem KV.merge:∀{more:List (Key×V)}{rs:List (Key×Value)}{kvs:List (Key×V)}{vs:List (Key×Value)},KV more rs->KV kvs vs->KV (vc_ kvs more) (merged vs rs):=by
 intro more rs kvs vs r
 unfold KV at r
 induction r generalizing kvs vs with
 | nil=>intro q;exact q
 | @cons p q ps qs h t ih =>
  intro r0
  have e:KV (putK kvs p.1 p.2) (stored vs q.1 q.2):=by
   have:=r0.put p.1 h.2
   rw[<- h.1];exact this
  exact ih e
theorem vs_:∀(more kvs:List (Key×V)),(vc_ kvs more).length<=kvs.length+more.length
 | [],kvs=>by show kvs.length<=kvs.length+0;omega
 | p::r,kvs=>by
  have h1:=vs_ r (putK kvs p.1 p.2)
  have h2:=xe_ kvs p.1 p.2
  show (vc_ (putK kvs p.1 p.2) r).length<=_
  rw[ps_];omega
theorem jav_ {P:Program}{w:World}:∀{kvs:List (Key×V)}{ws:List (Value×Value)},VV (kvs.map fun kv=>(kV kv.1,kv.2)) ws->∃ rs,Carries (zb_ P w) ws rs/\KV kvs rs
 | [],_,r=>by rw[p7_] at r;cases r;exact⟨[],True.intro,.nil⟩
 | p::kvs,_,r=>by
  rw[pp_] at r
  cases r with
  | @cons a b as bs h t =>
   obtain⟨rs,c,q⟩:=jav_ (P:=P) (w:=w) t
   obtain⟨b1,b2⟩:=b
   exact⟨(p.1,b2)::rs,⟨jaf_ h.1,rfl,c⟩,.cons ⟨rfl,h.2⟩ q⟩
def jve_ (trs:List (TE×TE)):TE:=fun σ H Q=>∀ p,H p=none->uv_ trs σ (upd H p (.dK [])) fun ps H2=>H2 p=some (.dK [])/\∃ kvs:List (Key×V),ps=kvs.map (fun kv=>(kV kv.1,kv.2))/\kvs.length<=15/\Q (.ref p) (upd H2 p (.dK (vc_ [] kvs)))
theorem jlc_ {X:Cx}{pos:Pos}{keys:List (Option Expr)}{values:List Expr}{trs:List (TE×TE)}(h:PPs X pos keys values trs)(hall:keys.all (·.isSome)=true)(hl:keys.length=values.length)(h0:keys≠[])
  (h15:keys.length<=15):PE X (.Dict keys values pos) (jve_ trs):=by
 intro pins s σ H Q I q
 have hn:=I.hok.fresh (po_ s.heap.objs.size)
 have I1:=I.laid (a:=s.heap.objs.size) (o:=.dK []) (h':=s.heap.push { cls:=.type "dict",data:=.dict #[] }) (t':=s.toks) (fun _ _ q=>pd_ _ q) (po_ _) (jgr_ s.heap I.big)
 refine wpAny_Dict_walk (knd:=zb_ X.prog X.w) hall hl h0 h15 (thn (h pins _ σ _ _ I1 (q _ hn)) fun ws s2 ⟨ps,H2,I2,rel,e,kvs,ep,lk,q2⟩=>?_)
 subst ep
 obtain⟨rs,c,rk⟩:=jav_ (P:=X.prog) (w:=X.w) rel
 obtain⟨z,hd,vs0,r0,dd⟩:=juo_ I2.hok e
 cases r0
 refine⟨rs,c,dd,fun h' dd' hs=>⟨.ref s.heap.objs.size,_,?_,rfl,q2⟩⟩
 have hz:(vc_ [] kvs).length<=sizeLine:=by
  have h1:=vs_ kvs []
  rw[qm_] at h1
  rw[sizeLine_eq];omega
 have he:∃ q,h'.get? s.heap.objs.size=some q:=let ⟨q,_,_,hq,_⟩:=dd';⟨q,hq⟩
 exact ua_ I2 (by rw[e];exact True.intro) hs he (jpv_ hz hd (rk.merge .nil) dd')
structure M1 (X:Cx)(o:Expr)(m:Str)(apos:Pos)(e:Expr)(cpos:Pos):Prop where
 base:attributeBase o m X.env (eval o X.env)=eval o X.env
 few:((backTo cpos (starEach [e] X.env)).all (fun x=>!x.1)&&(backToKw cpos (keywordEach [] X.env)).all (fun x=>x.1.isSome)
  && decide (([e]:List Expr).length+([]:List Keyword).length+(if ([]:List Keyword).isEmpty then 0 else 1) < 30))=true
 line:(apos.endLine == cpos.line)=true
 trees:backTo cpos (starEach [e] X.env)=[(false,eval e X.env)]
structure M2 (X:Cx)(o:Expr)(m:Str)(apos:Pos)(e f:Expr)(cpos:Pos):Prop where
 base:attributeBase o m X.env (eval o X.env)=eval o X.env
 few:((backTo cpos (starEach [e,f] X.env)).all (fun x=>!x.1)&&(backToKw cpos (keywordEach [] X.env)).all (fun x=>x.1.isSome)
  && decide (([e,f]:List Expr).length+([]:List Keyword).length+(if ([]:List Keyword).isEmpty then 0 else 1) < 30))=true
 line:(apos.endLine == cpos.line)=true
 trees:backTo cpos (starEach [e,f] X.env)=[(false,eval e X.env),(false,eval f X.env)]
def IsD (H:Hp)(a:Addr):Prop:=(∃ kvs,Rd H a (.dK kvs))∨∃ kvs,Rd H a (.dT kvs)
theorem jrn_ {X:Cx}{pins:List (Addr×Obj)}{σ:St}{H:Hp}{s:Shared}{a:Addr}(I:Inv X pins σ H s)(d:IsD H a) :
  s.TypeIs (.ref a) "dict"/\(∀ b,Value.ref a=.ref b->∃ ob,s.heap.get? b=some ob/\ob.dict=none)/\(a == sysModules)=false:=by
 rcases d with ⟨kvs,e⟩ | ⟨kvs,e⟩
 ·obtain⟨_,hd,vs,_,dd⟩:=jcs_ I.hok e
  refine⟨dd.typeIs,fun b q=>?_,hd⟩
  cases q
  obtain⟨ob,_,_,h1,h2,_⟩:=dd
  exact⟨ob,h1,h2.2.1⟩
 ·obtain⟨_,hd,xs,_,dd⟩:=jdg_ I.hok e
  refine⟨dd.typeIs,fun b q=>?_,hd⟩
  cases q
  obtain⟨ob,_,_,h1,h2,_⟩:=dd
  exact⟨ob,h1,h2.2.1⟩
section
variable {X:Cx}{pins:List (Addr×Obj)}{σ:St}{H:Hp}{s:Shared}{a:Addr}{y d:V}{u r:Value}{o:Option V}{A:Around}{E:Value->Shared->Prop}
theorem jxg_ {Q:Value->Shared->Prop}(hu:A.units+1 < cLine)(I:Inv X pins σ H s)(g:DGet H a y o)(ry:RelV y u)(h:∀ w' s',Inv X pins σ H s'->RelV (o.getD .non) w'->Q w' s') :
  wpAny (model X.prog X.w) A (call (.builtin "dict.get") [.ref a,u]) Q E s:=by
 rcases g with ⟨kvs,k,e,ey,l⟩ | ⟨kvs,k,b,e,ey,eb,l⟩
 ·subst ey
  obtain⟨z,hd,vs,rel,dd⟩:=jcs_ I.hok e
  refine call_meetsIn ri_ dd.typeIs sg_ (wp_ _ _) (meets_dict_get (zb_ X.prog X.w) a (jaf_ ry) hd) ⟨_,dd.mapOf,h _ _ (I.tok _) ?_⟩
  rw[l]
  exact(rel.val k).getD rfl
 ·subst ey
  cases (show u=Value.ref b from ry)
  obtain⟨z,hd,xs,rel,dd⟩:=jdg_ I.hok e
  refine call_meetsIn ri_ dd.typeIs sg_ (wp_ _ _) (meetsH_dict_get (tupleKind (zb_ X.prog X.w)) a b hd) ⟨tupleKind_room_in1 hu,k,xs,ux_ I.hok eb,dd,h _ _ (I.tok _) ?_⟩
  rw[l]
  exact(rel.val k).getD rfl
theorem jxe_ {Q:Value->Shared->Prop}(hu:A.units+1 < cLine)(I:Inv X pins σ H s)(g:DGet H a y o)(ry:RelV y u)(rd:RelV d r)(h:∀ w' s',Inv X pins σ H s'->RelV (o.getD d) w'->Q w' s') :
  wpAny (model X.prog X.w) A (call (.builtin "dict.get") [.ref a,u,r]) Q E s:=by
 rcases g with ⟨kvs,k,e,ey,l⟩ | ⟨kvs,k,b,e,ey,eb,l⟩
 ·subst ey
  obtain⟨z,hd,vs,rel,dd⟩:=jcs_ I.hok e
  refine call_meetsIn ri_ dd.typeIs sg_ (wq_ _ _ _) (meets_dict_get_default (zb_ X.prog X.w) a (jaf_ ry) hd r) ⟨_,dd.mapOf,h _ _ (I.tok _) ?_⟩
  rw[l]
  exact(rel.val k).getD rd
 ·subst ey
  cases (show u=Value.ref b from ry)
  obtain⟨z,hd,xs,rel,dd⟩:=jdg_ I.hok e
  refine call_meetsIn ri_ dd.typeIs sg_ (wq_ _ _ _) (meetsH_dict_get_default (tupleKind (zb_ X.prog X.w)) a b hd r) ⟨tupleKind_room_in1 hu,k,xs,ux_ I.hok eb,dd,h _ _ (I.tok _) ?_⟩
  rw[l]
  exact(rel.val k).getD rd
end
def jrh_ (td ty:TE):TE:=fun σ H Q=>td σ H fun x H1=>∃ a,x=.ref a/\IsD H1 a/\ty σ H1 fun y H2=>∃ o,DGet H2 a y o/\Q (o.getD .non) H2
def jog_ (td ty tx:TE):TE:=fun σ H Q=>td σ H fun x H1=>∃ a,x=.ref a/\IsD H1 a/\ty σ H1 fun y H2=>tx σ H2 fun z H3=>∃ o,DGet H3 a y o/\Q (o.getD z) H3
section
variable {X:Cx}{o e f:Expr}{apos cpos:Pos}{td ty tx:TE}
theorem jpt_ (hu:X.A.units+1 < cLine)(ho:PE X o td)(he:PE X e ty)(m:M1 X o "get" apos e cpos):PE X (.Call (.Attribute o "get" apos) [e] [] cpos) (jrh_ td ty):=by
 intro pins s σ H Q I h
 refine wpAny_Call_method m.base m.few m.line wr_ ri_ ka_ (thn (ho pins s σ H _ I h) fun u s1 ⟨x,H1,I1,rx,a,ex,d,q1⟩=>?_)
 subst ex
 obtain rfl:u=Value.ref a:=rx
 obtain⟨t1,t2,_⟩:=jrn_ I1 d
 refine⟨t1,t2,?_⟩
 rw[m.trees]
 refine sf_ rfl (tl_ (rj_ (thn (he pins s1 σ H1 _ I1 q1) fun iv s2 ⟨y,H2,I2,ry,ov,g,q2⟩=>sm_ ?_)))
 exact jxg_ hu I2 g ry fun w' s3 I3 rw'=>⟨_,H2,I3,rw',q2⟩
theorem jpr_ (hu:X.A.units+1 < cLine)(ho:PE X o td)(he:PE X e ty)(hf:PE X f tx)(m:M2 X o "get" apos e f cpos):PE X (.Call (.Attribute o "get" apos) [e,f] [] cpos) (jog_ td ty tx):=by
 intro pins s σ H Q I h
 refine wpAny_Call_method m.base m.few m.line wr_ ri_ ka_ (thn (ho pins s σ H _ I h) fun u s1 ⟨x,H1,I1,rx,a,ex,d,q1⟩=>?_)
 subst ex
 obtain rfl:u=Value.ref a:=rx
 obtain⟨t1,t2,_⟩:=jrn_ I1 d
 refine⟨t1,t2,?_⟩
 rw[m.trees]
 refine sf_ rfl (tl_ (rj_ (thn (he pins s1 σ H1 _ I1 q1) fun iv s2 ⟨y,H2,I2,ry,q2⟩ =>
  rj_ (thn (hf pins s2 σ H2 _ I2 q2) fun fv s3 ⟨z,H3,I3,rz,ov,g,q3⟩=>sm_ ?_))))
 exact jxe_ hu I3 g ry rz fun w' s4 I4 rw'=>⟨_,H3,I4,rw',q3⟩
end
section
variable {X:Cx}{pins:List (Addr×Obj)}{σ:St}{H:Hp}{s:Shared}{a:Addr}{kvs:List (Key×V)}{A:Around}{E:Value->Shared->Prop}
end
section
variable {X:Cx}{pins:List (Addr×Obj)}{σ:St}{H:Hp}{s:Shared}{a:Addr}{y:V}{u:Value}{A:Around}{E:Value->Shared->Prop}
end
end L2
namespace L2
noncomputable def bT (ns:List (List Nat)):List (Key×V):=ns.map fun z=>((Sum.inr (S z):Key),V.bl true)
noncomputable def addN (ns:List (List Nat))(z:List Nat):List (List Nat):=if z∈ns then ns else ns++[z]
noncomputable def begS (ns:List (List Nat))(s:List Nat)(k:Nat):List (List Nat):=(pu_ k).foldl (fun ns j=>addN ns (s.take (j+1))) ns
noncomputable def begA (ns:List (List Nat))(xs:List Pat):List (List Nat):=xs.foldl (fun ns x=>begS ns x.1 x.1.length) ns
noncomputable def begs (xs:List Pat):List (List Nat):=begA [[]] xs
theorem jbd_ {a b:List Nat}(h:(Sum.inr (S a):Key)=Sum.inr (S b)):a=b:=by
 injection h with h
 exact jlo_ h
theorem jvj_ (ns:List (List Nat))(z:List Nat):((bT ns).any fun kv=>decide (kv.1=(Sum.inr (S z):Key)))=decide (z∈ns):=by
 unfold bT
 rw[kb_,qt_,q4_,decide_eq_true_iff]
 constructor
 ·rintro⟨y,hy,e⟩
  have:=jbd_ (of_decide_eq_true e)
  rw[<- this];exact hy
 ·intro hz
  exact⟨z,hz,decide_eq_true rfl⟩
theorem jnt_ (ns:List (List Nat))(z:List Nat):putK (bT ns) (Sum.inr (S z)) (.bl true)=bT (addN ns z):=by
 unfold putK addN
 rw[jvj_]
 by_cases h:z∈ns
 ·rw[if_pos (decide_eq_true h),if_pos h]
  unfold bT
  rw[q1_]
  apply sc_
  intro y _
  show (if (Sum.inr (S y):Key)=Sum.inr (S z) then ((Sum.inr (S y):Key),V.bl true) else ((Sum.inr (S y):Key),V.bl true))=_
  rw[ite_self]
 ·rw[if_neg (by rw[decide_eq_false h];exact pi_),if_neg h]
  unfold bT
  rw[pk_];rfl
theorem jjl_ (ns:List (List Nat))(z:List Nat):valV (bT ns) (Sum.inr (S z))=if z∈ns then some (.bl true) else none:=by
 induction ns with
 | nil=>rfl
 | cons y ns ih =>
  show valV (((Sum.inr (S y):Key),V.bl true)::bT ns) _=_
  by_cases e:y=z
  ·rw[xv_ (p:=((Sum.inr (S y):Key),V.bl true)) (by rw[e]),if_pos (by rw[e];exact pm_)]
  ·rw[xy_ (p:=((Sum.inr (S y):Key),V.bl true)) (fun h=>e (jbd_ h)),ih]
   by_cases h:z∈ns
   ·rw[if_pos h,if_pos (pj_ _ h)]
   ·rw[if_neg h,if_neg (fun q=>(p0_.mp q).elim (fun q=>e q.symm) h)]
theorem jnu_ {ns:List (List Nat)}{z y:List Nat}:y∈addN ns z↔y∈ns∨y=z:=by
 unfold addN
 split
 ·rename_i h
  exact⟨.inl,fun q=>q.elim id fun q=>q▸h⟩
 ·rw[pe_,ph_]
theorem jqm_ (ns:List (List Nat))(z:List Nat):(addN ns z).length<=ns.length+1:=by
 unfold addN
 split
 ·omega
 ·simp
theorem vj_ (ns:List (List Nat))(s:List Nat)(k:Nat):begS ns s (k+1)=addN (begS ns s k) (s.take (k+1)):=by
 unfold begS;rw[tv_,rg_];rfl
theorem jgk_ {ns:List (List Nat)}{s y:List Nat}:∀{k:Nat},y∈begS ns s k↔y∈ns∨∃ e,1<=e/\e<=k/\y=s.take e
 | 0=>by
  show y∈ns↔_
  exact⟨.inl,fun q=>q.elim id fun⟨e,a,b,_⟩=>by omega⟩
 | k+1=>by
  rw[vj_,jnu_,jgk_]
  constructor
  ·rintro((h | ⟨e,a,b,c⟩) | h)
   ·exact .inl h
   ·exact .inr ⟨e,a,by omega,c⟩
   ·exact .inr ⟨k+1,by omega,by omega,h⟩
  ·rintro(h | ⟨e,a,b,c⟩)
   ·exact .inl (.inl h)
   ·by_cases z:e=k+1
    ·exact .inr (z▸c)
    ·exact .inl (.inr ⟨e,a,by omega,c⟩)
theorem ug_ (ns:List (List Nat))(s:List Nat):∀ k:Nat,(begS ns s k).length<=ns.length+k
 | 0=>po_ _
 | k+1=>by
  rw[vj_]
  have:=jqm_ (begS ns s k) (s.take (k+1))
  have:=ug_ ns s k
  omega
theorem jdk_ (ns:List (List Nat))(xs:List Pat)(x:Pat):begA ns (xs++[x])=begS (begA ns xs) x.1 x.1.length:=by
 unfold begA;rw[rg_];rfl
theorem jhi_ {y:List Nat}:∀{xs:List Pat}{ns:List (List Nat)},y∈begA ns xs↔y∈ns∨∃ x∈xs,∃ e,1<=e/\e<=x.1.length/\y=x.1.take e
 | [],ns=>by
  show y∈ns↔_
  exact⟨.inl,fun q=>q.elim id fun⟨x,hx,_⟩=>nomatch hx⟩
 | x::xs,ns=>by
  show y∈begA (begS ns x.1 x.1.length) xs↔_
  rw[jhi_,jgk_]
  constructor
  ·rintro((h | h) | ⟨z,hz,h⟩)
   ·exact .inl h
   ·exact .inr ⟨x,pm_,h⟩
   ·exact .inr ⟨z,pj_ _ hz,h⟩
  ·rintro(h | ⟨z,hz,h⟩)
   ·exact .inl (.inl h)
   ·rcases p0_.mp hz with rfl | hz
    ·exact .inl (.inr h)
    ·exact .inr ⟨z,hz,h⟩
theorem mem_begs {xs:List Pat}{y:List Nat}:y∈begs xs↔y=[]∨∃ x∈xs,∃ e,1<=e/\e<=x.1.length/\y=x.1.take e:=by
 unfold begs;rw[jhi_,ph_]
theorem ur_ {c:Nat}:∀(xs:List Pat) (ns:List (List Nat)),(∀ x∈xs,x.1.length<=c)->(begA ns xs).length<=ns.length+xs.length * c
 | [],ns,_=>by show ns.length<=_;simp
 | x::xs,ns,h=>by
  have h1:=ur_ xs (begS ns x.1 x.1.length) fun y hy=>h y (pj_ _ hy)
  have h2:=ug_ ns x.1 x.1.length
  have h3:=h x pm_
  show (begA (begS ns x.1 x.1.length) xs).length<=_
  rw[ps_,w7_]
  omega
end L2
namespace L2
def NT (H:Hp):List (Key×V)->List Pat->Prop
 | [],[]=>True
 | kv::kvs,g::gs=>kv.1=Sum.inr (S g.1)/\(∃ t,kv.2=.ref t/\H t=some (.tup (g.2.map V.int)))/\NT H kvs gs
 | _,_=>False
noncomputable def z1_ (gs:List Pat)(z:List Nat):Option Pat:=gs.find? fun g=>decide (g.1=z)
theorem NT.val {H:Hp}{z:List Nat}:∀{kvs:List (Key×V)}{gs:List Pat},NT H kvs gs->(z1_ gs z=none/\valV kvs (Sum.inr (S z))=none)∨∃ g t,z1_ gs z=some g/\g∈gs/\g.1=z/\valV kvs (Sum.inr (S z))=some (.ref t)/\H t=some (.tup (g.2.map V.int))
 | [],[],_=>.inl ⟨rfl,rfl⟩
 | [],_::_,h=>h.elim
 | _::_,[],h=>h.elim
 | kv::kvs,g::gs,h=>by
  obtain⟨h1,⟨t,h2,h3⟩,h4⟩:=h
  by_cases e:g.1=z
  ·refine .inr ⟨g,t,?_,pm_,e,?_,h3⟩
   ·unfold z1_;rw[qr_,decide_eq_true e]
   ·rw[xv_ (by rw[h1,e]),h2]
  ·have hl:z1_ (g::gs) z=z1_ gs z:=by unfold z1_;rw[qr_,decide_eq_false e]
   have hv:valV (kv::kvs) (Sum.inr (S z))=valV kvs (Sum.inr (S z)):=xy_ fun q=>e (jbd_ (h1.symm.trans q))
   rw[hl,hv]
   rcases NT.val (z:=z) h4 with q | ⟨g',t',a,b,c,d,f⟩
   ·exact .inl q
   ·exact .inr ⟨g',t',a,pj_ _ b,c,d,f⟩
theorem NT.same {H H':Hp}(s:Same H H'):∀{kvs:List (Key×V)}{gs:List Pat},NT H kvs gs->NT H' kvs gs
 | [],[],_=>trivial
 | [],_::_,h=>h.elim
 | _::_,[],h=>h.elim
 | kv::kvs,g::gs,h=>by
  obtain⟨h1,⟨t,h2,h3⟩,h4⟩:=h
  exact⟨h1,⟨t,h2,s _ _ h3⟩,NT.same s h4⟩
noncomputable def tAE (gs:List Pat)(x:List Nat)(back k:Nat):Int :=
 (pu_ k).foldl (fun m j=>match z1_ gs (x.drop (x.length - (back+j))) with | some g=>mx m (g.2.getD j 0) | none=>m) 0
theorem jga_ (gs:List Pat)(x:List Nat)(back k:Nat):tAE gs x back (k+1)=match z1_ gs (x.drop (x.length - (back+k))) with | some g=>mx (tAE gs x back k) (g.2.getD k 0) | none=>tAE gs x back k:=by
 unfold tAE;rw[tv_,rg_];rfl
end L2
namespace L2
open PySem
noncomputable def yo_:List Int->List Int->List Int
 | a::as,b::bs=>mx a b::yo_ as bs
 | _,_=>[]
theorem xj_:∀{a b:List Int},a.length=b.length->(yo_ a b).length=a.length
 | [],[],_=>rfl
 | [],_::_,h=>by simp at h
 | _::_,[],h=>by simp at h
 | a::as,b::bs,h=>by simp only[yo_,ps_];rw[xj_ (by simpa using h)]
theorem vg_:∀{a b:List Int}{i:Nat} (h1:i < a.length) (h2:i < b.length),(yo_ a b)[i]?=some (mx a[i] b[i])
 | a::as,b::bs,0,_,_=>rfl
 | a::as,b::bs,i+1,h1,h2=>by
  have h1':i < as.length:=by simpa using h1
  have h2':i < bs.length:=by simpa using h2
  simp only[yo_,List.getElem?_cons_succ,List.getElem_cons_succ]
  exact vg_ h1' h2'
theorem jjs_ {a b:List Int}{i:Nat}(h1:i < a.length)(h2:i < b.length):(yo_ a b).take (i+1)=(yo_ a b).take i++[mx a[i] b[i]]:=by
 rw[p3_,vg_ h1 h2];rfl
noncomputable def putG (gs:List Pat)(s:List Nat)(ns:List Int):List Pat :=
 if (gs.any fun g=>decide (g.1=s))=true then gs.map (fun g=>if g.1=s then (g.1,ns) else g) else gs++[(s,ns)]
noncomputable def grtS (gs:List Pat)(x:Pat):List Pat:=putG gs x.1 (yo_ (((z1_ gs x.1).map (·.2)).getD x.2) x.2)
noncomputable def grt (xs:List Pat):List Pat:=xs.foldl grtS []
theorem jho_ (xs:List Pat)(x:Pat):grt (xs++[x])=grtS (grt xs) x:=by unfold grt;rw[rg_];rfl
theorem NT.anyK {H:Hp}{s:List Nat}:∀{kvs:List (Key×V)}{gs:List Pat},NT H kvs gs->(kvs.any fun kv=>decide (kv.1=(Sum.inr (S s):Key)))=gs.any fun g=>decide (g.1=s)
 | [],[],_=>rfl
 | [],_::_,h=>h.elim
 | _::_,[],h=>h.elim
 | kv::kvs,g::gs,h=>by
  obtain⟨h1,_,h4⟩:=h
  rw[rh_,rh_,NT.anyK h4]
  congr 1
  rw[h1]
  by_cases e:g.1=s
  ·rw[decide_eq_true e,decide_eq_true (by rw[e])]
  ·rw[decide_eq_false e,decide_eq_false fun q=>e (jbd_ q)]
theorem NT.append {H:Hp}:∀{kvs kvs':List (Key×V)}{gs gs':List Pat},NT H kvs gs->NT H kvs' gs'->NT H (kvs++kvs') (gs++gs')
 | [],_,[],_,_,h=>h
 | [],_,_::_,_,h,_=>h.elim
 | _::_,_,[],_,h,_=>h.elim
 | kv::kvs,_,g::gs,_,h,h'=>⟨h.1,h.2.1,NT.append h.2.2 h'⟩
theorem NT.mapP {H:Hp}{s:List Nat}{ns:List Int}{t:Addr}(ht:H t=some (.tup (ns.map V.int))):∀{kvs:List (Key×V)}{gs:List Pat},NT H kvs gs->NT H (kvs.map fun kv=>if kv.1=(Sum.inr (S s):Key) then (kv.1,.ref t) else kv) (gs.map fun g=>if g.1=s then (g.1,ns) else g)
 | [],[],_=>trivial
 | [],_::_,h=>h.elim
 | _::_,[],h=>h.elim
 | kv::kvs,g::gs,h=>by
  obtain⟨h1,h2,h4⟩:=h
  rw[pp_,pp_]
  by_cases e:g.1=s
  ·rw[if_pos e,if_pos (by rw[h1,e])]
   exact⟨h1,⟨t,rfl,ht⟩,NT.mapP ht h4⟩
  ·rw[if_neg e,if_neg (by rw[h1];exact fun q=>e (jbd_ q))]
   exact⟨h1,h2,NT.mapP ht h4⟩
theorem NT.put {H:Hp}{s:List Nat}{ns:List Int}{t:Addr}{kvs:List (Key×V)}{gs:List Pat}(h:NT H kvs gs)(ht:H t=some (.tup (ns.map V.int))):NT H (putK kvs (Sum.inr (S s)) (.ref t)) (putG gs s ns):=by
 unfold putK putG
 rw[h.anyK]
 split
 ·exact h.mapP ht
 ·exact h.append ⟨rfl,⟨t,rfl,ht⟩,trivial⟩
theorem NT.tups {H H':Hp}(hk:∀ b zs,H b=some (.tup zs)->H' b=some (.tup zs)):∀{kvs:List (Key×V)}{gs:List Pat},NT H kvs gs->NT H' kvs gs
 | [],[],_=>trivial
 | [],_::_,h=>h.elim
 | _::_,[],h=>h.elim
 | kv::kvs,g::gs,h=>by
  obtain⟨h1,⟨t,h2,h3⟩,h4⟩:=h
  exact⟨h1,⟨t,h2,hk _ _ h3⟩,NT.tups hk h4⟩
theorem jrv_ {gs:List Pat}{s:List Nat}{ns:List Int}{g:Pat}(h:g∈putG gs s ns):g∈gs∨g=(s,ns):=by
 unfold putG at h
 split at h
 ·obtain⟨g',hg',e⟩:=qb_.mp h
  split at e
  ·rename_i q
   right
   rw[<- e,q]
  ·left;rw[<- e];exact hg'
 ·rcases pe_.mp h with h | h
  ·exact .inl h
  ·right;simpa using h
theorem jnl_ {gs:List Pat}{z:List Nat}{g:Pat}(h:z1_ gs z=some g):g∈gs/\g.1=z:=⟨List.mem_of_find?_eq_some h,by have:=List.find?_some h;simpa using this⟩
theorem jhv_:∀{xs:List Pat}{gs:List Pat},(∀ g∈gs,g.2.length=g.1.length+1)->(∀ x∈xs,x.2.length=x.1.length+1)->∀ g∈xs.foldl grtS gs,g.2.length=g.1.length+1
 | [],gs,h,_=>h
 | x::xs,gs,h,hx=>by
  refine jhv_ (xs:=xs) (gs:=grtS gs x) (fun g hg=>?_) fun y hy=>hx y (pj_ _ hy)
  rcases jrv_ hg with q | q
  ·exact h g q
  ·rw[q]
   have hxx:=hx x pm_
   show (yo_ _ _).length=_
   have hl:(((z1_ gs x.1).map (·.2)).getD x.2).length=x.2.length:=by
    cases e:z1_ gs x.1 with
    | none=>rfl
    | some g' =>
     obtain⟨q1,q2⟩:=jnl_ e
     show g'.2.length=_
     rw[h g' q1,q2,hxx]
   rw[xj_ hl,hl,hxx]
end L2
namespace L2
noncomputable def jp_ (B:List (List Nat)):List Nat->List Nat
 | []=>[]
 | c::r=>if (c::r)∈B then c::r else jp_ B r
theorem zw_ (B:List (List Nat)):∀ t,jp_ B t <:+ t
 | []=>List.suffix_refl _
 | c::r=>by
  unfold jp_
  split
  ·exact List.suffix_refl _
  ·exact(zw_ B r).trans (List.suffix_cons c r)
theorem y0_ {B:List (List Nat)}(h:[]∈B):∀ t,jp_ B t∈B
 | []=>h
 | c::r=>by
  unfold jp_
  split
  ·assumption
  ·exact y0_ h r
theorem ya_ {B:List (List Nat)}{s:List Nat}(hB:s∈B):∀{t:List Nat},s <:+ t->s <:+ jp_ B t
 | [],h=>h
 | c::r,h=>by
  unfold jp_
  split
  ·exact h
  ·rename_i hn
   rcases List.suffix_cons_iff.mp h with e | e
   ·exact absurd (e▸hB) hn
   ·exact ya_ hB e
theorem suffix_snoc {s t:List Nat}{d c:Nat}:s++[d] <:+ t++[c]↔d=c/\s <:+ t:=by
 constructor
 ·rintro⟨p,hp⟩
  rw[<- r6_] at hp
  obtain⟨h1,h2⟩:=List.append_inj' hp rfl
  exact⟨by simpa using h2,p,h1⟩
 ·rintro⟨rfl,p,hp⟩
  exact⟨p,by rw[<- r6_,hp]⟩
theorem jam_ {s t:List Nat}(h1:s <:+ t)(h2:t <:+ s):s=t:=h1.eq_of_length (Nat.le_antisymm h1.length_le h2.length_le)
theorem jca_:∀(u:List Nat),u=[]∨∃ s d,u=s++[d]
 | []=>.inl rfl
 | c::r=>.inr ⟨(c::r).dropLast,(c::r).getLast (by simp),(List.dropLast_concat_getLast (by simp)).symm⟩
theorem jfz_ {B:List (List Nat)}(h0:[]∈B)(hc:∀ s d,s++[d]∈B->s∈B)(t:List Nat)(c:Nat):jp_ B (t++[c])=jp_ B (jp_ B t++[c]):=by
 apply jam_
 ·have hu:=y0_ h0 (t++[c])
  have hs:=zw_ B (t++[c])
  rcases jca_ (jp_ B (t++[c])) with e | ⟨s,d,e⟩
  ·rw[e];exact List.nil_suffix
  ·rw[e] at hu hs ⊢
   obtain⟨rfl,h2⟩:=suffix_snoc.mp hs
   exact ya_ hu (suffix_snoc.mpr ⟨rfl,ya_ (hc _ _ hu) h2⟩)
 ·refine ya_ (y0_ h0 _) ((zw_ B _).trans ?_)
  exact suffix_snoc.mpr ⟨rfl,zw_ B t⟩
theorem y3_ (xs:List Pat):[]∈begs xs:=mem_begs.mpr (.inl rfl)
theorem yq_ {xs:List Pat}{y:List Nat}(hy:y≠[]):y∈begs xs↔∃ x∈xs,y <+: x.1:=by
 rw[mem_begs]
 constructor
 ·rintro(h | ⟨x,hx,e,h1,h2,h3⟩)
  ·exact absurd h hy
  ·exact⟨x,hx,h3▸List.take_prefix _ _⟩
 ·rintro⟨x,hx,h⟩
  have hl:=q6_.mpr hy
  refine .inr ⟨x,hx,y.length,hl,h.length_le,?_⟩
  exact List.prefix_iff_eq_take.mp h
theorem jhd_ (xs:List Pat)(s:List Nat)(d:Nat)(h:s++[d]∈begs xs):s∈begs xs:=by
 obtain⟨x,hx,hp⟩:=(yq_ (by simp)).mp h
 by_cases hs:s=[]
 ·rw[hs];exact y3_ xs
 ·exact(yq_ hs).mpr ⟨x,hx,(List.prefix_append s [d]).trans hp⟩
theorem jdl_ {xs:List Pat}{x:Pat}(h:x∈xs):x.1∈begs xs:=by
 by_cases hs:x.1=[]
 ·rw[hs];exact y3_ xs
 ·exact(yq_ hs).mpr ⟨x,h,List.prefix_refl _⟩
theorem jod_ (gs:List Pat)(x:List Nat)(back:Nat)(c:Int):∀ k,tAE gs x back k<=c↔0<=c/\∀ j,j < k->∀ g,z1_ gs (x.drop (x.length - (back+j)))=some g->g.2.getD j 0<=c
 | 0=>⟨fun h=>⟨h,fun j hj=>absurd hj (s1_ j)⟩,fun h=>h.1⟩
 | k+1=>by
  rw[jga_]
  have ih:=jod_ gs x back c k
  cases e:z1_ gs (x.drop (x.length - (back+k))) with
  | none =>
   show tAE gs x back k<=c↔_
   rw[ih]
   refine⟨fun h=>⟨h.1,fun j hj g hg=>?_⟩,fun h=>⟨h.1,fun j hj=>h.2 j (wg_ hj)⟩⟩
   by_cases hk:j=k
   ·subst hk;rw[e] at hg;cases hg
   ·exact h.2 j (by omega) g hg
  | some g0 =>
   show mx (tAE gs x back k) (g0.2.getD k 0)<=c↔_
   rw[mx_le,ih]
   refine⟨fun h=>⟨h.1.1,fun j hj g hg=>?_⟩,fun h=>⟨⟨h.1,fun j hj=>h.2 j (wg_ hj)⟩,h.2 k (sd_ k) g0 e⟩⟩
   by_cases hk:j=k
   ·subst hk;rw[e] at hg;cases hg;exact h.2
   ·exact h.1.2 j (by omega) g hg
theorem jix_ {gs:List Pat}{s:List Nat}{ns:List Int}{z:List Nat}:z1_ (putG gs s ns) z=if z=s then some (s,ns) else z1_ gs z:=by
 unfold putG
 by_cases h:(gs.any fun g=>decide (g.1=s))=true
 ·rw[if_pos h]
  induction gs with
  | nil=>simp at h
  | cons g gs ih =>
   unfold z1_ at ih ⊢
   rw[pp_,qr_,qr_]
   by_cases hg:g.1=s
   ·rw[if_pos hg]
    by_cases hz:z=s
    ·rw[if_pos hz,decide_eq_true (show (g.1,ns).1=z from hg.trans hz.symm),hg]
    ·rw[if_neg hz,decide_eq_false (show ¬ (g.1,ns).1=z from fun q=>hz (q.symm.trans hg))]
     show k3_ (fun g=>decide (g.1=z)) (gs.map _)=k3_ (fun g=>decide (g.1=z)) gs
     by_cases ha:(gs.any fun g=>decide (g.1=s))=true
     ·have:=ih ha
      rw[if_neg hz] at this
      exact this
     ·have he:gs.map (fun g=>if g.1=s then (g.1,ns) else g)=gs:=by
       conv=>rhs;rw[<- List.map_id gs]
       apply sc_
       intro y hy
       rw[if_neg]
       ·rfl
       ·intro q
        exact ha (q4_.mpr ⟨y,hy,decide_eq_true q⟩)
      rw[he]
   ·rw[if_neg hg]
    have ha:(gs.any fun g=>decide (g.1=s))=true:=by
     rw[rh_,decide_eq_false hg,ky_] at h;exact h
    have:=ih ha
    by_cases hz:z=s
    ·rw[if_pos hz] at this ⊢
     rw[decide_eq_false (show ¬ g.1=z from fun q=>hg (q.trans hz))]
     exact this
    ·rw[if_neg hz] at this ⊢
     rw[this]
 ·rw[if_neg h]
  unfold z1_
  rw[List.find?_append]
  by_cases hz:z=s
  ·rw[if_pos hz]
   have:k3_ (fun g:Pat=>decide (g.1=z)) gs=none:=by
    rw[List.find?_eq_none]
    intro y hy q
    exact h (q4_.mpr ⟨y,hy,by rw[hz] at q;exact q⟩)
   rw[this,Option.none_or,qr_,decide_eq_true (show (s,ns).1=z from hz.symm)]
  ·rw[if_neg hz]
   have:k3_ (fun g:Pat=>decide (g.1=z)) [(s,ns)]=none:=by
    rw[qr_,decide_eq_false (show ¬ (s,ns).1=z from fun q=>hz q.symm)];rfl
   rw[this,Option.or_none]
theorem jgp_ {xs:List Pat}(hx:∀ x∈xs,x.2.length=x.1.length+1):∀ n,n<=xs.length->∀(z:List Nat),
  (z1_ (grt (xs.take n)) z=none->∀ x∈xs.take n,x.1≠z)/\(∀ g,z1_ (grt (xs.take n)) z=some g->g.2.length=z.length+1/\∀(j:Nat) (c:Int),j < z.length+1->(g.2.getD j 0<=c↔∀ x∈xs.take n,x.1=z->x.2.getD j 0<=c))
 | 0,_,z=>⟨fun _ x hx=>(by simp at hx),fun g h=>by
   have:z1_ (grt (xs.take 0)) z=none:=rfl
   rw[this] at h;cases h⟩
 | n+1,hn,z=>by
  have ih:=jgp_ hx n (by omega)
  have hn':n < xs.length:=by omega
  have htk:xs.take (n+1)=xs.take n++[xs[n]]:=by rw[p3_,pa_ hn'];rfl
  have hxn:=hx _ (px_ hn')
  rw[htk,jho_]
  generalize xs[n]=x at hxn ⊢
  unfold grtS
  rw[jix_]
  by_cases hz:z=x.1
  ·rw[if_pos hz]
   refine⟨(fun q=>by cases q),fun g q=>?_⟩
   cases q
   obtain⟨ih1,ih2⟩:=ih x.1
   cases e:z1_ (grt (xs.take n)) x.1 with
   | none =>
    have hno:=ih1 e
    show (yo_ x.2 x.2).length=_/\∀(j:Nat) (c:Int),j < _->((yo_ x.2 x.2).getD j 0<=c↔_)
    refine⟨by rw[xj_ rfl,hxn,hz],fun j c hj=>?_⟩
    have hj':j < x.2.length:=by rw[hxn,<- hz];exact hj
    have h1:(yo_ x.2 x.2).getD j 0=x.2.getD j 0:=by
     rw[pf_,vg_ hj' hj',pf_,pa_ hj']
     show mx _ _=_
     unfold mx;split <;> rfl
    rw[h1]
    refine⟨fun h y hy hyz=>?_,fun h=>h x (pe_.mpr (.inr (by simp))) hz.symm⟩
    rcases pe_.mp hy with q | q
    ·exact absurd (hyz.trans hz) (hno y q)
    ·have:y=x:=by simpa using q
     rw[this];exact h
   | some g0 =>
    obtain⟨hl0,hg0⟩:=ih2 g0 e
    have hl:g0.2.length=x.2.length:=by rw[hl0,hxn]
    show (yo_ g0.2 x.2).length=_/\∀(j:Nat) (c:Int),j < _->((yo_ g0.2 x.2).getD j 0<=c↔_)
    refine⟨by rw[xj_ hl,hl0,hz],fun j c hj=>?_⟩
    have hj':j < x.2.length:=by rw[hxn,<- hz];exact hj
    have hj0:j < g0.2.length:=by rw[hl];exact hj'
    have h1:(yo_ g0.2 x.2).getD j 0=mx (g0.2.getD j 0) (x.2.getD j 0):=by
     rw[pf_,vg_ hj0 hj',pf_,pa_ hj0,pf_,pa_ hj'];rfl
    rw[h1,mx_le,hg0 j c (by rw[<- hz];exact hj)]
    refine⟨fun h y hy hyz=>?_,fun h=>⟨fun y hy hyz=>h y (pe_.mpr (.inl hy)) (hyz.trans hz.symm),h x (pe_.mpr (.inr (by simp))) hz.symm⟩⟩
    rcases pe_.mp hy with q | q
    ·exact h.1 y q (hyz.trans hz)
    ·have:y=x:=by simpa using q
     rw[this];exact h.2
  ·rw[if_neg hz]
   obtain⟨ih1,ih2⟩:=ih z
   refine⟨fun q y hy=>?_,fun g q=>⟨(ih2 g q).1,fun j c hj=>?_⟩⟩
   ·rcases pe_.mp hy with h | h
    ·exact ih1 q y h
    ·have:y=x:=by simpa using h
     rw[this];exact fun w=>hz w.symm
   ·rw[(ih2 g q).2 j c hj]
    refine⟨fun h y hy hyz=>?_,fun h y hy=>h y (pe_.mpr (.inl hy))⟩
    rcases pe_.mp hy with h' | h'
    ·exact h y h' hyz
    ·have:y=x:=by simpa using h'
     rw[this] at hyz;exact absurd hyz.symm hz
theorem ui_ {xs:List Pat}(hx:∀ x∈xs,x.2.length=x.1.length+1)(t:List Nat)(back:Nat)(c:Int) :
  tAE (grt xs) t back (t.length+1 - back)<=c↔0<=c/\∀ x∈xs,x.1 <:+ t->back<=x.1.length->x.2.getD (x.1.length - back) 0<=c:=by
 have hg:=jgp_ hx xs.length (po_ _)
 rw[py_] at hg
 rw[jod_]
 refine and_congr_right fun h0=>⟨fun h x hxm hs hb=>?_,fun h j hj g hgj=>?_⟩
 ·have hl:=hs.length_le
  have he:t.drop (t.length - (back+(x.1.length - back)))=x.1:=by
   rw[show back+(x.1.length - back)=x.1.length by omega]
   exact(s2_.mp hs).symm
  have h1:=h (x.1.length - back) (by omega)
  rw[he] at h1
  cases e:z1_ (grt xs) x.1 with
  | none=>exact absurd rfl ((hg x.1).1 e x hxm)
  | some g=>exact(((hg x.1).2 g e).2 (x.1.length - back) c (by omega)).mp (h1 g e) x hxm rfl
 ·have hdl:(t.drop (t.length - (back+j))).length=back+j:=by rw[qh_];omega
  refine(((hg _).2 g hgj).2 j c (by rw[hdl];omega)).mpr fun x hxm hxe=>?_
  have hxl:x.1.length=back+j:=by rw[hxe,hdl]
  have:=h x hxm (by rw[hxe];exact wu_ _ _) (by omega)
  rw[show x.1.length - back=j by omega] at this
  exact this
theorem mem_places {p f:List Nat}{b:Nat}:b∈xb_ p f↔b < f.length/\b+p.length<=f.length/\(f.drop b).take p.length=p:=by
 unfold xb_ fits
 rw[r3_,rl_]
 simp
theorem yw_ {xs:List Pat}(hx:∀ x∈xs,x.2.length=x.1.length+1)(hne:∀ x∈xs,x.1≠[]){rd T:List Nat}{c:Nat}{back p:Nat}
  (hT:∀ x∈xs,x.1 <:+ rd++[c]->x.1 <:+ T) (hT2:T <:+ rd++[c]) (hp:p+back=rd.length+1) :
  numA (rd++[c]) p 0 xs=mx (numA rd p 0 xs) (tAE (grt xs) T back (T.length+1 - back)):=by
 have hfl:(rd++[c]).length=rd.length+1:=by simp
 apply tw_
 ·rw[xf_]
  have ht:=(ui_ hx T back _).mp (sx_ _)
  refine⟨tc_ ht.1 (mx_r _ _),fun v hv=>?_⟩
  obtain⟨x,hxm,b,hb,hb1,hb2,rfl⟩:=hv
  obtain⟨h1,h2,h3⟩:=mem_places.mp hb
  have hxl:=hx x hxm
  have hx1:=q6_.mpr (hne x hxm)
  by_cases hle:b+x.1.length<=rd.length
  ·refine tc_ (uk_ ⟨x,hxm,b,mem_places.mpr ⟨by omega,hle,?_⟩,hb1,hb2,rfl⟩) (mx_l _ _)
   rw[<- h3,q5_ (by omega),rk_ (by rw[qh_];omega),p2_,Nat.min_eq_left (by rw[qh_];omega)]
  ·have hs:x.1 <:+ rd++[c]:=by
    rw[<- h3,rr_ (by rw[qh_];omega)]
    exact wu_ _ _
   have:=ht.2 x hxm (hT x hxm hs) (by omega)
   rw[show x.1.length - back=p - b by omega] at this
   exact tc_ this (mx_r _ _)
 ·rw[mx_le]
  constructor
  ·rw[xf_]
   refine⟨x7_,fun v hv=>?_⟩
   obtain⟨x,hxm,b,hb,hb1,hb2,rfl⟩:=hv
   obtain⟨h1,h2,h3⟩:=mem_places.mp hb
   refine uk_ ⟨x,hxm,b,mem_places.mpr ⟨by omega,by omega,?_⟩,hb1,hb2,rfl⟩
   rw[q5_ (by omega),rk_ (by rw[qh_];omega)]
   exact h3
  ·rw[ui_ hx]
   refine⟨x7_,fun x hxm hs hb=>?_⟩
   have hs2:=hs.trans hT2
   have hl:=hs2.length_le
   have hxl:=hx x hxm
   have hx1:=q6_.mpr (hne x hxm)
   refine uk_ ⟨x,hxm,rd.length+1 - x.1.length,mem_places.mpr ⟨by omega,by omega,?_⟩,by omega,by omega,by congr 1;omega⟩
   have:=s2_.mp hs2
   rw[hfl] at this
   rw[<- this,py_]
theorem jgq_ {xs:List Pat}(hx:∀ x∈xs,x.2.length=x.1.length+1){rd:List Nat}{p:Nat}(hp:rd.length < p):numA rd p 0 xs=0:=by
 apply tw_
 ·rw[xf_]
  refine⟨sx_ _,fun v hv=>?_⟩
  obtain⟨x,hxm,b,hb,hb1,hb2,rfl⟩:=hv
  obtain⟨h1,h2,h3⟩:=mem_places.mp hb
  have:=hx x hxm
  omega
 ·exact x7_
end L2
namespace L2
theorem jab_ {xs ys:List Pat}(hx:∀ x∈xs,x.2.length=x.1.length+1)(hne:∀ x∈xs,x.1≠[])(hxy:∀ x∈xs,x∈ys){rd rest:List Nat}{p:Nat}(hs:(jp_ (begs ys) rd).length+p < rd.length) :
  numA (rd++rest) p 0 xs=numA rd p 0 xs:=by
 apply tw_
 ·rw[xf_]
  refine⟨x7_,fun v hv=>?_⟩
  obtain⟨x,hxm,b,hb,hb1,hb2,rfl⟩:=hv
  obtain⟨h1,h2,h3⟩:=mem_places.mp hb
  have hxl:=hx x hxm
  have hx1:=q6_.mpr (hne x hxm)
  by_cases hle:b+x.1.length<=rd.length
  ·refine uk_ ⟨x,hxm,b,mem_places.mpr ⟨by omega,hle,?_⟩,hb1,hb2,rfl⟩
   rw[q5_ (by omega),rk_ (by rw[qh_];omega)] at h3
   exact h3
  ·exfalso
   have hpre:rd.drop b <+: x.1:=by
    rw[<- h3,q5_ (by omega),List.take_append,rr_ (by rw[qh_];omega)]
    exact List.prefix_append _ _
   have hn:rd.drop b≠[]:=fun z=>by
    have:=congrArg List.length z
    rw[qh_,qm_] at this
    omega
   have hm:rd.drop b∈begs ys:=(yq_ hn).mpr ⟨x,hxy x hxm,hpre⟩
   have:=(ya_ hm (wu_ b rd)).length_le
   rw[qh_] at this
   omega
 ·rw[xf_]
  refine⟨x7_,fun v hv=>?_⟩
  obtain⟨x,hxm,b,hb,hb1,hb2,rfl⟩:=hv
  obtain⟨h1,h2,h3⟩:=mem_places.mp hb
  refine uk_ ⟨x,hxm,b,mem_places.mpr ⟨by rw[pg_];omega,by rw[pg_];omega,?_⟩,hb1,hb2,rfl⟩
  rw[q5_ (by omega),rk_ (by rw[qh_];omega)]
  exact h3
end L2
namespace L2
theorem jcu_ {α:Type} [DecidableEq α]:∀{l B:List α},l.Nodup->(∀ a∈l,a∈B)->l.length<=B.length
 | [],B,_,_=>qz_ _
 | a::l,B,hn,h=>by
  have hn:=si_.mp hn
  have ha:=h a pm_
  have ih:=jcu_ (B:=B.erase a) hn.2 fun b hb=>(kl_ (fun z:b=a=>hn.1 (by rw[<- z];exact hb))).mpr (h b (pj_ _ hb))
  have hl:=wh_ ha
  have:=List.length_pos_of_mem ha
  rw[ps_];omega
end L2
namespace L2
open PySem
open Sem (wp)
structure ZA (z TI TO i1 i2:Addr)(f1 f2:List Addr):Prop where
 TIz:TI≠z
 TOz:TO≠z
 i1z:i1≠z
 i2z:i2≠z
 TITO:TI≠TO
 TIi1:TI≠i1
 TIi2:TI≠i2
 TOi1:TO≠i1
 TOi2:TO≠i2
 i12:i1≠i2
 zf1:z∉f1
 zf2:z∉f2
 of1:TO∉f1
 of2:TO∉f2
 i1f2:i1∉f2
 i2f1:i2∉f1
theorem Draws.still {P:Program}{w:World}{A:Around}{it c:Addr}{fp:List Addr}{n i:Nat}{Pv:Nat->Value->Prop}{St:Nat->Heap->Prop}{h h':Heap}(D:Draws P w A it fp n Pv St)(st:St i h)(k:Heap.ExtBut c h h')(hc:c∉fp):St i h' :=
 D.frame _ _ _ st fun b hb o e=>k b o (fun z=>hc (z▸hb)) e
section
variable {prog:Program}{w:World}{A:Around}{E:Value->Shared->Prop}{s:Shared}
theorem jmy_ {z TI TO i1 i2:Addr}{f1 f2:List Addr}{n1 n2 k1 k2:Nat}{P1 P2:Nat->Value->Prop}{S1 S2:Nat->Heap->Prop}{a b:Value}{Q:Value->Shared->Prop}
  (D1:Draws prog w A i1 f1 n1 P1 S1) (D2:Draws prog w A i2 f2 n2 P2 S2) (Z:ZA z TI TO i1 i2 f1 f2)
  (hz:IsZip s.heap z TI TO .none) (hTI:IsPair s.heap TI (.ref i1) (.ref i2)) (hTO:IsPair s.heap TO a b) (h1:S1 k1 s.heap) (h2:S2 k2 s.heap) (l1:k1 < n1) (l2:k2 < n2)
  (hQ:∀ x y h' tk,P1 k1 x->P2 k2 y->IsZip h' z TI TO (rawInt s.heap.objs.size)->IsPair h' TO x y->S1 (k1+1) h'->S2 (k2+1) h'->IsPair h' s.heap.objs.size x y ->
   (∀ c o,c≠z->c≠TO->c≠i1->c≠i2->s.heap.get? c=some o->h'.get? c=some o)->Q (.ref s.heap.objs.size) { s with heap:=h',toks:=tk }) :
  wpAny (model prog w) A (Builtin.«zip.__next__» ⟨[.ref z],[]⟩) (fun fin s'=>∃ v,fin=.done (.ret v)/\Q v s') E s:=by
 show wpAny _ _ (field (.ref z) 2 >>= _) _ _ _
 refine wpAny_bind (wpAny_field hz rfl (x:=.bool false) rfl ?_)
 show wpAny _ _ (field (.ref z) 3 >>= _) _ _ _
 refine wpAny_bind (wpAny_field hz rfl (x:=.ref TI) rfl (wpAny_bind (wpAny_seqItems hTI rfl ?_)))
 show wpAny _ _ (pz_ (.ref z) >>= _) _ _ _
 refine wpAny_bind ?_
 unfold pz_
 refine wpAny_bind (wpAny_field hz rfl (x:=.none) rfl (wpAny_pure ?_))
 simp only[if_true]
 refine wpAny_bind (wpAny_rule (wpAny_bind (wpAny_field hz rfl (x:=.ref TO) rfl (wpAny_bind (wpAny_setField_rec hz (by simp) fun g1 zg1 b1=>?_)))))
 have zg1':IsZip g1 z TI TO .ellipsis:=zg1
 refine wpAny_bind ?_
 simp only[ti_,tx_,rp_,r2_]
 refine wpAny_bind (wpAny_bind (wpAny_onRaise ?_))
 show wpAny _ _ (p1_ (.ref i1) >>= _) _ _ _
 refine wpAny_bind (D1.item k1 _ _ _ l1 (Draws.still D1 h1 b1.extBut Z.zf1) fun x g2 tk1 hx h1' b2=>wpAny_pure ?_)
 have to2:IsPair g2 TO a b:=b2.extBut _ _ Z.TOi1 (b1.extBut _ _ Z.TOz hTO)
 refine wpAny_bind (wpAny_seqItems to2 rfl (wpAny_bind (wpAny_updateSeq_pair to2 fun g3 to3 b3=>?_)))
 have to3':IsPair g3 TO x b:=to3
 refine wpAny_bind (wpAny_letGo (wpAny_pure ?_))
 refine wpAny_bind (wpAny_bind (wpAny_onRaise ?_))
 show wpAny _ _ (p1_ (.ref i2) >>= _) _ _ _
 refine wpAny_bind (D2.item k2 _ _ _ l2 (Draws.still D2 (Draws.still D2 (Draws.still D2 h2 b1.extBut Z.zf2) b2.extBut Z.i1f2) b3.extBut Z.of2) fun y g4 tk2 hy h2' b4=>wpAny_pure ?_)
 have to4:IsPair g4 TO x b:=b4.extBut _ _ Z.TOi2 to3'
 refine wpAny_bind (wpAny_seqItems to4 rfl (wpAny_bind (wpAny_updateSeq_pair to4 fun g5 to5 b5=>?_)))
 have to5':IsPair g5 TO x y:=to5
 refine wpAny_bind (wpAny_letGo (wpAny_pure (wpAny_pure ?_)))
 refine wpAny_bind (wpAny_seqItems to5' rfl (wpAny_bind (wpAny_newTuple ?_)))
 have sz:g5.objs.size=s.heap.objs.size:=by rw[b5.1,b4.1,b3.1,b2.1,b1.1]
 have zg5:IsZip g5 z TI TO .ellipsis:=b5.extBut _ _ Z.TOz.symm (b4.extBut _ _ Z.i2z.symm (b3.extBut _ _ Z.TOz.symm (b2.extBut _ _ Z.i1z.symm zg1')))
 have kp:∀ c o,c≠z->c≠TO->c≠i1->c≠i2->s.heap.get? c=some o->g5.get? c=some o:=fun c o c1 c2 c3 c4 e =>
  b5.extBut _ _ c2 (b4.extBut _ _ c4 (b3.extBut _ _ c2 (b2.extBut _ _ c3 (b1.extBut _ _ c1 e))))
 have s1:S1 (k1+1) g5:=Draws.still D1 (Draws.still D1 (Draws.still D1 h1' b3.extBut Z.of1) b4.extBut Z.i2f1) b5.extBut Z.of1
 have s2:S2 (k2+1) g5:=Draws.still D2 h2' b5.extBut Z.of2
 have zlt:z < g5.objs.size:=pt_ zg5
 show wpAny _ _ (q2_ (.ref z) (.ref g5.objs.size) >>= _) _ _ _
 refine wpAny_bind ?_
 unfold q2_
 have zg6:IsZip (g5.push { cls:=.type "tuple",data:=.seq #[x,y] }) z TI TO .ellipsis:=pd_ _ zg5
 refine wpAny_bind (wpAny_setField_rec zg6 (by simp) fun g7 zg7 b7=>?_)
 have zg7':IsZip g7 z TI TO (rawInt g5.objs.size):=zg7
 refine wpAny_setField_rec zg7' (by simp) fun g8 zg8 b8=>?_
 have zg8':IsZip g8 z TI TO (rawInt g5.objs.size):=zg8
 have up:∀ c o,c≠z->g5.get? c=some o->g8.get? c=some o:=fun c o c1 e=>b8.extBut _ _ c1 (b7.extBut _ _ c1 (pd_ _ e))
 have tp:IsPair g8 g5.objs.size x y:=b8.extBut _ _ (t2_ zlt) (b7.extBut _ _ (t2_ zlt) (pv_ _ rfl))
 rw[sz] at zg8' tp
 refine wpAny_pure ⟨_,rfl,?_⟩
 show Q (.ref g5.objs.size) _
 rw[sz]
 exact hQ x y g8 _ hx hy zg8' (up _ _ Z.TOz to5') (D1.frame _ _ _ s1 fun c hc o e=>up c o (fun q=>Z.zf1 (q▸hc)) e) (D2.frame _ _ _ s2 fun c hc o e=>up c o (fun q=>Z.zf2 (q▸hc)) e) tp fun c o c1 c2 c3 c4 e=>up c o c1 (kp c o c1 c2 c3 c4 e)
theorem jpq_ {z TI TO i1 i2:Addr}{f1 f2:List Addr}{n1 n2 k:Nat}{P1 P2:Nat->Value->Prop}{S1 S2:Nat->Heap->Prop}{a b:Value}{Q:Fin->Shared->Prop}
  (D1:Draws prog w A i1 f1 n1 P1 S1) (D2:Draws prog w A i2 f2 n2 P2 S2) (Z:ZA z TI TO i1 i2 f1 f2)
  (hz:IsZip s.heap z TI TO .none) (hTI:IsPair s.heap TI (.ref i1) (.ref i2)) (hTO:IsPair s.heap TO a b) (h1:S1 k s.heap) (h2:S2 k s.heap) (hk:k=min n1 n2)
  (hE:∀ h' e tk,(∀ c o,c≠z->c≠TO->c≠i1->c≠i2->s.heap.get? c=some o->h'.get? c=some o)->(∃ o,h'.get? e=some o/\o.cls=.type "StopIteration")->E (.ref e) { s with heap:=h',toks:=tk }) :
  wpAny (model prog w) A (Builtin.«zip.__next__» ⟨[.ref z],[]⟩) Q E s:=by
 show wpAny _ _ (field (.ref z) 2 >>= _) _ _ _
 refine wpAny_bind (wpAny_field hz rfl (x:=.bool false) rfl ?_)
 show wpAny _ _ (field (.ref z) 3 >>= _) _ _ _
 refine wpAny_bind (wpAny_field hz rfl (x:=.ref TI) rfl (wpAny_bind (wpAny_seqItems hTI rfl ?_)))
 show wpAny _ _ (pz_ (.ref z) >>= _) _ _ _
 refine wpAny_bind ?_
 unfold pz_
 refine wpAny_bind (wpAny_field hz rfl (x:=.none) rfl (wpAny_pure ?_))
 simp only[if_true]
 refine wpAny_bind (wpAny_rule (wpAny_bind (wpAny_field hz rfl (x:=.ref TO) rfl (wpAny_bind (wpAny_setField_rec hz (by simp) fun g1 zg1 b1=>?_)))))
 have zg1':IsZip g1 z TI TO .ellipsis:=zg1
 refine wpAny_bind ?_
 simp only[ti_,tx_,rp_,r2_]
 refine wpAny_bind (wpAny_bind (wpAny_onRaise ?_))
 show wpAny _ _ (p1_ (.ref i1) >>= _) _ _ _
 have h1g:=Draws.still D1 h1 b1.extBut Z.zf1
 by_cases c:n1<=n2
 ·have e:k=n1:=by omega
  subst e
  refine wpAny_bind (D1.done _ _ _ h1g fun g2 e b2 he=>?_)
  obtain⟨oe,hoe,hce⟩:=he
  have zg2:IsZip g2 z TI TO .ellipsis:=b2 _ _ Z.i1z.symm zg1'
  have hez:e≠z:=fun x=>by subst x;rw[zg2] at hoe;cases hoe;simp at hce
  exact wpAny_setField_rec zg2 (by simp) fun g3 _ b3=>hE g3 e _ (fun c o c1 _ c3 _ x=>b3.extBut _ _ c1 (b2 _ _ c3 (b1.extBut _ _ c1 x))) ⟨oe,b3.extBut _ _ hez hoe,hce⟩
 ·have e:k=n2:=by omega
  subst e
  refine wpAny_bind (D1.item k _ _ _ (by omega) h1g fun x g2 tk1 hx h1' b2=>wpAny_pure ?_)
  have to2:IsPair g2 TO a b:=b2.extBut _ _ Z.TOi1 (b1.extBut _ _ Z.TOz hTO)
  refine wpAny_bind (wpAny_seqItems to2 rfl (wpAny_bind (wpAny_updateSeq_pair to2 fun g3 to3 b3=>?_)))
  refine wpAny_bind (wpAny_letGo (wpAny_pure ?_))
  refine wpAny_bind (wpAny_bind (wpAny_onRaise ?_))
  show wpAny _ _ (p1_ (.ref i2) >>= _) _ _ _
  refine wpAny_bind (D2.done _ _ _ (Draws.still D2 (Draws.still D2 (Draws.still D2 h2 b1.extBut Z.zf2) b2.extBut Z.i1f2) b3.extBut Z.of2) fun g4 e b4 he=>?_)
  obtain⟨oe,hoe,hce⟩:=he
  have zg4:IsZip g4 z TI TO .ellipsis:=b4 _ _ Z.i2z.symm (b3.extBut _ _ Z.TOz.symm (b2.extBut _ _ Z.i1z.symm zg1'))
  have hez:e≠z:=fun x=>by subst x;rw[zg4] at hoe;cases hoe;simp at hce
  exact wpAny_setField_rec zg4 (by simp) fun g5 _ b5=>hE g5 e _ (fun c o c1 c2 c3 c4 x=>b5.extBut _ _ c1 (b4 _ _ c4 (b3.extBut _ _ c2 (b2.extBut _ _ c3 (b1.extBut _ _ c1 x))))) ⟨oe,b5.extBut _ _ hez hoe,hce⟩
end
theorem jes_ {h:Heap}{l:Addr}{ys:Array Value}(hl:h.IsTuple l ys)(o:Obj):(h.push o).IsTuple l ys:=by
 obtain⟨u,e,r⟩:=hl
 exact⟨u,pd_ _ e,r⟩
set_option maxHeartbeats 4000000 in
section
variable {prog:Program}{w:World}{A:Around}{E:Value->Shared->Prop}{s:Shared}
end
end L2
namespace L2
open PySem PySem.Spec PyProof.Rows
noncomputable def Izp (xs ys:List V)(ok:Hp->Prop):It :=
 ⟨fun i H=>ok H/\i < xs.length/\i < ys.length,fun i H x H'=>∃ T u v,H T=none/\xs[i]?=some u/\ys[i]?=some v/\x=.ref T/\H'=upd H T (PrX T [u,v]),fun i H=>ok H/\i=min xs.length ys.length⟩
theorem zn1 {n i j:Nat}(h:i≠j):n+i≠n+j:=by omega
theorem zn2 {n j:Nat}(h:0≠j):n≠n+j:=by omega
theorem zn3 {n j:Nat}(h:0≠j):n+j≠n:=by omega
section
variable {X:Cx}
end
theorem jro_ {xs ys:List V}{ok:Hp->Prop}{p:Addr}{g:TG}{tc:TT}{te:TE}{Q:VK}{σ0:St}{H0:Hp}(n:Nat)(hn:n=min xs.length ys.length)(Pv:Nat->List V->St->Hp->Prop)
  (hok:∀ i acc σ H,i<=n->Pv i acc σ H->ok H) (h0:Pv 0 [] σ0 H0) (hp:∀ i acc σ H,Pv i acc σ H->H p=some (.lst acc)/\acc.length<=i) (hz:n<=sizeLine)
  (hs:∀ i u v acc σ H T,xs[i]?=some u->ys[i]?=some v->Pv i acc σ H->H T=none->g (.ref T) σ (upd H T (PrX T [u,v])) fun σ3 H3=>tc σ3 H3 fun bb H4 =>
   if bb=true then te σ3 H4 fun v H5=>H5 p=some (.lst acc)/\Pv (i+1) (acc++[v]) σ3 (upd H5 p (.lst (acc++[v]))) else Pv (i+1) acc σ3 H4)
  (hd:∀ acc σ H,Pv n acc σ H->Q (.ref p) H):yp_ (Izp xs ys ok) p g tc te Q σ0 H0:=by
 refine⟨fun i m acc σ H=>m=n - i/\i<=n/\Pv i acc σ H,⟨n,by simp,qz_ _,h0⟩,fun i m acc σ' H' w=>?_⟩
 obtain⟨rfl,hi,q⟩:=w
 obtain⟨q1,q2⟩:=hp i acc σ' H' q
 have ho:=hok i acc σ' H' hi q
 refine⟨q1,?_⟩
 by_cases hlt:i < n
 ·refine .inr ⟨⟨ho,by omega,by omega⟩,by omega,Pv (i+1),fun a' σ3 H3 k=>⟨n - (i+1),by omega,rfl,hlt,k⟩,fun x H2 y=>?_⟩
  obtain⟨T,u,v,hT,hu,hv,rfl,rfl⟩:=y
  exact hs i u v acc σ' H' T hu hv q hT
 ·have e:i=n:=by omega
  subst e
  exact .inl ⟨⟨ho,hn⟩,hd acc σ' H' q⟩
end L2
namespace L2
open PySem
section
variable {prog:Program}{w:World}{A:Around}{E:Value->Shared->Prop}{s:Shared}
noncomputable def y9_ (T:Addr)(f:Bool)(TI TO:Addr):Obj:={ cls:=.type "zip",dict:=none,data:=.fields #[rawInt T,.bool f,.bool false,.ref TI,.ref TO],slots:=#[] }
theorem jja_ {M:Model}{a:Addr}{o:Obj}{Q:Option Obj->Shared->Prop}(h:s.heap.get? a=some o)(q:Q (some o) s):wpAny M A (loadIfAlive a) Q E s:=fun Γ p hΓ=>by
 show PySem.Sem.wp M Γ (.loadIfAlive a .pure) _ _ p s
 rw[wi_,h]
 exact q
theorem jdr_ {z T TI TO:Addr}{f:Bool}{oT:Obj}{Q:Bool->Shared->Prop}(hz:s.heap.get? z=some (y9_ T f TI TO))(hoT:s.heap.get? T=some oT)
  (h:∀ g,g.get? z=some (y9_ T true TI TO)->qv_ z s.heap g->Q false { s with heap:=g }):wpAny (model prog w) A (pz_ (.ref z)) Q E s:=by
 unfold pz_
 refine wpAny_bind (wpAny_field hz rfl (x:=rawInt T) rfl ?_)
 show wpAny _ _ (loadIfAlive (((T:Nat):Int)).toNat >>= _) _ _ _
 rw[r8_]
 refine wpAny_bind (jja_ hoT ?_)
 rw[if_neg (by simp)]
 refine wpAny_bind (wpAny_field hz rfl (x:=.bool f) rfl ?_)
 cases f with
 | false =>
  rw[if_pos (by decide)]
  exact wpAny_bind (wpAny_setField_rec hz (by simp) fun g zg b=>wpAny_pure (h g zg b))
 | true =>
  rw[if_neg (by decide)]
  have e:s={ s with heap:=s.heap }:=by cases s;rfl
  rw[e]
  exact wpAny_pure (h s.heap hz (qv_.refl _ _))
theorem jng_ {z TI TO i1 i2 T:Addr}{f:Bool}{f1 f2:List Addr}{n1 n2 k1 k2:Nat}{P1 P2:Nat->Value->Prop}{S1 S2:Nat->Heap->Prop}{Q:Value->Shared->Prop}
  (D1:Draws prog w A i1 f1 n1 P1 S1) (D2:Draws prog w A i2 f2 n2 P2 S2) (Z:ZA z TI TO i1 i2 f1 f2)
  (hz:s.heap.get? z=some (y9_ T f TI TO)) (hT:∃ o,s.heap.get? T=some o) (hTI:IsPair s.heap TI (.ref i1) (.ref i2)) (h1:S1 k1 s.heap) (h2:S2 k2 s.heap) (l1:k1 < n1) (l2:k2 < n2)
  (hQ:∀ x y h' tk,P1 k1 x->P2 k2 y->h'.get? z=some (y9_ T true TI TO)->S1 (k1+1) h'->S2 (k2+1) h'->IsPair h' s.heap.objs.size x y ->
   (∀ c o,c≠z->c≠i1->c≠i2->s.heap.get? c=some o->h'.get? c=some o)->Q (.ref s.heap.objs.size) { s with heap:=h',toks:=tk }) :
  wpAny (model prog w) A (Builtin.«zip.__next__» ⟨[.ref z],[]⟩) (fun fin s'=>∃ v,fin=.done (.ret v)/\Q v s') E s:=by
 obtain⟨oT,hoT⟩:=hT
 show wpAny _ _ (field (.ref z) 2 >>= _) _ _ _
 refine wpAny_bind (wpAny_field hz rfl (x:=.bool false) rfl ?_)
 show wpAny _ _ (field (.ref z) 3 >>= _) _ _ _
 refine wpAny_bind (wpAny_field hz rfl (x:=.ref TI) rfl (wpAny_bind (wpAny_seqItems hTI rfl ?_)))
 show wpAny _ _ (pz_ (.ref z) >>= _) _ _ _
 refine wpAny_bind (jdr_ hz hoT fun g zg b1=>?_)
 rw[if_neg pi_]
 dsimp only
 rw[<- Array.forIn_toList]
 simp only[rp_,r2_]
 refine wpAny_bind (wpAny_bind (wpAny_bind (wpAny_holding ?_)))
 show wpAny _ _ (p1_ (.ref i1) >>= _) _ _ _
 refine wpAny_bind (D1.item k1 _ _ _ l1 (Draws.still D1 h1 b1.extBut Z.zf1) fun x g2 tk1 hx h1' b2=>wpAny_pure (wpAny_pure ?_))
 dsimp only
 refine wpAny_bind (wpAny_bind (wpAny_holding ?_))
 show wpAny _ _ (p1_ (.ref i2) >>= _) _ _ _
 refine wpAny_bind (D2.item k2 _ _ _ l2 (Draws.still D2 (Draws.still D2 h2 b1.extBut Z.zf2) b2.extBut Z.i1f2) fun y g3 tk2 hy h2' b3=>wpAny_pure (wpAny_pure (wpAny_pure ?_)))
 dsimp only
 have sz:g3.objs.size=s.heap.objs.size:=by rw[b3.1,b2.1,b1.1]
 refine wpAny_bind (wpAny_newTuple ?_ (by show 2<=sizeLine;decide))
 refine wpAny_pure ⟨_,rfl,?_⟩
 have zg3:g3.get? z=some (y9_ T true TI TO):=b3.extBut _ _ Z.i2z.symm (b2.extBut _ _ Z.i1z.symm zg)
 have s1:S1 (k1+1) g3:=Draws.still D1 h1' b3.extBut Z.i2f1
 show Q (.ref g3.objs.size) _
 have tp:IsPair (g3.push { cls:=.type "tuple",data:=.seq #[x,y] }) g3.objs.size x y:=pv_ _ rfl
 rw[sz] at tp ⊢
 exact hQ x y _ _ hx hy (pd_ _ zg3) (D1.frame _ _ _ s1 fun c hc o e=>pd_ _ e) (D2.frame _ _ _ h2' fun c hc o e=>pd_ _ e) tp fun c o c1 c3 c4 e=>pd_ _ (b3.extBut _ _ c4 (b2.extBut _ _ c3 (b1.extBut _ _ c1 e)))
noncomputable def zO (f0:Value)(f:Bool)(TI TO:Addr):Obj:={ cls:=.type "zip",dict:=none,data:=.fields #[f0,.bool f,.bool false,.ref TI,.ref TO],slots:=#[] }
theorem jly_ {M:Model}{a:Addr}{Q:Option Obj->Shared->Prop}(h:s.heap.get? a=none)(q:Q none s):wpAny M A (loadIfAlive a) Q E s:=fun Γ p hΓ=>by
 show PySem.Sem.wp M Γ (.loadIfAlive a .pure) _ _ p s
 rw[wi_,h]
 exact q
theorem jcp_ {z T TI TO:Addr}{f:Bool}{Q:Bool->Shared->Prop}(hz:s.heap.get? z=some (y9_ T f TI TO))(hT:s.heap.get? T=none)(h:Q true s):wpAny (model prog w) A (pz_ (.ref z)) Q E s:=by
 unfold pz_
 refine wpAny_bind (wpAny_field hz rfl (x:=rawInt T) rfl ?_)
 show wpAny _ _ (loadIfAlive (((T:Nat):Int)).toNat >>= _) _ _ _
 rw[r8_]
 refine wpAny_bind (jly_ hT ?_)
 rw[if_pos (by simp)]
 exact wpAny_pure h
theorem jnd_ {z TI TO i1 i2 T:Addr}{f:Bool}{f1 f2:List Addr}{n1 n2 k1 k2:Nat}{P1 P2:Nat->Value->Prop}{S1 S2:Nat->Heap->Prop}{a b:Value}{Q:Value->Shared->Prop}
  (D1:Draws prog w A i1 f1 n1 P1 S1) (D2:Draws prog w A i2 f2 n2 P2 S2) (Z:ZA z TI TO i1 i2 f1 f2)
  (hz:s.heap.get? z=some (y9_ T f TI TO)) (hT:s.heap.get? T=none) (hTI:IsPair s.heap TI (.ref i1) (.ref i2)) (hTO:IsPair s.heap TO a b) (h1:S1 k1 s.heap) (h2:S2 k2 s.heap) (l1:k1 < n1) (l2:k2 < n2)
  (hQ:∀ x y h' tk,P1 k1 x->P2 k2 y->h'.get? z=some (y9_ s.heap.objs.size false TI TO)->IsPair h' TO x y->S1 (k1+1) h'->S2 (k2+1) h'->IsPair h' s.heap.objs.size x y ->
   (∀ c o,c≠z->c≠TO->c≠i1->c≠i2->s.heap.get? c=some o->h'.get? c=some o)->Q (.ref s.heap.objs.size) { s with heap:=h',toks:=tk }) :
  wpAny (model prog w) A (Builtin.«zip.__next__» ⟨[.ref z],[]⟩) (fun fin s'=>∃ v,fin=.done (.ret v)/\Q v s') E s:=by
 show wpAny _ _ (field (.ref z) 2 >>= _) _ _ _
 refine wpAny_bind (wpAny_field hz rfl (x:=.bool false) rfl ?_)
 show wpAny _ _ (field (.ref z) 3 >>= _) _ _ _
 refine wpAny_bind (wpAny_field hz rfl (x:=.ref TI) rfl (wpAny_bind (wpAny_seqItems hTI rfl ?_)))
 show wpAny _ _ (pz_ (.ref z) >>= _) _ _ _
 refine wpAny_bind (jcp_ hz hT ?_)
 simp only[if_true]
 refine wpAny_bind (wpAny_rule (wpAny_bind (wpAny_field hz rfl (x:=.ref TO) rfl (wpAny_bind (wpAny_setField_rec hz (by simp) fun g1 zg1 b1=>?_)))))
 have zg1':g1.get? z=some (zO .ellipsis f TI TO):=zg1
 refine wpAny_bind ?_
 simp only[ti_,tx_,rp_,r2_]
 refine wpAny_bind (wpAny_bind (wpAny_onRaise ?_))
 show wpAny _ _ (p1_ (.ref i1) >>= _) _ _ _
 refine wpAny_bind (D1.item k1 _ _ _ l1 (Draws.still D1 h1 b1.extBut Z.zf1) fun x g2 tk1 hx h1' b2=>wpAny_pure ?_)
 have to2:IsPair g2 TO a b:=b2.extBut _ _ Z.TOi1 (b1.extBut _ _ Z.TOz hTO)
 refine wpAny_bind (wpAny_seqItems to2 rfl (wpAny_bind (wpAny_updateSeq_pair to2 fun g3 to3 b3=>?_)))
 have to3':IsPair g3 TO x b:=to3
 refine wpAny_bind (wpAny_letGo (wpAny_pure ?_))
 refine wpAny_bind (wpAny_bind (wpAny_onRaise ?_))
 show wpAny _ _ (p1_ (.ref i2) >>= _) _ _ _
 refine wpAny_bind (D2.item k2 _ _ _ l2 (Draws.still D2 (Draws.still D2 (Draws.still D2 h2 b1.extBut Z.zf2) b2.extBut Z.i1f2) b3.extBut Z.of2) fun y g4 tk2 hy h2' b4=>wpAny_pure ?_)
 have to4:IsPair g4 TO x b:=b4.extBut _ _ Z.TOi2 to3'
 refine wpAny_bind (wpAny_seqItems to4 rfl (wpAny_bind (wpAny_updateSeq_pair to4 fun g5 to5 b5=>?_)))
 have to5':IsPair g5 TO x y:=to5
 refine wpAny_bind (wpAny_letGo (wpAny_pure (wpAny_pure ?_)))
 refine wpAny_bind (wpAny_seqItems to5' rfl (wpAny_bind (wpAny_newTuple ?_)))
 have sz:g5.objs.size=s.heap.objs.size:=by rw[b5.1,b4.1,b3.1,b2.1,b1.1]
 have zg5:g5.get? z=some (zO .ellipsis f TI TO):=b5.extBut _ _ Z.TOz.symm (b4.extBut _ _ Z.i2z.symm (b3.extBut _ _ Z.TOz.symm (b2.extBut _ _ Z.i1z.symm zg1')))
 have kp:∀ c o,c≠z->c≠TO->c≠i1->c≠i2->s.heap.get? c=some o->g5.get? c=some o:=fun c o c1 c2 c3 c4 e =>
  b5.extBut _ _ c2 (b4.extBut _ _ c4 (b3.extBut _ _ c2 (b2.extBut _ _ c3 (b1.extBut _ _ c1 e))))
 have s1:S1 (k1+1) g5:=Draws.still D1 (Draws.still D1 (Draws.still D1 h1' b3.extBut Z.of1) b4.extBut Z.i2f1) b5.extBut Z.of1
 have s2:S2 (k2+1) g5:=Draws.still D2 h2' b5.extBut Z.of2
 have zlt:z < g5.objs.size:=pt_ zg5
 show wpAny _ _ (q2_ (.ref z) (.ref g5.objs.size) >>= _) _ _ _
 refine wpAny_bind ?_
 unfold q2_
 have zg6:(g5.push { cls:=.type "tuple",data:=.seq #[x,y] }).get? z=some (zO .ellipsis f TI TO):=pd_ _ zg5
 refine wpAny_bind (wpAny_setField_rec zg6 (by simp) fun g7 zg7 b7=>?_)
 have zg7':g7.get? z=some (zO (rawInt g5.objs.size) f TI TO):=zg7
 refine wpAny_setField_rec zg7' (by simp) fun g8 zg8 b8=>?_
 have zg8':g8.get? z=some (y9_ g5.objs.size false TI TO):=zg8
 have up:∀ c o,c≠z->g5.get? c=some o->g8.get? c=some o:=fun c o c1 e=>b8.extBut _ _ c1 (b7.extBut _ _ c1 (pd_ _ e))
 have tp:IsPair g8 g5.objs.size x y:=b8.extBut _ _ (t2_ zlt) (b7.extBut _ _ (t2_ zlt) (pv_ _ rfl))
 rw[sz] at zg8' tp
 refine wpAny_pure ⟨_,rfl,?_⟩
 show Q (.ref g5.objs.size) _
 rw[sz]
 exact hQ x y g8 _ hx hy zg8' (up _ _ Z.TOz to5') (D1.frame _ _ _ s1 fun c hc o e=>up c o (fun q=>Z.zf1 (q▸hc)) e) (D2.frame _ _ _ s2 fun c hc o e=>up c o (fun q=>Z.zf2 (q▸hc)) e) tp fun c o c1 c2 c3 c4 e=>up c o c1 (kp c o c1 c2 c3 c4 e)
theorem jop_ {z TI TO i1 i2 T:Addr}{f:Bool}{f1 f2:List Addr}{n1 n2 k:Nat}{P1 P2:Nat->Value->Prop}{S1 S2:Nat->Heap->Prop}{a b:Value}{Q:Fin->Shared->Prop}
  (D1:Draws prog w A i1 f1 n1 P1 S1) (D2:Draws prog w A i2 f2 n2 P2 S2) (Z:ZA z TI TO i1 i2 f1 f2)
  (hz:s.heap.get? z=some (y9_ T f TI TO)) (hT:s.heap.get? T=none) (hTI:IsPair s.heap TI (.ref i1) (.ref i2)) (hTO:IsPair s.heap TO a b) (h1:S1 k s.heap) (h2:S2 k s.heap) (hk:k=min n1 n2)
  (hE:∀ h' e tk,(∀ c o,c≠z->c≠TO->c≠i1->c≠i2->s.heap.get? c=some o->h'.get? c=some o)->(∃ o,h'.get? e=some o/\o.cls=.type "StopIteration")->E (.ref e) { s with heap:=h',toks:=tk }) :
  wpAny (model prog w) A (Builtin.«zip.__next__» ⟨[.ref z],[]⟩) Q E s:=by
 show wpAny _ _ (field (.ref z) 2 >>= _) _ _ _
 refine wpAny_bind (wpAny_field hz rfl (x:=.bool false) rfl ?_)
 show wpAny _ _ (field (.ref z) 3 >>= _) _ _ _
 refine wpAny_bind (wpAny_field hz rfl (x:=.ref TI) rfl (wpAny_bind (wpAny_seqItems hTI rfl ?_)))
 show wpAny _ _ (pz_ (.ref z) >>= _) _ _ _
 refine wpAny_bind (jcp_ hz hT ?_)
 simp only[if_true]
 refine wpAny_bind (wpAny_rule (wpAny_bind (wpAny_field hz rfl (x:=.ref TO) rfl (wpAny_bind (wpAny_setField_rec hz (by simp) fun g1 zg1 b1=>?_)))))
 have zg1':g1.get? z=some (zO .ellipsis f TI TO):=zg1
 refine wpAny_bind ?_
 simp only[ti_,tx_,rp_,r2_]
 refine wpAny_bind (wpAny_bind (wpAny_onRaise ?_))
 show wpAny _ _ (p1_ (.ref i1) >>= _) _ _ _
 have h1g:=Draws.still D1 h1 b1.extBut Z.zf1
 by_cases c:n1<=n2
 ·have e:k=n1:=by omega
  subst e
  refine wpAny_bind (D1.done _ _ _ h1g fun g2 e b2 he=>?_)
  obtain⟨oe,hoe,hce⟩:=he
  have zg2:g2.get? z=some (zO .ellipsis f TI TO):=b2 _ _ Z.i1z.symm zg1'
  have hez:e≠z:=fun x=>by subst x;rw[zg2] at hoe;cases hoe;simp[zO] at hce
  exact wpAny_setField_rec zg2 (by simp) fun g3 _ b3=>hE g3 e _ (fun c o c1 _ c3 _ x=>b3.extBut _ _ c1 (b2 _ _ c3 (b1.extBut _ _ c1 x))) ⟨oe,b3.extBut _ _ hez hoe,hce⟩
 ·have e:k=n2:=by omega
  subst e
  refine wpAny_bind (D1.item k _ _ _ (by omega) h1g fun x g2 tk1 hx h1' b2=>wpAny_pure ?_)
  have to2:IsPair g2 TO a b:=b2.extBut _ _ Z.TOi1 (b1.extBut _ _ Z.TOz hTO)
  refine wpAny_bind (wpAny_seqItems to2 rfl (wpAny_bind (wpAny_updateSeq_pair to2 fun g3 to3 b3=>?_)))
  refine wpAny_bind (wpAny_letGo (wpAny_pure ?_))
  refine wpAny_bind (wpAny_bind (wpAny_onRaise ?_))
  show wpAny _ _ (p1_ (.ref i2) >>= _) _ _ _
  refine wpAny_bind (D2.done _ _ _ (Draws.still D2 (Draws.still D2 (Draws.still D2 h2 b1.extBut Z.zf2) b2.extBut Z.i1f2) b3.extBut Z.of2) fun g4 e b4 he=>?_)
  obtain⟨oe,hoe,hce⟩:=he
  have zg4:g4.get? z=some (zO .ellipsis f TI TO):=b4 _ _ Z.i2z.symm (b3.extBut _ _ Z.TOz.symm (b2.extBut _ _ Z.i1z.symm zg1'))
  have hez:e≠z:=fun x=>by subst x;rw[zg4] at hoe;cases hoe;simp[zO] at hce
  exact wpAny_setField_rec zg4 (by simp) fun g5 _ b5=>hE g5 e _ (fun c o c1 c2 c3 c4 x=>b5.extBut _ _ c1 (b4 _ _ c4 (b3.extBut _ _ c2 (b2.extBut _ _ c3 (b1.extBut _ _ c1 x))))) ⟨oe,b5.extBut _ _ hez hoe,hce⟩
theorem jqb_ {z TI TO i1 i2 T:Addr}{f:Bool}{f1 f2:List Addr}{n1 n2 k:Nat}{P1 P2:Nat->Value->Prop}{S1 S2:Nat->Heap->Prop}{Q:Fin->Shared->Prop}
  (D1:Draws prog w A i1 f1 n1 P1 S1) (D2:Draws prog w A i2 f2 n2 P2 S2) (Z:ZA z TI TO i1 i2 f1 f2)
  (hz:s.heap.get? z=some (y9_ T f TI TO)) (hT:∃ o,s.heap.get? T=some o) (hTI:IsPair s.heap TI (.ref i1) (.ref i2)) (h1:S1 k s.heap) (h2:S2 k s.heap) (hk:k=min n1 n2)
  (hE:∀ h' e tk,(∀ c o,c≠z->c≠TO->c≠i1->c≠i2->s.heap.get? c=some o->h'.get? c=some o)->(∃ o,h'.get? e=some o/\o.cls=.type "StopIteration")->E (.ref e) { s with heap:=h',toks:=tk }) :
  wpAny (model prog w) A (Builtin.«zip.__next__» ⟨[.ref z],[]⟩) Q E s:=by
 obtain⟨oT,hoT⟩:=hT
 show wpAny _ _ (field (.ref z) 2 >>= _) _ _ _
 refine wpAny_bind (wpAny_field hz rfl (x:=.bool false) rfl ?_)
 show wpAny _ _ (field (.ref z) 3 >>= _) _ _ _
 refine wpAny_bind (wpAny_field hz rfl (x:=.ref TI) rfl (wpAny_bind (wpAny_seqItems hTI rfl ?_)))
 show wpAny _ _ (pz_ (.ref z) >>= _) _ _ _
 refine wpAny_bind (jdr_ hz hoT fun g zg b1=>?_)
 rw[if_neg pi_]
 dsimp only
 rw[<- Array.forIn_toList]
 simp only[rp_,r2_]
 refine wpAny_bind (wpAny_bind (wpAny_bind (wpAny_holding ?_)))
 show wpAny _ _ (p1_ (.ref i1) >>= _) _ _ _
 have h1g:=Draws.still D1 h1 b1.extBut Z.zf1
 by_cases c:n1<=n2
 ·have e:k=n1:=by omega
  subst e
  exact wpAny_bind (D1.done _ _ _ h1g fun g2 e b2 he=>hE g2 e _ (fun c o c1 _ c3 _ x=>b2 _ _ c3 (b1.extBut _ _ c1 x)) he)
 ·have e:k=n2:=by omega
  subst e
  refine wpAny_bind (D1.item k _ _ _ (by omega) h1g fun x g2 tk1 hx h1' b2=>wpAny_pure (wpAny_pure ?_))
  dsimp only
  refine wpAny_bind (wpAny_bind (wpAny_holding ?_))
  show wpAny _ _ (p1_ (.ref i2) >>= _) _ _ _
  exact wpAny_bind (D2.done _ _ _ (Draws.still D2 (Draws.still D2 h2 b1.extBut Z.zf2) b2.extBut Z.i1f2) fun g4 e b4 he=>hE g4 e _ (fun c o c1 c2 c3 c4 x=>b4 _ _ c4 (b2.extBut _ _ c3 (b1.extBut _ _ c1 x))) he)
theorem jnf_ {z TI TO i1 i2:Addr}{f1 f2:List Addr}{n1 n2 k1 k2:Nat}{P1 P2:Nat->Value->Prop}{S1 S2:Nat->Heap->Prop}{a b:Value}{Q:Value->Shared->Prop}
  (D1:Draws prog w A i1 f1 n1 P1 S1) (D2:Draws prog w A i2 f2 n2 P2 S2) (Z:ZA z TI TO i1 i2 f1 f2)
  (hz:IsZip s.heap z TI TO .none∨∃ T f,s.heap.get? z=some (y9_ T f TI TO)) (hTI:IsPair s.heap TI (.ref i1) (.ref i2)) (hTO:IsPair s.heap TO a b) (h1:S1 k1 s.heap) (h2:S2 k2 s.heap) (l1:k1 < n1) (l2:k2 < n2)
  (hQ:∀ x y h' tk,P1 k1 x->P2 k2 y->(∃ T f,h'.get? z=some (y9_ T f TI TO))->(∃ a b,IsPair h' TO a b)->S1 (k1+1) h'->S2 (k2+1) h'->IsPair h' s.heap.objs.size x y ->
   (∀ c o,c≠z->c≠TO->c≠i1->c≠i2->s.heap.get? c=some o->h'.get? c=some o)->Q (.ref s.heap.objs.size) { s with heap:=h',toks:=tk }) :
  wpAny (model prog w) A (Builtin.«zip.__next__» ⟨[.ref z],[]⟩) (fun fin s'=>∃ v,fin=.done (.ret v)/\Q v s') E s:=by
 rcases hz with hz | ⟨T,f,hz⟩
 ·exact jmy_ D1 D2 Z hz hTI hTO h1 h2 l1 l2 fun x y h' tk hx hy c1 c2 c3 c4 c5 hk=>hQ x y h' tk hx hy ⟨_,false,c1⟩ ⟨_,_,c2⟩ c3 c4 c5 hk
 ·cases hT:s.heap.get? T with
  | none=>exact jnd_ D1 D2 Z hz hT hTI hTO h1 h2 l1 l2 fun x y h' tk hx hy c1 c2 c3 c4 c5 hk=>hQ x y h' tk hx hy ⟨_,false,c1⟩ ⟨_,_,c2⟩ c3 c4 c5 hk
  | some o=>exact jng_ D1 D2 Z hz ⟨o,hT⟩ hTI h1 h2 l1 l2 fun x y h' tk hx hy c1 c3 c4 c5 hk=>hQ x y h' tk hx hy ⟨_,_,c1⟩ ⟨_,_,hk _ _ Z.TOz Z.TOi1 Z.TOi2 hTO⟩ c3 c4 c5 fun c o c1 _ c3 c4 e=>hk c o c1 c3 c4 e
theorem jpy_ {z TI TO i1 i2:Addr}{f1 f2:List Addr}{n1 n2 k:Nat}{P1 P2:Nat->Value->Prop}{S1 S2:Nat->Heap->Prop}{a b:Value}{Q:Fin->Shared->Prop}
  (D1:Draws prog w A i1 f1 n1 P1 S1) (D2:Draws prog w A i2 f2 n2 P2 S2) (Z:ZA z TI TO i1 i2 f1 f2)
  (hz:IsZip s.heap z TI TO .none∨∃ T f,s.heap.get? z=some (y9_ T f TI TO)) (hTI:IsPair s.heap TI (.ref i1) (.ref i2)) (hTO:IsPair s.heap TO a b) (h1:S1 k s.heap) (h2:S2 k s.heap) (hk:k=min n1 n2)
  (hE:∀ h' e tk,(∀ c o,c≠z->c≠TO->c≠i1->c≠i2->s.heap.get? c=some o->h'.get? c=some o)->(∃ o,h'.get? e=some o/\o.cls=.type "StopIteration")->E (.ref e) { s with heap:=h',toks:=tk }) :
  wpAny (model prog w) A (Builtin.«zip.__next__» ⟨[.ref z],[]⟩) Q E s:=by
 rcases hz with hz | ⟨T,f,hz⟩
 ·exact jpq_ D1 D2 Z hz hTI hTO h1 h2 hk hE
 ·cases hT:s.heap.get? T with
  | none=>exact jop_ D1 D2 Z hz hT hTI hTO h1 h2 hk hE
  | some o=>exact jqb_ D1 D2 Z hz ⟨o,hT⟩ hTI h1 h2 hk hE
end
open PySem.Spec PyProof.Rows
theorem jmg_ {P:Program}{w:World}{K:pc_}{nm:Str}{pos:Pos}{z TI TO i1 i2:Addr}{xs ys:List V}{ok:Hp->Prop}{S1 S2:Nat->Heap->Prop}
  (n1:TI≠z) (n2:TO≠z) (n3:i1≠z) (n4:i2≠z) (n5:TI≠TO) (n6:TI≠i1) (n7:TI≠i2) (n8:TO≠i1) (n9:TO≠i2) (n10:i1≠i2)
  (hD1:∀(X:Cx),X.prog=P->X.w=w->X.K=K->X.calm=true->∀(i:Nat) (pins:List (Addr×Obj)) (s:Shared) (σ:St) (H:Hp),Inv X pins σ H s->ok H->H i1=none->S1 i s.heap->jjy_ P w X.A.in1 i1 xs S1 H i s.heap)
  (hD2:∀(X:Cx),X.prog=P->X.w=w->X.K=K->X.calm=true->∀(i:Nat) (pins:List (Addr×Obj)) (s:Shared) (σ:St) (H:Hp),Inv X pins σ H s->ok H->H i2=none->S2 i s.heap->jjy_ P w X.A.in1 i2 ys S2 H i s.heap)
  (o1:∀ i h,S1 i h->∃ o,h.get? i1=some o/\∀ v,o.data≠.cell v) (o2:∀ i h,S2 i h->∃ o,h.get? i2=some o/\∀ v,o.data≠.cell v)
  (k1:∀ i h h',S1 i h->(∀ o,h.get? i1=some o->h'.get? i1=some o)->S1 i h') (k2:∀ i h h',S2 i h->(∀ o,h.get? i2=some o->h'.get? i2=some o)->S2 i h') :
  Turn P w K (.Name nm pos) (Izp xs ys ok) [z,TI,TO,i1,i2] z (fun i h=>(IsZip h z TI TO .none∨∃ T f,h.get? z=some (y9_ T f TI TO))/\IsPair h TI (.ref i1) (.ref i2)/\(∃ a b,IsPair h TO a b)/\S1 i h/\S2 i h) where
 mem:=by simp
 obj:=fun i h st c hc=>by
  obtain⟨a1,a2,⟨a,b,a3⟩,a4,a5⟩:=st
  simp only[p0_,st_,or_false] at hc
  rcases hc with q | q | q | q | q <;> rw[q]
  ·rcases a1 with a1 | ⟨T,f,a1⟩
   ·exact⟨_,a1,fun v q=>by have q':Data.fields _=Data.cell v:=q;cases q'⟩
   ·exact⟨_,a1,fun v q=>by have q':Data.fields _=Data.cell v:=q;cases q'⟩
  ·exact⟨_,a2,fun v q=>by have q':Data.seq _ _=Data.cell v:=q;cases q'⟩
  ·exact⟨_,a3,fun v q=>by have q':Data.seq _ _=Data.cell v:=q;cases q'⟩
  ·exact o1 i h a4
  ·exact o2 i h a5
 keep:=fun i h h' st kk=>by
  obtain⟨a1,a2,⟨a,b,a3⟩,a4,a5⟩:=st
  exact⟨a1.imp (fun q=>kk z (by simp) _ q) fun⟨T,f,q⟩=>⟨T,f,kk z (by simp) _ q⟩,kk TI (by simp) _ a2,⟨a,b,kk TO (by simp) _ a3⟩,k1 i h h' a4 fun o q=>kk i1 (by simp) o q,k2 i h h' a5 fun o q=>kk i2 (by simp) o q⟩
 item:=by
  intro X hP hw hK hc i pins s σ H E I hf st hg
  subst hP hw hK
  obtain⟨a1,a2,⟨a,b,a3⟩,a4,a5⟩:=st
  obtain⟨hok,hl1,hl2⟩:=hg
  obtain⟨f1,P1,T1,D1,m1,hf1,st1,r1,bk1⟩:=hD1 X rfl rfl rfl hc i pins s σ H I hok (hf i1 (by simp)).1 a4
  obtain⟨f2,P2,T2,D2,m2,hf2,st2,r2,bk2⟩:=hD2 X rfl rfl rfl hc i pins s σ H I hok (hf i2 (by simp)).1 a5
  have out1:∀ c∈[z,TI,TO,i1,i2],c≠i1->c∉f1:=fun c hc hn q=>by
   rcases hf1 c q with e | e
   ·exact hn e
   ·exact e (hf c hc).1
  have out2:∀ c∈[z,TI,TO,i1,i2],c≠i2->c∉f2:=fun c hc hn q=>by
   rcases hf2 c q with e | e
   ·exact hn e
   ·exact e (hf c hc).1
  have Z:ZA z TI TO i1 i2 f1 f2:=⟨n1,n2,n3,n4,n5,n6,n7,n8,n9,n10,out1 z (by simp) n3.symm,out2 z (by simp) n4.symm,out1 TO (by simp) n8,out2 TO (by simp) n9,out2 i1 (by simp) n10,out1 i2 (by simp) n10.symm⟩
  have hTy:s.TypeIs (.ref z) "zip":=by
   rcases a1 with a1 | ⟨T,f,a1⟩
   ·exact⟨_,a1,rfl⟩
   ·exact⟨_,a1,rfl⟩
  have hzlt:z < s.heap.objs.size:=by
   rcases a1 with a1 | ⟨T,f,a1⟩
   ·exact pt_ a1
   ·exact pt_ a1
  unfold pyNext
  refine wpAny_bind (wpAny_attempt (wpAny_callSpecial?_slot (name:=re_ "__next__") hTy s3_ (wpAny_call_entry s3_ hTy F.entry_zip_next
   (jnf_ D1 D2 Z a1 a2 a3 st1 st2 (by omega) (by omega) fun x y h2 tk hx hy c1 c2 c3 c4 c5 hk=>wpAny_pure ?_) (F.args_zip_next_1 _))))
  obtain⟨u,hu,ru⟩:=r1 _ _ hx
  obtain⟨v,hv,rv⟩:=r2 _ _ hy
  refine⟨.ref s.heap.objs.size,rfl,?_⟩
  show wpAny _ _ (pure ()) _ _ _
  have kk:∀ c u,c∉[z,TI,TO,i1,i2]->s.heap.get? c=some u->h2.get? c=some u:=fun c u hc q=>hk c u (fun e=>hc (by simp[e])) (fun e=>hc (by simp[e])) (fun e=>hc (by simp[e])) (fun e=>hc (by simp[e])) q
  have tup2:IsTup h2 s.heap.objs.size #[x,y]:=⟨_,c5,rfl,_,rfl⟩
  refine wpAny_pure ⟨.ref s.heap.objs.size,upd H s.heap.objs.size (PrX s.heap.objs.size [u,v]),I.turnedNew (t':=tk) (po_ _) kk hf ?_,rfl,⟨s.heap.objs.size,u,v,I.hok.fresh (po_ _),hu,hv,rfl,rfl⟩,?_,?_⟩
  ·exact PrX.ok ⟨by show 2<=sizeLine;decide,[x,y],.cons ru (.cons rv .nil),tup2⟩
  ·exact⟨.inr c1,hk _ _ Z.TIz Z.TITO Z.TIi1 Z.TIi2 a2,c2,bk1 _ _ c3,bk2 _ _ c4⟩
  ·intro c hc
   have hlt:c < s.heap.objs.size:=by
    simp only[p0_,st_,or_false] at hc
    rcases hc with q | q | q | q | q <;> rw[q]
    ·exact hzlt
    ·exact pt_ a2
    ·exact pt_ a3
    ·obtain⟨o,ho,_⟩:=o1 i _ a4;exact pt_ ho
    ·obtain⟨o,ho,_⟩:=o2 i _ a5;exact pt_ ho
   rw[ji_ (p6_ hlt)]
   exact(hf c hc).1
 done:=by
  intro X hP hw hK hc i pins s σ H E I hf st hg
  subst hP hw hK
  obtain⟨a1,a2,⟨a,b,a3⟩,a4,a5⟩:=st
  obtain⟨hok,rfl⟩:=hg
  obtain⟨f1,P1,T1,D1,m1,hf1,st1,r1,bk1⟩:=hD1 X rfl rfl rfl hc _ pins s σ H I hok (hf i1 (by simp)).1 a4
  obtain⟨f2,P2,T2,D2,m2,hf2,st2,r2,bk2⟩:=hD2 X rfl rfl rfl hc _ pins s σ H I hok (hf i2 (by simp)).1 a5
  have out1:∀ c∈[z,TI,TO,i1,i2],c≠i1->c∉f1:=fun c hc hn q=>by
   rcases hf1 c q with e | e
   ·exact hn e
   ·exact e (hf c hc).1
  have out2:∀ c∈[z,TI,TO,i1,i2],c≠i2->c∉f2:=fun c hc hn q=>by
   rcases hf2 c q with e | e
   ·exact hn e
   ·exact e (hf c hc).1
  have Z:ZA z TI TO i1 i2 f1 f2:=⟨n1,n2,n3,n4,n5,n6,n7,n8,n9,n10,out1 z (by simp) n3.symm,out2 z (by simp) n4.symm,out1 TO (by simp) n8,out2 TO (by simp) n9,out2 i1 (by simp) n10,out1 i2 (by simp) n10.symm⟩
  have sub:∀ c,c∉[z,TI,TO,i1,i2]->c∉[z,TO,i1,i2]:=fun c hc q=>hc (by simp only[p0_,st_,or_false] at q ⊢;rcases q with q | q | q | q <;> simp[q])
  have hTy:s.TypeIs (.ref z) "zip":=by
   rcases a1 with a1 | ⟨T,f,a1⟩
   ·exact⟨_,a1,rfl⟩
   ·exact⟨_,a1,rfl⟩
  unfold pyNext
  refine wpAny_bind (wpAny_attempt (wpAny_callSpecial?_slot (name:=re_ "__next__") hTy s3_ (wpAny_call_entry s3_ hTy F.entry_zip_next
   (jpy_ D1 D2 Z a1 a2 a3 st1 st2 rfl fun h' e tk hk he=>?_) (F.args_zip_next_1 _))))
  obtain⟨o,ho,hc⟩:=he
  refine wpAny_bind (wpAny_isInstance (T:="StopIteration") (b:=true) ⟨o,ho,hc⟩ isSubtype_stop ?_)
  exact wpAny_pure ⟨rfl,I.turnedL (fun c u hc q=>hk c u (fun e=>hc (by simp[e])) (fun e=>hc (by simp[e])) (fun e=>hc (by simp[e])) (fun e=>hc (by simp[e])) q) hf⟩
 self:=fun A i s Q E st q=>by
  rcases st.1 with a1 | ⟨T,f,a1⟩
  ·exact wpAny_pyIter_zip a1 q
  ·have hTy:s.TypeIs (.ref z) "zip":=⟨_,a1,rfl⟩
   refine wpAny_pyIter_slot hTy F.slot_zip_iter (wpAny_call_entry F.slot_zip_iter hTy F.entry_zip_iter ?_ (F.args_zip_iter_1 _))
   show wpAny _ _ (ret (.ref z)) _ _ s
   exact wpAny_pure ⟨_,rfl,"zip",_,hTy,s3_.lookup,q⟩
end L2
namespace L2
open PySem
open Sem (wp)
noncomputable abbrev zt1 (h:Heap)(l1:Addr):Heap:=h.push { cls:=.type "tuple_iterator",data:=.fields #[.ref l1,.int 0 0] }
noncomputable abbrev zt2 (h:Heap)(l1 l:Addr):Heap:=(zt1 h l1).push { cls:=.type "tuple_iterator",data:=.fields #[.ref l,.int 0 0] }
noncomputable abbrev zt3 (h:Heap)(l1 l:Addr):Heap:=(zt2 h l1 l).push { cls:=.type "tuple",data:=.seq #[.ref h.objs.size,.ref (zt1 h l1).objs.size] }
noncomputable abbrev zt4 (h:Heap)(l1 l:Addr):Heap:=(zt3 h l1 l).push { cls:=.type "tuple",data:=.seq #[.none,.none] }
noncomputable abbrev zt5 (h:Heap)(l1 l:Addr):Heap:=(zt4 h l1 l).push { cls:=.type "zip",data:=.fields #[.none,.bool false,.bool false,.ref (zt2 h l1 l).objs.size,.ref (zt3 h l1 l).objs.size] }
set_option maxHeartbeats 4000000 in
theorem jmq_ (l1 l:Addr)(xs ys:Array Value) :
  Meets (Builtin.«zip.__new__» ⟨[.type "zip",.ref l1,.ref l],[]⟩) (fun _ R s=>s.heap.IsTuple l1 xs/\s.heap.IsTuple l ys /\
   R (.ok (.ret (.ref (zt4 s.heap l1 l).objs.size))) { s with heap:=zt5 s.heap l1 l }) :=
 .of_wp fun prog w A R s h=>by
  obtain⟨hp,g,d,tk,os⟩:=s;obtain⟨hl1,hl,h⟩:=h
  have hsub:=sub_zip
  have hL:Heap.IsTuple (Shared.heap ⟨hp.push { cls:=.type "tuple_iterator",data:=.fields #[.ref l1,.int 0 0] },g,d,tk,os⟩) l ys:=jes_ hl _
  wp_walk using wpAny_pyIter_tuple hl1,wpAny_pyIter_tuple hL
  exact⟨_,rfl,h⟩
section
variable {prog:Program}{w:World}{A:Around}{E:Value->Shared->Prop}{s:Shared}
theorem jil_ {l1 l:Addr}{xs ys:Array Value}{Q:Value->Shared->Prop}(hl1:s.heap.IsTuple l1 xs)(hl:s.heap.IsTuple l ys)
  (h:∀ h',IsZip h' (s.heap.objs.size+4) (s.heap.objs.size+2) (s.heap.objs.size+3) .none->IsPair h' (s.heap.objs.size+2) (.ref s.heap.objs.size) (.ref (s.heap.objs.size+1)) ->
   IsPair h' (s.heap.objs.size+3) .none .none->h'.IsTupleIter s.heap.objs.size l1 0->h'.IsTupleIter (s.heap.objs.size+1) l 0 ->
   (∀ c o,s.heap.get? c=some o->h'.get? c=some o)->Q (.ref (s.heap.objs.size+4)) { s with heap:=h' }) :
  wpAny (model prog w) A (call (.type "zip") [.ref l1,.ref l]) Q E s:=by
 refine callType_new F.called_zip (by decide) (F.typeCall_zip_2 _ _) (F.newCall_zip_2 _ _) (fun obj=>F.args_object_init_3 obj _ _) F.entry_zip_new (jmq_ l1 l xs ys) ⟨hl1,hl,?_⟩
 have z1:(zt1 s.heap l1).objs.size=s.heap.objs.size+1:=qx_ ..
 have z2:(zt2 s.heap l1 l).objs.size=s.heap.objs.size+2:=by rw[qx_,z1]
 have z3:(zt3 s.heap l1 l).objs.size=s.heap.objs.size+3:=by rw[qx_,z2]
 have z4:(zt4 s.heap l1 l).objs.size=s.heap.objs.size+4:=by rw[qx_,z3]
 have p5:(zt5 s.heap l1 l).get? (zt4 s.heap l1 l).objs.size=some _:=pv_ _ rfl
 have p4:(zt5 s.heap l1 l).get? (zt3 s.heap l1 l).objs.size=some _:=pd_ _ (pv_ _ rfl)
 have p3:(zt5 s.heap l1 l).get? (zt2 s.heap l1 l).objs.size=some _:=pd_ _ (pd_ _ (pv_ _ rfl))
 have p2:(zt5 s.heap l1 l).get? (zt1 s.heap l1).objs.size=some _:=pd_ _ (pd_ _ (pd_ _ (pv_ _ rfl)))
 have p1:(zt5 s.heap l1 l).get? s.heap.objs.size=some _:=pd_ _ (pd_ _ (pd_ _ (pd_ _ (pv_ _ rfl))))
 show _/\_
 rw[z2,z3,z4] at p5
 rw[z1,z2] at p3
 rw[z3] at p4
 rw[z1] at p2
 rw[z4]
 exact⟨⟨_,p5,rfl⟩,h _ p5 p3 p4 ⟨_,p1,rfl,rfl⟩ ⟨_,p2,rfl,rfl⟩ fun c o e=>pd_ _ (pd_ _ (pd_ _ (pd_ _ (pd_ _ e))))⟩
end
open PySem.Spec PyProof.Rows
section
variable {X:Cx}
def jhh_ (R:It->Hp->Prop):V->V->Hp->Prop:=fun x y H1=>match x,y with
 | .ref b,.ref a=>∃ xs ys,H1 b=some (.tup xs)/\H1 a=some (.tup ys)/\R (Izp xs ys fun H=>H b=some (.tup xs)/\H a=some (.tup ys)) H1
 | _,_=>False
def jus_ (ta tb:TE):TI:=fun σ H R=>ta σ H fun x H1=>tb σ H1 fun y H2=>jhh_ R x y H2
theorem juc_ {nm:Str}{tpos:Pos}{a b:Expr}{ta tb:TE}{p pos:Pos}(hg:Gl X "zip")(hm:X.mg "zip"=none)(ha:PE X a ta)(hb:PE X b tb)(hs:starEach [a,b] X.env=(false,eval a X.env)::starEach [b] X.env:=by rfl)(hs2:starEach [b] X.env=[(false,eval b X.env)]:=by rfl) :
  PI X (.Name nm tpos) (.Call (.Name "zip" p) [a,b] [] pos) (jus_ ta tb):=by
 intro pins s σ H R I h
 refine Call_ (x1_ I hg hm (by decide +kernel:bootBuiltins "zip"=some (.type "zip")) (qy_ ?_ hs (by rw[hs2];rfl)))
 rw[hs,hs2]
 show wpAny _ _ (spliced ((false,eval a X.env)::backTo pos [(false,eval b X.env)])) _ _ s
 refine rj_ (thn (ha pins s σ H _ I h) fun u s1 ⟨x,H1,I1,ru,q1⟩=>?_)
 show wpAny _ _ (spliced ((false,eval b X.env)::[])) _ _ s1
 refine rj_ (thn (hb pins s1 σ H1 _ I1 q1) fun u2 s2 ⟨y,H2,I2,ru2,q2⟩=>sm_ ?_)
 have q2:jhh_ R x y H2:=q2
 obtain⟨l0,l,rfl,rfl⟩:∃ l0 l,x=.ref l0/\y=.ref l:=by
  unfold jhh_ at q2
  split at q2
  ·exact⟨_,_,rfl,rfl⟩
  ·exact q2.elim
 cases ru
 cases ru2
 obtain⟨xs,ys,hl0,hl,q2⟩:=q2
 obtain⟨its0,rv0,pl0,hz0⟩:=I2.tuple (SqT.of hl0)
 obtain⟨its,rv,pl,hz⟩:=I2.tuple (SqT.of hl)
 refine jil_ pl0 pl fun h1 c1 c2 c3 c4 c5 hk=>?_
 refine wpAny_pyIter_zip c1 ?_
 refine⟨_,[_,_,_,_,_],_,_,H2,rfl,I2.kept (t':=s2.toks) hk,jmg_ (z:=s2.heap.objs.size+4) (TI:=s2.heap.objs.size+2) (TO:=s2.heap.objs.size+3) (i1:=s2.heap.objs.size) (i2:=s2.heap.objs.size+1) (ok:=fun H=>H l0=some (.tup xs)/\H l=some (.tup ys)) (xs:=xs) (ys:=ys)
  (S1:=fun i h=>h.IsTupleIter s2.heap.objs.size l0 i) (S2:=fun i h=>h.IsTupleIter (s2.heap.objs.size+1) l i) (zn1 (by decide)) (zn1 (by decide)) (zn2 (by decide)) (zn1 (by decide)) (zn1 (by decide)) (zn3 (by decide)) (zn1 (by decide)) (zn3 (by decide)) (zn1 (by decide)) (zn2 (by decide)) ?_ ?_ ?_ ?_ ?_ ?_,⟨.inl c1,c2,⟨_,_,c3⟩,c4,c5⟩,?_,q2⟩
 ·intro X' h1 h2 h3 hc i pins s σ H I ok hn st
  exact h1▸h2▸jlk_ hc I (SqT.of ok.1) hn (by rw[ok.1];exact fun z=>nomatch z) st
 ·intro X' h1 h2 h3 hc i pins s σ H I ok hn st
  exact h1▸h2▸jlk_ hc I (SqT.of ok.2) hn (by rw[ok.2];exact fun z=>nomatch z) st
 ·intro i h st
  obtain⟨o,ho,hc,hd⟩:=st
  exact⟨o,ho,fun v q=>by rw[hd] at q;cases q⟩
 ·intro i h st
  obtain⟨o,ho,hc,hd⟩:=st
  exact⟨o,ho,fun v q=>by rw[hd] at q;cases q⟩
 ·intro i h h' st kk
  exact st.at kk
 ·intro i h h' st kk
  exact st.at kk
 ·intro c hc
  have hle:s2.heap.objs.size<=c:=by
   simp only[p0_,st_,or_false] at hc
   rcases hc with q | q | q | q | q <;> rw[q] <;> first | exact Nat.le_add_right _ _ | exact po_ _
  exact I2.fpOk hle (I2.hok.fresh hle)
end
end L2
namespace L2
open PySem PySem.Spec PyProof.Rows
section
variable {X:Cx}
def jzm_ (R:It->Hp->Prop):V->V->Hp->Prop:=fun x y H1=>match x,y with
 | .ref b,.ref a=>∃ xs ys,H1 b=some (.lst xs)/\H1 a=some (.lst ys)/\R (Izp xs ys fun H=>H b=some (.lst xs)/\H a=some (.lst ys)) H1
 | _,_=>False
def jhu_:V->List V->Hp->VK->Prop:=fun x vs H Q=>match x,vs with
 | .ref l,[]=>(match H l with | some (.lst xs)=>Q .non (upd H l (.lst [])) | _=>False)
 | _,_=>False
theorem jsd_:MtR X "list.clear" jhu_:=fun pins s σ H x xs v us Q I rx rs h=>by
 unfold jhu_ at h
 split at h
 ·split at h
  ·rename_i e
   exact jsc_ pins s σ H _ _ v us Q I rx rs ⟨_,_,rfl,rfl,e,h⟩
  ·exact h.elim
 ·exact h.elim
theorem jwq_ {l:Addr}{xs:List V}{H:Hp}{Q:VK}(h1:H l=some (.lst xs))(h:Q .non (upd H l (.lst []))):jhu_ (.ref l) [] H Q:=by
 show (match H l with | some (.lst xs)=>Q .non (upd H l (.lst [])) | _=>False)
 rw[h1];exact h
end
end L2
namespace L2
open PySem PySem.Spec
section
variable {prog:Program}{w:World}{A:Around}{E:Value->Shared->Prop}{s:Shared}
end
end L2
namespace L2
open PySem PySem.Spec PyProof.Rows
section
variable {prog:Program}{w:World}{A:Around}{E:Value->Shared->Prop}{s:Shared}{z TI TO i1 i2 l1 l2 S:Addr}{xs ys:Array Value}{R:Result->Shared->Prop}
end
end L2
namespace L2
open PySem PySem.Spec PyProof.Rows
section
variable {X:Cx}{pins:List (Addr×Obj)}{σ:St}{H H':Hp}{s:Shared}{h':Heap}
end
section
variable {X:Cx}
end
end L2
namespace L2
open PySem PySem.Spec PyProof.Rows
noncomputable def ints?:List V->Option (List Int)
 | []=>some []
 | .int i::r=>(ints? r).map (i::·)
 | _=>none
theorem ints?_of:∀{xs:List V}{ns:List Int},ints? xs=some ns->xs=ns.map V.int
 | [],ns,h=>by cases h;rfl
 | x::r,ns,h=>by
  cases x with
  | int i =>
   simp only[ints?,w0_] at h
   obtain⟨l,hl,rfl⟩:=h
   rw[ints?_of hl];rfl
  | _=>simp[ints?] at h
theorem ints?_map:∀ ns:List Int,ints? (ns.map V.int)=some ns
 | []=>rfl
 | n::ns=>by simp only[pp_,ints?,ints?_map ns];rfl
section
variable {X:Cx}
end
end L2
namespace L2
open PySem
end L2
namespace L2
open PySem PySem.Spec PyProof.Rows
def jpu_ (le:Int->Int->Prop):List V->Hp->VK->Prop:=fun xs H Q=>∃(p:Addr) (ys:List V) (ns:List Int),xs=[.ref p]/\H p=some (PrX p ys)/\ints? ys=some ns/\ns≠[]/\∀ m,m∈ns->(∀ n∈ns,le n m)->Q (.int m) H
theorem jtz_ {le:Int->Int->Prop}{H:Hp}{Q:VK}{p:Addr}{ns:List Int}(h:H p=some (PrX p (ns.map V.int)))(h0:ns≠[])(q:∀ m,m∈ns->(∀ n∈ns,le n m)->Q (.int m) H):jpu_ le [.ref p] H Q:=⟨p,_,ns,rfl,h,ints?_map ns,h0,q⟩
section
variable {X:Cx}
theorem jxq_ (hc:X.calm=true):CallR X (.builtin "max") (jpu_ (·<=·)):=by
 intro pins s σ H xs us Q I r h
 obtain⟨p,ys,ns,rfl,e,en,h0,q⟩:=h
 obtain⟨u,rfl,ru⟩:=vd_ r
 cases ru
 obtain⟨⟨hz,its,rv,pl⟩,_⟩:=(show ObjOk X.prog X.w H s.heap p (PrX p ys) from I.hok p _ e)
 rw[ints?_of en] at rv
 have hlen:=rv.length
 rw[pb_] at hlen
 have hlt:p < s.heap.objs.size:=by obtain⟨o,ho,_⟩:=pl;exact pt_ ho
 have hval:∀(i:Nat) (v:Value),its.toArray[i]?=some v->∃ t,v=.int (ns.getD i 0) t:=fun i v hv=>by
  have hv':its[i]?=some v:=by simpa using hv
  have hil:i < its.length:=(pq_.mp hv').1
  obtain⟨w',hw,t,rfl⟩:=rv.get (i:=i) (x:=V.int (ns.getD i 0)) (by rw[pl_];simp[pf_,show i < ns.length by omega])
  rw[hv'] at hw
  cases hw
  exact⟨t,rfl⟩
 have hpos:0 < ns.length:=q6_.mpr h0
 refine call_max_walk (wpAny_pyIter_tuple pl ?_)
 refine⟨s.heap.objs.size,_,_,_,_,_,_,rfl,Walks.tuple (A:=X.A.in1) (show X.A.in1.handled=none from I.ok.hd hc) s.heap.objs.size p (p6_ hlt) its.toArray,⟨⟨_,pv_ _ rfl,rfl,rfl⟩,?_⟩,?_,?_,CmpOf.ints_gt (fun i=>ns.getD i 0) hval,fun v h' tk hv k=>?_⟩
 ·obtain⟨o,ho,q⟩:=pl
  exact⟨o,pd_ _ ho,q⟩
 ·intro b hb
  have hs:(s.heap.push { cls:=.type "tuple_iterator",data:=.fields #[.ref p,.int 0 0] }).objs.size=s.heap.objs.size+1:=qx_ ..
  show b < (s.heap.push _).objs.size
  rw[hs]
  rcases p0_.mp hb with z | z
  ·rw[z];exact sd_ _
  ·have z':b=p:=by simpa using z
   rw[z'];exact wg_ hlt
 ·rw[pn_];omega
 ·obtain⟨t,rfl⟩:=hval _ _ hv
  rw[pn_]
  obtain⟨b1,b2⟩:=argBest_gt (fun i=>ns.getD i 0) (its.length - 1)
  have I1:Inv X pins σ H { s with heap:=s.heap.push { cls:=.type "tuple_iterator",data:=.fields #[.ref p,.int 0 0] },toks:=s.toks }:=I.kept fun b u q=>pd_ _ q
  have f1:=I.fpOk (H':=H) (b:=s.heap.objs.size) (po_ _) (I.hok.fresh (po_ _))
  refine⟨.int _,H,I1.turned (t':=tk) (it:=s.heap.objs.size) (fun b o hb q=>k b o (by simpa using hb) q) f1.1 f1.2.1 f1.2.2.2.1 f1.2.2.2.2.1 f1.2.2.2.2.2,⟨_,rfl⟩,q _ ?_ fun n hn=>?_⟩
  ·rw[pf_,pa_ (show argBest _ _ < ns.length by omega)]
   exact px_ _
  ·obtain⟨j,hj,rfl⟩:=ty_ hn
   have:=b2 j (by omega)
   rw[pf_ (i:=j),pa_ hj] at this
   exact this
end
end L2
namespace L2
open PySem PySem.Spec PyProof.Rows
def Lay (n:Nat)(d:Dt):Prop:=wa_ (toP d)=true/\k9_ (toP d)<=n
theorem Lay.ok {n:Nat}{d:Dt}(h:Lay n d)(hn:n<=64):okD d:=by
 unfold okD SeqAt.shaped
 rw[h.1,decide_eq_true (qe_ h.2 hn)];rfl
theorem jff_ {n:Nat}:∀{ds:List Dt},(∀ d∈ds,Lay n d)->PyData.canLayAll0 (toPs ds)=true/\PyData.depthAll (toPs ds)<=n
 | [],_=>⟨rfl,qz_ _⟩
 | d::ds,h=>by
  have h1:=h d pm_
  have h2:=jff_ (ds:=ds) fun e he=>h e (pj_ _ he)
  simp only[toPs,PyData.canLayAll0,PyData.depthAll,h1.1,h2.1,Bool.and_self,true_and]
  have:=h1.2
  have:=h2.2
  omega
theorem Lay.lst {n:Nat}{ds:List Dt}(h:∀ d∈ds,Lay n d):Lay (n+1) (.lst ds):=by
 have:=jff_ h
 unfold Lay
 simp only[toP,wa_,k9_,this.1,true_and]
 omega
theorem Lay.tup {n:Nat}{ds:List Dt}(h:∀ d∈ds,Lay n d):Lay (n+1) (.tup ds):=by
 have:=jff_ h
 unfold Lay
 simp only[toP,wa_,k9_,this.1,true_and]
 omega
theorem Lay.mono {n m:Nat}{d:Dt}(h:Lay n d)(hm:n<=m):Lay m d:=⟨h.1,qe_ h.2 hm⟩
theorem Lay.int {i:Int}:Lay 0 (.int i):=⟨rfl,po_ _⟩
theorem Lay.non:Lay 0 .non:=⟨rfl,po_ _⟩
theorem Lay.str {l:List Nat}(h:∀ c∈l,c < 128):Lay 0 (.str (S l)):=by
 refine⟨?_,po_ _⟩
 simp only[toP,wa_]
 unfold PyData.strOk
 rw[<- Array.all_toList]
 show (l.all fun x=>decide (x < 0x110000))=true
 rw[th_]
 intro c hc
 have:=h c hc
 exact decide_eq_true (by omega)
theorem Lay.ints {n:List Int}:∀ d∈n.map Dt.int,Lay 0 d:=fun d hd=>by
 obtain⟨x,_,rfl⟩:=qb_.mp hd
 exact Lay.int
theorem Lay.pat {x:List Nat×List Int}(h:∀ c∈x.1,c < 128):Lay 2 (patD x):=Lay.tup fun d hd=>by
 rcases p0_.mp hd with h1 | h1
 ·rw[h1];exact(Lay.str h).mono (by decide)
 ·have:d=.tup (x.2.map Dt.int):=by simpa using h1
  rw[this];exact Lay.tup Lay.ints
theorem Lay.pats {xs:List (List Nat×List Int)}(h:∀ x∈xs,∀ c∈x.1,c < 128):Lay 3 (x3_ xs):=Lay.lst fun d hd=>by
 obtain⟨x,hx,rfl⟩:=qb_.mp hd
 exact Lay.pat (h x hx)
end L2
namespace L2
open PySem PySem.Spec PyProof.Rows
structure Dm (P:Program)(w:World)(K:pc_)(mg:Str->Option Value)(base:Heap)(C:Addr)(m:Str)(k:Nat)(ps:List Str)(sp:Sp):Prop where
 ex:∃(f:Addr) (fd:FuncData),Meth K C m f/\Binds K fd ps []/\FnOk P w K mg base CX0 k f fd ps sp
structure Dk (P:Program)(w:World)(K:pc_)(mg:Str->Option Value)(base:Heap)(C:Addr)(k:Nat)(ps:List Str)(sp:Sp):Prop where
 ex:∃(f:Addr) (fd:FuncData),Mk K C f/\Binds K fd ps []/\FnOk P w K mg base CX0 k f fd ps sp
section
variable {X:Cx}{k:Nat}{C:Addr}{ps:List Str}{sp:Sp}{x m:Str}{p pos apos:Pos}{e o:Expr}{es:List Expr}{ta:TE}{t:TA}
theorem xl_ {pl:Sem Bool}(he:PE X o ta)(c:Cls X.K C)(D:Dm X.prog X.w X.K X.mg X.base C m k ps sp)(hr:Room k X.A)(ha:PA X (e::es) t)
  (hst:starEach (e::es) X.env=(false,eval e X.env)::starEach es X.env:=by rfl) (hpl:(backTo pos (starEach es X.env)).any (·.1)=false:=by rfl)
  (ht:eval (.Call (.Attribute o m apos) (e::es) [] pos) X.env=(do
   let ov <- eval o X.env
   standAt apos.atName
   let (f,first) <- holding [ov] (getMethod ov m pl)
   callWith pos f first (backTo pos (starEach (e::es) X.env)) (backToKw pos (keywordEach [] X.env))):=by rfl) :
  PE X (.Call (.Attribute o m apos) (e::es) [] pos) (jhe_ C m sp [] E0 ta t):=by
 obtain⟨f,fd,h1,h2,h3⟩:=D.ex
 exact jsq_ he c h1 h3 hr h2 .nil jkw_ ha hst hpl ht
theorem jmf_ {pl:Sem Bool}(he:PE X o ta)(c:Cls X.K C)(D:Dm X.prog X.w X.K X.mg X.base C m k ps sp)(hr:Room k X.A)
  (ht:eval (.Call (.Attribute o m apos) [] [] pos) X.env=(do
   let ov <- eval o X.env
   standAt apos.atName
   let (f,first) <- holding [ov] (getMethod ov m pl)
   callWith pos f first (backTo pos (starEach [] X.env)) (backToKw pos (keywordEach [] X.env))):=by rfl) :
  PE X (.Call (.Attribute o m apos) [] [] pos) (jhe_ C m sp [] E0 ta tNil):=by
 obtain⟨f,fd,h1,h2,h3⟩:=D.ex
 exact jny_ he c h1 h3 hr h2 .nil jkw_ ht
theorem joq_ (D:Dk X.prog X.w X.K X.mg X.base C k ps sp)(hr:Room (k+1) X.A)(hg:Gl X x)(hm:X.mg x=some (.ref C))(ha:PA X (e::es) t)
  (hdb:(x == ("__debug__":Str))=false:=by decide) (he:starEach (e::es) X.env=(false,eval e X.env)::starEach es X.env:=by rfl) (hpl:(backTo pos (starEach es X.env)).any (·.1)=false:=by rfl) :
  PE X (.Call (.Name x p) (e::es) [] pos) (jqt_ C sp [] E0 t):=by
 obtain⟨f,fd,h1,h2,h3⟩:=D.ex
 exact jub_ h1 h3 hr hg hm h2 .nil jkw_ ha hdb he hpl
end
section
variable {σ:St}{H:Hp}{Q:VK}{D:Ends}
theorem x8_ {C:Addr}{m:Str}{sp:Sp}{E:XK}{ta:TE}{t:TA}(h:ta σ H fun x H1=>∃ a dx fs,x=.ref a/\H1 a=some (.ins C dx fs)/\fs.lookup m=none/\t σ H1 fun vs H2=>sp (x::(vs++[])) H2 Q E):jhe_ C m sp [] E ta t σ H Q:=h
theorem x4_ {a C dx:Addr}{fs:List (Str×V)}{m:Str}{R:Prop}(h1:H a=some (.ins C dx fs))(h2:fs.lookup m=none)(h:R):∃ a' dx' fs',V.ref a=.ref a'/\H a'=some (.ins C dx' fs')/\fs'.lookup m=none/\R:=⟨a,dx,fs,rfl,h1,h2,h⟩
theorem jvl_ {C:Addr}{sp:Sp}{E:XK}{t:TA}(h:t σ H fun vs H1=>∀ x dx,H1 x=none->H1 dx=none->dx≠x->sp (.ref x::(vs++[])) (upd (upd H1 dx (.own x)) x (.ins C dx [])) (fun v H2=>v=.non/\Q (.ref x) H2) E):jqt_ C sp [] E t σ H Q:=h
theorem jji_ {K:pc_}{ta:TE}{f:Str}(h:ta σ H fun x H1=>∃ a C dx fs v,x=.ref a/\H1 a=some (.ins C dx fs)/\Cls K C/\NoAttr K C f/\fs.lookup f=some v/\Q v H1):tFld K ta f σ H Q:=h
theorem jjo_ {K:pc_}{ta tv:TE}{f:Str}(h:tv σ H fun y H1=>ta σ H1 fun x H2=>∃ a C dx fs,x=.ref a/\H2 a=some (.ins C dx fs)/\Cls K C/\NoAttr K C f/\fs.length < 1000/\D.nx σ (upd H2 a (.ins C dx (putF f y fs)))):sFld K ta tv f D σ H:=h
theorem jju_ {K:pc_}{a C dx:Addr}{fs:List (Str×V)}{f:Str}{v:V}{R:V->Prop}(h1:H a=some (.ins C dx fs))(c:Cls K C)(n:NoAttr K C f)(l:fs.lookup f=some v)(h:R v):∃ a' C' dx' fs' v',V.ref a=.ref a'/\H a'=some (.ins C' dx' fs')/\Cls K C'/\NoAttr K C' f/\fs'.lookup f=some v'/\R v':=⟨a,C,dx,fs,v,rfl,h1,c,n,l,h⟩
theorem jit_ {K:pc_}{a C dx:Addr}{fs:List (Str×V)}{f:Str}{y:V}{R:Hp->Prop}(h1:H a=some (.ins C dx fs))(c:Cls K C)(n:NoAttr K C f)(l:fs.length < 1000)(h:R (upd H a (.ins C dx (putF f y fs)))) :
  ∃ a' C' dx' fs',V.ref a=.ref a'/\H a'=some (.ins C' dx' fs')/\Cls K C'/\NoAttr K C' f/\fs'.length < 1000/\R (upd H a' (.ins C' dx' (putF f y fs'))):=⟨a,C,dx,fs,rfl,h1,c,n,l,h⟩
end
end L2
namespace L2
open PySem PySem.Spec PyProof.Rows
mutual
noncomputable def xz_:Dt->Bool
 | .lst _=>false
 | .tup ds=>z9_ ds
 | _=>true
noncomputable def z9_:List Dt->Bool
 | []=>true
 | d::ds=>xz_ d&&z9_ ds
end
def Tk (H H':Hp):Prop:=∀ b xs,H b=some (.tup xs)->H' b=some (.tup xs)
theorem Tk.lst {H:Hp}{p:Addr}{zs:List V}(h:H p=some (.lst zs))(o:HO):Tk H (upd H p o):=fun b xs e=>by
 rw[ji_ (juh_ e h (by intro z;cases z))];exact e
mutual
theorem Is.tk {H H':Hp}(h:Tk H H'):∀{d:Dt}{v:V},xz_ d=true->Is H v d->Is H' v d
 | .non,_,_,k=>by simp only[Is] at k ⊢;exact k
 | .bl _,_,_,k=>by simp only[Is] at k ⊢;exact k
 | .int _,_,_,k=>by simp only[Is] at k ⊢;exact k
 | .str _,_,_,k=>by simp only[Is] at k ⊢;exact k
 | .tup ds,_,t,k=>by
  simp only[xz_] at t
  simp only[Is] at k ⊢
  obtain⟨a,xs,e,h1,h2⟩:=k
  exact⟨a,xs,e,h _ _ h1,IsL.tk h t h2⟩
 | .lst ds,_,t,_=>by simp only[xz_] at t;cases t
theorem IsL.tk {H H':Hp}(h:Tk H H'):∀{ds:List Dt}{xs:List V},z9_ ds=true->IsL H xs ds->IsL H' xs ds
 | [],[],_,_=>by simp only[IsL]
 | [],_::_,_,k=>by simp only[IsL] at k
 | _::_,[],_,k=>by simp only[IsL] at k
 | d::ds,x::xs,t,k=>by
  simp only[z9_,qk_] at t
  simp only[IsL] at k ⊢
  exact⟨Is.tk h t.1 k.1,IsL.tk h t.2 k.2⟩
end
theorem u5_:∀{ds:List Dt},(∀ d∈ds,xz_ d=true)->z9_ ds=true
 | [],_=>rfl
 | d::ds,h=>by simp only[z9_,qk_];exact⟨h d pm_,u5_ fun e he=>h e (pj_ _ he)⟩
theorem jhf_ (ns:List Int):z9_ (ns.map Dt.int)=true:=u5_ fun d hd=>by
 obtain⟨n,_,rfl⟩:=qb_.mp hd;rfl
theorem jdm_ (x:List Nat×List Int):xz_ (patD x)=true:=by simp only[patD,xz_,z9_,jhf_,Bool.and_true]
theorem jjj_ (xs:List (List Nat×List Int)):z9_ (xs.map patD)=true:=u5_ fun d hd=>by
 obtain⟨n,_,rfl⟩:=qb_.mp hd;exact jdm_ n
theorem IsL.snoc {H:Hp}{ds:List Dt}{d:Dt}{xs:List V}{x:V}(h:IsL H xs ds)(k:Is H x d):IsL H (xs++[x]) (ds++[d]) :=
 IsL.append h (by simp only[IsL];exact⟨k,trivial⟩)
end L2
namespace L2
open PySem PySem.Spec PyProof.Rows
def jdy_:V->List V->Hp->VK->Prop:=fun x vs H Q=>match x,vs with
 | .ref l,[.int i,y]=>(match H l with | some (.lst xs)=>0<=i/\i<=xs.length/\xs.length < 1000000/\Q .non (upd H l (.lst (xs.take i.toNat++y::xs.drop i.toNat))) | _=>False)
 | _,_=>False
section
variable {X:Cx}
theorem Vals.take' {xs:List V}{us:List Value}(h:Vals xs us):∀ n,Vals (xs.take n) (us.take n):=by
 induction h with
 | nil=>intro n;simp;exact .nil
 | cons r rs ih =>
  intro n
  cases n with
  | zero=>simp;exact .nil
  | succ n=>simp only[tu_];exact .cons r (ih n)
theorem Vals.drop' {xs:List V}{us:List Value}(h:Vals xs us):∀ n,Vals (xs.drop n) (us.drop n):=by
 induction h with
 | nil=>intro n;simp;exact .nil
 | cons r rs ih =>
  intro n
  cases n with
  | zero=>simp only[ko_];exact .cons r rs
  | succ n=>simp only[List.drop_succ_cons];exact ih n
theorem jnc_:MtR X "list.insert" jdy_:=fun pins s σ H x vs v us Q I rx rs h=>by
 unfold jdy_ at h
 split at h
 ·rename_i l i y
  split at h
  ·rename_i xs hH
   obtain⟨h0,h1,hz,q⟩:=h
   cases rx
   cases rs with
   | cons r1 rs =>
    cases rs with
    | cons r2 rs =>
     cases rs
     obtain⟨t,rfl⟩:=r1
     rename_i u
     obtain⟨z,its,n,r,hl,e⟩:=I.lstM hH
     have hlen:=r.length
     have hfit:t1_ i=true:=by
      unfold t1_
      have e:((2:Int) ^ 63)=9223372036854775808:=by decide
      simp only[e,qk_,decide_eq_true_eq]
      omega
     have hbig:1000000<=sizeLine:=by decide
     have hsz:its.toArray.size<=sizeLine:=by
      rw[pn_]
      omega
     refine call_meets F.slot_list_insert ⟨_,e,rfl⟩ F.entry_list_insert (F.args_list_insert_3 _ _ _) (PySem.AutoSeq1.list_insert_list_int_val_1 l its.toArray n i t u (by simp[hfit]) hsz) ⟨e,?_⟩
     refine⟨.non,_,I.lset (its':=its.take i.toNat++u::its.drop i.toNat) hH e ?_ ((Vals.take' r _).append (.cons r2 (Vals.drop' r _))) ?_,rfl,q⟩
     ·apply Array.toList_inj.mp
      have hk:(if i < 0 then (i+((its.toArray.size:Nat):Int)).toNat else min i.toNat its.toArray.size)=i.toNat:=by
       rw[if_neg (by omega),pn_]
       omega
      show ((its.toArray.extract 0 (if i < 0 then (i+((its.toArray.size:Nat):Int)).toNat else min i.toNat its.toArray.size)).push u++its.toArray.extract (if i < 0 then (i+((its.toArray.size:Nat):Int)).toNat else min i.toNat its.toArray.size)).toList=_
      rw[hk]
      simp
      exact rr_ (by rw[qh_];exact po_ _)
     ·have:(xs.take i.toNat++y::xs.drop i.toNat).length=xs.length+1:=by
       rw[pg_,ps_,p2_,qh_];omega
      omega
  ·exact h.elim
 ·exact h.elim
end
end L2
namespace L2
open PySem PySem.Spec PyProof.Rows
def Dat (H H':Hp):Prop:=(∀ b xs,H b=some (.lst xs)->H' b=some (.lst xs))/\(∀ b xs,H b=some (.tup xs)->H' b=some (.tup xs))/\∀ b kvs,H b=some (.dK kvs)->H' b=some (.dK kvs)
theorem Same.dat {H H':Hp}(h:Same H H'):Dat H H':=⟨fun b xs e=>h b _ e,fun b xs e=>h b _ e,fun b xs e=>h b _ e⟩
theorem Dat.trans {H H1 H2:Hp}(a:Dat H H1)(b:Dat H1 H2):Dat H H2:=⟨fun c o e=>b.1 c o (a.1 c o e),fun c o e=>b.2.1 c o (a.2.1 c o e),fun c o e=>b.2.2 c o (a.2.2 c o e)⟩
theorem Dat.ins {H:Hp}{p C dx:Addr}{fs:List (Str×V)}(hp:H p=some (.ins C dx fs))(o:HO):Dat H (upd H p o):=by
 refine⟨fun b xs e=>?_,fun b xs e=>?_,fun b xs e=>?_⟩ <;>
 ·have hb:b≠p:=fun z=>by rw[z,hp] at e;cases e
  rw[ji_ hb];exact e
mutual
theorem Is.dat {H H':Hp}(h:Dat H H'):∀{d:Dt}{v:V},Is H v d->Is H' v d
 | .non,_,k=>by simp only[Is] at k ⊢;exact k
 | .bl _,_,k=>by simp only[Is] at k ⊢;exact k
 | .int _,_,k=>by simp only[Is] at k ⊢;exact k
 | .str _,_,k=>by simp only[Is] at k ⊢;exact k
 | .tup ds,_,k=>by
  simp only[Is] at k ⊢
  obtain⟨a,xs,e,h1,h2⟩:=k
  exact⟨a,xs,e,h.2.1 _ _ h1,IsL.dat h h2⟩
 | .lst ds,_,k=>by
  simp only[Is] at k ⊢
  obtain⟨a,xs,e,h1,h2⟩:=k
  exact⟨a,xs,e,h.1 _ _ h1,IsL.dat h h2⟩
theorem IsL.dat {H H':Hp}(h:Dat H H'):∀{ds:List Dt}{xs:List V},IsL H xs ds->IsL H' xs ds
 | [],[],_=>by simp only[IsL]
 | d::ds,x::xs,k=>by
  simp only[IsL] at k ⊢
  exact⟨Is.dat h k.1,IsL.dat h k.2⟩
 | [],_::_,k=>by simp only[IsL] at k
 | _::_,[],k=>by simp only[IsL] at k
end
theorem NT.dat {H H':Hp}(h:Dat H H'){kvs:List (Key×V)}{gs:List Pat}(k:NT H kvs gs):NT H' kvs gs:=NT.tups h.2.1 k
theorem jke_ {H H1 H2:Hp}{p:Addr}(h:∀ b o,b≠p->H b=some o->H1 b=some o)(s:Same H1 H2):∀ b o,b≠p->H b=some o->H2 b=some o:=fun b o hb e=>s _ _ (h b o hb e)
theorem jfh_ {H H1:Hp}{p:Addr}{x:HO}(h:∀ b o,b≠p->H b=some o->H1 b=some o):∀ b o,b≠p->H b=some o->(upd H1 p x) b=some o:=fun b o hb e=>by rw[ji_ hb];exact h b o hb e
theorem jut_ {ty td:TE}{σ:St}{H:Hp}{Q:VK}(h:ty σ H fun y H1=>td σ H1 fun x H2=>∃ a o,x=.ref a/\DGet H2 a y o/\Q (.bl o.isSome) H2):tDIn ty td σ H Q:=h
theorem i_tB {t:TE}{σ:St}{H:Hp}{Q:Bool->Hp->Prop}(h:t σ H fun x H1=>∃ c,x=.bl c/\Q c H1):tB t σ H Q:=h
theorem jwj_ {l:Addr}{i:Int}{y:V}{xs:List V}{H:Hp}{Q:VK}(h1:H l=some (.lst xs))(h2:0<=i/\i<=xs.length/\xs.length < 1000000)(h:Q .non (upd H l (.lst (xs.take i.toNat++y::xs.drop i.toNat)))):jdy_ (.ref l) [.int i,y] H Q:=by
 show (match H l with | some (.lst xs)=>0<=i/\i<=xs.length/\xs.length < 1000000/\Q .non (upd H l (.lst (xs.take i.toNat++y::xs.drop i.toNat))) | _=>False)
 rw[h1];exact⟨h2.1,h2.2.1,h2.2.2,h⟩
noncomputable def bV:Option Nat->V
 | none=>.non
 | some n=>.int (n:Int)
noncomputable def bD:Option Nat->Dt
 | none=>.non
 | some n=>.int (n:Int)
structure View where
 t:List Nat
 b:Option Nat
 i:Int
 j:Int
noncomputable def z3_ (v:View):Dt:=.tup [.str (S v.t),bD v.b,.int v.i,.int v.j]
noncomputable def yd_ (p:Int×Int):Dt:=.tup [.int p.1,.int p.2]
theorem isB {H:Hp}{b:Option Nat}:Is H (bV b) (bD b):=by cases b <;> simp only[bV,bD,Is]
theorem yc_ {H:Hp}{a:Addr}{v:View}(h:H a=some (.tup [.str (S v.t),bV v.b,.int v.i,.int v.j])):Is H (.ref a) (z3_ v):=by
 simp only[Is,z3_]
 exact⟨a,_,rfl,h,by simp only[L2.IsL,Is];exact⟨trivial,isB,trivial,trivial,trivial⟩⟩
theorem vi_ {H:Hp}{a:Addr}{p:Int×Int}(h:H a=some (.tup [.int p.1,.int p.2])):Is H (.ref a) (yd_ p):=by
 simp only[Is,yd_]
 exact⟨a,_,rfl,h,by simp only[L2.IsL,Is,and_self]⟩
theorem jvm_ {H:Hp}{v:V}{b:Option Nat}(h:Is H v (bD b)):v=bV b:=by cases b <;> (simp only[bD,Is] at h;exact h)
theorem job_ {H:Hp}{v:V}{x:View}(h:Is H v (z3_ x)):∃ a,v=.ref a/\H a=some (.tup [.str (S x.t),bV x.b,.int x.i,.int x.j]):=by
 simp only[Is,z3_] at h
 obtain⟨a,ys,rfl,ha,hy⟩:=h
 match ys,hy with
 | [y1,y2,y3,y4],hy =>
  simp only[L2.IsL] at hy
  obtain⟨h1,h2,h3,h4,_⟩:=hy
  have h2:=jvm_ h2
  simp only[Is] at h1 h3 h4
  subst h1 h2 h3 h4
  exact⟨a,rfl,ha⟩
 | [],hy=>simp only[L2.IsL] at hy
 | [_],hy=>simp only[L2.IsL] at hy;exact hy.2.elim
 | [_,_],hy=>simp only[L2.IsL] at hy;exact hy.2.2.elim
 | [_,_,_],hy=>simp only[L2.IsL] at hy;exact hy.2.2.2.elim
 | _::_::_::_::_::_,hy=>simp only[L2.IsL] at hy;exact hy.2.2.2.2.elim
theorem jol_ {H:Hp}{v:V}{p:Int×Int}(h:Is H v (yd_ p)):∃ a,v=.ref a/\H a=some (.tup [.int p.1,.int p.2]):=by
 simp only[Is,yd_] at h
 obtain⟨a,ys,rfl,ha,hy⟩:=h
 match ys,hy with
 | [y1,y2],hy =>
  simp only[L2.IsL,Is] at hy
  obtain⟨h1,h2,_⟩:=hy
  subst h1 h2
  exact⟨a,rfl,ha⟩
 | [],hy=>simp only[L2.IsL] at hy
 | [_],hy=>simp only[L2.IsL] at hy;exact hy.2.elim
 | _::_::_::_,hy=>simp only[L2.IsL] at hy;exact hy.2.2.elim
end L2
namespace L2
open PySem PySem.Spec PyProof.Rows
section
variable {X:Cx}
theorem jna_ (bs:List Bool):(pu_ bs.length).any (fun i=>bs.getD i false)=bs.any id:=by
 rw[qt_,q4_,q4_]
 constructor
 ·rintro⟨i,hi,h⟩
  have hi':=rl_.mp hi
  refine⟨bs[i],px_ hi',?_⟩
  simpa [pf_,hi'] using h
 ·rintro⟨b,hb,h⟩
  obtain⟨i,hi,rfl⟩:=rd_.mp hb
  exact⟨i,rl_.mpr hi,by simpa [pf_,hi] using h⟩
theorem jlm_ (hc:X.calm=true):CallR X (.builtin "any") (fAll fun bs=>bs.any id):=by
 intro pins s σ H xs us Q I r h
 unfold fAll at h
 split at h
 ·rename_i p
  split at h
  ·rename_i ys e
   split at h
   ·rename_i bs eb
    obtain⟨u,rfl,ru⟩:=vd_ r
    cases ru
    obtain⟨its,rv,pl,hz⟩:=I.list (jas_ e)
    rw[bls?_of eb] at rv
    have hlen:=rv.length
    rw[pb_] at hlen
    have hlt:p < s.heap.objs.size:=by obtain⟨o,ho,_⟩:=pl.isList;exact pt_ ho
    refine call_any_walk (wpAny_pyIter_list pl.isList ?_)
    refine⟨s.heap.objs.size,_,_,_,_,_,(fun i=>bs.getD i false),rfl,Walks.list (A:=X.A.in1) (show X.A.in1.handled=none from I.ok.hd hc) s.heap.objs.size p (p6_ hlt) its.toArray,⟨⟨_,pv_ _ rfl,rfl,rfl⟩,?_⟩,fun i v s' Q' E' hv hq=>?_,fun h' tk k=>?_⟩
    ·obtain⟨o,ho,q⟩:=pl.isList
     exact⟨o,pd_ _ ho,q⟩
    ·have hv':its[i]?=some v:=by simpa using hv
     have hil:i < its.length:=(pq_.mp hv').1
     obtain⟨w',hw,rw'⟩:=rv.get (i:=i) (x:=V.bl (bs.getD i false)) (by rw[pl_];simp[pf_,show i < bs.length by omega])
     rw[hv'] at hw
     cases hw
     cases rw'
     exact wpAny_truthy_bool hq
    ·have e2:(pu_ its.toArray.size).any (fun i=>bs.getD i false)=bs.any id:=by rw[pn_,<- hlen];exact jna_ bs
     rw[e2]
     have I1:Inv X pins σ H { s with heap:=s.heap.push { cls:=.type "list_iterator",data:=.fields #[.ref p,.int 0 0] },toks:=s.toks }:=I.kept fun b u q=>pd_ _ q
     have f1:=I.fpOk (H':=H) (b:=s.heap.objs.size) (po_ _) (I.hok.fresh (po_ _))
     exact endB (I1.turned (t':=tk) (it:=s.heap.objs.size) (fun b o hb q=>k b o (by simpa using hb) q) f1.1 f1.2.1 f1.2.2.2.1 f1.2.2.2.2.1 f1.2.2.2.2.2) h
   ·exact h.elim
  ·exact h.elim
 ·exact h.elim
end
end L2
namespace L2
open PySem PySem.Spec PyProof.Rows
section
variable {prog:Program}{w:World}{A:Around}{E:Value->Shared->Prop}{s:Shared}
theorem uw_ {Q:Int->Shared->Prop}(h:Q 0xFCA86420 { s with toks:=s.toks+1 }):wpAny (model prog w) A (pyHash Value.none) Q E s:=by
 have hT:s.TypeIs Value.none "NoneType":=rfl
 unfold pyHash
 first | unfold pyHashByItsType | skip
 have hv:[Value.none].any Value.onHeap=false:=rfl
 refine wpAny_bind ?_
 rw[cRoomFor,if_neg (by rw[hv];exact pi_)];refine wpAny_pure ?_
 refine wpAny_bind (wpAny_specialOf hT so_.lookup ?_)
 show wpAny _ _ (if (some (Value.builtin "NoneType.__hash__") == some Value.none)=true then _ else _) Q E s
 rw[if_neg (by rw[beq_builtin_none];exact pi_)]
 refine wpAny_bind (wpAny_specialOf hT so_.lookup ?_)
 show wpAny _ _ (callSpecialIfBoundUnlessNone? Value.none "__hash__" _ >>= _) Q E s
 refine wpAny_bind (wpAny_callSpecialIfBoundUnlessNone?_slot hT so_
  (wpAny_call_entry so_ hT F.entry_NoneType_hash
   (show wpAny _ _ (do ret (<- mkInt 0xFCA86420)) _ _ s from wpAny_ret_mkInt ?_) (F.args_NoneType_hash_1 _)))
 show wpAny _ _ (if (decide (-(2:Int) ^ 63<=0xFCA86420)&&decide ((0xFCA86420:Int) < 2 ^ 63))=true then _ else _) Q E _
 rw[if_pos (by decide)]
 exact wpAny_pure h
end
noncomputable def oIs:Option Key->Value->Bool
 | none,v=>v == Value.none
 | some k,v=>up_ k v
theorem z4_ {k:Option Key}{v:Value}(h:oIs k v=true):(k=none/\v=Value.none)∨∃ k',k=some k'/\up_ k' v=true:=by
 cases k with
 | none=>exact .inl ⟨rfl,eq_of_beq h⟩
 | some k=>exact .inr ⟨k,rfl,h⟩
theorem jdx_ {k:Key}:up_ k Value.none=false:=by cases k <;> rfl
noncomputable def jkq_ (prog:Program)(w:World):PySem.KeyKind prog w (Option Key) where
 is:=oIs
 hash:=fun k=>match k with
  | none=>0xFCA86420
  | some k=>keyH w k
 inj:=fun v a b ha hb=>by
  rcases z4_ ha with ⟨rfl,rfl⟩ | ⟨x,rfl,hx⟩
  ·rcases z4_ hb with ⟨rfl,_⟩ | ⟨y,rfl,hy⟩
   ·rfl
   ·rw[jdx_] at hy;cases hy
  ·rcases z4_ hb with ⟨rfl,rfl⟩ | ⟨y,rfl,hy⟩
   ·rw[jdx_] at hx;cases hx
   ·rw[(zb_ prog w).inj v x y hx hy]
 byValue:=fun k v h=>by
  rcases z4_ h with ⟨rfl,rfl⟩ | ⟨x,rfl,hx⟩
  ·rfl
  ·exact(zb_ prog w).byValue x v hx
 pyHash:=fun{A E s k v Q} hv h=>by
  rcases z4_ hv with ⟨rfl,rfl⟩ | ⟨x,rfl,hx⟩
  ·exact uw_ h
  ·exact(zb_ prog w).pyHash (k:=x) hx h
 eqBool:=fun{A E s a b u v Q} hu hv h=>by
  rcases z4_ hu with ⟨rfl,rfl⟩ | ⟨x,rfl,hx⟩
  ·rcases z4_ hv with ⟨rfl,rfl⟩ | ⟨y,rfl,hy⟩
   ·exact qs_.same Value.none _ _ _ _ (by simpa using h)
   ·have h:Q false s:=by simpa using h
    rcases ze_ hy with ⟨i,t,rfl,rfl⟩ | ⟨z,t,rfl,rfl⟩
    ·exact kp_ i t _ _ _ _ h
    ·exact kq_ z t _ _ _ _ h
  ·rcases z4_ hv with ⟨rfl,rfl⟩ | ⟨y,rfl,hy⟩
   ·have h:Q false s:=by simpa using h
    rcases ze_ hx with ⟨i,t,rfl,rfl⟩ | ⟨z,t,rfl,rfl⟩
    ·exact kr_ i t _ _ _ _ h
    ·exact ks_ z t _ _ _ _ h
   ·refine(zb_ prog w).eqBool hx hy ?_
    have:decide (some x=some y)=decide (x=y):=by simp
    rw[<- this];exact h
 «strs»:=fun k x t v h=>by
  rcases z4_ h with ⟨rfl,e⟩ | ⟨y,rfl,hy⟩
  ·cases e
  ·exact(zb_ prog w).strs y x t v hy
end L2
namespace L2
open PySem PySem.Spec PyProof.Rows
structure OwnKind (K:Type) [DecidableEq K] where
 hk:(P:Program)->(w:World)->HeapKind P w K
 at_:Hp->K->Addr->Prop
 of:∀{P:Program}{w:World}{H:Hp}{h:Heap}{k:K}{a:Addr},HOk P w H h->at_ H k a->(hk P w).is h k a
 room:∀{P:Program}{w:World}{A:Around},A.units+4 < cLine->(hk P w).room A.in1
 room0:∀{P:Program}{w:World}{A:Around},A.units+4 < cLine->(hk P w).room A
section
variable {K:Type} [DecidableEq K]
noncomputable def valX (kvs:List (K×Addr×V))(k:K):Option V:=(kvs.find? fun e=>decide (e.1=k)).map (·.2.2)
noncomputable def putX (kvs:List (K×Addr×V))(k:K)(b:Addr)(v:V):List (K×Addr×V):=if (kvs.any fun e=>decide (e.1=k))=true then kvs.map (fun e=>if e.1=k then (e.1,e.2.1,v) else e) else kvs++[(k,b,v)]
def KX (kvs:List (K×Addr×V))(xs:List (K×Addr×Value)):Prop:=Paired (fun(p:K×Addr×V) (q:K×Addr×Value)=>p.1=q.1/\p.2.1=q.2.1/\RelV p.2.2 q.2.2) kvs xs
theorem KX.val {kvs:List (K×Addr×V)}{xs:List (K×Addr×Value)}(r:KX kvs xs)(k:K):RelO (valX kvs k) ((atKey xs k).map (·.2)):=by
 unfold KX at r
 induction r with
 | nil=>exact True.intro
 | @cons p q ps qs h t ih =>
  obtain⟨h1,h2,h3⟩:=h
  unfold valX atKey at ih ⊢
  rw[qr_,qr_,<- h1]
  by_cases e:p.1=k
  ·simp only[e,decide_true,ts_];exact h3
  ·simp only[e,decide_false];exact ih
theorem KX.any {kvs:List (K×Addr×V)}{xs:List (K×Addr×Value)}(r:KX kvs xs)(k:K):(kvs.any fun e=>decide (e.1=k))=(atKey xs k).isSome:=by
 unfold KX at r
 induction r with
 | nil=>rfl
 | @cons p q ps qs h t ih =>
  unfold atKey at ih ⊢
  rw[rh_,qr_,<- h.1,ih]
  by_cases e:p.1=k
  ·simp[e]
  ·simp[e]
theorem KX.put {kvs:List (K×Addr×V)}{xs:List (K×Addr×Value)}(r:KX kvs xs)(k:K)(b:Addr){y:V}{u:Value}(ry:RelV y u):KX (putX kvs k b y) (storedH xs k b u):=by
 unfold putX storedH
 rw[r.any]
 by_cases q:(atKey xs k).isSome=true
 ·rw[if_pos q,if_pos q]
  unfold KX at r ⊢
  clear q
  induction r with
  | nil=>exact .nil
  | @cons p q ps qs h t ih =>
   rw[pp_,pp_]
   refine .cons ?_ ih
   obtain⟨h1,h2,h3⟩:=h
   unfold putAt
   by_cases e:p.1=k
   ·rw[if_pos e,if_pos (h1.symm.trans e)];exact⟨h1,h2,ry⟩
   ·rw[if_neg e,if_neg (fun z=>e (h1.trans z))];exact⟨h1,h2,h3⟩
 ·rw[if_neg q,if_neg q];exact Paired.snoc r ⟨rfl,rfl,ry⟩
theorem jah_ (kvs:List (K×Addr×V))(k:K)(b:Addr)(v:V):(putX kvs k b v).length<=kvs.length+1:=by
 unfold putX
 split
 ·rw[pb_];omega
 ·rw[pg_];exact po_ _
variable (N:OwnKind K)
noncomputable def DX (P:Program)(w:World)(a:Addr)(kvs:List (K×Addr×V)):HO:=.ext fun h=>kvs.length<=sizeLine/\(a == sysModules)=false/\∃ xs:List (K×Addr×Value),KX kvs xs /\
 ∃ o es ep,h.get? a=some o/\o.ExactDict/\o.data=.dict es ep/\es.toList=xs.map (entryOfKey (N.hk P w))/\(xs.map (·.1)).Nodup
variable {N}
theorem jov_ {P:Program}{w:World}{H:Hp}{h:Heap}{a:Addr}{kvs:List (K×Addr×V)}(h1:kvs.length<=sizeLine)(h2:(a == sysModules)=false){xs:List (K×Addr×Value)}(h3:KX kvs xs){o:Obj}{es:Array DictEntry}{ep:Nat}(h4:h.get? a=some o)(h5:o.ExactDict)(h6:o.data=.dict es ep)(h7:es.toList=xs.map (entryOfKey (N.hk P w)))(h8:(xs.map (·.1)).Nodup):ObjOk P w H h a (DX N P w a kvs) :=
 ⟨⟨h1,h2,xs,h3,o,es,ep,h4,h5,h6,h7,h8⟩,⟨o,h4⟩,fun _ _ ⟨q1,q2,xs,q3,o,es,ep,q4,q⟩ k=>⟨q1,q2,xs,q3,o,es,ep,k _ q4,q⟩⟩
def KO (N:OwnKind K)(H:Hp)(kvs:List (K×Addr×V)):Prop:=∀ e∈kvs,N.at_ H e.1 e.2.1
theorem jhn_ {P:Program}{w:World}{H:Hp}{h:Heap}{a:Addr}{kvs:List (K×Addr×V)}(ok:HOk P w H h)(e:Rd H a (DX N P w a kvs))(hK:KO N H kvs):kvs.length<=sizeLine/\(a == sysModules)=false/\∃ xs,KX kvs xs/\h.DictOfH (N.hk P w) a xs:=by
 obtain⟨⟨z,y,xs,r,o,es,ep,h1,h2,h3,h4,h5⟩,_⟩:=(show ObjOk P w H h a (DX N P w a kvs) from jqw_ ok e)
 refine⟨z,y,xs,r,o,es,ep,h1,h2,h3,h4,fun x hx=>?_,h5⟩
 have all:∀{l:List (K×Addr×V)}{m:List (K×Addr×Value)},KX l m->(∀ e∈l,N.at_ H e.1 e.2.1)->∀ x∈m,(N.hk P w).is h x.1 x.2.1:=by
  intro l m q
  unfold KX at q
  induction q with
  | nil=>intro _ x hx;exact nomatch hx
  | @cons p q ps qs hq t ih =>
   intro hK x hx
   rcases p0_.mp hx with e | hx
   ·subst e
    rw[<- hq.1,<- hq.2.1]
    exact N.of ok (hK p pm_)
   ·exact ih (fun e he=>hK e (pj_ _ he)) x hx
 exact all r hK x hx
theorem jvc_ {P:Program}{w:World}{H:Hp}{h:Heap}{a:Addr}{kvs:List (K×Addr×V)}(ok:HOk P w H h)(e:H a=some (DX N P w a kvs))(hK:KO N H kvs):kvs.length<=sizeLine/\(a == sysModules)=false/\∃ xs,KX kvs xs/\h.DictOfH (N.hk P w) a xs:=jhn_ ok (.inl e) hK
def DGetX (N:OwnKind K)(P:Program)(w:World)(H:Hp)(a:Addr)(y:V)(r:Option V):Prop:=∃ kvs k b,Rd H a (DX N P w a kvs)/\KO N H kvs/\y=.ref b/\N.at_ H k b/\r=valX kvs k
def jqe_ (N:OwnKind K)(P:Program)(w:World)(H:Hp)(a:Addr)(y v:V)(H':Hp):Prop:=∃ kvs k b,H a=some (DX N P w a kvs)/\KO N H kvs/\y=.ref b/\N.at_ H k b/\kvs.length < sizeLine/\H'=upd H a (DX N P w a (putX kvs k b v))
section
variable {X:Cx}{pins:List (Addr×Obj)}{σ:St}{H:Hp}{s:Shared}{a:Addr}{y v d:V}{u r:Value}{o:Option V}{A:Around}{E:Value->Shared->Prop}
theorem jmu_ {Q:Value->Shared->Prop}(hu:A.units+4 < cLine)(I:Inv X pins σ H s)(g:DGetX N X.prog X.w H a y (some v))(ry:RelV y u)(h:∀ w' s',Inv X pins σ H s'->RelV v w'->Q w' s'):wpAny (model X.prog X.w) A (getItem (.ref a) u) Q E s:=by
 obtain⟨kvs,k,b,e,hK,ey,eb,l⟩:=g
 subst ey
 cases (show u=Value.ref b from ry)
 obtain⟨z,hd,xs,rel,dd⟩:=jhn_ I.hok e hK
 obtain⟨w',hw,rw'⟩:=RelO.some_of (v:=v) (o:=(atKey xs k).map (·.2)) (by rw[l];exact rel.val k)
 obtain⟨p,hp,hp2⟩:=w0_.mp hw
 refine wpAny_getItem_heap (N.room hu) (N.of I.hok eb) dd hp ?_
 rw[hp2]
 exact h w' _ (I.tok _) rw'
theorem jsl_ {Q:Value->Shared->Prop}(hu:A.units+4 < cLine)(I:Inv X pins σ H s)(g:DGetX N X.prog X.w H a y o)(ry:RelV y u)(h:∀ s',Inv X pins σ H s'->Q (.bool (!o.isSome)) s'):wpAny (model X.prog X.w) A (compareOp .NotIn u (.ref a)) Q E s:=by
 obtain⟨kvs,k,b,e,hK,ey,eb,l⟩:=g
 subst ey
 cases (show u=Value.ref b from ry)
 obtain⟨z,hd,xs,rel,dd⟩:=jhn_ I.hok e hK
 refine wpAny_notIn_heap (N.room hu) (N.of I.hok eb) hd dd ?_
 have q:=(rel.val k).isSome_eq
 rw[s7_] at q
 rw[<- q,<- l]
 exact h _ (I.tok _)
theorem jmz_ {H':Hp}{Q:Unit->Shared->Prop}(hu:A.units+4 < cLine)(I:Inv X pins σ H s)(g:jqe_ N X.prog X.w H a y v H')(ry:RelV y u)(rv:RelV v r)(h:∀ s',Inv X pins σ H' s'->Q () s'):wpAny (model X.prog X.w) A (setItem (.ref a) u r) Q E s:=by
 obtain⟨kvs,k,b,e,hK,ey,eb,l,eH⟩:=g
 subst ey eH
 cases (show u=Value.ref b from ry)
 obtain⟨z,hd,xs,rel,dd⟩:=jvc_ I.hok e hK
 have hz:xs.length<=sizeLine:=by rw[<- sz_ rel];exact z
 have hl:(putX kvs k b v).length<=sizeLine:=by have:=jah_ kvs k b v;omega
 refine wpAny_setItem_heap (hsz:=hz) (N.room hu) (N.of I.hok eb) dd fun h' dd' hs=>h _ ?_
 obtain⟨q,es,ep,hq,h2,h3,h4,_,h5⟩:=dd'
 exact ua_ I (by rw[e];exact True.intro) hs ⟨q,hq⟩ (jov_ hl hd (rel.put k b rv) hq h2 h3 h4 h5)
end
end
end L2
namespace L2
open PySem PySem.Spec PyProof.Rows
section
variable {K:Type} [DecidableEq K] (N:OwnKind K)
def IsDX (P:Program)(w:World)(H:Hp)(a:Addr):Prop:=∃ kvs,Rd H a (DX N P w a kvs)/\KO N H kvs
variable {N}
theorem jtk_ {X:Cx}{pins:List (Addr×Obj)}{σ:St}{H:Hp}{s:Shared}{a:Addr}(I:Inv X pins σ H s)(d:IsDX N X.prog X.w H a) :
  s.TypeIs (.ref a) "dict"/\(∀ b,Value.ref a=.ref b->∃ ob,s.heap.get? b=some ob/\ob.dict=none)/\(a == sysModules)=false:=by
 obtain⟨kvs,e,hK⟩:=d
 obtain⟨_,hd,xs,_,dd⟩:=jhn_ I.hok e hK
 refine⟨dd.typeIs,fun b q=>?_,hd⟩
 cases q
 obtain⟨ob,_,_,h1,h2,_⟩:=dd
 exact⟨ob,h1,h2.2.1⟩
theorem DGetX.isDX {P:Program}{w:World}{H:Hp}{a:Addr}{y:V}{o:Option V}(g:DGetX N P w H a y o):IsDX N P w H a:=by
 obtain⟨kvs,k,b,e,hK,_⟩:=g
 exact⟨kvs,e,hK⟩
variable (N)
def jom_ (P:Program)(w:World)(td ty:TE):TE:=fun σ H Q=>td σ H fun x H1=>ty σ H1 fun y H2=>∃ a v,x=.ref a/\DGetX N P w H2 a y (some v)/\Q v H2
def jfo_ (P:Program)(w:World)(ty td:TE):TE:=fun σ H Q=>ty σ H fun y H1=>td σ H1 fun x H2=>∃ a o,x=.ref a/\DGetX N P w H2 a y o/\Q (.bl (!o.isSome)) H2
def jpd_ (P:Program)(w:World)(td ty tv:TE):TS:=fun D σ H=>tv σ H fun v H1=>td σ H1 fun x H2=>ty σ H2 fun y H3=>∃ a H4,x=.ref a/\jqe_ N P w H3 a y v H4/\D.nx σ H4
variable {N}
section
variable {X:Cx}{o i e f value:Expr}{pos pos' tpos apos cpos:Pos}{td ty tv tx:TE}
theorem jty_ (hu:X.A.units+4 < cLine)(ho:PE X o td)(hi:PE X i ty)(hs:NoSl i):PE X (.Subscript o i pos) (jom_ N X.prog X.w td ty):=by
 intro pins s σ H Q I h
 refine jsi_ PySem.F.slot_dict_getitem.lookup hs (thn (ho pins s σ H _ I h) fun u s1 ⟨x,H1,I1,rx,q1⟩=>thn (hi pins s1 σ H1 _ I1 q1) fun iv s2 ⟨y,H2,I2,ry,a,v,ex,g,q2⟩=>?_)
 subst ex
 obtain rfl:u=Value.ref a:=rx
 exact⟨(jtk_ I2 g.isDX).1,jmu_ hu I2 g ry fun w' s3 I3 rw'=>⟨v,H2,I3,rw',q2⟩⟩
theorem jmr_ (hu:X.A.units+4 < cLine)(hi:PE X i ty)(ho:PE X o td):PC X .NotIn i o (jfo_ N X.prog X.w ty td):=by
 intro pins s σ H Q I h
 refine thn (hi pins s σ H _ I h) fun iv s1 ⟨y,H1,I1,ry,q1⟩=>thn (ho pins s1 σ H1 _ I1 q1) fun u s2 ⟨x,H2,I2,rx,a,ov,ex,g,q2⟩=>?_
 subst ex
 obtain rfl:u=Value.ref a:=rx
 exact jsl_ hu I2 g ry fun s3 I3=>⟨.bl (!ov.isSome),H2,I3,rfl,q2⟩
theorem jse_ (hu:X.A.units+4 < cLine)(ho:PE X o td)(hi:PE X i ty)(hv:PE X value tv)(hs:swapsWith value (some (.Subscript o i pos')) pos.line X.env=pure false) :
  PS X (.Assign [.Subscript o i pos'] value pos) (jpd_ N X.prog X.w td ty tv):=by
 intro pins s σ H D I h
 refine wpAny_Assign_Subscript (thn (hv pins s σ H _ I h) fun r s1 ⟨v,H1,I1,rv,q1⟩=>thn (ho pins s1 σ H1 _ I1 q1) fun u s2 ⟨x,H2,I2,rx,q2⟩=>thn (hi pins s2 σ H2 _ I2 q2) fun iv s3 ⟨y,H3,I3,ry,a,H4,ex,g,q3⟩=>?_) hs
 subst ex
 obtain rfl:u=Value.ref a:=rx
 exact jmz_ hu I3 g ry rv fun s4 I4=>⟨σ,H4,I4,q3⟩
end
end
noncomputable def oV:Option Key->V
 | none=>.non
 | some k=>kV k
theorem joo_ {P:Program}{w:World}:∀{ks:List (Option Key)}{its:List Value},Vals (ks.map oV) its->ItemsAre (jkq_ P w) ks its
 | [],_,r=>by rw[p7_] at r;cases r;exact .nil
 | k::ks,_,r=>by
  rw[pp_] at r
  cases r with
  | cons h t =>
   refine .cons ?_ (joo_ t)
   cases k with
   | none=>cases (show _=Value.none from h);rfl
   | some k=>exact jaf_ (P:=P) (w:=w) h
noncomputable def viewKind:OwnKind (List (Option Key)) where
 hk:=fun P w=>tupleKind (jkq_ P w)
 at_:=fun H k a=>H a=some (.tup (k.map oV))
 of:=fun{P w H h k a} ok e=>by
  obtain⟨_,its,r,⟨o,h1,h2,n,h3⟩,_⟩:=(show ObjOk P w H h a (.tup (k.map oV)) from ok a _ e)
  exact⟨o,its.toArray,n,h1,h2,h3,by simpa using joo_ r⟩
 room:=fun{P w A} hu=>tupleKind_room_in1 (by omega)
 room0:=fun{P w A} hu=>by show A.units < cLine;omega
end L2
namespace L2
open PySem PySem.Spec PyProof.Rows
section
variable {X:Cx}
end
end L2
namespace L2
open PySem PySem.Spec PyProof.Rows
section
variable {X:Cx}{tg:Expr}
end
section
variable {X:Cx}
end
end L2
namespace L2
open PySem PySem.Spec PyProof.Rows
def RawD (h:Heap)(a:Addr)(ks:List Value)(ep:Nat):Prop:=∃ o es,h.get? a=some o/\o.ExactDict/\o.data=.dict es ep/\es.toList.map (·.key)=ks
theorem RawD.at {h h':Heap}{a:Addr}{ks:List Value}{ep:Nat}(x:RawD h a ks ep)(e:∀ o,h.get? a=some o->h'.get? a=some o):RawD h' a ks ep:=let ⟨o,es,ho,r⟩:=x;⟨o,es,e _ ho,r⟩
theorem RawD.typeIs {s:Shared}{a:Addr}{ks:List Value}{ep:Nat}(x:RawD s.heap a ks ep):s.TypeIs (.ref a) "dict":=let ⟨o,_,ho,hc,_⟩:=x;⟨o,ho,hc.1⟩
section
variable {prog:Program}{w:World}{A:Around}{E:Value->Shared->Prop}{s:Shared}{it d:Addr}{ks:List Value}{i ep:Nat}
theorem jsz_ {Q:Value->Shared->Prop}(hd:(d == sysModules)=false)(hm:RawD s.heap d ks ep)
  (hQ:Q (.ref s.heap.objs.size) { s with heap:=s.heap.push { cls:=.type "dict_keyiterator",data:=.fields #[.ref d,.int 0 0,.int ks.length 0,.int ep 0] } }):wpAny (model prog w) A (pyIter (.ref d)) Q E s:=by
 have hT:=hm.typeIs
 obtain⟨o,es,ho,hc,hdat,hp⟩:=hm
 have hsz:es.size=ks.length:=by rw[<- hp];simp
 refine wpAny_pyIter_slot hT F.slot_dict_iter (wpAny_call_entry F.slot_dict_iter hT F.entry_dict_iter ?_ (F.args_dict_iter_1 _))
 unfold Builtin.«dict.__iter__» Builtin.Dict.dictSlotNone
 refine wpAny_bind (wpAny_bind (wpAny_notOrdered_dict hT (wpAny_pure ?_)))
 show wpAny _ _ (kc_ d >>= _) _ _ s
 unfold kc_
 rw[if_neg (by rw[hd];exact pi_)]
 refine wpAny_bind (wpAny_pure (wpAny_bind (wpAny_dictEntries ho hdat (wpAny_bind (wpAny_dictEpoch ho hdat ?_)))))
 refine wpAny_bind (wpAny_newObj_type (wpAny_pure ⟨_,rfl,"dict_keyiterator",_,⟨_,pv_ _ rfl,rfl⟩,rb_.lookup,?_⟩))
 simpa [rawInt,hsz] using hQ
theorem jsx_ {Q:Option Value->Shared->Prop}(hit:s.heap.IsKeyIter it d i ks.length ep)(hm:RawD s.heap d ks ep)(hi:i < ks.length)
  (hQ:∀ h',h'.IsKeyIter it d (i+1) ks.length ep->qv_ it s.heap h'->Q (some ks[i]) { s with heap:=h' }):wpAny (model prog w) A (pyNext (.ref it)) Q E s:=by
 obtain⟨o,ho,hc,hd⟩:=id hit
 obtain⟨od,es,hod,hcd,hdd,hp⟩:=hm
 have hsz:es.size=ks.length:=by rw[<- hp];simp
 have hlt:i < es.size:=by rw[hsz];exact hi
 have hkey:es[i].key=ks[i]:=by
  have h1:(es.toList.map (·.key))[i]?=ks[i]?:=by rw[hp]
  rw[pl_,pa_ (by simpa using hlt),pa_ hi] at h1
  simpa using h1
 unfold pyNext
 refine wpAny_bind (wpAny_attempt (wpAny_callSpecial?_slot (name:=re_ "__next__") hit.typeIs rb_
  (wpAny_call_entry rb_ hit.typeIs tj_ ?_ (td_ _))))
 refine wpAny_bind (wpAny_pure (wpAny_bind (wpAny_bind ?_)))
 first | refine wpAny_bind (wpAny_typeNameOfWhole_keyiter hit.typeIs (wpAny_pure ?_)) | refine wpAny_bind (wpAny_typeNameOf_keyiter hit.typeIs (wpAny_pure ?_))
 refine wpAny_bind (wpAny_fieldsOf ho hd ?_)
 simp only[show to_ "dict_keyiterator"=false by decide,t4_,if_false]
 show wpAny _ _ (if (Value.ref d == Value.none)=true then _ else _) _ _ s
 rw[if_neg (show ¬ ((Value.ref d == Value.none)=true) from pi_)]
 refine wpAny_bind (wpAny_pure (wpAny_bind (wpAny_dictEntries hod hdd ?_)))
 rw[if_neg (by rw[hsz];simp)]
 refine wpAny_bind (wpAny_pure (wpAny_bind (wpAny_dictEpoch hod hdd ?_)))
 rw[if_neg (by simp)]
 refine wpAny_pure ?_
 simp only[show ¬ ((i:Int) < 0) from by omega,if_false,r8_,Array.getElem?_eq_getElem hlt]
 refine wpAny_bind ?_
 first | refine wpAny_bind (wpAny_typeNameOfWhole_keyiter hit.typeIs (wpAny_pure ?_)) | refine wpAny_bind (wpAny_typeNameOf_keyiter hit.typeIs (wpAny_pure ?_))
 refine wpAny_bind (wpAny_isOneOf_keyiter hit.typeIs ?_)
 show wpAny _ _ (setField (.ref it) 1 (rawInt ((i:Int)+1)) >>= _) _ _ s
 refine wpAny_bind (wpAny_setField ho hd (by simp) ?_)
 have hit':(s.heap.update it (Obj.mapFields (·.setIfInBounds 1 (rawInt ((i:Int)+1))))).IsKeyIter it d (i+1) ks.length ep :=
  ⟨_,tb_ _ ho (w9_ (s0_ hd _)),(Obj.cls_mapFields ..).trans hc,by rw[s0_ hd];simp[rawInt]⟩
 refine wpAny_bind (wpAny_holding ?_)
 refine wpAny_bind (wpAny_isOneOf_keyiter (s:={ s with heap:=s.heap.update it (Obj.mapFields (·.setIfInBounds 1 (rawInt ((i:Int)+1)))) }) hit'.typeIs ?_)
 show wpAny _ _ (pure es[i].key) _ _ _
 rw[hkey]
 exact wpAny_pure (wpAny_pure ⟨_,rfl,wpAny_pure (hQ _ hit' (sw_ ..))⟩)
theorem jxp_ {Q:Option Value->Shared->Prop}(hh:A.handled=none)(hit:s.heap.IsKeyIter it d i ks.length ep)(hm:RawD s.heap d ks ep)(hi:ks.length<=i)
  (hQ:∀ h',Heap.ExtBut it s.heap h'->Q none { s with heap:=h' }):wpAny (model prog w) A (pyNext (.ref it)) Q E s:=by
 obtain⟨o,ho,hc,hd⟩:=id hit
 obtain⟨od,es,hod,hcd,hdd,hp⟩:=hm
 have hsz:es.size=ks.length:=by rw[<- hp];simp
 unfold pyNext
 refine wpAny_bind (wpAny_attempt (wpAny_callSpecial?_slot (name:=re_ "__next__") hit.typeIs rb_
  (wpAny_call_entry rb_ hit.typeIs tj_ ?_ (td_ _))))
 refine wpAny_bind (wpAny_pure (wpAny_bind (wpAny_bind ?_)))
 first | refine wpAny_bind (wpAny_typeNameOfWhole_keyiter hit.typeIs (wpAny_pure ?_)) | refine wpAny_bind (wpAny_typeNameOf_keyiter hit.typeIs (wpAny_pure ?_))
 refine wpAny_bind (wpAny_fieldsOf ho hd ?_)
 simp only[show to_ "dict_keyiterator"=false by decide,t4_,if_false]
 show wpAny _ _ (if (Value.ref d == Value.none)=true then _ else _) _ _ s
 rw[if_neg (show ¬ ((Value.ref d == Value.none)=true) from pi_)]
 refine wpAny_bind (wpAny_pure (wpAny_bind (wpAny_dictEntries hod hdd ?_)))
 rw[if_neg (by rw[hsz];simp)]
 refine wpAny_bind (wpAny_pure (wpAny_bind (wpAny_dictEpoch hod hdd ?_)))
 rw[if_neg (by simp)]
 refine wpAny_pure ?_
 have hge:es.size<=i:=by rw[hsz];exact hi
 simp only[show ¬ ((i:Int) < 0) from by omega,if_false,r8_,Array.getElem?_eq_none hge]
 refine wpAny_bind ?_
 first | refine wpAny_bind (wpAny_typeNameOfWhole_keyiter hit.typeIs (wpAny_pure ?_)) | refine wpAny_bind (wpAny_typeNameOf_keyiter hit.typeIs (wpAny_pure ?_))
 show wpAny _ _ (setField (.ref it) 0 .none >>= _) _ _ s
 refine wpAny_bind (wpAny_setField ho hd (by simp) ?_)
 show wpAny _ _ (newExc (.type "StopIteration") [] >>= _) _ _ _
 refine wpAny_bind ?_
 simp only[newExc,newTuple]
 refine wpAny_bind (wpAny_newObj_type ?_ (by size_fits))
 refine wpAny_bind (m:=firstArgMember _ _) (wpAny_of_eq (a:=Value.none) (by first | rfl | (simp only[firstArgMember];rfl)) ?_)
 refine wpAny_newObj_type ?_ (by size_fits)
 simp only[raiseNew]
 refine wpAny_bind (wpAny_handled ?_)
 rw[show A.in1.handled=none from hh]
 refine wpAny_bind (wpAny_pure (wpAny_throw ?_))
 refine wpAny_bind (wpAny_isInstance (T:="StopIteration") (b:=true) ⟨_,pv_ _ rfl,rfl⟩ isSubtype_stop ?_)
 exact wpAny_pure (hQ _ (((sw_ ..).extBut.push _).push _))
theorem jpw_ (hh:A.handled=none)(I d:Addr)(hne:d≠I)(ks:List Value)(ep:Nat) :
  Walks prog w A I [I,d] [I] ks.length (fun i v=>ks[i]?=some v) (fun i h=>h.IsKeyIter I d i ks.length ep/\RawD h d ks ep) where
 sub:=fun b hb=>by simp at hb;simp[hb]
 frame:=fun _ _ _ st hk=>⟨st.1.at fun o e=>hk I (by simp) o e,st.2.at fun o e=>hk d (by simp) o e⟩
 item:=fun i s Q E hi st hQ=>by
  refine jsx_ st.1 st.2 hi fun h' hit' hs'=>?_
  exact hQ _ h' s.toks (pa_ hi) ⟨hit',st.2.at fun o e=>hs'.extBut d o hne e⟩ fun b o hb e=>hs'.extBut b o (fun h=>hb (by simp[h])) e
 done:=fun s Q E st hQ=>jxp_ hh st.1 st.2 (po_ _) fun h' he'=>hQ h' s.toks fun b o hb e=>he' b o (fun h=>hb (by simp[h])) e
 self:=fun _ _ _ _ st hQ=>wpAny_pyIter_keyiter st.1 hQ
theorem RawD.lt {h:Heap}(x:RawD h d ks ep):d < h.objs.size:=let ⟨_,_,ho,_⟩:=x;pt_ ho
theorem jwc_ (lo:(d == sysModules)=false):PySem.W.KdlSrc prog w "dict" d d ks.length (fun i v=>ks[i]?=some v) (fun h=>RawD h d ks ep) where
 type:=fun _ hm=>hm.typeIs
 there:=fun _ hm=>⟨hm.lt,hm.lt⟩
 keep:=fun _ _ hm hk=>hm.at fun o e=>hk d (.inl rfl) o e
 notList:=by decide
 notTuple:=by decide
 hint:=fun _ _ _ _ hm hq=>PySem.W.kdl_hint_dict hm.typeIs hq
 iter:=fun _ _ hh hm=>⟨_,_,(fun _ _ hq=>jsz_ lo hm hq),jpw_ hh _ d (p6_ hm.lt) ks ep,⟨⟨_,pv_ _ rfl,rfl,rfl⟩,hm.at fun o e=>pd_ _ e⟩⟩
end
section
variable {K:Type} [DecidableEq K] {N:OwnKind K}
theorem KX.keys {kvs:List (K×Addr×V)}{xs:List (K×Addr×Value)}(r:KX kvs xs):xs.map (fun x=>Value.ref x.2.1)=kvs.map fun e=>Value.ref e.2.1:=by
 unfold KX at r
 induction r with
 | nil=>rfl
 | cons h t ih=>rw[pp_,pp_,ih,h.2.1]
theorem jxt_ {P:Program}{w:World}{H:Hp}{h:Heap}{a:Addr}{kvs:List (K×Addr×V)}(ok:HOk P w H h)(e:Rd H a (DX N P w a kvs))(hK:KO N H kvs):kvs.length<=sizeLine/\(a == sysModules)=false/\∃ ep,RawD h a (kvs.map fun e=>Value.ref e.2.1) ep:=by
 obtain⟨z,hd,xs,rel,o,es,ep,h1,h2,h3,h4,_,_⟩:=jhn_ ok e hK
 refine⟨z,hd,ep,o,es,h1,h2,h3,?_⟩
 rw[h4,q1_,<- rel.keys]
 rfl
theorem jkb_:∀(kvs:List (K×Addr×V)),Vals (kvs.map fun e=>V.ref e.2.1) (kvs.map fun e=>Value.ref e.2.1)
 | []=>.nil
 | e::kvs=>.cons rfl (jkb_ kvs)
def jjq_ (N:OwnKind K)(P:Program)(w:World):List V->Hp->VK->Prop:=fun xs H Q=>match xs with
 | [.ref a]=>∃ kvs,Rd H a (DX N P w a kvs)/\KO N H kvs/\∀ l,H l=none->Q (.ref l) (upd H l (.lst (kvs.map fun e=>V.ref e.2.1)))
 | _=>False
theorem jtp_ {X:Cx}(hc:X.calm=true):CallR X (.type "list") (jjq_ N X.prog X.w):=by
 intro pins s σ H xs us Q I r h
 unfold jjq_ at h
 split at h
 ·rename_i a
  obtain⟨u,rfl,ru⟩:=vd_ r
  cases ru
  obtain⟨kvs,e,hK,q⟩:=h
  obtain⟨z,hd,ep,hr⟩:=jxt_ I.hok e hK
  refine PySem.W.kdl_call (jwc_ hd) (I.ok.hd hc) hr (by rw[pb_];exact z) fun h' tk acc c kk hS hacc=>?_
  have hl:acc.toList=kvs.map fun e=>Value.ref e.2.1:=by
   apply List.ext_getElem?
   intro j
   rw[rx_]
   cases hj:acc[j]? with
   | some v=>exact(hacc.2 j v hj).symm
   | none =>
    have:acc.size<=j:=by simpa using hj
    rw[hacc.1] at this
    exact(te_ this).symm
  have hv:=jkb_ kvs
  rw[<- hl] at hv
  refine⟨.ref s.heap.objs.size,_,I.laid (a:=s.heap.objs.size) (o:=.lst (kvs.map fun e=>V.ref e.2.1)) (t':=tk) kk (po_ _) ⟨by rw[pb_];exact z,acc.toList,c,hv,by rw[km_];exact hS⟩,rfl,q _ (I.hok.fresh (po_ _))⟩
 ·exact h.elim
end
end L2
namespace L2
open PySem PySem.Spec PyProof.Rows
section
variable {X:Cx}{pins:List (Addr×Obj)}{σ:St}{H:Hp}{s:Shared}{a:Addr}{u r:Value}{A:Around}{E:Value->Shared->Prop}
end
section
variable {X:Cx}{o e f:Expr}{apos cpos:Pos}{td ty tx:TE}
end
theorem jyw_ {X:Cx}:MtR X "list.pop" rPop:=fun pins s σ H x xs v us Q I rx rs h=>jwi_ pins s σ H x xs v us Q I rx rs h
theorem jwg_ {l:Addr}{xs:List V}{y:V}{H:Hp}{Q:VK}(h1:H l=some (.lst (xs++[y])))(h:Q y (upd H l (.lst xs))):rPop (.ref l) [] H Q:=⟨l,_,y,rfl,rfl,h1,by simp,by rw[List.dropLast_concat];exact h⟩
end L2
namespace L2
open PySem PySem.Spec PyProof.Rows
section
variable {X:Cx}
theorem jti_ {P:Nat->Value->Prop}{g:Nat->V}(hP:∀ i v,P i v->RelV (g i) v){acc:Array Value}{n:Nat}(h:ItemsOf P acc n):Vals ((pu_ n).map g) acc.toList:=by
 obtain⟨h1,h2⟩:=h
 have gen:∀(l:List Value) (k:Nat),(∀ j v,l[j]?=some v->RelV (g (k+j)) v)->Vals ((List.range' k l.length).map g) l:=by
  intro l
  induction l with
  | nil=>intro k _;exact .nil
  | cons x l ih =>
   intro k hk
   rw[ps_,List.range'_succ,pp_]
   exact .cons (by have:=hk 0 x rfl;simpa using this) (ih (k+1) fun j v hv=>by have:=hk (j+1) v (by simpa using hv);rw[show k+1+j=k+(j+1) by omega];exact this)
 have:=gen acc.toList 0 fun j v hv=>hP _ _ (h2 _ _ (by rw[la_,<- rx_];exact hv))
 rw[sv_,h1,<- List.range_eq_range'] at this
 exact this
end
end L2
namespace L2
open PySem PySem.Spec PyProof.Rows
section
variable {prog:Program}{w:World}{A:Around}{E:Value->Shared->Prop}{s:Shared}
end
section
variable {X:Cx}{tg:Expr}
end
end L2
namespace L2
open PySem PySem.Spec PyProof.Rows
section
variable {X:Cx}{tg:Expr}
end
section
variable {X:Cx}
end
end L2
namespace L2
open PySem PySem.Spec PyProof.Rows
section
variable {K:Type} [DecidableEq K] {N:OwnKind K}{X:Cx}
theorem vv_ {A:Around}{k:Nat}(hr:Room k A):A.units+4 < cLine:=ry_ (Nat.add_le_add_left (by decide:4<=64) _) hr.units
def jpo_ (N:OwnKind K)(P:Program)(w:World)(tk tv:TE):TE:=fun σ H Q=>∀ p,H p=none->tk σ (upd H p (DX N P w p [])) fun x H1=>tv σ H1 fun y H2=>H2 p=some (DX N P w p [])/\∃(b:Addr) (k:K),x=.ref b/\N.at_ H2 k b/\Q (.ref p) (upd H2 p (DX N P w p [(k,b,y)]))
theorem jqo_ {pos:Pos}{k v:Expr}{tk tv:TE}(hu:X.A.units+4 < cLine)(hk:PE X k tk)(hv:PE X v tv):PE X (.Dict [some k] [v] pos) (jpo_ N X.prog X.w tk tv):=by
 intro pins s σ H Q I q
 have hn:=I.hok.fresh (po_ s.heap.objs.size)
 have I1:=I.laid (a:=s.heap.objs.size) (o:=DX N X.prog X.w s.heap.objs.size []) (h':=s.heap.push { cls:=.type "dict",data:=.dict #[] }) (t':=s.toks) (fun _ _ q=>pd_ _ q) (po_ _)
  (jov_ (qz_ _) (beq_eq_false_iff_ne.mpr (tq_ (p6_ I.big))) (xs:=[]) (show KX [] [] from .nil) (pv_ _ rfl) ⟨rfl,rfl,rfl⟩ rfl rfl List.nodup_nil)
 refine wpAny_Dict_any rfl rfl (by simp) (by show 1<=15;decide) (pairTrees_cons_walk (thn (hk pins _ σ _ _ I1 (q _ hn)) fun u s1 ⟨x,H1,I1',rx,q1⟩=>thn (hv pins s1 σ H1 _ I1' q1) fun w2 s2 ⟨y,H2,I2,ry,e,b,ks,ex,eb,q2⟩=>pairTrees_nil_walk ?_))
 subst ex
 cases (show u=Value.ref b from rx)
 unfold storeAll
 rw[rp_]
 obtain⟨z,hd,xs,rel,dd⟩:=jvc_ I2.hok e (fun e he=>nomatch he)
 have hz:xs.length<=sizeLine:=by rw[<- sz_ rel];exact z
 refine wpAny_bind (wpAny_bind (wpAny_dictSet_heap (hsz:=hz) (knd:=N.hk X.prog X.w) (N.room0 hu) (N.of I2.hok eb) dd fun h' dd' hs=>wpAny_pure ?_))
 show wpAny _ _ (forIn [] _ _) _ _ _
 rw[r2_]
 refine wpAny_pure ⟨.ref s.heap.objs.size,_,?_,rfl,q2⟩
 obtain⟨q,es,ep,hq,h2,h3,h4,_,h5⟩:=dd'
 have hl:(putX [] ks b y).length<=sizeLine:=by rw[sizeLine_eq];have:=jah_ ([]:List (K×Addr×V)) ks b y;simp at this;omega
 exact ua_ I2 (by rw[e];exact True.intro) hs ⟨q,hq⟩ (jov_ hl hd (rel.put ks b ry) hq h2 h3 h4 h5)
end
section
variable {K:Type} [DecidableEq K] {N:OwnKind K}{X:Cx}{P:Program}{w:World}{o i e f value l tg:Expr}{pos pos' apos cpos:Pos}{td ty tv tx tl tk:TE}
theorem jka_ {k v:Expr}(hP:X.prog=P)(hw:X.w=w)(hu:X.A.units+4 < cLine)(hk:PE X k tk)(hv:PE X v tv):PE X (.Dict [some k] [v] pos) (jpo_ N P w tk tv):=by subst hP hw;exact jqo_ hu hk hv
theorem jwt_ (hP:X.prog=P)(hw:X.w=w)(hu:X.A.units+4 < cLine)(ho:PE X o td)(hi:PE X i ty)(hs:NoSl i):PE X (.Subscript o i pos) (jom_ N P w td ty):=by subst hP hw;exact jty_ hu ho hi hs
theorem jhs_ (hP:X.prog=P)(hw:X.w=w)(hu:X.A.units+4 < cLine)(hi:PE X i ty)(ho:PE X o td):PC X .NotIn i o (jfo_ N P w ty td):=by subst hP hw;exact jmr_ hu hi ho
theorem jqy_ (hP:X.prog=P)(hw:X.w=w)(hu:X.A.units+4 < cLine)(ho:PE X o td)(hi:PE X i ty)(hv:PE X value tv)(hs:swapsWith value (some (.Subscript o i pos')) pos.line X.env=pure false):PS X (.Assign [.Subscript o i pos'] value pos) (jpd_ N P w td ty tv):=by subst hP hw;exact jse_ hu ho hi hv hs
theorem jlr_ (hP:X.prog=P)(hw:X.w=w)(hc:X.calm=true):CallR X (.type "list") (jjq_ N P w):=by subst hP hw;exact jtp_ hc
end
section
variable {K:Type} [DecidableEq K] {N:OwnKind K}{P:Program}{w:World}{td ty tv tx:TE}{σ:St}{H:Hp}{Q:VK}
theorem jwe_ (h:td σ H fun x H1=>ty σ H1 fun y H2=>∃ a v,x=.ref a/\DGetX N P w H2 a y (some v)/\Q v H2):jom_ N P w td ty σ H Q:=h
theorem jpx_ {D:Ends}(h:tv σ H fun v H1=>td σ H1 fun x H2=>ty σ H2 fun y H3=>∃ a H4,x=.ref a/\jqe_ N P w H3 a y v H4/\D.nx σ H4):jpd_ N P w td ty tv D σ H:=h
end
end L2
namespace L2
open PySem PySem.Spec PyProof.Rows
section
variable {K:Type} [DecidableEq K] {N:OwnKind K}
theorem jgv_ {kvs:List (K×Addr×V)}{k:K}:valX kvs k=none↔k∉kvs.map (·.1):=by
 unfold valX
 rw[Option.map_eq_none_iff,List.find?_eq_none]
 constructor
 ·intro h q
  obtain⟨e,he,rfl⟩:=qb_.mp q
  exact h e he (by simp)
 ·intro h e he q
  exact h (qb_.mpr ⟨e,he,of_decide_eq_true q⟩)
end
end L2
namespace L2
open PySem PySem.Spec PyProof.Rows
theorem jxo_ {X:Cx}:MtR X "list.pop" jjm_:=fun pins s σ H x xs v us Q I rx rs h=>jpa_ pins s σ H x xs v us Q I rx rs h
theorem jvq_ {l:Addr}{xs:List V}{y:V}{H:Hp}{Q:VK}(h1:H l=some (.lst (y::xs)))(h:Q y (upd H l (.lst xs))):jjm_ (.ref l) [.int 0] H Q :=
 ⟨l,_,0,0,y,rfl,rfl,h1,by decide,by decide,by unfold seqIndex?;simp,rfl,h⟩
end L2
namespace L2
open PySem PySem.Spec PyProof.Rows
theorem zl_:∀(names:List (Str×NameKind)) (n:Nat) (acc:List (Str×Addr)),cellsFrom n names acc=cellsFrom n names []++acc
 | [],_,_=>rfl
 | (x,k)::r,n,acc=>by
  unfold cellsFrom
  split
  ·rw[zl_ r (n+1) ((x,n)::acc),zl_ r (n+1) [(x,n)],r6_];rfl
  ·exact zl_ r n acc
theorem y8_:∀{names:List (Str×NameKind)}{n:Nat}{x:Str}{c:Addr},(x,c)∈cellsFrom n names []->(x,NameKind.cell)∈names
 | [],_,_,_,h=>nomatch h
 | (y,k)::r,n,x,c,h=>by
  unfold cellsFrom at h
  split at h
  ·rename_i hk
   rw[zl_] at h
   rcases pe_.mp h with h | h
   ·exact pj_ _ (y8_ h)
   ·cases ph_.mp h
    have:k=.cell:=by simpa using hk
    rw[this];exact pm_
  ·exact pj_ _ (y8_ h)
theorem y7_ {α:Type}{x:Str}:∀{l1 l2:List (Str×α)},(l1++l2).lookup x=(l1.lookup x).or (l2.lookup x)
 | [],_=>by simp
 | (y,a)::r,l2=>by
  rw[ss_,qd_,qd_]
  cases x == y
  ·exact y7_
  ·rfl
theorem xh_:∀{names:List (Str×NameKind)}{n:Nat}{x:Str},(x,NameKind.cell)∈names->∃ c,(cellsFrom n names []).lookup x=some c
 | [],_,_,h=>nomatch h
 | (y,k)::r,n,x,h=>by
  unfold cellsFrom
  by_cases hk:(k == NameKind.cell)=true
  ·rw[if_pos hk,zl_,y7_]
   cases e:(cellsFrom (n+1) r []).lookup x with
   | some c=>exact⟨c,rfl⟩
   | none =>
    rcases p0_.mp h with z | z
    ·cases z;exact⟨n,by simp⟩
    ·obtain⟨c,hc⟩:=xh_ (n:=n+1) z
     rw[e] at hc;cases hc
  ·rw[if_neg hk]
   rcases p0_.mp h with z | z
   ·cases z;exact absurd rfl hk
   ·exact xh_ z
section
variable {M:Model}{A:Around}{E:Value->Shared->Prop}{s:Shared}
theorem jfw_ {scope:Scope}{globals:Addr}{closure:List (Str×Addr)}{qual:Str}{func:Option Addr}{code:Value}{env:Env}{builtins:Addr}{Q:Env->Shared->Prop}
  (hQ:Q (newEnv scope s.heap.objs.size globals (cellsFrom (s.heap.objs.size+1) scope.names closure) qual func code (some env) builtins) { s with heap:=pushCells (s.heap.push { cls:=.type "dict",data:=.dict #[] }) scope.names }) :
  wpAny M A (newFunctionEnv scope globals closure [] qual func code (some env) builtins) Q E s:=by
 simp only[newFunctionEnv,k0_,if_true]
 refine wpAny_bind (wpAny_alloc ?_)
 refine wpAny_bind (wpAny_layCells _ (fun name kind cells=>by cases hkc:kind == NameKind.cell <;> simp[hkc]) _ _ _ _ ?_)
 rw[show ({ s with heap:=s.heap.push { cls:=.type "dict",data:=.dict #[] } }:Shared).heap.objs.size=s.heap.objs.size+1 from qx_ ..]
 simp only[r2_]
 exact wpAny_bind (wpAny_pure (wpAny_pure hQ))
end
theorem xg_ {env:Env}{x:Str}{k:NameKind}:∀{names:List (Str×NameKind)},
  (names.map fun(n,k)=>if (k == NameKind.free&&env.scope.kind == .function&&env.kindOf n == some .cell) then (n,NameKind.cell) else (n,k)).lookup x=some k->(k=.cell∨k=.free)->(x,NameKind.free)∈names∨(x,NameKind.cell)∈names
 | [],h,_=>by cases h
 | (n,k')::r,h,hk=>by
  rw[pp_] at h
  by_cases e:x=n
  ·subst e
   dsimp only at h
   split at h
   ·rename_i q
    rw[qd_,beq_self_eq_true] at h
    have:k'=.free:=by simp only[qk_] at q;simpa using q.1.1
    subst this;exact .inl pm_
   ·rw[qd_,beq_self_eq_true] at h
    have hkk:k'=k:=Option.some.inj h
    subst hkk
    rcases hk with z | z
    ·subst z;exact .inr pm_
    ·subst z;exact .inl pm_
  ·have e':(x == n)=false:=beq_eq_false_iff_ne.mpr e
   have:=xg_ (env:=env) (x:=x) (k:=k) (names:=r) (by
    dsimp only at h
    split at h
    ·rw[qd_,e'] at h;exact h
    ·rw[qd_,e'] at h;exact h) hk
   exact this.imp (pj_ _) (pj_ _)
noncomputable def zv_ (X:Cx)(pins:List (Addr×Obj))(scope:Scope)(N':List Str)(fp:List Addr)(s3:Shared)(H3:Hp):Cx where
 prog:=X.prog
 w:=X.w
 K:=X.K
 mg:=X.mg
 base:=X.base
 A:=X.A
 N:=N'
 s₀:=s3
 H₀:=H3
 env:=compEnvC scope (cellsFrom (s3.heap.objs.size+1) scope.names (clTo X.env.cells scope.names [])) s3.heap.objs.size X.env
 outer:=X.stack
 stack:=X.stack
 ex:=fp
 fn:=fun x=>scope.names.lookup x == some .cell
 calm:=X.calm
 pn:=X.pn++pins
 xe:=fun _ _=>False
noncomputable def jar_ (sc:Scope)(N:List Str)(scope:Scope)(N':List Str)(ix:List (Option Nat)):Bool :=
 scope.names.all (fun y=>y.2 != .cell || scope.names.lookup y.1 == some .cell)&&scope.names.all (fun y=>y.2 != .local || scope.names.lookup y.1 == some .local)
  && scope.names.all (fun y=>y.2 != .free || (scope.names.lookup y.1 == some .free&&(sc.names.lookup y.1 == some .cell || sc.names.lookup y.1 == some .free)))&&z2_ scope.names N ix N'
structure CompFactsC (X:Cx)(scope:Scope)(N':List Str)(ix:List (Option Nat)):Prop where
 cell:∀ x,(x,NameKind.cell)∈scope.names->scope.names.lookup x=some .cell
 names:∀ y∈scope.names,y.2=.local->scope.names.lookup y.1=some .local
 free:∀ x,(x,NameKind.free)∈scope.names->X.env.kindOf x=some .cell∨X.env.kindOf x=some .free
 freeL:∀ x,(x,NameKind.free)∈scope.names->scope.names.lookup x=some .free
 len:ix.length=N'.length
 link:∀{i j:Nat}{x:Str},ix[i]?=some (some j)->N'[i]?=some x->X.N[j]?=some x/\scope.names.lookup x=some .free
theorem jin_ {X:Cx}{scope:Scope}{N':List Str}{ix:List (Option Nat)}(h:jar_ X.env.scope X.N scope N' ix=true):CompFactsC X scope N' ix:=by
 simp only[jar_,qk_,th_] at h
 obtain⟨⟨⟨h1,h2⟩,h3⟩,h4⟩:=h
 have hfr:∀ x,(x,NameKind.free)∈scope.names->scope.names.lookup x=some .free/\(X.env.scope.names.lookup x=some .cell∨X.env.scope.names.lookup x=some .free):=fun x hx=>by
  have q:=h3 _ hx
  simpa using q
 refine⟨fun x hx=>?_,fun y hy e=>?_,fun x hx=>(hfr x hx).2,fun x hx=>(hfr x hx).1,xs_ h4,fun e e'=>xt_ h4 e e'⟩
 ·have q:=h1 _ hx
  simpa using q
 ·have q:=h2 y hy
  rw[e] at q
  simpa using q
section
variable {X:Cx}{pins:List (Addr×Obj)}{σ:St}{H H':Hp}{s s':Shared}{scope:Scope}{N':List Str}{ix:List (Option Nat)}{fp:List Addr}
theorem jhy_ (I:Inv X pins σ H s)(F:CompFactsC X scope N' ix){x:Str}{c:Addr}(h:(clTo X.env.cells scope.names []).lookup x=some c):X.env.cells.lookup x=some c/\(x,NameKind.free)∈scope.names:=by
 rcases jap_ _ _ h with q | ⟨q1,q2⟩
 ·cases q
 ·obtain⟨c',e⟩:=I.ok.has x (F.free x q1)
  rw[e] at q2
  exact⟨by rw[e,q2];rfl,q1⟩
theorem jyg_ {n:Nat}{names:List (Str×NameKind)}{cl:List (Str×Addr)}{x:Str}{c:Addr}(h:(cellsFrom n names cl).lookup x=some c):(x,c)∈cellsFrom n names []∨cl.lookup x=some c:=by
 rw[zl_,y7_] at h
 cases e:(cellsFrom n names []).lookup x with
 | some c' =>
  rw[e] at h
  cases h
  exact .inl (rf_ e)
 | none=>rw[e] at h;exact .inr h
theorem jba_ (h:Heap)(names:List (Str×NameKind)):CellsOk (pushCells (h.push { cls:=.type "dict",data:=.dict #[] }) names) (h.objs.size+1) (cellsFrom (h.objs.size+1) names []):=by
 have:=cellsFrom_ok names (h.push { cls:=.type "dict",data:=.dict #[] }) (h.objs.size+1) [] ⟨fun _ _ hm=>(nomatch hm),List.Pairwise.nil⟩ (by rw[qx_];exact po_ _)
 rw[qx_] at this
 exact this
theorem csC (I:Inv X pins σ H s)(F:CompFactsC X scope N' ix){x:Str}{c:Addr}(h:(cellsFrom (s.heap.objs.size+1) scope.names (clTo X.env.cells scope.names [])).lookup x=some c) :
  ((x,c)∈cellsFrom (s.heap.objs.size+1) scope.names []/\s.heap.objs.size+1<=c)∨(X.env.cells.lookup x=some c/\(x,NameKind.free)∈scope.names/\c < s.heap.objs.size):=by
 rcases jyg_ h with q | q
 ·exact .inl ⟨q,((jba_ s.heap scope.names).empty x c q).2⟩
 ·obtain⟨h1,h2⟩:=jhy_ I F q
  obtain⟨v,z⟩:=I.cell x c h1
  exact .inr ⟨h1,h2,z.lt⟩
theorem jgw_ (I:Inv X pins σ H s)(F:CompFactsC X scope N' ix)(hk:scope.kind=.function)(hf:∀ b∈fp,FpOk X pins H b)(ho:∀ b∈fp,∃ o,s.heap.get? b=some o):(zv_ X pins scope N' fp s H).Ok where
 mod:=I.ok.mod
 kind:=hk
 glob:=I.ok.glob
 blt:=I.ok.blt
 above:=po_ _
 inj:=fun x y c e1 e2=>by
  rcases csC I F e1 with ⟨q1,l1⟩ | ⟨q1,_,l1⟩ <;> rcases csC I F e2 with ⟨q2,l2⟩ | ⟨q2,_,l2⟩
  ·exact name_of_addr (jba_ s.heap scope.names).apart q1 q2
  ·exact absurd l2 (wv_ (s8_ l1))
  ·exact absurd l1 (wv_ (s8_ l2))
  ·exact I.ok.inj x y c q1 q2
 has:=fun x hx=>by
  have q:(x,NameKind.free)∈scope.names∨(x,NameKind.cell)∈scope.names:=by
   rcases hx with z | z
   ·exact xg_ z (.inl rfl)
   ·exact xg_ z (.inr rfl)
  show ∃ c,(cellsFrom (s.heap.objs.size+1) scope.names (clTo X.env.cells scope.names [])).lookup x=some c
  rw[zl_,y7_]
  cases e:(cellsFrom (s.heap.objs.size+1) scope.names []).lookup x with
  | some c=>exact⟨c,rfl⟩
  | none =>
   rcases q with q | q
   ·exact⟨_,yu_ _ _ (.inl q)⟩
   ·obtain⟨c,hc⟩:=xh_ (n:=s.heap.objs.size+1) q
    rw[e] at hc;cases hc
 cab:=fun x c e h=>by
  have e:scope.names.lookup x=some .cell:=by simpa using (show (scope.names.lookup x == some .cell)=true from e)
  rcases csC I F h with ⟨_,l⟩ | ⟨_,q,_⟩
  ·show s.heap.objs.size<=c
   omega
  ·rw[F.freeL x q] at e;cases e
 hd:=I.ok.hd
 frames:=I.ok.frames
 stk:=.inl rfl
 exf:=fun b hb=>by
  obtain⟨o,e⟩:=ho b hb
  refine⟨p6_ (pt_ e),fun x c q=>?_⟩
  rcases csC I F q with ⟨_,l⟩ | ⟨q,_⟩
  ·intro z
   rw[z] at l
   exact absurd (pt_ e) (wv_ (s8_ l))
  ·exact(hf b hb).2.2.2.2.1 x c q
 bs:=fun b o e=>I.bs b o e
 bsz:=qe_ I.ok.bsz I.sz
 noex:=fun b o e hb=>by
  rcases (hf b hb).2.2.2.1 with z | z
  ·exact I.ok.noex b o e z
  ·exact absurd (qa_ (pt_ (I.ok.bs b o e).1) z) (sk_ _)
 exfs:=fun b hb=>FpOk.stk I (hf b hb)
 funs:=I.stack
 frf:=I.stkFree
theorem jmn_ {t:Nat}(I:Inv X pins σ H s)(F:CompFactsC X scope N' ix)(hk:scope.kind=.function)(hf:∀ b∈fp,FpOk X pins H b)(ho:∀ b∈fp,∃ o,s.heap.get? b=some o) :
  Inv (zv_ X pins scope N' fp s H) [] (pick ix σ) H { s with heap:=pushCells (s.heap.push { cls:=.type "dict",data:=.dict #[] }) scope.names,toks:=t }:=by
 have k:∀ b u,s.heap.get? b=some u->(pushCells (s.heap.push { cls:=.type "dict",data:=.dict #[] }) scope.names).get? b=some u:=fun b u e=>pushCells_keeps _ _ b u (pd_ _ e)
 have hn:(pushCells (s.heap.push { cls:=.type "dict",data:=.dict #[] }) scope.names).Ns s.heap.objs.size (fun _=>none):=(Heap.Ns.new s.heap (.type "dict")).keeps (pushCells_keeps _ _)
 refine⟨jgw_ I F hk hf ho,rfl,I.bare,Un.kept k,⟨_,hn,fun i x v e1 e2 e3=>?_⟩,fun x c e=>?_,I.fresh,fun x c e=>?_,fun p hp=>?_,I.hok.kept k,?_⟩
 ·obtain⟨j,ej,ev⟩:=jgj_ e2
  obtain⟨l1,l2⟩:=F.link ej e1
  have fr:(x,NameKind.free)∈scope.names:=mem_of_lookup l2
  obtain⟨m0,hn0,hl⟩:=I.loc
  have vis:Vis X.env.scope x:=.inr (F.free x fr)
  obtain⟨u,r,l⟩:=hl j x v l1 ev vis
  refine⟨u,r,.inr ⟨yr_ l2,?_⟩⟩
  rcases l with ⟨l,_⟩ | ⟨_,c,e,z⟩
  ·rcases F.free x fr with q | q
   ·rw[q] at l;cases l
   ·rw[q] at l;cases l
  ·refine⟨c,?_,z.keeps k⟩
   show (cellsFrom (s.heap.objs.size+1) scope.names (clTo X.env.cells scope.names [])).lookup x=some c
   have hno:(cellsFrom (s.heap.objs.size+1) scope.names []).lookup x=none:=by
    cases e:(cellsFrom (s.heap.objs.size+1) scope.names []).lookup x with
    | none=>rfl
    | some c' =>
     have:=F.cell x (y8_ (rf_ e))
     rw[l2] at this;cases this
   rw[zl_,y7_,hno,Option.none_or,yu_ _ _ (.inl fr),e];rfl
 ·rcases csC I F e with ⟨q,_⟩ | ⟨q,_⟩
  ·exact⟨none,((jba_ s.heap scope.names).empty x c q).1⟩
  ·obtain⟨v,z⟩:=I.cell x c q
   exact⟨v,z.keeps k⟩
 ·rcases csC I F e with ⟨_,l⟩ | ⟨q,_⟩
  ·exact I.hok.fresh (by omega)
  ·exact I.freeC x c q
 ·have hp':p∈X.pn++pins:=by
   have z:p∈(X.pn++pins)++[]:=hp
   rwa [qq_] at z
  obtain⟨e,n,ne,nf,d⟩:=I.pin p hp'
  refine⟨k _ _ e,n,p6_ (pt_ e),fun z=>?_,d⟩
  rcases p0_.mp (I.stkSub p.1 z) with q | q
  ·exact ne q
  ·exact nf q
 ·show (pick ix σ).length=N'.length
  unfold pick;rw[pb_];exact F.len
theorem jge_ {σ':St}{ps:List (Addr×Obj)}{h':Heap}(I:Inv X pins σ H s)(hf:∀ b∈fp,FpOk X pins H b)(I':Inv (zv_ X pins scope N' fp s H) ps σ' H' s')(hs:qv_ s.heap.objs.size s'.heap h') :
  Inv X pins σ H' { s' with heap:=h' }:=by
 have bk:∀{b o o'},s.heap.get? b=some o->s'.heap.get? b=some o'->h'.get? b=some o':=fun{b o o'} e e'=>(hs.2 b (p6_ (pt_ e))).trans e'
 refine I.call' (s':={ s' with heap:=h' }) (ch:=fp) I'.os ⟨fun b o e n hb hx=>?_,fun b o e n hb hx=>?_,I'.base.free,fun b o e hx=>?_,I'.base.tups,I'.base.frzs,I'.base.tbls⟩ (I'.hok.sameBut I'.free hs) I'.bare fun b hb=>⟨(hf b hb).2.2.2.1,(hf b hb).2.1,(hf b hb).2.2.2.2.1,(hf b hb).2.2.2.2.2⟩
 ·exact bk e (I'.base.keep b o e n hb hx)
 ·obtain⟨sl,q⟩:=I'.base.slot b o e n hb hx
  exact⟨sl,bk e q⟩
 ·obtain⟨o',q⟩:=I'.base.there b o e hx
  exact⟨o',bk e q⟩
end
section
variable {X:Cx}{elt tg iter:Expr}{ifs:List Expr}{scope:Scope}{pos:Pos}{N':List Str}{ix:List (Option Nat)}{wi:TI}{g:TG}{tc:TT}{te:TE}
theorem jmo_ {use:Option (Value->Sem Unit)}{R:Value->Shared->Prop}{pins:List (Addr×Obj)}{s:Shared}{σ:St}{H:Hp}{Q:VK}(hc:X.calm=true)(ok:jar_ X.env.scope X.N scope N' ix=true)(hk:scope.kind=.function)
  (hi:PI X tg iter wi)
  (hg:∀ pins fp s3 H3,PG (zv_ X pins scope N' fp s3 H3) tg g) (ht:∀ pins fp s3 H3,PTs (zv_ X pins scope N' fp s3 H3) ifs tc) (he:∀ pins fp s3 H3,PE (zv_ X pins scope N' fp s3 H3) elt te)
  (hs:∀ x,foldedSetIterable iter X.env x=pure x) (I:Inv X pins σ H s) (h:jdu_ ix wi g tc te σ H Q)
  (fin:∀(p C:Addr) (H':Hp) (s':Shared),(∃ m,s'.heap.Ns C m)->FpOk X pins H' C->(∀ h',qv_ C s'.heap h'->Inv X pins σ H' { s' with heap:=h' })->Q (.ref p) H'->compPost (model X.prog X.w) X.A X.xe use R (.ref p) C (.ok .next) s') :
  wpAny (model X.prog X.w) X.A (comprehension (.ListComp elt [⟨tg,iter,ifs,0⟩] scope pos) scope X.env (firstIterPos [⟨tg,iter,ifs,0⟩] pos) (newList []) (firstAsync [⟨tg,iter,ifs,0⟩]) (firstIter [⟨tg,iter,ifs,0⟩] X.env) use) R X.xe s:=by
 have F:=jin_ ok
 refine wpAny_comprehension_free (cl:=clTo X.env.cells scope.names []) rfl hs (vr_ fun y hy e=>?_) hk F.names ?_
 ·obtain⟨n,k⟩:=y
  have e':k=.free:=e
  subst e'
  exact I.ok.has n (F.free n hy)
 refine thn (hi pins s σ H _ I h) fun v s1 h1=>thn h1 fun itv s2 h2=>?_
 obtain⟨it,fp,tn,J,H2,e,I2,T,st2,f2,rd⟩:=h2
 subst e
 refine wpAny_newObj_type ?_
 have hp:=I2.fresh
 obtain⟨W,⟨m0,w0⟩,turn⟩:=rd _ hp
 have I3:=I2.lnew (ys:=[]) (its:=[]) (t':=s2.toks) Paired.nil (qz_ _)
 have hf3:∀ b∈fp,FpOk X pins (upd H2 s2.heap.objs.size (.lst [])) b:=fun b hb=>by
  obtain⟨o,e,_⟩:=T.obj _ _ st2 b hb
  exact⟨by rw[ji_ (p6_ (pt_ e))];exact(f2 b hb).1,(f2 b hb).2⟩
 have ho3:∀ b∈fp,∃ o,(s2.heap.push { cls:=.type "list",data:=.seq ([]:List Value).toArray }).get? b=some o:=fun b hb=>by
  obtain⟨o,e,_⟩:=T.obj _ _ st2 b hb
  exact⟨o,pd_ _ e⟩
 have hpC:s2.heap.objs.size≠(s2.heap.push { cls:=.type "list",data:=.seq ([]:List Value).toArray }).objs.size:=by
  rw[qx_];exact p6_ (sd_ _)
 refine jfw_ ?_
 have I4:=jmn_ (t:=s2.toks) I3 F hk hf3 ho3
 have k4:∀ b o,s2.heap.get? b=some o->(pushCells ((s2.heap.push { cls:=.type "list",data:=.seq ([]:List Value).toArray }).push { cls:=.type "dict",data:=.dict #[] }) scope.names).get? b=some o:=fun b o e =>
  pushCells_keeps _ _ b o (pd_ _ (pd_ _ e))
 have st4:tn 0 (pushCells ((s2.heap.push { cls:=.type "list",data:=.seq ([]:List Value).toArray }).push { cls:=.type "dict",data:=.dict #[] }) scope.names):=T.keep _ _ _ st2 fun b _ o e=>k4 b o e
 have fx:∀{H':Hp}{ps:List (Addr×Obj)},(∀ b∈fp,H' b=none)->(∀ b∈fp,∀ p∈ps,p.1≠b)->∀ b∈fp,FpOk (zv_ X pins scope N' fp { s2 with heap:=s2.heap.push { cls:=.type "list",data:=.seq ([]:List Value).toArray },toks:=s2.toks } (upd H2 s2.heap.objs.size (.lst []))) ps H' b:=fun{H' ps} hn hps b hb=>by
  obtain⟨o,e⟩:=ho3 b hb
  refine⟨hn b hb,p6_ (pt_ e),FpOk.stk I3 (hf3 b hb),.inl hb,fun x c q=>(jgw_ I3 F hk hf3 ho3).exf b hb |>.2 x c q,fun p hp=>?_⟩
  rcases pe_.mp hp with z | z
  ·exact(hf3 b hb).2.2.2.2.2 p z
  ·exact hps b hb p z
 have loop:codeAny (model X.prog X.w) X.A (.compLoop (.ListComp elt [⟨tg,iter,ifs,0⟩] scope pos) 0 (.ref it) (.ref s2.heap.objs.size) (compEnvC scope (cellsFrom ((s2.heap.push { cls:=.type "list",data:=.seq ([]:List Value).toArray }).objs.size+1) scope.names (clTo X.env.cells scope.names [])) (s2.heap.push { cls:=.type "list",data:=.seq ([]:List Value).toArray }).objs.size X.env))
   (compPost (model X.prog X.w) X.A X.xe use R (.ref s2.heap.objs.size) (s2.heap.push { cls:=.type "list",data:=.seq ([]:List Value).toArray }).objs.size) { s2 with heap:=pushCells ((s2.heap.push { cls:=.type "list",data:=.seq ([]:List Value).toArray }).push { cls:=.type "dict",data:=.dict #[] }) scope.names,toks:=s2.toks }:=by
  refine uh_ rfl (fun n s'=>∃ i acc σ' H',Inv (zv_ X pins scope N' fp { s2 with heap:=s2.heap.push { cls:=.type "list",data:=.seq ([]:List Value).toArray },toks:=s2.toks } (upd H2 s2.heap.objs.size (.lst []))) [] σ' H' s'/\tn i s'.heap/\(∀ b∈fp,H' b=none)/\W i n acc σ' H')
   ?_ m0 ⟨0,[],_,_,I4,st4,fun b hb=>(hf3 b hb).1,w0⟩
  rintro n s5 ⟨i,acc,σ5,H5,I5,st5,fr5,w5⟩
  obtain⟨hacc,alt⟩:=turn i n acc σ5 H5 w5
  rcases alt with ⟨stop,q⟩ | ⟨go,hz,N,hN,step⟩
  ·refine wpAny_mono (T.done (zv_ X pins scope N' fp { s2 with heap:=s2.heap.push { cls:=.type "list",data:=.seq ([]:List Value).toArray },toks:=s2.toks } (upd H2 s2.heap.objs.size (.lst []))) rfl rfl rfl hc i [] s5 σ5 H5 (fun _ _=>False) I5 (fx (ps:=[]) fr5 (fun _ _ _ z=>nomatch z)) st5 stop) (fun r s6 ⟨hr,I6⟩=>?_) fun _ _ f=>f.elim
   subst hr
   refine fin _ _ H5 s6 ?_ (I3.fpOk (po_ _) I6.free) (fun h' hs'=>jge_ I3 hf3 I6 hs') q
   obtain⟨m,hm,_⟩:=I6.loc
   exact⟨m,hm⟩
  ·refine wpAny_mono (T.item (zv_ X pins scope N' fp { s2 with heap:=s2.heap.push { cls:=.type "list",data:=.seq ([]:List Value).toArray },toks:=s2.toks } (upd H2 s2.heap.objs.size (.lst []))) rfl rfl rfl hc i [] s5 σ5 H5 (fun _ _=>False) I5 (fx (ps:=[]) fr5 (fun _ _ _ z=>nomatch z)) st5 go) (fun r s6 ⟨u,hr,h6⟩=>?_) fun _ _ f=>f.elim
   subst hr
   refine wpAny_mono h6 (fun _ s7 ⟨x,H7,I7,r7,y7,st7,fr7⟩=>?_) fun _ _ f=>f.elim
   have I7':=I7.pinned (fx (ps:=[]) fr7 (fun _ _ _ z=>nomatch z)) (T.obj _ _ st7)
   refine wpAny_mono (hg _ _ _ _ _ s7 σ5 H7 x u _ I7' r7 (step x H7 y7)) (fun _ s8 ⟨σ8,H8,I8,q8⟩=>?_) fun _ _ f=>f.elim
   refine wpAny_mono (ht _ _ _ _ _ s8 σ8 H8 _ I8 q8) (fun b s9 ⟨H9,I9,q9⟩=>?_) fun _ _ f=>f.elim
   have keep:∀{σ':St}{H':Hp}{s':Shared},Inv (zv_ X pins scope N' fp { s2 with heap:=s2.heap.push { cls:=.type "list",data:=.seq ([]:List Value).toArray },toks:=s2.toks } (upd H2 s2.heap.objs.size (.lst []))) ([]++uy_ fp s7.heap) σ' H' s' ->
     tn (i+1) s'.heap/\∀ b∈fp,H' b=none:=fun{σ' H' s'} I'=>by
    refine⟨T.keep _ _ _ st7 fun b hb o e=>(I'.pin (b,o) (qc_ _ (qc_ _ (yj_ hb e)))).1,fun b hb=>?_⟩
    obtain⟨o,e,d⟩:=T.obj _ _ st7 b hb
    exact(I'.pin (b,o) (qc_ _ (qc_ _ (yj_ hb e)))).2.1
   cases b with
   | false =>
    rw[if_neg pi_] at q9 ⊢
    obtain⟨m',hm,w9⟩:=hN _ _ _ q9
    exact⟨m',hm,i+1,acc,σ8,H9,I9.unpinned,(keep I9).1,(keep I9).2,w9⟩
   | true =>
    rw[if_pos rfl] at q9 ⊢
    refine wpAny_mono (he _ _ _ _ _ s9 σ8 H9 _ I9 q9) (fun y s10 ⟨v10,H10,I10,r10,hl10,w10⟩=>?_) fun _ _ f=>f.elim
    refine wpAny_mono (u7_ (X:=(zv_ X pins scope N' fp { s2 with heap:=s2.heap.push { cls:=.type "list",data:=.seq ([]:List Value).toArray },toks:=s2.toks } (upd H2 s2.heap.objs.size (.lst [])))) _ s10 σ8 H10 (.ref s2.heap.objs.size) [v10] (.ref s2.heap.objs.size) [y] (fun _ H'=>N (acc++[v10]) σ8 H') I10 rfl (.cons r10 .nil) ⟨_,acc,v10,rfl,rfl,hl10,hz,w10⟩) (fun _ s11 ⟨_,H11,I11,_,n11⟩=>?_) fun _ _ f=>f.elim
    obtain⟨m',hm,w11⟩:=hN _ _ _ n11
    exact⟨m',hm,i+1,acc++[v10],σ8,H11,I11.unpinned,(keep I11).1,(keep I11).2,w11⟩
 exact codeAny_compStart_list loop (T.self X.A 0 _ _ _ st4 loop)
theorem jrr_ (N':List Str)(ix:List (Option Nat))(hc:X.calm=true)(ok:jar_ X.env.scope X.N scope N' ix=true)(hk:scope.kind=.function)(hi:PI X tg iter wi)
  (hg:∀ pins fp s3 H3,PG (zv_ X pins scope N' fp s3 H3) tg g) (ht:∀ pins fp s3 H3,PTs (zv_ X pins scope N' fp s3 H3) ifs tc) (he:∀ pins fp s3 H3,PE (zv_ X pins scope N' fp s3 H3) elt te)
  (hs:∀ x,foldedSetIterable iter X.env x=pure x:=by intro _;rfl):PE X (.ListComp elt [⟨tg,iter,ifs,0⟩] scope pos) (jdu_ ix wi g tc te):=by
 intro pins s σ H Q I h
 rw[eval_ListComp]
 refine jmo_ hc ok hk hi hg ht he hs I h fun p C H' s' hm fC inv q=>?_
 obtain⟨m,hm⟩:=hm
 exact⟨m,hm,fun h' hs'=>⟨.ref p,H',inv h' hs',rfl,q⟩⟩
end
end L2
namespace L2
open PySem PySem.Spec PyProof.Rows
section
variable {X:Cx}
end
end L2
namespace L2
open PySem PySem.Spec PyProof.Rows
section
variable {prog:Program}{w:World}{A:Around}{E:Value->Shared->Prop}{s:Shared}{it d:Addr}{ks:List Value}{i ep:Nat}
end
section
variable {K:Type} [DecidableEq K] {N:OwnKind K}
section
variable {X:Cx}
variable {P:Program}{w:World}
end
end
end L2
namespace L2
open PySem PySem.Spec PyProof.Rows
section
variable {X:Cx}
def jlq_:V->List V->Hp->VK->Prop:=fun x vs H Q=>∃(l:Addr) (ns:List Int) (k:Int),x=.ref l/\vs=[.int k]/\H l=some (.lst (ns.map V.int))/\k∈ns/\Q .non (upd H l (.lst ((ns.erase k).map V.int)))
theorem jrl_ {H:Hp}{Q:VK}{l:Addr}{ns:List Int}{k:Int}(h1:H l=some (.lst (ns.map V.int)))(h2:k∈ns)(h:Q .non (upd H l (.lst ((ns.erase k).map V.int)))):jlq_ (.ref l) [.int k] H Q:=⟨l,ns,k,rfl,rfl,h1,h2,h⟩
theorem jhj_ {k:Int}:∀{ns:List Int},k∈ns->∃ j:Nat,∃ hj:j < ns.length,ns[j]=k/\(∀ i (hi:i < ns.length),i < j->ns[i]≠k)/\ns.erase k=ns.eraseIdx j
 | [],h=>nomatch h
 | n::ns,h=>by
  by_cases e:n=k
  ·subst e
   exact⟨0,by simp,rfl,fun i _ hi=>absurd hi (s1_ _),by simp⟩
  ·have h':k∈ns:=by
    rcases p0_.mp h with z | z
    ·exact absurd z.symm e
    ·exact z
   obtain⟨j,hj,h1,h2,h3⟩:=jhj_ h'
   refine⟨j+1,by simpa using hj,by simpa using h1,fun i hi hlt=>?_,?_⟩
   ·cases i with
    | zero=>exact e
    | succ i=>exact h2 i (by simpa using hi) (by omega)
   ·rw[sp_ (by simpa using e),h3];rfl
theorem jmc_:MtR X "list.remove" jlq_:=fun pins s σ H x vs v us Q I rx rs h=>by
 obtain⟨l,ns,k,rfl,rfl,hH,hk,q⟩:=h
 cases rx
 cases rs with
 | cons r1 rs =>
  cases rs
  obtain⟨t,rfl⟩:=r1
  obtain⟨z,its,n,r,hl,e⟩:=I.lstM hH
  rw[pb_] at z hl
  obtain⟨j,hj,h1,h2,h3⟩:=jhj_ hk
  have hval:∀(i:Nat) (hi:i < its.length),∃ t,∃ hi':i < ns.length,its[i]=.int ns[i] t:=fun i hi=>by
   obtain⟨w',hw,t,rfl⟩:=r.get (i:=i) (x:=V.int (ns[i]'(by omega))) (by rw[pl_,pa_ (show i < ns.length by omega)];rfl)
   rw[pa_ hi] at hw
   injection hw with hw
   exact⟨t,by omega,hw⟩
  have hj':j < its.length:=by omega
  refine call_meets F.slot_list_remove ⟨_,e,rfl⟩ F.entry_list_remove (F.args_list_remove_2 _ _) (MeetsSeq.list_remove l its.toArray n (.int k t) (sb_ k) (fun y hy=>?_) j (by simpa using hj') ?_ (fun i hi hlt=>?_) (by rw[pn_];omega)) ⟨e,?_⟩
  ·have hy':y∈its:=by simpa using hy
   obtain⟨i,hi,rfl⟩:=ty_ hy'
   obtain⟨t',_,e'⟩:=hval i hi
   rw[e']
   exact MeetsSeq.EqGives.int _ _ _ _
  ·obtain⟨t',_,e'⟩:=hval j hj'
   show sb_ k its[j]=true
   rw[e',h1]
   exact beq_self_eq_true k
  ·have hi':i < its.length:=by simpa using hi
   obtain⟨t',hi2,e'⟩:=hval i hi'
   show sb_ k its[i]=false
   rw[e']
   exact beq_false_of_ne (h2 i hi2 hlt)
  ·refine⟨.non,_,I.lset (its':=its.eraseIdx j) hH e ?_ ?_ ?_,rfl,q⟩
   ·apply Array.toList_inj.mp
    rw[Array.eraseIdxIfInBounds,dif_pos (by simpa using hj')]
    simp
   ·have e1:∀(l:List Int) (i:Nat),(l.eraseIdx i).map V.int=(l.map V.int).eraseIdx i:=fun l=>by
     induction l with
     | nil=>intro i;simp
     | cons a l ih =>
      intro i
      cases i with
      | zero=>rfl
      | succ i=>simp only[wo_,pp_,ih]
    rw[h3,e1]
    exact Vals.eraseIdx j r
   ·have:=wh_ hk
    rw[pb_];omega
end
end L2
namespace L2
open PySem PySem.Spec PyProof.Rows
section
variable {X:Cx}
def jld_:V->List V->Hp->VK->Prop:=fun x vs H Q=>∃(l:Addr) (ns:List Int) (k:Int) (j:Nat),x=.ref l/\vs=[.int k]/\H l=some (.lst (ns.map V.int))/\ns[j]?=some k/\(∀ i,i < j->ns[i]?≠some k)/\Q (.int (j:Int)) H
theorem jrm_ {H:Hp}{Q:VK}{l:Addr}{ns:List Int}{k:Int}{j:Nat}(h1:H l=some (.lst (ns.map V.int)))(h2:ns[j]?=some k)(h3:∀ i,i < j->ns[i]?≠some k)(h:Q (.int (j:Int)) H):jld_ (.ref l) [.int k] H Q:=⟨l,ns,k,j,rfl,rfl,h1,h2,h3,h⟩
theorem jww_:MtR X "list.index" jld_:=fun pins s σ H x vs v us Q I rx rs h=>by
 obtain⟨l,ns,k,j,rfl,rfl,hH,h1,h2,q⟩:=h
 cases rx
 cases rs with
 | cons r1 rs =>
  cases rs
  obtain⟨t,rfl⟩:=r1
  obtain⟨z,its,n,r,hl,e⟩:=I.lstM hH
  rw[pb_] at z hl
  have hj:j < ns.length:=(pq_.mp h1).1
  have hval:∀(i:Nat) (hi:i < its.length),∃ t,∃ hi':i < ns.length,its[i]=.int ns[i] t:=fun i hi=>by
   obtain⟨w',hw,t,rfl⟩:=r.get (i:=i) (x:=V.int (ns[i]'(by omega))) (by rw[pl_,pa_ (show i < ns.length by omega)];rfl)
   rw[pa_ hi] at hw
   injection hw with hw
   exact⟨t,by omega,hw⟩
  have hj':j < its.length:=by omega
  have hjk:ns[j]=k:=by rw[pa_ hj] at h1;injection h1
  have hzl:sizeLine<=2 ^ 62:=by decide
  refine call_meets F.slot_list_index ⟨_,e,rfl⟩ F.entry_list_index (F.args_list_index_2 _ _) (SeqAt.list_indexAt l its.toArray n none #[] (.int k t) (sb_ k) j (by simpa using hj') (by omega) ?_ (fun i hi hlt=>?_)) ⟨e,fun y hy=>?_,?_⟩
  ·obtain⟨t',_,e'⟩:=hval j hj'
   show sb_ k its[j]=true
   rw[e',hjk]
   exact beq_self_eq_true k
  ·have hi':i < its.length:=by simpa using hi
   obtain⟨t',hi2,e'⟩:=hval i hi'
   show sb_ k its[i]=false
   rw[e']
   exact beq_false_of_ne (fun z=>h2 i hlt (by rw[pa_ hi2,z]))
  ·have hy':y∈its:=by simpa using hy
   obtain⟨i,hi,rfl⟩:=ty_ hy'
   obtain⟨t',hi2,e'⟩:=hval i hi
   rw[e']
   have hq:sb_ k (.int ns[i] t')=eqV (V.int ns[i]) (V.int k):=by
    unfold sb_ eqV
    rw[qt_]
   rw[hq]
   exact jok_ (y:=V.int ns[i]) (x:=V.int k) ⟨_,rfl⟩ ⟨_,rfl⟩ rfl rfl
  ·exact⟨.int (j:Int),H,I.kept (h':=s.heap) (t':=s.toks+1) fun b u q=>q,⟨_,rfl⟩,q⟩
end
end L2
namespace L2
open PySem PySem.Spec PyProof.Rows
section
variable {X:Cx}
def jhr_ (ta:TA):TE:=fun σ H Q=>ta σ H fun vs H1=>∃ n:Nat,vs=[.int (n:Int)]/\n<=1000000/\∀ q,H1 q=none->Q (.ref q) (upd H1 q (.lst (((pu_ n).map fun k:Nat=>(k:Int)).map V.int)))
theorem jda_ {ta:TA}{σ:St}{H:Hp}{Q:VK}(h:ta σ H fun vs H1=>∃ n:Nat,vs=[.int (n:Int)]/\n<=1000000/\∀ q,H1 q=none->Q (.ref q) (upd H1 q (.lst (((pu_ n).map fun k:Nat=>(k:Int)).map V.int)))):jhr_ ta σ H Q:=h
theorem jbk_ {a:Expr}{ta:TA}{p p2 pos pos2:Pos}(hc:X.calm=true)(hgl:Gl X "list")(hml:X.mg "list"=none)(hgr:Gl X "range")(hmr:X.mg "range"=none)(ha:PA X [a] ta)
  (hs:starEach [Expr.Call (.Name "range" p2) [a] [] pos2] X.env=[(false,eval (.Call (.Name "range" p2) [a] [] pos2) X.env)]:=by rfl) (hs2:starEach [a] X.env=[(false,eval a X.env)]:=by rfl) :
  PE X (.Call (.Name "list" p) [.Call (.Name "range" p2) [a] [] pos2] [] pos) (jhr_ ta):=by
 intro pins s σ H Q I h
 refine Call_ (x1_ I hgl hml (by decide +kernel:bootBuiltins "list"=some (.type "list")) (qy_ ?_ hs rfl))
 rw[hs]
 show wpAny _ _ (spliced ((false,eval (.Call (.Name "range" p2) [a] [] pos2) X.env)::[])) _ _ s
 refine rj_ ?_
 refine Call_ (x1_ I hgr hmr boot_range (qy_ (thn (ha pos2 pins s σ H _ I h) fun us s1 ⟨vs,H1,I1,r1,q1⟩=>?_) hs2 rfl))
 obtain⟨j,e,b1,q⟩:=q1
 subst e
 cases r1 with
 | cons r rr =>
   cases rr
   obtain⟨t,rfl⟩:=r
   refine call_range_1 (sm_ ?_)
   have hn:wk_ 0 (j:Int) 1=(j:Int):=by rw[rangeSize_one];split <;> omega
   have p62:((2:Int) ^ 62)=4611686018427387904:=by decide
   have p24:(2:Nat) ^ 24=16777216:=by decide
   refine call_list_range (n:=j) (I1.ok.hd hc) (IsRange.new ..) (small_one (by rw[p62];omega) (by rw[p62];omega) (by rw[p62];omega) (by rw[p62];omega)) hn (by rw[p24];omega) fun h' tk acc c' hk hS' hacc=>?_
   generalize hD:Heap.objs _=D0 at hS'
   have hkk:∀ b o,s1.heap.get? b=some o->h'.get? b=some o:=fun b o e=>hk b o (pd_ _ e)
   have hsz:s1.heap.objs.size<=D0.size:=by rw[<- hD,qx_];exact wm_ _
   have hv:Vals (((pu_ j).map fun k:Nat=>(k:Int)).map V.int) acc.toList:=by
    rw[q1_]
    exact jti_ (fun k v ⟨t,e⟩=>⟨t,by rw[e];show Value.int _ t=Value.int (k:Int) t;congr 1;omega⟩) hacc
   refine⟨.ref D0.size,_,I1.laid (t':=tk) hkk hsz (show ObjOk X.prog X.w _ _ _ (.lst _) from ⟨by rw[pb_,pb_,sn_];exact qe_ (show j<=16000000 by omega) (by decide),acc.toList,c',hv,by rw[km_];exact hS'⟩),rfl,q _ (I1.hok.fresh hsz)⟩
end
end L2
set_option maxHeartbeats 4000000
namespace K35
theorem _root_.L2.Room.mo_ {k l:Nat}{A:PySem.Around}(h:L2.Room k A)(e:l<=k:=by first | decide | omega):L2.Room l A:=h.mono e
open PySem L2
local macro_rules | `(tactic| walk_at "f") => `(tactic| exact ⟨rfl,rfl,rfl,by decide +kernel,rfl,by decide +kernel,by decide +kernel⟩)
local macro_rules | `(tactic| walk_at "sc")=>`(tactic| first | assumption | omega | exact rfl | decide | exact szn (by omega) | (simp only[ps_,qm_,pb_,js_] <;> omega) | trivial)
local macro_rules | `(tactic| walk_at "sq")=>`(tactic| first | assumption | exact jow_ | exact jnb_ | (exact jr_ (by assumption)) | (exact yi_ (by assumption)))
local macro_rules | `(tactic| walk_at "sl")=>`(tactic| first | assumption | exact SqL.of jb_ | exact SqL.of (by assumption))
local macro_rules | `(tactic| walk_at "st")=>`(tactic| first | assumption | exact SqT.of jb_ | exact SqT.of (by assumption))
local macro_rules | `(tactic| walk_at "lq")=>`(tactic| first | assumption | exact jpe_ | (exact ym_ (by assumption)))
local macro_rules | `(tactic| walk_at "at")=>`(tactic| first | exact juv_ _ _ | exact jzd_ _ _ _ | exact jyo_ _ _ _ _ | exact jzi_ _ _ _ _ _ | assumption)
local macro_rules | `(tactic| walk_at "mu")=>`(tactic| first | (exact CMul.l (by omega) (by omega)) | (exact CMul.r (by omega) (by omega)) | (exact CMul.l (by decide) (by decide)) | (exact CMul.r (by decide) (by decide)))
local macro_rules | `(tactic| walk_at "sd")=>`(tactic| first | omega | (simp only[pg_,ps_,qm_,pb_,ud_] <;> omega))
local macro_rules | `(tactic| walk_at "g1")=>`(tactic| first
 | (with_reducible first | refine jpi_ ?_ | refine jyz_ ?_ | refine jyt_ ?_ | refine i_op ?_) | ((with_reducible refine' jze_ ?k1 ?_);(case k1=>exact rfl)) | (with_reducible first | refine i_c ?_ | refine jyq_ ?_ | refine jvn_ ?_ | refine jxm_ ?_ | refine y1_ ?_ | refine jwl_ ?_ | refine jvi_ ?_ | refine i_bl ?_ | refine jzc_ ?_ | refine jwd_ ?_) | ((with_reducible refine' i_fI ?k1 ?_);(case k1=>walk_at "sc")) | ((with_reducible refine' jbp_ ?k1 ?_);(case k1=>walk_at "mu")) | ((with_reducible refine' xa_ ?k1 ?k2 ?_);(case k1=>walk_at "sq");(case k2=>walk_at "at")) | (with_reducible first | refine jxu_ ?_ | refine jza_ ?_ | refine i_cb ?_ | refine jxx_ ?_ | refine jyy_ ?_ | refine i_or ?_ | refine jyr_ ?_ | refine i_andV ?_ | refine i_orV ?_ | refine i_notV ?_ | refine jyj_ ?_ | refine jtw_ ?_ | refine i_un ?_ | refine jzf_ ?_ | refine i_sl ?_ | refine jrf_ ?_ | refine jxs_ ?_ | refine jye_ ?_) | ((with_reducible refine' i_eq ?k1 ?_);(case k1=>exact rfl)) | ((with_reducible refine' i_ne ?k1 ?_);(case k1=>exact rfl)) | (with_reducible first | refine i_is ?_ | refine jte_ ?_ | refine jzl_ ?_) | ((with_reducible refine' jxi_ ?k1 ?_);(case k1=>walk_at "sd")) | ((with_reducible refine' joh_ ?k1 ?_);(case k1=>walk_at "sc")) | ((with_reducible refine' jvh_ ?k1 ?_);(case k1=>walk_at "sq")) | (with_reducible first | refine i_1I ?_ | refine i_2I ?_ | refine jxk_ ?_ | refine i_intI ?_) | ((with_reducible refine' jvu_ ?k1 ?_);(case k1=>walk_at "sd")) | ((with_reducible refine' jzb_ ?k1 ?_);(case k1=>walk_at "sd")) | ((with_reducible refine' jre_ ?k1 ?_);(case k1=>walk_at "sc")) | ((with_reducible refine' juq_ ?k1 ?_);(case k1=>walk_at "sc")) | (with_reducible first | refine jvx_ ?_ | refine i_truI ?_ | refine i_SS ?_ | refine i_SSI ?_) | ((with_reducible refine' jen_ ?k1 ?k2 ?_);(case k1=>first | assumption | exact jb_);(case k2=>walk_at "sc")) | (with_reducible first | refine jwz_ ?_ | refine jwr_ ?_) | ((with_reducible refine' i_r1 ?k1 ?_);(case k1=>omega)) | (with_reducible first | refine jxw_ ?_ | refine jwy_ ?_ | refine i_data ?_ | refine i_bm ?_ | refine jyn_ ?_ | refine jyd_ ?_) | ((with_reducible refine' jyx_ ?k1 ?_);(case k1=>walk_at "sl")) | (with_reducible first | refine jyi_ ?_ | refine jys_ ?_ | refine jwo_ ?_) | ((with_reducible refine' jiu_ ?k1 ?_);(case k1=>walk_at "sl")) | ((with_reducible refine' jwh_ ?k1 ?_);(case k1=>walk_at "st")) | (with_reducible first | refine i_enumS ?_ | refine i_enum ?_ | refine i_enS ?_) | ((with_reducible refine' jwv_ ?k1 ?_);(case k1=>assumption)) | ((with_reducible refine' jux_ ?k1 ?k2 ?_);(case k1=>assumption);(case k2=>walk_at "at")) | (with_reducible first | refine jyh_ ?_ | refine jzj_ ?_ | refine i_retN ?_) | ((with_reducible refine' jlu_ ?k1 ?_);(case k1=>first | exact rfl | decide)) | ((with_reducible refine' jrw_ ?k1 ?_);(case k1=>first | exact rfl | decide)) | ((with_reducible refine' jce_ ?k1 ?_);(case k1=>intro z;cases z)) | ((with_reducible refine' jlp_ ?k1 ?_);(case k1=>exact rfl)) | ((with_reducible refine' i_sz ?k1 ?_);(case k1=>exact szc rfl)) | ((with_reducible refine' jya_ ?k1 ?k2 ?_);(case k1=>first | exact rfl | (exact jsn_ (by assumption)) | (exact jsp_ (by assumption)));(case k2=>exact rfl)) | ((with_reducible refine' i_r2 ?k1 ?_);(case k1=>omega)) | ((with_reducible show Ends.nx _ _ _);dsimp only) | ((with_reducible show Ends.rt _ _ _);dsimp only) | ((with_reducible refine' y4_ ?k1 ?k2 ?_);(case k1=>first | assumption | exact jb_);(case k2=>first | exact rfl | (exact jvk_ (by omega) (by omega)))))
local macro_rules | `(tactic| walk_at "go")=>`(tactic| repeat (walk_at "g1"))
seal L2.PSs L2.PS L2.PE L2.PT L2.PA L2.PI L2.PG L2.PTs L2.PGs L2.PO L2.PW
noncomputable def top (i:Nat):Stmt:=PySem.Challenge.pw_breakwords_k35_whole_pared.main.body.getD i (.Pass ⟨0,0,0,0⟩)
structure Txt (mg:Str->Option Value)(tk:Nat->Tok):Prop where
 z_len:mg "len"=none
 z_abs:mg "abs"=none
 z_all:mg "all"=none
 z_any:mg "any"=none
 z_range:mg "range"=none
 z_enumerate:mg "enumerate"=none
 z_isinstance:mg "isinstance"=none
 z_tuple:mg "tuple"=none
 z_list:mg "list"=none
 z_bool:mg "bool"=none
 z_str:mg "str"=none
 z_int:mg "int"=none
 z_min:mg "min"=none
 z_max:mg "max"=none
 z_zip:mg "zip"=none
 z_sorted:mg "sorted"=none
 m_LETTERS:mg "LETTERS"=some (.str "abcdefghijklmnopqrstuvwxyz" (tk 0))
noncomputable abbrev s_beginnings:Stmt:=top 1
theorem sc_beginnings:FnScope ["patterns","met","pattern","signs","end"] ["patterns"] (jm_ s_beginnings):=by walk_at "f"
theorem jqg_ {trs:List (TE×TE)}{σ:St}{H:Hp}{Q:VK}(h:∀ p,H p=none->uv_ trs σ (upd H p (.dK [])) fun ps H2=>H2 p=some (.dK [])/\∃ kvs:List (Key×V),ps=kvs.map (fun kv=>(kV kv.1,kv.2))/\kvs.length<=15/\Q (.ref p) (upd H2 p (.dK (vc_ [] kvs)))):jve_ trs σ H Q:=h
theorem jij_ {td ty tv:TE}{D:Ends}{σ:St}{H:Hp}(h:tv σ H fun v H1=>td σ H1 fun x H2=>ty σ H2 fun y H3=>∃ a H4,x=.ref a/\DPut H3 a y v H4/\D.nx σ H4):jvf_ td ty tv D σ H:=h
def uz_:Sp:=fun vs H Q _=>∃(v:V) (xs:List Pat),vs=[v]/\Is H v (x3_ xs)/\(∀ x∈xs,x.1.length<=100)/\xs.length<=1000/\∀(a:Addr) (H':Hp),H a=none->H' a=some (.dK (bT (begs xs)))->Same H H'->Q (.ref a) H'
section
variable {P:Program}{w:World}{K:pc_}{mg:Str->Option Value}{base:Heap}{f:Addr}{fd:FuncData}{tk:Nat->Tok}
theorem jcj_ (T:Txt mg tk)(F:Fun K "beginnings" "beginnings" s_beginnings f fd):FnOk P w K mg base CX0 1 f fd ["patterns"] uz_:=by
 refine F.ok sc_beginnings (fun vs H Q E h=>?_) (fun cdv A outer s H vs Q E hr h=>?_)
 ·obtain⟨v,xs,rfl,_⟩:=h
  rfl
 obtain⟨v,xs,rfl,hv,hxs,hxl,q⟩:=h
 have nd:=sc_beginnings.nd
 obtain⟨b,ys,rfl,hb,hys⟩:=jfk_ hv
 have hyl:ys.length=xs.length:=by have:=hys.length;simpa using this
 refine⟨_,(jf_ (jl_ (i:=1) nd rfl (Or.inl rfl) (jlc_ (jgh_ zh_ xm_ jlj_) rfl rfl (by simp) (by decide)))
  (jf_ (zo_ p5_ rfl (j9_ (K:=K) (pv 0)) (jn_ (i:=2) nd rfl (Or.inl rfl))
   (jf_ (jl_ (i:=3) nd rfl (Or.inl rfl) (jj_ (jh_ (K:=K)) (pv 2) jd_ (fun _ _=>rfl)))
  (jg_ (zo_ p5_ rfl (vm_ rfl T.z_range (ja_ jd_ (ja_ (jk_ jx_ (jo_ (zq_ (K:=K)) rfl T.z_len (by decide +kernel) (ja_ (pv 3) je_)) jd_) je_))) (jn_ (i:=4) nd rfl (Or.inl rfl))
   (jg_ (jee_ (jag_ hr) (pv 1) (zj_ (z7_ (K:=K)) (pv 3) z6_ (zk_ (pv 4))) xm_ rfl))))))
  (jg_ (jt_ (pv 1))))),?_⟩
 rw[show L2.j7_ ["patterns","met","pattern","signs","end"] [.ref b]=[some (.ref b),none,none,none,none] from rfl]
 rw[xc_]
 walk_at "go"
 refine jqg_ fun a ha=>?_
 simp only[uv_]
 walk_at "go"
 refine⟨jb_,[(Sum.inr (S []),.bl true)],rfl,by decide,?_⟩
 rw[jla_]
 have hm:vc_ [] [((Sum.inr (S []):Key),V.bl true)]=bT [[]]:=rfl
 rw[hm]
 have s1:=jc_ ha (.dK (bT [[]]))
 have e1:(upd H a (.dK (bT [[]]))) a=some (.dK (bT [[]])):=jb_
 have hb1:=s1 _ _ hb
 have hys1:=IsL.same s1 hys
 have put:∀{H2:Hp}{ns:List (List Nat)}{z:List Nat}{kvs},H2 a=some (.dK kvs)->Same H H2->Same H (upd H2 a (.dK (bT ns))):=fun{H2 ns z kvs} e s c o ec=>by
  have hc:c≠a:=fun q=>by rw[q,ha] at ec;cases ec
  rw[ji_ hc];exact s c o ec
 walk_at "go"
 refine zy_ (K:=K) (xs:=ys) (fun i σ H'=>∃(v2 v3 v4:Option V),σ=[some (.ref b),some (.ref a),v2,v3,v4]/\H' a=some (.dK (bT (begA [[]] (xs.take i))))/\Same H H')
  ⟨none,none,none,rfl,e1,s1⟩ (fun i σ H' _ ⟨_,_,_,_,_,s⟩=>SqL.of (s _ _ hb)) ?_ ?_
 ·rintro i y σ H2 hy ⟨v2,v3,v4,rfl,e2,s2⟩
  have hi:i < xs.length:=by
   have:=(pq_.mp hy).1
   omega
  obtain⟨y',d,hy',hd1,hI⟩:=IsL.get (IsL.same s2 hys) (show i < (xs.map patD).length by simpa using hi)
  rw[hy] at hy'
  cases hy'
  rw[pl_,pa_ hi] at hd1
  cases hd1
  obtain⟨a2,t2,rfl,ea2,et2⟩:=vt_ hI
  have hxi:=hxs xs[i] (px_ hi)
  have hbl:=ur_ (c:=100) (xs.take i) [[]] fun x hx=>hxs x (ql_ hx)
  have htl:(xs.take i).length<=1000:=by rw[p2_];omega
  have hm2:(xs.take i).length * 100<=1000 * 100:=Nat.mul_le_mul_right _ htl
  walk_at "go"
  refine zu_ (fun j σ H'=>∃(v4:Option V),σ=[some (.ref b),some (.ref a),some (.ref a2),some (.str (S xs[i].1)),v4]/\H' a=some (.dK (bT (begS (begA [[]] (xs.take i)) xs[i].1 j)))/\Same H H') ⟨_,rfl,e2,s2⟩ ?_ ?_
  ·rintro j σ H3 hj ⟨v4',rfl,e3,s3⟩
   have hj:j < xs[i].1.length:=by omega
   refine jij_ ?_
   walk_at "go"
   have hcut:cutA xs[i].1 none (some (1+(j:Int)))=xs[i].1.take (j+1):=by
    have:=jcx_ xs[i].1 0 (j+1) (by omega) (by omega)
    rw[show (1+(j:Int))=((j+1:Nat):Int) by omega]
    have e0:cutA xs[i].1 none (some ((j+1:Nat):Int))=cutA xs[i].1 (some ((0:Nat):Int)) (some ((j+1:Nat):Int)):=by
     unfold cutA
     simp[sx]
    rw[e0,this,ko_,Nat.sub_zero]
   rw[hcut]
   have hbs:=ug_ (begA [[]] (xs.take i)) xs[i].1 j
   refine⟨a,_,rfl,DPut.k (k:=Sum.inr (S (xs[i].1.take (j+1)))) e3 ?_,?_⟩
   ·have hle:(bT (begS (begA [[]] (xs.take i)) xs[i].1 j)).length<=200000:=by
     unfold bT
     rw[pb_]
     simp only[ps_,qm_] at hbl
     omega
    exact ry_ hle (by decide)
   ·walk_at "go"
    rw[jnt_,<- vj_]
    exact⟨_,rfl,jb_,put (z:=[]) e3 s3⟩
  ·rintro σ H3 ⟨v4',rfl,e3,s3⟩
   have hz:(((xs[i].1.length:Nat):Int)+1 - 1).toNat=xs[i].1.length:=by omega
   refine⟨_,_,_,rfl,?_,s3⟩
   rw[e3,p3_,pa_ hi]
   show some (HO.dK (bT _))=some (HO.dK (bT (begA [[]] (xs.take i++[xs[i]]))))
   rw[jdk_]
   congr 4
 ·rintro σ H2 ⟨v2,v3,v4,rfl,e2,s2⟩
  rw[hyl,py_] at e2
  walk_at "go"
  exact q a H2 ha e2 s2
end
noncomputable abbrev s_told_at_end:Stmt:=top 4
theorem sc_told_at_end:FnScope ["numbers_by_signs","text","back","told","length","numbers"] ["numbers_by_signs","text","back"] (jm_ s_told_at_end):=by walk_at "f"
theorem jsh_ {td ty:TE}{σ:St}{H:Hp}{Q:VK}(h:td σ H fun x H1=>∃ a,x=.ref a/\IsD H1 a/\ty σ H1 fun y H2=>∃ o,DGet H2 a y o/\Q (o.getD .non) H2):jrh_ td ty σ H Q:=h
def jnv_:Sp:=fun vs H Q _=>∃(d:Addr) (kvs:List (Key×V)) (gs:List Pat) (x:List Nat) (back:Nat),vs=[.ref d,.str (S x),.int (back:Int)]/\H d=some (.dK kvs)/\NT H kvs gs/\(∀ g∈gs,g.2.length=g.1.length+1)/\x.length<=1000/\back<=1000/\Q (.int (tAE gs x back (x.length+1 - back))) H
section
variable {P:Program}{w:World}{K:pc_}{mg:Str->Option Value}{base:Heap}{f:Addr}{fd:FuncData}{tk:Nat->Tok}
theorem jby_ (T:Txt mg tk)(F:Fun K "told_at_end" "told_at_end" s_told_at_end f fd):FnOk P w K mg base CX0 1 f fd ["numbers_by_signs","text","back"] jnv_:=by
 refine F.ok sc_told_at_end (fun vs H Q E h=>?_) (fun cdv A outer s H vs Q E hr h=>?_)
 ·obtain⟨d,kvs,gs,x,back,rfl,_⟩:=h
  rfl
 obtain⟨d,kvs,gs,x,back,rfl,hd,hN,hg,hx,hbk,q⟩:=h
 have nd:=sc_told_at_end.nd
 refine⟨_,(jf_ (jl_ (i:=3) nd rfl (Or.inl rfl) jd_)
  (jf_ (zo_ p5_ rfl (vm_ rfl T.z_range (ja_ (pv 2) (ja_ (jk_ jx_ (jo_ (zq_ (K:=K)) rfl T.z_len (by decide +kernel) (ja_ (pv 1) je_)) jd_) je_))) (jn_ (i:=4) nd rfl (Or.inl rfl))
   (jf_ (jl_ (i:=5) nd rfl (Or.inl rfl) (jpt_ (jag_ hr) (pv 0) (zj_ (z7_ (K:=K)) (pv 1) (zk_ (jk_ uf_ (jo_ (zq_ (K:=K)) rfl T.z_len (by decide +kernel) (ja_ (pv 1) je_)) (pv 4))) z6_) ⟨rfl,rfl,rfl,rfl⟩))
  (jg_ (zr_ (ju_ jsu_ (pv 5) yz_ (j6_ _))
   (jg_ (jl_ (i:=3) nd rfl (Or.inl rfl) (jo_ (jbf_ rfl) rfl T.z_max (by decide +kernel) (ja_ (pv 3) (ja_ (jj_ (jh_ (K:=K)) (pv 5) (jk_ uf_ (pv 4) (pv 2)) (fun _ _=>rfl)) je_)))))
   j5_))))
  (jg_ (jt_ (pv 3))))),?_⟩
 rw[show L2.j7_ ["numbers_by_signs","text","back","told","length","numbers"] [.ref d,.str (S x),.int (back:Int)]=[some (.ref d),some (.str (S x)),some (.int (back:Int)),none,none,none] from rfl]
 walk_at "go"
 refine zu_ (fun j σ H'=>∃(v4 v5:Option V),H'=H/\σ=[some (.ref d),some (.str (S x)),some (.int (back:Int)),some (.int (tAE gs x back j)),v4,v5]) ⟨none,none,rfl,rfl⟩ ?_ ?_
 ·rintro j σ H' hj ⟨v4,v5,rfl,rfl⟩
  have hj:back+j<=x.length:=by omega
  walk_at "go"
  refine jsh_ ?_
  walk_at "go"
  refine⟨d,rfl,.inl ⟨kvs,.inl hd⟩,?_⟩
  walk_at "go"
  have hcut:cutA x (some ((x.length:Int) - ((back:Int)+(j:Int)))) none=x.drop (x.length - (back+j)):=by
   rw[show ((x.length:Int) - ((back:Int)+(j:Int)))=((x.length - (back+j):Nat):Int) by omega]
   exact va_ x _ (by omega)
  rw[hcut]
  refine⟨_,DGet.k (k:=Sum.inr (S (x.drop (x.length - (back+j))))) hd,?_⟩
  have hsuc:=jga_ gs x back j
  rcases hN.val (z:=x.drop (x.length - (back+j))) with ⟨h1,h2⟩ | ⟨g,t,h1,hgm,hgz,h2,h3⟩
  ·rw[h2]
   rw[h1] at hsuc
   walk_at "go"
   exact⟨_,_,rfl,by rw[hsuc];rfl⟩
  ·rw[h2]
   rw[h1] at hsuc
   have hgl:=hg g hgm
   rw[hgz] at hgl
   have hdl:(x.drop (x.length - (back+j))).length=back+j:=by rw[qh_];omega
   rw[hdl] at hgl
   have hjl:j < g.2.length:=by omega
   walk_at "go"
   refine xa_ (v:=.int g.2[j]) (yi_ h3) (zg_ (by omega) (by rw[show ((back:Int)+(j:Int) - (back:Int)).toNat=j by omega,pl_,pa_ hjl];rfl)) ?_
   walk_at "go"
   refine⟨some (.int ((back:Int)+(j:Int))),some (.ref t),rfl,?_⟩
   rw[hsuc]
   have eg:g.2.getD j 0=g.2[j]:=by rw[pf_,pa_ hjl];rfl
   simp only[eg]
   rfl
 ·rintro σ H' ⟨v4,v5,rfl,rfl⟩
  walk_at "go"
  have hz:((x.length:Int)+1 - (back:Int)).toNat=x.length+1 - back:=by omega
  rw[hz]
  exact q
end
noncomputable abbrev s_greatest_numbers:Stmt:=top 2
theorem sc_greatest_numbers:FnScope ["patterns","greatest","pattern","signs","earlier"] ["patterns"] (jm_ s_greatest_numbers):=by walk_at "f"
theorem jsf_ {td ty tx:TE}{σ:St}{H:Hp}{Q:VK}(h:td σ H fun x H1=>∃ a,x=.ref a/\IsD H1 a/\ty σ H1 fun y H2=>tx σ H2 fun z H3=>∃ o,DGet H3 a y o/\Q (o.getD z) H3):jog_ td ty tx σ H Q:=h
theorem jtc_ {σ:St}{H:Hp}{Q:VK}(h:∀ p,H p=none->Q (.ref p) (upd H p (.dK []))):joa_ σ H Q:=h
theorem jvt_ {σ:St}{H:Hp}{R:It->Hp->Prop}{ta tb:TE}(h:ta σ H fun x H1=>tb σ H1 fun y H2=>jhh_ R x y H2):jus_ ta tb σ H R:=h
def jqp_:Sp:=fun vs H Q _=>∃(v:V) (xs:List Pat),vs=[v]/\Is H v (x3_ xs)/\(∀ x∈xs,x.1.length<=100/\x.2.length=x.1.length+1)/\xs.length<=1000/\∀(a:Addr) (kvs:List (Key×V)) (H':Hp),H a=none->H' a=some (.dK kvs)->NT H' kvs (grt xs)->Same H H'->Q (.ref a) H'
theorem jyu_ {R:It->Hp->Prop}{H:Hp}{b a:Addr}{xs ys:List V}(h1:H b=some (.tup xs))(h2:H a=some (.tup ys))(h:R (Izp xs ys fun H=>H b=some (.tup xs)/\H a=some (.tup ys)) H):jhh_ R (.ref b) (.ref a) H:=⟨xs,ys,h1,h2,h⟩
theorem jth_ {a b m:Int}(h1:m∈[a,b])(h2:∀ n∈[a,b],n<=m):m=mx a b:=by
 have q1:=h2 a (by simp)
 have q2:=h2 b (by simp)
 simp at h1
 unfold mx
 split <;> rcases h1 with h | h <;> omega
section
variable {P:Program}{w:World}{K:pc_}{mg:Str->Option Value}{base:Heap}{f:Addr}{fd:FuncData}{tk:Nat->Tok}
theorem vp_ (T:Txt mg tk)(F:Fun K "greatest_numbers" "greatest_numbers" s_greatest_numbers f fd):FnOk P w K mg base CX0 1 f fd ["patterns"] jqp_:=by
 refine F.ok sc_greatest_numbers (fun vs H Q E h=>?_) (fun cdv A outer s H vs Q E hr h=>?_)
 ·obtain⟨v,xs,rfl,_⟩:=h
  rfl
 obtain⟨v,xs,rfl,hv,hxs,hxl,q⟩:=h
 have nd:=sc_greatest_numbers.nd
 obtain⟨b,ys,rfl,hb,hys⟩:=jfk_ hv
 have hyl:ys.length=xs.length:=by have:=hys.length;simpa using this
 refine⟨_,(jf_ (jl_ (i:=1) nd rfl (Or.inl rfl) joj_)
  (jf_ (zo_ p5_ rfl (j9_ (K:=K) (pv 0)) (jn_ (i:=2) nd rfl (Or.inl rfl))
   (jf_ (jl_ (i:=3) nd rfl (Or.inl rfl) (jj_ (jh_ (K:=K)) (pv 2) jd_ (fun _ _=>rfl)))
  (jf_ (jl_ (i:=4) nd rfl (Or.inl rfl) (jpr_ (jag_ hr) (pv 1) (pv 3) (jj_ (jh_ (K:=K)) (pv 2) jd_ (fun _ _=>rfl)) ⟨rfl,rfl,rfl,rfl⟩))
  (jg_ (jee_ (jag_ hr) (pv 1) (pv 3) (zz_ jan_ rfl T.z_tuple (by decide +kernel) (ja_ (zs_ ["both"] [none] rfl (by kernel_rfl) rfl (juc_ rfl T.z_zip (pv 4) (jj_ (jh_ (K:=K)) (pv 2) jd_ (fun _ _=>rfl))) (fun _ _ _ _=>(jn_ (i:=0) (show (["both"]:List Str).Nodup by decide +kernel) rfl (Or.inl rfl) (Or.inr rfl))) (fun _ _ _ _=>zn_) (fun _ _ _ _=>(jo_ (jxq_ rfl) rfl T.z_max (by decide +kernel) (ja_ (pv 0) je_)))) je_)) rfl)))))
  (jg_ (jt_ (pv 1))))),?_⟩
 rw[show L2.j7_ ["patterns","greatest","pattern","signs","earlier"] [.ref b]=[some (.ref b),none,none,none,none] from rfl]
 walk_at "go"
 refine jtc_ fun a ha=>?_
 have s1:=jc_ ha (.dK [])
 walk_at "go"
 refine jiu_ (SqL.of (s1 _ _ hb)) ?_
 refine zy_ (K:=K) (xs:=ys) (fun i σ H'=>∃(v2 v3 v4:Option V) (kvs:List (Key×V)),σ=[some (.ref b),some (.ref a),v2,v3,v4]/\H' a=some (.dK kvs)/\NT H' kvs (grt (xs.take i))/\kvs.length<=i/\Same H H')
  ⟨none,none,none,[],rfl,jb_,trivial,po_ _,s1⟩ (fun i σ H' _ ⟨_,_,_,_,_,_,_,_,s⟩=>SqL.of (s _ _ hb)) ?_ ?_
 ·rintro i y σ H2 hy ⟨v2,v3,v4,kvs,rfl,e2,hN,hkl,s2⟩
  have hi:i < xs.length:=by
   have:=(pq_.mp hy).1
   omega
  obtain⟨y',d,hy',hd1,hI⟩:=IsL.get (IsL.same s2 hys) (show i < (xs.map patD).length by simpa using hi)
  rw[hy] at hy'
  cases hy'
  rw[pl_,pa_ hi] at hd1
  cases hd1
  obtain⟨a2,t2,rfl,ea2,et2⟩:=vt_ hI
  obtain⟨hx1,hx2⟩:=hxs xs[i] (px_ hi)
  walk_at "go"
  refine jsf_ ?_
  walk_at "go"
  refine⟨a,rfl,.inl ⟨kvs,.inl e2⟩,?_⟩
  walk_at "go"
  have hgl:=jhv_ (xs:=xs.take i) (gs:=[]) (fun g hg=>nomatch hg) fun x hx=>(hxs x (ql_ hx)).2
  obtain⟨te,es,hte,hes,heq,hel⟩:∃ te es,(valV kvs (Sum.inr (S xs[i].1))).getD (.ref t2)=.ref te/\H2 te=some (.tup (es.map V.int))/\es=((z1_ (grt (xs.take i)) xs[i].1).map (·.2)).getD xs[i].2/\es.length=xs[i].2.length:=by
   rcases hN.val (z:=xs[i].1) with ⟨q1,q2⟩ | ⟨g,t,q1,hgm,hgz,q2,q3⟩
   ·exact⟨t2,xs[i].2,by rw[q2];rfl,et2,by rw[q1];rfl,rfl⟩
   ·refine⟨t,g.2,by rw[q2];rfl,q3,by rw[q1];rfl,?_⟩
    rw[hgl g hgm,hgz,hx2]
  refine⟨_,DGet.k (k:=Sum.inr (S xs[i].1)) e2,?_⟩
  rw[hte]
  walk_at "go"
  refine jij_ ?_
  walk_at "go"
  refine jvt_ ?_
  walk_at "go"
  refine jyu_ hes et2 ?_
  intro r hr0
  have ra:a≠r:=j3_ e2 hr0
  refine jro_ xs[i].2.length (by rw[pb_,pb_];omega) (fun j acc σ H'=>∃ v1,σ=[v1]/\acc=((yo_ es xs[i].2).take j).map V.int/\Same H2 H'/\H' r=some (.lst acc))
   (fun j acc σ H' _ ⟨_,_,_,s3,_⟩=>⟨s3 _ _ hes,s3 _ _ et2⟩) ⟨none,rfl,rfl,jc_ hr0 _,jb_⟩ (fun j acc σ H' ⟨_,_,e,_,e3⟩=>⟨e3,by rw[e,pb_,p2_];omega⟩) (szn (by omega)) ?_ ?_
  ·rintro j u v acc σ H3 T2 hu hv' ⟨v1,rfl,rfl,s3,e3⟩ hT
   have hj:j < xs[i].2.length:=by
    have:=(pq_.mp hv').1
    simpa using this
   have hj2:j < es.length:=by omega
   rw[pl_,pa_ hj2] at hu
   cases hu
   rw[pl_,pa_ hj] at hv'
   cases hv'
   have s4:=jc_ hT (PrX T2 [.int es[j],.int xs[i].2[j]])
   have e4:=s4 _ _ e3
   walk_at "go"
   refine jtz_ (ns:=[es[j],xs[i].2[j]]) jb_ (by simp) fun m hm1 hm2=>?_
   rw[jth_ hm1 hm2]
   refine⟨e4,_,rfl,?_,fun c o e=>?_,jb_⟩
   ·rw[jjs_ hj2 hj,pk_];rfl
   ·have hc:c≠r:=fun z=>by rw[z,hr0] at e;cases e
    rw[ji_ hc];exact s4 _ _ (s3 c o e)
  ·rintro acc σ H3 ⟨v1,rfl,rfl,s3,e3⟩
   rw[<- hel,<- xj_ hel,py_] at e3
   walk_at "go"
   refine za_ (jr_ e3) fun t H4 ht k4=>?_
   walk_at "go"
   have s4:Same H2 H4:=fun c o e=>k4 c o (s3 c o e)
   have e4:=s4 _ _ e2
   have hN4:=(hN.same s4).put (s:=xs[i].1) ht
   refine⟨a,_,rfl,DPut.k (k:=Sum.inr (S xs[i].1)) e4 (ry_ (show kvs.length<=1000 by omega) (by decide)),?_⟩
   refine⟨_,_,_,_,rfl,jb_,?_,?_,fun c o e=>?_⟩
   ·rw[p3_,pa_ hi]
    show NT _ _ (grt (xs.take i++[xs[i]]))
    rw[jho_]
    have hg:grtS (grt (xs.take i)) xs[i]=putG (grt (xs.take i)) xs[i].1 (yo_ es xs[i].2):=by unfold grtS;rw[<- heq]
    rw[hg]
    exact hN4.tups fun b' zs e=>by
     have hb':b'≠a:=fun z=>by rw[z,e4] at e;cases e
     rw[ji_ hb'];exact e
   ·have:=xe_ kvs (Sum.inr (S xs[i].1):Key) (V.ref t)
    omega
   ·have hc:c≠a:=fun z=>by rw[z,ha] at e;cases e
    rw[ji_ hc];exact s4 _ _ (s2 c o e)
 ·rintro σ H2 ⟨v2,v3,v4,kvs,rfl,e2,hN,hkl,s2⟩
  rw[hyl,py_] at hN
  walk_at "go"
  exact q a kvs H2 ha e2 hN s2
end
structure Ow (K:pc_)(mg:Str->Option Value)(cO:Addr):Prop where
 m_Sight:mg "Sight"=some (.ref cO)
 cl:Cls K cO
 n_known:NoAttr K cO "known"
 n_one_numbers:NoAttr K cO "one_numbers"
 n_other_numbers:NoAttr K cO "other_numbers"
noncomputable abbrev s_Sight_init:Stmt:=vk_ (top 5) 0
theorem sc_Sight_init:FnScope ["self","one","other"] ["self","one","other"] (jm_ s_Sight_init):=by walk_at "f"
noncomputable abbrev s_Sight_tail_of:Stmt:=vk_ (top 5) 1
theorem sc_Sight_tail_of:FnScope ["self","text","begin"] ["self","text"] (jm_ s_Sight_tail_of):=by walk_at "f"
noncomputable abbrev s_Sight_pair_at_end:Stmt:=vk_ (top 5) 2
theorem sc_Sight_pair_at_end:FnScope ["self","text","back","ones","others","told_ones","told_others"] ["self","text","back","ones","others"] (jm_ s_Sight_pair_at_end):=by walk_at "f"
noncomputable abbrev s_Sight_first:Stmt:=vk_ (top 5) 3
theorem sc_Sight_first:FnScope ["self"] ["self"] (jm_ s_Sight_first):=by walk_at "f"
noncomputable abbrev s_Sight_by_letter:Stmt:=vk_ (top 5) 4
theorem sc_Sight_by_letter:FnScope ["self","view","letter","tail","behind","pair","views"] ["self","view","letter"] (jm_ s_Sight_by_letter):=by walk_at "f"
noncomputable abbrev s_Sight_by_end:Stmt:=vk_ (top 5) 5
theorem sc_Sight_by_end:FnScope ["self","view"] ["self","view"] (jm_ s_Sight_by_end):=by walk_at "f"
def SightAt (C:Addr)(H:Hp)(p:Addr)(one other:List Pat):Prop:=∃(dx kd od td:Addr) (ko kt:List (Key×V)),H p=some (.ins C dx [(("known":Str),.ref kd),(("one_numbers":Str),.ref od),(("other_numbers":Str),.ref td)]) /\
 H kd=some (.dK (bT (begs (one++other))))/\H od=some (.dK ko)/\NT H ko (grt one)/\H td=some (.dK kt)/\NT H kt (grt other)
theorem SightAt.same {C:Addr}{H H':Hp}{p:Addr}{one other:List Pat}(s:Same H H')(h:SightAt C H p one other):SightAt C H' p one other:=by
 obtain⟨dx,kd,od,td,ko,kt,h1,h2,h3,h4,h5,h6⟩:=h
 exact⟨dx,kd,od,td,ko,kt,s _ _ h1,s _ _ h2,s _ _ h3,h4.same s,s _ _ h5,h6.same s⟩
def OkP (xs:List Pat):Prop:=(∀ x∈xs,1<=x.1.length/\x.1.length<=22/\x.2.length=x.1.length+1)/\xs.length<=100
theorem OkP.grt {xs:List Pat}(h:OkP xs):∀ g∈L2.grt xs,g.2.length=g.1.length+1:=jhv_ (fun g hg=>nomatch hg) fun x hx=>(h.1 x hx).2.2
def jbq_ (C:Addr):Sp:=fun vs H Q _=>∃(p a b dx:Addr) (ya yb:List V) (one other:List Pat),vs=[.ref p,.ref a,.ref b]/\H p=some (.ins C dx [])/\H a=some (.lst ya)/\H b=some (.lst yb)/\L2.IsL H ya (one.map patD)/\L2.IsL H yb (other.map patD)/\OkP one/\OkP other /\
 ∀ H',SightAt C H' p one other->(∀ b o,b≠p->H b=some o->H' b=some o)->Q .non H'
def jep_ (C:Addr):Sp:=fun vs H Q _=>∃(p:Addr) (one other:List Pat) (t:List Nat),vs=[.ref p,.str (S t)]/\SightAt C H p one other/\t.length<=1000/\Q (.str (S (jp_ (begs (one++other)) t))) H
noncomputable def tell (xs:List Pat)(t:List Nat)(back:Nat)(i:Int):Int:=mx i (tAE (grt xs) t back (t.length+1 - back))
def jer_ (C:Addr):Sp:=fun vs H Q _=>∃(p:Addr) (one other:List Pat) (t:List Nat) (back:Nat) (i j:Int),vs=[.ref p,.str (S t),.int (back:Int),.int i,.int j]/\SightAt C H p one other/\OkP one/\OkP other/\t.length<=1000/\back<=1000 /\
 ∀(a:Addr) (H':Hp),H a=none->H' a=some (.tup [.int (tell one t back i),.int (tell other t back j)])->Same H H'->Q (.ref a) H'
def jfe_ (C:Addr):Sp:=fun vs H Q _=>∃(p:Addr) (one other:List Pat),vs=[.ref p]/\SightAt C H p one other /\
 ∀(a:Addr) (H':Hp),H a=none->H' a=some (.tup [.str (S (jp_ (begs (one++other)) [46])),.non,.int 0,.int 0])->Same H H'->Q (.ref a) H'
noncomputable def zt_ (one other:List Pat)(v:View)(c:Nat):View:=⟨jp_ (begs (one++other)) (v.t++[c]),some ((v.b.map (·+1)).getD 0),tell one (jp_ (begs (one++other)) (v.t++[c])) ((v.b.map (·+1)).getD 0) v.i,tell other (jp_ (begs (one++other)) (v.t++[c])) ((v.b.map (·+1)).getD 0) v.j⟩
noncomputable def yt_ (one other:List Pat)(v:View)(c:Nat):Bool:=decide ((zt_ one other v c).t.length < (v.b.map (·+1)).getD 0)
noncomputable def jy_ (one other:List Pat)(v:View)(c:Nat):List View:=if yt_ one other v c=true then [] else (if v.b=none then [⟨(zt_ one other v c).t,none,0,0⟩] else [])++[zt_ one other v c]
noncomputable def j2_ (one other:List Pat)(v:View)(c:Nat):List (Int×Int):=if yt_ one other v c=true then [((zt_ one other v c).i,(zt_ one other v c).j)] else []
def OkV (v:View):Prop:=v.t.length<=100/\∀ n,v.b=some n->n<=100
noncomputable def zc_ (one other:List Pat)(v:View):List (Int×Int):=match v.b with
 | none=>[]
 | some 0=>[]
 | some (n+1)=>[(tell one (v.t++[46]) (n+2) v.i,tell other (v.t++[46]) (n+2) v.j)]
def jrp_ (H:Hp)(zd ud:List Dt)(Q:VK):Prop:=∀(a lv lp:Addr) (zs us:List V) (H':Hp),H' a=some (.tup [.ref lv,.ref lp])->H' lv=some (.lst zs)->H' lp=some (.lst us)->lv≠lp->H lv=none->H lp=none->L2.IsL H' zs zd->L2.IsL H' us ud->Same H H'->Q (.ref a) H'
def jul_ (H:Hp)(ud:List Dt)(Q:VK):Prop:=∀(lp:Addr) (us:List V) (H':Hp),H' lp=some (.lst us)->H lp=none->L2.IsL H' us ud->Same H H'->Q (.ref lp) H'
def v4_ (C:Addr):Sp:=fun vs H Q _=>∃(p va:Addr) (one other:List Pat) (v:View) (c:Nat),vs=[.ref p,.ref va,.str (S [c])]/\SightAt C H p one other/\OkP one/\OkP other/\OkV v/\H va=some (.tup [.str (S v.t),bV v.b,.int v.i,.int v.j]) /\
 jrp_ H ((jy_ one other v c).map z3_) ((j2_ one other v c).map yd_) Q
def jeh_ (C:Addr):Sp:=fun vs H Q _=>∃(p va:Addr) (one other:List Pat) (v:View),vs=[.ref p,.ref va]/\SightAt C H p one other/\OkP one/\OkP other/\OkV v/\H va=some (.tup [.str (S v.t),bV v.b,.int v.i,.int v.j]) /\
 jul_ H ((zc_ one other v).map yd_) Q
def Two (H:Hp)(a b:Addr)(one other:List Pat):Prop:=∃ ya yb,H a=some (.lst ya)/\H b=some (.lst yb)/\L2.IsL H ya (one.map patD)/\L2.IsL H yb (other.map patD)/\OkP one/\OkP other
theorem Two.same {H H':Hp}{a b:Addr}{one other:List Pat}(s:Same H H')(h:Two H a b one other):Two H' a b one other:=by
 obtain⟨ya,yb,h1,h2,h3,h4,h5⟩:=h
 exact⟨ya,yb,s _ _ h1,s _ _ h2,IsL.same s h3,IsL.same s h4,h5⟩
section
variable {P:Program}{w:World}{K:pc_}{mg:Str->Option Value}{base:Heap}{f:Addr}{fd:FuncData}{tk:Nat->Tok}{cO:Addr}
theorem jck_ (T:Txt mg tk)(O:Ow K mg cO)(F:Fun K "__init__" "Sight.__init__" s_Sight_init f fd)(D_beginnings:Dn P w K mg base "beginnings" 1 ["patterns"] uz_)(D_greatest_numbers:Dn P w K mg base "greatest_numbers" 1 ["patterns"] jqp_):FnOk P w K mg base CX0 2 f fd ["self","one","other"] (jbq_ cO):=by
 refine F.ok sc_Sight_init (fun vs H Q E h=>?_) (fun cdv A outer s H vs Q E hr h=>?_)
 ·obtain⟨p,a,b,dx,ya,yb,one,other,rfl,_⟩:=h
  rfl
 obtain⟨p,a,b,dx,ya,yb,one,other,rfl,hp,ha,hb,hya,hyb,ho1,ho2,q⟩:=h
 have nd:=sc_Sight_init.nd
 have hl1:=hya.length
 have hl2:=hyb.length
 rw[pb_] at hl1 hl2
 have hz1:=ho1.2
 have hz2:=ho2.2
 refine⟨_,(jf_ (jjh_ (pv 0) (jq_ D_beginnings hr.mo_ rfl (ja_ (jk_ jx_ (pv 1) (pv 2)) je_)) rfl)
  (jf_ (jjh_ (pv 0) (jq_ D_greatest_numbers hr.mo_ rfl (ja_ (pv 1) je_)) rfl)
  (jg_ (jjh_ (pv 0) (jq_ D_greatest_numbers hr.mo_ rfl (ja_ (pv 2) je_)) rfl)))),?_⟩
 rw[show L2.j7_ ["self","one","other"] [.ref p,.ref a,.ref b]=[some (.ref p),some (.ref a),some (.ref b)] from rfl]
 refine jpi_ (jjo_ ?_)
 walk_at "go"
 refine yh_ ha hb (szn (by omega)) fun c hc=>?_
 have s1:=jc_ hc (.lst (ya++yb))
 walk_at "go"
 refine⟨.ref c,one++other,rfl,?_,fun x hx=>?_,by rw[pg_];omega,fun kd H2 hkd ekd s2=>?_⟩
 ·simp only[Is,x3_]
  exact⟨c,_,rfl,jb_,by rw[pk_];exact IsL.append (IsL.same s1 hya) (IsL.same s1 hyb)⟩
 ·rcases pe_.mp hx with h | h
  ·have:=(ho1.1 x h).2.1;omega
  ·have:=(ho2.1 x h).2.1;omega
 have s02:=s1.trans s2
 walk_at "go"
 refine jit_ (s02 _ _ hp) O.cl O.n_known (by decide) ?_
 have hp2:=s02 _ _ hp
 have d2:=Dat.ins hp2 (.ins cO dx (putF ("known":Str) (.ref kd) []))
 have d02:=s02.dat.trans d2
 have e2:=jb_ (H:=H2) (a:=p) (o:=.ins cO dx (putF ("known":Str) (.ref kd) []))
 have o2:=jfh_ (p:=p) (x:=.ins cO dx (putF ("known":Str) (.ref kd) [])) (fun b o _ e=>s02 b o e)
 have ekd2:=d2.2.2 _ _ ekd
 generalize upd H2 p (.ins cO dx (putF ("known":Str) (.ref kd) []))=H3 at d02 e2 o2 ekd2 ⊢
 walk_at "go"
 refine jpi_ (jjo_ ?_)
 walk_at "go"
 refine⟨.ref a,one,rfl,?_,fun x hx=>⟨by have:=(ho1.1 x hx).2.1;omega,(ho1.1 x hx).2.2⟩,by omega,fun od ko H4 hod eod nod s4=>?_⟩
 ·simp only[Is,x3_]
  exact⟨a,ya,rfl,d02.1 _ _ ha,IsL.dat d02 hya⟩
 walk_at "go"
 refine jit_ (s4 _ _ e2) O.cl O.n_one_numbers (show 1 < 1000 by decide) ?_
 have d4:=Dat.ins (s4 _ _ e2) (.ins cO dx (putF ("one_numbers":Str) (.ref od) (putF ("known":Str) (.ref kd) [])))
 have d04:=(d02.trans s4.dat).trans d4
 have e4:=jb_ (H:=H4) (a:=p) (o:=.ins cO dx (putF ("one_numbers":Str) (.ref od) (putF ("known":Str) (.ref kd) [])))
 have o4:=jfh_ (p:=p) (x:=.ins cO dx (putF ("one_numbers":Str) (.ref od) (putF ("known":Str) (.ref kd) []))) (jke_ o2 s4)
 have ekd4:=d4.2.2 _ _ (s4 _ _ ekd2)
 have eod4:=d4.2.2 _ _ eod
 have nod4:=nod.dat d4
 generalize upd H4 p (.ins cO dx (putF ("one_numbers":Str) (.ref od) (putF ("known":Str) (.ref kd) [])))=H5 at d04 e4 o4 ekd4 eod4 nod4 ⊢
 walk_at "go"
 refine jjo_ ?_
 walk_at "go"
 refine⟨.ref b,other,rfl,?_,fun x hx=>⟨by have:=(ho2.1 x hx).2.1;omega,(ho2.1 x hx).2.2⟩,by omega,fun td kt H6 htd etd ntd s6=>?_⟩
 ·simp only[Is,x3_]
  exact⟨b,yb,rfl,d04.1 _ _ hb,IsL.dat d04 hyb⟩
 walk_at "go"
 refine jit_ (s6 _ _ e4) O.cl O.n_other_numbers (show 2 < 1000 by decide) ?_
 have d6:=Dat.ins (s6 _ _ e4) (.ins cO dx (putF ("other_numbers":Str) (.ref td) (putF ("one_numbers":Str) (.ref od) (putF ("known":Str) (.ref kd) []))))
 walk_at "go"
 exact q _ ⟨dx,kd,od,td,ko,kt,jb_,d6.2.2 _ _ (s6 _ _ ekd4),d6.2.2 _ _ (s6 _ _ eod4),(nod4.same s6).dat d6,d6.2.2 _ _ etd,ntd.dat d6⟩ (jfh_ (jke_ o4 s6))
theorem u8_ (T:Txt mg tk)(O:Ow K mg cO)(F:Fun K "tail_of" "Sight.tail_of" s_Sight_tail_of f fd):FnOk P w K mg base CX0 1 f fd ["self","text"] (jep_ cO):=by
 refine F.ok sc_Sight_tail_of (fun vs H Q E h=>?_) (fun cdv A outer s H vs Q E hr h=>?_)
 ·obtain⟨p,one,other,t,rfl,_⟩:=h
  rfl
 obtain⟨p,one,other,t,rfl,hs,hl,q⟩:=h
 obtain⟨dx,kd,od,td,ko,kt,e1,e2,e3,e4,e5,e6⟩:=hs
 have nd:=sc_Sight_tail_of.nd
 refine⟨_,(jf_ (zo_ p5_ rfl (z5_ rfl T.z_range (ja_ (jo_ (zq_ (K:=K)) rfl T.z_len (by decide +kernel) (ja_ (pv 1) je_)) je_)) (jn_ (i:=2) nd rfl (Or.inl rfl))
   (jg_ (zr_ (jbm_ (jqk_ (jag_ hr) (zj_ (z7_ (K:=K)) (pv 1) (zk_ (pv 2)) z6_) (jhz_ (pv 0) rfl)))
   (jg_ (jt_ (zj_ (z7_ (K:=K)) (pv 1) (zk_ (pv 2)) z6_)))
   j5_)))
  (jg_ (jt_ zh_))),?_⟩
 rw[show L2.j7_ ["self","text","begin"] [.ref p,.str (S t)]=[some (.ref p),some (.str (S t)),none] from rfl]
 rw[xc_]
 generalize hB:begs (one++other)=B at q e2
 walk_at "go"
 refine zu_ (fun i σ H'=>∃(v2:Option V),H'=H/\σ=[some (.ref p),some (.str (S t)),v2]/\jp_ B t=jp_ B (t.drop i)) ⟨none,rfl,rfl,rfl⟩ ?_ ?_
 ·rintro i σ H' hi ⟨v2,rfl,rfl,ht⟩
  have hil:i < t.length:=by omega
  have hcut:cutA t (some (0+(i:Int))) none=t.drop i:=by rw[kd_];exact va_ t i (by omega)
  walk_at "go"
  refine i_tB (jut_ ?_)
  walk_at "go"
  refine jji_ ?_
  walk_at "go"
  refine jju_ e1 O.cl O.n_known rfl ?_
  rw[hcut]
  refine⟨kd,_,rfl,DGet.k (k:=Sum.inr (S (t.drop i))) e2,?_⟩
  rw[jjl_]
  have hdc:t.drop i=t[i]::t.drop (i+1):=t9_ hil
  by_cases hm:t.drop i∈B
  ·rw[if_pos hm]
   walk_at "go"
   have hte:jp_ B (t.drop i)=t.drop i:=by rw[hdc] at hm ⊢;unfold jp_;rw[if_pos hm]
   rw[hcut]
   rw[ht,hte] at q
   exact q
  ·rw[if_neg hm]
   walk_at "go"
   refine⟨_,rfl,rfl,?_⟩
   rw[ht]
   rw[hdc] at hm ⊢
   conv=>lhs;unfold jp_
   rw[if_neg hm]
 ·rintro σ H' ⟨v2,rfl,rfl,ht⟩
  rw[show ((t.length:Int)).toNat=t.length by omega,List.drop_length] at ht
  walk_at "go"
  rw[ht] at q
  exact q
theorem x9_ (T:Txt mg tk)(O:Ow K mg cO)(F:Fun K "pair_at_end" "Sight.pair_at_end" s_Sight_pair_at_end f fd)(D_told_at_end:Dn P w K mg base "told_at_end" 1 ["numbers_by_signs","text","back"] jnv_):FnOk P w K mg base CX0 2 f fd ["self","text","back","ones","others"] (jer_ cO):=by
 refine F.ok sc_Sight_pair_at_end (fun vs H Q E h=>?_) (fun cdv A outer s H vs Q E hr h=>?_)
 ·obtain⟨p,one,other,t,back,i,j,rfl,_⟩:=h
  rfl
 obtain⟨p,one,other,t,back,i,j,rfl,hs,ho1,ho2,hl,hbk,q⟩:=h
 obtain⟨dx,kd,od,td,ko,kt,e1,e2,e3,e4,e5,e6⟩:=hs
 have nd:=sc_Sight_pair_at_end.nd
 refine⟨_,(jf_ (jl_ (i:=5) nd rfl (Or.inl rfl) (jq_ D_told_at_end hr.mo_ rfl (ja_ (jhz_ (pv 0) rfl) (ja_ (pv 1) (ja_ (pv 2) je_)))))
  (jf_ (jl_ (i:=6) nd rfl (Or.inl rfl) (jq_ D_told_at_end hr.mo_ rfl (ja_ (jhz_ (pv 0) rfl) (ja_ (pv 1) (ja_ (pv 2) je_)))))
  (jg_ (jt_ (zd_ (ja_ (jo_ (jbf_ rfl) rfl T.z_max (by decide +kernel) (ja_ (pv 3) (ja_ (pv 5) je_))) (ja_ (jo_ (jbf_ rfl) rfl T.z_max (by decide +kernel) (ja_ (pv 4) (ja_ (pv 6) je_))) je_))))))),?_⟩
 rw[show L2.j7_ ["self","text","back","ones","others","told_ones","told_others"] [.ref p,.str (S t),.int (back:Int),.int i,.int j]=[some (.ref p),some (.str (S t)),some (.int (back:Int)),some (.int i),some (.int j),none,none] from rfl]
 walk_at "go"
 refine jji_ ?_
 walk_at "go"
 refine jju_ e1 O.cl O.n_one_numbers rfl ?_
 walk_at "go"
 refine⟨od,ko,grt one,t,back,rfl,e3,e4,ho1.grt,hl,hbk,?_⟩
 walk_at "go"
 refine jji_ ?_
 walk_at "go"
 refine jju_ e1 O.cl O.n_other_numbers rfl ?_
 walk_at "go"
 refine⟨td,kt,grt other,t,back,rfl,e5,e6,ho2.grt,hl,hbk,?_⟩
 walk_at "go"
 intro a ha
 exact q a _ ha jb_ (jc_ ha _)
theorem jbn_ (T:Txt mg tk)(O:Ow K mg cO)(F:Fun K "first" "Sight.first" s_Sight_first f fd)(D_Sight_tail_of:Dm P w K mg base cO "tail_of" 1 ["self","text"] (jep_ cO)):FnOk P w K mg base CX0 2 f fd ["self"] (jfe_ cO):=by
 refine F.ok sc_Sight_first (fun vs H Q E h=>?_) (fun cdv A outer s H vs Q E hr h=>?_)
 ·obtain⟨p,one,other,rfl,_⟩:=h
  rfl
 obtain⟨p,one,other,rfl,hs,q⟩:=h
 obtain⟨dx,kd,od,td,ko,kt,e1,r⟩:=id hs
 have nd:=sc_Sight_first.nd
 refine⟨_,(jg_ (jt_ (zd_ (ja_ (xl_ (pv 0) O.cl D_Sight_tail_of hr.mo_ (ja_ zh_ je_)) (ja_ yz_ (ja_ jd_ (ja_ jd_ je_))))))),?_⟩
 rw[show L2.j7_ ["self"] [.ref p]=[some (.ref p)] from rfl]
 rw[jaa_]
 walk_at "go"
 refine x8_ ?_
 walk_at "go"
 refine x4_ e1 rfl ?_
 walk_at "go"
 refine⟨p,one,other,[46],rfl,hs,by decide,?_⟩
 walk_at "go"
 intro a ha
 exact q a _ ha jb_ (jc_ ha _)
end
section
variable {P:Program}{w:World}{K:pc_}{mg:Str->Option Value}{base:Heap}{f:Addr}{fd:FuncData}{tk:Nat->Tok}{cO:Addr}
theorem vw_ (T:Txt mg tk)(O:Ow K mg cO)(F:Fun K "by_letter" "Sight.by_letter" s_Sight_by_letter f fd)(D_Sight_tail_of:Dm P w K mg base cO "tail_of" 1 ["self","text"] (jep_ cO))(D_Sight_pair_at_end:Dm P w K mg base cO "pair_at_end" 2 ["self","text","back","ones","others"] (jer_ cO)):FnOk P w K mg base CX0 3 f fd ["self","view","letter"] (v4_ cO):=by
 refine F.ok sc_Sight_by_letter (fun vs H Q E h=>?_) (fun cdv A outer s H vs Q E hr h=>?_)
 ·obtain⟨p,va,one,other,v,c,rfl,_⟩:=h
  rfl
 obtain⟨p,va,one,other,v,c,rfl,hs,ho1,ho2,hv,ev,q⟩:=h
 obtain⟨vt,vb,vi,vj⟩:=v
 obtain⟨hvt,hvb⟩:=hv
 have hvt:vt.length<=100:=hvt
 have hvb:∀ n,vb=some n->n<=100:=hvb
 have ev:H va=some (.tup [.str (S vt),bV vb,.int vi,.int vj]):=ev
 obtain⟨dx,kd,od,td,ko,kt,e1,_⟩:=id hs
 have nd:=sc_Sight_by_letter.nd
 refine⟨_,(jf_ (jl_ (i:=3) nd rfl (Or.inl rfl) (xl_ (pv 0) O.cl D_Sight_tail_of hr.mo_ (ja_ (jk_ jx_ (jj_ (jh_ (K:=K)) (pv 1) jd_ (fun _ _=>rfl)) (pv 2)) je_)))
  (jf_ (jl_ (i:=4) nd rfl (Or.inl rfl) (jqj_ (ju_ o_is (jj_ (jh_ (K:=K)) (pv 1) jd_ (fun _ _=>rfl)) yz_ (j6_ _)) jd_ (jk_ jx_ (jj_ (jh_ (K:=K)) (pv 1) jd_ (fun _ _=>rfl)) jd_)))
  (jf_ (jl_ (i:=5) nd rfl (Or.inl rfl) (xl_ (pv 0) O.cl D_Sight_pair_at_end hr.mo_ (ja_ (pv 3) (ja_ (pv 4) (ja_ (jj_ (jh_ (K:=K)) (pv 1) jd_ (fun _ _=>rfl)) (ja_ (jj_ (jh_ (K:=K)) (pv 1) jd_ (fun _ _=>rfl)) je_))))))
  (jf_ (zr_ (ju_ o_lt (jo_ (zq_ (K:=K)) rfl T.z_len (by decide +kernel) (ja_ (pv 3) je_)) (pv 4) (j6_ _))
   (jg_ (jt_ (zd_ (ja_ (j0_ je_) (ja_ (j0_ (ja_ (pv 5) je_)) je_)))))
   j5_)
  (jf_ (jl_ (i:=6) nd rfl (Or.inl rfl) (j0_ (ja_ (zd_ (ja_ (pv 3) (ja_ (pv 4) (ja_ (jj_ (jh_ (K:=K)) (pv 5) jd_ (fun _ _=>rfl)) (ja_ (jj_ (jh_ (K:=K)) (pv 5) jd_ (fun _ _=>rfl)) je_))))) je_)))
  (jf_ (zr_ (ju_ o_is (jj_ (jh_ (K:=K)) (pv 1) jd_ (fun _ _=>rfl)) yz_ (j6_ _))
   (jg_ (ys_ (yg_ (K:=K) qf_ PySem.F.slot_list_insert PySem.F.type_list_insert jnc_ (pv 6) (ja_ jd_ (ja_ (zd_ (ja_ (pv 3) (ja_ yz_ (ja_ jd_ (ja_ jd_ je_))))) je_)))))
   j5_)
  (jg_ (jt_ (zd_ (ja_ (pv 6) (ja_ (j0_ je_) je_))))))))))),?_⟩
 rw[show L2.j7_ ["self","view","letter","tail","behind","pair","views"] [.ref p,.ref va,.str (S [c])]=[some (.ref p),some (.ref va),some (.str (S [c])),none,none,none,none] from rfl]
 walk_at "go"
 refine x8_ ?_
 walk_at "go"
 refine x4_ e1 rfl ?_
 walk_at "go"
 refine⟨p,one,other,vt++[c],rfl,hs,by rw[pg_];show _+1<=_;omega,?_⟩
 have htl:(jp_ (begs (one++other)) (vt++[c])).length<=101:=by
  have:=(zw_ (begs (one++other)) (vt++[c])).length_le
  rw[pg_] at this
  exact qe_ this (by show _+1<=_;omega)
 have hnv:∀ b',(vb.map (·+1)).getD 0=b'->zt_ one other ⟨vt,vb,vi,vj⟩ c=⟨jp_ (begs (one++other)) (vt++[c]),some b',tell one (jp_ (begs (one++other)) (vt++[c])) b' vi,tell other (jp_ (begs (one++other)) (vt++[c])) b' vj⟩:=fun b' h=>by
  subst h;rfl
 cases vb with
 | none =>
  have hn:=hnv 0 rfl
  have hse:yt_ one other ⟨vt,none,vi,vj⟩ c=false:=decide_eq_false (s1_ _)
  have hvs:jy_ one other ⟨vt,none,vi,vj⟩ c=[⟨(zt_ one other ⟨vt,none,vi,vj⟩ c).t,none,0,0⟩,zt_ one other ⟨vt,none,vi,vj⟩ c]:=by
   unfold jy_;rw[hse,if_neg pi_,if_pos rfl];rfl
  have hps:j2_ one other ⟨vt,none,vi,vj⟩ c=[]:=by unfold j2_;rw[hse,if_neg pi_]
  rw[hvs,hps,hn] at q
  clear hvs hps hn hnv hse
  generalize jp_ (begs (one++other)) (vt++[c])=t' at htl q ⊢
  have ev:H va=some (.tup [.str (S vt),.non,.int vi,.int vj]):=ev
  walk_at "go"
  refine x8_ ?_
  walk_at "go"
  refine x4_ e1 rfl ?_
  walk_at "go"
  refine⟨p,one,other,t',0,vi,vj,rfl,hs,ho1,ho2,by omega,by decide,fun pr H1 hpr epr s1=>?_⟩
  have ev1:=s1 _ _ ev
  walk_at "go"
  try refine jce_ (by intro z;omega) ?_
  walk_at "go"
  intro w1 hw1
  walk_at "go"
  intro vl hvl
  have nwl:w1≠vl:=j3_ jb_ hvl
  have sw:=(jc_ hw1 (.tup [.str (S t'),.int 0,.int (tell one t' 0 vi),.int (tell other t' 0 vj)])).trans (jc_ hvl (.lst [.ref w1]))
  have ev2:=sw _ _ ev1
  have ew1:(upd (upd H1 w1 (.tup [.str (S t'),.int 0,.int (tell one t' 0 vi),.int (tell other t' 0 vj)])) vl (.lst [.ref w1])) w1=_:=(jc_ hvl _) _ _ jb_
  have evl:=jb_ (H:=upd H1 w1 (.tup [.str (S t'),.int 0,.int (tell one t' 0 vi),.int (tell other t' 0 vj)])) (a:=vl) (o:=.lst [.ref w1])
  have hvl1:H1 vl=none:=(jc_ hw1 _).free hvl
  generalize upd (upd H1 w1 (.tup [.str (S t'),.int 0,.int (tell one t' 0 vi),.int (tell other t' 0 vj)])) vl (.lst [.ref w1])=H2 at sw ev2 ew1 evl ⊢
  walk_at "go"
  intro w2 hw2
  have s3:=jc_ hw2 (.tup [.str (S t'),.non,.int 0,.int 0])
  have evl3:=s3 _ _ evl
  have ew13:=s3 _ _ ew1
  have ew2:=jb_ (H:=H2) (a:=w2) (o:=.tup [.str (S t'),.non,.int 0,.int 0])
  generalize upd H2 w2 (.tup [.str (S t'),.non,.int 0,.int 0])=H3 at s3 evl3 ew13 ew2 ⊢
  walk_at "go"
  refine jwj_ evl3 ⟨by decide,(show (0:Int)<=1 by decide),(show 1 < 1000000 by decide)⟩ ?_
  have k4:Tk H3 (upd H3 vl (.lst ([V.ref w1].take (0:Int).toNat++.ref w2::[V.ref w1].drop (0:Int).toNat))):=Tk.lst evl3 _
  have s4:Same H1 (upd H3 vl (.lst ([V.ref w1].take (0:Int).toNat++.ref w2::[V.ref w1].drop (0:Int).toNat))):=fun b o e=>by
   have hb:b≠vl:=fun z=>by rw[z,hvl1] at e;cases e
   rw[ji_ hb];exact s3 _ _ (sw _ _ e)
  have evl4:(upd H3 vl (.lst ([V.ref w1].take (0:Int).toNat++.ref w2::[V.ref w1].drop (0:Int).toNat))) vl=some (.lst [.ref w2,.ref w1]):=jb_
  have ew14:=k4 _ _ ew13
  have ew24:=k4 _ _ ew2
  generalize upd H3 vl (.lst ([V.ref w1].take (0:Int).toNat++.ref w2::[V.ref w1].drop (0:Int).toNat))=H4 at k4 s4 evl4 ew14 ew24 ⊢
  walk_at "go"
  intro pl hpl
  walk_at "go"
  intro r hr0
  have s6:=(jc_ hpl (.lst [])).trans (jc_ hr0 (.tup [.ref vl,.ref pl]))
  have s06:=(s1.trans s4).trans s6
  refine q r vl pl _ _ _ jb_ (s6 _ _ evl4) ((jc_ hr0 _) _ _ jb_) (j3_ evl4 hpl) (s1.free hvl1) ((s1.trans s4).free hpl) ?_ ?_ s06
  ·simp only[pp_,p7_,L2.IsL]
   exact⟨yc_ (v:=⟨t',none,0,0⟩) (s6 _ _ ew24),yc_ (v:=⟨t',some 0,_,_⟩) (s6 _ _ ew14),trivial⟩
  ·simp only[p7_,L2.IsL]
 | some n =>
  have hn100:=hvb n rfl
  have hn:=hnv (n+1) rfl
  have ev:H va=some (.tup [.str (S vt),.int (n:Int),.int vi,.int vj]):=ev
  have hset:yt_ one other ⟨vt,some n,vi,vj⟩ c=decide ((jp_ (begs (one++other)) (vt++[c])).length < n+1):=rfl
  have hvs:jy_ one other ⟨vt,some n,vi,vj⟩ c=if (jp_ (begs (one++other)) (vt++[c])).length < n+1 then [] else [zt_ one other ⟨vt,some n,vi,vj⟩ c]:=by
   unfold jy_;rw[hset,if_neg (show ¬ (some n=none) from fun z=>nomatch z)]
   by_cases hx:(jp_ (begs (one++other)) (vt++[c])).length < n+1
   ·rw[if_pos hx,if_pos (decide_eq_true hx)]
   ·rw[if_neg hx,if_neg (by simpa using hx)];rfl
  have hps:j2_ one other ⟨vt,some n,vi,vj⟩ c=if (jp_ (begs (one++other)) (vt++[c])).length < n+1 then [((zt_ one other ⟨vt,some n,vi,vj⟩ c).i,(zt_ one other ⟨vt,some n,vi,vj⟩ c).j)] else []:=by
   unfold j2_;rw[hset]
   by_cases hx:(jp_ (begs (one++other)) (vt++[c])).length < n+1
   ·rw[if_pos hx,if_pos (decide_eq_true hx)]
   ·rw[if_neg hx,if_neg (by simpa using hx)]
  rw[hvs,hps,hn] at q
  clear hvs hps hn hnv hset
  generalize jp_ (begs (one++other)) (vt++[c])=t' at htl q ⊢
  walk_at "go"
  refine x8_ ?_
  walk_at "go"
  refine x4_ e1 rfl ?_
  walk_at "go"
  refine⟨p,one,other,t',n+1,vi,vj,rfl,hs,ho1,ho2,by omega,by omega,fun pr H1 hpr epr s1=>?_⟩
  have ev1:=s1 _ _ ev
  walk_at "go"
  refine iteD (fun cx=>?_) (fun cx=>?_)
  ·rw[if_pos (by omega),if_pos (by omega)] at q
   walk_at "go"
   intro vl hvl
   walk_at "go"
   intro pl hpl
   walk_at "go"
   intro r hr0
   have s6:=((jc_ hvl (.lst [])).trans (jc_ hpl (.lst [.ref pr]))).trans (jc_ hr0 (.tup [.ref vl,.ref pl]))
   have s06:=s1.trans s6
   have evl:(upd (upd (upd H1 vl (.lst [])) pl (.lst [.ref pr])) r (.tup [.ref vl,.ref pl])) vl=some (.lst []):=(jc_ hr0 _) _ _ ((jc_ hpl _) _ _ jb_)
   refine q r vl pl _ _ _ jb_ evl ((jc_ hr0 _) _ _ jb_) (j3_ jb_ hpl) (s1.free hvl) (s1.free ((jc_ hvl _).free hpl)) ?_ ?_ s06
   ·simp only[p7_,L2.IsL]
   ·simp only[pp_,p7_,L2.IsL]
    exact⟨vi_ (p:=(_,_)) (s6 _ _ epr),trivial⟩
  ·rw[if_neg (by omega),if_neg (by omega)] at q
   walk_at "go"
   intro w1 hw1
   walk_at "go"
   intro vl hvl
   have sw:=(jc_ hw1 (.tup [.str (S t'),.int ((n:Int)+1),.int (tell one t' (n+1) vi),.int (tell other t' (n+1) vj)])).trans (jc_ hvl (.lst [.ref w1]))
   have ev2:=sw _ _ ev1
   have ew1:(upd (upd H1 w1 (.tup [.str (S t'),.int ((n:Int)+1),.int (tell one t' (n+1) vi),.int (tell other t' (n+1) vj)])) vl (.lst [.ref w1])) w1=_:=(jc_ hvl _) _ _ jb_
   have evl:=jb_ (H:=upd H1 w1 (.tup [.str (S t'),.int ((n:Int)+1),.int (tell one t' (n+1) vi),.int (tell other t' (n+1) vj)])) (a:=vl) (o:=.lst [.ref w1])
   have hvl1:H1 vl=none:=(jc_ hw1 _).free hvl
   generalize upd (upd H1 w1 (.tup [.str (S t'),.int ((n:Int)+1),.int (tell one t' (n+1) vi),.int (tell other t' (n+1) vj)])) vl (.lst [.ref w1])=H2 at sw ev2 ew1 evl ⊢
   walk_at "go"
   intro pl hpl
   walk_at "go"
   intro r hr0
   have s6:=(jc_ hpl (.lst [])).trans (jc_ hr0 (.tup [.ref vl,.ref pl]))
   have s06:=(s1.trans sw).trans s6
   refine q r vl pl _ _ _ jb_ (s6 _ _ evl) ((jc_ hr0 _) _ _ jb_) (j3_ evl hpl) (s1.free hvl1) ((s1.trans sw).free hpl) ?_ ?_ s06
   ·simp only[pp_,p7_,L2.IsL]
    exact⟨yc_ (v:=⟨t',some (n+1),_,_⟩) (s6 _ _ ew1),trivial⟩
   ·simp only[p7_,L2.IsL]
theorem jal_ (T:Txt mg tk)(O:Ow K mg cO)(F:Fun K "by_end" "Sight.by_end" s_Sight_by_end f fd)(D_Sight_pair_at_end:Dm P w K mg base cO "pair_at_end" 2 ["self","text","back","ones","others"] (jer_ cO)):FnOk P w K mg base CX0 3 f fd ["self","view"] (jeh_ cO):=by
 refine F.ok sc_Sight_by_end (fun vs H Q E h=>?_) (fun cdv A outer s H vs Q E hr h=>?_)
 ·obtain⟨p,va,one,other,v,rfl,_⟩:=h
  rfl
 obtain⟨p,va,one,other,v,rfl,hs,ho1,ho2,hv,ev,q⟩:=h
 obtain⟨vt,vb,vi,vj⟩:=v
 obtain⟨hvt,hvb⟩:=hv
 have hvt:vt.length<=100:=hvt
 have hvb:∀ n,vb=some n->n<=100:=hvb
 obtain⟨dx,kd,od,td,ko,kt,e1,_⟩:=id hs
 have nd:=sc_Sight_by_end.nd
 refine⟨_,(jf_ (zr_ (PW.pt (jcw_ (ju_ o_is (jj_ (jh_ (K:=K)) (pv 1) jd_ (fun _ _=>rfl)) yz_ (j6_ _)) (jau_ (ju_ (o_eq hr.units) (jj_ (jh_ (K:=K)) (pv 1) jd_ (fun _ _=>rfl)) jd_ (j6_ _)))))
   (jg_ (jt_ (j0_ je_)))
   j5_)
  (jg_ (jt_ (j0_ (ja_ (xl_ (pv 0) O.cl D_Sight_pair_at_end hr.mo_ (ja_ (jk_ jx_ (jj_ (jh_ (K:=K)) (pv 1) jd_ (fun _ _=>rfl)) zh_) (ja_ (jk_ jx_ (jj_ (jh_ (K:=K)) (pv 1) jd_ (fun _ _=>rfl)) jd_) (ja_ (jj_ (jh_ (K:=K)) (pv 1) jd_ (fun _ _=>rfl)) (ja_ (jj_ (jh_ (K:=K)) (pv 1) jd_ (fun _ _=>rfl)) je_))))) je_))))),?_⟩
 rw[show L2.j7_ ["self","view"] [.ref p,.ref va]=[some (.ref p),some (.ref va)] from rfl]
 rw[jaa_]
 cases vb with
 | none =>
  have ev:H va=some (.tup [.str (S vt),.non,.int vi,.int vj]):=ev
  walk_at "go"
  intro r hr0
  exact q r [] _ jb_ hr0 (by simp only[zc_,p7_,L2.IsL]) (jc_ hr0 _)
 | some n =>
  have hn100:=hvb n rfl
  cases n with
  | zero =>
   have ev:H va=some (.tup [.str (S vt),.int 0,.int vi,.int vj]):=ev
   walk_at "go"
   intro r hr0
   exact q r [] _ jb_ hr0 (by simp only[zc_,p7_,L2.IsL]) (jc_ hr0 _)
  | succ n =>
   have ev:H va=some (.tup [.str (S vt),.int ((n+1:Nat):Int),.int vi,.int vj]):=ev
   walk_at "go"
   try refine jce_ (fun z=>by injection z with z;omega) ?_
   walk_at "go"
   refine x8_ ?_
   walk_at "go"
   refine x4_ e1 rfl ?_
   walk_at "go"
   refine⟨p,one,other,vt++[46],n+2,vi,vj,rfl,hs,ho1,ho2,by rw[pg_];show _+1<=_;omega,by omega,fun pr H1 hpr epr s1=>?_⟩
   walk_at "go"
   intro r hr0
   have s2:=jc_ hr0 (.lst [.ref pr])
   refine q r _ _ jb_ (s1.free hr0) ?_ (s1.trans s2)
   simp only[zc_,pp_,p7_,L2.IsL]
   exact⟨vi_ (p:=(_,_)) (s2 _ _ epr),trivial⟩
theorem jdn_ {H H':Hp}{x dx C:Addr}(hx:H x=none)(hd:H dx=none)(h:∀ b o,b≠x->(upd (upd H dx (.own x)) x (.ins C dx [])) b=some o->H' b=some o):Same H H':=fun b o e=>by
 have hb:b≠x:=fun z=>by rw[z,hx] at e;cases e
 have hb2:b≠dx:=fun z=>by rw[z,hd] at e;cases e
 exact h b o hb (by rw[ji_ hb,ji_ hb2];exact e)
end
theorem View.ext4 {a b:View}(h1:a.t=b.t)(h2:a.b=b.b)(h3:a.i=b.i)(h4:a.j=b.j):a=b:=by
 cases a;cases b
 cases h1;cases h2;cases h3;cases h4
 rfl
noncomputable instance viewDec:DecidableEq View:=fun a b =>
 if h:a.t=b.t/\a.b=b.b/\a.i=b.i/\a.j=b.j then isTrue (View.ext4 h.1 h.2.1 h.2.2.1 h.2.2.2)
 else isFalse fun e=>h (by rw[e];exact⟨rfl,rfl,rfl,rfl⟩)
def SmP (xs:List Pat):Prop:=OkP xs/\(∀ x∈xs,x.1.length<=8/\∀ n∈x.2,0<=n/\n<=9)/\xs.length<=10
noncomputable def fstV (one other:List Pat):View:=⟨jp_ (begs (one++other)) [46],none,0,0⟩
inductive Path (one other:List Pat) (L:List Nat):List Nat->View->Prop
 | nil:Path one other L [] (fstV one other)
 | snoc {u:List Nat}{v v':View}{c:Nat}:Path one other L u v->c∈L->v'∈jy_ one other v c->Path one other L (u++[c]) v'
noncomputable def odd2 (p:Int×Int):Bool:=decide (p.1 % 2≠p.2 % 2)
noncomputable def zf_ (one other:List Pat)(rd:List Nat):Option Nat->View
 | none=>⟨jp_ (begs (one++other)) rd,none,0,0⟩
 | some g=>⟨jp_ (begs (one++other)) rd,some (rd.length - g - 1),numA rd (g+1) 0 one,numA rd (g+1) 0 other⟩
theorem jbw_ {one other:List Pat}{rd:List Nat}{x:Pat}(hx:x∈one++other)(h:x.1 <:+ rd):x.1 <:+ jp_ (begs (one++other)) rd:=ya_ (jdl_ hx) h
theorem OkP.len {xs:List Pat}(h:OkP xs):∀ x∈xs,x.2.length=x.1.length+1:=fun x hx=>(h.1 x hx).2.2
theorem OkP.ne {xs:List Pat}(h:OkP xs):∀ x∈xs,x.1≠[]:=fun x hx=>q6_.mp (h.1 x hx).1
theorem jbr_ {one other:List Pat}(h1:OkP one)(h2:OkP other){rd:List Nat}{c:Nat}{g:Option Nat}(hg:∀ n,g=some n->n+1<=rd.length) :
  zt_ one other (zf_ one other rd g) c=zf_ one other (rd++[c]) (some (g.getD rd.length)):=by
 have ht:∀ t,t=jp_ (begs (one++other)) rd->jp_ (begs (one++other)) (t++[c])=jp_ (begs (one++other)) (rd++[c]):=fun t e=>by
  rw[e];exact(jfz_ (y3_ _) (jhd_ _) rd c).symm
 have hs:∀ x∈one++other,x.1 <:+ rd++[c]->x.1 <:+ jp_ (begs (one++other)) (rd++[c]):=fun x hx h=>jbw_ hx h
 have hT:=zw_ (begs (one++other)) (rd++[c])
 cases g with
 | none =>
  unfold zt_ zf_
  simp only[Option.map_none,wt_]
  rw[ht _ rfl]
  have e1:=yw_ (back:=0) (p:=rd.length+1) h1.len h1.ne (fun x hx=>hs x (pe_.mpr (.inl hx))) hT (by omega)
  have e2:=yw_ (back:=0) (p:=rd.length+1) h2.len h2.ne (fun x hx=>hs x (pe_.mpr (.inr hx))) hT (by omega)
  rw[jgq_ (rd:=rd) (p:=rd.length+1) h1.len (by omega)] at e1
  rw[jgq_ (rd:=rd) (p:=rd.length+1) h2.len (by omega)] at e2
  unfold tell
  rw[e1,e2]
  simp only[pg_,ps_,qm_]
  congr 2
  omega
 | some n =>
  have hn:=hg n rfl
  unfold zt_ zf_
  simp only[ts_,se_]
  rw[ht _ rfl]
  have e1:=yw_ (back:=rd.length - n - 1+1) (p:=n+1) h1.len h1.ne (fun x hx=>hs x (pe_.mpr (.inl hx))) hT (by omega)
  have e2:=yw_ (back:=rd.length - n - 1+1) (p:=n+1) h2.len h2.ne (fun x hx=>hs x (pe_.mpr (.inr hx))) hT (by omega)
  unfold tell
  rw[e1,e2]
  simp only[pg_,ps_,qm_]
  congr 2
  omega
theorem jqh_ {one other:List Pat}(h1:OkP one)(h2:OkP other){rd:List Nat}{g n:Nat}(hg:g+1<=rd.length)(hn:rd.length - g - 1=n+1) :
  zc_ one other (zf_ one other rd (some g))=[(numA (rd++[46]) (g+1) 0 one,numA (rd++[46]) (g+1) 0 other)]:=by
 have hc:∀ x∈one++other,x.1 <:+ rd++[46]->x.1 <:+ jp_ (begs (one++other)) rd++[46]:=fun x hx h=>by
  have hx1:x.1∈begs (one++other):=jdl_ hx
  rcases jca_ x.1 with e | ⟨s,d,e⟩
  ·rw[e];exact List.nil_suffix
  ·rw[e] at h hx1 ⊢
   obtain⟨h3,h4⟩:=suffix_snoc.mp h
   exact suffix_snoc.mpr ⟨h3,ya_ (jhd_ _ _ _ hx1) h4⟩
 have hT:jp_ (begs (one++other)) rd++[46] <:+ rd++[46]:=suffix_snoc.mpr ⟨rfl,zw_ _ _⟩
 have e1:=yw_ (back:=n+2) (p:=g+1) h1.len h1.ne (fun x hx=>hc x (pe_.mpr (.inl hx))) hT (by omega)
 have e2:=yw_ (back:=n+2) (p:=g+1) h2.len h2.ne (fun x hx=>hc x (pe_.mpr (.inr hx))) hT (by omega)
 unfold zf_ zc_
 simp only[hn]
 unfold tell
 rw[e1,e2]
theorem Path.law {one other:List Pat}{L:List Nat}(h1:OkP one)(h2:OkP other){u:List Nat}{v:View}(h:Path one other L u v):∃ g:Option Nat,v=zf_ one other (46::u) g/\∀ n,g=some n->1<=n/\n<=u.length:=by
 induction h with
 | nil=>exact⟨none,rfl,fun n e=>nomatch e⟩
 | @snoc u v v' c _ _ hm ih =>
  obtain⟨g,rfl,hg⟩:=ih
  have hn:=jbr_ (c:=c) h1 h2 (rd:=46::u) (g:=g) fun n e=>by have:=hg n e;rw[ps_];omega
  rw[ss_] at hn
  unfold jy_ at hm
  split at hm
  ·cases hm
  ·rw[hn] at hm
   rcases pe_.mp hm with hm | hm
   ·split at hm
    ·rw[ph_] at hm
     refine⟨none,?_,fun n e=>nomatch e⟩
     rw[hm]
     rfl
    ·cases hm
   ·rw[ph_] at hm
    refine⟨_,hm,fun n e=>?_⟩
    cases e
    rw[pg_,p8_]
    cases g with
    | none=>show 1<=(46::u).length/\(46::u).length<=_;rw[ps_];omega
    | some n=>have:=hg n rfl;show 1<=n/\n<=_;omega
def uu_ (one other:List Pat)(L:List Nat)(w:List Nat):Prop:=∃ u v,Path one other L u v/\((w=u/\∃ p∈zc_ one other v,odd2 p=true)∨∃ c∈L,w=u++[c]/\∃ p∈j2_ one other v c,odd2 p=true)
theorem odd2_iff {p:Int×Int}:odd2 p=true↔p.1 % 2≠p.2 % 2:=by unfold odd2;exact decide_eq_true_iff
def GoodV (one other:List Pat)(v:View):Prop:=v.t∈begs (one++other)/\(∀ n,v.b=some n->n<=v.t.length)/\(0<=v.i/\v.i<=9)/\0<=v.j/\v.j<=9
theorem jki_ {xs:List Pat}(h:SmP xs){t:List Nat}{back:Nat}{i:Int}(hi:0<=i/\i<=9):0<=tell xs t back i/\tell xs t back i<=9:=by
 refine⟨tc_ hi.1 (mx_l _ _),mx_le.mpr ⟨hi.2,(ui_ h.1.len _ _ _).mpr ⟨by decide,fun x hx _ _=>?_⟩⟩⟩
 rw[pf_]
 cases e:x.2[x.1.length - back]? with
 | none=>show (0:Int)<=9;decide
 | some n=>exact((h.2.1 x hx).2 n (kk_ e)).2
theorem jmm_ {one other:List Pat}(h1:SmP one)(h2:SmP other){v v':View}{c:Nat}(hv:GoodV one other v)(hm:v'∈jy_ one other v c):GoodV one other v':=by
 have ht:=y0_ (y3_ (one++other)) (v.t++[c])
 unfold jy_ at hm
 split at hm
 ·cases hm
 ·rename_i hs
  rcases pe_.mp hm with hm | hm
  ·split at hm
   ·rw[ph_] at hm
    rw[hm]
    exact⟨ht,fun n (e:none=some n)=>(nomatch e),(by decide:(0:Int)<=0/\(0:Int)<=9),(by decide:(0:Int)<=0/\(0:Int)<=9)⟩
   ·cases hm
  ·rw[ph_] at hm
   rw[hm]
   refine⟨ht,fun n e=>?_,jki_ h1 hv.2.2.1,jki_ h2 hv.2.2.2⟩
   have hs:¬ (zt_ one other v c).t.length < (v.b.map (·+1)).getD 0:=fun z=>hs (decide_eq_true z)
   have e:some ((v.b.map (·+1)).getD 0)=some n:=e
   cases e
   exact Nat.not_lt.mp hs
theorem jqn_ (one other:List Pat):GoodV one other (fstV one other):=⟨y0_ (y3_ _) _,fun n e=>(nomatch e),(by decide:(0:Int)<=0/\(0:Int)<=9),(by decide:(0:Int)<=0/\(0:Int)<=9)⟩
theorem Path.good {one other:List Pat}{L:List Nat}(h1:SmP one)(h2:SmP other){u:List Nat}{v:View}(h:Path one other L u v):GoodV one other v:=by
 induction h with
 | nil=>exact jqn_ one other
 | snoc _ _ hm ih=>exact jmm_ h1 h2 ih hm
theorem jpm_ {xs:List Pat}{c:Nat}(h:∀ x∈xs,x.1.length<=c){y:List Nat}(hy:y∈begs xs):y.length<=c:=by
 rcases mem_begs.mp hy with rfl | ⟨x,hx,e,_,_,rfl⟩
 ·exact qz_ _
 ·rw[p2_]
  have:=h x hx
  omega
theorem jcd_ {one other:List Pat}(h1:SmP one)(h2:SmP other):∀ x∈one++other,x.1.length<=8:=fun x hx=>(pe_.mp hx).elim (fun h=>(h1.2.1 x h).1) fun h=>(h2.2.1 x h).1
theorem GoodV.len {one other:List Pat}(h1:SmP one)(h2:SmP other){v:View}(h:GoodV one other v):v.t.length<=8:=jpm_ (jcd_ h1 h2) h.1
theorem GoodV.ok {one other:List Pat}(h1:SmP one)(h2:SmP other){v:View}(h:GoodV one other v):OkV v:=⟨by have:=h.len h1 h2;omega,fun n e=>by have:=h.len h1 h2;have:=h.2.1 n e;omega⟩
noncomputable def univ (one other:List Pat):List View:=(begs (one++other)).flatMap fun t=>(none::(pu_ 9).map some).flatMap fun b=>(pu_ 10).flatMap fun i:Nat=>(pu_ 10).map fun j:Nat=>(⟨t,b,(i:Int),(j:Int)⟩:View)
theorem uq_ {α β:Type}{f:α->List β}{n:Nat}:∀{l:List α},(∀ a∈l,(f a).length=n)->(l.flatMap f).length=l.length * n
 | [],_=>by simp
 | a::l,h=>by
  rw[s9_,pg_,h a pm_,uq_ fun b hb=>h b (pj_ _ hb),ps_,w7_,Nat.add_comm]
theorem jot_ {one other:List Pat}(h1:SmP one)(h2:SmP other):(univ one other).length<=161000:=by
 have e:(univ one other).length=(begs (one++other)).length * (10 * (10 * 10)):=by
  refine uq_ fun t _=>?_
  rw[uq_ (n:=10 * 10)]
  ·rfl
  ·intro b _
   rw[uq_ (n:=10)]
   ·rfl
   ·intro i _
    rw[pb_];rfl
 have hb:=ur_ (c:=8) (one++other) [[]] (jcd_ h1 h2)
 have hl:(one++other).length<=20:=by rw[pg_];have:=h1.2.2;have:=h2.2.2;omega
 have hb:(begs (one++other)).length<=1+(one++other).length * 8:=hb
 rw[e]
 omega
theorem GoodV.mem {one other:List Pat}(h1:SmP one)(h2:SmP other){v:View}(h:GoodV one other v):v∈univ one other:=by
 have hl:=h.len h1 h2
 obtain⟨ht,hb,hi,hj⟩:=h
 refine rw_.mpr ⟨v.t,ht,rw_.mpr ⟨v.b,?_,rw_.mpr ⟨v.i.toNat,rl_.mpr (by omega),qb_.mpr ⟨v.j.toNat,rl_.mpr (by omega),View.ext4 rfl rfl (Int.toNat_of_nonneg hi.1) (Int.toNat_of_nonneg hj.1)⟩⟩⟩⟩
 cases e:v.b with
 | none=>exact pm_
 | some n=>exact pj_ _ (qb_.mpr ⟨n,rl_.mpr (by have:=hb n e;omega),rfl⟩)
theorem jnh_ {one other:List Pat}(h1:SmP one)(h2:SmP other){vs:List View}(hn:vs.Nodup)(h:∀ v∈vs,GoodV one other v):vs.length<=161000 :=
 qe_ (jcu_ hn fun v hv=>(h v hv).mem h1 h2) (jot_ h1 h2)
def DoneV (one other:List Pat)(L:List Nat)(ws:List View)(v:View):Prop:=(∀ p∈zc_ one other v,odd2 p=false)/\∀ c∈L,(∀ p∈j2_ one other v c,odd2 p=false)/\∀ v'∈jy_ one other v c,v'∈ws
theorem DoneV.more {one other:List Pat}{L:List Nat}{ws ws':List View}{v:View}(h:DoneV one other L ws v)(hs:∀ x∈ws,x∈ws'):DoneV one other L ws' v:=⟨h.1,fun c hc=>⟨(h.2 c hc).1,fun v' hv=>hs _ ((h.2 c hc).2 v' hv)⟩⟩
structure AllV (one other:List Pat)(L:List Nat)(vs:List View):Prop where
 nd:vs.Nodup
 fst:fstV one other∈vs
 reach:∀ v∈vs,∃ u,Path one other L u v
 done:∀ v∈vs,DoneV one other L vs v
theorem AllV.all {one other:List Pat}{L:List Nat}{vs:List View}(h:AllV one other L vs){u:List Nat}{v:View}(p:Path one other L u v):v∈vs:=by
 induction p with
 | nil=>exact h.fst
 | snoc _ hc hm ih=>exact((h.done _ ih).2 _ hc).2 _ hm
theorem AllV.not {one other:List Pat}{L:List Nat}{vs:List View}(h:AllV one other L vs){w:List Nat}(b:uu_ one other L w):False:=by
 obtain⟨u,v,hp,hb⟩:=b
 have hd:=h.done _ (h.all hp)
 rcases hb with ⟨_,p,hm,ho⟩ | ⟨c,hc,_,p,hm,ho⟩
 ·rw[hd.1 p hm] at ho;cases ho
 ·rw[(hd.2 c hc).1 p hm] at ho;cases ho
noncomputable abbrev abc:List Nat:=LETL
noncomputable def jz_ (xs:List Pat)(c:Nat):Bool:=xs.any fun x=>decide (c∈x.1)
noncomputable def ltr (xs:List Pat):List Nat:=abc.filter (jz_ xs)++(abc.filter fun c=>!(jz_ xs c)).take 1
theorem jkg_ (xs:List Pat):(ltr xs).length<=27:=by
 have h1:=qn_ (jz_ xs) abc
 have h2:abc.length=26:=by decide
 unfold ltr
 rw[pg_,p2_]
 omega
noncomputable def ye_ (xs:List Pat)(t:List Nat)(back:Nat)(i:Int):Int:=xs.foldl (fun m x=>if back<=x.1.length/\x.1 <:+ t then mx m (x.2.getD (x.1.length - back) 0) else m) i
theorem jbh_ (t:List Nat)(back:Nat)(c:Int):∀(xs:List Pat) (i:Int),ye_ xs t back i<=c↔i<=c/\∀ x∈xs,x.1 <:+ t->back<=x.1.length->x.2.getD (x.1.length - back) 0<=c
 | [],i=>⟨fun h=>⟨h,fun x hx=>nomatch hx⟩,fun h=>h.1⟩
 | x::xs,i=>by
  unfold ye_
  rw[w6_]
  have ih:=jbh_ t back c xs
  unfold ye_ at ih
  rw[ih]
  by_cases hc:back<=x.1.length/\x.1 <:+ t
  ·rw[if_pos hc,mx_le]
   refine⟨fun⟨⟨a,b⟩,d⟩=>⟨a,fun y hy h1 h2=>?_⟩,fun⟨a,d⟩=>⟨⟨a,d x pm_ hc.2 hc.1⟩,fun y hy=>d y (pj_ _ hy)⟩⟩
   rcases p0_.mp hy with rfl | hy
   ·exact b
   ·exact d y hy h1 h2
  ·rw[if_neg hc]
   refine⟨fun⟨a,d⟩=>⟨a,fun y hy h1 h2=>?_⟩,fun⟨a,d⟩=>⟨a,fun y hy=>d y (pj_ _ hy)⟩⟩
   rcases p0_.mp hy with rfl | hy
   ·exact absurd ⟨h2,h1⟩ hc
   ·exact d y hy h1 h2
theorem vl_ {xs:List Pat}(hx:∀ x∈xs,x.2.length=x.1.length+1){t T:List Nat}(hT:∀ x∈xs,x.1 <:+ t↔x.1 <:+ T)(back:Nat){i:Int}(hi:0<=i):ye_ xs t back i=tell xs T back i:=by
 unfold tell
 apply tw_
 ·have h:=(ui_ hx T back _).mp (sx_ _)
  exact(jbh_ ..).mpr ⟨mx_l _ _,fun x hm h1 h2=>tc_ (h.2 x hm ((hT x hm).mp h1) h2) (mx_r _ _)⟩
 ·have h:=(jbh_ t back _ xs i).mp (sx_ _)
  exact mx_le.mpr ⟨h.1,(ui_ hx T back _).mpr ⟨tc_ hi h.1,fun x hm h1 h2=>h.2 x hm ((hT x hm).mpr h1) h2⟩⟩
theorem jqc_ {p:List Nat->Prop}(h0:p [])(hs:∀ u c,p u->p (u++[c])):∀ u,p u:=fun u=>by
 rw[<- List.reverse_reverse u]
 induction u.reverse with
 | nil=>exact h0
 | cons c r ih=>rw[List.reverse_cons];exact hs _ _ ih
theorem jai_ {one other:List Pat}(h1:OkP one)(h2:OkP other){rd:List Nat}{c:Nat} :
  jy_ one other (zf_ one other rd none) c=[zf_ one other (rd++[c]) none,zf_ one other (rd++[c]) (some rd.length)]:=by
 have hn:=jbr_ (c:=c) h1 h2 (rd:=rd) (g:=none) fun n e=>nomatch e
 have hs:yt_ one other (zf_ one other rd none) c=false:=decide_eq_false (s1_ _)
 unfold jy_
 rw[if_neg (by rw[hs];exact pi_),if_pos (show (zf_ one other rd none).b=none from rfl),hn]
 rfl
theorem jgo_ {one other:List Pat}(h1:OkP one)(h2:OkP other){rd:List Nat}{c n:Nat}(hn:n+1<=rd.length) :
  jy_ one other (zf_ one other rd (some n)) c=[zf_ one other (rd++[c]) (some n)] ∨
  ((jp_ (begs (one++other)) (rd++[c])).length+(n+1) < (rd++[c]).length/\j2_ one other (zf_ one other rd (some n)) c=[(numA (rd++[c]) (n+1) 0 one,numA (rd++[c]) (n+1) 0 other)]):=by
 have hx:=jbr_ (c:=c) h1 h2 (rd:=rd) (g:=some n) fun m e=>by cases e;exact hn
 cases hs:yt_ one other (zf_ one other rd (some n)) c with
 | false =>
  refine .inl ?_
  unfold jy_
  rw[if_neg (by rw[hs];exact pi_),if_neg (show ¬ (zf_ one other rd (some n)).b=none by intro z;cases z),hx]
  rfl
 | true =>
  refine .inr ⟨?_,?_⟩
  ·unfold yt_ at hs
   have hs:=of_decide_eq_true hs
   rw[hx] at hs
   have hs:(jp_ (begs (one++other)) (rd++[c])).length < rd.length - n - 1+1:=hs
   rw[pg_,p8_]
   omega
  ·unfold j2_
   rw[if_pos hs,hx]
   rfl
theorem jmd_ {one other:List Pat}{L:List Nat}(h1:OkP one)(h2:OkP other)(u:List Nat):(∀ c∈u,c∈L)->Path one other L u (zf_ one other (46::u) none):=by
 refine jqc_ (p:=fun u=>(∀ c∈u,c∈L)->Path one other L u (zf_ one other (46::u) none)) (fun _=>.nil) (fun u c ih hu=>?_) u
 have hp:=ih fun d hd=>hu d (pe_.mpr (.inl hd))
 refine .snoc hp (hu c (pe_.mpr (.inr (ph_.mpr rfl)))) ?_
 rw[jai_ h1 h2]
 exact pm_
theorem jnz_ {one other:List Pat}{L:List Nat}(h1:OkP one)(h2:OkP other){w:List Nat}(hw:∀ c∈w,c∈L)(hb:∀ u,¬ uu_ one other L u){g:Nat}(hg1:1<=g)(hg2:g < w.length) :
  numA (frame w) (g+1) 0 one % 2=numA (frame w) (g+1) 0 other % 2:=by
 have hfr:∀ m,m<=w.length->frame w=(46::w.take m)++(w.drop m++[46]):=fun m _=>by
  unfold frame
  rw[ss_,<- r6_,List.take_append_drop]
 have key:∀ k,g+k<=w.length->numA (frame w) (g+1) 0 one % 2=numA (frame w) (g+1) 0 other % 2∨Path one other L (w.take (g+k)) (zf_ one other (46::w.take (g+k)) (some g)):=by
  intro k
  induction k with
  | zero =>
   intro hk
   right
   obtain⟨j,rfl⟩:∃ j,g=j+1:=⟨g - 1,by omega⟩
   have hj:j < w.length:=by omega
   have ht:w.take (j+1+0)=w.take j++[w[j]]:=by rw[Nat.add_zero,p3_,pa_ hj];rfl
   rw[ht]
   refine .snoc (jmd_ h1 h2 (w.take j) fun c hc=>hw c (ql_ hc)) (hw _ (px_ hj)) ?_
   rw[jai_ h1 h2]
   have hl:(46::w.take j).length=j+1:=by rw[ps_,p2_];omega
   rw[hl]
   exact pj_ _ pm_
  | succ k ih =>
   intro hk
   rcases ih (by omega) with e | hp
   ·exact .inl e
   ·have hm:g+k < w.length:=by omega
    have ht:w.take (g+(k+1))=w.take (g+k)++[w[g+k]]:=by rw[<- Nat.add_assoc,p3_,pa_ hm];rfl
    have hl:(46::w.take (g+k)).length=g+k+1:=by rw[ps_,p2_];omega
    have hc:=hw _ (px_ hm)
    rw[ht]
    rcases jgo_ h1 h2 (rd:=46::w.take (g+k)) (c:=w[g+k]) (n:=g) (by omega) with e | ⟨hs,e⟩
    ·refine .inr (.snoc hp hc ?_)
     rw[e]
     exact ph_.mpr rfl
    ·left
     have hf:frame w=(46::w.take (g+k)++[w[g+k]])++(w.drop (g+(k+1))++[46]):=by rw[hfr (g+(k+1)) hk,ht];rfl
     have e1:=jab_ (ys:=one++other) h1.len h1.ne (fun x hx=>pe_.mpr (.inl hx)) (rest:=w.drop (g+(k+1))++[46]) hs
     have e2:=jab_ (ys:=one++other) h2.len h2.ne (fun x hx=>pe_.mpr (.inr hx)) (rest:=w.drop (g+(k+1))++[46]) hs
     rw[hf,e1,e2]
     apply wb_
     intro hne
     exact hb _ ⟨_,_,hp,.inr ⟨_,hc,rfl,_,by rw[e];exact ph_.mpr rfl,odd2_iff.mpr hne⟩⟩
 rcases key (w.length - g) (by omega) with e | hp
 ·exact e
 ·rw[show g+(w.length - g)=w.length by omega,py_] at hp
  have hl:(46::w).length=w.length+1:=rfl
  obtain⟨n,hn⟩:∃ n,(46::w).length - g - 1=n+1:=⟨w.length - g - 1,by omega⟩
  have hla:=jqh_ h1 h2 (rd:=46::w) (g:=g) (by omega) hn
  apply wb_
  intro hne
  exact hb _ ⟨_,_,hp,.inl ⟨rfl,_,by rw[hla];exact ph_.mpr rfl,odd2_iff.mpr hne⟩⟩
theorem jcn_ {one other:List Pat}{L:List Nat}(h1:OkP one)(h2:OkP other){w:List Nat}(hw:∀ c∈w,c∈L)(hb:∀ u,¬ uu_ one other L u):(vals one w).map (· % 2)=(vals other w).map (· % 2):=by
 unfold L2.vals
 rw[q1_,q1_]
 refine sc_ fun j hj=>?_
 have hj:=rl_.mp hj
 exact jnz_ h1 h2 hw hb (g:=j+1) (by omega) (by omega)
noncomputable def rep (xs:List Pat)(s c:Nat):Nat:=if c=46∨jz_ xs c=true then c else s
theorem jnx_ {xs:List Pat}{s:Nat}(hs:jz_ xs s=false):∀{l p:List Nat},(∀ d∈p,jz_ xs d=true)->(l.map (rep xs s)=p↔l=p)
 | [],p,_=>by simp
 | c::l,[],_=>by simp
 | c::l,d::p,h=>by
  have ih:=jnx_ hs (l:=l) (p:=p) fun e he=>h e (pj_ _ he)
  have hd:=h d pm_
  rw[pp_,ke_,ke_,ih]
  have hc:rep xs s c=d↔c=d:=by
   unfold rep
   split
   ·exact Iff.rfl
   ·rename_i hn
    refine⟨fun e=>?_,fun e=>?_⟩
    ·rw[<- e,hs] at hd;cases hd
    ·rw[e] at hn;exact absurd (.inr hd) hn
  rw[hc]
theorem jrq_ {xs:List Pat}{x:Pat}(hx:x∈xs){s:Nat}(hs:jz_ xs s=false)(f:List Nat)(b:Nat):fits x.1 (f.map (rep xs s)) b=fits x.1 f b:=by
 unfold fits
 rw[pb_,<- kz_,<- tn_]
 congr 1
 rw[qt_,beq_iff_eq,beq_iff_eq]
 exact jnx_ hs fun d hd=>q4_.mpr ⟨x,hx,decide_eq_true hd⟩
theorem jhm_ {xs:List Pat}{s:Nat}(hs:jz_ xs s=false)(f:List Nat)(p:Nat):∀{ys:List Pat},(∀ y∈ys,y∈xs)->∀ m,numA (f.map (rep xs s)) p m ys=numA f p m ys
 | [],_,_=>rfl
 | y::ys,h,m=>by
  have hp:xb_ y.1 (f.map (rep xs s))=xb_ y.1 f:=by
   unfold xb_
   rw[pb_]
   exact List.filter_congr fun b _=>jrq_ (h y pm_) hs f b
  have e:numP (f.map (rep xs s)) p m y=numP f p m y:=by unfold numP;rw[hp]
  show numA (f.map (rep xs s)) p (numP (f.map (rep xs s)) p m y) ys=numA f p (numP f p m y) ys
  rw[e]
  exact jhm_ hs f p (fun z hz=>h z (pj_ _ hz)) _
theorem jgu_ {xs:List Pat}{s:Nat}(hs:jz_ xs s=false)(w:List Nat){ys:List Pat}(h:∀ y∈ys,y∈xs):vals ys (w.map (rep xs s))=vals ys w:=by
 have hf:frame (w.map (rep xs s))=(frame w).map (rep xs s):=by
  have h46:rep xs s 46=46:=if_pos (.inl rfl)
  unfold frame
  rw[pp_,pk_,pp_,p7_,h46]
 unfold L2.vals
 rw[pb_]
 refine sc_ fun j _=>?_
 rw[hf]
 exact jhm_ hs _ _ h 0
theorem jql_ {one other:List Pat}(h1:OkP one)(h2:OkP other)(hb:∀ u,¬ uu_ one other (ltr (one++other)) u){w:List Nat}(hw:∀ c∈w,c∈LETL):(vals one w).map (· % 2)=(vals other w).map (· % 2):=by
 cases hS:abc.filter fun c=>!(jz_ (one++other) c) with
 | nil =>
  refine jcn_ h1 h2 (fun c hc=>pe_.mpr (.inl (r3_.mpr ⟨hw c hc,?_⟩))) hb
  have:=w1_.mp hS c (hw c hc)
  simpa using this
 | cons s r =>
  have hsm:s∈abc.filter fun c=>!(jz_ (one++other) c):=by rw[hS];exact pm_
  have hs:jz_ (one++other) s=false:=by simpa using (r3_.mp hsm).2
  have e:=jcn_ h1 h2 (w:=w.map (rep (one++other) s)) (fun c hc=>?_) hb
  ·rwa [jgu_ hs w fun y hy=>pe_.mpr (.inl hy),jgu_ hs w fun y hy=>pe_.mpr (.inr hy)] at e
  ·obtain⟨d,hd,rfl⟩:=qb_.mp hc
   have hdl:=hw d hd
   unfold rep
   split
   ·rename_i h
    rcases h with h | h
    ·rw[h] at hdl;exact absurd hdl (by decide)
    ·exact pe_.mpr (.inl (r3_.mpr ⟨hdl,h⟩))
   ·exact pe_.mpr (.inr (by rw[hS];exact pm_))
def Sm (one other:List Pat):Prop:=∀ u,¬ uu_ one other (ltr (one++other)) u
noncomputable def sel (xs:List Pat)(ks:List Nat):List Pat:=ks.map fun k=>xs.getD k ([],[])
open Classical in
noncomputable def stp (xs:List Pat)(left:List Nat)(n:Nat):List Nat:=if Sm (sel xs left) (sel xs (left.erase n)) then left.erase n else left
noncomputable def rnd (xs:List Pat)(left ns:List Nat):List Nat:=ns.foldl (stp xs) left
noncomputable def rd1 (xs:List Pat)(ks:List Nat):List Nat:=rnd xs ks ks
theorem jlw_ (xs:List Pat)(left:List Nat)(n:Nat):qj_ (stp xs left n) left:=by
 unfold stp
 split
 ·exact t6_
 ·exact r9_ _
theorem xr_ (xs:List Pat):∀(ns left:List Nat),qj_ (rnd xs left ns) left
 | [],left=>r9_ _
 | n::ns,left=>(xr_ xs ns (stp xs left n)).trans (jlw_ xs left n)
theorem jgl_ (xs:List Pat)(left ns:List Nat)(n:Nat):rnd xs left (ns++[n])=stp xs (rnd xs left ns) n:=by
 unfold rnd
 rw[rg_];rfl
theorem jlz_ {xs:List Pat}{left:List Nat}{n m:Nat}(hm:m∈left)(hn:m≠n):m∈stp xs left n:=by
 unfold stp
 split
 ·exact(kl_ hn).mpr hm
 ·exact hm
theorem jdj_ {xs:List Pat}{m:Nat}:∀{ns left:List Nat},m∈left->m∉ns->m∈rnd xs left ns
 | [],_,h,_=>h
 | n::ns,left,h,hn=>jdj_ (ns:=ns) (jlz_ h fun e=>hn (by rw[e];exact pm_)) fun e=>hn (pj_ _ e)
noncomputable def itr (xs:List Pat):Nat->List Nat->List Nat
 | 0,x=>x
 | k+1,x=>rd1 xs (itr xs k x)
def Left (xs:List Pat)(x0 r:List Nat):Prop:=(∃ k,r=itr xs k x0)/\rd1 xs r=r
theorem jfc_ {xs:List Pat}{r:List Nat}(h:rd1 xs r=r):∀ k,itr xs k r=r
 | 0=>rfl
 | k+1=>by show rd1 xs (itr xs k r)=r;rw[jfc_ h k];exact h
theorem jey_ {xs:List Pat}{x:List Nat}(j:Nat):∀ k,itr xs (k+j) x=itr xs k (itr xs j x)
 | 0=>by rw[la_];rfl
 | k+1=>by
  rw[Nat.succ_add]
  show rd1 xs (itr xs (k+j) x)=rd1 xs (itr xs k (itr xs j x))
  rw[jey_ j k]
theorem Left.one {xs:List Pat}{x0 r r':List Nat}(h:Left xs x0 r)(h':Left xs x0 r'):r=r':=by
 obtain⟨⟨k,hk⟩,hf⟩:=h
 obtain⟨⟨k',hk'⟩,hf'⟩:=h'
 rcases Nat.le_total k k' with hle | hle
 ·obtain⟨d,rfl⟩:=wj_ hle
  rw[hk',jey_,<- hk,jfc_ hf]
 ·obtain⟨d,rfl⟩:=wj_ hle
  rw[hk,jey_,<- hk',jfc_ hf']
def Alk (one other:List Pat):Prop:=∀ w,(∀ c∈w,c∈LETL)->(vals one w).map (· % 2)=(vals other w).map (· % 2)
theorem jsm_ {xs:List Pat}{left:List Nat}{n:Nat}(h1:OkP (sel xs left))(h2:OkP (sel xs (left.erase n))):Alk (sel xs left) (sel xs (stp xs left n)):=by
 unfold stp
 split
 ·rename_i hs
  intro w hw
  exact jql_ h1 h2 hs hw
 ·exact fun _ _=>rfl
noncomputable abbrev s_letters_to_read:Stmt:=top 8
theorem sc_letters_to_read:FnScope ["patterns","signs","standing","strange"] ["patterns"] (jm_ s_letters_to_read):=by walk_at "f"
noncomputable abbrev s_steps_from:Stmt:=top 9
theorem sc_steps_from:FnScope ["sight","letters","view","word","steps","letter"] ["sight","letters","view","word"] (jm_ s_steps_from):=by walk_at "f"
noncomputable abbrev s_breaks_otherwise:Stmt:=top 10
theorem sc_breaks_otherwise:FnScope ["pairs"] ["pairs"] (jm_ s_breaks_otherwise):=by walk_at "f"
noncomputable abbrev s_apart:Stmt:=top 11
theorem sc_apart:FnScope ["one","other","sight","letters","words","waiting","view","word","step","later"] ["one","other"] (jm_ s_apart):=by walk_at "f"
noncomputable def jhl_ (xs:List Pat):List Nat:=xx_ [] (xs.map (·.1))
theorem jct_ {c:Nat}:∀{ls:List (List Nat)},c∈xx_ [] ls↔∃ l∈ls,c∈l
 | []=>by simp[xx_]
 | [a]=>by simp[xx_]
 | a::b::r=>by
  have ih:=jct_ (c:=c) (ls:=b::r)
  simp only[xx_,qq_,pe_,ih,p0_]
  simp
theorem jkr_ {xs:List Pat}{c:Nat}:decide (c∈jhl_ xs)=jz_ xs c:=by
 unfold jhl_ jz_
 rw[qt_,decide_eq_true_iff,jct_,q4_]
 simp
theorem jtm_ {xs:List Pat}(h:∀ x∈xs,x.1.length<=22):((xs.map fun x=>S x.1).map (·.length)).sum<=xs.length * 22:=by
 induction xs with
 | nil=>simp
 | cons x r ih =>
  have:=ih fun y hy=>h y (pj_ _ hy)
  have hx:=h x pm_
  simp only[pp_,List.sum_cons,js_,ps_] at this ⊢
  omega
theorem jeo_ {α:Type}(l:List α)(j:Nat)(h:j<=l.length):cutA l none (some (j:Int))=l.take j:=jcx_ l 0 j h (qz_ _)
theorem jbj_ (xs:List V):cutV xs none (some 1)=xs.take 1:=by
 cases xs with
 | nil=>rfl
 | cons x r =>
  rw[xq_]
  exact jeo_ (x::r) 1 (by rw[ps_];omega)
def jdw_:Sp:=fun vs H Q _=>∃(b:Addr) (ys:List V) (xs:List Pat),vs=[.ref b]/\H b=some (.lst ys)/\L2.IsL H ys (xs.map patD)/\(∀ x∈xs,x.1.length<=22)/\xs.length<=200 /\
 ∀(r:Addr) (H':Hp),H r=none->H' r=some (.lst ((ltr xs).map fun c=>V.str (S [c])))->Same H H'->Q (.ref r) H'
theorem jv_ {H H':Hp}{r:Addr}{x:HO}(hr:H r=none)(s:Same H H'):Same H (upd H' r x):=fun b o e=>by
 have hb:b≠r:=fun z=>by rw[z,hr] at e;cases e
 rw[ji_ hb];exact s b o e
section
variable {P:Program}{w:World}{K:pc_}{mg:Str->Option Value}{base:Heap}{f:Addr}{fd:FuncData}{tk:Nat->Tok}{cO:Addr}
theorem v5_ (T:Txt mg tk)(F:Fun K "letters_to_read" "letters_to_read" s_letters_to_read f fd):FnOk P w K mg base CX0 1 f fd ["patterns"] jdw_:=by
 refine F.ok sc_letters_to_read (fun vs H Q E h=>?_) (fun cdv A outer s H vs Q E hr h=>?_)
 ·obtain⟨b,ys,xs,rfl,_⟩:=h
  rfl
 obtain⟨b,ys,xs,rfl,hb,hys,hxs,hxl,q⟩:=h
 have nd:=sc_letters_to_read.nd
 have hyl:ys.length=xs.length:=by have:=hys.length;simpa using this
 refine⟨_,(jf_ (jl_ (i:=1) nd rfl (Or.inr rfl) (yg_ (K:=K) sh_ tf_ tg_ jfl_ zh_ (ja_ (zs_ ["pattern"] [none] rfl (by kernel_rfl) rfl (j9_ (K:=K) (pv 0)) (fun _ _ _ _=>(jn_ (i:=0) (show (["pattern"]:List Str).Nodup by decide +kernel) rfl (Or.inl rfl) (Or.inr rfl))) (fun _ _ _ _=>zn_) (fun _ _ _ _=>(jj_ (jh_ (K:=K)) (pv 0) jd_ (fun _ _=>rfl)))) je_)))
  (jf_ (xn_ (i:=2) ["signs","letter"] [some 1,none] rfl (by kernel_rfl) rfl nd rfl rfl (j9_ (K:=K) (jkx_ (v:=.str "abcdefghijklmnopqrstuvwxyz") rfl T.m_LETTERS ⟨_,rfl⟩)) (fun _ _ _ _=>(jn_ (i:=1) (show (["signs","letter"]:List Str).Nodup by decide +kernel) rfl (Or.inl rfl) (Or.inr rfl))) (fun _ _ _ _=>(vh_ (ju_ o_in (pv 1) (pv 0) (by with_unfolding_all rfl)))) (fun _ _ _ _=>(pv 1)))
  (jf_ (xn_ (i:=3) ["signs","letter"] [some 1,none] rfl (by kernel_rfl) rfl nd rfl rfl (j9_ (K:=K) (jkx_ (v:=.str "abcdefghijklmnopqrstuvwxyz") rfl T.m_LETTERS ⟨_,rfl⟩)) (fun _ _ _ _=>(jn_ (i:=1) (show (["signs","letter"]:List Str).Nodup by decide +kernel) rfl (Or.inl rfl) (Or.inr rfl))) (fun _ _ _ _=>(vh_ (ju_ jky_ (pv 1) (pv 0) (by with_unfolding_all rfl)))) (fun _ _ _ _=>(pv 1)))
  (jg_ (jt_ (jk_ jx_ (pv 2) (zj_ (z7_ (K:=K)) (pv 3) z6_ (zk_ jd_)))))))),?_⟩
 rw[show L2.j7_ ["patterns","signs","standing","strange"] [.ref b]=[some (.ref b),none,none,none] from rfl]
 rw[xc_]
 walk_at "go"
 intro r1 hr1
 refine j8_ (K:=K) (xs:=ys) (fun i acc σ H'=>∃ v,σ=[v]/\acc=((xs.take i).map fun x=>S x.1).map V.str/\H' r1=some (.lst acc)/\Same H H') (fun i acc σ H' _ ⟨_,_,_,_,s⟩=>SqL.of (s _ _ hb))
  ⟨none,rfl,rfl,jb_,jc_ hr1 _⟩ (fun i acc σ H' ⟨_,_,e,e2,_⟩=>⟨e2,by rw[e];simp;omega⟩) (szn (by omega)) ?_ ?_
 ·rintro i acc σ H2 hi ⟨v,rfl,rfl,e2,s2⟩
  rw[hyl] at hi
  obtain⟨y,d,hy,hd1,hI⟩:=IsL.get (IsL.same s2 hys) (show i < (xs.map patD).length by simpa using hi)
  rw[pl_,pa_ hi] at hd1
  cases hd1
  obtain⟨a2,t2,rfl,ea2,et2⟩:=vt_ hI
  rw[pf_,hy,se_]
  walk_at "go"
  refine⟨e2,_,rfl,?_,jb_,jv_ hr1 s2⟩
  rw[p3_,pa_ hi,pk_,pk_];rfl
 ·rintro acc σ H2 ⟨v,rfl,rfl,e2,s2⟩
  rw[hyl,py_] at e2
  walk_at "go"
  refine jje_ (ys:=xs.map fun x=>S x.1) (ym_ e2) (by have:=jtm_ hxs;rw[js_];simp only[qm_,lb_];omega) ?_
  have hj:kx_ (S []) (xs.map fun x=>S x.1)=S (jhl_ xs):=by
   have:=jqq_ [] (xs.map (·.1))
   rw[q1_] at this
   exact this
  rw[hj]
  walk_at "go"
  intro r2 hr2
  have hr2H:H r2=none:=s2.free hr2
  rw[jpp_]
  have hLL:LETL.length=26:=rfl
  refine un_ (fun i acc σ H'=>∃ v,σ=[some (.str (S (jhl_ xs))),v]/\acc=((LETL.take i).filter (jz_ xs)).map (fun c=>V.str (S [c]))/\H' r2=some (.lst acc)/\Same H H')
   ⟨none,rfl,rfl,jb_,s2.trans (jc_ hr2 _)⟩ (fun i acc σ H' ⟨_,_,e,e2,_⟩=>⟨e2,by rw[e,pb_];refine qe_ (qn_ _ _) ?_;rw[p2_];omega⟩) (szn (by rw[zi_,js_];decide)) ?_ ?_
  ·rintro i acc σ H3 hi ⟨v,rfl,rfl,e3,s3⟩
   rw[zi_,js_] at hi
   rw[jao_ hi]
   walk_at "go"
   rw[v7_,jkr_,Bool.false_xor]
   have ht:LETL.take (i+1)=LETL.take i++[LETL[i]]:=by rw[p3_,pa_ hi];rfl
   by_cases hc:jz_ xs LETL[i]=true
   ·rw[hc]
    walk_at "go"
    refine⟨e3,_,rfl,?_,jb_,jv_ hr2H s3⟩
    rw[ht,qo_,qw_ hc,pk_];rfl
   ·rw[rv_] at hc
    rw[hc]
    walk_at "go"
    refine⟨_,rfl,?_,e3,s3⟩
    rw[ht,qo_,q0_ (by rw[hc];exact pi_),rq_,qq_]
  ·rintro acc σ H3 ⟨v,rfl,rfl,e3,s3⟩
   rw[zi_,js_,py_] at e3
   walk_at "go"
   intro r3 hr3
   have hr3H:H r3=none:=s3.free hr3
   have hn32:r2≠r3:=fun z=>by rw[<- z,e3] at hr3;cases hr3
   refine un_ (fun i acc σ H'=>∃ v,σ=[some (.str (S (jhl_ xs))),v]/\acc=((LETL.take i).filter fun c=>!(jz_ xs c)).map (fun c=>V.str (S [c]))/\H' r3=some (.lst acc)/\Same H H'/\H' r2=some (.lst ((LETL.filter (jz_ xs)).map (fun c=>V.str (S [c])))))
    ⟨none,rfl,rfl,jb_,s3.trans (jc_ hr3 _),by rw[ji_ hn32];exact e3⟩ (fun i acc σ H' ⟨_,_,e,e2,_,_⟩=>⟨e2,by rw[e,pb_];refine qe_ (qn_ _ _) ?_;rw[p2_];omega⟩) (szn (by rw[zi_,js_];decide)) ?_ ?_
   ·rintro i acc σ H4 hi ⟨v,rfl,rfl,e4,s4,e42⟩
    rw[zi_,js_] at hi
    rw[jao_ hi]
    walk_at "go"
    rw[v7_,jkr_,Bool.true_xor]
    have ht:LETL.take (i+1)=LETL.take i++[LETL[i]]:=by rw[p3_,pa_ hi];rfl
    by_cases hc:(!(jz_ xs LETL[i]))=true
    ·rw[hc]
     walk_at "go"
     refine⟨e4,_,rfl,?_,jb_,jv_ hr3H s4,by rw[ji_ hn32];exact e42⟩
     rw[ht,qo_,qw_ (p:=fun c=>!(jz_ xs c)) hc,pk_];rfl
    ·rw[rv_] at hc
     rw[hc]
     walk_at "go"
     refine⟨_,rfl,?_,e4,s4,e42⟩
     rw[ht,qo_,q0_ (p:=fun c=>!(jz_ xs c)) (by rw[hc];exact pi_),rq_,qq_]
   ·rintro acc σ H4 ⟨v,rfl,rfl,e4,s4,e42⟩
    rw[zi_,js_,py_] at e4
    walk_at "go"
    refine vq_ (SqL.of e4) fun r5 hr5=>?_
    have hn52:r2≠r5:=fun z=>by rw[<- z,e42] at hr5;cases hr5
    walk_at "go"
    refine yh_ (by rw[ji_ hn52];exact e42) jb_ (szn (by
     have h1:=qn_ (jz_ xs) LETL
     have h2:=qn_ (fun c=>!(jz_ xs c)) LETL
     have h3:=yb_ ((LETL.filter fun c=>!(jz_ xs c)).map fun c=>V.str (S [c])) none (some 1)
     rw[pb_] at h3 ⊢
     omega)) fun r6 hr6=>?_
    have s5:=s4.trans (jc_ hr5 (.lst (cutV ((LETL.filter fun c=>!(jz_ xs c)).map fun c=>V.str (S [c])) none (some 1))))
    walk_at "go"
    refine q r6 _ (s5.free hr6) ?_ (s5.trans (jc_ hr6 _))
    rw[jb_,jbj_]
    unfold ltr
    rw[pk_,tn_]
end
noncomputable abbrev Step:Type:=List Nat×List View×List (Int×Int)
noncomputable def jbz_ (x:Step):Dt:=.tup [.str (S x.1),.tup [.lst (x.2.1.map z3_),.lst (x.2.2.map yd_)]]
noncomputable def zx_ (one other:List Pat)(L u:List Nat)(v:View):List Step:=(u,[],zc_ one other v)::L.map fun c=>(u++[c],jy_ one other v c,j2_ one other v c)
theorem zp_ {H:Hp}{a:Addr}{ys:List V}{ds:List Dt}(h:H a=some (.lst ys))(h2:L2.IsL H ys ds):Is H (.ref a) (.lst ds):=by
 simp only[Is]
 exact⟨a,ys,rfl,h,h2⟩
theorem juy_ {H:Hp}{v:V}{ds:List Dt}(h:Is H v (.lst ds)):∃ a ys,v=.ref a/\H a=some (.lst ys)/\L2.IsL H ys ds:=by
 simp only[Is] at h
 exact h
theorem jde_ {H:Hp}{a:Addr}{x y:V}{d e:Dt}(h:H a=some (.tup [x,y]))(h1:Is H x d)(h2:Is H y e):Is H (.ref a) (.tup [d,e]):=by
 simp only[Is]
 exact⟨a,_,rfl,h,by simp only[L2.IsL];exact⟨h1,h2,trivial⟩⟩
theorem jrg_ {H:Hp}{v:V}{d e:Dt}(h:Is H v (.tup [d,e])):∃ a x y,v=.ref a/\H a=some (.tup [x,y])/\Is H x d/\Is H y e:=by
 simp only[Is] at h
 obtain⟨a,ys,rfl,ha,hy⟩:=h
 match ys,hy with
 | [x,y],hy =>
  simp only[L2.IsL] at hy
  exact⟨a,x,y,rfl,ha,hy.1,hy.2.1⟩
theorem jzg_ {H:Hp}{v:V}{z:Str}(h:Is H v (.str z)):v=.str z:=by
 simp only[Is] at h
 exact h
theorem jxh_ {H:Hp}{v:V}{x:Step}(h:Is H v (jbz_ x)):∃ a b lv lp ys zs,v=.ref a/\H a=some (.tup [.str (S x.1),.ref b])/\H b=some (.tup [.ref lv,.ref lp])/\H lv=some (.lst ys)/\H lp=some (.lst zs)/\L2.IsL H ys (x.2.1.map z3_)/\L2.IsL H zs (x.2.2.map yd_):=by
 obtain⟨a,y,z,rfl,ha,h1,h2⟩:=jrg_ h
 obtain⟨b,y2,z2,rfl,hb,h3,h4⟩:=jrg_ h2
 obtain⟨lv,ys,rfl,h5,h6⟩:=juy_ h3
 obtain⟨lp,zs,rfl,h7,h8⟩:=juy_ h4
 cases jzg_ h1
 exact⟨a,b,lv,lp,ys,zs,rfl,ha,hb,h5,h7,h6,h8⟩
noncomputable def less (H0:Hp)(r:Addr)(H:Hp):Hp:=fun b=>if b=r then none else match H0 b with
 | some (.lst _)=>none
 | _=>H b
theorem jfn_ {H0:Hp}{r b:Addr}{H:Hp}(h:b≠r)(h0:∀ xs,H0 b≠some (.lst xs)):less H0 r H b=H b:=by
 unfold less
 rw[if_neg h]
 split
 ·rename_i xs e;exact absurd e (h0 xs)
 ·rfl
theorem jmb_ (H0:Hp)(r:Addr)(H:Hp):Same (less H0 r H) H:=fun b o e=>by
 unfold less at e
 split at e
 ·cases e
 ·split at e
  ·cases e
  ·exact e
theorem jpj_ {H0:Hp}{r b:Addr}{H:Hp}{xs:List V}(h:H0 b=some (.lst xs)):less H0 r H b=none:=by
 unfold less
 rw[h]
 split <;> rfl
theorem jpl_ {H0:Hp}{r:Addr}{H:Hp}{x:HO}:less H0 r (upd H r x)=less H0 r H:=by
 funext b
 unfold less
 split
 ·rfl
 ·rename_i hb;rw[ji_ hb]
theorem jnm_ {H0:Hp}{r:Addr}{H H':Hp}(s:Same H H'):Same (less H0 r H) (less H0 r H'):=fun b o e=>by
 unfold less at e ⊢
 split at e
 ·cases e
 ·rename_i hb
  rw[if_neg hb]
  split at e
  ·cases e
  ·exact s b o e
theorem jsw_ {H0:Hp}{r:Addr}{H:Hp}{xs:List V}(h:H r=some (.lst xs))(s:Same H0 H):Tk H (less H0 r H):=fun b ys e=>by
 have hb:b≠r:=fun z=>by rw[z,h] at e;cases e
 rw[jfn_ hb fun zs z=>by have:=s _ _ z;rw[e] at this;cases this];exact e
theorem v0_ (vs:List View):z9_ (vs.map z3_)=true:=by
 induction vs with
 | nil=>rfl
 | cons v r ih =>
  rw[pp_]
  have:xz_ (z3_ v)=true:=by cases e:v.b <;> simp[z3_,bD,e,xz_,z9_]
  simp[z9_,this,ih]
theorem jjp_ (ps:List (Int×Int)):z9_ (ps.map yd_)=true:=by
 induction ps with
 | nil=>rfl
 | cons v r ih =>
  rw[pp_]
  have:xz_ (yd_ v)=true:=by simp[yd_,xz_,z9_]
  simp[z9_,this,ih]
theorem jdv_ {H0:Hp}{r a b lv lp:Addr}{H:Hp}{rs ys zs:List V}{x:Step}(hr:H r=some (.lst rs))(s:Same H0 H)(ha:H a=some (.tup [.str (S x.1),.ref b]))(hb:H b=some (.tup [.ref lv,.ref lp]))(hv:H lv=some (.lst ys))(hp:H lp=some (.lst zs))(n1:lv≠r)(n2:lp≠r)(m1:H0 lv=none)(m2:H0 lp=none)
  (h1:L2.IsL H ys (x.2.1.map z3_)) (h2:L2.IsL H zs (x.2.2.map yd_)):Is (less H0 r H) (.ref a) (jbz_ x):=by
 have t:=jsw_ hr s
 refine jde_ (t _ _ ha) (by simp only[Is]) (jde_ (t _ _ hb) (zp_ (by rw[jfn_ n1 (fun xs z=>by rw[m1] at z;cases z)];exact hv) (IsL.tk t (v0_ _) h1)) (zp_ (by rw[jfn_ n2 (fun xs z=>by rw[m2] at z;cases z)];exact hp) (IsL.tk t (jjp_ _) h2)))
def jec_ (C:Addr):Sp:=fun vs H Q _=>∃(p lb va:Addr) (one other:List Pat) (L u:List Nat) (v:View),vs=[.ref p,.ref lb,.ref va,.str (S u)]/\SightAt C H p one other/\OkP one/\OkP other/\OkV v /\
 H va=some (.tup [.str (S v.t),bV v.b,.int v.i,.int v.j])/\H lb=some (.lst (L.map fun c=>V.str (S [c])))/\L.length<=27/\u.length<=500000 /\
 ∀(r:Addr) (zs:List V) (H':Hp),H r=none->H' r=some (.lst zs)->L2.IsL (less H r H') zs ((zx_ one other L u v).map jbz_)->Same H H'->Q (.ref r) H'
def x6_:Sp:=fun vs H Q _=>∃(lp:Addr) (us:List V) (ps:List (Int×Int)),vs=[.ref lp]/\H lp=some (.lst us)/\L2.IsL H us (ps.map yd_)/\ps.length<=1000/\∀ H',Same H H'->Q (.bl (ps.any odd2)) H'
section
variable {P:Program}{w:World}{K:pc_}{mg:Str->Option Value}{base:Heap}{f:Addr}{fd:FuncData}{tk:Nat->Tok}{cO:Addr}
theorem vo_ (T:Txt mg tk)(F:Fun K "breaks_otherwise" "breaks_otherwise" s_breaks_otherwise f fd):FnOk P w K mg base CX0 1 f fd ["pairs"] x6_:=by
 refine F.ok sc_breaks_otherwise (fun vs H Q E h=>?_) (fun cdv A outer s H vs Q E hr h=>?_)
 ·obtain⟨lp,us,ps,rfl,_⟩:=h
  rfl
 obtain⟨lp,us,ps,rfl,hl,hus,hpl,q⟩:=h
 have nd:=sc_breaks_otherwise.nd
 have hyl:us.length=ps.length:=by have:=hus.length;simpa using this
 refine⟨_,(jg_ (jt_ (jo_ (jlm_ rfl) rfl T.z_any (by decide +kernel) (ja_ (zs_ ["pair"] [none] rfl (by kernel_rfl) rfl (j9_ (K:=K) (pv 0)) (fun _ _ _ _=>(jn_ (i:=0) (show (["pair"]:List Str).Nodup by decide +kernel) rfl (Or.inl rfl) (Or.inr rfl))) (fun _ _ _ _=>zn_) (fun _ _ _ _=>(jat_ (o_ne hr.units) (jk_ yf_ (jj_ (jh_ (K:=K)) (pv 0) jd_ (fun _ _=>rfl)) jd_) (jk_ yf_ (jj_ (jh_ (K:=K)) (pv 0) jd_ (fun _ _=>rfl)) jd_) (j6_ _)))) je_)))),?_⟩
 rw[show L2.j7_ ["pairs"] [.ref lp]=[some (.ref lp)] from rfl]
 walk_at "go"
 intro r hr0
 refine j8_ (K:=K) (xs:=us) (fun i acc σ H'=>∃ v,σ=[v]/\acc=((ps.take i).map odd2).map V.bl/\H' r=some (.lst acc)/\Same H H') (fun i acc σ H' _ ⟨_,_,_,_,s⟩=>SqL.of (s _ _ hl))
  ⟨none,rfl,rfl,jb_,jc_ hr0 _⟩ (fun i acc σ H' ⟨_,_,e,e2,_⟩=>⟨e2,by rw[e];simp;omega⟩) (szn (by omega)) ?_ ?_
 ·rintro i acc σ H2 hi ⟨v,rfl,rfl,e2,s2⟩
  rw[hyl] at hi
  obtain⟨y,d,hy,hd1,hI⟩:=IsL.get (IsL.same s2 hus) (show i < (ps.map yd_).length by simpa using hi)
  rw[pl_,pa_ hi] at hd1
  cases hd1
  obtain⟨a2,rfl,ea2⟩:=jol_ hI
  rw[pf_,hy,se_]
  walk_at "go"
  refine⟨e2,_,rfl,?_,jb_,jv_ hr0 s2⟩
  rw[p3_,pa_ hi,pk_,pk_]
  congr 1
  show [V.bl _]=[V.bl (odd2 ps[i])]
  congr 2
  unfold odd2
  rw[qt_]
  simp
 ·rintro acc σ H2 ⟨v,rfl,rfl,e2,s2⟩
  rw[hyl,py_] at e2
  walk_at "go"
  refine jeu_ (ym_ e2) ?_
  have hany:((ps.map odd2).any id)=ps.any odd2:=by rw[kb_];rfl
  simp only[hany]
  walk_at "go"
  exact q H2 s2
theorem jcl_ (T:Txt mg tk)(O:Ow K mg cO)(F:Fun K "steps_from" "steps_from" s_steps_from f fd)(D_Sight_by_letter:Dm P w K mg base cO "by_letter" 3 ["self","view","letter"] (v4_ cO))(D_Sight_by_end:Dm P w K mg base cO "by_end" 3 ["self","view"] (jeh_ cO)):FnOk P w K mg base CX0 4 f fd ["sight","letters","view","word"] (jec_ cO):=by
 refine F.ok sc_steps_from (fun vs H Q E h=>?_) (fun cdv A outer s H vs Q E hr h=>?_)
 ·obtain⟨p,lb,va,one,other,L,u,v,rfl,_⟩:=h
  rfl
 obtain⟨p,lb,va,one,other,L,u,v,rfl,hs,ho1,ho2,hv,ev,el,hL,hu,q⟩:=h
 have nd:=sc_steps_from.nd
 obtain⟨dx,kd,od,td,ko,kt,e1,_⟩:=id hs
 refine⟨_,(jf_ (jl_ (i:=4) nd rfl (Or.inl rfl) (j0_ (ja_ (zd_ (ja_ (pv 3) (ja_ (zd_ (ja_ (j0_ je_) (ja_ (xl_ (pv 0) O.cl D_Sight_by_end hr.mo_ (ja_ (pv 2) je_)) je_))) je_))) je_)))
  (jf_ (zo_ p5_ rfl (j9_ (K:=K) (pv 1)) (jn_ (i:=5) nd rfl (Or.inl rfl))
   (jg_ (ys_ (yg_ (K:=K) qf_ q8_ q9_ yv_ (pv 4) (ja_ (zd_ (ja_ (jk_ jx_ (pv 3) (pv 5)) (ja_ (xl_ (pv 0) O.cl D_Sight_by_letter hr.mo_ (ja_ (pv 2) (ja_ (pv 5) je_))) je_))) je_)))))
  (jg_ (jt_ (pv 4))))),?_⟩
 rw[show L2.j7_ ["sight","letters","view","word","steps","letter"] [.ref p,.ref lb,.ref va,.str (S u)]=[some (.ref p),some (.ref lb),some (.ref va),some (.str (S u)),none,none] from rfl]
 walk_at "go"
 intro a0 ha0
 have s0:=jc_ ha0 (.lst [])
 walk_at "go"
 refine x8_ ?_
 walk_at "go"
 refine x4_ (s0 _ _ e1) rfl ?_
 walk_at "go"
 refine⟨p,va,one,other,v,rfl,hs.same s0,ho1,ho2,hv,s0 _ _ ev,fun lp us H1 elp hlp hus s1=>?_⟩
 have ea0:H1 a0=some (.lst []):=s1 _ _ jb_
 have s01:=s0.trans s1
 have hlpH:H lp=none:=s0.free hlp
 walk_at "go"
 intro a1 ha1
 have s2:=jc_ ha1 (.tup [.ref a0,.ref lp])
 have ea1:=jb_ (H:=H1) (a:=a1) (o:=.tup [.ref a0,.ref lp])
 have elp2:=s2 _ _ elp
 have ea02:=s2 _ _ ea0
 have hus2:=IsL.same s2 hus
 have s02:=s01.trans s2
 generalize upd H1 a1 (.tup [.ref a0,.ref lp])=H2 at s2 ea1 elp2 ea02 hus2 s02 ⊢
 walk_at "go"
 intro a2 ha2
 have s3:=jc_ ha2 (.tup [.str (S u),.ref a1])
 have ea2:=jb_ (H:=H2) (a:=a2) (o:=.tup [.str (S u),.ref a1])
 have elp3:=s3 _ _ elp2
 have ea03:=s3 _ _ ea02
 have ea13:=s3 _ _ ea1
 have hus3:=IsL.same s3 hus2
 have s03:=s02.trans s3
 generalize upd H2 a2 (.tup [.str (S u),.ref a1])=H3 at s3 ea2 elp3 ea03 ea13 hus3 s03 ⊢
 walk_at "go"
 intro r hr0
 have s4:=jc_ hr0 (.lst [.ref a2])
 have er:=jb_ (H:=H3) (a:=r) (o:=.lst [.ref a2])
 have hrH:H r=none:=s03.free hr0
 have n1:a0≠r:=fun z=>by rw[z,hr0] at ea03;cases ea03
 have n2:lp≠r:=fun z=>by rw[z,hr0] at elp3;cases elp3
 have s04:=s03.trans s4
 have h0:Is (less H r (upd H3 r (.lst [.ref a2]))) (.ref a2) (jbz_ (u,[],zc_ one other v)):=jdv_ (x:=(u,[],zc_ one other v)) er s04 (s4 _ _ ea2) (s4 _ _ ea13) (s4 _ _ ea03) (s4 _ _ elp3) n1 n2 ha0 hlpH (by simp only[p7_,L2.IsL]) (IsL.same s4 hus3)
 generalize upd H3 r (.lst [.ref a2])=H4 at s4 er h0 s04 ⊢
 have el4:=s04 _ _ el
 walk_at "go"
 refine zy_ (K:=K) (xs:=L.map fun c=>V.str (S [c])) (fun i σ H'=>∃(zs:List V) (x:Option V),σ=[some (.ref p),some (.ref lb),some (.ref va),some (.str (S u)),some (.ref r),x]/\H' r=some (.lst zs)/\L2.IsL (less H r H') zs ((zx_ one other (L.take i) u v).map jbz_)/\Same H H')
  ⟨[.ref a2],none,rfl,er,by unfold zx_;simp only[wc_,p7_,pp_,L2.IsL];exact⟨h0,trivial⟩,s04⟩ (fun i σ H' _ ⟨_,_,_,_,_,s⟩=>SqL.of (s _ _ el)) ?_ ?_
 ·rintro i y σ H5 hy ⟨zs,x,rfl,er5,hz5,s5⟩
  have hi:i < L.length:=by have:=(pq_.mp hy).1;simpa using this
  rw[pl_,pa_ hi] at hy
  cases hy
  have hzl:=hz5.length
  rw[pb_] at hzl
  have hzl2:(zx_ one other (L.take i) u v).length<=28:=by unfold zx_;rw[ps_,pb_,p2_];omega
  walk_at "go"
  refine x8_ ?_
  walk_at "go"
  refine x4_ (s5 _ _ e1) rfl ?_
  walk_at "go"
  refine⟨p,va,one,other,v,L[i],rfl,hs.same s5,ho1,ho2,hv,s5 _ _ ev,fun b lv lp us ws H6 eb elv elp hne hlv hlp hus hws s6=>?_⟩
  have er6:=s6 _ _ er5
  have s06:=s5.trans s6
  walk_at "go"
  intro c hc
  have s7:=jc_ hc (.tup [.str (S (u++[L[i]])),.ref b])
  have ec:=jb_ (H:=H6) (a:=c) (o:=.tup [.str (S (u++[L[i]])),.ref b])
  have m1:lv≠r:=fun z=>by rw[z,er5] at hlv;cases hlv
  have m2:lp≠r:=fun z=>by rw[z,er5] at hlp;cases hlp
  have er7:=s7 _ _ er6
  have s07:=s06.trans s7
  have hx:Is (less H r (upd H6 c (.tup [.str (S (u++[L[i]])),.ref b]))) (.ref c) (jbz_ (u++[L[i]],jy_ one other v L[i],j2_ one other v L[i])):=jdv_ (x:=(u++[L[i]],jy_ one other v L[i],j2_ one other v L[i])) er7 s07 ec (s7 _ _ eb) (s7 _ _ elv) (s7 _ _ elp) m1 m2 (s5.free hlv) (s5.free hlp) (IsL.same s7 hus) (IsL.same s7 hws)
  have hz7:=IsL.same (jnm_ (H0:=H) (r:=r) (s6.trans s7)) hz5
  generalize upd H6 c (.tup [.str (S (u++[L[i]])),.ref b])=H7 at s7 ec er7 hx hz7 s07 ⊢
  walk_at "go"
  refine⟨zs++[.ref c],_,rfl,jb_,?_,jv_ hrH s07⟩
  rw[jpl_]
  have:zx_ one other (L.take (i+1)) u v=zx_ one other (L.take i) u v++[(u++[L[i]],jy_ one other v L[i],j2_ one other v L[i])]:=by
   unfold zx_
   rw[p3_,pa_ hi,pk_,ss_];rfl
  rw[this,pk_]
  exact IsL.snoc hz7 hx
 ·rintro σ H5 ⟨zs,x,rfl,er5,hz5,s5⟩
  rw[pb_,py_] at hz5
  walk_at "go"
  exact q r zs H5 hrH er5 hz5 s5
end
noncomputable def vk (v:View):List (Option Key):=[some (Sum.inr (S v.t)),v.b.map fun n:Nat=>(Sum.inl (n:Int):Key),some (Sum.inl v.i),some (Sum.inl v.j)]
noncomputable def vdat (v:View):List V:=[.str (S v.t),bV v.b,.int v.i,.int v.j]
theorem jjc_ (v:View):(vk v).map oV=vdat v:=by
 cases v with
 | mk t b i j=>cases b <;> rfl
theorem jef_ {a b:View}(h:vk a=vk b):a=b:=by
 have hd:vdat a=vdat b:=by rw[<- jjc_,<- jjc_,h]
 unfold vdat at hd
 simp only[ke_,V.str.injEq,V.int.injEq,and_true] at hd
 refine View.ext4 (jlo_ hd.1) ?_ hd.2.2.1 hd.2.2.2
 have hb:=hd.2.1
 cases e1:a.b <;> cases e2:b.b <;> simp only[e1,e2,bV] at hb ⊢
 ·cases hb
 ·cases hb
 ·injection hb with hb
  rw[Int.ofNat_inj.mp hb]
theorem ut_ {H:Hp}{v:View}{a:Addr}(h:H a=some (.tup (vdat v))):viewKind.at_ H (vk v) a:=by
 show H a=some (.tup ((vk v).map oV))
 rw[jjc_];exact h
noncomputable abbrev WE:Type:=View×Addr×List Nat
noncomputable def wkv (ws:List WE):List (List (Option Key)×Addr×V):=ws.map fun e=>(vk e.1,e.2.1,V.str (S e.2.2))
theorem jqu_ (ws:List WE):(wkv ws).map (·.1)=(ws.map (·.1)).map vk:=by unfold wkv;rw[q1_,q1_];rfl
theorem jpc_ {vs:List View}{v:View}:vk v∈vs.map vk↔v∈vs:=by
 rw[qb_]
 exact⟨fun⟨x,hx,e⟩=>jef_ e▸hx,fun h=>⟨v,h,rfl⟩⟩
theorem wkv_none {ws:List WE}{v:View}:valX (wkv ws) (vk v)=none↔v∉ws.map (·.1):=by rw[jgv_,jqu_,jpc_]
theorem jtx_ {ws:List WE}{v:View}{b:Addr}{u:List Nat}(h:v∉ws.map (·.1)):putX (wkv ws) (vk v) b (.str (S u))=wkv (ws++[(v,b,u)]):=by
 unfold putX
 have:((wkv ws).any fun e=>decide (e.1=vk v))=false:=by
  rw[sl_]
  intro e he
  unfold wkv at he
  obtain⟨x,hx,rfl⟩:=qb_.mp he
  intro z
  exact h (jef_ (of_decide_eq_true z)▸qb_.mpr ⟨x,hx,rfl⟩)
 rw[this]
 unfold wkv
 rw[pk_];rfl
theorem jud_ {ws:List WE}(hn:(ws.map (·.1)).Nodup){e:WE}(he:e∈ws):valX (wkv ws) (vk e.1)=some (.str (S e.2.2)):=by
 induction ws with
 | nil=>cases he
 | cons x r ih =>
  rw[pp_,si_] at hn
  unfold valX wkv
  rw[pp_,qr_]
  by_cases hx:x.1=e.1
  ·rcases p0_.mp he with rfl | h
   ·simp
   ·exact absurd (hx▸qb_.mpr ⟨e,h,rfl⟩) hn.1
  ·have hk:decide (vk x.1=vk e.1)=false:=decide_eq_false fun z=>hx (jef_ z)
   simp only[hk]
   rcases p0_.mp he with rfl | h
   ·exact absurd rfl hx
   ·have:=ih hn.2 h
    unfold valX wkv at this
    exact this
theorem jev_ {H:Hp}{ws:List WE}(h:∀ e∈ws,H e.2.1=some (.tup (vdat e.1))):KO viewKind H (wkv ws):=fun e he=>by
 unfold wkv at he
 obtain⟨x,hx,rfl⟩:=qb_.mp he
 exact ut_ (h x hx)
theorem jsr_ (ws:List WE):(wkv ws).length=ws.length:=by unfold wkv;rw[pb_]
structure Srch (one other:List Pat)(L:List Nat)(ws:List WE)(wq:List (View×Addr))(cur:View->Prop):Prop where
 nd:(ws.map (·.1)).Nodup
 fst:fstV one other∈ws.map (·.1)
 path:∀ e∈ws,Path one other L e.2.2 e.1
 len:∀ e∈ws,e.2.2.length+1<=ws.length
 sub:∀ e∈wq,e.1∈ws.map (·.1)
 ql:wq.length<=ws.length
 done:∀ x∈ws.map (·.1),(∃ a,(x,a)∈wq)∨cur x∨DoneV one other L (ws.map (·.1)) x
theorem Srch.few {one other:List Pat}{L:List Nat}{ws:List WE}{wq:List (View×Addr)}{cur:View->Prop}(h1:SmP one)(h2:SmP other)(h:Srch one other L ws wq cur):ws.length<=161000:=by
 have:=jnh_ h1 h2 h.nd fun v hv=>by
  obtain⟨e,he,rfl⟩:=qb_.mp hv
  exact(h.path e he).good h1 h2
 rwa [pb_] at this
theorem Srch.all {one other:List Pat}{L:List Nat}{ws:List WE}(h:Srch one other L ws [] fun _=>False):AllV one other L (ws.map (·.1)):=by
 refine⟨h.nd,h.fst,fun v hv=>?_,fun v hv=>?_⟩
 ·obtain⟨e,he,rfl⟩:=qb_.mp hv
  exact⟨_,h.path e he⟩
 ·rcases h.done v hv with ⟨a,ha⟩ | ha | ha
  ·cases ha
  ·exact ha.elim
  ·exact ha
theorem Srch.pop {one other:List Pat}{L:List Nat}{ws:List WE}{v:View}{a:Addr}{wq:List (View×Addr)}(h:Srch one other L ws ((v,a)::wq) fun _=>False):Srch one other L ws wq (·=v) :=
 ⟨h.nd,h.fst,h.path,h.len,fun e he=>h.sub e (pj_ _ he),s8_ h.ql,fun x hx=>by
  rcases h.done x hx with ⟨b,hb⟩ | hb | hb
  ·rcases p0_.mp hb with e | e
   ·cases e;exact .inr (.inl rfl)
   ·exact .inl ⟨b,e⟩
  ·exact hb.elim
  ·exact .inr (.inr hb)⟩
theorem Srch.end {one other:List Pat}{L:List Nat}{ws:List WE}{v:View}{wq:List (View×Addr)}(h:Srch one other L ws wq (·=v))(hd:DoneV one other L (ws.map (·.1)) v):Srch one other L ws wq fun _=>False :=
 ⟨h.nd,h.fst,h.path,h.len,h.sub,h.ql,fun x hx=>by
  rcases h.done x hx with hb | hb | hb
  ·exact .inl hb
  ·rw[hb];exact .inr (.inr hd)
  ·exact .inr (.inr hb)⟩
theorem Srch.put {one other:List Pat}{L:List Nat}{ws:List WE}{v x:View}{b:Addr}{u:List Nat}{wq:List (View×Addr)}(h:Srch one other L ws wq (·=v))(hn:x∉ws.map (·.1))(hp:Path one other L u x)(hl:u.length+1<=ws.length+1):Srch one other L (ws++[(x,b,u)]) (wq++[(x,b)]) (·=v):=by
 have hm:(ws++[(x,b,u)]).map (·.1)=ws.map (·.1)++[x]:=by rw[pk_];rfl
 have hin:∀ y∈ws.map (·.1),y∈ws.map (·.1)++[x]:=fun y hy=>pe_.mpr (.inl hy)
 refine⟨?_,?_,fun e he=>?_,fun e he=>?_,fun e he=>?_,by rw[pg_,pg_];exact Nat.succ_le_succ h.ql,fun y hy=>?_⟩
 ·rw[hm,List.nodup_append]
  exact⟨h.nd,by simp,fun a ha c hc=>by rw[ph_.mp hc];exact fun z=>hn (z▸ha)⟩
 ·rw[hm];exact hin _ h.fst
 ·rcases pe_.mp he with he | he
  ·exact h.path e he
  ·rw[ph_.mp he];exact hp
 ·rw[pg_,p8_]
  rcases pe_.mp he with he | he
  ·have:=h.len e he;omega
  ·rw[ph_.mp he];exact hl
 ·rw[hm]
  rcases pe_.mp he with he | he
  ·exact hin _ (h.sub e he)
  ·rw[ph_.mp he];exact pe_.mpr (.inr (ph_.mpr rfl))
 ·rw[hm] at hy ⊢
  rcases pe_.mp hy with hy | hy
  ·rcases h.done y hy with ⟨a,ha⟩ | ha | ha
   ·exact .inl ⟨a,pe_.mpr (.inl ha)⟩
   ·exact .inr (.inl ha)
   ·exact .inr (.inr (ha.more hin))
  ·rw[ph_.mp hy]
   exact .inl ⟨b,pe_.mpr (.inr (ph_.mpr rfl))⟩
theorem jio_ {one other:List Pat}{L u:List Nat}{v:View}(hp:Path one other L u v){x:Step}(hx:x∈zx_ one other L u v):x.1.length<=u.length+1/\(∀ y∈x.2.1,Path one other L x.1 y)/\(x.2.2.any odd2=true->uu_ one other L x.1):=by
 rcases p0_.mp hx with rfl | hx
 ·refine⟨wm_ _,fun y hy=>(nomatch hy),fun h=>?_⟩
  obtain⟨p,h1,h2⟩:=q4_.mp h
  exact⟨u,v,hp,.inl ⟨rfl,p,h1,h2⟩⟩
 ·obtain⟨c,hc,rfl⟩:=qb_.mp hx
  refine⟨by rw[pg_];exact po_ _,fun y hy=>.snoc hp hc hy,fun h=>?_⟩
  obtain⟨p,h1,h2⟩:=q4_.mp h
  exact⟨u,v,hp,.inr ⟨c,hc,rfl,p,h1,h2⟩⟩
theorem jbo_ {ps:List (Int×Int)}(h:ps.any odd2=false):∀ p∈ps,odd2 p=false:=fun p hp=>by
 have:=sl_.mp h p hp
 simpa using this
theorem jiy_ {one other:List Pat}{L u:List Nat}{v:View}{vs:List View}(h:∀ x∈zx_ one other L u v,x.2.2.any odd2=false/\∀ y∈x.2.1,y∈vs):DoneV one other L vs v:=by
 refine⟨jbo_ (h _ pm_).1,fun c hc=>?_⟩
 have:=h _ (pj_ _ (qb_.mpr ⟨c,hc,rfl⟩))
 exact⟨jbo_ this.1,this.2⟩
theorem zm_ (one other:List Pat)(v:View)(c:Nat):(jy_ one other v c).length<=2/\(j2_ one other v c).length<=1/\(zc_ one other v).length<=1:=by
 refine⟨?_,?_,?_⟩
 ·unfold jy_;split
  ·exact qz_ _
  ·split <;> simp
 ·unfold j2_;split <;> simp
 ·unfold zc_;split <;> simp
theorem jfy_ {one other:List Pat}{L u:List Nat}{v:View}{x:Step}(hx:x∈zx_ one other L u v):x.2.1.length<=2/\x.2.2.length<=1:=by
 rcases p0_.mp hx with rfl | hx
 ·exact⟨qz_ _,(zm_ one other v 0).2.2⟩
 ·obtain⟨c,hc,rfl⟩:=qb_.mp hx
  exact⟨(zm_ one other v c).1,(zm_ one other v c).2.1⟩
noncomputable def jkj_:List Nat:=[119,111,114,100]
noncomputable def jle_:List Nat:=[115,97,109,101]
theorem jwb_:re_ "word"=S jkj_:=by decide +kernel
theorem joi_:re_ "same"=S jle_:=by decide +kernel
noncomputable def Told (one other:List Pat)(H:Hp)(Q:VK):Prop :=
 (∀(r:Addr) (u:List Nat) (H':Hp),uu_ one other (ltr (one++other)) u->u.length<=200000->H r=none->H' r=some (.tup [.str (S jkj_),.str (S u)])->Same H H'->Q (.ref r) H') /\
 ∀(r l:Addr) (vs:List View) (zs:List V) (H':Hp),AllV one other (ltr (one++other)) vs->H r=none->H l=none->H' r=some (.tup [.str (S jle_),.ref l])->H' l=some (.lst zs)->L2.IsL H' zs (vs.map z3_)->Same H H'->Q (.ref r) H'
def jfb_:Sp:=fun vs H Q _=>∃(a b:Addr) (ya yb:List V) (one other:List Pat),vs=[.ref a,.ref b]/\H a=some (.lst ya)/\H b=some (.lst yb)/\L2.IsL H ya (one.map patD)/\L2.IsL H yb (other.map patD)/\SmP one/\SmP other/\Told one other H Q
theorem jwf_ {H:Hp}{ws:List WE}(h:∀ e∈ws,H e.2.1=some (.tup (vdat e.1))):L2.IsL H ((wkv ws).map fun e=>V.ref e.2.1) ((ws.map (·.1)).map z3_):=by
 induction ws with
 | nil=>simp only[wkv,p7_,L2.IsL]
 | cons x r ih =>
  have:=ih fun e he=>h e (pj_ _ he)
  simp only[wkv,pp_,L2.IsL] at this ⊢
  exact⟨yc_ (h x pm_),this⟩
theorem jgx_ {K':Type} [DecidableEq K']{N:OwnKind K'}{P:Program}{w:World}{ty td:TE}{σ:St}{H:Hp}{Q:VK}(h:ty σ H fun y H1=>td σ H1 fun x H2=>∃ a o,x=.ref a/\DGetX N P w H2 a y o/\Q (.bl (!o.isSome)) H2):jfo_ N P w ty td σ H Q:=h
theorem szlt {n:Nat}(h:n<=1000000):n < sizeLine:=ry_ h (by decide)
structure SH (P:Program)(w:World)(H3 H':Hp)(wd wt:Addr)(ws:List WE)(wq:List (View×Addr)):Prop where
 dx:H' wd=some (DX viewKind P w wd (wkv ws))
 wl:H' wt=some (.lst (wq.map fun e=>V.ref e.2))
 ks:∀ e∈ws,H' e.2.1=some (.tup (vdat e.1))
 qs:∀ e∈wq,H' e.2=some (.tup (vdat e.1))
 sm:Same H3 H'
theorem SH.new {P:Program}{w:World}{H3 H' H'':Hp}{wd wt:Addr}{ws:List WE}{wq:List (View×Addr)}(h:SH P w H3 H' wd wt ws wq)(s:Same H' H''):SH P w H3 H'' wd wt ws wq :=
 ⟨s _ _ h.dx,s _ _ h.wl,fun e he=>s _ _ (h.ks e he),fun e he=>s _ _ (h.qs e he),h.sm.trans s⟩
theorem SH.ne {P:Program}{w:World}{H3 H':Hp}{wd wt:Addr}{ws:List WE}{wq:List (View×Addr)}(h:SH P w H3 H' wd wt ws wq):wd≠wt:=fun z=>by
 have e1:=h.dx
 have e2:=h.wl
 rw[z,e2] at e1
 cases e1
theorem SH.tup {P:Program}{w:World}{H3 H':Hp}{wd wt:Addr}{ws:List WE}{wq:List (View×Addr)}(h:SH P w H3 H' wd wt ws wq){x y:HO}:Tk H' (upd (upd H' wd x) wt y):=fun b xs e=>by
 have h1:b≠wd:=fun z=>by rw[z,h.dx] at e;cases e
 have h2:b≠wt:=fun z=>by rw[z,h.wl] at e;cases e
 rw[ji_ h2,ji_ h1];exact e
theorem SH.pop {P:Program}{w:World}{H3 H':Hp}{wd wt:Addr}{ws:List WE}{e0:View×Addr}{wq:List (View×Addr)}(h:SH P w H3 H' wd wt ws (e0::wq))(hn:H3 wt=none):SH P w H3 (upd H' wt (.lst (wq.map fun e=>V.ref e.2))) wd wt ws wq:=by
 have hl:=h.wl
 have tk:Tk H' (upd H' wt (.lst (wq.map fun e=>V.ref e.2))):=Tk.lst hl _
 exact⟨by rw[ji_ h.ne];exact h.dx,jb_,fun e he=>tk _ _ (h.ks e he),fun e he=>tk _ _ (h.qs e (pj_ _ he)),jv_ hn h.sm⟩
theorem SH.put {P:Program}{w:World}{H3 H':Hp}{wd wt b:Addr}{v:View}{u:List Nat}{ws:List WE}{wq:List (View×Addr)}(h:SH P w H3 H' wd wt ws wq)(hn:H3 wt=none)(hd:H3 wd=none)(hb:H' b=some (.tup (vdat v))) :
  SH P w H3 (upd (upd H' wd (DX viewKind P w wd (wkv (ws++[(v,b,u)])))) wt (.lst ((wq++[(v,b)]).map fun e=>V.ref e.2))) wd wt (ws++[(v,b,u)]) (wq++[(v,b)]):=by
 have tk:=h.tup (x:=DX viewKind P w wd (wkv (ws++[(v,b,u)]))) (y:=.lst ((wq++[(v,b)]).map fun e=>V.ref e.2))
 refine⟨by rw[ji_ h.ne];exact jb_,jb_,fun e he=>tk _ _ ?_,fun e he=>tk _ _ ?_,jv_ hn (jv_ hd h.sm)⟩
 ·rcases pe_.mp he with he | he
  ·exact h.ks e he
  ·rw[ph_.mp he];exact hb
 ·rcases pe_.mp he with he | he
  ·exact h.qs e he
  ·rw[ph_.mp he];exact hb
def ApW (P:Program)(w:World)(one other:List Pat)(L:List Nat)(H3:Hp)(a b x lb wd wt:Addr)(m:Nat)(σ:St)(H':Hp):Prop:=∃(ws:List WE) (wq:List (View×Addr)) (x6 x7 x8 x9:Option V),σ=[some (.ref a),some (.ref b),some (.ref x),some (.ref lb),some (.ref wd),some (.ref wt),x6,x7,x8,x9] /\
 Srch one other L ws wq (fun _=>False)/\SH P w H3 H' wd wt ws wq/\m=2 * (161000 - ws.length)+wq.length
structure ApS (P:Program)(w:World)(one other:List Pat)(L:List Nat)(H3 HB H':Hp)(wd wt r:Addr)(zs:List V)(v:View)(u:List Nat)(m:Nat)(ws:List WE)(wq:List (View×Addr))(done:List Step):Prop where
 sr:Srch one other L ws wq (·=v)
 sh:SH P w H3 H' wd wt ws wq
 er:H' r=some (.lst zs)
 dat:Dat HB H'
 dn:∀ x∈done,x.2.2.any odd2=false/\∀ y∈x.2.1,y∈ws.map (·.1)
 ul:u.length+1<=ws.length
 ms:2 * (161000 - ws.length)+wq.length+1<=m
theorem ApS.new {P:Program}{w:World}{one other:List Pat}{L:List Nat}{H3 HB H' H'':Hp}{wd wt r:Addr}{zs:List V}{v:View}{u:List Nat}{m:Nat}{ws:List WE}{wq:List (View×Addr)}{done:List Step}(h:ApS P w one other L H3 HB H' wd wt r zs v u m ws wq done)(s:Same H' H''):ApS P w one other L H3 HB H'' wd wt r zs v u m ws wq done :=
 ⟨h.sr,h.sh.new s,s _ _ h.er,h.dat.trans s.dat,h.dn,h.ul,h.ms⟩
section
variable {P:Program}{w:World}{K:pc_}{mg:Str->Option Value}{base:Heap}{f:Addr}{fd:FuncData}{tk:Nat->Tok}{cO:Addr}
theorem jra_ (T:Txt mg tk)(O:Ow K mg cO)(F:Fun K "apart" "apart" s_apart f fd)(D_letters_to_read:Dn P w K mg base "letters_to_read" 1 ["patterns"] jdw_)(D_steps_from:Dn P w K mg base "steps_from" 4 ["sight","letters","view","word"] (jec_ cO))(D_breaks_otherwise:Dn P w K mg base "breaks_otherwise" 1 ["pairs"] x6_)(D_Sight_init:Dk P w K mg base cO 2 ["self","one","other"] (jbq_ cO))(D_Sight_first:Dm P w K mg base cO "first" 2 ["self"] (jfe_ cO)):FnOk P w K mg base CX0 5 f fd ["one","other"] jfb_:=by
 refine F.ok sc_apart (fun vs H Q E h=>?_) (fun cdv A outer s H vs Q E hr h=>?_)
 ·obtain⟨a,b,ya,yb,one,other,rfl,_⟩:=h
  rfl
 obtain⟨a,b,ya,yb,one,other,rfl,ha,hb,hya,hyb,sm1,sm2,tw,ts⟩:=h
 have nd:=sc_apart.nd
 have hl1:=hya.length
 have hl2:=hyb.length
 rw[pb_] at hl1 hl2
 have hz1:=sm1.2.2
 have hz2:=sm2.2.2
 refine⟨_,(jf_ (jl_ (i:=2) nd rfl (Or.inl rfl) (joq_ D_Sight_init hr.mo_ rfl O.m_Sight (ja_ (pv 0) (ja_ (pv 1) je_))))
  (jf_ (jl_ (i:=3) nd rfl (Or.inl rfl) (jq_ D_letters_to_read hr.mo_ rfl (ja_ (jk_ jx_ (pv 0) (pv 1)) je_)))
  (jf_ (jl_ (i:=4) nd rfl (Or.inl rfl) (jka_ (N:=viewKind) (P:=P) (w:=w) rfl rfl (vv_ hr) (jmf_ (pv 2) O.cl D_Sight_first hr.mo_) zh_))
  (jf_ (jl_ (i:=5) nd rfl (Or.inl rfl) (zz_ (jlr_ (N:=viewKind) (P:=P) (w:=w) rfl rfl rfl) rfl T.z_list (by decide +kernel) (ja_ (pv 4) je_)))
  (jf_ (x5_ p5_ (ju_ o_gt (jo_ (zq_ (K:=K)) rfl T.z_len (by decide +kernel) (ja_ (pv 5) je_)) jd_ (j6_ _))
   (jf_ (jl_ (i:=6) nd rfl (Or.inl rfl) (yg_ (K:=K) qf_ kf_ kg_ jxo_ (pv 5) (ja_ jd_ je_)))
  (jg_ (zo_ p5_ rfl (j9_ (K:=K) (jq_ D_steps_from hr.mo_ rfl (ja_ (pv 2) (ja_ (pv 3) (ja_ (pv 6) (ja_ (jwt_ (N:=viewKind) (P:=P) (w:=w) rfl rfl (vv_ hr) (pv 4) (pv 6) (fun _ _=>rfl)) je_)))))) (jax_ rfl (z8_ (jn_ (i:=7) nd rfl (Or.inl rfl)) (z8_ (jn_ (i:=8) nd rfl (Or.inl rfl)) ue_)))
   (jf_ (zr_ (vb_ (jq_ D_breaks_otherwise hr.mo_ rfl (ja_ (jj_ (jh_ (K:=K)) (pv 8) jd_ (fun _ _=>rfl)) je_)) (fun _=>rfl))
   (jg_ (jt_ (zd_ (ja_ zh_ (ja_ (pv 7) je_)))))
   j5_)
  (jg_ (zo_ p5_ rfl (j9_ (K:=K) (jj_ (jh_ (K:=K)) (pv 8) jd_ (fun _ _=>rfl))) (jn_ (i:=9) nd rfl (Or.inl rfl))
   (jg_ (zr_ (jbm_ (jhs_ (N:=viewKind) (P:=P) (w:=w) rfl rfl (vv_ hr) (pv 9) (pv 4)))
   (jf_ (jqy_ (N:=viewKind) (P:=P) (w:=w) rfl rfl (vv_ hr) (pv 4) (pv 9) (pv 7) rfl)
  (jg_ (ys_ (yg_ (K:=K) qf_ q8_ q9_ yv_ (pv 5) (ja_ (pv 9) je_)))))
   j5_)))))))))
  (jg_ (jt_ (zd_ (ja_ zh_ (ja_ (zz_ (jlr_ (N:=viewKind) (P:=P) (w:=w) rfl rfl rfl) rfl T.z_list (by decide +kernel) (ja_ (pv 4) je_)) je_)))))))))),?_⟩
 rw[show L2.j7_ ["one","other","sight","letters","words","waiting","view","word","step","later"] [.ref a,.ref b]=[some (.ref a),some (.ref b),none,none,none,none,none,none,none,none] from rfl]
 rw[jwb_,joi_,xc_]
 generalize hLd:ltr (one++other)=L at tw ts
 have hL27:L.length<=27:=hLd▸jkg_ _
 walk_at "go"
 refine jvl_ ?_
 walk_at "go"
 intro x dx hx hd hne
 have ms:Same H (upd (upd H dx (.own x)) x (.ins cO dx [])):=jdn_ hx hd fun b o hb e=>e
 refine⟨x,a,b,dx,ya,yb,one,other,rfl,jb_,ms _ _ ha,ms _ _ hb,IsL.same ms hya,IsL.same ms hyb,sm1.1,sm2.1,fun H1 hs ho=>⟨rfl,?_⟩⟩
 have s1:=jdn_ hx hd ho
 have ha1:=s1 _ _ ha
 have hb1:=s1 _ _ hb
 walk_at "go"
 refine yh_ ha1 hb1 (szn (by omega)) fun c hc=>?_
 have s2:=jc_ hc (.lst (ya++yb))
 walk_at "go"
 refine⟨c,ya++yb,one++other,rfl,jb_,?_,fun y hy=>?_,by rw[pg_];omega,fun lb H3 hlb elb s3=>?_⟩
 ·rw[pk_]
  exact IsL.append (IsL.same (s1.trans s2) hya) (IsL.same (s1.trans s2) hyb)
 ·have:=jcd_ sm1 sm2 y hy;omega
 rw[hLd] at elb
 have s13:=s2.trans s3
 have s03:=s1.trans s13
 have hs3:=hs.same s13
 obtain⟨dx',kd,od,td,ko,kt,e1,_⟩:=id hs3
 walk_at "go"
 intro wd hwd
 have s4:=jc_ hwd (DX viewKind P w wd [])
 walk_at "go"
 refine x8_ ?_
 walk_at "go"
 refine x4_ (s4 _ _ e1) rfl ?_
 walk_at "go"
 refine⟨x,one,other,rfl,hs3.same s4,fun fv H5 hfv efv s5=>?_⟩
 have ewd5:=s5 _ _ (jb_ (H:=H3) (a:=wd) (o:=DX viewKind P w wd []))
 walk_at "go"
 refine⟨ewd5,fv,vk (fstV one other),rfl,ut_ (v:=fstV one other) efv,?_⟩
 have efv':H5 fv=some (.tup (vdat (fstV one other))):=efv
 have nfw:fv≠wd:=fun z=>by rw[z,ewd5] at efv;cases efv
 have s35:Same H3 (upd H5 wd (DX viewKind P w wd (wkv [(fstV one other,fv,[])]))):=jv_ hwd (s4.trans s5)
 have efv6:(upd H5 wd (DX viewKind P w wd (wkv [(fstV one other,fv,[])]))) fv=some (.tup (vdat (fstV one other))):=by rw[ji_ nfw];exact efv'
 have ewd6:=jb_ (H:=H5) (a:=wd) (o:=DX viewKind P w wd (wkv [(fstV one other,fv,[])]))
 show jbe_ 4 (.ref wd) _ (upd H5 wd (DX viewKind P w wd (wkv [(fstV one other,fv,[])]))) _
 generalize upd H5 wd (DX viewKind P w wd (wkv [(fstV one other,fv,[])]))=H6 at s35 efv6 ewd6 ⊢
 have hko6:KO viewKind H6 (wkv [(fstV one other,fv,[])]):=jev_ fun e he=>by rw[ph_.mp he];exact efv6
 walk_at "go"
 refine⟨_,.inl ewd6,hko6,fun wt hwt=>?_⟩
 have hwt3:H3 wt=none:=s35.free hwt
 have sh7:SH P w H3 (upd H6 wt (.lst ((wkv [(fstV one other,fv,[])]).map fun e=>V.ref e.2.1))) wd wt [(fstV one other,fv,[])] [(fstV one other,fv)]:=by
  have s7:=jc_ hwt (.lst ((wkv [(fstV one other,fv,[])]).map fun e=>V.ref e.2.1))
  exact⟨s7 _ _ ewd6,jb_,fun e he=>by rw[ph_.mp he];exact s7 _ _ efv6,fun e he=>by rw[ph_.mp he];exact s7 _ _ efv6,s35.trans s7⟩
 generalize upd H6 wt (.lst ((wkv [(fstV one other,fv,[])]).map fun e=>V.ref e.2.1))=H7 at sh7 ⊢
 have sr7:Srch one other L [(fstV one other,fv,[])] [(fstV one other,fv)] fun _=>False :=
  ⟨by simp,by simp,fun e he=>by rw[ph_.mp he];exact .nil,fun e he=>by rw[ph_.mp he];exact po_ _,fun e he=>by rw[ph_.mp he];simp,po_ _,fun y hy=>.inl ⟨fv,by rw[ph_.mp hy];exact ph_.mpr rfl⟩⟩
 walk_at "go"
 refine⟨ApW P w one other L H3 a b x lb wd wt,⟨_,_,_,none,none,none,none,rfl,sr7,sh7,rfl⟩,?_⟩
 rintro m σ H8 ⟨ws,wq,x6,x7,x8,x9,rfl,sr8,sh8,rfl⟩
 have hwl:=sh8.wl
 have hfew:=sr8.few sm1 sm2
 walk_at "go"
 cases wq with
 | nil =>
  refine jce_ (by simp) ?_
  have hko:=jev_ sh8.ks
  walk_at "go"
  refine⟨_,.inl sh8.dx,hko,fun l hl=>?_⟩
  have s9:=jc_ hl (.lst ((wkv ws).map fun e=>V.ref e.2.1))
  have el9:=jb_ (H:=H8) (a:=l) (o:=.lst ((wkv ws).map fun e=>V.ref e.2.1))
  have hk9:=jwf_ fun e he=>s9 _ _ (sh8.ks e he)
  have s39:=sh8.sm.trans s9
  have hlH:H l=none:=(s03.trans sh8.sm).free hl
  generalize upd H8 l (.lst ((wkv ws).map fun e=>V.ref e.2.1))=H9 at s9 el9 hk9 s39 ⊢
  walk_at "go"
  intro r hr9
  have s10:=jc_ hr9 (.tup [.str (S jle_),.ref l])
  exact ts r l _ _ _ sr8.all ((s03.trans s39).free hr9) hlH jb_ (s10 _ _ el9) (IsL.same s10 hk9) ((s03.trans s39).trans s10)
 | cons e0 wq =>
  obtain⟨v,av⟩:=e0
  refine jlp_ (by simp) ⟨fun σ' H'=>∃ m',m' < 2 * (161000 - ws.length)+((v,av)::wq).length/\ApW P w one other L H3 a b x lb wd wt m' σ' H',fun σ' H' h=>h,?_⟩
  have hav:=sh8.qs (v,av) pm_
  obtain⟨e,he,hev⟩:=qb_.mp (sr8.sub (v,av) pm_)
  obtain⟨v',bv,u⟩:=e
  have hev:v'=v:=hev
  subst hev
  have hpu:Path one other L u v':=sr8.path _ he
  have hul:u.length+1<=ws.length:=sr8.len _ he
  have hgv:=hpu.good sm1 sm2
  have sr9:=sr8.pop
  have sh9:=sh8.pop hwt3
  have hav9:(upd H8 wt (.lst (wq.map fun e=>V.ref e.2))) av=some (.tup (vdat v')):=Tk.lst hwl _ _ _ hav
  walk_at "go"
  refine jvq_ hwl ?_
  generalize upd H8 wt (.lst (wq.map fun e=>V.ref e.2))=H9 at sh9 hav9 ⊢
  have hko9:=jev_ sh9.ks
  have hval:=jud_ sr9.nd he
  walk_at "go"
  refine jwe_ ?_
  walk_at "go"
  refine⟨wd,.str (S u),rfl,⟨_,vk v',av,.inl sh9.dx,hko9,rfl,ut_ hav9,hval.symm⟩,?_⟩
  walk_at "go"
  refine⟨x,lb,av,one,other,L,u,v',rfl,hs3.same sh9.sm,sm1.1,sm2.1,hgv.ok sm1 sm2,hav9,sh9.sm _ _ elb,hL27,by have hul:u.length+1<=ws.length:=hul;omega,fun r zs H10 hr10 er10 hz10 s10=>?_⟩
  have sh10:=sh9.new s10
  have hbt:less H9 r H10 wt=none:=jpj_ sh9.wl
  have hzl:=hz10.length
  rw[pb_] at hzl
  have hrt:r≠wt:=fun z=>by rw[z,sh9.wl] at hr10;cases hr10
  have hrd:r≠wd:=fun z=>by rw[z,sh9.dx] at hr10;cases hr10
  have ap0:ApS P w one other L H3 (less H9 r H10) H10 wd wt r zs v' u (2 * (161000 - ws.length)+((v',av)::wq).length) ws wq [] :=
   ⟨sr9,sh10,er10,(jmb_ _ _ _).dat,fun x hx=>(nomatch hx),hul,by rw[ps_];omega⟩
  generalize less H9 r H10=HB at hbt hz10 ap0
  generalize 2 * (161000 - ws.length)+((v',av)::wq).length=m at ap0 ⊢
  walk_at "go"
  refine zy_ (K:=K) (xs:=zs) (fun i σ H'=>∃(ws:List WE) (wq:List (View×Addr)) (x7 x8 x9:Option V),σ=[some (.ref a),some (.ref b),some (.ref x),some (.ref lb),some (.ref wd),some (.ref wt),some (.ref av),x7,x8,x9]/\ApS P w one other L H3 HB H' wd wt r zs v' u m ws wq ((zx_ one other L u v').take i))
   ⟨ws,wq,_,_,_,rfl,ap0⟩ (fun i σ H' _ ⟨_,_,_,_,_,_,h⟩=>SqL.of h.er) ?_ ?_
  ·rintro i y σ H11 hy ⟨ws2,wq2,y7,y8,y9,rfl,ap⟩
   have hi:i < (zx_ one other L u v').length:=by have:=(pq_.mp hy).1;omega
   obtain⟨y',d,hy',hd1,hI⟩:=IsL.get hz10 (show i < ((zx_ one other L u v').map jbz_).length by simpa using hi)
   rw[hy] at hy'
   cases hy'
   rw[pl_,pa_ hi] at hd1
   cases hd1
   have hxm:=px_ hi
   have htk:(zx_ one other L u v').take (i+1)=(zx_ one other L u v').take i++[(zx_ one other L u v')[i]]:=by rw[p3_,pa_ hi];rfl
   rw[htk]
   generalize (zx_ one other L u v')[i]=st at hI hxm ⊢
   obtain⟨sa,sb,lv,lp,ys,us,rfl,esaB,esbB,elvB,elpB,hysB,husB⟩:=jxh_ hI
   have hlvt:lv≠wt:=fun z=>by rw[z,hbt] at elvB;cases elvB
   have esa:=ap.dat.2.1 _ _ esaB
   have esb:=ap.dat.2.1 _ _ esbB
   have elv:=ap.dat.1 _ _ elvB
   have elp:=ap.dat.1 _ _ elpB
   have hys:=IsL.dat ap.dat hysB
   have hus:=IsL.dat ap.dat husB
   obtain⟨hs1,hs2,hs3'⟩:=jio_ hpu hxm
   obtain⟨hc1,hc2⟩:=jfy_ hxm
   refine jbu_ esa rfl (yn_ (y1_ (yn_ (y1_ (jbl_ ?_)))))
   walk_at "go"
   refine⟨lp,us,st.2.2,rfl,elp,hus,by omega,fun H12 s12=>?_⟩
   have ap12:=ap.new s12
   by_cases hodd:st.2.2.any odd2=true
   ·rw[hodd]
    walk_at "go"
    intro rr hrr
    have s13:=jc_ hrr (.tup [.str (S jkj_),.str (S st.1)])
    have s33:=s03.trans ap12.sh.sm
    refine tw rr st.1 _ (hLd▸hs3' hodd) ?_ (s33.free hrr) jb_ (s33.trans s13)
    have:=ap12.sr.few sm1 sm2
    have:=ap12.ul
    omega
   ·rw[rv_] at hodd
    rw[hodd]
    have esb12:=s12 _ _ esb
    have elv12:=s12 _ _ elv
    have hys12:=IsL.same s12 hys
    walk_at "go"
    have hyl:=hys.length
    rw[pb_] at hyl
    refine zy_ (K:=K) (xs:=ys) (fun j σ H'=>∃(ws:List WE) (wq:List (View×Addr)) (x9:Option V),σ=[some (.ref a),some (.ref b),some (.ref x),some (.ref lb),some (.ref wd),some (.ref wt),some (.ref av),some (.str (S st.1)),some (.ref sb),x9]/\ApS P w one other L H3 HB H' wd wt r zs v' u m ws wq ((zx_ one other L u v').take i)/\(∀ z∈st.2.1.take j,z∈ws.map (·.1))/\H' lv=some (.lst ys)/\L2.IsL H' ys (st.2.1.map z3_))
     ⟨ws2,wq2,_,rfl,ap12,fun z hz=>(nomatch hz),elv12,hys12⟩ (fun j σ H' _ ⟨_,_,_,_,_,_,h,_⟩=>SqL.of h) ?_ ?_
    ·rintro j z σ H13 hz ⟨ws3,wq3,z9,rfl,ap3,hin,elv13,hys13⟩
     have hj:j < st.2.1.length:=by have:=(pq_.mp hz).1;omega
     obtain⟨z',d,hz',hd1,hI⟩:=IsL.get hys13 (show j < (st.2.1.map z3_).length by simpa using hj)
     rw[hz] at hz'
     cases hz'
     rw[pl_,pa_ hj] at hd1
     cases hd1
     obtain⟨la,rfl,ela⟩:=job_ hI
     have ela:H13 la=some (.tup (vdat st.2.1[j])):=ela
     have htk2:st.2.1.take (j+1)=st.2.1.take j++[st.2.1[j]]:=by rw[p3_,pa_ hj];rfl
     have hpl:=hs2 _ (px_ hj)
     rw[htk2]
     generalize st.2.1[j]=lt at ela hpl ⊢
     have hko13:=jev_ ap3.sh.ks
     have few3:=ap3.sr.few sm1 sm2
     walk_at "go"
     refine i_tB (jgx_ ?_)
     walk_at "go"
     refine⟨wd,_,rfl,⟨_,vk lt,la,.inl ap3.sh.dx,hko13,rfl,ut_ ela,rfl⟩,_,rfl,?_⟩
     by_cases hlt:lt∈ws3.map (·.1)
     ·have hsome:(valX (wkv ws3) (vk lt)).isSome=true:=by
       cases hv:valX (wkv ws3) (vk lt) with
       | none=>exact absurd hlt (wkv_none.mp hv)
       | some _=>rfl
      rw[hsome]
      walk_at "go"
      exact⟨ws3,wq3,_,rfl,ap3,fun z hz=>(pe_.mp hz).elim (hin z) fun h=>by rw[ph_.mp h];exact hlt,elv13,hys13⟩
     ·rw[wkv_none.mpr hlt]
      walk_at "go"
      refine jpx_ ?_
      walk_at "go"
      refine⟨wd,_,rfl,⟨_,vk lt,la,ap3.sh.dx,hko13,rfl,ut_ ela,szlt (by rw[jsr_];omega),rfl⟩,?_⟩
      rw[jtx_ hlt]
      have hwl13:(upd H13 wd (DX viewKind P w wd (wkv (ws3++[(lt,la,st.1)])))) wt=some (.lst (wq3.map fun e=>V.ref e.2)):=by rw[ji_ (tq_ ap3.sh.ne)];exact ap3.sh.wl
      have hql:=ap3.sr.ql
      have sh14:=ap3.sh.put (u:=st.1) hwt3 hwd ela
      have ul3:=ap3.ul
      have sr14:=ap3.sr.put (b:=la) hlt hpl (by omega)
      have few14:=sr14.few sm1 sm2
      rw[pg_,p8_] at few14
      have ms3:=ap3.ms
      have hlvd:lv≠wd:=fun z=>by rw[z,ap3.sh.dx] at elv13;cases elv13
      have tk14:=ap3.sh.tup (x:=DX viewKind P w wd (wkv (ws3++[(lt,la,st.1)]))) (y:=.lst ((wq3++[(lt,la)]).map fun e=>V.ref e.2))
      walk_at "go"
      refine jen_ hwl13 (szlt (by rw[pb_];omega)) ?_
      have happ:wq3.map (fun e=>V.ref e.2)++[V.ref la]=(wq3++[(lt,la)]).map fun e=>V.ref e.2:=by rw[pk_];rfl
      rw[happ]
      have er14:(upd (upd H13 wd (DX viewKind P w wd (wkv (ws3++[(lt,la,st.1)])))) wt (.lst ((wq3++[(lt,la)]).map fun e=>V.ref e.2))) r=some (.lst zs):=by rw[ji_ hrt,ji_ hrd];exact ap3.er
      have elv14:lv≠wt->(upd (upd H13 wd (DX viewKind P w wd (wkv (ws3++[(lt,la,st.1)])))) wt (.lst ((wq3++[(lt,la)]).map fun e=>V.ref e.2))) lv=some (.lst ys):=fun h=>by rw[ji_ h,ji_ hlvd];exact elv13
      have dat14:Dat HB (upd (upd H13 wd (DX viewKind P w wd (wkv (ws3++[(lt,la,st.1)])))) wt (.lst ((wq3++[(lt,la)]).map fun e=>V.ref e.2))):=by
       refine⟨fun c o e=>?_,fun c o e=>?_,fun c o e=>?_⟩
       ·have h1:=ap3.dat.1 c o e
        rw[ji_ (fun z=>by rw[z,hbt] at e;cases e),ji_ (fun z=>by rw[z,ap3.sh.dx] at h1;cases h1)];exact h1
       ·have h1:=ap3.dat.2.1 c o e
        rw[ji_ (fun z=>by rw[z,hbt] at e;cases e),ji_ (fun z=>by rw[z,ap3.sh.dx] at h1;cases h1)];exact h1
       ·have h1:=ap3.dat.2.2 c o e
        rw[ji_ (fun z=>by rw[z,hbt] at e;cases e),ji_ (fun z=>by rw[z,ap3.sh.dx] at h1;cases h1)];exact h1
      have hys14:=IsL.tk tk14 (v0_ _) hys13
      generalize upd (upd H13 wd (DX viewKind P w wd (wkv (ws3++[(lt,la,st.1)])))) wt (.lst ((wq3++[(lt,la)]).map fun e=>V.ref e.2))=H14 at sh14 tk14 er14 elv14 dat14 hys14 ⊢
      walk_at "go"
      have hmem:∀ y,y∈ws3.map (·.1)->y∈(ws3++[(lt,la,st.1)]).map (·.1):=fun y hy=>by rw[pk_];exact pe_.mpr (.inl hy)
      refine⟨ws3++[(lt,la,st.1)],wq3++[(lt,la)],_,rfl,⟨sr14,sh14,er14,dat14,fun q hq=>⟨(ap3.dn q hq).1,fun y hy=>hmem y ((ap3.dn q hq).2 y hy)⟩,by rw[pg_];omega,by rw[pg_,pg_,p8_,p8_];omega⟩,fun z hz=>?_,elv14 hlvt,hys14⟩
      rcases pe_.mp hz with hz | hz
      ·exact hmem z (hin z hz)
      ·rw[ph_.mp hz,pk_]
       exact pe_.mpr (.inr (ph_.mpr rfl))
    ·rintro σ H13 ⟨ws3,wq3,z9,rfl,ap3,hin,elv13,hys13⟩
     rw[hyl,py_] at hin
     refine⟨ws3,wq3,_,_,_,rfl,ap3.sr,ap3.sh,ap3.er,ap3.dat,fun q hq=>?_,ap3.ul,ap3.ms⟩
     rcases pe_.mp hq with hq | hq
     ·exact ap3.dn q hq
     ·rw[ph_.mp hq];exact⟨hodd,hin⟩
  ·rintro σ H11 ⟨ws2,wq2,y7,y8,y9,rfl,ap⟩
   have hdn:=ap.dn
   rw[hzl,py_] at hdn
   exact⟨_,Nat.lt_of_succ_le ap.ms,ws2,wq2,_,_,_,_,rfl,ap.sr.end (jiy_ hdn),ap.sh,rfl⟩
end
noncomputable abbrev s_law_row:Stmt:=top 17
theorem sc_law_row:FnScope ["_law_script","_law_at","_law_bounds","_law_cell","_law_rest","_law_found","_law_k","_law_mixed"] ["_law_script","_law_at","_law_bounds"] (jm_ s_law_row):=by walk_at "f"
noncomputable abbrev s_law_letters:Stmt:=top 18
theorem sc_law_letters:FnScope ["_law_numbers","_law_letters_here","_law_step_here"] ["_law_numbers"] (jm_ s_law_letters):=by walk_at "f"
noncomputable abbrev s_law_pattern:Stmt:=top 19
theorem sc_law_pattern:FnScope ["_law_script","_law_at","_law_letters_here","_law_told","_law_signs_here","_law_numbers"] ["_law_script","_law_at","_law_letters_here"] (jm_ s_law_pattern):=by walk_at "f"
def jco_ (K:pc_):Sp:=fun vs H Q _=>∃(a:Addr) (ns:List Int) (k:Nat) (b:Addr) (bs:List Int),vs=[.ref a,.int (k:Int),.ref b]/\SqL K H a (ns.map V.int)/\k < 1000/\H b=some (.lst (bs.map V.int))/\bs.length<=100/\(∀ x∈bs,0 < x/\x < 1000000) /\
 ∀(r:Addr) (ds:List Int) (H':Hp),H r=none->H' r=some (.lst (ds.map V.int))->ds.length=bs.length->(∀(j:Nat) d c,ds[j]?=some d->bs[j]?=some c->0<=d/\d < c)->Same H H'->Q (.ref r) H'
noncomputable def lets (l:List Nat):List V:=l.map fun c=>V.str (S [c])
def jip_:Sp:=fun vs H Q _=>∃(a:Addr) (x y z:Int),vs=[.ref a]/\H a=some (.lst [.int x,.int y,.int z])/\0<=x/\x < 26/\0<=y/\y < 6/\0<=z/\z < 3 /\
 ∀(r:Addr) (l:List Nat) (H':Hp),H r=none->H' r=some (.lst (lets l))->Low l->3<=l.length->l.length<=5->Same H H'->Q (.ref r) H'
def jqz_ (K:pc_):Sp:=fun vs H Q _=>∃(a:Addr) (ns:List Int) (k:Nat) (b:Addr) (l:List Nat),vs=[.ref a,.int (k:Int),.ref b]/\SqL K H a (ns.map V.int)/\k < 1000/\H b=some (.lst (lets l))/\Low l/\1<=l.length/\l.length<=26 /\
 ∀(v:V) (x:Pat) (H':Hp),Is H' v (patD x)->GP x->x.1.length<=6->Same H H'->Q v H'
theorem jou_ {l:List Nat}(h:Low l):∀ c∈l,c < 128:=fun c hc=>by
 have:=h c hc
 unfold jkk_ at this
 simp at this
 omega
section
variable {P:Program}{w:World}{K:pc_}{mg:Str->Option Value}{base:Heap}{f:Addr}{fd:FuncData}{tk:Nat->Tok}
theorem jhx_ (T:Txt mg tk)(F:Fun K "_law_row" "_law_row" s_law_row f fd):FnOk P w K mg base CX0 1 f fd ["_law_script","_law_at","_law_bounds"] (jco_ K):=by
 refine F.ok sc_law_row (fun vs H Q E h=>?_) (fun cdv A outer s H vs Q E hr h=>?_)
 ·obtain⟨a,ns,k,b,bs,rfl,_⟩:=h
  rfl
 obtain⟨a,ns,k,b,bs,rfl,hS,hk,hb,hbl,hbs,q⟩:=h
 have nd:=sc_law_row.nd
 refine⟨_,(jf_ (jl_ (i:=3) nd rfl (Or.inl rfl) jd_)
  (jf_ (zr_ (ju_ o_lt (pv 1) (jo_ (zq_ (K:=K)) rfl T.z_len (by decide +kernel) (ja_ (pv 0) je_)) (j6_ _))
   (jg_ (jl_ (i:=3) nd rfl (Or.inl rfl) (jj_ (jh_ (K:=K)) (pv 0) (pv 1) (fun _ _=>rfl))))
   j5_)
  (jf_ (jl_ (i:=4) nd rfl (Or.inl rfl) (jk_ uf_ (pv 3) (jk_ jrc_ jd_ jd_)))
  (jf_ (jl_ (i:=5) nd rfl (Or.inl rfl) (j0_ je_))
  (jf_ (zo_ p5_ rfl (z5_ rfl T.z_range (ja_ (jo_ (zq_ (K:=K)) rfl T.z_len (by decide +kernel) (ja_ (pv 2) je_)) je_)) (jn_ (i:=6) nd rfl (Or.inl rfl))
   (jg_ (zr_ (ju_ o_ge (pv 3) (jk_ jrc_ jd_ jd_) (j6_ _))
   (jf_ (ys_ (yg_ (K:=K) qf_ q8_ q9_ yv_ (pv 5) (ja_ (jk_ yf_ (pv 4) (jj_ (jh_ (K:=K)) (pv 2) (pv 6) (fun _ _=>rfl))) je_)))
  (jg_ (jl_ (i:=4) nd rfl (Or.inl rfl) (jk_ jim_ (pv 4) (jj_ (jh_ (K:=K)) (pv 2) (pv 6) (fun _ _=>rfl))))))
   (jf_ (jl_ (i:=7) nd rfl (Or.inl rfl) (jk_ jx_ (jk_ jx_ (jk_ x0_ (jk_ jx_ (jk_ yf_ (pv 3) jd_) jd_) jd_) (jk_ x0_ (jk_ x0_ (jk_ jx_ (pv 6) jd_) (jk_ jx_ (pv 6) jd_)) jd_)) (jk_ x0_ (pv 1) jd_)))
  (jf_ (jl_ (i:=7) nd rfl (Or.inl rfl) (jk_ jim_ (jk_ yf_ (jk_ x0_ (jk_ yf_ (pv 7) jd_) jd_) jd_) jd_))
  (jg_ (ys_ (yg_ (K:=K) qf_ q8_ q9_ yv_ (pv 5) (ja_ (jk_ yf_ (jk_ x0_ (pv 7) (jk_ jrc_ jd_ jd_)) (jj_ (jh_ (K:=K)) (pv 2) (pv 6) (fun _ _=>rfl))) je_)))))))))
  (jg_ (jt_ (pv 5)))))))),?_⟩
 rw[show L2.j7_ ["_law_script","_law_at","_law_bounds","_law_cell","_law_rest","_law_found","_law_k","_law_mixed"] [.ref a,.int (k:Int),.ref b]=[some (.ref a),some (.int (k:Int)),some (.ref b),none,none,none,none,none] from rfl]
 have hlen:(ns.map V.int).length=ns.length:=pb_ _
 have hlen2:(bs.map V.int).length=bs.length:=pb_ _
 walk_at "go"
 refine iteD (fun c=>?_) (fun c=>?_)
 ·rw[hlen] at c
  have hix:k < ns.length:=by omega
  walk_at "go"
  refine jux_ (v:=.int ns[k]) hS ?_ ?_
  ·exact zg_ (by omega) (by rw[pl_,show ((k:Int)).toNat=k by omega,pa_ hix];rfl)
  walk_at "go"
  intro r hr0
  have s1:=jc_ hr0 (.lst [])
  have hb1:=s1 _ _ hb
  walk_at "go"
  rw[hlen2]
  walk_at "go"
  refine zu_ (fun i σ H'=>∃(cell rest:Int) (v6 v7:Option V) (ds:List Int),σ=[some (.ref a),some (.int (k:Int)),some (.ref b),some (.int cell),some (.int rest),some (.ref r),v6,v7]/\ds.length=i/\(∀(j:Nat) d c,ds[j]?=some d->bs[j]?=some c->0<=d/\d < c)/\H' r=some (.lst (ds.map V.int))/\Same H H')
   ⟨_,_,none,none,[],rfl,rfl,(fun j d c e=>by simp at e),jb_,s1⟩ ?_ ?_
  ·rintro i σ H1 hi ⟨cell,rest,v6,v7,ds,rfl,hdl,hds,e1,s2⟩
   have hil:i < bs.length:=by omega
   have hb2:=s2 _ _ hb
   obtain⟨hc0,hc1⟩:=hbs _ (px_ hil)
   have hdl2:(ds.map V.int).length < 1000000:=by rw[pb_];omega
   have hbi:atI (bs.map V.int) (0+(i:Int))=some (.int bs[i]):=zg_ (by omega) (by rw[show (0+(i:Int)).toNat=i by omega,pl_,pa_ hil];rfl)
   have hbe:bs[i]?=some bs[i]:=pa_ hil
   generalize bs[i]=m at hc0 hc1 hbi hbe
   have key:∀ d:Int,0<=d->d < m->(∀(j:Nat) d' c,(ds++[d])[j]?=some d'->bs[j]?=some c->0<=d'/\d' < c)/\(ds++[d]).length=i+1/\(upd H1 r (.lst (ds.map V.int++[.int d]))) r=some (.lst ((ds++[d]).map V.int))/\Same H (upd H1 r (.lst (ds.map V.int++[.int d]))):=fun d h0 h1=>by
    refine⟨fun j d' c e ec=>?_,by simp[hdl],by rw[jb_,pk_];rfl,fun b' o e=>?_⟩
    ·by_cases hj:j < ds.length
     ·rw[r0_ hj] at e
      exact hds j d' c e ec
     ·have hj2:j=ds.length:=by
       have:=(pq_.mp e).1
       simp at this;omega
      subst hj2
      rw[rs_ (po_ _),k8_] at e
      simp only[ws_,k4_] at e
      rw[hdl,hbe] at ec
      cases ec
      subst e
      exact⟨h0,h1⟩
    ·have hbr:b'≠r:=fun z=>by rw[z,hr0] at e;cases e
     rw[ji_ hbr];exact s2 b' o e
   have hcd:CDiv rest m:=⟨hc0,by omega⟩
   have fin:∀ d:Int,0<=d->d < m->∀(cell rest:Int) (v6 v7:Option V),∃(cell' rest':Int) (v6' v7':Option V) (ds':List Int),[some (V.ref a),some (.int (k:Int)),some (.ref b),some (.int cell),some (.int rest),some (.ref r),v6,v7]=[some (V.ref a),some (.int (k:Int)),some (.ref b),some (.int cell'),some (.int rest'),some (.ref r),v6',v7']/\ds'.length=i+1/\(∀(j:Nat) d c,ds'[j]?=some d->bs[j]?=some c->0<=d/\d < c)/\(upd H1 r (.lst (ds.map V.int++[.int d]))) r=some (.lst (ds'.map V.int))/\Same H (upd H1 r (.lst (ds.map V.int++[.int d]))):=fun d h0 h1 cell rest v6 v7=>by
    obtain⟨k1,k2,k3,k4⟩:=key d h0 h1
    exact⟨cell,rest,v6,v7,ds++[d],rfl,k2,k1,k3,k4⟩
   walk_at "go"
   refine iteD (fun c=>?_) (fun c=>?_)
   ·walk_at "go"
    have hb3:=(key (rest % m) (qu_ _ (by omega)) (qp_ _ hc0)).2.2.2 _ _ hb
    walk_at "go"
    exact fin _ (qu_ _ (by omega)) (qp_ _ hc0) _ _ _ _
   ·walk_at "go"
    exact fin _ (qu_ _ (by omega)) (qp_ _ hc0) _ _ _ _
  ·rintro σ H1 ⟨cell,rest,v6,v7,ds,rfl,hdl,hds,e1,s2⟩
   walk_at "go"
   exact q r ds H1 hr0 e1 (by omega) hds s2
 ·skip
  walk_at "go"
  intro r hr0
  have s1:=jc_ hr0 (.lst [])
  have hb1:=s1 _ _ hb
  walk_at "go"
  rw[hlen2]
  walk_at "go"
  refine zu_ (fun i σ H'=>∃(cell rest:Int) (v6 v7:Option V) (ds:List Int),σ=[some (.ref a),some (.int (k:Int)),some (.ref b),some (.int cell),some (.int rest),some (.ref r),v6,v7]/\ds.length=i/\(∀(j:Nat) d c,ds[j]?=some d->bs[j]?=some c->0<=d/\d < c)/\H' r=some (.lst (ds.map V.int))/\Same H H')
   ⟨_,_,none,none,[],rfl,rfl,(fun j d c e=>by simp at e),jb_,s1⟩ ?_ ?_
  ·rintro i σ H1 hi ⟨cell,rest,v6,v7,ds,rfl,hdl,hds,e1,s2⟩
   have hil:i < bs.length:=by omega
   have hb2:=s2 _ _ hb
   obtain⟨hc0,hc1⟩:=hbs _ (px_ hil)
   have hdl2:(ds.map V.int).length < 1000000:=by rw[pb_];omega
   have hbi:atI (bs.map V.int) (0+(i:Int))=some (.int bs[i]):=zg_ (by omega) (by rw[show (0+(i:Int)).toNat=i by omega,pl_,pa_ hil];rfl)
   have hbe:bs[i]?=some bs[i]:=pa_ hil
   generalize bs[i]=m at hc0 hc1 hbi hbe
   have key:∀ d:Int,0<=d->d < m->(∀(j:Nat) d' c,(ds++[d])[j]?=some d'->bs[j]?=some c->0<=d'/\d' < c)/\(ds++[d]).length=i+1/\(upd H1 r (.lst (ds.map V.int++[.int d]))) r=some (.lst ((ds++[d]).map V.int))/\Same H (upd H1 r (.lst (ds.map V.int++[.int d]))):=fun d h0 h1=>by
    refine⟨fun j d' c e ec=>?_,by simp[hdl],by rw[jb_,pk_];rfl,fun b' o e=>?_⟩
    ·by_cases hj:j < ds.length
     ·rw[r0_ hj] at e
      exact hds j d' c e ec
     ·have hj2:j=ds.length:=by
       have:=(pq_.mp e).1
       simp at this;omega
      subst hj2
      rw[rs_ (po_ _),k8_] at e
      simp only[ws_,k4_] at e
      rw[hdl,hbe] at ec
      cases ec
      subst e
      exact⟨h0,h1⟩
    ·have hbr:b'≠r:=fun z=>by rw[z,hr0] at e;cases e
     rw[ji_ hbr];exact s2 b' o e
   have hcd:CDiv rest m:=⟨hc0,by omega⟩
   have fin:∀ d:Int,0<=d->d < m->∀(cell rest:Int) (v6 v7:Option V),∃(cell' rest':Int) (v6' v7':Option V) (ds':List Int),[some (V.ref a),some (.int (k:Int)),some (.ref b),some (.int cell),some (.int rest),some (.ref r),v6,v7]=[some (V.ref a),some (.int (k:Int)),some (.ref b),some (.int cell'),some (.int rest'),some (.ref r),v6',v7']/\ds'.length=i+1/\(∀(j:Nat) d c,ds'[j]?=some d->bs[j]?=some c->0<=d/\d < c)/\(upd H1 r (.lst (ds.map V.int++[.int d]))) r=some (.lst (ds'.map V.int))/\Same H (upd H1 r (.lst (ds.map V.int++[.int d]))):=fun d h0 h1 cell rest v6 v7=>by
    obtain⟨k1,k2,k3,k4⟩:=key d h0 h1
    exact⟨cell,rest,v6,v7,ds++[d],rfl,k2,k1,k3,k4⟩
   walk_at "go"
   refine iteD (fun c=>?_) (fun c=>?_)
   ·walk_at "go"
    have hb3:=(key (rest % m) (qu_ _ (by omega)) (qp_ _ hc0)).2.2.2 _ _ hb
    walk_at "go"
    exact fin _ (qu_ _ (by omega)) (qp_ _ hc0) _ _ _ _
   ·walk_at "go"
    exact fin _ (qu_ _ (by omega)) (qp_ _ hc0) _ _ _ _
  ·rintro σ H1 ⟨cell,rest,v6,v7,ds,rfl,hdl,hds,e1,s2⟩
   walk_at "go"
   exact q r ds H1 hr0 e1 (by omega) hds s2
theorem jay_ (T:Txt mg tk)(F:Fun K "_law_letters" "_law_letters" s_law_letters f fd):FnOk P w K mg base CX0 1 f fd ["_law_numbers"] jip_:=by
 refine F.ok sc_law_letters (fun vs H Q E h=>?_) (fun cdv A outer s H vs Q E hr h=>?_)
 ·obtain⟨a,x,y,z,rfl,_⟩:=h
  rfl
 obtain⟨a,x,y,z,rfl,ha,hx0,hx1,hy0,hy1,hz0,hz1,q⟩:=h
 have nd:=sc_law_letters.nd
 refine⟨_,(jf_ (jl_ (i:=1) nd rfl (Or.inr rfl) zh_)
  (jf_ (jl_ (i:=2) nd rfl (Or.inr rfl) (jj_ (jh_ (K:=K)) (j0_ (ja_ jd_ (ja_ jd_ (ja_ jd_ (ja_ jd_ (ja_ jd_ (ja_ jd_ je_))))))) (jj_ (jh_ (K:=K)) (pv 0) jd_ (fun _ _=>rfl)) (fun _ _=>rfl)))
  (jg_ (jt_ (zs_ ["_law_letters_here","_law_numbers","_law_step_here","_law_k"] [some 1,some 0,some 2,none] rfl (by kernel_rfl) rfl (z5_ rfl T.z_range (ja_ (jk_ jx_ jd_ (jj_ (jh_ (K:=K)) (pv 0) jd_ (fun _ _=>rfl))) je_)) (fun _ _ _ _=>(jn_ (i:=3) (show (["_law_letters_here","_law_numbers","_law_step_here","_law_k"]:List Str).Nodup by decide +kernel) rfl (Or.inl rfl) (Or.inr rfl))) (fun _ _ _ _=>zn_) (fun _ _ _ _=>(jj_ (jh_ (K:=K)) (pv 0) (jk_ yf_ (jk_ jx_ (jj_ (jh_ (K:=K)) (pv 1) jd_ (fun _ _=>rfl)) (jk_ x0_ (pv 2) (pv 3))) jd_) (fun _ _=>rfl)))))))),?_⟩
 rw[show L2.j7_ ["_law_numbers","_law_letters_here","_law_step_here"] [.ref a]=[some (.ref a),none,none] from rfl]
 rw[jpp_]
 walk_at "go"
 intro b hb0
 have s1:=jc_ hb0 (.lst [.int 1,.int 3,.int 5,.int 7,.int 9,.int 11])
 have e1:=jb_ (H:=H) (a:=b) (o:=.lst [.int 1,.int 3,.int 5,.int 7,.int 9,.int 11])
 generalize upd H b (.lst [.int 1,.int 3,.int 5,.int 7,.int 9,.int 11])=H1 at s1 e1 ⊢
 have ha1:=s1 _ _ ha
 walk_at "go"
 obtain⟨st,hst,hst1,hst2⟩:∃ st:Int,atI [V.int 1,V.int 3,V.int 5,V.int 7,V.int 9,V.int 11] y=some (.int st)/\1<=st/\st<=11:=by
  have:y=0∨y=1∨y=2∨y=3∨y=4∨y=5:=by omega
  rcases this with rfl | rfl | rfl | rfl | rfl | rfl
  ·exact⟨1,by decide +kernel,by decide,by decide⟩
  ·exact⟨3,by decide +kernel,by decide,by decide⟩
  ·exact⟨5,by decide +kernel,by decide,by decide⟩
  ·exact⟨7,by decide +kernel,by decide,by decide⟩
  ·exact⟨9,by decide +kernel,by decide,by decide⟩
  ·exact⟨11,by decide +kernel,by decide,by decide⟩
 refine xa_ (jr_ e1) hst ?_
 walk_at "go"
 intro r hr0
 refine v2_ (fun i acc σ H'=>∃(v:Option V) (ws:List Nat),σ=[some (.str (S LETL)),some (.ref a),some (.int st),v]/\acc=lets ws/\ws.length=i/\Low ws/\Same H H'/\H' r=some (.lst acc))
  ⟨none,[],rfl,rfl,rfl,(fun c hc=>nomatch hc),s1.trans (jc_ hr0 _),jb_⟩ (fun i acc σ H' ⟨_,ws,_,e,e1,_,_,e2⟩=>⟨e2,by rw[e,lets,pb_];omega⟩) (szn (by omega)) ?_ ?_
 ·rintro i acc σ H' hi ⟨v,ws,rfl,rfl,hw1,hw2,s2,e2⟩
  have hll:(S LETL).length<=sizeLine:=szn (by rw[js_];decide)
  have ha2:=s2 _ _ ha
  walk_at "go"
  have hl:LETL.length=26:=rfl
  have hc0:=qu_ (x+st * (0+(i:Int))) (show (26:Int)≠0 by decide)
  have hc1:=qp_ (x+st * (0+(i:Int))) (show (0:Int) < 26 by decide)
  generalize (x+st * (0+(i:Int))) % 26=c at hc0 hc1 ⊢
  have hcl:c.toNat < LETL.length:=by omega
  refine y6_ (c:=LETL[c.toNat]) hll (zg_ hc0 (by rw[x2_];simp[hcl])) ?_
  refine⟨e2,_,ws++[LETL[c.toNat]],rfl,by rw[lets,lets,pk_];rfl,by rw[pg_,hw1];rfl,vy_ hw2 (fun x hx=>?_),fun b o e=>?_,jb_⟩
  ·have:x=LETL[c.toNat]:=by simpa using hx
   rw[this]
   exact jon_ _ (px_ _)
  ·have hbr:b≠r:=fun z=>by
    rw[z] at e
    have:=s1 _ _ e
    rw[hr0] at this;cases this
   rw[ji_ hbr];exact s2 b o e
 ·rintro acc σ H' ⟨v,ws,rfl,rfl,hw1,hw2,s2,e2⟩
  exact q r ws H' (s1.free hr0) e2 hw2 (by omega) (by omega) s2
theorem jcb_ (T:Txt mg tk)(F:Fun K "_law_pattern" "_law_pattern" s_law_pattern f fd)(D_law_row:Dn P w K mg base "_law_row" 1 ["_law_script","_law_at","_law_bounds"] (jco_ K)):FnOk P w K mg base CX0 2 f fd ["_law_script","_law_at","_law_letters_here"] (jqz_ K):=by
 refine F.ok sc_law_pattern (fun vs H Q E h=>?_) (fun cdv A outer s H vs Q E hr h=>?_)
 ·obtain⟨a,ns,k,b,l,rfl,_⟩:=h
  rfl
 obtain⟨a,ns,k,b,l,rfl,hS,hk,hb,hl,hl1,hl2,q⟩:=h
 have nd:=sc_law_pattern.nd
 refine⟨_,(jf_ (jl_ (i:=3) nd rfl (Or.inr rfl) (jq_ D_law_row hr.mo_ rfl (ja_ (pv 0) (ja_ (pv 1) (ja_ (jk_ jx_ (jk_ jx_ (j0_ (ja_ jd_ (ja_ jd_ je_))) (jk_ x0_ (j0_ (ja_ jd_ je_)) jd_)) (jk_ x0_ (j0_ (ja_ jd_ je_)) jd_)) je_)))))
  (jf_ (jl_ (i:=4) nd rfl (Or.inl rfl) (yg_ (K:=K) sh_ tf_ tg_ jfl_ zh_ (ja_ (zs_ ["_law_letters_here","_law_told","_law_k"] [some 2,some 3,none] rfl (by kernel_rfl) rfl (z5_ rfl T.z_range (ja_ (jk_ jx_ jd_ (jj_ (jh_ (K:=K)) (pv 3) jd_ (fun _ _=>rfl))) je_)) (fun _ _ _ _=>(jn_ (i:=2) (show (["_law_letters_here","_law_told","_law_k"]:List Str).Nodup by decide +kernel) rfl (Or.inl rfl) (Or.inr rfl))) (fun _ _ _ _=>zn_) (fun _ _ _ _=>(jj_ (jh_ (K:=K)) (pv 0) (jk_ yf_ (jj_ (jh_ (K:=K)) (pv 1) (jk_ jx_ jd_ (pv 2)) (fun _ _=>rfl)) (jo_ (zq_ (K:=K)) rfl T.z_len (by decide +kernel) (ja_ (pv 0) je_))) (fun _ _=>rfl)))) je_)))
  (jf_ (zr_ (ju_ o_in (jj_ (jh_ (K:=K)) (pv 3) jd_ (fun _ _=>rfl)) (zd_ (ja_ jd_ (ja_ jd_ je_))) (by with_unfolding_all rfl))
   (jg_ (jl_ (i:=4) nd rfl (Or.inl rfl) (jk_ jx_ zh_ (pv 4))))
   j5_)
  (jf_ (zr_ (ju_ o_in (jj_ (jh_ (K:=K)) (pv 3) jd_ (fun _ _=>rfl)) (zd_ (ja_ jd_ (ja_ jd_ je_))) (by with_unfolding_all rfl))
   (jg_ (jl_ (i:=4) nd rfl (Or.inl rfl) (jk_ jx_ (pv 4) zh_)))
   j5_)
  (jf_ (xn_ (i:=5) ["_law_number"] [none] rfl (by kernel_rfl) rfl nd rfl rfl (j9_ (K:=K) (zj_ (z7_ (K:=K)) (pv 3) (zk_ jd_) (zk_ (jk_ jx_ jd_ (jo_ (zq_ (K:=K)) rfl T.z_len (by decide +kernel) (ja_ (pv 4) je_)))))) (fun _ _ _ _=>(jn_ (i:=0) (show (["_law_number"]:List Str).Nodup by decide +kernel) rfl (Or.inl rfl) (Or.inr rfl))) (fun _ _ _ _=>zn_) (fun _ _ _ _=>(jk_ x0_ (pv 0) (zz_ jyf_ rfl T.z_int (by decide +kernel) (ja_ (jat_ o_lt (pv 0) jd_ (j6_ _)) je_)))))
  (jf_ (zr_ (ju_ (o_eq hr.units) (jj_ (jh_ (K:=K)) (pv 4) jd_ (fun _ _=>rfl)) zh_ (j6_ _))
   (jg_ (u1_ jd_ (jbs_ (pv 5) jd_ jhp_)))
   j5_)
  (jf_ (zr_ (ju_ (o_eq hr.units) (jj_ (jh_ (K:=K)) (pv 4) (jkm_ jku_ jd_) (fun _ _=>rfl)) zh_ (j6_ _))
   (jg_ (u1_ jd_ (jbs_ (pv 5) (jkm_ jku_ jd_) jhp_)))
   j5_)
  (jg_ (jt_ (zd_ (ja_ (pv 4) (ja_ (zz_ jan_ rfl T.z_tuple (by decide +kernel) (ja_ (pv 5) je_)) je_)))))))))))),?_⟩
 rw[show L2.j7_ ["_law_script","_law_at","_law_letters_here","_law_told","_law_signs_here","_law_numbers"] [.ref a,.int (k:Int),.ref b]=[some (.ref a),some (.int (k:Int)),some (.ref b),none,none,none] from rfl]
 rw[xc_,jaa_]
 walk_at "go"
 intro p1 h1
 walk_at "go"
 intro p2 h2
 walk_at "go"
 refine jia_ jb_ (by decide) fun p3 h3=>?_
 have e31:(upd (upd (upd H p1 (.lst [.int 4,.int 8])) p2 (.lst [.int 4])) p3 (.lst (pr_ (4:Int).toNat (.int 4)))) p1=some (.lst [.int 4,.int 8]):=(jc_ h3 _) _ _ ((jc_ h2 _) _ _ jb_)
 have s3:=((jc_ h1 (.lst [.int 4,.int 8])).trans (jc_ h2 (.lst [.int 4]))).trans (jc_ h3 (.lst (pr_ (4:Int).toNat (.int 4))))
 walk_at "go"
 refine yh_ e31 jb_ (szn (by decide)) fun p4 h4=>?_
 have s4:=s3.trans (jc_ h4 (.lst ([.int 4,.int 8]++pr_ (4:Int).toNat (.int 4))))
 have e4:=jb_ (H:=upd (upd (upd H p1 (.lst [.int 4,.int 8])) p2 (.lst [.int 4])) p3 (.lst (pr_ (4:Int).toNat (.int 4)))) (a:=p4) (o:=.lst ([.int 4,.int 8]++pr_ (4:Int).toNat (.int 4)))
 generalize upd (upd (upd (upd H p1 (.lst [.int 4,.int 8])) p2 (.lst [.int 4])) p3 (.lst (pr_ (4:Int).toNat (.int 4)))) p4 (.lst ([.int 4,.int 8]++pr_ (4:Int).toNat (.int 4)))=H4 at s4 e4 ⊢
 walk_at "go"
 intro p5 h5
 walk_at "go"
 refine jia_ jb_ (by decide) fun p6 h6=>?_
 have e64:(upd (upd H4 p5 (.lst [.int 14])) p6 (.lst (pr_ (7:Int).toNat (.int 14)))) p4=_:=(jc_ h6 _) _ _ ((jc_ h5 _) _ _ e4)
 have s6:=(s4.trans (jc_ h5 (.lst [.int 14]))).trans (jc_ h6 (.lst (pr_ (7:Int).toNat (.int 14))))
 walk_at "go"
 refine yh_ e64 jb_ (szn (by decide)) fun p7 h7=>?_
 have s7:=s6.trans (jc_ h7 (.lst (([.int 4,.int 8]++pr_ (4:Int).toNat (.int 4))++pr_ (7:Int).toNat (.int 14))))
 have e7:=jb_ (H:=upd (upd H4 p5 (.lst [.int 14])) p6 (.lst (pr_ (7:Int).toNat (.int 14)))) (a:=p7) (o:=.lst (([.int 4,.int 8]++pr_ (4:Int).toNat (.int 4))++pr_ (7:Int).toNat (.int 14)))
 generalize upd (upd (upd H4 p5 (.lst [.int 14])) p6 (.lst (pr_ (7:Int).toNat (.int 14)))) p7 (.lst (([.int 4,.int 8]++pr_ (4:Int).toNat (.int 4))++pr_ (7:Int).toNat (.int 14)))=H7 at s7 e7 ⊢
 have e7:H7 p7=some (.lst ([4,8,4,4,4,4,14,14,14,14,14,14,14].map V.int)):=e7
 clear e64 s6 h6 h5 e4 s4 h4 s3 e31 h3 h2 h1
 walk_at "go"
 refine⟨a,ns,k,p7,[4,8,4,4,4,4,14,14,14,14,14,14,14],rfl,s7.seq hS,hk,e7,by decide,by decide,fun t ds H1 ht0 et hdl hds s8=>?_⟩
 have hdl:ds.length=13:=hdl
 have s1:=s7.trans s8
 have hb1:=s1 _ _ hb
 clear s8 s7 e7 ht0
 have hg:∀(j:Nat) (h:j < ds.length),0<=ds[j]/\ds[j] < 14:=fun j h=>by
  have hj:j < [4,8,4,4,4,4,14,14,14,14,14,14,(14:Int)].length:=by rw[hdl] at h;exact h
  obtain⟨x1,x2⟩:=hds j ds[j] [4,8,4,4,4,4,14,14,14,14,14,14,(14:Int)][j] (pa_ h) (pa_ hj)
  have:∀ j (h:j < [4,8,4,4,4,4,14,14,14,14,14,14,(14:Int)].length),[4,8,4,4,4,4,14,14,14,14,14,14,(14:Int)][j]<=14:=by decide
  have:=this j hj
  exact⟨x1,by omega⟩
 obtain⟨hd0,hd1⟩:=hds 0 (ds[0]'(by omega)) 4 (pa_ _) rfl
 have ad0:atI (ds.map V.int) 0=some (.int (ds[0]'(by omega))):=zg_ (by decide) (by rw[pl_];show Option.map V.int ds[0]?=_;rw[pa_ (by omega)];rfl)
 have ad1:atI (ds.map V.int) 1=some (.int (ds[1]'(by omega))):=zg_ (by decide) (by rw[pl_];show Option.map V.int ds[1]?=_;rw[pa_ (by omega)];rfl)
 generalize (ds[0]'(by omega))=d0 at hd0 hd1 ad0
 generalize (ds[1]'(by omega))=d1 at ad1
 walk_at "go"
 intro r hr0
 have hll:(lets l).length=l.length:=by rw[lets,pb_]
 refine v2_ (fun i acc σ H'=>∃(v:Option V) (ws:List Nat),σ=[some (.ref b),some (.ref t),v]/\acc=lets ws/\ws.length=i/\Low ws/\Same H1 H'/\H' r=some (.lst acc))
  ⟨none,[],rfl,rfl,rfl,(fun c hc=>nomatch hc),jc_ hr0 _,jb_⟩ (fun i acc σ H' ⟨_,ws,_,e,e1,_,_,e2⟩=>⟨e2,by rw[e,lets,pb_];omega⟩) (szn (by omega)) ?_ ?_
 ·rintro i acc σ H' hi ⟨v,ws,rfl,rfl,hw1,hw2,s2,e2⟩
  have hb2:=s2 _ _ hb1
  have et2:=s2 _ _ et
  have hjl:2+i < ds.length:=by omega
  obtain⟨hx0,hx1⟩:=hg (2+i) hjl
  have adx:atI (ds.map V.int) (2+(0+(i:Int)))=some (.int ds[2+i]):=zg_ (by omega) (by rw[show (2+(0+(i:Int))).toNat=2+i by omega,pl_,pa_ hjl];rfl)
  generalize ds[2+i]=dx at hx0 hx1 adx
  walk_at "go"
  rw[hll]
  have hc0:=qu_ dx (show (l.length:Int)≠0 by omega)
  have hc1:=qp_ dx (show (0:Int) < (l.length:Int) by omega)
  generalize dx % (l.length:Int)=c at hc0 hc1 ⊢
  have hcl:c.toNat < l.length:=by omega
  refine xa_ (v:=.str (S [l[c.toNat]])) (jr_ hb2) (zg_ hc0 (by rw[lets,pl_,pa_ hcl];rfl)) ?_
  refine⟨e2,_,ws++[l[c.toNat]],rfl,by rw[lets,lets,pk_];rfl,by rw[pg_,hw1];rfl,vy_ hw2 (fun x hx=>?_),fun b o e=>?_,jb_⟩
  ·have:x=l[c.toNat]:=by simpa using hx
   rw[this]
   exact hl _ (px_ _)
  ·have hbr:b≠r:=fun z=>by rw[z,hr0] at e;cases e
   rw[ji_ hbr];exact s2 b o e
 ·rintro acc σ H2 ⟨v,ws,rfl,rfl,hw1,hw2,s2,e2⟩
  have et2:=s2 _ _ et
  walk_at "go"
  have hs:=jko_ ws
  refine jje_ (ys:=ws.map fun c=>S [c]) (by rw[<- jlb_];exact ym_ e2) ?_ ?_
  ·rw[hs,pb_,js_]
   simp only[qm_,lb_]
   omega
  rw[jbv_]
  have hws:1<=ws.length/\ws.length<=4:=by omega
  have hwc:=jou_ hw2
  have s12:=s1.trans s2
  clear hs e2 hw1 hr0 s2
  walk_at "go"
  intro c1 hc1
  have s3:=jc_ hc1 (.tup [.int 1,.int 3])
  have et3:=s3 _ _ et2
  refine jli_ (yi_ jb_) ⟨rfl,rfl⟩ ?_
  have s13:=s12.trans s3
  generalize upd H2 c1 (.tup [.int 1,.int 3])=H3 at s3 et3 s13 ⊢
  walk_at "go"
  refine iteB (fun q1=>?_) (fun q1=>?_)
  ·walk_at "go"
   have hw':1<=([46]++ws).length/\([46]++ws).length<=5:=by simp only[pg_,ps_,qm_];omega
   have hwc':∀ c∈[46]++ws,c < 128:=fun c hc=>by
    rcases pe_.mp hc with h | h
    ·have:c=46:=by simpa using h
     omega
    ·exact hwc c h
   generalize [46]++ws=w1 at hw' hwc' ⊢
   intro c2 hc2
   have s4:=jc_ hc2 (.tup [.int 2,.int 3])
   have et4:=s4 _ _ et3
   refine jli_ (yi_ jb_) ⟨rfl,rfl⟩ ?_
   have s14:=s13.trans s4
   generalize upd H3 c2 (.tup [.int 2,.int 3])=H4 at s4 et4 s14 ⊢
   walk_at "go"
   refine iteB (fun q2=>?_) (fun q2=>?_)
   ·walk_at "go"
    have hw2':1<=(w1++[46]).length/\(w1++[46]).length<=6:=by simp only[pg_,ps_,qm_];omega
    have hwc2:∀ c∈w1++[46],c < 128:=fun c hc=>by
     rcases pe_.mp hc with h | h
     ·exact hwc' c h
     ·have:c=46:=by simpa using h
      omega
    generalize w1++[46]=w2 at hw2' hwc2 ⊢
    refine vq_ (SqL.of et4) fun g hg0=>?_
    rw[xq_,y2_]
    have hcl:=yk_ ds (some 6) (some (7+(w2.length:Int)))
    have hx1:sx ds.length 0 (some 6)=6:=by simp only[sx];rw[if_neg (by decide)];show min 6 ds.length=6;omega
    have hx2:sx ds.length ds.length (some (7+(w2.length:Int)))=7+w2.length:=by simp only[sx];rw[if_neg (by omega)];omega
    rw[hx1,hx2] at hcl
    have hcm:∀ v∈cutA ds (some 6) (some (7+(w2.length:Int))),0<=v/\v < 14:=fun v hv=>by
     have:=rc_ (ql_ hv)
     obtain⟨j,hj,rfl⟩:=rd_.mp this
     exact hg j hj
    generalize cutA ds (some 6) (some (7+(w2.length:Int)))=cs at hcl hcm ⊢
    have s5:=jc_ hg0 (.lst (cs.map V.int))
    have e5:=jb_ (H:=H4) (a:=g) (o:=.lst (cs.map V.int))
    have s15:=s14.trans s5
    generalize upd H4 g (.lst (cs.map V.int))=H5 at s5 e5 s15 ⊢
    walk_at "go"
    intro n hn0
    refine j8_ (K:=K) (xs:=cs.map V.int) (fun j acc σ H'=>∃(v:Option V) (us:List Int),σ=[v]/\acc=us.map V.int/\us.length=j/\(∀ u∈us,0<=u/\u<=9)/\H' n=some (.lst acc)/\Same H5 H')
     (fun j acc σ H' _ ⟨_,_,_,_,_,_,_,s3⟩=>SqL.of (s3 _ _ e5)) ⟨none,[],rfl,rfl,rfl,(fun u hu=>nomatch hu),jb_,jc_ hn0 _⟩ (fun j acc σ H' ⟨_,us,_,e,e1,_,e3,_⟩=>⟨e3,by rw[e,pb_];omega⟩) (szn (by rw[pb_];omega)) ?_ ?_
    ·rintro j acc σ H6 hj ⟨v,us,rfl,rfl,hul,hus,e6,s6⟩
     have hj':j < cs.length:=by simpa using hj
     have hgd:(cs.map V.int).getD j .non=V.int cs[j]:=by
      rw[pf_,pl_,pa_ hj'];rfl
     rw[hgd]
     obtain⟨hu0,hu1⟩:=hcm _ (px_ hj')
     generalize cs[j]=u at hu0 hu1 ⊢
     have hmu:CMul u (if decide (u < 10)=true then 1 else 0):=CMul.l (by omega) (by omega)
     walk_at "go"
     try refine jbp_ hmu ?_
     refine⟨e6,_,us++[u * (if decide (u < 10)=true then 1 else 0)],rfl,by rw[pk_];rfl,by simp[hul],fun x hx=>?_,jb_,fun b' o e=>?_⟩
     ·rcases pe_.mp hx with h | h
      ·exact hus x h
      ·have:x=u * (if decide (u < 10)=true then 1 else 0):=by simpa using h
       rw[this]
       by_cases hu:u < 10
       ·rw[if_pos (decide_eq_true hu)];omega
       ·rw[if_neg (by simp[hu])];omega
     ·have hbr:b'≠n:=fun z=>by rw[z,hn0] at e;cases e
      rw[ji_ hbr];exact s6 b' o e
    ·rintro acc σ H6 ⟨v,us,rfl,rfl,hul,hus,e6,s6⟩
     have hul:us.length=w2.length+1:=by rw[hul,pb_,hcl];omega
     have s16:=s15.trans s6
     have hnH:H n=none:=s15.free hn0
     clear e5 s5 s6 s15 hn0 hcm hcl et4 et3 et2 s14 s13 s12 s4 s3
     have fin:∀(us':List Int) (H7:Hp),us'.length=w2.length+1->(∀ u∈us',0<=u/\u<=9)->Same H H7->H7 n=some (.lst (us'.map V.int))->∀(t':Addr) (H8:Hp),H8 t'=some (.tup (us'.map V.int))->Same H7 H8->∀ p,H8 p=none->Q (.ref p) (upd H8 p (.tup [.str (S w2),.ref t'])):=fun us' H7 h1 h2 h3 h4 t' H8 h5 h6 p hp =>
      q _ (w2,us') _ (yy_ jb_ ((jc_ hp _) _ _ h5)) ⟨hw2'.1,by show w2.length<=22;omega,h1,h2,hwc2⟩ hw2'.2 ((h3.trans h6).trans (jc_ hp _))
     have hset:∀(us':List Int) (j:Nat),(∀ u∈us',0<=u/\u<=9)->∀ u∈us'.set j 0,0<=u/\u<=9:=fun us' j h u hu=>by
      rcases q3_ hu with h' | h'
      ·exact h u h'
      ·subst h';decide
     have hup:∀(H7:Hp) (o:HO),Same H H7->Same H (upd H7 n o):=fun H7 o h b' o' e=>by
      have hbn:b'≠n:=fun z=>by rw[z,hnH] at e;cases e
      rw[ji_ hbn];exact h b' o' e
     have hlw:(S w2).length<=sizeLine:=szn (by rw[js_];omega)
     have hlast:atI (S w2).cps.toList (-1)=some (w2[w2.length - 1]'(by omega)):=by
      unfold atI ixN
      rw[x2_,if_neg (by decide),if_pos (by omega)]
      show w2[(-1+(w2.length:Int)).toNat]?=_
      rw[show (-1+(w2.length:Int)).toNat=w2.length - 1 by omega,pa_]
     have hset1:∀ us':List Int,us'.length=w2.length+1->ixN (us'.map V.int).length (-1)=some w2.length:=fun us' h=>by
      unfold ixN
      rw[pb_,if_neg (by decide),if_pos (by omega)]
      congr 1;omega
     walk_at "go"
     refine y6_ (c:=w2[0]'(by omega)) hlw (zg_ (by decide) (by rw[x2_];show w2[0]?=_;rw[pa_])) ?_
     walk_at "go"
     refine iteD (fun q3=>?_) (fun q3=>?_)
     ·walk_at "go"
      refine y4_ (j:=0) e6 (by unfold ixN;rw[pb_,if_pos (by decide),if_pos (by omega)];rfl) ?_
      rw[show (us.map V.int).set 0 (V.int 0)=(us.set 0 0).map V.int from (ra_ ..).symm]
      have e7:=jb_ (H:=H6) (a:=n) (o:=.lst ((us.set 0 0).map V.int))
      have s17:=hup H6 (.lst ((us.set 0 0).map V.int)) s16
      generalize upd H6 n (.lst ((us.set 0 0).map V.int))=H7 at e7 s17 ⊢
      walk_at "go"
      refine y6_ hlw hlast ?_
      walk_at "go"
      refine iteD (fun q4=>?_) (fun q4=>?_)
      ·walk_at "go"
       refine y4_ (j:=w2.length) e7 (hset1 _ (by rw[p9_];exact hul)) ?_
       rw[show ((us.set 0 0).map V.int).set w2.length (V.int 0)=((us.set 0 0).set w2.length 0).map V.int from (ra_ ..).symm]
       walk_at "go"
       refine za_ (jr_ jb_) fun t' H8 ht' s8=>?_
       walk_at "go"
       exact fin _ _ (by rw[p9_,p9_];exact hul) (hset _ _ (hset _ _ hus)) (hup _ _ s17) jb_ t' H8 ht' s8
      ·walk_at "go"
       refine za_ (jr_ e7) fun t' H8 ht' s8=>?_
       walk_at "go"
       exact fin _ _ (by rw[p9_];exact hul) (hset _ _ hus) s17 e7 t' H8 ht' s8
     ·walk_at "go"
      refine y6_ hlw hlast ?_
      walk_at "go"
      refine iteD (fun q4=>?_) (fun q4=>?_)
      ·walk_at "go"
       refine y4_ (j:=w2.length) e6 (hset1 _ hul) ?_
       rw[show (us.map V.int).set w2.length (V.int 0)=(us.set w2.length 0).map V.int from (ra_ ..).symm]
       walk_at "go"
       refine za_ (jr_ jb_) fun t' H8 ht' s8=>?_
       walk_at "go"
       exact fin _ _ (by rw[p9_];exact hul) (hset _ _ hus) (hup _ _ s16) jb_ t' H8 ht' s8
      ·walk_at "go"
       refine za_ (jr_ e6) fun t' H8 ht' s8=>?_
       walk_at "go"
       exact fin _ _ hul hus s16 e6 t' H8 ht' s8
   ·walk_at "go"
    have hw2':1<=w1.length/\w1.length<=6:=by omega
    have hwc2:=hwc'
    generalize w1=w2 at hw2' hwc2 ⊢
    refine vq_ (SqL.of et4) fun g hg0=>?_
    rw[xq_,y2_]
    have hcl:=yk_ ds (some 6) (some (7+(w2.length:Int)))
    have hx1:sx ds.length 0 (some 6)=6:=by simp only[sx];rw[if_neg (by decide)];show min 6 ds.length=6;omega
    have hx2:sx ds.length ds.length (some (7+(w2.length:Int)))=7+w2.length:=by simp only[sx];rw[if_neg (by omega)];omega
    rw[hx1,hx2] at hcl
    have hcm:∀ v∈cutA ds (some 6) (some (7+(w2.length:Int))),0<=v/\v < 14:=fun v hv=>by
     have:=rc_ (ql_ hv)
     obtain⟨j,hj,rfl⟩:=rd_.mp this
     exact hg j hj
    generalize cutA ds (some 6) (some (7+(w2.length:Int)))=cs at hcl hcm ⊢
    have s5:=jc_ hg0 (.lst (cs.map V.int))
    have e5:=jb_ (H:=H4) (a:=g) (o:=.lst (cs.map V.int))
    have s15:=s14.trans s5
    generalize upd H4 g (.lst (cs.map V.int))=H5 at s5 e5 s15 ⊢
    walk_at "go"
    intro n hn0
    refine j8_ (K:=K) (xs:=cs.map V.int) (fun j acc σ H'=>∃(v:Option V) (us:List Int),σ=[v]/\acc=us.map V.int/\us.length=j/\(∀ u∈us,0<=u/\u<=9)/\H' n=some (.lst acc)/\Same H5 H')
     (fun j acc σ H' _ ⟨_,_,_,_,_,_,_,s3⟩=>SqL.of (s3 _ _ e5)) ⟨none,[],rfl,rfl,rfl,(fun u hu=>nomatch hu),jb_,jc_ hn0 _⟩ (fun j acc σ H' ⟨_,us,_,e,e1,_,e3,_⟩=>⟨e3,by rw[e,pb_];omega⟩) (szn (by rw[pb_];omega)) ?_ ?_
    ·rintro j acc σ H6 hj ⟨v,us,rfl,rfl,hul,hus,e6,s6⟩
     have hj':j < cs.length:=by simpa using hj
     have hgd:(cs.map V.int).getD j .non=V.int cs[j]:=by
      rw[pf_,pl_,pa_ hj'];rfl
     rw[hgd]
     obtain⟨hu0,hu1⟩:=hcm _ (px_ hj')
     generalize cs[j]=u at hu0 hu1 ⊢
     have hmu:CMul u (if decide (u < 10)=true then 1 else 0):=CMul.l (by omega) (by omega)
     walk_at "go"
     try refine jbp_ hmu ?_
     refine⟨e6,_,us++[u * (if decide (u < 10)=true then 1 else 0)],rfl,by rw[pk_];rfl,by simp[hul],fun x hx=>?_,jb_,fun b' o e=>?_⟩
     ·rcases pe_.mp hx with h | h
      ·exact hus x h
      ·have:x=u * (if decide (u < 10)=true then 1 else 0):=by simpa using h
       rw[this]
       by_cases hu:u < 10
       ·rw[if_pos (decide_eq_true hu)];omega
       ·rw[if_neg (by simp[hu])];omega
     ·have hbr:b'≠n:=fun z=>by rw[z,hn0] at e;cases e
      rw[ji_ hbr];exact s6 b' o e
    ·rintro acc σ H6 ⟨v,us,rfl,rfl,hul,hus,e6,s6⟩
     have hul:us.length=w2.length+1:=by rw[hul,pb_,hcl];omega
     have s16:=s15.trans s6
     have hnH:H n=none:=s15.free hn0
     clear e5 s5 s6 s15 hn0 hcm hcl et4 et3 et2 s14 s13 s12 s4 s3
     have fin:∀(us':List Int) (H7:Hp),us'.length=w2.length+1->(∀ u∈us',0<=u/\u<=9)->Same H H7->H7 n=some (.lst (us'.map V.int))->∀(t':Addr) (H8:Hp),H8 t'=some (.tup (us'.map V.int))->Same H7 H8->∀ p,H8 p=none->Q (.ref p) (upd H8 p (.tup [.str (S w2),.ref t'])):=fun us' H7 h1 h2 h3 h4 t' H8 h5 h6 p hp =>
      q _ (w2,us') _ (yy_ jb_ ((jc_ hp _) _ _ h5)) ⟨hw2'.1,by show w2.length<=22;omega,h1,h2,hwc2⟩ hw2'.2 ((h3.trans h6).trans (jc_ hp _))
     have hset:∀(us':List Int) (j:Nat),(∀ u∈us',0<=u/\u<=9)->∀ u∈us'.set j 0,0<=u/\u<=9:=fun us' j h u hu=>by
      rcases q3_ hu with h' | h'
      ·exact h u h'
      ·subst h';decide
     have hup:∀(H7:Hp) (o:HO),Same H H7->Same H (upd H7 n o):=fun H7 o h b' o' e=>by
      have hbn:b'≠n:=fun z=>by rw[z,hnH] at e;cases e
      rw[ji_ hbn];exact h b' o' e
     have hlw:(S w2).length<=sizeLine:=szn (by rw[js_];omega)
     have hlast:atI (S w2).cps.toList (-1)=some (w2[w2.length - 1]'(by omega)):=by
      unfold atI ixN
      rw[x2_,if_neg (by decide),if_pos (by omega)]
      show w2[(-1+(w2.length:Int)).toNat]?=_
      rw[show (-1+(w2.length:Int)).toNat=w2.length - 1 by omega,pa_]
     have hset1:∀ us':List Int,us'.length=w2.length+1->ixN (us'.map V.int).length (-1)=some w2.length:=fun us' h=>by
      unfold ixN
      rw[pb_,if_neg (by decide),if_pos (by omega)]
      congr 1;omega
     walk_at "go"
     refine y6_ (c:=w2[0]'(by omega)) hlw (zg_ (by decide) (by rw[x2_];show w2[0]?=_;rw[pa_])) ?_
     walk_at "go"
     refine iteD (fun q3=>?_) (fun q3=>?_)
     ·walk_at "go"
      refine y4_ (j:=0) e6 (by unfold ixN;rw[pb_,if_pos (by decide),if_pos (by omega)];rfl) ?_
      rw[show (us.map V.int).set 0 (V.int 0)=(us.set 0 0).map V.int from (ra_ ..).symm]
      have e7:=jb_ (H:=H6) (a:=n) (o:=.lst ((us.set 0 0).map V.int))
      have s17:=hup H6 (.lst ((us.set 0 0).map V.int)) s16
      generalize upd H6 n (.lst ((us.set 0 0).map V.int))=H7 at e7 s17 ⊢
      walk_at "go"
      refine y6_ hlw hlast ?_
      walk_at "go"
      refine iteD (fun q4=>?_) (fun q4=>?_)
      ·walk_at "go"
       refine y4_ (j:=w2.length) e7 (hset1 _ (by rw[p9_];exact hul)) ?_
       rw[show ((us.set 0 0).map V.int).set w2.length (V.int 0)=((us.set 0 0).set w2.length 0).map V.int from (ra_ ..).symm]
       walk_at "go"
       refine za_ (jr_ jb_) fun t' H8 ht' s8=>?_
       walk_at "go"
       exact fin _ _ (by rw[p9_,p9_];exact hul) (hset _ _ (hset _ _ hus)) (hup _ _ s17) jb_ t' H8 ht' s8
      ·walk_at "go"
       refine za_ (jr_ e7) fun t' H8 ht' s8=>?_
       walk_at "go"
       exact fin _ _ (by rw[p9_];exact hul) (hset _ _ hus) s17 e7 t' H8 ht' s8
     ·walk_at "go"
      refine y6_ hlw hlast ?_
      walk_at "go"
      refine iteD (fun q4=>?_) (fun q4=>?_)
      ·walk_at "go"
       refine y4_ (j:=w2.length) e6 (hset1 _ hul) ?_
       rw[show (us.map V.int).set w2.length (V.int 0)=(us.set w2.length 0).map V.int from (ra_ ..).symm]
       walk_at "go"
       refine za_ (jr_ jb_) fun t' H8 ht' s8=>?_
       walk_at "go"
       exact fin _ _ (by rw[p9_];exact hul) (hset _ _ hus) (hup _ _ s16) jb_ t' H8 ht' s8
      ·walk_at "go"
       refine za_ (jr_ e6) fun t' H8 ht' s8=>?_
       walk_at "go"
       exact fin _ _ hul hus s16 e6 t' H8 ht' s8
  ·walk_at "go"
   have hw':1<=ws.length/\ws.length<=5:=by omega
   have hwc':=hwc
   generalize ws=w1 at hw' hwc' ⊢
   intro c2 hc2
   have s4:=jc_ hc2 (.tup [.int 2,.int 3])
   have et4:=s4 _ _ et3
   refine jli_ (yi_ jb_) ⟨rfl,rfl⟩ ?_
   have s14:=s13.trans s4
   generalize upd H3 c2 (.tup [.int 2,.int 3])=H4 at s4 et4 s14 ⊢
   walk_at "go"
   refine iteB (fun q2=>?_) (fun q2=>?_)
   ·walk_at "go"
    have hw2':1<=(w1++[46]).length/\(w1++[46]).length<=6:=by simp only[pg_,ps_,qm_];omega
    have hwc2:∀ c∈w1++[46],c < 128:=fun c hc=>by
     rcases pe_.mp hc with h | h
     ·exact hwc' c h
     ·have:c=46:=by simpa using h
      omega
    generalize w1++[46]=w2 at hw2' hwc2 ⊢
    refine vq_ (SqL.of et4) fun g hg0=>?_
    rw[xq_,y2_]
    have hcl:=yk_ ds (some 6) (some (7+(w2.length:Int)))
    have hx1:sx ds.length 0 (some 6)=6:=by simp only[sx];rw[if_neg (by decide)];show min 6 ds.length=6;omega
    have hx2:sx ds.length ds.length (some (7+(w2.length:Int)))=7+w2.length:=by simp only[sx];rw[if_neg (by omega)];omega
    rw[hx1,hx2] at hcl
    have hcm:∀ v∈cutA ds (some 6) (some (7+(w2.length:Int))),0<=v/\v < 14:=fun v hv=>by
     have:=rc_ (ql_ hv)
     obtain⟨j,hj,rfl⟩:=rd_.mp this
     exact hg j hj
    generalize cutA ds (some 6) (some (7+(w2.length:Int)))=cs at hcl hcm ⊢
    have s5:=jc_ hg0 (.lst (cs.map V.int))
    have e5:=jb_ (H:=H4) (a:=g) (o:=.lst (cs.map V.int))
    have s15:=s14.trans s5
    generalize upd H4 g (.lst (cs.map V.int))=H5 at s5 e5 s15 ⊢
    walk_at "go"
    intro n hn0
    refine j8_ (K:=K) (xs:=cs.map V.int) (fun j acc σ H'=>∃(v:Option V) (us:List Int),σ=[v]/\acc=us.map V.int/\us.length=j/\(∀ u∈us,0<=u/\u<=9)/\H' n=some (.lst acc)/\Same H5 H')
     (fun j acc σ H' _ ⟨_,_,_,_,_,_,_,s3⟩=>SqL.of (s3 _ _ e5)) ⟨none,[],rfl,rfl,rfl,(fun u hu=>nomatch hu),jb_,jc_ hn0 _⟩ (fun j acc σ H' ⟨_,us,_,e,e1,_,e3,_⟩=>⟨e3,by rw[e,pb_];omega⟩) (szn (by rw[pb_];omega)) ?_ ?_
    ·rintro j acc σ H6 hj ⟨v,us,rfl,rfl,hul,hus,e6,s6⟩
     have hj':j < cs.length:=by simpa using hj
     have hgd:(cs.map V.int).getD j .non=V.int cs[j]:=by
      rw[pf_,pl_,pa_ hj'];rfl
     rw[hgd]
     obtain⟨hu0,hu1⟩:=hcm _ (px_ hj')
     generalize cs[j]=u at hu0 hu1 ⊢
     have hmu:CMul u (if decide (u < 10)=true then 1 else 0):=CMul.l (by omega) (by omega)
     walk_at "go"
     try refine jbp_ hmu ?_
     refine⟨e6,_,us++[u * (if decide (u < 10)=true then 1 else 0)],rfl,by rw[pk_];rfl,by simp[hul],fun x hx=>?_,jb_,fun b' o e=>?_⟩
     ·rcases pe_.mp hx with h | h
      ·exact hus x h
      ·have:x=u * (if decide (u < 10)=true then 1 else 0):=by simpa using h
       rw[this]
       by_cases hu:u < 10
       ·rw[if_pos (decide_eq_true hu)];omega
       ·rw[if_neg (by simp[hu])];omega
     ·have hbr:b'≠n:=fun z=>by rw[z,hn0] at e;cases e
      rw[ji_ hbr];exact s6 b' o e
    ·rintro acc σ H6 ⟨v,us,rfl,rfl,hul,hus,e6,s6⟩
     have hul:us.length=w2.length+1:=by rw[hul,pb_,hcl];omega
     have s16:=s15.trans s6
     have hnH:H n=none:=s15.free hn0
     clear e5 s5 s6 s15 hn0 hcm hcl et4 et3 et2 s14 s13 s12 s4 s3
     have fin:∀(us':List Int) (H7:Hp),us'.length=w2.length+1->(∀ u∈us',0<=u/\u<=9)->Same H H7->H7 n=some (.lst (us'.map V.int))->∀(t':Addr) (H8:Hp),H8 t'=some (.tup (us'.map V.int))->Same H7 H8->∀ p,H8 p=none->Q (.ref p) (upd H8 p (.tup [.str (S w2),.ref t'])):=fun us' H7 h1 h2 h3 h4 t' H8 h5 h6 p hp =>
      q _ (w2,us') _ (yy_ jb_ ((jc_ hp _) _ _ h5)) ⟨hw2'.1,by show w2.length<=22;omega,h1,h2,hwc2⟩ hw2'.2 ((h3.trans h6).trans (jc_ hp _))
     have hset:∀(us':List Int) (j:Nat),(∀ u∈us',0<=u/\u<=9)->∀ u∈us'.set j 0,0<=u/\u<=9:=fun us' j h u hu=>by
      rcases q3_ hu with h' | h'
      ·exact h u h'
      ·subst h';decide
     have hup:∀(H7:Hp) (o:HO),Same H H7->Same H (upd H7 n o):=fun H7 o h b' o' e=>by
      have hbn:b'≠n:=fun z=>by rw[z,hnH] at e;cases e
      rw[ji_ hbn];exact h b' o' e
     have hlw:(S w2).length<=sizeLine:=szn (by rw[js_];omega)
     have hlast:atI (S w2).cps.toList (-1)=some (w2[w2.length - 1]'(by omega)):=by
      unfold atI ixN
      rw[x2_,if_neg (by decide),if_pos (by omega)]
      show w2[(-1+(w2.length:Int)).toNat]?=_
      rw[show (-1+(w2.length:Int)).toNat=w2.length - 1 by omega,pa_]
     have hset1:∀ us':List Int,us'.length=w2.length+1->ixN (us'.map V.int).length (-1)=some w2.length:=fun us' h=>by
      unfold ixN
      rw[pb_,if_neg (by decide),if_pos (by omega)]
      congr 1;omega
     walk_at "go"
     refine y6_ (c:=w2[0]'(by omega)) hlw (zg_ (by decide) (by rw[x2_];show w2[0]?=_;rw[pa_])) ?_
     walk_at "go"
     refine iteD (fun q3=>?_) (fun q3=>?_)
     ·walk_at "go"
      refine y4_ (j:=0) e6 (by unfold ixN;rw[pb_,if_pos (by decide),if_pos (by omega)];rfl) ?_
      rw[show (us.map V.int).set 0 (V.int 0)=(us.set 0 0).map V.int from (ra_ ..).symm]
      have e7:=jb_ (H:=H6) (a:=n) (o:=.lst ((us.set 0 0).map V.int))
      have s17:=hup H6 (.lst ((us.set 0 0).map V.int)) s16
      generalize upd H6 n (.lst ((us.set 0 0).map V.int))=H7 at e7 s17 ⊢
      walk_at "go"
      refine y6_ hlw hlast ?_
      walk_at "go"
      refine iteD (fun q4=>?_) (fun q4=>?_)
      ·walk_at "go"
       refine y4_ (j:=w2.length) e7 (hset1 _ (by rw[p9_];exact hul)) ?_
       rw[show ((us.set 0 0).map V.int).set w2.length (V.int 0)=((us.set 0 0).set w2.length 0).map V.int from (ra_ ..).symm]
       walk_at "go"
       refine za_ (jr_ jb_) fun t' H8 ht' s8=>?_
       walk_at "go"
       exact fin _ _ (by rw[p9_,p9_];exact hul) (hset _ _ (hset _ _ hus)) (hup _ _ s17) jb_ t' H8 ht' s8
      ·walk_at "go"
       refine za_ (jr_ e7) fun t' H8 ht' s8=>?_
       walk_at "go"
       exact fin _ _ (by rw[p9_];exact hul) (hset _ _ hus) s17 e7 t' H8 ht' s8
     ·walk_at "go"
      refine y6_ hlw hlast ?_
      walk_at "go"
      refine iteD (fun q4=>?_) (fun q4=>?_)
      ·walk_at "go"
       refine y4_ (j:=w2.length) e6 (hset1 _ hul) ?_
       rw[show (us.map V.int).set w2.length (V.int 0)=(us.set w2.length 0).map V.int from (ra_ ..).symm]
       walk_at "go"
       refine za_ (jr_ jb_) fun t' H8 ht' s8=>?_
       walk_at "go"
       exact fin _ _ (by rw[p9_];exact hul) (hset _ _ hus) (hup _ _ s16) jb_ t' H8 ht' s8
      ·walk_at "go"
       refine za_ (jr_ e6) fun t' H8 ht' s8=>?_
       walk_at "go"
       exact fin _ _ hul hus s16 e6 t' H8 ht' s8
   ·walk_at "go"
    have hw2':1<=w1.length/\w1.length<=6:=by omega
    have hwc2:=hwc'
    generalize w1=w2 at hw2' hwc2 ⊢
    refine vq_ (SqL.of et4) fun g hg0=>?_
    rw[xq_,y2_]
    have hcl:=yk_ ds (some 6) (some (7+(w2.length:Int)))
    have hx1:sx ds.length 0 (some 6)=6:=by simp only[sx];rw[if_neg (by decide)];show min 6 ds.length=6;omega
    have hx2:sx ds.length ds.length (some (7+(w2.length:Int)))=7+w2.length:=by simp only[sx];rw[if_neg (by omega)];omega
    rw[hx1,hx2] at hcl
    have hcm:∀ v∈cutA ds (some 6) (some (7+(w2.length:Int))),0<=v/\v < 14:=fun v hv=>by
     have:=rc_ (ql_ hv)
     obtain⟨j,hj,rfl⟩:=rd_.mp this
     exact hg j hj
    generalize cutA ds (some 6) (some (7+(w2.length:Int)))=cs at hcl hcm ⊢
    have s5:=jc_ hg0 (.lst (cs.map V.int))
    have e5:=jb_ (H:=H4) (a:=g) (o:=.lst (cs.map V.int))
    have s15:=s14.trans s5
    generalize upd H4 g (.lst (cs.map V.int))=H5 at s5 e5 s15 ⊢
    walk_at "go"
    intro n hn0
    refine j8_ (K:=K) (xs:=cs.map V.int) (fun j acc σ H'=>∃(v:Option V) (us:List Int),σ=[v]/\acc=us.map V.int/\us.length=j/\(∀ u∈us,0<=u/\u<=9)/\H' n=some (.lst acc)/\Same H5 H')
     (fun j acc σ H' _ ⟨_,_,_,_,_,_,_,s3⟩=>SqL.of (s3 _ _ e5)) ⟨none,[],rfl,rfl,rfl,(fun u hu=>nomatch hu),jb_,jc_ hn0 _⟩ (fun j acc σ H' ⟨_,us,_,e,e1,_,e3,_⟩=>⟨e3,by rw[e,pb_];omega⟩) (szn (by rw[pb_];omega)) ?_ ?_
    ·rintro j acc σ H6 hj ⟨v,us,rfl,rfl,hul,hus,e6,s6⟩
     have hj':j < cs.length:=by simpa using hj
     have hgd:(cs.map V.int).getD j .non=V.int cs[j]:=by
      rw[pf_,pl_,pa_ hj'];rfl
     rw[hgd]
     obtain⟨hu0,hu1⟩:=hcm _ (px_ hj')
     generalize cs[j]=u at hu0 hu1 ⊢
     have hmu:CMul u (if decide (u < 10)=true then 1 else 0):=CMul.l (by omega) (by omega)
     walk_at "go"
     try refine jbp_ hmu ?_
     refine⟨e6,_,us++[u * (if decide (u < 10)=true then 1 else 0)],rfl,by rw[pk_];rfl,by simp[hul],fun x hx=>?_,jb_,fun b' o e=>?_⟩
     ·rcases pe_.mp hx with h | h
      ·exact hus x h
      ·have:x=u * (if decide (u < 10)=true then 1 else 0):=by simpa using h
       rw[this]
       by_cases hu:u < 10
       ·rw[if_pos (decide_eq_true hu)];omega
       ·rw[if_neg (by simp[hu])];omega
     ·have hbr:b'≠n:=fun z=>by rw[z,hn0] at e;cases e
      rw[ji_ hbr];exact s6 b' o e
    ·rintro acc σ H6 ⟨v,us,rfl,rfl,hul,hus,e6,s6⟩
     have hul:us.length=w2.length+1:=by rw[hul,pb_,hcl];omega
     have s16:=s15.trans s6
     have hnH:H n=none:=s15.free hn0
     clear e5 s5 s6 s15 hn0 hcm hcl et4 et3 et2 s14 s13 s12 s4 s3
     have fin:∀(us':List Int) (H7:Hp),us'.length=w2.length+1->(∀ u∈us',0<=u/\u<=9)->Same H H7->H7 n=some (.lst (us'.map V.int))->∀(t':Addr) (H8:Hp),H8 t'=some (.tup (us'.map V.int))->Same H7 H8->∀ p,H8 p=none->Q (.ref p) (upd H8 p (.tup [.str (S w2),.ref t'])):=fun us' H7 h1 h2 h3 h4 t' H8 h5 h6 p hp =>
      q _ (w2,us') _ (yy_ jb_ ((jc_ hp _) _ _ h5)) ⟨hw2'.1,by show w2.length<=22;omega,h1,h2,hwc2⟩ hw2'.2 ((h3.trans h6).trans (jc_ hp _))
     have hset:∀(us':List Int) (j:Nat),(∀ u∈us',0<=u/\u<=9)->∀ u∈us'.set j 0,0<=u/\u<=9:=fun us' j h u hu=>by
      rcases q3_ hu with h' | h'
      ·exact h u h'
      ·subst h';decide
     have hup:∀(H7:Hp) (o:HO),Same H H7->Same H (upd H7 n o):=fun H7 o h b' o' e=>by
      have hbn:b'≠n:=fun z=>by rw[z,hnH] at e;cases e
      rw[ji_ hbn];exact h b' o' e
     have hlw:(S w2).length<=sizeLine:=szn (by rw[js_];omega)
     have hlast:atI (S w2).cps.toList (-1)=some (w2[w2.length - 1]'(by omega)):=by
      unfold atI ixN
      rw[x2_,if_neg (by decide),if_pos (by omega)]
      show w2[(-1+(w2.length:Int)).toNat]?=_
      rw[show (-1+(w2.length:Int)).toNat=w2.length - 1 by omega,pa_]
     have hset1:∀ us':List Int,us'.length=w2.length+1->ixN (us'.map V.int).length (-1)=some w2.length:=fun us' h=>by
      unfold ixN
      rw[pb_,if_neg (by decide),if_pos (by omega)]
      congr 1;omega
     walk_at "go"
     refine y6_ (c:=w2[0]'(by omega)) hlw (zg_ (by decide) (by rw[x2_];show w2[0]?=_;rw[pa_])) ?_
     walk_at "go"
     refine iteD (fun q3=>?_) (fun q3=>?_)
     ·walk_at "go"
      refine y4_ (j:=0) e6 (by unfold ixN;rw[pb_,if_pos (by decide),if_pos (by omega)];rfl) ?_
      rw[show (us.map V.int).set 0 (V.int 0)=(us.set 0 0).map V.int from (ra_ ..).symm]
      have e7:=jb_ (H:=H6) (a:=n) (o:=.lst ((us.set 0 0).map V.int))
      have s17:=hup H6 (.lst ((us.set 0 0).map V.int)) s16
      generalize upd H6 n (.lst ((us.set 0 0).map V.int))=H7 at e7 s17 ⊢
      walk_at "go"
      refine y6_ hlw hlast ?_
      walk_at "go"
      refine iteD (fun q4=>?_) (fun q4=>?_)
      ·walk_at "go"
       refine y4_ (j:=w2.length) e7 (hset1 _ (by rw[p9_];exact hul)) ?_
       rw[show ((us.set 0 0).map V.int).set w2.length (V.int 0)=((us.set 0 0).set w2.length 0).map V.int from (ra_ ..).symm]
       walk_at "go"
       refine za_ (jr_ jb_) fun t' H8 ht' s8=>?_
       walk_at "go"
       exact fin _ _ (by rw[p9_,p9_];exact hul) (hset _ _ (hset _ _ hus)) (hup _ _ s17) jb_ t' H8 ht' s8
      ·walk_at "go"
       refine za_ (jr_ e7) fun t' H8 ht' s8=>?_
       walk_at "go"
       exact fin _ _ (by rw[p9_];exact hul) (hset _ _ hus) s17 e7 t' H8 ht' s8
     ·walk_at "go"
      refine y6_ hlw hlast ?_
      walk_at "go"
      refine iteD (fun q4=>?_) (fun q4=>?_)
      ·walk_at "go"
       refine y4_ (j:=w2.length) e6 (hset1 _ hul) ?_
       rw[show (us.map V.int).set w2.length (V.int 0)=(us.set w2.length 0).map V.int from (ra_ ..).symm]
       walk_at "go"
       refine za_ (jr_ jb_) fun t' H8 ht' s8=>?_
       walk_at "go"
       exact fin _ _ (by rw[p9_];exact hul) (hset _ _ hus) (hup _ _ s16) jb_ t' H8 ht' s8
      ·walk_at "go"
       refine za_ (jr_ e6) fun t' H8 ht' s8=>?_
       walk_at "go"
       exact fin _ _ hul hus s16 e6 t' H8 ht' s8
end
theorem jfr_ {p f:List Nat}(hp:p≠[]):(pu_ ((f.length:Int) - (p.length:Int)+1).toNat).filter (fits p f)=xb_ p f:=by
 have hp1:1<=p.length:=q6_.mpr hp
 unfold xb_
 obtain⟨m,hm⟩:∃ m,f.length=((f.length:Int) - (p.length:Int)+1).toNat+m:=⟨f.length - ((f.length:Int) - (p.length:Int)+1).toNat,by omega⟩
 generalize hn:((f.length:Int) - (p.length:Int)+1).toNat=n at hm ⊢
 rw[hm,List.range_add,qo_]
 have:((pu_ m).map (n+·)).filter (fits p f)=[]:=by
  rw[w1_]
  intro b hb hc
  obtain⟨j,hj,rfl⟩:=qb_.mp hb
  unfold fits at hc
  simp only[qk_,decide_eq_true_eq] at hc
  omega
 rw[this,qq_]
theorem joy_ {p f:List Nat}{b:Nat}(h:b+p.length<=f.length):cutA f (some (b:Int)) (some ((b:Int)+(p.length:Int)))=p↔fits p f b=true:=by
 have e1:sx f.length 0 (some (b:Int))=b:=by simp only[sx];rw[if_neg (by omega)];omega
 have e2:sx f.length f.length (some ((b:Int)+(p.length:Int)))=b+p.length:=by simp only[sx];rw[if_neg (by omega)];omega
 unfold cutA fits
 rw[e1,e2,show b+p.length - b=p.length by omega]
 simp[h]
noncomputable abbrev s_law_greatest:Stmt:=top 20
theorem sc_law_greatest:FnScope ["_law_patterns","_law_read","_law_place","_law_best","_law_signs_here","_law_numbers","_law_begin"] ["_law_patterns","_law_read","_law_place"] (jm_ s_law_greatest):=by walk_at "f"
noncomputable abbrev s_law_values:Stmt:=top 21
theorem sc_law_values:FnScope ["_law_patterns","_law_word"] ["_law_patterns","_law_word"] (jm_ s_law_values):=by walk_at "f"
theorem jor_ (w:List Nat):[46]++w++[46]=frame w:=by simp[frame]
def jeb_:Sp:=fun vs H Q _=>∃(v:V) (xs:List Pat) (rd:List Nat) (p:Nat),vs=[v,.str (S rd),.int (p:Int)]/\Is H v (x3_ xs)/\OkP xs/\rd.length<=300000/\p<=300000/\Q (.int (numA rd p 0 xs)) H
def jie_:Sp:=fun vs H Q _=>∃(v:V) (xs:List Pat) (w:List Nat),vs=[v,.str (S w)]/\Is H v (x3_ xs)/\OkP xs/\1<=w.length/\w.length<=250000/\∀(r:Addr) (H':Hp),H r=none->H' r=some (.lst ((vals xs w).map V.int))->Same H H'->Q (.ref r) H'
section
variable {P:Program}{w:World}{K:pc_}{mg:Str->Option Value}{base:Heap}{f:Addr}{fd:FuncData}{tk:Nat->Tok}{cO:Addr}
theorem jak_ (T:Txt mg tk)(F:Fun K "_law_greatest" "_law_greatest" s_law_greatest f fd):FnOk P w K mg base CX0 1 f fd ["_law_patterns","_law_read","_law_place"] jeb_:=by
 refine F.ok sc_law_greatest (fun vs H Q E h=>?_) (fun cdv A outer s H vs Q E hr h=>?_)
 ·obtain⟨v,xs,rd,p,rfl,_⟩:=h
  rfl
 obtain⟨v,xs,rd,pl,rfl,hv,hok,hrd,hpl,q⟩:=h
 obtain⟨a,ys,rfl,ha,hys⟩:=jfk_ hv
 have nd:=sc_law_greatest.nd
 refine⟨_,(jf_ (jl_ (i:=3) nd rfl (Or.inl rfl) jd_)
  (jf_ (zo_ p5_ rfl (j9_ (K:=K) (pv 0)) (jax_ rfl (z8_ (jn_ (i:=4) nd rfl (Or.inl rfl)) (z8_ (jn_ (i:=5) nd rfl (Or.inl rfl)) ue_)))
   (jg_ (zo_ p5_ rfl (z5_ rfl T.z_range (ja_ (jk_ jx_ (jk_ uf_ (jo_ (zq_ (K:=K)) rfl T.z_len (by decide +kernel) (ja_ (pv 1) je_)) (jo_ (zq_ (K:=K)) rfl T.z_len (by decide +kernel) (ja_ (pv 4) je_))) jd_) je_)) (jn_ (i:=6) nd rfl (Or.inl rfl))
   (jg_ (zr_ (PW.pt (jic_ (jpb_ o_le o_le (pv 6) (pv 2) (jk_ jx_ (pv 6) (jo_ (zq_ (K:=K)) rfl T.z_len (by decide +kernel) (ja_ (pv 4) je_)))) (jdz_ (ju_ (o_eq hr.units) (zj_ (z7_ (K:=K)) (pv 1) (zk_ (pv 6)) (zk_ (jk_ jx_ (pv 6) (jo_ (zq_ (K:=K)) rfl T.z_len (by decide +kernel) (ja_ (pv 4) je_))))) (pv 4) (j6_ _)))))
   (jg_ (jl_ (i:=3) nd rfl (Or.inl rfl) (jo_ (jbf_ rfl) rfl T.z_max (by decide +kernel) (ja_ (pv 3) (ja_ (jj_ (jh_ (K:=K)) (pv 5) (jk_ uf_ (pv 2) (pv 6)) (fun _ _=>rfl)) je_)))))
   j5_)))))
  (jg_ (jt_ (pv 3))))),?_⟩
 rw[show L2.j7_ ["_law_patterns","_law_read","_law_place","_law_best","_law_signs_here","_law_numbers","_law_begin"] [.ref a,.str (S rd),.int (pl:Int)]=[some (.ref a),some (.str (S rd)),some (.int (pl:Int)),none,none,none,none] from rfl]
 walk_at "go"
 refine zy_ (K:=K) (xs:=ys) (fun i σ H'=>∃(v4 v5 v6:Option V),H'=H/\σ=[some (.ref a),some (.str (S rd)),some (.int (pl:Int)),some (.int (numA rd pl 0 (xs.take i))),v4,v5,v6])
  ⟨none,none,none,rfl,rfl⟩ (fun i σ H' _ ⟨_,_,_,e,_⟩=>by rw[e];exact SqL.of ha) ?_ ?_
 ·rintro i x σ H1 hx ⟨v4,v5,v6,rfl,rfl⟩
  have hil:i < xs.length:=by
   have h1:=(pq_.mp hx).1
   have h2:=hys.length
   rw[pb_] at h2;omega
  obtain⟨x',d,hx1,hx2,hx3⟩:=IsL.get hys (i:=i) (by rw[pb_];exact hil)
  rw[hx] at hx1
  cases hx1
  rw[pl_,pa_ hil] at hx2
  cases hx2
  obtain⟨pa,nt,rfl,hpa,hnt⟩:=vt_ hx3
  obtain⟨hg1,hg2,hg3⟩:=hok.1 _ (px_ hil)
  have hst:numA rd pl 0 (xs.take (i+1))=numP rd pl (numA rd pl 0 (xs.take i)) xs[i]:=by
   unfold numA;rw[p3_,pa_ hil,rg_];rfl
  rw[hst]
  generalize numA rd pl 0 (xs.take i)=M1
  generalize xs[i]=xi at hg1 hg2 hg3 hpa hnt ⊢
  obtain⟨p,ns⟩:=xi
  have hg1:1<=p.length:=hg1
  have hg2:p.length<=22:=hg2
  have hg3:ns.length=p.length+1:=hg3
  have hpne:p≠[]:=q6_.mp hg1
  have hpa:H1 pa=some (.tup [.str (S p),.ref nt]):=hpa
  have hnt:H1 nt=some (.tup (ns.map V.int)):=hnt
  refine jbu_ hpa rfl (yn_ (y1_ (yn_ (y1_ (jbl_ ?_)))))
  walk_at "go"
  refine zu_ (fun j σ H'=>∃(v6:Option V),H'=H1/\σ=[some (.ref a),some (.str (S rd)),some (.int (pl:Int)),some (.int (((pu_ j).filter (fits p rd)).foldl (fun m b=>xu_ m pl b ns) M1)),some (.str (S p)),some (.ref nt),v6])
   ⟨_,rfl,rfl⟩ ?_ ?_
  ·rintro j σ H2 hj ⟨v6,rfl,rfl⟩
   have hjp:j+p.length<=rd.length:=by omega
   have hcf:=joy_ (f:=rd) hjp
   have hst2:(pu_ (j+1)).filter (fits p rd)=(pu_ j).filter (fits p rd)++(if fits p rd j=true then [j] else []):=by
    rw[tv_,qo_,List.filter_cons,rq_]
   rw[hst2,rg_]
   generalize ((pu_ j).filter (fits p rd)).foldl (fun m b=>xu_ m pl b ns) M1=M2
   walk_at "go"
   have key:∀ m:Int,m=((if fits p rd j=true then [j] else []).foldl (fun m b=>xu_ m pl b ns) M2)->∃(v6:Option V),H2=H2/\[some (V.ref a),some (.str (S rd)),some (.int (pl:Int)),some (.int m),some (.str (S p)),some (.ref nt),some (.int (0+(j:Int)))]=[some (V.ref a),some (.str (S rd)),some (.int (pl:Int)),some (.int ((if fits p rd j=true then [j] else []).foldl (fun m b=>xu_ m pl b ns) M2)),some (.str (S p)),some (.ref nt),v6]:=fun m h=>by subst h;exact⟨_,rfl,rfl⟩
   have hno:¬ (j<=pl/\pl<=j+p.length)->M2=((if fits p rd j=true then [j] else []).foldl (fun m b=>xu_ m pl b ns) M2):=fun h=>by
    split
    ·show M2=xu_ M2 pl j ns
     rw[v9_,if_neg (by omega)]
    ·rfl
   refine iteD (fun c1=>?_) (fun c1=>?_)
   ·walk_at "go"
    refine iteD (fun c2=>?_) (fun c2=>?_)
    ·walk_at "go"
     rw[kd_]
     refine iteD (fun c3=>?_) (fun c3=>?_)
     ·have c':fits p rd j=true:=hcf.mp (jlo_ (by injection c3))
      walk_at "go"
      have hix:pl - j < ns.length:=by omega
      refine xa_ (v:=.int ns[pl - j]) (yi_ hnt) (zg_ (by omega) (by rw[show ((pl:Int) - (j:Int)).toNat=pl - j by omega,pl_,pa_ hix];rfl)) ?_
      walk_at "go"
      have hk:=key (mx M2 ns[pl - j]) (by
       rw[if_pos c']
       show _=xu_ M2 pl j ns
       rw[v9_,if_pos (by omega)]
       have:ns.getD (pl - j) 0=ns[pl - j]:=by rw[pf_,pa_ hix];rfl
       rw[this])
      rw[kd_] at hk
      exact hk
     ·have c':¬ fits p rd j=true:=fun z=>c3 (by rw[hcf.mpr z])
      walk_at "go"
      have hk:=key M2 (by rw[if_neg c'];rfl)
      rw[kd_] at hk
      exact hk
    ·walk_at "go"
     exact key M2 (hno (by omega))
   ·walk_at "go"
    exact key M2 (hno (by omega))
  ·rintro σ H2 ⟨v6,rfl,rfl⟩
   rw[jfr_ hpne]
   walk_at "go"
   exact⟨_,_,_,rfl,rfl⟩
 ·rintro σ H1 ⟨v4,v5,v6,rfl,rfl⟩
  have h2:=hys.length
  rw[pb_] at h2
  rw[h2,py_]
  walk_at "go"
  exact q
theorem jch_ (T:Txt mg tk)(F:Fun K "_law_values" "_law_values" s_law_values f fd)(D_law_greatest:Dn P w K mg base "_law_greatest" 1 ["_law_patterns","_law_read","_law_place"] jeb_):FnOk P w K mg base CX0 2 f fd ["_law_patterns","_law_word"] jie_:=by
 refine F.ok sc_law_values (fun vs H Q E h=>?_) (fun cdv A outer s H vs Q E hr h=>?_)
 ·obtain⟨v,xs,w,rfl,_⟩:=h
  rfl
 obtain⟨v,xs,w',rfl,hv,hok,hw1,hw2,q⟩:=h
 have nd:=sc_law_values.nd
 refine⟨_,(jg_ (jt_ (zs_ ["_law_patterns","_law_word","_law_gap"] [some 0,some 1,none] rfl (by kernel_rfl) rfl (vm_ rfl T.z_range (ja_ jd_ (ja_ (jo_ (zq_ (K:=K)) rfl T.z_len (by decide +kernel) (ja_ (pv 1) je_)) je_))) (fun _ _ _ _=>(jn_ (i:=2) (show (["_law_patterns","_law_word","_law_gap"]:List Str).Nodup by decide +kernel) rfl (Or.inl rfl) (Or.inr rfl))) (fun _ _ _ _=>zn_) (fun _ _ _ _=>(jq_ D_law_greatest hr.mo_ rfl (ja_ (pv 0) (ja_ (jk_ jx_ (jk_ jx_ zh_ (pv 1)) zh_) (ja_ (jk_ jx_ (pv 2) jd_) je_)))))))),?_⟩
 rw[show L2.j7_ ["_law_patterns","_law_word"] [v,.str (S w')]=[some (v),some (.str (S w'))] from rfl]
 rw[jaa_]
 have hfl:=ud_ w'
 walk_at "go"
 intro r hr0
 refine v2_ (fun j acc σ H'=>∃ u,σ=[some v,some (.str (S w')),u]/\acc=((pu_ j).map fun k:Nat=>numA (frame w') (k+2) 0 xs).map V.int/\H' r=some (.lst acc)/\Same H H')
  ⟨none,rfl,rfl,jb_,jc_ hr0 _⟩ (fun j acc σ H' ⟨_,_,e,e3,_⟩=>⟨e3,by rw[e];simp⟩) (szn (by omega)) ?_ ?_
 ·rintro j acc σ H3 hj ⟨u,rfl,rfl,e3,s3⟩
  walk_at "go"
  rw[jor_]
  refine⟨v,xs,frame w',j+2,by rw[show (1+(j:Int)+1)=((j+2:Nat):Int) by omega];rfl,Is.same s3 hv,hok,by omega,by omega,e3,_,rfl,?_,jb_,fun b' o e=>?_⟩
  ·rw[tv_,pk_,pk_];rfl
  ·have hbr:b'≠r:=fun z=>by rw[z,hr0] at e;cases e
   rw[ji_ hbr];exact s3 b' o e
 ·rintro acc σ H3 ⟨u,rfl,rfl,e3,s3⟩
  refine q r H3 hr0 ?_ s3
  rw[e3]
  have:((w'.length:Int) - 1).toNat=w'.length - 1:=by omega
  rw[this]
  rfl
end
noncomputable abbrev s_law_begins:Stmt:=top 22
theorem sc_law_begins:FnScope ["_law_patterns","_law_begins_here","_law_signs_here","_law_numbers","_law_size"] ["_law_patterns"] (jm_ s_law_begins):=by walk_at "f"
noncomputable abbrev s_law_seen:Stmt:=top 23
theorem sc_law_seen:FnScope ["_law_lists","_law_text","_law_behind","_law_ones","_law_others","_law_best","_law_side","_law_signs_here","_law_numbers"] ["_law_lists","_law_text","_law_behind","_law_ones","_law_others"] (jm_ s_law_seen):=by walk_at "f"
noncomputable abbrev s_law_step:Stmt:=top 24
theorem sc_law_step:FnScope ["_law_lists","_law_view","_law_letter","_law_found"] ["_law_lists","_law_view","_law_letter"] (jm_ s_law_step):=by walk_at "f"
noncomputable abbrev s_law_last:Stmt:=top 25
theorem sc_law_last:FnScope ["_law_lists","_law_view"] ["_law_lists","_law_view"] (jm_ s_law_last):=by walk_at "f"
noncomputable abbrev s_law_first:Stmt:=top 26
theorem sc_law_first:FnScope ["_law_lists"] ["_law_lists"] (jm_ s_law_first):=by walk_at "f"
def Lists3 (H:Hp)(r:Addr)(one other:List Pat):Prop:=∃(a1 b1 d:Addr),H r=some (.tup [.ref a1,.ref b1,.ref d])/\Two H a1 b1 one other/\H d=some (.dK (bT (begs (one++other))))
theorem Lists3.same {H H':Hp}{r:Addr}{one other:List Pat}(s:Same H H')(h:Lists3 H r one other):Lists3 H' r one other:=by
 obtain⟨a1,b1,d,h1,h2,h3⟩:=h
 exact⟨a1,b1,d,s _ _ h1,h2.same s,s _ _ h3⟩
def jfq_:Sp:=fun vs H Q _=>∃(r:Addr) (one other:List Pat) (t:List Nat) (n:Nat) (i j:Int),vs=[.ref r,.str (S t),.int (n:Int),.int i,.int j]/\Lists3 H r one other/\t.length<=1000/\n<=1000 /\
 ∀(a:Addr) (H':Hp),H a=none->H' a=some (.tup [.str (S (jp_ (begs (one++other)) t)),.int (n:Int),.int (ye_ one t n i),.int (ye_ other t n j)])->Same H H'->Q (.ref a) H'
theorem jxn_ (t p:List Nat):k7_ (S t) (S p)=decide (p <:+ t):=by
 unfold k7_
 rw[jua_,js_,js_,la_]
 by_cases hl:p.length<=t.length
 ·have hk:(t.drop (t.length - p.length)).take p.length=t.drop (t.length - p.length):=rr_ (by rw[qh_];omega)
  rw[decide_eq_true hl,Bool.true_and,hk,qt_,decide_eq_true_iff,beq_iff_eq,s2_]
  exact eq_comm
 ·rw[decide_eq_false hl,Bool.false_and,decide_eq_false fun h:p <:+ t=>hl h.length_le]
theorem jqd_ {ty td:TE}{σ:St}{H:Hp}{Q:VK}(h:ty σ H fun y H1=>td σ H1 fun x H2=>∃ a o,x=.ref a/\DGet H2 a y o/\Q (.bl (!o.isSome)) H2):jll_ ty td σ H Q:=h
theorem jiz_ (xs:List Pat)(x:Pat)(t:List Nat)(n:Nat)(i:Int):ye_ (xs++[x]) t n i=if n<=x.1.length/\x.1 <:+ t then mx (ye_ xs t n i) (x.2.getD (x.1.length - n) 0) else ye_ xs t n i:=by
 unfold ye_
 rw[rg_];rfl
section
variable {P:Program}{w:World}{K:pc_}{mg:Str->Option Value}{base:Heap}{f:Addr}{fd:FuncData}{tk:Nat->Tok}{cO:Addr}
theorem jcf_ (T:Txt mg tk)(F:Fun K "_law_begins" "_law_begins" s_law_begins f fd):FnOk P w K mg base CX0 1 f fd ["_law_patterns"] uz_:=by
 refine F.ok sc_law_begins (fun vs H Q E h=>?_) (fun cdv A outer s H vs Q E hr h=>?_)
 ·obtain⟨v,xs,rfl,_⟩:=h
  rfl
 obtain⟨v,xs,rfl,hv,hxs,hxl,q⟩:=h
 have nd:=sc_law_begins.nd
 obtain⟨b,ys,rfl,hb,hys⟩:=jfk_ hv
 have hyl:ys.length=xs.length:=by have:=hys.length;simpa using this
 refine⟨_,(jf_ (jl_ (i:=1) nd rfl (Or.inl rfl) (jlc_ (jgh_ zh_ xm_ jlj_) rfl rfl (by simp) (by decide)))
  (jf_ (zo_ p5_ rfl (j9_ (K:=K) (pv 0)) (jax_ rfl (z8_ (jn_ (i:=2) nd rfl (Or.inl rfl)) (z8_ (jn_ (i:=3) nd rfl (Or.inl rfl)) ue_)))
   (jg_ (zo_ p5_ rfl (z5_ rfl T.z_range (ja_ (jo_ (zq_ (K:=K)) rfl T.z_len (by decide +kernel) (ja_ (pv 2) je_)) je_)) (jn_ (i:=4) nd rfl (Or.inl rfl))
   (jg_ (jee_ (jag_ hr) (pv 1) (zj_ (z7_ (K:=K)) (pv 2) z6_ (zk_ (jk_ jx_ (pv 4) jd_))) xm_ rfl)))))
  (jg_ (jt_ (pv 1))))),?_⟩
 rw[show L2.j7_ ["_law_patterns","_law_begins_here","_law_signs_here","_law_numbers","_law_size"] [.ref b]=[some (.ref b),none,none,none,none] from rfl]
 rw[xc_]
 walk_at "go"
 refine jqg_ fun a ha=>?_
 simp only[uv_]
 walk_at "go"
 refine⟨jb_,[(Sum.inr (S []),.bl true)],rfl,by decide,?_⟩
 rw[jla_]
 have hm:vc_ [] [((Sum.inr (S []):Key),V.bl true)]=bT [[]]:=rfl
 rw[hm]
 have s1:=jc_ ha (.dK (bT [[]]))
 have e1:(upd H a (.dK (bT [[]]))) a=some (.dK (bT [[]])):=jb_
 have hb1:=s1 _ _ hb
 have hys1:=IsL.same s1 hys
 walk_at "go"
 refine zy_ (K:=K) (xs:=ys) (fun i σ H'=>∃(v2 v3 v4:Option V),σ=[some (.ref b),some (.ref a),v2,v3,v4]/\H' a=some (.dK (bT (begA [[]] (xs.take i))))/\Same H H')
  ⟨none,none,none,rfl,e1,s1⟩ (fun i σ H' _ ⟨_,_,_,_,_,s⟩=>SqL.of (s _ _ hb)) ?_ ?_
 ·rintro i y σ H2 hy ⟨v2,v3,v4,rfl,e2,s2⟩
  have hi:i < xs.length:=by
   have:=(pq_.mp hy).1
   omega
  obtain⟨y',d,hy',hd1,hI⟩:=IsL.get (IsL.same s2 hys) (show i < (xs.map patD).length by simpa using hi)
  rw[hy] at hy'
  cases hy'
  rw[pl_,pa_ hi] at hd1
  cases hd1
  obtain⟨a2,t2,rfl,ea2,et2⟩:=vt_ hI
  have hxi:=hxs xs[i] (px_ hi)
  have hbl:=ur_ (c:=100) (xs.take i) [[]] fun x hx=>hxs x (ql_ hx)
  have htl:(xs.take i).length<=1000:=by rw[p2_];omega
  have hm2:(xs.take i).length * 100<=1000 * 100:=Nat.mul_le_mul_right _ htl
  refine jbu_ ea2 rfl (yn_ (y1_ (yn_ (y1_ (jbl_ ?_)))))
  walk_at "go"
  refine zu_ (fun j σ H'=>∃(v4:Option V),σ=[some (.ref b),some (.ref a),some (.str (S xs[i].1)),some (.ref t2),v4]/\H' a=some (.dK (bT (begS (begA [[]] (xs.take i)) xs[i].1 j)))/\Same H H') ⟨_,rfl,e2,s2⟩ ?_ ?_
  ·rintro j σ H3 hj ⟨v4',rfl,e3,s3⟩
   have hj:j < xs[i].1.length:=by omega
   refine jij_ ?_
   walk_at "go"
   have hcut:cutA xs[i].1 none (some (0+(j:Int)+1))=xs[i].1.take (j+1):=by
    rw[show (0+(j:Int)+1)=((j+1:Nat):Int) by omega]
    exact jeo_ _ _ (by omega)
   rw[hcut]
   have hbs:=ug_ (begA [[]] (xs.take i)) xs[i].1 j
   refine⟨a,_,rfl,DPut.k (k:=Sum.inr (S (xs[i].1.take (j+1)))) e3 ?_,?_⟩
   ·have hle:(bT (begS (begA [[]] (xs.take i)) xs[i].1 j)).length<=200000:=by
     unfold bT
     rw[pb_]
     simp only[ps_,qm_] at hbl
     omega
    exact ry_ hle (by decide)
   ·walk_at "go"
    rw[jnt_,<- vj_]
    exact⟨_,rfl,jb_,jv_ ha s3⟩
  ·rintro σ H3 ⟨v4',rfl,e3,s3⟩
   have hz:(((xs[i].1.length:Nat):Int)).toNat=xs[i].1.length:=by omega
   refine⟨_,_,_,rfl,?_,s3⟩
   rw[e3,p3_,pa_ hi]
   show some (HO.dK (bT _))=some (HO.dK (bT (begA [[]] (xs.take i++[xs[i]]))))
   rw[jdk_]
   try rw[hz]
 ·rintro σ H2 ⟨v2,v3,v4,rfl,e2,s2⟩
  rw[hyl,py_] at e2
  walk_at "go"
  exact q a H2 ha e2 s2
theorem jha_ (T:Txt mg tk)(F:Fun K "_law_seen" "_law_seen" s_law_seen f fd):FnOk P w K mg base CX0 1 f fd ["_law_lists","_law_text","_law_behind","_law_ones","_law_others"] jfq_:=by
 refine F.ok sc_law_seen (fun vs H Q E h=>?_) (fun cdv A outer s H vs Q E hr h=>?_)
 ·obtain⟨r,one,other,t,n,i,j,rfl,_⟩:=h
  rfl
 obtain⟨r,one,other,t,n,i,j,rfl,hL3,ht,hn,q⟩:=h
 obtain⟨a1,b1,d,er,h2,ed⟩:=hL3
 obtain⟨ya,yb,ha,hb,hya,hyb,ok1,ok2⟩:=h2
 have nd:=sc_law_seen.nd
 refine⟨_,(jf_ (jl_ (i:=5) nd rfl (Or.inl rfl) (j0_ (ja_ (pv 3) (ja_ (pv 4) je_))))
  (jf_ (zo_ p5_ rfl (z5_ rfl T.z_range (ja_ jd_ je_)) (jn_ (i:=6) nd rfl (Or.inl rfl))
   (jg_ (zo_ p5_ rfl (j9_ (K:=K) (jj_ (jh_ (K:=K)) (pv 0) (pv 6) (fun _ _=>rfl))) (jax_ rfl (z8_ (jn_ (i:=7) nd rfl (Or.inl rfl)) (z8_ (jn_ (i:=8) nd rfl (Or.inl rfl)) ue_)))
   (jg_ (zr_ (PW.pt (jic_ (ju_ o_ge (jo_ (zq_ (K:=K)) rfl T.z_len (by decide +kernel) (ja_ (pv 7) je_)) (pv 2) (j6_ _)) (jdz_ (vb_ (yg_ (K:=K) sh_ PySem.F.slot_str_endswith PySem.F.type_str_endswith jgy_ (pv 1) (ja_ (pv 7) je_)) (fun _=>rfl)))))
   (jg_ (u1_ (jo_ (jbf_ rfl) rfl T.z_max (by decide +kernel) (ja_ (jj_ (jh_ (K:=K)) (pv 5) (pv 6) (fun _ _=>rfl)) (ja_ (jj_ (jh_ (K:=K)) (pv 8) (jk_ uf_ (jo_ (zq_ (K:=K)) rfl T.z_len (by decide +kernel) (ja_ (pv 7) je_)) (pv 2)) (fun _ _=>rfl)) je_))) (jbs_ (pv 5) (pv 6) jhp_)))
   j5_)))))
  (jf_ (x5_ p5_ (jbm_ (jmt_ (jag_ hr) (pv 1) (jj_ (jh_ (K:=K)) (pv 0) jd_ (fun _ _=>rfl))))
   (jg_ (jl_ (i:=1) nd rfl (Or.inl rfl) (zj_ (z7_ (K:=K)) (pv 1) (zk_ jd_) z6_))))
  (jg_ (jt_ (zd_ (ja_ (pv 1) (ja_ (pv 2) (ja_ (jj_ (jh_ (K:=K)) (pv 5) jd_ (fun _ _=>rfl)) (ja_ (jj_ (jh_ (K:=K)) (pv 5) jd_ (fun _ _=>rfl)) je_)))))))))),?_⟩
 rw[show L2.j7_ ["_law_lists","_law_text","_law_behind","_law_ones","_law_others","_law_best","_law_side","_law_signs_here","_law_numbers"] [.ref r,.str (S t),.int (n:Int),.int i,.int j]=[some (.ref r),some (.str (S t)),some (.int (n:Int)),some (.int i),some (.int j),none,none,none,none] from rfl]
 walk_at "go"
 intro bl hbl
 have s1:=jc_ hbl (.lst [.int i,.int j])
 have ebl:=jb_ (H:=H) (a:=bl) (o:=.lst [.int i,.int j])
 generalize upd H bl (.lst [.int i,.int j])=H1 at s1 ebl ⊢
 walk_at "go"
 refine zu_ (fun k σ H'=>∃(f:Nat->Int) (v6 v7 v8:Option V),σ=[some (.ref r),some (.str (S t)),some (.int (n:Int)),some (.int i),some (.int j),some (.ref bl),v6,v7,v8]/\H' bl=some (.lst [.int (f 0),.int (f 1)])/\(f 0=if 1<=k then ye_ one t n i else i)/\(f 1=if 2<=k then ye_ other t n j else j)/\Same H H')
  ⟨fun k=>if k=0 then i else j,none,none,none,rfl,ebl,rfl,rfl,s1⟩ ?_ ?_
 ·rintro k σ H2 hk ⟨fv,v6,v7,v8,rfl,ebl2,hf0,hf1,s2⟩
  have hk2:k < 2:=hk
  have er2:=s2 _ _ er
  obtain⟨al,ys,xs,hat,hal,hys,okx⟩:∃(al:Addr) (ys:List V) (xs:List Pat),atI [V.ref a1,V.ref b1,V.ref d] (0+(k:Int))=some (.ref al)/\H al=some (.lst ys)/\L2.IsL H ys (xs.map patD)/\OkP xs/\xs=if k=0 then one else other:=by
   rcases (show k=0∨k=1 by omega) with rfl | rfl
   ·exact⟨a1,ya,one,rfl,ha,hya,ok1,rfl⟩
   ·exact⟨b1,yb,other,rfl,hb,hyb,ok2,rfl⟩
  obtain⟨okx,hxs⟩:=okx
  have hyl:ys.length=xs.length:=by have:=hys.length;simpa using this
  have hal2:=s2 _ _ hal
  walk_at "go"
  refine zy_ (K:=K) (xs:=ys) (fun m σ H'=>∃(g:Nat->Int) (v7 v8:Option V),σ=[some (.ref r),some (.str (S t)),some (.int (n:Int)),some (.int i),some (.int j),some (.ref bl),some (.int (0+(k:Int))),v7,v8]/\H' bl=some (.lst [.int (g 0),.int (g 1)])/\(∀ q,q≠k->g q=fv q)/\g k=ye_ (xs.take m) t n (fv k)/\Same H H')
   ⟨fv,_,_,rfl,ebl2,fun _ _=>rfl,rfl,s2⟩ (fun m σ H' _ ⟨_,_,_,_,_,_,_,s⟩=>SqL.of (s _ _ hal)) ?_ ?_
  ·rintro m x σ H3 hx ⟨g,v7',v8',rfl,ebl3,hg1,hg2,s3⟩
   have hm:m < xs.length:=by have:=(pq_.mp hx).1;omega
   obtain⟨x',d',hx1,hx2,hx3⟩:=IsL.get (IsL.same s3 hys) (i:=m) (by rw[pb_];exact hm)
   rw[hx] at hx1
   cases hx1
   rw[pl_,pa_ hm] at hx2
   cases hx2
   obtain⟨pa,nt,rfl,hpa,hnt⟩:=vt_ hx3
   obtain⟨hp1,hp2,hp3⟩:=okx.1 _ (px_ hm)
   have hsn:ye_ (xs.take (m+1)) t n (fv k)=if n<=xs[m].1.length/\xs[m].1 <:+ t then mx (g k) (xs[m].2.getD (xs[m].1.length - n) 0) else g k:=by
    rw[p3_,pa_ hm]
    show ye_ (xs.take m++[xs[m]]) t n (fv k)=_
    rw[jiz_,hg2]
   rw[hsn]
   generalize xs[m]=x at hpa hnt hp1 hp2 hp3
   obtain⟨p,ns⟩:=x
   have hp2:p.length<=22:=hp2
   have hp3:ns.length=p.length+1:=hp3
   have hpa:H3 pa=some (.tup [.str (S p),.ref nt]):=hpa
   have hnt:H3 nt=some (.tup (ns.map V.int)):=hnt
   show gTup _ _ _ (.ref pa) _ _ _
   refine jbu_ hpa rfl (yn_ (y1_ (yn_ (y1_ (jbl_ ?_)))))
   walk_at "go"
   have keep:¬ (n<=p.length/\p <:+ t)->∃(g':Nat->Int) (v7 v8:Option V),[some (.ref r),some (.str (S t)),some (.int (n:Int)),some (.int i),some (.int j),some (.ref bl),some (.int (0+(k:Int))),some (.str (S p)),some (.ref nt)]=[some (.ref r),some (.str (S t)),some (.int (n:Int)),some (.int i),some (.int j),some (.ref bl),some (.int (0+(k:Int))),v7,v8]/\H3 bl=some (.lst [.int (g' 0),.int (g' 1)])/\(∀ q,q≠k->g' q=fv q)/\g' k=(if n<=p.length/\p <:+ t then mx (g k) (ns.getD (p.length - n) 0) else g k)/\Same H H3:=fun h=>⟨g,_,_,rfl,ebl3,hg1,by rw[if_neg h],s3⟩
   refine iteD (fun c1=>?_) (fun c1=>?_)
   ·walk_at "go"
    rw[jxn_]
    refine iteD (fun c2=>?_) (fun c2=>?_)
    ·have hgk:atI [V.int (g 0),V.int (g 1)] (0+(k:Int))=some (.int (g k)):=by
      rcases (show k=0∨k=1 by omega) with rfl | rfl <;> rfl
     have hix:p.length - n < ns.length:=by omega
     walk_at "go"
     refine xa_ (v:=.int ns[p.length - n]) (yi_ hnt) (zg_ (by omega) (by rw[show ((p.length:Int) - (n:Int)).toNat=p.length - n by omega,pl_,pa_ hix];rfl)) ?_
     walk_at "go"
     refine y4_ (j:=k) ebl3 (by rcases (show k=0∨k=1 by omega) with rfl | rfl <;> rfl) ?_
     have hnd:ns.getD (p.length - n) 0=ns[p.length - n]:=by rw[pf_,pa_ hix];rfl
     refine⟨fun q=>if q=k then mx (g k) ns[p.length - n] else g q,_,_,rfl,?_,fun q hq=>(if_neg hq).trans (hg1 q hq),(if_pos rfl).trans (by show _=if n<=p.length/\p <:+ t then mx (g k) (ns.getD (p.length - n) 0) else g k;rw[if_pos ⟨by omega,c2⟩,hnd]),jv_ hbl s3⟩
     rw[jb_]
     rcases (show k=0∨k=1 by omega) with rfl | rfl <;> rfl
    ·walk_at "go"
     exact keep fun h=>c2 h.2
   ·walk_at "go"
    exact keep fun h=>c1 (by omega)
  ·rintro σ H3 ⟨g,v7',v8',rfl,ebl3,hg1,hg2,s3⟩
   rw[hyl,py_] at hg2
   refine⟨g,_,_,_,rfl,ebl3,?_,?_,s3⟩
   ·rcases (show k=0∨k=1 by omega) with rfl | rfl
    ·rw[hg2,hf0,hxs];rfl
    ·rw[hg1 0 (by omega),hf0];rfl
   ·rcases (show k=0∨k=1 by omega) with rfl | rfl
    ·rw[hg1 1 (by omega),hf1];rfl
    ·rw[hg2,hf1,hxs];rfl
 ·rintro σ H2 ⟨fv,v6,v7,v8,rfl,ebl2,hf0,hf1,s2⟩
  have hf0:fv 0=ye_ one t n i:=hf0
  have hf1:fv 1=ye_ other t n j:=hf1
  have er2:=s2 _ _ er
  have ed2:=s2 _ _ ed
  generalize hB:begs (one++other)=B at ed2 q
  have hB0:[]∈B:=hB▸y3_ _
  walk_at "go"
  refine⟨fun m σ H'=>∃ t':List Nat,H'=H2/\σ=[some (.ref r),some (.str (S t')),some (.int (n:Int)),some (.int i),some (.int j),some (.ref bl),v6,v7,v8]/\jp_ B t'=jp_ B t/\m=t'.length/\t'.length<=1000,⟨_,t,rfl,rfl,rfl,rfl,ht⟩,?_⟩
  rintro m σ H' ⟨t',rfl,rfl,htt,rfl,ht'⟩
  walk_at "go"
  refine i_tB (jqd_ ?_)
  walk_at "go"
  refine⟨d,_,rfl,DGet.k (k:=Sum.inr (S t')) ed2,_,rfl,?_⟩
  rw[jjl_]
  by_cases hm:t'∈B
  ·rw[if_pos hm]
   walk_at "go"
   have htl:jp_ B t'=t':=by
    cases t' with
    | nil=>rfl
    | cons c r=>unfold jp_;rw[if_pos hm]
   intro a ha'
   rw[hf0,hf1]
   refine q a _ (s2.free ha') ?_ (s2.trans (jc_ ha' _))
   rw[jb_,<- htt,htl]
  ·rw[if_neg hm]
   cases t' with
   | nil=>exact absurd hB0 hm
   | cons c r' =>
    refine jlu_ rfl ⟨fun σ' H''=>∃ m',m' < (c::r').length/\∃ t':List Nat,H''=H'/\σ'=[some (.ref r),some (.str (S t')),some (.int (n:Int)),some (.int i),some (.int j),some (.ref bl),v6,v7,v8]/\jp_ B t'=jp_ B t/\m'=t'.length/\t'.length<=1000,fun σ' H'' h=>h,?_⟩
    walk_at "go"
    have hcut:cutA (c::r') (some 1) none=r':=va_ (c::r') 1 (by rw[ps_];omega)
    rw[hcut]
    refine⟨r'.length,by rw[ps_];omega,r',rfl,rfl,?_,rfl,by rw[ps_] at ht';omega⟩
    rw[<- htt]
    conv=>rhs;unfold jp_
    rw[if_neg hm]
end
def jib_:Sp:=fun vs H Q _=>∃(r va:Addr) (one other:List Pat) (v:View) (c:Nat),vs=[.ref r,.ref va,.str (S [c])]/\Lists3 H r one other/\OkP one/\OkP other/\OkV v/\0<=v.i/\0<=v.j/\(v.b=none->v.i=0/\v.j=0)/\H va=some (.tup (vdat v)) /\
 jrp_ H ((jy_ one other v c).map z3_) ((j2_ one other v c).map yd_) Q
def jii_:Sp:=fun vs H Q _=>∃(r va:Addr) (one other:List Pat) (v:View),vs=[.ref r,.ref va]/\Lists3 H r one other/\OkP one/\OkP other/\OkV v/\0<=v.i/\0<=v.j/\H va=some (.tup (vdat v)) /\
 jul_ H ((zc_ one other v).map yd_) Q
def jcc_:Sp:=fun vs H Q _=>∃(r:Addr) (one other:List Pat),vs=[.ref r]/\Lists3 H r one other/\∀(a:Addr) (H':Hp),H a=none->H' a=some (.tup (vdat (fstV one other)))->Same H H'->Q (.ref a) H'
theorem jdt_ {one other:List Pat}(h1:OkP one)(h2:OkP other)(t:List Nat)(n:Nat){i j:Int}(hi:0<=i)(hj:0<=j) :
  ye_ one t n i=tell one (jp_ (begs (one++other)) t) n i/\ye_ other t n j=tell other (jp_ (begs (one++other)) t) n j:=by
 have hs:=zw_ (begs (one++other)) t
 exact⟨vl_ h1.len (fun x hx=>⟨fun h=>jbw_ (pe_.mpr (.inl hx)) h,fun h=>h.trans hs⟩) n hi,vl_ h2.len (fun x hx=>⟨fun h=>jbw_ (pe_.mpr (.inr hx)) h,fun h=>h.trans hs⟩) n hj⟩
section
variable {P:Program}{w:World}{K:pc_}{mg:Str->Option Value}{base:Heap}{f:Addr}{fd:FuncData}{tk:Nat->Tok}{cO:Addr}
theorem jgg_ (T:Txt mg tk)(F:Fun K "_law_step" "_law_step" s_law_step f fd)(D_law_seen:Dn P w K mg base "_law_seen" 1 ["_law_lists","_law_text","_law_behind","_law_ones","_law_others"] jfq_):FnOk P w K mg base CX0 2 f fd ["_law_lists","_law_view","_law_letter"] jib_:=by
 refine F.ok sc_law_step (fun vs H Q E h=>?_) (fun cdv A outer s H vs Q E hr h=>?_)
 ·obtain⟨r,va,one,other,v,c,rfl,_⟩:=h
  rfl
 obtain⟨r,va,one,other,v,c,rfl,hL,ok1,ok2,okv,hi0,hj0,hz0,ev,q⟩:=h
 have nd:=sc_law_step.nd
 refine⟨_,(jf_ (zr_ (ju_ o_is (jj_ (jh_ (K:=K)) (pv 1) jd_ (fun _ _=>rfl)) yz_ (j6_ _))
   (jf_ (jl_ (i:=3) nd rfl (Or.inl rfl) (jq_ D_law_seen hr.mo_ rfl (ja_ (pv 0) (ja_ (jk_ jx_ (jj_ (jh_ (K:=K)) (pv 1) jd_ (fun _ _=>rfl)) (pv 2)) (ja_ jd_ (ja_ jd_ (ja_ jd_ je_)))))))
  (jg_ (jt_ (zd_ (ja_ (j0_ (ja_ (zd_ (ja_ (jj_ (jh_ (K:=K)) (pv 3) jd_ (fun _ _=>rfl)) (ja_ yz_ (ja_ jd_ (ja_ jd_ je_))))) (ja_ (pv 3) je_))) (ja_ (j0_ je_) je_))))))
   j5_)
  (jf_ (jl_ (i:=3) nd rfl (Or.inl rfl) (jq_ D_law_seen hr.mo_ rfl (ja_ (pv 0) (ja_ (jk_ jx_ (jj_ (jh_ (K:=K)) (pv 1) jd_ (fun _ _=>rfl)) (pv 2)) (ja_ (jk_ jx_ (jj_ (jh_ (K:=K)) (pv 1) jd_ (fun _ _=>rfl)) jd_) (ja_ (jj_ (jh_ (K:=K)) (pv 1) jd_ (fun _ _=>rfl)) (ja_ (jj_ (jh_ (K:=K)) (pv 1) jd_ (fun _ _=>rfl)) je_)))))))
  (jf_ (zr_ (ju_ o_lt (jo_ (zq_ (K:=K)) rfl T.z_len (by decide +kernel) (ja_ (jj_ (jh_ (K:=K)) (pv 3) jd_ (fun _ _=>rfl)) je_)) (jj_ (jh_ (K:=K)) (pv 3) jd_ (fun _ _=>rfl)) (j6_ _))
   (jg_ (jt_ (zd_ (ja_ (j0_ je_) (ja_ (j0_ (ja_ (zj_ (z7_ (K:=K)) (pv 3) (zk_ jd_) z6_) je_)) je_)))))
   j5_)
  (jg_ (jt_ (zd_ (ja_ (j0_ (ja_ (pv 3) je_)) (ja_ (j0_ je_) je_)))))))),?_⟩
 rw[show L2.j7_ ["_law_lists","_law_view","_law_letter","_law_found"] [.ref r,.ref va,.str (S [c])]=[some (.ref r),some (.ref va),some (.str (S [c])),none] from rfl]
 obtain⟨vt,vb,vi,vj⟩:=v
 have hi0:0<=vi:=hi0
 have hj0:0<=vj:=hj0
 have hvt:vt.length<=100:=okv.1
 have htl:(vt++[c]).length<=1000:=by rw[pg_];show _+1<=_;omega
 cases vb with
 | none =>
  have ev:H va=some (.tup [.str (S vt),.non,.int vi,.int vj]):=ev
  obtain⟨hz1,hz2⟩:=hz0 rfl
  have hz1:vi=0:=hz1
  have hz2:vj=0:=hz2
  subst hz1 hz2
  walk_at "go"
  refine⟨r,one,other,vt++[c],0,0,0,rfl,hL,htl,by decide,fun fa H1 hfa efa s1=>?_⟩
  obtain⟨e1,e2⟩:=jdt_ ok1 ok2 (vt++[c]) 0 (sx_ 0) (sx_ 0)
  rw[e1,e2] at efa
  have hV:jy_ one other ⟨vt,none,0,0⟩ c=[⟨(zt_ one other ⟨vt,none,0,0⟩ c).t,none,0,0⟩,zt_ one other ⟨vt,none,0,0⟩ c]:=rfl
  have hP:j2_ one other ⟨vt,none,0,0⟩ c=[]:=rfl
  rw[hV,hP] at q
  have efa:H1 fa=some (.tup [.str (S (zt_ one other ⟨vt,none,0,0⟩ c).t),bV (zt_ one other ⟨vt,none,0,0⟩ c).b,.int (zt_ one other ⟨vt,none,0,0⟩ c).i,.int (zt_ one other ⟨vt,none,0,0⟩ c).j]):=efa
  walk_at "go"
  intro p1 hp1
  have s2:=jc_ hp1 (.tup [.str (S ((zt_ one other ⟨vt,none,0,0⟩ c).t)),.non,.int 0,.int 0])
  have ep1:=jb_ (H:=H1) (a:=p1) (o:=.tup [.str (S ((zt_ one other ⟨vt,none,0,0⟩ c).t)),.non,.int 0,.int 0])
  have efa2:=s2 _ _ efa
  generalize upd H1 p1 (.tup [.str (S ((zt_ one other ⟨vt,none,0,0⟩ c).t)),.non,.int 0,.int 0])=H2 at s2 ep1 efa2 ⊢
  walk_at "go"
  intro p2 hp2
  have s3:=jc_ hp2 (.lst [.ref p1,.ref fa])
  have ep2:=jb_ (H:=H2) (a:=p2) (o:=.lst [.ref p1,.ref fa])
  have ep13:=s3 _ _ ep1
  have efa3:=s3 _ _ efa2
  generalize upd H2 p2 (.lst [.ref p1,.ref fa])=H3 at s3 ep2 ep13 efa3 ⊢
  walk_at "go"
  intro p3 hp3
  have s4:=jc_ hp3 (.lst [])
  have ep3:=jb_ (H:=H3) (a:=p3) (o:=.lst [])
  have n23:p2≠p3:=fun z=>by rw[z,hp3] at ep2;cases ep2
  have ep24:=s4 _ _ ep2
  have ep14:=s4 _ _ ep13
  have efa4:=s4 _ _ efa3
  have s14:=(s1.trans s2).trans (s3.trans s4)
  generalize upd H3 p3 (.lst [])=H4 at s4 ep3 ep24 ep14 efa4 s14 ⊢
  walk_at "go"
  intro p4 hp4
  have s5:=jc_ hp4 (.tup [.ref p2,.ref p3])
  refine q p4 p2 p3 _ _ _ jb_ (s5 _ _ ep24) (s5 _ _ ep3) n23 ((s1.trans s2).free hp2) (((s1.trans s2).trans s3).free hp3) ?_ (by simp only[p7_,L2.IsL]) (s14.trans s5)
  simp only[pp_,p7_,L2.IsL]
  exact⟨yc_ (v:=⟨(zt_ one other ⟨vt,none,0,0⟩ c).t,none,0,0⟩) (s5 _ _ ep14),yc_ (s5 _ _ efa4),trivial⟩
 | some n =>
  have ev:H va=some (.tup [.str (S vt),.int (n:Int),.int vi,.int vj]):=ev
  have hn:n<=100:=okv.2 n rfl
  walk_at "go"
  refine⟨r,one,other,vt++[c],n+1,vi,vj,rfl,hL,htl,by omega,fun fa H1 hfa efa s1=>?_⟩
  obtain⟨e1,e2⟩:=jdt_ ok1 ok2 (vt++[c]) (n+1) hi0 hj0
  rw[e1,e2] at efa
  have htt:(jp_ (begs (one++other)) (vt++[c])).length<=1000:=qe_ (zw_ (begs (one++other)) (vt++[c])).length_le htl
  by_cases hst:(jp_ (begs (one++other)) (vt++[c])).length < n+1
  ·have hs:yt_ one other ⟨vt,some n,vi,vj⟩ c=true:=decide_eq_true hst
   have hV:jy_ one other ⟨vt,some n,vi,vj⟩ c=[]:=by unfold jy_;rw[if_pos hs]
   have hP:j2_ one other ⟨vt,some n,vi,vj⟩ c=[(tell one (jp_ (begs (one++other)) (vt++[c])) (n+1) vi,tell other (jp_ (begs (one++other)) (vt++[c])) (n+1) vj)]:=by unfold j2_;rw[if_pos hs];rfl
   rw[hV,hP] at q
   walk_at "go"
   refine jlp_ (by omega) ?_
   walk_at "go"
   intro p1 hp1
   have s2:=jc_ hp1 (.lst [])
   have ep1:=jb_ (H:=H1) (a:=p1) (o:=.lst [])
   have efa2:=s2 _ _ efa
   generalize upd H1 p1 (.lst [])=H2 at s2 ep1 efa2 ⊢
   walk_at "go"
   refine jva_ efa2 (show ¬ (HT.sIx 4 0 (some 2)=0/\HT.sIx 4 4 none=4) by decide) ?_
   intro p2 H3 ep2 s3
   have ep2:H3 p2=some (.tup [.int (tell one (jp_ (begs (one++other)) (vt++[c])) (n+1) vi),.int (tell other (jp_ (begs (one++other)) (vt++[c])) (n+1) vj)]):=ep2
   have ep13:=s3 _ _ ep1
   have s13:=(s1.trans s2).trans s3
   walk_at "go"
   intro p3 hp3
   have s4:=jc_ hp3 (.lst [.ref p2])
   have ep3:=jb_ (H:=H3) (a:=p3) (o:=.lst [.ref p2])
   have n13:p1≠p3:=fun z=>by rw[z,hp3] at ep13;cases ep13
   have ep14:=s4 _ _ ep13
   have ep24:=s4 _ _ ep2
   have s14:=s13.trans s4
   generalize upd H3 p3 (.lst [.ref p2])=H4 at s4 ep3 ep14 ep24 s14 ⊢
   walk_at "go"
   intro p4 hp4
   have s5:=jc_ hp4 (.tup [.ref p1,.ref p3])
   refine q p4 p1 p3 _ _ _ jb_ (s5 _ _ ep14) (s5 _ _ ep3) n13 (s1.free hp1) (s13.free hp3) (by simp only[p7_,L2.IsL]) ?_ (s14.trans s5)
   simp only[pp_,p7_,L2.IsL]
   exact⟨vi_ (p:=(_,_)) (s5 _ _ ep24),trivial⟩
  ·have hs:yt_ one other ⟨vt,some n,vi,vj⟩ c=false:=decide_eq_false hst
   have hV:jy_ one other ⟨vt,some n,vi,vj⟩ c=[zt_ one other ⟨vt,some n,vi,vj⟩ c]:=by unfold jy_;rw[if_neg (by rw[hs];exact pi_),if_neg (fun z:some n=none=>nomatch z)];rfl
   have hP:j2_ one other ⟨vt,some n,vi,vj⟩ c=[]:=by unfold j2_;rw[if_neg (by rw[hs];exact pi_)]
   rw[hV,hP] at q
   walk_at "go"
   refine jce_ (by omega) ?_
   walk_at "go"
   intro p2 hp2
   have s3:=jc_ hp2 (.lst [.ref fa])
   have ep2:=jb_ (H:=H1) (a:=p2) (o:=.lst [.ref fa])
   have efa3:=s3 _ _ efa
   generalize upd H1 p2 (.lst [.ref fa])=H3 at s3 ep2 efa3 ⊢
   walk_at "go"
   intro p3 hp3
   have s4:=jc_ hp3 (.lst [])
   have ep3:=jb_ (H:=H3) (a:=p3) (o:=.lst [])
   have n23:p2≠p3:=fun z=>by rw[z,hp3] at ep2;cases ep2
   have ep24:=s4 _ _ ep2
   have efa4:=s4 _ _ efa3
   have s14:=(s1.trans s3).trans s4
   generalize upd H3 p3 (.lst [])=H4 at s4 ep3 ep24 efa4 s14 ⊢
   walk_at "go"
   intro p4 hp4
   have s5:=jc_ hp4 (.tup [.ref p2,.ref p3])
   refine q p4 p2 p3 _ _ _ jb_ (s5 _ _ ep24) (s5 _ _ ep3) n23 (s1.free hp2) ((s1.trans s3).free hp3) ?_ (by simp only[p7_,L2.IsL]) (s14.trans s5)
   simp only[pp_,p7_,L2.IsL]
   exact⟨yc_ (v:=zt_ one other ⟨vt,some n,vi,vj⟩ c) (s5 _ _ efa4),trivial⟩
theorem jhg_ (T:Txt mg tk)(F:Fun K "_law_last" "_law_last" s_law_last f fd)(D_law_seen:Dn P w K mg base "_law_seen" 1 ["_law_lists","_law_text","_law_behind","_law_ones","_law_others"] jfq_):FnOk P w K mg base CX0 2 f fd ["_law_lists","_law_view"] jii_:=by
 refine F.ok sc_law_last (fun vs H Q E h=>?_) (fun cdv A outer s H vs Q E hr h=>?_)
 ·obtain⟨r,va,one,other,v,rfl,_⟩:=h
  rfl
 obtain⟨r,va,one,other,v,rfl,hL,ok1,ok2,okv,hi0,hj0,ev,q⟩:=h
 have nd:=sc_law_last.nd
 refine⟨_,(jf_ (zr_ (PW.pt (jcw_ (ju_ o_is (jj_ (jh_ (K:=K)) (pv 1) jd_ (fun _ _=>rfl)) yz_ (j6_ _)) (jau_ (ju_ (o_eq hr.units) (jj_ (jh_ (K:=K)) (pv 1) jd_ (fun _ _=>rfl)) jd_ (j6_ _)))))
   (jg_ (jt_ (j0_ je_)))
   j5_)
  (jg_ (jt_ (j0_ (ja_ (zj_ (z7_ (K:=K)) (jq_ D_law_seen hr.mo_ rfl (ja_ (pv 0) (ja_ (jk_ jx_ (jj_ (jh_ (K:=K)) (pv 1) jd_ (fun _ _=>rfl)) zh_) (ja_ (jk_ jx_ (jj_ (jh_ (K:=K)) (pv 1) jd_ (fun _ _=>rfl)) jd_) (ja_ (jj_ (jh_ (K:=K)) (pv 1) jd_ (fun _ _=>rfl)) (ja_ (jj_ (jh_ (K:=K)) (pv 1) jd_ (fun _ _=>rfl)) je_)))))) (zk_ jd_) z6_) je_))))),?_⟩
 rw[show L2.j7_ ["_law_lists","_law_view"] [.ref r,.ref va]=[some (.ref r),some (.ref va)] from rfl]
 rw[jaa_]
 obtain⟨vt,vb,vi,vj⟩:=v
 have hi0:0<=vi:=hi0
 have hj0:0<=vj:=hj0
 have hvt:vt.length<=100:=okv.1
 cases vb with
 | none =>
  have ev:H va=some (.tup [.str (S vt),.non,.int vi,.int vj]):=ev
  walk_at "go"
  intro lp hlp
  exact q lp [] _ jb_ hlp (by simp only[zc_,p7_,L2.IsL]) (jc_ hlp _)
 | some n =>
  have hn:n<=100:=okv.2 n rfl
  cases n with
  | zero =>
   have ev:H va=some (.tup [.str (S vt),.int 0,.int vi,.int vj]):=ev
   walk_at "go"
   intro lp hlp
   exact q lp [] _ jb_ hlp (by simp only[zc_,p7_,L2.IsL]) (jc_ hlp _)
  | succ n =>
   have ev:H va=some (.tup [.str (S vt),.int ((n+1:Nat):Int),.int vi,.int vj]):=ev
   walk_at "go"
   try refine jce_ (fun z=>by injection z with z;omega) ?_
   walk_at "go"
   refine⟨r,one,other,vt++[46],n+2,vi,vj,rfl,hL,by rw[pg_];show _+1<=_;omega,by omega,fun fa H1 hfa efa s1=>?_⟩
   have e1:=vl_ ok1.len (t:=vt++[46]) (T:=vt++[46]) (fun x hx=>Iff.rfl) (n+2) hi0
   have e2:=vl_ ok2.len (t:=vt++[46]) (T:=vt++[46]) (fun x hx=>Iff.rfl) (n+2) hj0
   rw[e1,e2] at efa
   walk_at "go"
   refine jva_ efa (show ¬ (HT.sIx 4 0 (some 2)=0/\HT.sIx 4 4 none=4) by decide) ?_
   intro p2 H3 ep2 s3
   have ep2:H3 p2=some (.tup [.int (tell one (vt++[46]) (n+2) vi),.int (tell other (vt++[46]) (n+2) vj)]):=ep2
   walk_at "go"
   intro lp hlp
   have s4:=jc_ hlp (.lst [.ref p2])
   refine q lp _ _ jb_ ((s1.trans s3).free hlp) ?_ ((s1.trans s3).trans s4)
   simp only[zc_,pp_,p7_,L2.IsL]
   exact⟨vi_ (p:=(_,_)) (s4 _ _ ep2),trivial⟩
theorem jfi_ (T:Txt mg tk)(F:Fun K "_law_first" "_law_first" s_law_first f fd):FnOk P w K mg base CX0 1 f fd ["_law_lists"] jcc_:=by
 refine F.ok sc_law_first (fun vs H Q E h=>?_) (fun cdv A outer s H vs Q E hr h=>?_)
 ·obtain⟨r,one,other,rfl,_⟩:=h
  rfl
 obtain⟨r,one,other,rfl,hL,q⟩:=h
 have nd:=sc_law_first.nd
 refine⟨_,(jg_ (jt_ (zd_ (ja_ (jj_ (jh_ (K:=K)) (zs_ ["_law_lists","_law_tail"] [some 0,none] rfl (by kernel_rfl) rfl (j9_ (K:=K) (j0_ (ja_ zh_ (ja_ zh_ je_)))) (fun _ _ _ _=>(jn_ (i:=1) (show (["_law_lists","_law_tail"]:List Str).Nodup by decide +kernel) rfl (Or.inl rfl) (Or.inr rfl))) (fun _ _ _ _=>(vh_ (jbm_ (jqk_ (jag_ hr) (pv 1) (jj_ (jh_ (K:=K)) (pv 0) jd_ (fun _ _=>rfl)))))) (fun _ _ _ _=>(pv 1))) jd_ (fun _ _=>rfl)) (ja_ yz_ (ja_ jd_ (ja_ jd_ je_))))))),?_⟩
 rw[show L2.j7_ ["_law_lists"] [.ref r]=[some (.ref r)] from rfl]
 rw[jaa_,xc_]
 obtain⟨a1,b1,d,er,h2,ed⟩:=hL
 walk_at "go"
 intro p0 hp0
 have s1:=jc_ hp0 (.lst [.str (S [46]),.str (S [])])
 have ep0:=jb_ (H:=H) (a:=p0) (o:=.lst [.str (S [46]),.str (S [])])
 refine jiu_ (SqL.of jb_) ?_
 generalize upd H p0 (.lst [.str (S [46]),.str (S [])])=H1 at s1 ep0 ⊢
 intro p1 hp1
 have hp1H:H p1=none:=s1.free hp1
 have hB0:[]∈begs (one++other):=y3_ _
 refine j8_ (K:=K) (xs:=[.str (S [46]),.str (S [])]) (fun k acc σ H'=>∃ v,σ=[some (.ref r),v]/\acc=(([[46],[]].take k).filter fun y=>decide (y∈begs (one++other))).map (fun y=>V.str (S y))/\H' p1=some (.lst acc)/\Same H H'/\Same H1 H')
  (fun k acc σ H' _ ⟨_,_,_,_,_,s⟩=>SqL.of (s _ _ ep0)) ⟨none,rfl,rfl,jb_,s1.trans (jc_ hp1 _),jc_ hp1 _⟩ (fun k acc σ H' ⟨_,_,e,e2,_,_⟩=>⟨e2,by rw[e,pb_];refine qe_ (qn_ _ _) ?_;rw[p2_];omega⟩) (szn (by decide)) ?_ ?_
 ·rintro k acc σ H2 hk ⟨v,rfl,rfl,e2,s2,s12⟩
  have hk2:k < 2:=hk
  have er2:=s2 _ _ er
  have ed2:=s2 _ _ ed
  have hkl:k < ([[46],[]]:List (List Nat)).length:=hk2
  have hgd:([V.str (S [46]),V.str (S [])]:List V).getD k .non=.str (S ([[46],[]]:List (List Nat))[k]):=by
   rcases (show k=0∨k=1 by omega) with rfl | rfl <;> rfl
  have htk:([[46],[]]:List (List Nat)).take (k+1)=([[46],[]]:List (List Nat)).take k++[([[46],[]]:List (List Nat))[k]]:=by rw[p3_,pa_ hkl];rfl
  rw[hgd,htk]
  generalize ([[46],[]]:List (List Nat))[k]=y
  walk_at "go"
  refine i_tB (jut_ ?_)
  walk_at "go"
  refine⟨d,_,rfl,DGet.k (k:=Sum.inr (S y)) ed2,_,rfl,?_⟩
  rw[jjl_]
  by_cases hy:y∈begs (one++other)
  ·rw[if_pos hy]
   walk_at "go"
   refine⟨e2,_,rfl,?_,jb_,jv_ hp1H s2,jv_ hp1 s12⟩
   rw[qo_,qw_ (by exact decide_eq_true hy),pk_];rfl
  ·rw[if_neg hy]
   walk_at "go"
   refine⟨_,rfl,?_,e2,s2,s12⟩
   rw[qo_,q0_ (by rw[decide_eq_false hy];exact pi_),rq_,qq_]
 ·rintro acc σ H2 ⟨v,rfl,rfl,e2,s2,s12⟩
  have hv:atI ((((([[46],[]]:List (List Nat)).take [V.str (S [46]),V.str (S [])].length).filter fun y=>decide (y∈begs (one++other))).map fun y=>V.str (S y))) 0=some (.str (S (fstV one other).t)):=by
   show atI (((([[46],[]]:List (List Nat)).filter fun y=>decide (y∈begs (one++other))).map fun y=>V.str (S y))) 0=some (.str (S (jp_ (begs (one++other)) [46])))
   have hnil:jp_ (begs (one++other)) []=[]:=rfl
   unfold jp_
   by_cases hy:[46]∈begs (one++other)
   ·rw[if_pos hy,qw_ (by exact decide_eq_true hy),pp_];exact juv_ _ _
   ·rw[if_neg hy,q0_ (by rw[decide_eq_false hy];exact pi_),qw_ (by exact decide_eq_true hB0),hnil];rfl
  walk_at "go"
  try refine xa_ (jr_ e2) hv ?_
  walk_at "go"
  intro p3 hp3
  exact q p3 _ (s2.free hp3) jb_ (s2.trans (jc_ hp3 _))
end
noncomputable abbrev s_law_signs:Stmt:=top 27
theorem sc_law_signs:FnScope ["_law_patterns","_law_letters_here","_law_met"] ["_law_patterns"] (jm_ s_law_signs):=by walk_at "f"
noncomputable abbrev s_law_all:Stmt:=top 28
theorem sc_law_all:FnScope ["_law_lists","_law_letters_here","_law_view","_law_views","_law_pairs","_law_letter","_law_told"] ["_law_lists","_law_letters_here","_law_view"] (jm_ s_law_all):=by walk_at "f"
def jry_:Sp:=fun vs H Q _=>∃(r lb va:Addr) (one other:List Pat) (L:List Nat) (v:View),vs=[.ref r,.ref lb,.ref va]/\Lists3 H r one other/\OkP one/\OkP other/\OkV v/\0<=v.i/\0<=v.j/\(v.b=none->v.i=0/\v.j=0)/\H va=some (.tup (vdat v)) /\
 H lb=some (.lst (L.map fun c=>V.str (S [c])))/\L.length<=27 /\
 jrp_ H ((L.flatMap (jy_ one other v)).map z3_) ((zc_ one other v++L.flatMap (j2_ one other v)).map yd_) Q
theorem jzh_ {i j:Nat}{ta:TA}{D:Ends}{σ:St}{H:Hp}(h:ta σ H fun vs H1=>∃ v w,vs=[v,w]/\D.nx ((σ.set i (some v)).set j (some w)) H1):tPar i j ta D σ H:=h
theorem uo_ {α β:Type}{f:α->List β}{m:Nat}:∀{l:List α},(∀ a∈l,(f a).length<=m)->(l.flatMap f).length<=l.length * m
 | [],_=>by simp
 | a::l,h=>by
  have h1:=h a pm_
  have h2:=uo_ (l:=l) fun b hb=>h b (pj_ _ hb)
  rw[s9_,pg_,ps_,w7_]
  omega
theorem jmx_ (ls:List Nat):(ls.map fun c=>V.str (S [c])).all xi_=true:=by
 rw[List.all_map,th_]
 intro x _;rfl
theorem jof_ (c:Nat)(ls:List Nat):inV (.str (S [c])) (ls.map fun c=>V.str (S [c]))=decide (c∈ls):=by
 induction ls with
 | nil=>rfl
 | cons x r ih =>
  unfold inV at ih ⊢
  rw[pp_,rh_,ih]
  by_cases h:x=c
  ·subst h;simp[eqV]
  ·have h2:(S [x] == S [c])=false:=by
    rw[beq_eq_false_iff_ne];exact fun e=>h (by simpa using jlo_ e)
   have h3:c≠x:=fun e=>h e.symm
   simp[eqV,h2,h3]
section
variable {P:Program}{w:World}{K:pc_}{mg:Str->Option Value}{base:Heap}{f:Addr}{fd:FuncData}{tk:Nat->Tok}{cO:Addr}
theorem jet_ (T:Txt mg tk)(F:Fun K "_law_signs" "_law_signs" s_law_signs f fd):FnOk P w K mg base CX0 1 f fd ["_law_patterns"] jdw_:=by
 refine F.ok sc_law_signs (fun vs H Q E h=>?_) (fun cdv A outer s H vs Q E hr h=>?_)
 ·obtain⟨b,ys,xs,rfl,_⟩:=h
  rfl
 obtain⟨b,ys,xs,rfl,hb,hys,hxs,hxl,q⟩:=h
 have nd:=sc_law_signs.nd
 have hyl:ys.length=xs.length:=by have:=hys.length;simpa using this
 refine⟨_,(jf_ (jl_ (i:=1) nd rfl (Or.inl rfl) zh_)
  (jf_ (jl_ (i:=2) nd rfl (Or.inr rfl) (jrr_ ["_law_patterns","_law_letter"] [some 0,none] rfl (by kernel_rfl) rfl (j9_ (K:=K) (pv 1)) (fun _ _ _ _=>(jn_ (i:=1) (show (["_law_patterns","_law_letter"]:List Str).Nodup by decide +kernel) rfl (Or.inr rfl) (Or.inl rfl))) (fun _ _ _ _=>(vh_ (vb_ (jo_ (jlm_ rfl) rfl T.z_any (by decide +kernel) (ja_ (zs_ ["_law_letter","_law_pattern_here"] [some 1,none] rfl (by kernel_rfl) rfl (j9_ (K:=K) (pv 0)) (fun _ _ _ _=>(jn_ (i:=1) (show (["_law_letter","_law_pattern_here"]:List Str).Nodup by decide +kernel) rfl (Or.inl rfl) (Or.inr rfl))) (fun _ _ _ _=>zn_) (fun _ _ _ _=>(jat_ o_in (pv 0) (jj_ (jh_ (K:=K)) (pv 1) jd_ (fun _ _=>rfl)) (by with_unfolding_all rfl)))) je_)) (fun _=>rfl)))) (fun _ _ _ _=>(pv 1))))
  (jg_ (jt_ (jk_ jx_ (pv 2) (zj_ (z7_ (K:=K)) (zs_ ["_law_met","_law_letter"] [some 2,none] rfl (by kernel_rfl) rfl (j9_ (K:=K) (pv 1)) (fun _ _ _ _=>(jn_ (i:=1) (show (["_law_met","_law_letter"]:List Str).Nodup by decide +kernel) rfl (Or.inl rfl) (Or.inr rfl))) (fun _ _ _ _=>(vh_ (ju_ jky_ (pv 1) (pv 0) (by with_unfolding_all rfl)))) (fun _ _ _ _=>(pv 1))) z6_ (zk_ jd_))))))),?_⟩
 rw[show L2.j7_ ["_law_patterns","_law_letters_here","_law_met"] [.ref b]=[some (.ref b),none,none] from rfl]
 rw[jpp_]
 walk_at "go"
 intro r2 hr2
 have hLL:LETL.length=26:=rfl
 refine un_ (fun i acc σ H'=>∃ v,σ=[some (.ref b),v]/\acc=((LETL.take i).filter (jz_ xs)).map (fun c=>V.str (S [c]))/\H' r2=some (.lst acc)/\Same H H')
  ⟨none,rfl,rfl,jb_,jc_ hr2 _⟩ (fun i acc σ H' ⟨_,_,e,e2,_⟩=>⟨e2,by rw[e,pb_];refine qe_ (qn_ _ _) ?_;rw[p2_];omega⟩) (szn (by rw[zi_,js_];decide)) ?_ ?_
 ·rintro i acc σ H3 hi ⟨v,rfl,rfl,e3,s3⟩
  rw[zi_,js_] at hi
  rw[jao_ hi]
  have ht:LETL.take (i+1)=LETL.take i++[LETL[i]]:=by rw[p3_,pa_ hi];rfl
  rw[ht]
  generalize LETL[i]=c
  have hb3:=s3 _ _ hb
  walk_at "go"
  intro r3 hr3
  refine j8_ (K:=K) (xs:=ys) (fun m acc' σ H'=>∃ u,σ=[some (.str (S [c])),u]/\acc'=((xs.take m).map fun x=>decide (c∈x.1)).map V.bl/\H' r3=some (.lst acc')/\Same H3 H') (fun m acc' σ H' _ ⟨_,_,_,_,s⟩=>SqL.of (s _ _ hb3))
   ⟨none,rfl,rfl,jb_,jc_ hr3 _⟩ (fun m acc' σ H' ⟨_,_,e,e2,_⟩=>⟨e2,by rw[e];simp;omega⟩) (szn (by omega)) ?_ ?_
  ·rintro m acc' σ H4 hm ⟨u,rfl,rfl,e4,s4⟩
   rw[hyl] at hm
   obtain⟨y,d,hy,hd1,hI⟩:=IsL.get (IsL.same (s3.trans s4) hys) (show m < (xs.map patD).length by simpa using hm)
   rw[pl_,pa_ hm] at hd1
   cases hd1
   obtain⟨a2,t2,rfl,ea2,et2⟩:=vt_ hI
   rw[pf_,hy,se_]
   walk_at "go"
   rw[v7_,Bool.false_xor]
   refine⟨e4,_,rfl,?_,jb_,jv_ hr3 s4⟩
   rw[p3_,pa_ hm,pk_,pk_];rfl
  ·rintro acc' σ H4 ⟨u,rfl,rfl,e4,s4⟩
   rw[hyl,py_] at e4
   have hany:((xs.map fun x=>decide (c∈x.1)).any id)=jz_ xs c:=by rw[kb_];rfl
   have e34:=s4 _ _ e3
   have s34:=s3.trans s4
   walk_at "go"
   refine jeu_ (ym_ e4) ?_
   simp only[hany]
   walk_at "go"
   by_cases hc:jz_ xs c=true
   ·rw[hc]
    walk_at "go"
    refine⟨e34,_,rfl,?_,jb_,jv_ hr2 s34⟩
    rw[qo_,qw_ hc,pk_];rfl
   ·rw[rv_] at hc
    rw[hc]
    walk_at "go"
    refine⟨_,rfl,?_,e34,s34⟩
    rw[qo_,q0_ (by rw[hc];exact pi_),rq_,qq_]
 ·rintro acc σ H3 ⟨v,rfl,rfl,e3,s3⟩
  rw[zi_,js_,py_] at e3
  walk_at "go"
  intro r3 hr3
  have hr3H:H r3=none:=s3.free hr3
  have hn32:r2≠r3:=fun z=>by rw[<- z,e3] at hr3;cases hr3
  refine un_ (fun i acc σ H'=>∃ v,σ=[some (.ref r2),v]/\acc=((LETL.take i).filter fun c=>!(jz_ xs c)).map (fun c=>V.str (S [c]))/\H' r3=some (.lst acc)/\Same H H'/\H' r2=some (.lst ((LETL.filter (jz_ xs)).map (fun c=>V.str (S [c])))))
   ⟨none,rfl,rfl,jb_,s3.trans (jc_ hr3 _),by rw[ji_ hn32];exact e3⟩ (fun i acc σ H' ⟨_,_,e,e2,_,_⟩=>⟨e2,by rw[e,pb_];refine qe_ (qn_ _ _) ?_;rw[p2_];omega⟩) (szn (by rw[zi_,js_];decide)) ?_ ?_
  ·rintro i acc σ H4 hi ⟨v,rfl,rfl,e4,s4,e42⟩
   rw[zi_,js_] at hi
   rw[jao_ hi]
   walk_at "go"
   refine jli_ (jr_ e42) ⟨rfl,jmx_ _⟩ ?_
   rw[jof_]
   have hmem:decide (LETL[i]∈LETL.filter (jz_ xs))=jz_ xs LETL[i]:=by
    rw[qt_,decide_eq_true_iff,r3_]
    exact⟨fun h=>h.2,fun h=>⟨px_ _,h⟩⟩
   rw[hmem,if_pos rfl]
   have ht:LETL.take (i+1)=LETL.take i++[LETL[i]]:=by rw[p3_,pa_ hi];rfl
   by_cases hc:(!(jz_ xs LETL[i]))=true
   ·rw[hc]
    walk_at "go"
    refine⟨e4,_,rfl,?_,jb_,jv_ hr3H s4,by rw[ji_ hn32];exact e42⟩
    rw[ht,qo_,qw_ (p:=fun c=>!(jz_ xs c)) hc,pk_];rfl
   ·rw[rv_] at hc
    rw[hc]
    walk_at "go"
    refine⟨_,rfl,?_,e4,s4,e42⟩
    rw[ht,qo_,q0_ (p:=fun c=>!(jz_ xs c)) (by rw[hc];exact pi_),rq_,qq_]
  ·rintro acc σ H4 ⟨v,rfl,rfl,e4,s4,e42⟩
   rw[zi_,js_,py_] at e4
   walk_at "go"
   refine vq_ (SqL.of e4) fun r5 hr5=>?_
   have hn52:r2≠r5:=fun z=>by rw[<- z,e42] at hr5;cases hr5
   walk_at "go"
   refine yh_ (by rw[ji_ hn52];exact e42) jb_ (szn (by
    have h1:=qn_ (jz_ xs) LETL
    have h2:=qn_ (fun c=>!(jz_ xs c)) LETL
    have h3:=yb_ ((LETL.filter fun c=>!(jz_ xs c)).map fun c=>V.str (S [c])) none (some 1)
    rw[pb_] at h3 ⊢
    omega)) fun r6 hr6=>?_
   have s5:=s4.trans (jc_ hr5 (.lst (cutV ((LETL.filter fun c=>!(jz_ xs c)).map fun c=>V.str (S [c])) none (some 1))))
   walk_at "go"
   refine q r6 _ (s5.free hr6) ?_ (s5.trans (jc_ hr6 _))
   rw[jb_,jbj_]
   unfold ltr
   rw[pk_,tn_]
theorem jjb_ (T:Txt mg tk)(F:Fun K "_law_all" "_law_all" s_law_all f fd)(D_law_step:Dn P w K mg base "_law_step" 2 ["_law_lists","_law_view","_law_letter"] jib_)(D_law_last:Dn P w K mg base "_law_last" 2 ["_law_lists","_law_view"] jii_):FnOk P w K mg base CX0 3 f fd ["_law_lists","_law_letters_here","_law_view"] jry_:=by
 refine F.ok sc_law_all (fun vs H Q E h=>?_) (fun cdv A outer s H vs Q E hr h=>?_)
 ·obtain⟨r,lb,va,one,other,L,v,rfl,_⟩:=h
  rfl
 obtain⟨r,lb,va,one,other,L,v,rfl,hL,ok1,ok2,okv,hi0,hj0,hz0,ev,elb,hL27,q⟩:=h
 have nd:=sc_law_all.nd
 refine⟨_,(jf_ (jvo_ (i:=3) (j:=4) rfl nd rfl rfl (by decide) rfl rfl (ja_ (j0_ je_) (ja_ (jq_ D_law_last hr.mo_ rfl (ja_ (pv 0) (ja_ (pv 2) je_))) je_)) rfl)
  (jf_ (zo_ p5_ rfl (j9_ (K:=K) (pv 1)) (jn_ (i:=5) nd rfl (Or.inl rfl))
   (jf_ (jl_ (i:=6) nd rfl (Or.inl rfl) (jq_ D_law_step hr.mo_ rfl (ja_ (pv 0) (ja_ (pv 2) (ja_ (pv 5) je_)))))
  (jf_ (jl_ (i:=3) nd rfl (Or.inl rfl) (jk_ jx_ (pv 3) (jj_ (jh_ (K:=K)) (pv 6) jd_ (fun _ _=>rfl))))
  (jg_ (jl_ (i:=4) nd rfl (Or.inl rfl) (jk_ jx_ (pv 4) (jj_ (jh_ (K:=K)) (pv 6) jd_ (fun _ _=>rfl))))))))
  (jg_ (jt_ (zd_ (ja_ (pv 3) (ja_ (pv 4) je_))))))),?_⟩
 rw[show L2.j7_ ["_law_lists","_law_letters_here","_law_view","_law_views","_law_pairs","_law_letter","_law_told"] [.ref r,.ref lb,.ref va]=[some (.ref r),some (.ref lb),some (.ref va),none,none,none,none] from rfl]
 walk_at "go"
 refine jzh_ ?_
 walk_at "go"
 intro p0 hp0
 have s0:=jc_ hp0 (.lst [])
 have ep0:=jb_ (H:=H) (a:=p0) (o:=.lst [])
 generalize upd H p0 (.lst [])=H0 at s0 ep0 ⊢
 walk_at "go"
 refine⟨r,va,one,other,v,rfl,hL.same s0,ok1,ok2,okv,hi0,hj0,s0 _ _ ev,fun lp us H1 elp hlp hus s1=>?_⟩
 have s01:=s0.trans s1
 have ep01:=s1 _ _ ep0
 have hne0:p0≠lp:=fun z=>by rw[z,hlp] at ep0;cases ep0
 have el1:=s01 _ _ elb
 walk_at "go"
 refine⟨.ref p0,.ref lp,rfl,?_⟩
 walk_at "go"
 refine zy_ (K:=K) (xs:=L.map fun c=>V.str (S [c])) (fun i σ H'=>∃(l1 l2:Addr) (z1 z2:List V) (x5 x6:Option V),σ=[some (.ref r),some (.ref lb),some (.ref va),some (.ref l1),some (.ref l2),x5,x6]/\H' l1=some (.lst z1)/\H' l2=some (.lst z2)/\l1≠l2/\H l1=none/\H l2=none /\
   L2.IsL H' z1 (((L.take i).flatMap (jy_ one other v)).map z3_)/\L2.IsL H' z2 ((zc_ one other v++(L.take i).flatMap (j2_ one other v)).map yd_)/\Same H H')
  ⟨p0,lp,[],us,none,none,rfl,ep01,elp,hne0,hp0,s0.free hlp,by simp only[wc_,tk_,p7_,L2.IsL],by rw[wc_,tk_,qq_];exact hus,s01⟩ (fun i σ H' _ ⟨_,_,_,_,_,_,_,_,_,_,_,_,_,_,s⟩=>SqL.of (s _ _ elb)) ?_ ?_
 ·rintro i y σ H2 hy ⟨l1,l2,z1,z2,x5,x6,rfl,el1,el2,hne,hl1,hl2,hz1,hz2,s2⟩
  have hi:i < L.length:=by have:=(pq_.mp hy).1;simpa using this
  rw[pl_,pa_ hi] at hy
  cases hy
  have htk:L.take (i+1)=L.take i++[L[i]]:=by rw[p3_,pa_ hi];rfl
  have hb1:=hz1.length
  have hb2:=hz2.length
  rw[pb_] at hb1 hb2
  have hm1:((L.take i).flatMap (jy_ one other v)).length<=(L.take i).length * 2:=uo_ fun c _=>(zm_ one other v c).1
  have hm2:((L.take i).flatMap (j2_ one other v)).length<=(L.take i).length * 1:=uo_ fun c _=>(zm_ one other v c).2.1
  have hm3:=(zm_ one other v 0).2.2
  rw[pg_] at hb2
  have hti:(L.take i).length<=27:=by rw[p2_];omega
  rw[htk]
  generalize L[i]=c
  walk_at "go"
  refine⟨r,va,one,other,v,c,rfl,hL.same s2,ok1,ok2,okv,hi0,hj0,hz0,s2 _ _ ev,fun ta lv lp2 zs us2 H3 eta elv elp2 hne3 hlv hlp2 hzs hus2 s3=>?_⟩
  have el13:=s3 _ _ el1
  have el23:=s3 _ _ el2
  have hzl:=hzs.length
  have hul:=hus2.length
  rw[pb_] at hzl hul
  have hq1:=(zm_ one other v c).1
  have hq2:=(zm_ one other v c).2.1
  walk_at "go"
  refine yh_ el13 elv (szn (by omega)) fun n1 hn1=>?_
  have s4:=jc_ hn1 (.lst (z1++zs))
  have en1:=jb_ (H:=H3) (a:=n1) (o:=.lst (z1++zs))
  have eta4:=s4 _ _ eta
  have elp4:=s4 _ _ elp2
  have el24:=s4 _ _ el23
  have s24:=s3.trans s4
  generalize upd H3 n1 (.lst (z1++zs))=H4 at s4 en1 eta4 elp4 el24 s24 ⊢
  walk_at "go"
  refine yh_ el24 elp4 (szn (by omega)) fun n2 hn2=>?_
  have s5:=jc_ hn2 (.lst (z2++us2))
  have s25:=s24.trans s5
  walk_at "go"
  refine⟨n1,n2,z1++zs,z2++us2,_,_,rfl,s5 _ _ en1,jb_,(fun z=>by rw[z,hn2] at en1;cases en1),((s2.trans s3).free hn1),((s2.trans s24).free hn2),?_,?_,s2.trans s25⟩
  ·rw[List.flatMap_append,s9_,tk_,qq_,pk_]
   exact IsL.append (IsL.same s25 hz1) (IsL.same (s4.trans s5) hzs)
  ·rw[List.flatMap_append,s9_,tk_,qq_,<- r6_,pk_]
   exact IsL.append (IsL.same s25 hz2) (IsL.same (s4.trans s5) hus2)
 ·rintro σ H2 ⟨l1,l2,z1,z2,x5,x6,rfl,el1,el2,hne,hl1,hl2,hz1,hz2,s2⟩
  rw[pb_,py_] at hz1 hz2
  walk_at "go"
  intro ra hra
  have s3:=jc_ hra (.tup [.ref l1,.ref l2])
  exact q ra l1 l2 z1 z2 _ jb_ (s3 _ _ el1) (s3 _ _ el2) hne hl1 hl2 (IsL.same s3 hz1) (IsL.same s3 hz2) (s2.trans s3)
end
noncomputable abbrev s_law_apart:Stmt:=top 32
theorem sc_law_apart:FnScope ["_law_one","_law_other","_law_lists","_law_letters_here","_law_line","_law_met","_law_come","_law_pairs","_law_view"] ["_law_one","_law_other"] (jm_ s_law_apart):=by walk_at "f"
def jfs_ (xs:List Pat):Prop:=∀ x∈xs,∀ c∈x.1,c < 128
def Two2 (H:Hp)(a b:Addr)(one other:List Pat):Prop:=∃ ya yb,H a=some (.lst ya)/\H b=some (.lst yb)/\L2.IsL H ya (one.map patD)/\L2.IsL H yb (other.map patD)/\SmP one/\SmP other/\jfs_ one/\jfs_ other
def jbc_:Sp:=fun vs H Q _=>∃(a b:Addr) (one other:List Pat),vs=[.ref a,.ref b]/\Two2 H a b one other/\∀ H',Same H H'->((∃ u,uu_ one other (ltr (one++other)) u)->Q (.bl true) H')/\((∀ u,¬ uu_ one other (ltr (one++other)) u)->Q (.bl false) H')
noncomputable def mkv (ws:List WE):List (List (Option Key)×Addr×V):=ws.map fun e=>(vk e.1,e.2.1,V.bl true)
theorem jrj_ (ws:List WE):(mkv ws).map (·.1)=(ws.map (·.1)).map vk:=by unfold mkv;rw[q1_,q1_];rfl
theorem mkv_none {ws:List WE}{v:View}:valX (mkv ws) (vk v)=none↔v∉ws.map (·.1):=by rw[jgv_,jrj_,jpc_]
theorem jtn_ (ws:List WE):(mkv ws).length=ws.length:=by unfold mkv;rw[pb_]
theorem jws_ {H:Hp}{ws:List WE}(h:∀ e∈ws,H e.2.1=some (.tup (vdat e.1))):KO viewKind H (mkv ws):=fun e he=>by
 unfold mkv at he
 obtain⟨x,hx,rfl⟩:=qb_.mp he
 exact ut_ (h x hx)
theorem jsg_ {ws:List WE}{v:View}{b:Addr}{u:List Nat}(h:v∉ws.map (·.1)):putX (mkv ws) (vk v) b (.bl true)=mkv (ws++[(v,b,u)]):=by
 unfold putX
 have:((mkv ws).any fun e=>decide (e.1=vk v))=false:=by
  rw[sl_]
  intro e he
  unfold mkv at he
  obtain⟨x,hx,rfl⟩:=qb_.mp he
  intro z
  exact h (jef_ (of_decide_eq_true z)▸qb_.mpr ⟨x,hx,rfl⟩)
 rw[this]
 unfold mkv
 rw[pk_];rfl
theorem Srch.popL {one other:List Pat}{L:List Nat}{ws:List WE}{v:View}{a:Addr}{wq:List (View×Addr)}(h:Srch one other L ws (wq++[(v,a)]) fun _=>False):Srch one other L ws wq (·=v) :=
 ⟨h.nd,h.fst,h.path,h.len,fun e he=>h.sub e (pe_.mpr (.inl he)),by have:=h.ql;rw[pg_] at this;omega,fun x hx=>by
  rcases h.done x hx with ⟨b,hb⟩ | hb | hb
  ·rcases pe_.mp hb with hb | hb
   ·exact .inl ⟨b,hb⟩
   ·cases ph_.mp hb;exact .inr (.inl rfl)
  ·exact hb.elim
  ·exact .inr (.inr hb)⟩
theorem jnk_ {one other:List Pat}{L:List Nat}(h1:OkP one)(h2:OkP other){u:List Nat}{v:View}(h:Path one other L u v)(hb:v.b=none):v.i=0/\v.j=0:=by
 obtain⟨g,rfl,_⟩:=h.law h1 h2
 cases g with
 | none=>exact⟨rfl,rfl⟩
 | some g=>cases hb
theorem jrt_ {one other:List Pat}(hc:∀ x∈one++other,∀ c∈x.1,c < 128){v:View}(h:GoodV one other v):Lay 1 (z3_ v):=by
 have ht:∀ c∈v.t,c < 128:=fun c hcm=>by
  rcases mem_begs.mp h.1 with e | ⟨x,hx,k,_,_,e⟩
  ·rw[e] at hcm;cases hcm
  ·rw[e] at hcm;exact hc x hx c (ql_ hcm)
 refine Lay.tup fun d hd=>?_
 simp only[p0_,st_,or_false] at hd
 rcases hd with rfl | rfl | rfl | rfl
 ·exact Lay.str ht
 ·cases v.b <;> simp only[bD]
  ·exact Lay.non
  ·exact Lay.int
 ·exact Lay.int
 ·exact Lay.int
theorem jmp_ {H:Hp}{st:List (View×Addr)}(h:∀ e∈st,H e.2=some (.tup (vdat e.1))):L2.IsL H (st.map fun e=>V.ref e.2) ((st.map (·.1)).map z3_):=by
 induction st with
 | nil=>simp only[p7_,L2.IsL]
 | cons x r ih =>
  have:=ih fun e he=>h e (pj_ _ he)
  simp only[pp_,L2.IsL] at this ⊢
  exact⟨yc_ (h x pm_),this⟩
theorem jtu_ {ds:List Dt}:eqD (.lst ds) (.lst [])=ds.isEmpty:=by
 cases ds with
 | nil=>rfl
 | cons d r=>unfold eqD;simp[toP,toPs,PyData.eqv,tp_]
noncomputable def jhq_ (x y:Addr)(H:Hp):Hp:=fun b=>if b=x∨b=y then none else H b
theorem v8_ {x y b:Addr}{H:Hp}(h1:b≠x)(h2:b≠y):jhq_ x y H b=H b:=if_neg fun h=>h.elim h1 h2
theorem jjr_ {x y b:Addr}{H:Hp}{o:HO}(h:jhq_ x y H b=some o):b≠x/\b≠y/\H b=some o:=by
 unfold jhq_ at h
 split at h
 ·cases h
 ·rename_i hn;exact⟨fun z=>hn (.inl z),fun z=>hn (.inr z),h⟩
def AaW (P:Program)(w:World)(one other:List Pat)(L:List Nat)(HB:Hp)(a b r lb ln md:Addr)(m:Nat)(σ:St)(H':Hp):Prop:=∃(ws:List WE) (st:List (View×Addr)) (x6 x7 x8:Option V),σ=[some (.ref a),some (.ref b),some (.ref r),some (.ref lb),some (.ref ln),some (.ref md),x6,x7,x8] /\
 Srch one other L ws st (fun _=>False)/\H' md=some (DX viewKind P w md (mkv ws))/\H' ln=some (.lst (st.map fun e=>V.ref e.2))/\(∀ e∈ws,H' e.2.1=some (.tup (vdat e.1)))/\(∀ e∈st,H' e.2=some (.tup (vdat e.1)))/\Same HB H'/\m=2 * (161000 - ws.length)+st.length
structure AaS (P:Program)(w:World)(one other:List Pat)(L:List Nat)(HB H':Hp)(ln md:Addr)(v:View)(m:Nat)(ws:List WE)(st:List (View×Addr))(done:List View):Prop where
 sr:Srch one other L ws st (·=v)
 dx:H' md=some (DX viewKind P w md (mkv ws))
 ll:H' ln=some (.lst (st.map fun e=>V.ref e.2))
 ks:∀ e∈ws,H' e.2.1=some (.tup (vdat e.1))
 ts:∀ e∈st,H' e.2=some (.tup (vdat e.1))
 sm:Same HB H'
 dn:∀ y∈done,y∈ws.map (·.1)
 ul:∃ u,Path one other L u v/\u.length+1<=ws.length
 ms:2 * (161000 - ws.length)+st.length+1<=m
section
variable {P:Program}{w:World}{K:pc_}{mg:Str->Option Value}{base:Heap}{f:Addr}{fd:FuncData}{tk:Nat->Tok}{cO:Addr}
theorem jem_ (T:Txt mg tk)(F:Fun K "_law_apart" "_law_apart" s_law_apart f fd)(D_law_begins:Dn P w K mg base "_law_begins" 1 ["_law_patterns"] uz_)(D_law_signs:Dn P w K mg base "_law_signs" 1 ["_law_patterns"] jdw_)(D_law_first:Dn P w K mg base "_law_first" 1 ["_law_lists"] jcc_)(D_law_all:Dn P w K mg base "_law_all" 3 ["_law_lists","_law_letters_here","_law_view"] jry_):FnOk P w K mg base CX0 4 f fd ["_law_one","_law_other"] jbc_:=by
 refine F.ok sc_law_apart (fun vs H Q E h=>?_) (fun cdv A outer s H vs Q E hr h=>?_)
 ·obtain⟨a,b,one,other,rfl,_⟩:=h
  rfl
 obtain⟨a,b,one,other,rfl,h2,q⟩:=h
 obtain⟨ya,yb,ha,hb,hya,hyb,sm1,sm2,lo1,lo2⟩:=h2
 have nd:=sc_law_apart.nd
 have hcs:∀ x∈one++other,∀ c∈x.1,c < 128:=fun x hx=>(pe_.mp hx).elim (lo1 x) (lo2 x)
 generalize hLd:ltr (one++other)=L at q
 have hL27:L.length<=27:=hLd▸jkg_ _
 have hl1:=hya.length
 have hl2:=hyb.length
 rw[pb_] at hl1 hl2
 have hz1:=sm1.2.2
 have hz2:=sm2.2.2
 refine⟨_,(jf_ (jl_ (i:=2) nd rfl (Or.inl rfl) (zd_ (ja_ (pv 0) (ja_ (pv 1) (ja_ (jq_ D_law_begins hr.mo_ rfl (ja_ (jk_ jx_ (pv 0) (pv 1)) je_)) je_)))))
  (jf_ (jl_ (i:=3) nd rfl (Or.inl rfl) (jq_ D_law_signs hr.mo_ rfl (ja_ (jk_ jx_ (pv 0) (pv 1)) je_)))
  (jf_ (jl_ (i:=4) nd rfl (Or.inl rfl) (j0_ (ja_ (jq_ D_law_first hr.mo_ rfl (ja_ (pv 2) je_)) je_)))
  (jf_ (jl_ (i:=5) nd rfl (Or.inl rfl) (jka_ (N:=viewKind) (P:=P) (w:=w) rfl rfl (vv_ hr) (jj_ (jh_ (K:=K)) (pv 4) jd_ (fun _ _=>rfl)) xm_))
  (jf_ (x5_ p5_ (ju_ (o_ne hr.units) (pv 4) (j0_ je_) (j6_ _))
   (jf_ (u1_ (jq_ D_law_all hr.mo_ rfl (ja_ (pv 2) (ja_ (pv 3) (ja_ (jkt_ (K:=K) qf_ kf_ kg_ jyw_ (pv 4)) je_)))) (jax_ rfl (z8_ (jn_ (i:=6) nd rfl (Or.inl rfl)) (z8_ (jn_ (i:=7) nd rfl (Or.inl rfl)) ue_))))
  (jf_ (zr_ (vb_ (jo_ (jlm_ rfl) rfl T.z_any (by decide +kernel) (ja_ (zs_ ["_law_pair"] [none] rfl (by kernel_rfl) rfl (j9_ (K:=K) (pv 7)) (fun _ _ _ _=>(jn_ (i:=0) (show (["_law_pair"]:List Str).Nodup by decide +kernel) rfl (Or.inl rfl) (Or.inr rfl))) (fun _ _ _ _=>zn_) (fun _ _ _ _=>(jat_ (o_ne hr.units) (jk_ yf_ (jj_ (jh_ (K:=K)) (pv 0) jd_ (fun _ _=>rfl)) jd_) (jk_ yf_ (jj_ (jh_ (K:=K)) (pv 0) jd_ (fun _ _=>rfl)) jd_) (j6_ _)))) je_)) (fun _=>rfl))
   (jg_ (jt_ xm_))
   j5_)
  (jg_ (zo_ p5_ rfl (j9_ (K:=K) (pv 6)) (jn_ (i:=8) nd rfl (Or.inl rfl))
   (jg_ (zr_ (jbm_ (jhs_ (N:=viewKind) (P:=P) (w:=w) rfl rfl (vv_ hr) (pv 8) (pv 5)))
   (jf_ (jqy_ (N:=viewKind) (P:=P) (w:=w) rfl rfl (vv_ hr) (pv 5) (pv 8) xm_ rfl)
  (jg_ (ys_ (yg_ (K:=K) qf_ q8_ q9_ yv_ (pv 4) (ja_ (pv 8) je_)))))
   j5_)))))))
  (jg_ (jt_ xm_))))))),?_⟩
 rw[show L2.j7_ ["_law_one","_law_other","_law_lists","_law_letters_here","_law_line","_law_met","_law_come","_law_pairs","_law_view"] [.ref a,.ref b]=[some (.ref a),some (.ref b),none,none,none,none,none,none,none] from rfl]
 walk_at "go"
 refine yh_ ha hb (szn (by omega)) fun c hc=>?_
 have s1:=jc_ hc (.lst (ya++yb))
 walk_at "go"
 refine⟨.ref c,one++other,rfl,?_,fun x hx=>?_,by rw[pg_];omega,fun dd H2 hdd edd s2=>?_⟩
 ·exact zp_ jb_ (by rw[pk_];exact IsL.append (IsL.same s1 hya) (IsL.same s1 hyb))
 ·have:=jcd_ sm1 sm2 x hx;omega
 have s12:=s1.trans s2
 walk_at "go"
 intro r hr0
 have s3:=jc_ hr0 (.tup [.ref a,.ref b,.ref dd])
 have er:=jb_ (H:=H2) (a:=r) (o:=.tup [.ref a,.ref b,.ref dd])
 have s03:=s12.trans s3
 have edd3:=s3 _ _ edd
 generalize upd H2 r (.tup [.ref a,.ref b,.ref dd])=H3 at s3 er s03 edd3 ⊢
 have hL:Lists3 H3 r one other:=⟨a,b,dd,er,⟨ya,yb,s03 _ _ ha,s03 _ _ hb,IsL.same s03 hya,IsL.same s03 hyb,sm1.1,sm2.1⟩,edd3⟩
 walk_at "go"
 refine yh_ (s03 _ _ ha) (s03 _ _ hb) (szn (by omega)) fun c2 hc2=>?_
 have s4:=jc_ hc2 (.lst (ya++yb))
 have s04:=s03.trans s4
 walk_at "go"
 refine⟨c2,ya++yb,one++other,rfl,jb_,?_,fun y hy=>?_,by rw[pg_];omega,fun lb H5 hlb elb s5=>?_⟩
 ·rw[pk_]
  exact IsL.append (IsL.same s04 hya) (IsL.same s04 hyb)
 ·have:=jcd_ sm1 sm2 y hy;omega
 rw[hLd] at elb
 have s35:=s4.trans s5
 have s05:=s03.trans s35
 walk_at "go"
 refine⟨r,one,other,rfl,hL.same s35,fun fa H6 hfa efa s6=>?_⟩
 walk_at "go"
 intro ln hln
 have s7:=jc_ hln (.lst [.ref fa])
 have eln:=jb_ (H:=H6) (a:=ln) (o:=.lst [.ref fa])
 have efa7:=s7 _ _ efa
 have s57:=s6.trans s7
 have elb7:=s57 _ _ elb
 have s07:=s05.trans s57
 have hlnH:H5 ln=none:=s6.free hln
 generalize upd H6 ln (.lst [.ref fa])=H7 at s7 eln efa7 s57 elb7 s07 ⊢
 walk_at "go"
 intro md hmd
 have s8:=jc_ hmd (DX viewKind P w md [])
 have emd:=jb_ (H:=H7) (a:=md) (o:=DX viewKind P w md [])
 have eln8:=s8 _ _ eln
 have efa8:=s8 _ _ efa7
 have elb8:=s8 _ _ elb7
 have s08:=s07.trans s8
 generalize upd H7 md (DX viewKind P w md [])=H8 at s8 emd eln8 efa8 elb8 s08 ⊢
 walk_at "go"
 refine⟨emd,fa,vk (fstV one other),rfl,ut_ efa8,?_⟩
 have nlm:ln≠md:=fun z=>by rw[z,emd] at eln8;cases eln8
 have nfm:fa≠md:=fun z=>by rw[z,emd] at efa8;cases efa8
 have hmdH:H md=none:=s07.free hmd
 have hlnH0:H ln=none:=s05.free hlnH
 show jbe_ 5 (.ref md) _ (upd H8 md (DX viewKind P w md (mkv [(fstV one other,fa,[])]))) _
 obtain⟨HB,hBs,hBw,hBl,hBlb,hBL,hB9⟩:∃ HB:Hp,Same H HB/\HB md=none/\HB ln=none/\HB lb=some (.lst (L.map fun c=>V.str (S [c])))/\Lists3 HB r one other/\Same HB (upd H8 md (DX viewKind P w md (mkv [(fstV one other,fa,[])]))):=by
  have hLr:=hL.same (s35.trans s57 |>.trans s8)
  have s0less:Same H (jhq_ md ln H8):=fun b o e=>by
   rw[v8_ (fun z=>by rw[z,hmdH] at e;cases e) (fun z=>by rw[z,hlnH0] at e;cases e)];exact s08 _ _ e
  refine⟨jhq_ md ln H8,s0less,if_pos (.inl rfl),if_pos (.inr rfl),?_,?_,fun b o e=>?_⟩
  ·rw[v8_ (fun z=>by rw[z,emd] at elb8;cases elb8) (fun z=>by rw[z,hlnH] at elb;cases elb)];exact elb8
  ·have er8:=(s35.trans s57 |>.trans s8) _ _ er
   have edd8:=(s35.trans s57 |>.trans s8) _ _ edd3
   refine⟨a,b,dd,?_,⟨ya,yb,s0less _ _ ha,s0less _ _ hb,IsL.same s0less hya,IsL.same s0less hyb,sm1.1,sm2.1⟩,?_⟩
   ·rw[v8_ (fun z=>by rw[z,emd] at er8;cases er8) (fun z=>by rw[z,eln8] at er8;cases er8)];exact er8
   ·rw[v8_ (fun z=>by rw[z,emd] at edd8;cases edd8) (fun z=>by rw[z,eln8] at edd8;cases edd8)];exact edd8
  ·obtain⟨h1,h2,h3⟩:=jjr_ e
   rw[ji_ h1];exact h3
 have e9:=jb_ (H:=H8) (a:=md) (o:=DX viewKind P w md (mkv [(fstV one other,fa,[])]))
 have eln9:(upd H8 md (DX viewKind P w md (mkv [(fstV one other,fa,[])]))) ln=some (.lst [.ref fa]):=by rw[ji_ nlm];exact eln8
 have efa9:(upd H8 md (DX viewKind P w md (mkv [(fstV one other,fa,[])]))) fa=some (.tup (vdat (fstV one other))):=by rw[ji_ nfm];exact efa8
 generalize upd H8 md (DX viewKind P w md (mkv [(fstV one other,fa,[])]))=H9 at hB9 e9 eln9 efa9 ⊢
 have sr0:Srch one other L [(fstV one other,fa,[])] [(fstV one other,fa)] fun _=>False :=
  ⟨by simp,by simp,fun e he=>by rw[ph_.mp he];exact .nil,fun e he=>by rw[ph_.mp he];exact po_ _,fun e he=>by rw[ph_.mp he];simp,po_ _,fun y hy=>.inl ⟨fa,by rw[ph_.mp hy];exact ph_.mpr rfl⟩⟩
 walk_at "go"
 refine⟨AaW P w one other L HB a b r lb ln md,⟨_,_,[(fstV one other,fa)],none,none,none,rfl,sr0,e9,eln9,fun e he=>by rw[ph_.mp he];exact efa9,fun e he=>by rw[ph_.mp he];exact efa9,hB9,rfl⟩,?_⟩
 rintro m σ H10 ⟨ws,st,y6,y7,y8,rfl,sr,dx,ll,ks,ts,sm10,rfl⟩
 have hgood:∀ e∈ws,GoodV one other e.1:=fun e he=>(sr.path e he).good sm1 sm2
 have hst:∀ e∈st,GoodV one other e.1:=fun e he=>by
  obtain⟨x,hx,hxe⟩:=qb_.mp (sr.sub e he)
  rw[<- hxe];exact hgood x hx
 have hfew:=sr.few sm1 sm2
 walk_at "go"
 intro en hen
 have s11:=jc_ hen (.lst [])
 have een:=jb_ (H:=H10) (a:=en) (o:=.lst [])
 have ll11:=s11 _ _ ll
 have dx11:=s11 _ _ dx
 have ts11:∀ e∈st,(upd H10 en (.lst [])) e.2=some (.tup (vdat e.1)):=fun e he=>s11 _ _ (ts e he)
 have ks11:∀ e∈ws,(upd H10 en (.lst [])) e.2.1=some (.tup (vdat e.1)):=fun e he=>s11 _ _ (ks e he)
 have sm11:=sm10.trans s11
 generalize upd H10 en (.lst [])=H11 at s11 een ll11 dx11 ts11 ks11 sm11 ⊢
 refine jun_ (d:=.lst ((st.map (·.1)).map z3_)) (e:=.lst []) (zp_ ll11 (jmp_ ts11)) (zp_ een (by simp only[L2.IsL])) ((Lay.lst fun d hd=>?_).ok (n:=2) (by decide)) ((Lay.lst (n:=0) (ds:=[]) fun d hd=>nomatch hd).ok (by decide)) ?_
 ·rw[q1_] at hd
  obtain⟨e,he,rfl⟩:=qb_.mp hd
  exact jrt_ hcs (hst e he)
 rw[jtu_]
 refine⟨_,rfl,?_⟩
 rcases List.eq_nil_or_concat st with rfl | ⟨st',⟨v,va⟩,hstc⟩
 ·refine jrw_ rfl ?_
  walk_at "go"
  exact(q H11 (hBs.trans sm11)).2 fun u hu=>sr.all.not hu
 ·rw[List.concat_eq_append] at hstc
  subst hstc
  refine jlu_ (by simp) ⟨fun σ' H'=>∃ m',m' < 2 * (161000 - ws.length)+(st'++[(v,va)]).length/\AaW P w one other L HB a b r lb ln md m' σ' H',fun σ' H' h=>h,?_⟩
  have hva:=ts11 (v,va) (pe_.mpr (.inr (ph_.mpr rfl)))
  obtain⟨x0,hx0,hx0v⟩:=qb_.mp (sr.sub (v,va) (pe_.mpr (.inr (ph_.mpr rfl))))
  obtain⟨v',bv,u⟩:=x0
  have hx0v:v'=v:=hx0v
  subst hx0v
  have hpv:Path one other L u v':=sr.path _ hx0
  have hul:u.length+1<=ws.length:=sr.len _ hx0
  have hgv:=hpv.good sm1 sm2
  have hlm:(st'++[(v',va)]).map (fun e=>V.ref e.2)=st'.map (fun e=>V.ref e.2)++[V.ref va]:=by rw[pk_];rfl
  rw[hlm] at ll11
  walk_at "go"
  refine jwg_ ll11 ?_
  have nlw:md≠ln:=fun z=>by rw[z,ll11] at dx11;cases dx11
  have tk12:Tk H11 (upd H11 ln (.lst (st'.map fun e=>V.ref e.2))):=Tk.lst ll11 _
  have ll12:=jb_ (H:=H11) (a:=ln) (o:=.lst (st'.map fun e=>V.ref e.2))
  have dx12:(upd H11 ln (.lst (st'.map fun e=>V.ref e.2))) md=some (DX viewKind P w md (mkv ws)):=by rw[ji_ nlw];exact dx11
  have ts12:∀ e∈st',(upd H11 ln (.lst (st'.map fun e=>V.ref e.2))) e.2=some (.tup (vdat e.1)):=fun e he=>tk12 _ _ (ts11 e (pe_.mpr (.inl he)))
  have ks12:∀ e∈ws,(upd H11 ln (.lst (st'.map fun e=>V.ref e.2))) e.2.1=some (.tup (vdat e.1)):=fun e he=>tk12 _ _ (ks11 e he)
  have hva12:=tk12 _ _ hva
  have sm12:Same HB (upd H11 ln (.lst (st'.map fun e=>V.ref e.2))):=jv_ hBl sm11
  generalize upd H11 ln (.lst (st'.map fun e=>V.ref e.2))=H12 at ll12 dx12 ts12 ks12 hva12 sm12 ⊢
  walk_at "go"
  refine⟨r,lb,va,one,other,L,v',rfl,hBL.same sm12,sm1.1,sm2.1,hgv.ok sm1 sm2,hgv.2.2.1.1,hgv.2.2.2.1,jnk_ sm1.1 sm2.1 hpv,hva12,sm12 _ _ hBlb,hL27,fun ta lv lp zs us H13 eta elv elp hne hlv hlp hzs13 hus13 s13=>?_⟩
  have hpl:=hus13.length
  have hvl:=hzs13.length
  rw[pb_] at hpl hvl
  have hb1:(zc_ one other v'++L.flatMap (j2_ one other v')).length<=30:=by
   have h1:(L.flatMap (j2_ one other v')).length<=L.length * 1:=uo_ fun c _=>(zm_ one other v' c).2.1
   have h2:=(zm_ one other v' 0).2.2
   rw[pg_];omega
  have hb2:(L.flatMap (jy_ one other v')).length<=60:=by
   have h1:(L.flatMap (jy_ one other v')).length<=L.length * 2:=uo_ fun c _=>(zm_ one other v' c).1
   omega
  have hnl:lv≠ln:=fun z=>by rw[z,ll12] at hlv;cases hlv
  have hnw:lv≠md:=fun z=>by rw[z,dx12] at hlv;cases hlv
  refine jbu_ eta rfl (yn_ (y1_ (yn_ (y1_ (jbl_ ?_)))))
  walk_at "go"
  intro r4 hr4
  refine j8_ (K:=K) (xs:=us) (fun i acc σ H'=>∃ x,σ=[x]/\acc=(((zc_ one other v'++L.flatMap (j2_ one other v')).take i).map odd2).map V.bl/\H' r4=some (.lst acc)/\Same H13 H') (fun i acc σ H' _ ⟨_,_,_,_,s⟩=>SqL.of (s _ _ elp))
   ⟨none,rfl,rfl,jb_,jc_ hr4 _⟩ (fun i acc σ H' ⟨_,_,e,e2,_⟩=>⟨e2,by rw[e];simp;omega⟩) (szn (by omega)) ?_ ?_
  ·rintro i acc σ H14 hi ⟨x,rfl,rfl,e14,s14⟩
   rw[hpl] at hi
   obtain⟨y,d,hy,hd1,hI⟩:=IsL.get (IsL.same s14 hus13) (show i < ((zc_ one other v'++L.flatMap (j2_ one other v')).map yd_).length by simpa using hi)
   rw[pl_,pa_ hi] at hd1
   cases hd1
   obtain⟨a2,rfl,ea2⟩:=jol_ hI
   rw[pf_,hy,se_]
   have htk:(zc_ one other v'++L.flatMap (j2_ one other v')).take (i+1)=(zc_ one other v'++L.flatMap (j2_ one other v')).take i++[(zc_ one other v'++L.flatMap (j2_ one other v'))[i]]:=by rw[p3_,pa_ hi];rfl
   rw[htk]
   generalize (zc_ one other v'++L.flatMap (j2_ one other v'))[i]=pr at ea2 ⊢
   have ho:(!decide (V.int (pr.1 % 2)=V.int (pr.2 % 2)))=odd2 pr:=by
    unfold odd2
    rw[qt_]
    simp
   walk_at "go"
   rw[ho]
   refine⟨e14,_,rfl,?_,jb_,jv_ hr4 s14⟩
   rw[pk_,pk_];rfl
  ·rintro acc σ H14 ⟨x,rfl,rfl,e14,s14⟩
   rw[hpl,py_] at e14
   walk_at "go"
   refine jeu_ (ym_ e14) ?_
   have hany:(((zc_ one other v'++L.flatMap (j2_ one other v')).map odd2).any id)=(zc_ one other v'++L.flatMap (j2_ one other v')).any odd2:=by rw[kb_];rfl
   simp only[hany]
   have s24:=s13.trans s14
   by_cases hodd:(zc_ one other v'++L.flatMap (j2_ one other v')).any odd2=true
   ·rw[hodd]
    walk_at "go"
    refine(q H14 ((hBs.trans sm12).trans s24)).1 ?_
    obtain⟨p,hp,ho⟩:=q4_.mp hodd
    rcases pe_.mp hp with hp | hp
    ·exact⟨u,u,v',hpv,.inl ⟨rfl,p,hp,ho⟩⟩
    ·obtain⟨c,hc,hp⟩:=rw_.mp hp
     exact⟨u++[c],u,v',hpv,.inr ⟨c,hc,rfl,p,hp,ho⟩⟩
   ·rw[rv_] at hodd
    rw[hodd]
    have hev:=jbo_ hodd
    have tb0:AaS P w one other L HB H14 ln md v' (2 * (161000 - ws.length)+(st'++[(v',va)]).length) ws st' [] :=
     ⟨sr.popL,s24 _ _ dx12,s24 _ _ ll12,fun e he=>s24 _ _ (ks12 e he),fun e he=>s24 _ _ (ts12 e he),sm12.trans s24,fun y hy=>(nomatch hy),⟨u,hpv,hul⟩,by rw[pg_,p8_];omega⟩
    have elv14:=s14 _ _ elv
    have hzs14:=IsL.same s14 hzs13
    generalize 2 * (161000 - ws.length)+(st'++[(v',va)]).length=m at tb0 ⊢
    walk_at "go"
    refine zy_ (K:=K) (xs:=zs) (fun j σ H'=>∃(ws2:List WE) (st2:List (View×Addr)) (x8:Option V),σ=[some (.ref a),some (.ref b),some (.ref r),some (.ref lb),some (.ref ln),some (.ref md),some (.ref lv),some (.ref lp),x8]/\AaS P w one other L HB H' ln md v' m ws2 st2 ((L.flatMap (jy_ one other v')).take j)/\H' lv=some (.lst zs)/\L2.IsL H' zs ((L.flatMap (jy_ one other v')).map z3_))
     ⟨ws,st',_,rfl,tb0,elv14,hzs14⟩ (fun j σ H' _ ⟨_,_,_,_,_,h,_⟩=>SqL.of h) ?_ ?_
    ·rintro j z σ H15 hz ⟨ws2,st2,x8',rfl,tb,elv15,hzs15⟩
     have hj:j < (L.flatMap (jy_ one other v')).length:=by have:=(pq_.mp hz).1;omega
     obtain⟨z',d,hz',hd1,hI⟩:=IsL.get hzs15 (show j < ((L.flatMap (jy_ one other v')).map z3_).length by simpa using hj)
     rw[hz] at hz'
     cases hz'
     rw[pl_,pa_ hj] at hd1
     cases hd1
     obtain⟨la,rfl,ela⟩:=job_ hI
     have ela:H15 la=some (.tup (vdat (L.flatMap (jy_ one other v'))[j])):=ela
     have htk2:(L.flatMap (jy_ one other v')).take (j+1)=(L.flatMap (jy_ one other v')).take j++[(L.flatMap (jy_ one other v'))[j]]:=by rw[p3_,pa_ hj];rfl
     obtain⟨cc,hcc,hlc⟩:=rw_.mp (px_ hj)
     rw[htk2]
     generalize (L.flatMap (jy_ one other v'))[j]=lt at ela hlc ⊢
     have hko15:=jws_ tb.ks
     have hms:=tb.ms
     have few3:=tb.sr.few sm1 sm2
     walk_at "go"
     refine i_tB (jgx_ ?_)
     walk_at "go"
     refine⟨md,_,rfl,⟨_,vk lt,la,.inl tb.dx,hko15,rfl,ut_ ela,rfl⟩,_,rfl,?_⟩
     by_cases hlt:lt∈ws2.map (·.1)
     ·have hsome:(valX (mkv ws2) (vk lt)).isSome=true:=by
       cases hv:valX (mkv ws2) (vk lt) with
       | none=>exact absurd hlt (mkv_none.mp hv)
       | some _=>rfl
      rw[hsome]
      walk_at "go"
      refine⟨ws2,st2,_,rfl,⟨tb.sr,tb.dx,tb.ll,tb.ks,tb.ts,tb.sm,fun y hy=>?_,tb.ul,tb.ms⟩,elv15,hzs15⟩
      rcases pe_.mp hy with hy | hy
      ·exact tb.dn y hy
      ·rw[ph_.mp hy];exact hlt
     ·rw[mkv_none.mpr hlt]
      obtain⟨u2,hpu2,hul2⟩:=tb.ul
      walk_at "go"
      refine jpx_ ?_
      walk_at "go"
      refine⟨md,_,rfl,⟨_,vk lt,la,tb.dx,hko15,rfl,ut_ ela,szlt (by rw[jtn_];omega),rfl⟩,?_⟩
      rw[jsg_ (u:=u2++[cc]) hlt]
      have hll:(upd H15 md (DX viewKind P w md (mkv (ws2++[(lt,la,u2++[cc])])))) ln=some (.lst (st2.map fun e=>V.ref e.2)):=by rw[ji_ (tq_ nlw)];exact tb.ll
      have hql:=tb.sr.ql
      walk_at "go"
      refine jen_ hll (szlt (by rw[pb_];omega)) ?_
      have tkA:Tk H15 (upd (upd H15 md (DX viewKind P w md (mkv (ws2++[(lt,la,u2++[cc])])))) ln (.lst (st2.map (fun e=>V.ref e.2)++[V.ref la]))):=fun b xs e=>by
       have h1:b≠md:=fun z=>by rw[z,tb.dx] at e;cases e
       have h2:b≠ln:=fun z=>by rw[z,tb.ll] at e;cases e
       rw[ji_ h2,ji_ h1];exact e
      have elvA:(upd (upd H15 md (DX viewKind P w md (mkv (ws2++[(lt,la,u2++[cc])])))) ln (.lst (st2.map (fun e=>V.ref e.2)++[V.ref la]))) lv=some (.lst zs):=by rw[ji_ hnl,ji_ hnw];exact elv15
      have dxA:(upd (upd H15 md (DX viewKind P w md (mkv (ws2++[(lt,la,u2++[cc])])))) ln (.lst (st2.map (fun e=>V.ref e.2)++[V.ref la]))) md=some (DX viewKind P w md (mkv (ws2++[(lt,la,u2++[cc])]))):=by rw[ji_ nlw];exact jb_
      have sr14:=tb.sr.put (b:=la) (u:=u2++[cc]) hlt (.snoc hpu2 hcc hlc) (by rw[pg_,p8_];omega)
      have few14:=sr14.few sm1 sm2
      rw[pg_,p8_] at few14
      walk_at "go"
      refine⟨ws2++[(lt,la,u2++[cc])],st2++[(lt,la)],_,rfl,⟨sr14,dxA,by rw[jb_,pk_];rfl,fun e he=>?_,fun e he=>?_,jv_ hBl (jv_ hBw tb.sm),fun y hy=>?_,⟨u2,hpu2,by rw[pg_];omega⟩,by rw[pg_,pg_,p8_,p8_];omega⟩,elvA,IsL.tk tkA (v0_ _) hzs15⟩
      ·rcases pe_.mp he with he | he
       ·exact tkA _ _ (tb.ks e he)
       ·rw[ph_.mp he];exact tkA _ _ ela
      ·rcases pe_.mp he with he | he
       ·exact tkA _ _ (tb.ts e he)
       ·rw[ph_.mp he];exact tkA _ _ ela
      ·rw[pk_]
       rcases pe_.mp hy with hy | hy
       ·exact pe_.mpr (.inl (tb.dn y hy))
       ·rw[ph_.mp hy];exact pe_.mpr (.inr (ph_.mpr rfl))
    ·rintro σ H15 ⟨ws2,st2,x8',rfl,tb,elv15,hzs15⟩
     have hdn:=tb.dn
     rw[hvl,py_] at hdn
     refine⟨_,Nat.lt_of_succ_le tb.ms,ws2,st2,_,_,_,rfl,tb.sr.end ⟨fun p hp=>hev p (pe_.mpr (.inl hp)),fun c hc=>⟨fun p hp=>hev p (pe_.mpr (.inr (rw_.mpr ⟨c,hc,hp⟩))),fun y hy=>hdn y (rw_.mpr ⟨c,hc,hy⟩)⟩⟩,tb.dx,tb.ll,tb.ks,tb.ts,tb.sm,rfl⟩
end
theorem jox_ {K:pc_}{a:Addr}{xs:List V}{p:Addr}{g:TG}{tc:TT}{te:TE}{Q:VK}{σ0:St}{H0:Hp}(Pv:Nat->List V->St->Hp->Prop)
  (hl:∀ i acc σ H,i<=xs.length->Pv i acc σ H->SqT K H a xs)
  (h0:Pv 0 [] σ0 H0) (hp:∀ i acc σ H,Pv i acc σ H->H p=some (.lst acc)/\acc.length<=i) (hz:xs.length<=sizeLine)
  (hs:∀ i acc σ H,i < xs.length->Pv i acc σ H->g (xs.getD i .non) σ H fun σ3 H3=>tc σ3 H3 fun b H4 =>
   if b=true then te σ3 H4 fun v H5=>H5 p=some (.lst acc)/\Pv (i+1) (acc++[v]) σ3 (upd H5 p (.lst (acc++[v]))) else Pv (i+1) acc σ3 H4)
  (hd:∀ acc σ H,Pv xs.length acc σ H->Q (.ref p) H):yp_ (Itt K a) p g tc te Q σ0 H0 :=
 jaq_ (J:=Itt K a) (n:=xs.length) (val:=fun i=>xs.getD i .non) Pv
  (fun i acc σ H hi q=>⟨xs,xs[i],(hl i acc σ H (sy_ hi) q),by simp[hi]⟩) (fun acc σ H q=>⟨xs,(hl _ acc σ H (po_ _) q),po_ _⟩)
  (fun i acc σ H x _ hi q y=>⟨y.1,by have:=y.2 xs (hl i acc σ H (sy_ hi) q);rw[pf_,this];rfl⟩) h0 hp hz hs hd
noncomputable abbrev s_law_lower:Stmt:=top 29
theorem sc_law_lower:FnScope ["_law_pattern_here","_law_told"] ["_law_pattern_here","_law_told"] (jm_ s_law_lower):=by walk_at "f"
noncomputable abbrev s_law_bent:Stmt:=top 30
theorem sc_law_bent:FnScope ["_law_pattern_here","_law_told","_law_at","_law_numbers"] ["_law_pattern_here","_law_told"] (jm_ s_law_bent):=by walk_at "f"
noncomputable abbrev s_law_longer:Stmt:=top 31
theorem sc_law_longer:FnScope ["_law_pattern_here","_law_letter"] ["_law_pattern_here","_law_letter"] (jm_ s_law_longer):=by walk_at "f"
def GS (x:Pat):Prop:=1<=x.1.length/\x.1.length<=8/\x.2.length=x.1.length+1/\(∀ n∈x.2,0<=n/\n<=9)/\∀ c∈x.1,c < 128
def vf_:Sp:=fun vs H Q _=>∃(v:V) (x:Pat) (t:Int),vs=[v,.int t]/\Is H v (patD x)/\GS x/\0<=t/\t < 1000/\∀(v':V) (y:Pat) (H':Hp),Is H' v' (patD y)->GS y->Same H H'->Q v' H'
def jaz_:Sp:=fun vs H Q _=>∃(v:V) (x:Pat) (c:Nat),vs=[v,.str (S [c])]/\Is H v (patD x)/\GS x/\c < 128/\∀(v':V) (y:Pat) (H':Hp),Is H' v' (patD y)->GS y->Same H H'->Q v' H'
theorem jwa_ {H:Hp}{Q:VK}{a b:Addr}{xs ys:List V}(h1:H a=some (.tup xs))(h2:H b=some (.tup ys))(h0:xs≠[])(c:xs.length+ys.length<=sizeLine)(h:GetT H (xs++ys) Q):fAdd (.ref a) (.ref b) H Q:=by
 show match H a,H b with | some (.lst xs),some (.lst ys)=>_ | some (.tup xs),some (.tup ys)=>_ | _,_=>_
 rw[h1,h2]
 exact⟨h0,c,h⟩
section
variable {P:Program}{w:World}{K:pc_}{mg:Str->Option Value}{base:Heap}{f:Addr}{fd:FuncData}{tk:Nat->Tok}{cO:Addr}
theorem jfa_ (T:Txt mg tk)(F:Fun K "_law_lower" "_law_lower" s_law_lower f fd):FnOk P w K mg base CX0 1 f fd ["_law_pattern_here","_law_told"] vf_:=by
 refine F.ok sc_law_lower (fun vs H Q E h=>?_) (fun cdv A outer s H vs Q E hr h=>?_)
 ·obtain⟨v,x,t,rfl,_⟩:=h
  rfl
 obtain⟨v,x,t,rfl,hv,hg,ht0,ht1,q⟩:=h
 have nd:=sc_law_lower.nd
 obtain⟨a,n,rfl,ea,en⟩:=vt_ hv
 refine⟨_,(jg_ (jt_ (zd_ (ja_ (jj_ (jh_ (K:=K)) (pv 0) jd_ (fun _ _=>rfl)) (ja_ (zz_ jan_ rfl T.z_tuple (by decide +kernel) (ja_ (zs_ ["_law_told","_law_number"] [some 1,none] rfl (by kernel_rfl) rfl (j9_ (K:=K) (jj_ (jh_ (K:=K)) (pv 0) jd_ (fun _ _=>rfl))) (fun _ _ _ _=>(jn_ (i:=1) (show (["_law_told","_law_number"]:List Str).Nodup by decide +kernel) rfl (Or.inl rfl) (Or.inr rfl))) (fun _ _ _ _=>zn_) (fun _ _ _ _=>(jo_ (jbf_ rfl) rfl T.z_max (by decide +kernel) (ja_ jd_ (ja_ (jk_ uf_ (pv 1) (jk_ yf_ (pv 0) jd_)) je_))))) je_)) je_))))),?_⟩
 rw[show L2.j7_ ["_law_pattern_here","_law_told"] [.ref a,.int t]=[some (.ref a),some (.int t)] from rfl]
 walk_at "go"
 intro r hr0
 obtain⟨hg1,hg2,hg3,hg4,hg5⟩:=hg
 have hml:(x.2.map V.int).length=x.2.length:=pb_ ..
 refine jox_ (K:=K) (xs:=x.2.map V.int) (fun i acc σ H'=>∃(v:Option V) (us:List Int),σ=[some (.int t),v]/\acc=us.map V.int/\us.length=i/\(∀ u∈us,0<=u/\u<=9)/\H' r=some (.lst acc)/\Same H H') (fun i acc σ H' _ ⟨_,_,_,_,_,_,_,s⟩=>SqT.of (s _ _ en))
  ⟨none,[],rfl,rfl,rfl,fun u hu=>(nomatch hu),jb_,jc_ hr0 _⟩ (fun i acc σ H' ⟨_,us,_,e,e1,_,e2,_⟩=>⟨e2,by rw[e,pb_];omega⟩) (szn (by omega)) ?_ ?_
 ·rintro i acc σ H2 hi ⟨v,us,rfl,rfl,hul,hus,e2,s2⟩
  have hi':i < x.2.length:=by omega
  have hgd:(x.2.map V.int).getD i .non=V.int x.2[i]:=by
   rw[pf_,pl_,pa_ hi'];rfl
  rw[hgd]
  have hb:=hg4 _ (px_ hi')
  generalize x.2[i]=n' at hb
  walk_at "go"
  have h3:=qu_ t (show (3:Int)≠0 by decide)
  refine⟨e2,_,us++[if n' - t % 3 > 0 then n' - t % 3 else 0],rfl,by rw[pk_];rfl,by simp[hul],fun u hu=>?_,jb_,jv_ hr0 s2⟩
  rcases pe_.mp hu with hu | hu
  ·exact hus u hu
  ·rw[ph_.mp hu]
   split <;> omega
 ·rintro acc σ H2 ⟨v,us,rfl,rfl,hul,hus,e2,s2⟩
  walk_at "go"
  refine za_ (jr_ e2) fun t' H3 ht' s3=>?_
  walk_at "go"
  intro p hp
  have s4:=jc_ hp (.tup [.str (S x.1),.ref t'])
  exact q _ (x.1,us) _ (yy_ jb_ (s4 _ _ ht')) ⟨hg1,hg2,by show us.length=x.1.length+1;omega,hus,hg5⟩ ((s2.trans s3).trans s4)
theorem jci_ (T:Txt mg tk)(F:Fun K "_law_longer" "_law_longer" s_law_longer f fd):FnOk P w K mg base CX0 1 f fd ["_law_pattern_here","_law_letter"] jaz_:=by
 refine F.ok sc_law_longer (fun vs H Q E h=>?_) (fun cdv A outer s H vs Q E hr h=>?_)
 ·obtain⟨v,x,c,rfl,_⟩:=h
  rfl
 obtain⟨v,x,c,rfl,hv,hg,hc,q⟩:=h
 have nd:=sc_law_longer.nd
 obtain⟨a,n,rfl,ea,en⟩:=vt_ hv
 refine⟨_,(jf_ (zr_ (PW.pt (jcw_ (ju_ (o_eq hr.units) (jj_ (jh_ (K:=K)) (jj_ (jh_ (K:=K)) (pv 0) jd_ (fun _ _=>rfl)) jd_ (fun _ _=>rfl)) zh_ (j6_ _)) (jau_ (ju_ o_gt (jo_ (zq_ (K:=K)) rfl T.z_len (by decide +kernel) (ja_ (jj_ (jh_ (K:=K)) (pv 0) jd_ (fun _ _=>rfl)) je_)) jd_ (j6_ _)))))
   (jg_ (jt_ (pv 0)))
   j5_)
  (jg_ (jt_ (zd_ (ja_ (jk_ jx_ (pv 1) (jj_ (jh_ (K:=K)) (pv 0) jd_ (fun _ _=>rfl))) (ja_ (jk_ jx_ (zd_ (ja_ jd_ je_)) (jj_ (jh_ (K:=K)) (pv 0) jd_ (fun _ _=>rfl))) je_)))))),?_⟩
 rw[show L2.j7_ ["_law_pattern_here","_law_letter"] [.ref a,.str (S [c])]=[some (.ref a),some (.str (S [c]))] from rfl]
 rw[jaa_]
 walk_at "go"
 obtain⟨hg1,hg2,hg3,hg4,hg5⟩:=hg
 have hlw:(S x.1).length<=sizeLine:=szn (by rw[js_];omega)
 refine y6_ (c:=x.1[0]'(by omega)) hlw (zg_ (by decide) (by rw[x2_];show x.1[0]?=_;rw[pa_])) ?_
 walk_at "go"
 refine iteD (fun c1=>?_) (fun c1=>?_)
 ·walk_at "go"
  exact q _ x H hv ⟨hg1,hg2,hg3,hg4,hg5⟩ fun _ _ e=>e
 ·walk_at "go"
  refine iteD (fun c2=>?_) (fun c2=>?_)
  ·walk_at "go"
   exact q _ x H hv ⟨hg1,hg2,hg3,hg4,hg5⟩ fun _ _ e=>e
  ·walk_at "go"
   intro p hp
   have s1:=jc_ hp (.tup [.int 0])
   have ep:=jb_ (H:=H) (a:=p) (o:=.tup [.int 0])
   have en1:=s1 _ _ en
   have ea1:=s1 _ _ ea
   generalize upd H p (.tup [.int 0])=H1 at s1 ep en1 ea1 ⊢
   walk_at "go"
   refine jwa_ ep en1 (by simp) (szn (by rw[pb_,p8_];omega)) fun t' H2 ht' s2=>?_
   have ht':H2 t'=some (.tup ((0::x.2).map V.int)):=ht'
   walk_at "go"
   intro p2 hp2
   have s3:=jc_ hp2 (.tup [.str (S ([c]++x.1)),.ref t'])
   refine q _ ([c]++x.1,0::x.2) _ (yy_ jb_ (s3 _ _ ht')) ⟨?_,?_,?_,fun n' hn'=>?_,fun d hd=>?_⟩ ((s1.trans s2).trans s3)
   ·show 1<=([c]++x.1).length
    rw[pg_,p8_];omega
   ·show ([c]++x.1).length<=8
    rw[pg_,p8_];omega
   ·show (0::x.2).length=([c]++x.1).length+1
    rw[pg_,p8_,ps_];omega
   ·rcases p0_.mp hn' with h | h
    ·rw[h];decide
    ·exact hg4 n' h
   ·rcases pe_.mp hd with h | h
    ·rw[ph_.mp h];exact hc
    ·exact hg5 d h
theorem jgs_ (T:Txt mg tk)(F:Fun K "_law_bent" "_law_bent" s_law_bent f fd):FnOk P w K mg base CX0 1 f fd ["_law_pattern_here","_law_told"] vf_:=by
 refine F.ok sc_law_bent (fun vs H Q E h=>?_) (fun cdv A outer s H vs Q E hr h=>?_)
 ·obtain⟨v,x,t,rfl,_⟩:=h
  rfl
 obtain⟨v,x,t,rfl,hv,hg,ht0,ht1,q⟩:=h
 have nd:=sc_law_bent.nd
 obtain⟨a,n,rfl,ea,en⟩:=vt_ hv
 refine⟨_,(jf_ (jl_ (i:=2) nd rfl (Or.inl rfl) (jk_ jx_ jd_ (jk_ yf_ (pv 1) (jo_ (jbf_ rfl) rfl T.z_max (by decide +kernel) (ja_ jd_ (ja_ (jk_ uf_ (jo_ (zq_ (K:=K)) rfl T.z_len (by decide +kernel) (ja_ (jj_ (jh_ (K:=K)) (pv 0) jd_ (fun _ _=>rfl)) je_)) jd_) je_))))))
  (jf_ (jl_ (i:=3) nd rfl (Or.inl rfl) (zz_ jig_ rfl T.z_list (by decide +kernel) (ja_ (jj_ (jh_ (K:=K)) (pv 0) jd_ (fun _ _=>rfl)) je_)))
  (jf_ (u1_ (jk_ yf_ (jk_ jx_ (jk_ jx_ (jj_ (jh_ (K:=K)) (pv 3) (pv 2) (fun _ _=>rfl)) jd_) (jk_ yf_ (jk_ jim_ (pv 1) jd_) jd_)) jd_) (jbs_ (pv 3) (pv 2) jhp_))
  (jf_ (zr_ (PW.pt (jic_ (ju_ (o_eq hr.units) (pv 2) (jk_ uf_ (jo_ (zq_ (K:=K)) rfl T.z_len (by decide +kernel) (ja_ (pv 3) je_)) jd_) (j6_ _)) (jdz_ (ju_ (o_eq hr.units) (jj_ (jh_ (K:=K)) (jj_ (jh_ (K:=K)) (pv 0) jd_ (fun _ _=>rfl)) (jkm_ jku_ jd_) (fun _ _=>rfl)) zh_ (j6_ _)))))
   (jg_ (u1_ jd_ (jbs_ (pv 3) (pv 2) jhp_)))
   j5_)
  (jg_ (jt_ (zd_ (ja_ (jj_ (jh_ (K:=K)) (pv 0) jd_ (fun _ _=>rfl)) (ja_ (zz_ jan_ rfl T.z_tuple (by decide +kernel) (ja_ (pv 3) je_)) je_))))))))),?_⟩
 rw[show L2.j7_ ["_law_pattern_here","_law_told","_law_at","_law_numbers"] [.ref a,.int t]=[some (.ref a),some (.int t),none,none] from rfl]
 rw[jaa_]
 obtain⟨hg1,hg2,hg3,hg4,hg5⟩:=hg
 have hml:(x.2.map V.int).length=x.2.length:=pb_ ..
 have hlw:(S x.1).length<=sizeLine:=szn (by rw[js_];omega)
 walk_at "go"
 rw[hml]
 obtain⟨at0,hat⟩:∃ k:Nat,1+t % (if (x.2.length:Int) - 2 > 1 then (x.2.length:Int) - 2 else 1)=((k+1:Nat):Int)/\k+1 < x.2.length:=by
  split
  ·rename_i h
   have h1:=qu_ t (show (x.2.length:Int) - 2≠0 by omega)
   have h2:=qp_ t (show (0:Int) < (x.2.length:Int) - 2 by omega)
   exact⟨(t % ((x.2.length:Int) - 2)).toNat,by omega,by omega⟩
  ·rename_i h
   have h1:t % 1=0:=Int.emod_one t
   exact⟨0,by omega,by omega⟩
 obtain⟨hat,hlt⟩:=hat
 rw[hat]
 refine jex_ (yi_ en) fun l hl=>?_
 have s1:=jc_ hl (.lst (x.2.map V.int))
 have el:=jb_ (H:=H) (a:=l) (o:=.lst (x.2.map V.int))
 have ea1:=s1 _ _ ea
 generalize upd H l (.lst (x.2.map V.int))=H1 at s1 el ea1 ⊢
 have hix:atI (x.2.map V.int) ((at0+1:Nat):Int)=some (.int x.2[at0+1]):=zg_ (by omega) (by rw[show (((at0+1:Nat):Int)).toNat=at0+1 by omega,pl_,pa_ hlt];rfl)
 have hixn:ixN (x.2.map V.int).length ((at0+1:Nat):Int)=some (at0+1):=by
  unfold ixN
  rw[pb_,if_pos (by omega),if_pos (by omega)];rfl
 walk_at "go"
 have hm0:=qu_ (x.2[at0+1]+1+t / 7 % 3) (show (10:Int)≠0 by decide)
 have hm1:=qp_ (x.2[at0+1]+1+t / 7 % 3) (show (0:Int) < 10 by decide)
 generalize (x.2[at0+1]+1+t / 7 % 3) % 10=m9 at hm0 hm1 ⊢
 rw[show (((at0+1:Nat):Int)).toNat=at0+1 by omega,show (x.2.map V.int).set (at0+1) (V.int m9)=(x.2.set (at0+1) m9).map V.int from (ra_ ..).symm]
 have hns:(x.2.set (at0+1) m9).length=x.2.length:=p9_ ..
 have hnb:∀ n'∈x.2.set (at0+1) m9,0<=n'/\n'<=9:=fun n' hn'=>by
  rcases q3_ hn' with h' | h'
  ·exact hg4 n' h'
  ·subst h';omega
 generalize x.2.set (at0+1) m9=ns at hns hnb ⊢
 have el2:=jb_ (H:=H1) (a:=l) (o:=.lst (ns.map V.int))
 have s2:Same H (upd H1 l (.lst (ns.map V.int))):=jv_ hl s1
 have ea2:=s2 _ _ ea
 generalize upd H1 l (.lst (ns.map V.int))=H2 at el2 s2 ea2 ⊢
 have fin:∀(ms:List Int) (H3:Hp),ms.length=x.2.length->(∀ n'∈ms,0<=n'/\n'<=9)->Same H H3->∀(t':Addr) (H4:Hp),H4 t'=some (.tup (ms.map V.int))->Same H3 H4->∀ p,H4 p=none->Q (.ref p) (upd H4 p (.tup [.str (S x.1),.ref t'])):=fun ms H3 h1 h2 h3 t' H4 h5 h6 p hp =>
  q _ (x.1,ms) _ (yy_ jb_ ((jc_ hp _) _ _ h5)) ⟨hg1,hg2,by show ms.length=x.1.length+1;omega,h2,hg5⟩ ((h3.trans h6).trans (jc_ hp _))
 have hixn2:ixN (ns.map V.int).length ((at0+1:Nat):Int)=some (at0+1):=by
  unfold ixN
  rw[pb_,if_pos (by omega),if_pos (by omega)];rfl
 refine iteD (fun c1=>?_) (fun c1=>?_)
 ·walk_at "go"
  have hlast:atI (S x.1).cps.toList (-1)=some (x.1[x.1.length - 1]'(by omega)):=by
   unfold atI ixN
   rw[x2_,if_neg (by decide),if_pos (by omega)]
   show x.1[(-1+(x.1.length:Int)).toNat]?=_
   rw[show (-1+(x.1.length:Int)).toNat=x.1.length - 1 by omega,pa_]
  refine y6_ hlw hlast ?_
  walk_at "go"
  refine iteD (fun c2=>?_) (fun c2=>?_)
  ·walk_at "go"
   try refine y4_ (j:=at0+1) el2 hixn2 ?_
   try rw[show (((at0+1:Nat):Int)).toNat=at0+1 by omega]
   rw[show (ns.map V.int).set (at0+1) (V.int 0)=(ns.set (at0+1) 0).map V.int from (ra_ ..).symm]
   have s3:Same H (upd H2 l (.lst ((ns.set (at0+1) 0).map V.int))):=jv_ hl s2
   have ea3:=s3 _ _ ea
   walk_at "go"
   refine za_ (jr_ jb_) fun t' H4 ht' s4=>?_
   walk_at "go"
   exact fin _ _ (by rw[p9_];exact hns) (fun n' hn'=>by
    rcases q3_ hn' with h' | h'
    ·exact hnb n' h'
    ·subst h';decide) s3 t' H4 ht' s4
  ·walk_at "go"
   refine za_ (jr_ el2) fun t' H4 ht' s4=>?_
   walk_at "go"
   exact fin _ _ hns hnb s2 t' H4 ht' s4
 ·walk_at "go"
  refine za_ (jr_ el2) fun t' H4 ht' s4=>?_
  walk_at "go"
  exact fin _ _ hns hnb s2 t' H4 ht' s4
end
theorem GS.of {x:Pat}(h:GP x)(hl:x.1.length<=6):GS x:=⟨h.ne,by omega,h.len,h.num,h.cs⟩
def GL (H:Hp)(a:Addr)(xs:List Pat):Prop:=∃ ys,H a=some (.lst ys)/\L2.IsL H ys (xs.map patD)/\∀ x∈xs,GS x
theorem GL.same {H H':Hp}{a:Addr}{xs:List Pat}(s:Same H H')(h:GL H a xs):GL H' a xs:=by
 obtain⟨ys,h1,h2,h3⟩:=h
 exact⟨ys,s _ _ h1,IsL.same s h2,h3⟩
theorem GL.two {H:Hp}{a b:Addr}{one other:List Pat}(h1:GL H a one)(h2:GL H b other)(l1:one.length<=10)(l2:other.length<=10):Two2 H a b one other:=by
 obtain⟨ya,ea,ha,ga⟩:=h1
 obtain⟨yb,eb,hb,gb⟩:=h2
 have sm:∀{xs:List Pat},(∀ x∈xs,GS x)->xs.length<=10->SmP xs/\jfs_ xs:=fun{xs} g l =>
  ⟨⟨⟨fun x hx=>⟨(g x hx).1,by have:=(g x hx).2.1;omega,(g x hx).2.2.1⟩,by omega⟩,fun x hx=>⟨(g x hx).2.1,(g x hx).2.2.2.1⟩,l⟩,fun x hx=>(g x hx).2.2.2.2⟩
 exact⟨ya,yb,ea,eb,ha,hb,(sm ga l1).1,(sm gb l2).1,(sm ga l1).2,(sm gb l2).2⟩
theorem jgm_ {H:Hp}:∀(n:Nat) {ys:List V}{ds:List Dt},L2.IsL H ys ds->L2.IsL H (ys.take n) (ds.take n)
 | 0,ys,ds,_=>by simp only[wc_,L2.IsL]
 | n+1,[],[],_=>by simp only[List.take_nil,L2.IsL]
 | n+1,[],_::_,h=>by simp only[L2.IsL] at h
 | n+1,_::_,[],h=>by simp only[L2.IsL] at h
 | n+1,y::ys,d::ds,h=>by
  simp only[L2.IsL] at h
  simp only[tu_,L2.IsL]
  exact⟨h.1,jgm_ n h.2⟩
theorem jgt_ {H:Hp}:∀(n:Nat) {ys:List V}{ds:List Dt},L2.IsL H ys ds->L2.IsL H (ys.drop n) (ds.drop n)
 | 0,ys,ds,h=>by simpa only [ko_] using h
 | n+1,[],[],_=>by simp only[List.drop_nil,L2.IsL]
 | n+1,[],_::_,h=>by simp only[L2.IsL] at h
 | n+1,_::_,[],h=>by simp only[L2.IsL] at h
 | n+1,y::ys,d::ds,h=>by
  simp only[L2.IsL] at h
  simp only[List.drop_succ_cons]
  exact jgt_ n h.2
theorem jkv_ {H:Hp}{ys:List V}{xs:List Pat}(lo hi:Option Int)(h:L2.IsL H ys (xs.map patD)):L2.IsL H (cutA ys lo hi) ((cutA xs lo hi).map patD):=by
 rw[<- y2_]
 have hl:=h.length
 unfold cutA
 rw[hl]
 exact jgm_ _ (jgt_ _ h)
theorem jkl_ {α:Type}{l:List α}{lo hi:Option Int}{c:α}(h:c∈cutA l lo hi):c∈l:=rc_ (ql_ h)
noncomputable abbrev s_needless:Stmt:=top 13
theorem sc_needless:FnScope ["patterns","number"] ["patterns","number"] (jm_ s_needless):=by walk_at "f"
noncomputable abbrev s_law_grown:Stmt:=top 33
theorem sc_law_grown:FnScope ["_law_script","_law_letters_here","_law_many","_law_patterns","_law_k","_law_told","_law_old","_law_more"] ["_law_script","_law_letters_here","_law_many"] (jm_ s_law_grown):=by walk_at "f"
noncomputable def jac_ (xs:List Pat)(n:Nat):List Pat:=cutA xs none (some (n:Int))++cutA xs (some ((n:Int)+1)) none
theorem jne_ {xs:List Pat}{n:Nat}{x:Pat}(h:x∈jac_ xs n):x∈xs:=(pe_.mp h).elim jkl_ jkl_
theorem jns_ {xs:List Pat}{n:Nat}(h:n < xs.length):(jac_ xs n).length+1<=xs.length:=by
 unfold jac_
 rw[pg_,jeo_ xs n (by omega),p2_,show (n:Int)+1=((n+1:Nat):Int) by omega,va_ xs (n+1) (by omega),qh_]
 omega
theorem SmP.sub {xs ys:List Pat}(h:SmP xs)(hs:∀ y∈ys,y∈xs)(hl:ys.length<=xs.length):SmP ys :=
 ⟨⟨fun x hx=>h.1.1 x (hs x hx),by have:=h.1.2;omega⟩,fun x hx=>h.2.1 x (hs x hx),by have:=h.2.2;omega⟩
theorem Told.same {one other:List Pat}{H H':Hp}{Q:VK}(h:Told one other H Q)(s:Same H H'):Told one other H' Q :=
 ⟨fun r u H2 h1 h2 h3 h4 s2=>h.1 r u H2 h1 h2 (s.free h3) h4 (s.trans s2),fun r l vs zs H2 h1 h2 h3 h4 h5 h6 s2=>h.2 r l vs zs H2 h1 (s.free h2) (s.free h3) h4 h5 h6 (s.trans s2)⟩
def v1_:Sp:=fun vs H Q _=>∃(a:Addr) (ya:List V) (one:List Pat) (n:Nat),vs=[.ref a,.int (n:Int)]/\H a=some (.lst ya)/\L2.IsL H ya (one.map patD)/\SmP one/\n < one.length/\Told one (jac_ one n) H Q
def jea_ (K:pc_):Sp:=fun vs H Q _=>∃(a:Addr) (ns:List Int) (b:Addr) (l:List Nat) (m:Nat),vs=[.ref a,.ref b,.int (m:Int)]/\SqL K H a (ns.map V.int)/\H b=some (.lst (lets l))/\Low l/\1<=l.length/\l.length<=26/\1<=m/\m<=10 /\
 ∀(r:Addr) (xs:List Pat) (H':Hp),H r=none->GL H' r xs->xs.length=m->Same H H'->Q (.ref r) H'
section
variable {P:Program}{w:World}{K:pc_}{mg:Str->Option Value}{base:Heap}{f:Addr}{fd:FuncData}{tk:Nat->Tok}{cO:Addr}
theorem jht_ (T:Txt mg tk)(F:Fun K "needless" "needless" s_needless f fd)(D_apart:Dn P w K mg base "apart" 5 ["one","other"] jfb_):FnOk P w K mg base CX0 6 f fd ["patterns","number"] v1_:=by
 refine F.ok sc_needless (fun vs H Q E h=>?_) (fun cdv A outer s H vs Q E hr h=>?_)
 ·obtain⟨a,ya,one,n,rfl,_⟩:=h
  rfl
 obtain⟨a,ya,one,n,rfl,ha,hya,sm,hn,ht⟩:=h
 have nd:=sc_needless.nd
 have hl:=hya.length
 rw[pb_] at hl
 have hz:=sm.2.2
 have hca:=yb_ ya none (some (n:Int))
 have hcb:=yb_ ya (some ((n:Int)+1)) none
 refine⟨_,(jg_ (jt_ (jq_ D_apart hr.mo_ rfl (ja_ (pv 0) (ja_ (jk_ jx_ (zj_ (z7_ (K:=K)) (pv 0) z6_ (zk_ (pv 1))) (zj_ (z7_ (K:=K)) (pv 0) (zk_ (jk_ jx_ (pv 1) jd_)) z6_)) je_))))),?_⟩
 rw[show L2.j7_ ["patterns","number"] [.ref a,.int (n:Int)]=[some (.ref a),some (.int (n:Int))] from rfl]
 walk_at "go"
 refine vq_ (SqL.of ha) fun p1 hp1=>?_
 have s1:=jc_ hp1 (.lst (cutV ya none (some (n:Int))))
 walk_at "go"
 refine vq_ (SqL.of (s1 _ _ ha)) fun p2 hp2=>?_
 have s2:=jc_ hp2 (.lst (cutV ya (some ((n:Int)+1)) none))
 walk_at "go"
 refine yh_ (s2 _ _ jb_) jb_ (szn (by omega)) fun ps hps=>?_
 have s3:=(s1.trans s2).trans (jc_ hps (.lst (cutV ya none (some (n:Int))++cutV ya (some ((n:Int)+1)) none)))
 walk_at "go"
 refine⟨a,ps,ya,_,one,jac_ one n,rfl,s3 _ _ ha,jb_,IsL.same s3 hya,?_,sm,sm.sub (fun y hy=>jne_ hy) (by have:=jns_ hn;omega),ht.same s3⟩
 unfold jac_
 rw[pk_]
 exact IsL.append (jkv_ none (some (n:Int)) (IsL.same s3 hya)) (jkv_ (some ((n:Int)+1)) none (IsL.same s3 hya))
theorem jel_ (T:Txt mg tk)(F:Fun K "_law_grown" "_law_grown" s_law_grown f fd)(D_law_row:Dn P w K mg base "_law_row" 1 ["_law_script","_law_at","_law_bounds"] (jco_ K))(D_law_pattern:Dn P w K mg base "_law_pattern" 2 ["_law_script","_law_at","_law_letters_here"] (jqz_ K))(D_law_lower:Dn P w K mg base "_law_lower" 1 ["_law_pattern_here","_law_told"] vf_)(D_law_longer:Dn P w K mg base "_law_longer" 1 ["_law_pattern_here","_law_letter"] jaz_)(D_law_bent:Dn P w K mg base "_law_bent" 1 ["_law_pattern_here","_law_told"] vf_):FnOk P w K mg base CX0 3 f fd ["_law_script","_law_letters_here","_law_many"] (jea_ K):=by
 refine F.ok sc_law_grown (fun vs H Q E h=>?_) (fun cdv A outer s H vs Q E hr h=>?_)
 ·obtain⟨a,ns,b,l,m,rfl,_⟩:=h
  rfl
 obtain⟨a,ns,b,l,m,rfl,hS,hb,hl,hl1,hl2,hm1,hm2,q⟩:=h
 have nd:=sc_law_grown.nd
 have hlets:(lets l).length=l.length:=by rw[lets,pb_]
 refine⟨_,(jf_ (jl_ (i:=3) nd rfl (Or.inl rfl) (j0_ (ja_ (jq_ D_law_pattern hr.mo_ rfl (ja_ (pv 0) (ja_ jd_ (ja_ (pv 1) je_)))) je_)))
  (jf_ (zo_ p5_ rfl (vm_ rfl T.z_range (ja_ jd_ (ja_ (pv 2) je_))) (jn_ (i:=4) nd rfl (Or.inl rfl))
   (jf_ (jl_ (i:=5) nd rfl (Or.inl rfl) (jq_ D_law_row hr.mo_ rfl (ja_ (pv 0) (ja_ (jk_ jx_ jd_ (pv 4)) (ja_ (j0_ (ja_ jd_ (ja_ jd_ (ja_ jd_ je_)))) je_)))))
  (jf_ (jl_ (i:=6) nd rfl (Or.inl rfl) (jj_ (jh_ (K:=K)) (pv 3) (jk_ yf_ (jj_ (jh_ (K:=K)) (pv 5) jd_ (fun _ _=>rfl)) (jo_ (zq_ (K:=K)) rfl T.z_len (by decide +kernel) (ja_ (pv 3) je_))) (fun _ _=>rfl)))
  (jf_ (jl_ (i:=7) nd rfl (Or.inl rfl) (j0_ (ja_ (jq_ D_law_pattern hr.mo_ rfl (ja_ (pv 0) (ja_ (jk_ jx_ jd_ (pv 4)) (ja_ (pv 1) je_)))) (ja_ (pv 6) je_))))
  (jf_ (jl_ (i:=7) nd rfl (Or.inl rfl) (jk_ jx_ (pv 7) (j0_ (ja_ (jq_ D_law_lower hr.mo_ rfl (ja_ (pv 6) (ja_ (jj_ (jh_ (K:=K)) (pv 5) jd_ (fun _ _=>rfl)) je_))) (ja_ (jq_ D_law_bent hr.mo_ rfl (ja_ (pv 6) (ja_ (jj_ (jh_ (K:=K)) (pv 5) jd_ (fun _ _=>rfl)) je_))) je_)))))
  (jf_ (jl_ (i:=7) nd rfl (Or.inl rfl) (jk_ jx_ (pv 7) (j0_ (ja_ (jq_ D_law_longer hr.mo_ rfl (ja_ (pv 6) (ja_ (jj_ (jh_ (K:=K)) (pv 1) (jk_ yf_ (jj_ (jh_ (K:=K)) (pv 5) jd_ (fun _ _=>rfl)) (jo_ (zq_ (K:=K)) rfl T.z_len (by decide +kernel) (ja_ (pv 1) je_))) (fun _ _=>rfl)) je_))) (ja_ (jq_ D_law_bent hr.mo_ rfl (ja_ (jq_ D_law_lower hr.mo_ rfl (ja_ (pv 6) (ja_ jd_ je_))) (ja_ (jj_ (jh_ (K:=K)) (pv 5) jd_ (fun _ _=>rfl)) je_))) je_)))))
  (jg_ (ys_ (yg_ (K:=K) qf_ q8_ q9_ yv_ (pv 3) (ja_ (jj_ (jh_ (K:=K)) (pv 7) (jj_ (jh_ (K:=K)) (pv 5) jd_ (fun _ _=>rfl)) (fun _ _=>rfl)) je_))))))))))
  (jg_ (jt_ (pv 3))))),?_⟩
 rw[show L2.j7_ ["_law_script","_law_letters_here","_law_many","_law_patterns","_law_k","_law_told","_law_old","_law_more"] [.ref a,.ref b,.int (m:Int)]=[some (.ref a),some (.ref b),some (.int (m:Int)),none,none,none,none,none] from rfl]
 walk_at "go"
 refine⟨a,ns,10,b,l,rfl,hS,by decide,hb,hl,hl1,hl2,fun v0 x0 H1 hv0 hx0 hxl0 s1=>?_⟩
 walk_at "go"
 intro pl hpl
 have hplH:H pl=none:=s1.free hpl
 have s2:=jc_ hpl (.lst [v0])
 have hv2:=Is.same s2 hv0
 have epl:=jb_ (H:=H1) (a:=pl) (o:=.lst [v0])
 have s02:=s1.trans s2
 generalize upd H1 pl (.lst [v0])=H2 at s2 hv2 epl s02 ⊢
 walk_at "go"
 refine zu_ (fun i σ H'=>∃(ys:List V) (xs:List Pat) (x4 x5 x6 x7:Option V),σ=[some (.ref a),some (.ref b),some (.int (m:Int)),some (.ref pl),x4,x5,x6,x7]/\H' pl=some (.lst ys)/\L2.IsL H' ys (xs.map patD)/\(∀ x∈xs,GS x)/\xs.length=i+1/\Same H H')
  ⟨[v0],[x0],none,none,none,none,rfl,epl,by simp only[pp_,p7_,L2.IsL];exact⟨hv2,trivial⟩,(fun x hx=>by rw[ph_.mp hx];exact GS.of hx0 hxl0),rfl,s02⟩ ?_ ?_
 ·rintro i σ H3 hi ⟨ys,xs,x4,x5,x6,x7,rfl,epl3,hys3,hgs,hxl,s3⟩
  have hyl:=hys3.length
  rw[pb_] at hyl
  walk_at "go"
  intro pr hpr
  have s4:=jc_ hpr (.lst [.int 6,.int 60,.int 100])
  have epr:=jb_ (H:=H3) (a:=pr) (o:=.lst [.int 6,.int 60,.int 100])
  have s34:=s3.trans s4
  generalize upd H3 pr (.lst [.int 6,.int 60,.int 100])=H4 at s4 epr s34 ⊢
  walk_at "go"
  refine⟨a,ns,31+i,pr,[6,60,100],by rw[show (30:Int)+(1+(i:Int))=((31+i:Nat):Int) by omega];rfl,s34.seq hS,by omega,epr,by decide,by decide,fun r1 ds H5 hr1 e5 hdl hds s5=>?_⟩
  obtain⟨d0,d1,d2,rfl⟩:∃ x y z,ds=[x,y,z]:=by
   match ds,hdl with
   | [x,y,z],_=>exact⟨x,y,z,rfl⟩
  obtain⟨b00,b01⟩:=hds 0 d0 6 rfl rfl
  obtain⟨b10,b11⟩:=hds 1 d1 60 rfl rfl
  obtain⟨b20,b21⟩:=hds 2 d2 100 rfl rfl
  have e5:H5 r1=some (.lst [.int d0,.int d1,.int d2]):=e5
  have s35:=s4.trans s5
  have s05:=s34.trans s5
  have epl5:=s35 _ _ epl3
  have hys5:=IsL.same s35 hys3
  walk_at "go"
  have hk0:=qu_ d1 (show (ys.length:Int)≠0 by omega)
  have hk1:=qp_ d1 (show (0:Int) < (ys.length:Int) by omega)
  generalize d1 % (ys.length:Int)=kk at hk0 hk1 ⊢
  obtain⟨kn,rfl⟩:∃ kn:Nat,kk=(kn:Int):=⟨kk.toNat,by omega⟩
  have hkn:kn < xs.length:=by omega
  obtain⟨yv,dy,hyv,hdy,hIy⟩:=IsL.get hys5 (show kn < (xs.map patD).length by simpa using hkn)
  rw[pl_,pa_ hkn] at hdy
  cases hdy
  have hgx:=hgs _ (px_ hkn)
  generalize xs[kn]=X at hIy hgx
  have hat:atI ys (kn:Int)=some yv:=zg_ (by omega) (by rw[show ((kn:Int)).toNat=kn by omega];exact hyv)
  refine xa_ (jr_ epl5) hat ?_
  walk_at "go"
  refine⟨a,ns,11+i,b,l,by rw[show (10:Int)+(1+(i:Int))=((11+i:Nat):Int) by omega];rfl,s05.seq hS,by omega,s05 _ _ hb,hl,hl1,hl2,fun v1 y1 H6 hv1 hg1 hgl1 s6=>?_⟩
  walk_at "go"
  intro m1 hm1
  have s7:=jc_ hm1 (.lst [v1,yv])
  have em1:=jb_ (H:=H6) (a:=m1) (o:=.lst [v1,yv])
  have s57:=s6.trans s7
  have i1:=Is.same s7 hv1
  have i2:=Is.same s57 hIy
  have e57:=s57 _ _ e5
  generalize upd H6 m1 (.lst [v1,yv])=H7 at s7 em1 s57 i1 i2 e57 ⊢
  walk_at "go"
  refine⟨yv,X,d2,rfl,i2,hgx,b20,by omega,fun v3 y3 H8 hv3 hg3 s8=>?_⟩
  have e58:=s8 _ _ e57
  walk_at "go"
  refine⟨yv,X,d2,rfl,Is.same s8 i2,hgx,b20,by omega,fun v4 y4 H9 hv4 hg4 s9=>?_⟩
  walk_at "go"
  intro m2 hm2
  have s10:=jc_ hm2 (.lst [v3,v4])
  have s7a:=(s8.trans s9).trans s10
  have em2:=jb_ (H:=H9) (a:=m2) (o:=.lst [v3,v4])
  have em1a:=s7a _ _ em1
  have i1a:=Is.same s7a i1
  have i2a:=Is.same s7a i2
  have i3a:=Is.same (s9.trans s10) hv3
  have i4a:=Is.same s10 hv4
  have e5a:=s7a _ _ e57
  have s5a:=s57.trans s7a
  generalize upd H9 m2 (.lst [v3,v4])=H10 at s10 s7a em2 em1a i1a i2a i3a i4a e5a s5a ⊢
  walk_at "go"
  refine yh_ em1a em2 (szn (show 4<=1000000 by decide)) fun m3 hm3=>?_
  have s11:=jc_ hm3 (.lst ([v1,yv]++[v3,v4]))
  have em3:(upd H10 m3 (.lst ([v1,yv]++[v3,v4]))) m3=some (.lst [v1,yv,v3,v4]):=jb_
  have i1b:=Is.same s11 i1a
  have i2b:=Is.same s11 i2a
  have i3b:=Is.same s11 i3a
  have i4b:=Is.same s11 i4a
  have e5b:=s11 _ _ e5a
  have s5b:=s5a.trans s11
  have hbb:=(s05.trans s5b) _ _ hb
  generalize upd H10 m3 (.lst ([v1,yv]++[v3,v4]))=H11 at s11 em3 i1b i2b i3b i4b e5b s5b hbb ⊢
  walk_at "go"
  rw[hlets]
  have hq0:=qu_ d2 (show (l.length:Int)≠0 by omega)
  have hq1:=qp_ d2 (show (0:Int) < (l.length:Int) by omega)
  have hql:(d2 % (l.length:Int)).toNat < l.length:=by omega
  refine xa_ (v:=.str (S [l[(d2 % (l.length:Int)).toNat]])) (jr_ hbb) (zg_ hq0 (by rw[lets,pl_,pa_ hql];rfl)) ?_
  walk_at "go"
  refine⟨yv,X,l[(d2 % (l.length:Int)).toNat],rfl,i2b,hgx,jou_ hl _ (px_ hql),fun v5 y5 H12 hv5 hg5 s12=>?_⟩
  walk_at "go"
  refine⟨yv,X,1,rfl,Is.same s12 i2b,hgx,by decide,by decide,fun v6 y6 H13 hv6 hg6 s13=>?_⟩
  have e5d:=(s12.trans s13) _ _ e5b
  walk_at "go"
  refine⟨v6,y6,d2,rfl,hv6,hg6,b20,by omega,fun v7 y7 H14 hv7 hg7 s14=>?_⟩
  walk_at "go"
  intro m4 hm4
  have s15:=jc_ hm4 (.lst [v5,v7])
  have sbf:=((s12.trans s13).trans s14).trans s15
  have em4:=jb_ (H:=H14) (a:=m4) (o:=.lst [v5,v7])
  have em3f:=sbf _ _ em3
  have i1f:=Is.same sbf i1b
  have i2f:=Is.same sbf i2b
  have i3f:=Is.same sbf i3b
  have i4f:=Is.same sbf i4b
  have i5f:=Is.same ((s13.trans s14).trans s15) hv5
  have i7f:=Is.same s15 hv7
  have e5f:=sbf _ _ e5b
  have s5f:=s5b.trans sbf
  generalize upd H14 m4 (.lst [v5,v7])=H15 at s15 sbf em4 em3f i1f i2f i3f i4f i5f i7f e5f s5f ⊢
  walk_at "go"
  refine yh_ em3f em4 (szn (show 6<=1000000 by decide)) fun m5 hm5=>?_
  have s16:=jc_ hm5 (.lst ([v1,yv,v3,v4]++[v5,v7]))
  have em5:(upd H15 m5 (.lst ([v1,yv,v3,v4]++[v5,v7]))) m5=some (.lst [v1,yv,v3,v4,v5,v7]):=jb_
  have s5g:=s5f.trans s16
  obtain⟨vm,ym,hmat,him,hgm⟩:∃(vm:V) (ym:Pat),atI [v1,yv,v3,v4,v5,v7] d0=some vm/\Is H15 vm (patD ym)/\GS ym:=by
   rcases (show d0=0∨d0=1∨d0=2∨d0=3∨d0=4∨d0=5 by omega) with rfl | rfl | rfl | rfl | rfl | rfl
   ·exact⟨v1,y1,rfl,i1f,GS.of hg1 hgl1⟩
   ·exact⟨yv,X,rfl,i2f,hgx⟩
   ·exact⟨v3,y3,rfl,i3f,hg3⟩
   ·exact⟨v4,y4,rfl,i4f,hg4⟩
   ·exact⟨v5,y5,rfl,i5f,hg5⟩
   ·exact⟨v7,y7,rfl,i7f,hg7⟩
  have himg:=Is.same s16 him
  have e5g:=s16 _ _ e5f
  generalize upd H15 m5 (.lst ([v1,yv,v3,v4]++[v5,v7]))=H16 at s16 em5 s5g himg e5g ⊢
  have s3g:=s35.trans s5g
  have eplg:=s3g _ _ epl3
  have hysg:=IsL.same s3g hys3
  walk_at "go"
  try refine xa_ (jr_ em5) hmat ?_
  walk_at "go"
  try refine jen_ eplg (szlt (by omega)) ?_
  have k4:Tk H16 (upd H16 pl (.lst (ys++[vm]))):=Tk.lst eplg _
  walk_at "go"
  refine⟨ys++[vm],xs++[ym],_,_,_,_,rfl,jb_,?_,fun x hx=>?_,by rw[pg_,hxl];rfl,jv_ hplH (s3.trans s3g)⟩
  ·rw[pk_]
   exact IsL.snoc (IsL.tk k4 (jjj_ _) hysg) (Is.tk k4 (jdm_ _) himg)
  ·rcases pe_.mp hx with h | h
   ·exact hgs x h
   ·rw[ph_.mp h];exact hgm
 ·rintro σ H3 ⟨ys,xs,x4,x5,x6,x7,rfl,epl3,hys3,hgs,hxl,s3⟩
  walk_at "go"
  exact q pl xs H3 hplH ⟨ys,epl3,hys3,hgs⟩ (by omega) s3
end
noncomputable abbrev s_left_of_round:Stmt:=top 14
theorem sc_left_of_round:FnScope ["patterns","numbers","left","number","remaining"] ["patterns","numbers"] (jm_ s_left_of_round):=by walk_at "f"
noncomputable abbrev s_pared:Stmt:=top 15
theorem sc_pared:FnScope ["patterns","numbers","left"] ["patterns"] (jm_ s_pared):=by walk_at "f"
noncomputable def j1_ (ks:List Nat):List Int:=ks.map fun k:Nat=>(k:Int)
theorem jw_ (ks:List Nat):(j1_ ks).length=ks.length:=pb_ ..
theorem u6_ (ks:List Nat)(i:Nat):(j1_ ks)[i]?=(ks[i]?).map fun k:Nat=>(k:Int):=pl_ ..
theorem vu_ {ks:List Nat}{i k:Nat}(h:ks[i]?=some k):((j1_ ks).map V.int)[i]?=some (.int (k:Int)):=by
 rw[pl_,u6_,h];rfl
theorem yl_ {ks:List Nat}{i k:Nat}(h:ks[i]?=some k):((j1_ ks).map V.int).getD i .non=.int (k:Int):=by
 rw[pf_,vu_ h];rfl
theorem jnn_ {ks:List Nat}{n:Nat}(h:n∈ks):(n:Int)∈j1_ ks:=qb_.mpr ⟨n,h,rfl⟩
theorem jdo_:∀{a b:List Nat},j1_ a=j1_ b->a=b
 | [],[],_=>rfl
 | [],_::_,h=>by simp[j1_] at h
 | _::_,[],h=>by simp[j1_] at h
 | x::a,y::b,h=>by
  injection h with h1 h2
  rw[Int.ofNat.inj h1,jdo_ (a:=a) (b:=b) h2]
theorem u9_ (n:Nat):∀ ks:List Nat,(j1_ ks).erase (n:Int)=j1_ (ks.erase n)
 | []=>rfl
 | k::ks=>by
  by_cases e:k=n
  ·subst e
   show ((k:Int)::j1_ ks).erase (k:Int)=_
   rw[kn_,kn_]
  ·show ((k:Int)::j1_ ks).erase (n:Int)=_
   rw[sp_ (by simp;omega),sp_ (by simpa using e),u9_ n ks];rfl
theorem jum_ {n:Nat}:∀{ks:List Nat},n∈ks->∃ j,j < ks.length/\ks[j]?=some n/\(∀ i,i < j->ks[i]?≠some n)/\ks.erase n=ks.eraseIdx j
 | [],h=>nomatch h
 | k::ks,h=>by
  by_cases e:k=n
  ·subst e
   exact⟨0,by simp,rfl,fun i hi=>absurd hi (s1_ _),by simp⟩
  ·obtain⟨j,h0,h1,h2,h3⟩:=jum_ ((p0_.mp h).resolve_left fun z=>e z.symm)
   refine⟨j+1,by simpa using h0,by simpa using h1,fun i hi=>?_,?_⟩
   ·cases i with
    | zero=>simpa using e
    | succ i=>simpa using h2 i (by omega)
   ·rw[sp_ (by simpa using e),h3];rfl
theorem jcv_ {xs:List Pat}{ks:List Nat}{j:Nat}(h:j < ks.length):jac_ (sel xs ks) j=sel xs (ks.eraseIdx j):=by
 have hl:(sel xs ks).length=ks.length:=pb_ ..
 unfold jac_
 rw[jeo_ _ j (by omega),show (j:Int)+1=((j+1:Nat):Int) by omega,va_ _ (j+1) (by omega),List.eraseIdx_eq_take_drop_succ]
 unfold sel
 rw[pk_,tn_,kz_]
theorem y5_ {ks:List Nat}{n:Nat}(h:qj_ ks (pu_ n)):∀ k∈ks,k < n:=fun k hk=>rl_.mp (h.subset hk)
theorem xd_ {ks:List Nat}{n:Nat}(h:qj_ ks (pu_ n)):ks.length<=n:=by have:=h.length_le;rwa [sn_] at this
theorem jph_ {ks:List Nat}{n:Nat}(h:qj_ ks (pu_ n)):ks.Nodup:=h.nodup List.nodup_range
theorem jft_ {xs:List Pat}{ks:List Nat}(h:∀ k∈ks,k < xs.length):∀ x∈sel xs ks,x∈xs:=fun x hx=>by
 obtain⟨k,hk,rfl⟩:=qb_.mp hx
 rw[pf_,pa_ (h k hk)]
 exact px_ _
theorem jlt_ (xs:List Pat)(ks:List Nat):(sel xs ks).length=ks.length:=pb_ ..
theorem u0_ {xs:List Pat}{ks:List Nat}(sm:SmP xs)(h:qj_ ks (pu_ xs.length)):SmP (sel xs ks):=sm.sub (jft_ (y5_ h)) (by rw[jlt_];exact xd_ h)
theorem ub_ {H:Hp}{ys:List V}{xs:List Pat}(h:L2.IsL H ys (xs.map patD)):∀{ks:List Nat},(∀ k∈ks,k < xs.length)->L2.IsL H (ks.map fun k=>ys.getD k .non) ((sel xs ks).map patD)
 | [],_=>by simp only[sel,p7_,L2.IsL]
 | k::ks,hk=>by
  have h1:=ub_ h (ks:=ks) fun j hj=>hk j (pj_ _ hj)
  have hk0:=hk k pm_
  obtain⟨y,d,hy,hd,hI⟩:=IsL.get h (show k < (xs.map patD).length by simpa using hk0)
  rw[pl_,pa_ hk0] at hd
  cases hd
  simp only[sel,pp_,L2.IsL] at h1 ⊢
  refine⟨?_,h1⟩
  rw[pf_,hy,pf_,pa_ hk0]
  exact hI
theorem Told.two {one other:List Pat}{H:Hp}{Q:VK}(h1:¬ Sm one other->∀(r:Addr) (x:V) (H':Hp),H r=none->H' r=some (.tup [.str (S jkj_),x])->Same H H'->Q (.ref r) H')
  (h2:Sm one other->∀(r:Addr) (x:V) (H':Hp),H r=none->H' r=some (.tup [.str (S jle_),x])->Same H H'->Q (.ref r) H'):Told one other H Q :=
 ⟨fun r u H' b _ h3 h4 s=>h1 (fun h=>h u b) r _ H' h3 h4 s,fun r l vs zs H' a h3 _ h4 _ _ s=>h2 (fun u b=>a.not b) r _ H' h3 h4 s⟩
def jfm_:Sp:=fun vs H Q _=>∃(a b:Addr) (ya:List V) (xs:List Pat) (ks:List Nat),vs=[.ref a,.ref b]/\H a=some (.lst ya)/\L2.IsL H ya (xs.map patD)/\SmP xs/\H b=some (.lst ((j1_ ks).map V.int))/\qj_ ks (pu_ xs.length) /\
 ∀(r:Addr) (H':Hp),H r=none->H' r=some (.lst ((j1_ (rd1 xs ks)).map V.int))->Same H H'->Q (.ref r) H'
def jei_:Sp:=fun vs H Q _=>∃(a:Addr) (ya:List V) (xs:List Pat),vs=[.ref a]/\H a=some (.lst ya)/\L2.IsL H ya (xs.map patD)/\SmP xs /\
 ∀(r:Addr) (ks:List Nat) (H':Hp),H r=none->Left xs (pu_ xs.length) ks->qj_ ks (pu_ xs.length)->H' r=some (.lst ((j1_ ks).map V.int))->Same H H'->Q (.ref r) H'
def PaW (xs:List Pat)(H:Hp)(a:Addr)(m:Nat)(σ:St)(H':Hp):Prop:=∃(bn bl:Addr) (ks:List Nat) (k:Nat),σ=[some (.ref a),some (.ref bn),some (.ref bl)]/\H bl=none/\ks=itr xs k (pu_ xs.length)/\qj_ ks (pu_ xs.length)/\H' bn=some (.lst ((j1_ ks).map V.int))/\H' bl=some (.lst ((j1_ (rd1 xs ks)).map V.int))/\Same H H'/\m=ks.length
section
variable {P:Program}{w:World}{K:pc_}{mg:Str->Option Value}{base:Heap}{f:Addr}{fd:FuncData}{tk:Nat->Tok}{cO:Addr}
theorem u3_ (T:Txt mg tk)(F:Fun K "left_of_round" "left_of_round" s_left_of_round f fd)(D_needless:Dn P w K mg base "needless" 6 ["patterns","number"] v1_):FnOk P w K mg base CX0 7 f fd ["patterns","numbers"] jfm_:=by
 refine F.ok sc_left_of_round (fun vs H Q E h=>?_) (fun cdv A outer s H vs Q E hr h=>?_)
 ·obtain⟨a,b,ya,xs,ks,rfl,_⟩:=h
  rfl
 obtain⟨a,b,ya,xs,ks,rfl,ha,hya,sm,hb,hks,q⟩:=h
 have nd:=sc_left_of_round.nd
 have hyl:=hya.length
 rw[pb_] at hyl
 have hz:=sm.2.2
 have hkl:=xd_ hks
 refine⟨_,(jf_ (jl_ (i:=2) nd rfl (Or.inl rfl) (zz_ jig_ rfl T.z_list (by decide +kernel) (ja_ (pv 1) je_)))
  (jf_ (zo_ p5_ rfl (j9_ (K:=K) (pv 1)) (jn_ (i:=3) nd rfl (Or.inl rfl))
   (jf_ (xn_ (i:=4) ["patterns","kept"] [some 0,none] rfl (by kernel_rfl) rfl nd rfl rfl (j9_ (K:=K) (pv 2)) (fun _ _ _ _=>(jn_ (i:=1) (show (["patterns","kept"]:List Str).Nodup by decide +kernel) rfl (Or.inl rfl) (Or.inr rfl))) (fun _ _ _ _=>zn_) (fun _ _ _ _=>(jj_ (jh_ (K:=K)) (pv 0) (pv 1) (fun _ _=>rfl))))
  (jg_ (zr_ (ju_ (o_eq hr.units) (jj_ (jh_ (K:=K)) (jq_ D_needless hr.mo_ rfl (ja_ (pv 4) (ja_ (yg_ (K:=K) qf_ PySem.F.slot_list_index PySem.F.type_list_index jww_ (pv 2) (ja_ (pv 3) je_)) je_))) jd_ (fun _ _=>rfl)) zh_ (j6_ _))
   (jg_ (ys_ (yg_ (K:=K) qf_ PySem.F.slot_list_remove PySem.F.type_list_remove jmc_ (pv 2) (ja_ (pv 3) je_))))
   j5_))))
  (jg_ (jt_ (pv 2))))),?_⟩
 rw[show L2.j7_ ["patterns","numbers","left","number","remaining"] [.ref a,.ref b]=[some (.ref a),some (.ref b),none,none,none] from rfl]
 rw[joi_]
 walk_at "go"
 refine jex_ (jr_ hb) fun l hl=>?_
 have s1:=jc_ hl (.lst ((j1_ ks).map V.int))
 have e1:=jb_ (H:=H) (a:=l) (o:=.lst ((j1_ ks).map V.int))
 have hb1:=s1 _ _ hb
 generalize upd H l (.lst ((j1_ ks).map V.int))=H1 at s1 e1 hb1 ⊢
 walk_at "go"
 refine zy_ (K:=K) (xs:=(j1_ ks).map V.int) (fun i σ H'=>∃(x3 x4:Option V),σ=[some (.ref a),some (.ref b),some (.ref l),x3,x4]/\H' l=some (.lst ((j1_ (rnd xs ks (ks.take i))).map V.int))/\Same H H')
  ⟨none,none,rfl,e1,s1⟩ (fun j σ H' _ ⟨_,_,_,_,s⟩=>SqL.of (s _ _ hb)) ?_ ?_
 ·rintro i z σ H2 hz2 ⟨x3,x4,rfl,e2,s2⟩
  have hi:i < ks.length:=by have:=(pq_.mp hz2).1;rwa [pb_,jw_] at this
  rw[vu_ (pa_ hi)] at hz2
  cases hz2
  have htk:ks.take (i+1)=ks.take i++[ks[i]]:=by rw[p3_,pa_ hi];rfl
  rw[htk,jgl_]
  have hn0:ks[i]∉ks.take i:=fun h=>by
   obtain⟨j,hj,e⟩:=rd_.mp h
   rw[p2_] at hj
   rw[List.getElem_take] at e
   exact List.pairwise_iff_getElem.mp (jph_ hks) j i (by omega) hi (by omega) e
  have hmem:=jdj_ (xs:=xs) (px_ hi) hn0
  have hsub:=(xr_ xs (ks.take i) ks).trans hks
  generalize ks[i]=n at hmem ⊢
  generalize rnd xs ks (ks.take i)=left at e2 hmem hsub ⊢
  have hll:=xd_ hsub
  have ha2:=s2 _ _ ha
  have hya2:=IsL.same s2 hya
  walk_at "go"
  intro rr hrr
  refine j8_ (K:=K) (xs:=(j1_ left).map V.int) (fun j acc σ H'=>∃ x,σ=[some (.ref a),x]/\acc=(left.take j).map (fun k=>ya.getD k .non)/\H' rr=some (.lst acc)/\Same H2 H') (fun j acc σ H' _ ⟨_,_,_,_,s⟩=>SqL.of (s _ _ e2))
   ⟨none,rfl,rfl,jb_,jc_ hrr _⟩ (fun j acc σ H' ⟨_,_,e,e2,_⟩=>⟨e2,by rw[e,pb_,p2_];omega⟩) (szn (by rw[pb_,jw_];omega)) ?_ ?_
  ·rintro j acc σ H3 hj ⟨x,rfl,rfl,e3,s3⟩
   rw[pb_,jw_] at hj
   rw[yl_ (pa_ hj)]
   have hlt:=y5_ hsub _ (px_ hj)
   have htk3:left.take (j+1)=left.take j++[left[j]]:=by rw[p3_,pa_ hj];rfl
   rw[htk3]
   generalize left[j]=k at hlt ⊢
   have hat:atI ya (k:Int)=some (ya.getD k .non):=zg_ (by omega) (by rw[show ((k:Int)).toNat=k by omega,pf_,pa_ (show k < ya.length by omega)];rfl)
   walk_at "go"
   refine xa_ (jr_ (s3 _ _ ha2)) hat ?_
   refine⟨e3,_,rfl,?_,jb_,jv_ hrr s3⟩
   rw[pk_];rfl
  ·rintro acc σ H3 ⟨x,rfl,rfl,e3,s3⟩
   rw[pb_,jw_,py_] at e3
   obtain⟨j,hj,h1,h2,h3⟩:=jum_ hmem
   have e23:=s3 _ _ e2
   have hsl:=jlt_ xs left
   walk_at "go"
   refine jrm_ (j:=j) e23 (by rw[u6_,h1];rfl) (fun i hi z=>?_) ?_
   ·rw[u6_] at z
    cases hh:left[i]? with
    | none=>rw[hh] at z;cases z
    | some y =>
     rw[hh] at z
     injection z with z
     exact h2 i hi (by rw[hh,Int.ofNat.inj z])
   walk_at "go"
   refine⟨rr,_,sel xs left,j,rfl,e3,ub_ (IsL.same s3 hya2) (y5_ hsub),u0_ sm hsub,by omega,Told.two (fun hs r y H4 hr4 e4 s4=>?_) fun hs r y H4 hr4 e4 s4=>?_⟩
   ·rw[jcv_ hj,<- h3] at hs
    walk_at "go"
    refine⟨_,_,rfl,?_,s2.trans (s3.trans s4)⟩
    unfold stp
    rw[if_neg hs]
    exact s4 _ _ e23
   ·rw[jcv_ hj,<- h3] at hs
    have e34:=s4 _ _ e23
    walk_at "go"
    refine jrl_ e34 (jnn_ hmem) ?_
    walk_at "go"
    refine⟨_,_,rfl,?_,jv_ hl (s2.trans (s3.trans s4))⟩
    unfold stp
    rw[if_pos hs,jb_,u9_]
 ·rintro σ H2 ⟨x3,x4,rfl,e2,s2⟩
  rw[pb_,jw_,py_] at e2
  walk_at "go"
  exact q l H2 hl e2 s2
theorem jpk_ (T:Txt mg tk)(F:Fun K "pared" "pared" s_pared f fd)(D_left_of_round:Dn P w K mg base "left_of_round" 7 ["patterns","numbers"] jfm_):FnOk P w K mg base CX0 8 f fd ["patterns"] jei_:=by
 refine F.ok sc_pared (fun vs H Q E h=>?_) (fun cdv A outer s H vs Q E hr h=>?_)
 ·obtain⟨a,ya,xs,rfl,_⟩:=h
  rfl
 obtain⟨a,ya,xs,rfl,ha,hya,sm,q⟩:=h
 have nd:=sc_pared.nd
 have hyl:=hya.length
 rw[pb_] at hyl
 have hz:=sm.2.2
 refine⟨_,(jf_ (jl_ (i:=1) nd rfl (Or.inl rfl) (jbk_ rfl rfl T.z_list rfl T.z_range (ja_ (jo_ (zq_ (K:=K)) rfl T.z_len (by decide +kernel) (ja_ (pv 0) je_)) je_)))
  (jf_ (jl_ (i:=2) nd rfl (Or.inl rfl) (jq_ D_left_of_round hr.mo_ rfl (ja_ (pv 0) (ja_ (pv 1) je_))))
  (jf_ (x5_ p5_ (ju_ o_lt (jo_ (zq_ (K:=K)) rfl T.z_len (by decide +kernel) (ja_ (pv 2) je_)) (jo_ (zq_ (K:=K)) rfl T.z_len (by decide +kernel) (ja_ (pv 1) je_)) (j6_ _))
   (jf_ (jl_ (i:=1) nd rfl (Or.inl rfl) (pv 2))
  (jg_ (jl_ (i:=2) nd rfl (Or.inl rfl) (jq_ D_left_of_round hr.mo_ rfl (ja_ (pv 0) (ja_ (pv 1) je_)))))))
  (jg_ (jt_ (pv 2)))))),?_⟩
 rw[show L2.j7_ ["patterns","numbers","left"] [.ref a]=[some (.ref a),none,none] from rfl]
 walk_at "go"
 refine jda_ ?_
 walk_at "go"
 refine⟨ya.length,rfl,by omega,fun p hp=>?_⟩
 rw[hyl]
 have s1:=jc_ hp (.lst ((j1_ (pu_ xs.length)).map V.int))
 have e1:(upd H p (.lst (((pu_ xs.length).map fun k:Nat=>(k:Int)).map V.int))) p=some (.lst ((j1_ (pu_ xs.length)).map V.int)):=jb_
 have s1:Same H (upd H p (.lst (((pu_ xs.length).map fun k:Nat=>(k:Int)).map V.int))):=s1
 generalize upd H p (.lst (((pu_ xs.length).map fun k:Nat=>(k:Int)).map V.int))=H1 at s1 e1 ⊢
 walk_at "go"
 refine⟨a,p,ya,xs,pu_ xs.length,rfl,s1 _ _ ha,IsL.same s1 hya,sm,e1,r9_ _,fun l H2 hl e2 s2=>?_⟩
 walk_at "go"
 refine⟨PaW xs H a,
  ⟨_,p,l,pu_ xs.length,0,rfl,s1.free hl,rfl,r9_ _,s2 _ _ e1,e2,s1.trans s2,rfl⟩,?_⟩
 rintro m σ H3 ⟨bn,bl,ks,k,rfl,hbl,hk,hks,en,el,s3,rfl⟩
 have hrs:qj_ (rd1 xs ks) ks:=xr_ xs ks ks
 have hrl:=hrs.length_le
 walk_at "go"
 rw[pb_,pb_,jw_,jw_]
 by_cases hc:((rd1 xs ks).length:Int) < (ks.length:Int)
 ·refine jlp_ hc ⟨fun σ' H'=>∃ m',m' < ks.length/\PaW xs H a m' σ' H',fun σ' H' h=>h,?_⟩
  walk_at "go"
  refine⟨a,bl,ya,xs,rd1 xs ks,rfl,s3 _ _ ha,IsL.same s3 hya,sm,el,hrs.trans hks,fun l2 H4 hl2 e4 s4=>?_⟩
  walk_at "go"
  exact⟨_,by omega,bl,l2,rd1 xs ks,k+1,rfl,s3.free hl2,by rw[hk];rfl,hrs.trans hks,s4 _ _ el,e4,s3.trans s4,rfl⟩
 ·refine jce_ hc ?_
  walk_at "go"
  have hfix:rd1 xs ks=ks:=hrs.eq_of_length (by omega)
  rw[hfix] at el
  exact q bl ks H3 hbl ⟨⟨k,hk⟩,hfix⟩ hks el s3
end
noncomputable abbrev s_law_left:Stmt:=top 34
theorem sc_law_left:FnScope ["_law_patterns","_law_left_here","_law_before","_law_number","_law_rest"] ["_law_patterns"] (jm_ s_law_left):=by walk_at "f"
theorem jfx_:∀{a b:List Int},tp_ (toPs (a.map Dt.int)) (toPs (b.map Dt.int))=true->a=b
 | [],[],_=>rfl
 | [],_::_,h=>by simp[toPs,toP,tp_] at h
 | _::_,[],h=>by simp[toPs,toP,tp_] at h
 | x::a,y::b,h=>by
  simp only[pp_,toPs,toP,tp_,qk_] at h
  have h1:x=y:=by simpa [PyData.eqv] using h.1
  rw[h1,jfx_ h.2]
theorem jtr_ {a b:List Int}(h:a≠b):eqD (.lst (a.map Dt.int)) (.lst (b.map Dt.int))=false:=by
 cases e:eqD (.lst (a.map Dt.int)) (.lst (b.map Dt.int)) with
 | false=>rfl
 | true =>
  unfold eqD at e
  simp only[toP,PyData.eqv] at e
  exact absurd (jfx_ (by simpa using e)) h
theorem xk_ (a:List Int):okD (.lst (a.map Dt.int)):=(Lay.lst Lay.ints).ok (by decide)
def jjt_:Sp:=fun vs H Q _=>∃(a:Addr) (ya:List V) (xs:List Pat),vs=[.ref a]/\H a=some (.lst ya)/\L2.IsL H ya (xs.map patD)/\SmP xs/\jfs_ xs /\
 ∀(r:Addr) (ks:List Nat) (H':Hp),H r=none->Left xs (pu_ xs.length) ks->qj_ ks (pu_ xs.length)->H' r=some (.lst ((j1_ ks).map V.int))->Same H H'->Q (.ref r) H'
def Bef (xs:List Pat)(H':Hp)(v:V)(ks:List Nat)(m:Nat):Prop:=(v=.non/\m=xs.length+1)∨∃(b:Addr) (kb:List Nat),v=.ref b/\H' b=some (.lst ((j1_ kb).map V.int))/\ks=rd1 xs kb/\m=kb.length
def LfW (xs:List Pat)(H:Hp)(a:Addr)(m:Nat)(σ:St)(H':Hp):Prop:=∃(l:Addr) (v:V) (ks:List Nat) (k:Nat) (x3 x4:Option V),σ=[some (.ref a),some (.ref l),some v,x3,x4]/\H l=none/\ks=itr xs k (pu_ xs.length)/\qj_ ks (pu_ xs.length)/\H' l=some (.lst ((j1_ ks).map V.int))/\Bef xs H' v ks m/\Same H H'
theorem jiw_ {ks:List Nat}(h:ks.Nodup)(n:Nat):ks.filter (fun k=>decide (k≠n))=ks.erase n:=by
 rw[h.erase_eq_filter]
 congr 1
 funext k
 rw[qt_];simp
section
variable {P:Program}{w:World}{K:pc_}{mg:Str->Option Value}{base:Heap}{f:Addr}{fd:FuncData}{tk:Nat->Tok}{cO:Addr}
theorem jgn_ (T:Txt mg tk)(F:Fun K "_law_left" "_law_left" s_law_left f fd)(D_law_apart:Dn P w K mg base "_law_apart" 4 ["_law_one","_law_other"] jbc_):FnOk P w K mg base CX0 5 f fd ["_law_patterns"] jjt_:=by
 refine F.ok sc_law_left (fun vs H Q E h=>?_) (fun cdv A outer s H vs Q E hr h=>?_)
 ·obtain⟨a,ya,xs,rfl,_⟩:=h
  rfl
 obtain⟨a,ya,xs,rfl,ha,hya,sm,lo,q⟩:=h
 have nd:=sc_law_left.nd
 have hyl:=hya.length
 rw[pb_] at hyl
 have hz:=sm.2.2
 refine⟨_,(jf_ (jl_ (i:=1) nd rfl (Or.inl rfl) (jbk_ rfl rfl T.z_list rfl T.z_range (ja_ (jo_ (zq_ (K:=K)) rfl T.z_len (by decide +kernel) (ja_ (pv 0) je_)) je_)))
  (jf_ (jl_ (i:=2) nd rfl (Or.inl rfl) yz_)
  (jf_ (x5_ p5_ (ju_ (o_ne hr.units) (pv 1) (pv 2) (j6_ _))
   (jf_ (jl_ (i:=2) nd rfl (Or.inl rfl) (pv 1))
  (jg_ (zo_ p5_ rfl (j9_ (K:=K) (pv 2)) (jn_ (i:=3) nd rfl (Or.inr rfl))
   (jf_ (xn_ (i:=4) ["_law_number","_law_k"] [some 3,none] rfl (by kernel_rfl) rfl nd rfl rfl (j9_ (K:=K) (pv 1)) (fun _ _ _ _=>(jn_ (i:=1) (show (["_law_number","_law_k"]:List Str).Nodup by decide +kernel) rfl (Or.inl rfl) (Or.inr rfl))) (fun _ _ _ _=>(vh_ (ju_ (o_ne hr.units) (pv 1) (pv 0) (j6_ _)))) (fun _ _ _ _=>(pv 1)))
  (jg_ (zr_ (jjf_ (vb_ (jq_ D_law_apart hr.mo_ rfl (ja_ (zs_ ["_law_patterns","_law_k"] [some 0,none] rfl (by kernel_rfl) rfl (j9_ (K:=K) (pv 1)) (fun _ _ _ _=>(jn_ (i:=1) (show (["_law_patterns","_law_k"]:List Str).Nodup by decide +kernel) rfl (Or.inl rfl) (Or.inr rfl))) (fun _ _ _ _=>zn_) (fun _ _ _ _=>(jj_ (jh_ (K:=K)) (pv 0) (pv 1) (fun _ _=>rfl)))) (ja_ (zs_ ["_law_patterns","_law_k"] [some 0,none] rfl (by kernel_rfl) rfl (j9_ (K:=K) (pv 4)) (fun _ _ _ _=>(jn_ (i:=1) (show (["_law_patterns","_law_k"]:List Str).Nodup by decide +kernel) rfl (Or.inl rfl) (Or.inr rfl))) (fun _ _ _ _=>zn_) (fun _ _ _ _=>(jj_ (jh_ (K:=K)) (pv 0) (pv 1) (fun _ _=>rfl)))) je_))) (fun _=>rfl)))
   (jg_ (jl_ (i:=1) nd rfl (Or.inl rfl) (pv 4)))
   j5_)))))))
  (jg_ (jt_ (pv 1)))))),?_⟩
 rw[show L2.j7_ ["_law_patterns","_law_left_here","_law_before","_law_number","_law_rest"] [.ref a]=[some (.ref a),none,none,none,none] from rfl]
 walk_at "go"
 refine jda_ ?_
 walk_at "go"
 refine⟨ya.length,rfl,by omega,fun p hp=>?_⟩
 rw[hyl]
 have s1:=jc_ hp (.lst ((j1_ (pu_ xs.length)).map V.int))
 have e1:(upd H p (.lst (((pu_ xs.length).map fun k:Nat=>(k:Int)).map V.int))) p=some (.lst ((j1_ (pu_ xs.length)).map V.int)):=jb_
 have s1:Same H (upd H p (.lst (((pu_ xs.length).map fun k:Nat=>(k:Int)).map V.int))):=s1
 generalize upd H p (.lst (((pu_ xs.length).map fun k:Nat=>(k:Int)).map V.int))=H1 at s1 e1 ⊢
 walk_at "go"
 refine⟨LfW xs H a,⟨_,p,.non,pu_ xs.length,0,none,none,rfl,hp,rfl,r9_ _,e1,.inl ⟨rfl,rfl⟩,s1⟩,?_⟩
 rintro m σ H3 ⟨l,v,ks,k,x3,x4,rfl,hl,hk,hks,el,hbef,s3⟩
 have hrs:qj_ (rd1 xs ks) ks:=xr_ xs ks ks
 obtain⟨d,hd,hok,hcase⟩:∃ d,L2.Is H3 v d/\okD d/\((eqD (.lst ((j1_ ks).map Dt.int)) d=true/\rd1 xs ks=ks)∨(eqD (.lst ((j1_ ks).map Dt.int)) d=false/\ks.length < m)):=by
  rcases hbef with ⟨rfl,rfl⟩ | ⟨b,kb,rfl,eb,hkb,rfl⟩
  ·exact⟨.non,by simp only[L2.Is],Lay.non.ok (n:=0) (by decide),.inr ⟨by unfold eqD;simp[toP,PyData.eqv],by have:=xd_ hks;omega⟩⟩
  ·refine⟨.lst ((j1_ kb).map Dt.int),zp_ eb (IsL.ints _ _),xk_ _,?_⟩
   by_cases e:ks=kb
   ·refine .inl ⟨by rw[e];exact jgd_ (xk_ _),?_⟩
    rw[<- e] at hkb
    exact hkb.symm
   ·refine .inr ⟨jtr_ fun z=>e (jdo_ z),?_⟩
    have hsb:qj_ ks kb:=hkb▸xr_ xs kb kb
    exact Nat.lt_of_le_of_ne hsb.length_le fun z=>e (hsb.eq_of_length z)
 walk_at "go"
 refine jun_ (d:=.lst ((j1_ ks).map Dt.int)) (e:=d) (zp_ el (IsL.ints _ _)) hd (xk_ _) hok ?_
 refine⟨_,rfl,?_⟩
 rcases hcase with ⟨he,hfix⟩ | ⟨he,hlt⟩
 ·rw[he]
  refine jrw_ rfl ?_
  walk_at "go"
  exact q l ks H3 hl ⟨⟨k,hk⟩,hfix⟩ hks el s3
 ·rw[he]
  refine jlu_ rfl ⟨fun σ' H'=>∃ m',m' < m/\LfW xs H a m' σ' H',fun σ' H' h=>h,?_⟩
  walk_at "go"
  refine zy_ (K:=K) (xs:=(j1_ ks).map V.int) (fun i σ H'=>∃(c:Addr) (x3 x4:Option V),σ=[some (.ref a),some (.ref c),some (.ref l),x3,x4]/\H c=none/\H' c=some (.lst ((j1_ (rnd xs ks (ks.take i))).map V.int))/\Same H3 H')
   ⟨l,_,_,rfl,hl,el,fun _ _ e=>e⟩ (fun j σ H' _ ⟨_,_,_,_,_,_,s⟩=>SqL.of (s _ _ el)) ?_ ?_
  ·rintro i z σ H4 hz2 ⟨c,y3,y4,rfl,hc,e4,s4⟩
   have hi:i < ks.length:=by have:=(pq_.mp hz2).1;rwa [pb_,jw_] at this
   rw[vu_ (pa_ hi)] at hz2
   cases hz2
   have htk:ks.take (i+1)=ks.take i++[ks[i]]:=by rw[p3_,pa_ hi];rfl
   rw[htk,jgl_]
   have hsub:=(xr_ xs (ks.take i) ks).trans hks
   generalize ks[i]=n
   generalize rnd xs ks (ks.take i)=left at e4 hsub ⊢
   have hll:=xd_ hsub
   have s04:=s3.trans s4
   walk_at "go"
   intro r5 hr5
   have hr5H:=s04.free hr5
   refine j8_ (K:=K) (xs:=(j1_ left).map V.int) (fun j acc σ H'=>∃ x,σ=[some (.int (n:Int)),x]/\acc=(j1_ ((left.take j).filter fun k=>decide (k≠n))).map V.int/\H' r5=some (.lst acc)/\Same H4 H') (fun j acc σ H' _ ⟨_,_,_,_,s⟩=>SqL.of (s _ _ e4))
    ⟨none,rfl,rfl,jb_,jc_ hr5 _⟩ (fun j acc σ H' ⟨_,_,e,e2,_⟩=>⟨e2,by rw[e,pb_,jw_];refine qe_ (qn_ _ _) ?_;rw[p2_];omega⟩) (szn (by rw[pb_,jw_];omega)) ?_ ?_
   ·rintro j acc σ H5 hj ⟨x,rfl,rfl,e5,s5⟩
    rw[pb_,jw_] at hj
    rw[yl_ (pa_ hj)]
    have htk3:left.take (j+1)=left.take j++[left[j]]:=by rw[p3_,pa_ hj];rfl
    rw[htk3,qo_]
    generalize left[j]=kk
    walk_at "go"
    by_cases hkn:kk=n
    ·have h1:(!decide (V.int (kk:Int)=V.int (n:Int)))=false:=by rw[hkn];simp
     rw[h1]
     walk_at "go"
     refine⟨_,rfl,?_,e5,s5⟩
     rw[q0_ (by simpa using hkn),rq_,qq_]
    ·have h1:(!decide (V.int (kk:Int)=V.int (n:Int)))=true:=by simp;omega
     rw[h1]
     walk_at "go"
     refine⟨e5,_,rfl,?_,jb_,jv_ hr5 s5⟩
     rw[qw_ (by simpa using hkn),rq_]
     unfold j1_
     rw[pk_,pk_];rfl
   ·rintro acc σ H5 ⟨x,rfl,rfl,e5,s5⟩
    rw[pb_,jw_,py_,jiw_ (jph_ hsub)] at e5
    have hsub2:qj_ (left.erase n) (pu_ xs.length):=t6_.trans hsub
    have hll2:=xd_ hsub2
    have s05:=s04.trans s5
    have e45:=s5 _ _ e4
    have ha5:=s05 _ _ ha
    walk_at "go"
    intro r6 hr6
    refine j8_ (K:=K) (xs:=(j1_ left).map V.int) (fun j acc σ H'=>∃ x,σ=[some (.ref a),x]/\acc=(left.take j).map (fun k=>ya.getD k .non)/\H' r6=some (.lst acc)/\Same H5 H') (fun j acc σ H' _ ⟨_,_,_,_,s⟩=>SqL.of (s _ _ e45))
     ⟨none,rfl,rfl,jb_,jc_ hr6 _⟩ (fun j acc σ H' ⟨_,_,e,e2,_⟩=>⟨e2,by rw[e,pb_,p2_];omega⟩) (szn (by rw[pb_,jw_];omega)) ?_ ?_
    ·rintro j acc σ H6 hj ⟨x,rfl,rfl,e6,s6⟩
     rw[pb_,jw_] at hj
     rw[yl_ (pa_ hj)]
     have hlt3:=y5_ hsub _ (px_ hj)
     have htk3:left.take (j+1)=left.take j++[left[j]]:=by rw[p3_,pa_ hj];rfl
     rw[htk3]
     generalize left[j]=kk at hlt3 ⊢
     have hat:atI ya (kk:Int)=some (ya.getD kk .non):=zg_ (by omega) (by rw[show ((kk:Int)).toNat=kk by omega,pf_,pa_ (show kk < ya.length by omega)];rfl)
     walk_at "go"
     refine xa_ (jr_ (s6 _ _ ha5)) hat ?_
     refine⟨e6,_,rfl,?_,jb_,jv_ hr6 s6⟩
     rw[pk_];rfl
    ·rintro acc σ H6 ⟨x,rfl,rfl,e6,s6⟩
     rw[pb_,jw_,py_] at e6
     have s06:=s05.trans s6
     have e56:=s6 _ _ e5
     have ha6:=s06 _ _ ha
     walk_at "go"
     intro r7 hr7
     refine j8_ (K:=K) (xs:=(j1_ (left.erase n)).map V.int) (fun j acc σ H'=>∃ x,σ=[some (.ref a),x]/\acc=((left.erase n).take j).map (fun k=>ya.getD k .non)/\H' r7=some (.lst acc)/\Same H6 H') (fun j acc σ H' _ ⟨_,_,_,_,s⟩=>SqL.of (s _ _ e56))
      ⟨none,rfl,rfl,jb_,jc_ hr7 _⟩ (fun j acc σ H' ⟨_,_,e,e2,_⟩=>⟨e2,by rw[e,pb_,p2_];omega⟩) (szn (by rw[pb_,jw_];omega)) ?_ ?_
     ·rintro j acc σ H7 hj ⟨x,rfl,rfl,e7,s7⟩
      rw[pb_,jw_] at hj
      rw[yl_ (pa_ hj)]
      have hlt3:=y5_ hsub2 _ (px_ hj)
      have htk3:(left.erase n).take (j+1)=(left.erase n).take j++[(left.erase n)[j]]:=by rw[p3_,pa_ hj];rfl
      rw[htk3]
      generalize (left.erase n)[j]=kk at hlt3 ⊢
      have hat:atI ya (kk:Int)=some (ya.getD kk .non):=zg_ (by omega) (by rw[show ((kk:Int)).toNat=kk by omega,pf_,pa_ (show kk < ya.length by omega)];rfl)
      walk_at "go"
      refine xa_ (jr_ (s7 _ _ ha6)) hat ?_
      refine⟨e7,_,rfl,?_,jb_,jv_ hr7 s7⟩
      rw[pk_];rfl
     ·rintro acc σ H7 ⟨x,rfl,rfl,e7,s7⟩
      rw[pb_,jw_,py_] at e7
      have s07:=s06.trans s7
      have hya7:=IsL.same s07 hya
      walk_at "go"
      refine⟨r6,r7,sel xs left,sel xs (left.erase n),rfl,⟨_,_,s7 _ _ e6,e7,ub_ hya7 (y5_ hsub),ub_ hya7 (y5_ hsub2),u0_ sm hsub,u0_ sm hsub2,fun y hy=>lo y (jft_ (y5_ hsub) y hy),fun y hy=>lo y (jft_ (y5_ hsub2) y hy)⟩,fun H8 s8=>⟨fun hbad=>?_,fun hsm=>?_⟩⟩
      ·walk_at "go"
       have hns:¬ Sm (sel xs left) (sel xs (left.erase n)):=fun h=>by
        obtain⟨u,hu⟩:=hbad
        exact h u hu
       refine⟨c,_,_,rfl,hc,?_,s4.trans (s5.trans (s6.trans (s7.trans s8)))⟩
       unfold stp
       rw[if_neg hns]
       exact s8 _ _ (s7 _ _ (s6 _ _ e45))
      ·walk_at "go"
       refine⟨r5,_,_,rfl,hr5H,?_,s4.trans (s5.trans (s6.trans (s7.trans s8)))⟩
       unfold stp
       rw[if_pos (show Sm (sel xs left) (sel xs (left.erase n)) from hsm)]
       exact s8 _ _ (s7 _ _ e56)
  ·rintro σ H4 ⟨c,y3,y4,rfl,hc,e4,s4⟩
   rw[pb_,jw_,py_] at e4
   exact⟨_,hlt,c,.ref l,rd1 xs ks,k+1,_,_,rfl,hc,by rw[hk];rfl,hrs.trans hks,e4,.inr ⟨l,ks,rfl,s4 _ _ el,rfl,rfl⟩,s3.trans s4⟩
end
noncomputable abbrev s_law_alike:Stmt:=top 35
theorem sc_law_alike:FnScope ["_law_script","_law_letters_here","_law_patterns","_law_left_here","_law_some","_law_k","_law_told","_law_word","_law_found"] ["_law_script","_law_letters_here","_law_patterns","_law_left_here"] (jm_ s_law_alike):=by walk_at "f"
theorem jpn_ {c:Nat}(h:jkk_ c=true):c∈LETL:=by
 have h1:97<=c/\c<=122:=of_decide_eq_true h
 have h2:∀ x:Fin 123,jkk_ x.1=true->x.1∈LETL:=by decide
 exact h2 ⟨c,by omega⟩ h
def jek_ (K:pc_):Sp:=fun vs H Q _=>∃(a:Addr) (ns:List Int) (b:Addr) (l:List Nat) (pa:Addr) (ya:List V) (xs:List Pat) (lf:Addr) (ks:List Nat),vs=[.ref a,.ref b,.ref pa,.ref lf]/\SqL K H a (ns.map V.int)/\H b=some (.lst (lets l))/\Low l/\1<=l.length/\l.length<=26 /\
 H pa=some (.lst ya)/\L2.IsL H ya (xs.map patD)/\SmP xs/\H lf=some (.lst ((j1_ ks).map V.int))/\qj_ ks (pu_ xs.length)/\Alk xs (sel xs ks)/\∀ H',Same H H'->Q (.bl true) H'
section
variable {P:Program}{w:World}{K:pc_}{mg:Str->Option Value}{base:Heap}{f:Addr}{fd:FuncData}{tk:Nat->Tok}{cO:Addr}
theorem jfp_ (T:Txt mg tk)(F:Fun K "_law_alike" "_law_alike" s_law_alike f fd)(D_law_row:Dn P w K mg base "_law_row" 1 ["_law_script","_law_at","_law_bounds"] (jco_ K))(D_law_values:Dn P w K mg base "_law_values" 2 ["_law_patterns","_law_word"] jie_):FnOk P w K mg base CX0 3 f fd ["_law_script","_law_letters_here","_law_patterns","_law_left_here"] (jek_ K):=by
 refine F.ok sc_law_alike (fun vs H Q E h=>?_) (fun cdv A outer s H vs Q E hr h=>?_)
 ·obtain⟨a,ns,b,l,pa,ya,xs,lf,ks,rfl,_⟩:=h
  rfl
 obtain⟨a,ns,b,l,pa,ya,xs,lf,ks,rfl,hS,hb,hlw,hl1,hl2,ha,hya,sm,hlf,hks,halk,q⟩:=h
 have nd:=sc_law_alike.nd
 have hyl:=hya.length
 rw[pb_] at hyl
 have hz:=sm.2.2
 have hkl:=xd_ hks
 have hll:(lets l).length=l.length:=by rw[lets,pb_]
 refine⟨_,(jf_ (xn_ (i:=4) ["_law_patterns","_law_k"] [some 2,none] rfl (by kernel_rfl) rfl nd rfl rfl (j9_ (K:=K) (pv 3)) (fun _ _ _ _=>(jn_ (i:=1) (show (["_law_patterns","_law_k"]:List Str).Nodup by decide +kernel) rfl (Or.inl rfl) (Or.inr rfl))) (fun _ _ _ _=>zn_) (fun _ _ _ _=>(jj_ (jh_ (K:=K)) (pv 0) (pv 1) (fun _ _=>rfl))))
  (jf_ (zo_ p5_ rfl (z5_ rfl T.z_range (ja_ jd_ je_)) (jn_ (i:=5) nd rfl (Or.inl rfl))
   (jf_ (jl_ (i:=6) nd rfl (Or.inl rfl) (jq_ D_law_row hr.mo_ rfl (ja_ (pv 0) (ja_ (jk_ jx_ jd_ (pv 5)) (ja_ (jk_ jx_ (j0_ (ja_ jd_ je_)) (jk_ x0_ (j0_ (ja_ jd_ je_)) jd_)) je_)))))
  (jf_ (jl_ (i:=7) nd rfl (Or.inr rfl) (yg_ (K:=K) sh_ tf_ tg_ jfl_ zh_ (ja_ (zs_ ["_law_letters_here","_law_number"] [some 1,none] rfl (by kernel_rfl) rfl (j9_ (K:=K) (zj_ (z7_ (K:=K)) (pv 6) (zk_ jd_) (zk_ (jk_ jx_ jd_ (jj_ (jh_ (K:=K)) (pv 6) jd_ (fun _ _=>rfl)))))) (fun _ _ _ _=>(jn_ (i:=1) (show (["_law_letters_here","_law_number"]:List Str).Nodup by decide +kernel) rfl (Or.inl rfl) (Or.inr rfl))) (fun _ _ _ _=>zn_) (fun _ _ _ _=>(jj_ (jh_ (K:=K)) (pv 0) (jk_ yf_ (pv 1) (jo_ (zq_ (K:=K)) rfl T.z_len (by decide +kernel) (ja_ (pv 0) je_))) (fun _ _=>rfl)))) je_)))
  (jf_ (xn_ (i:=8) ["_law_word","_law_one"] [some 7,none] rfl (by kernel_rfl) rfl nd rfl rfl (j9_ (K:=K) (j0_ (ja_ (pv 2) (ja_ (pv 4) je_)))) (fun _ _ _ _=>(jn_ (i:=1) (show (["_law_word","_law_one"]:List Str).Nodup by decide +kernel) rfl (Or.inl rfl) (Or.inr rfl))) (fun _ _ _ _=>zn_) (fun _ _ _ _=>(zs_ ["_law_value"] [none] rfl (by kernel_rfl) rfl (j9_ (K:=K) (jq_ D_law_values hr.mo_ rfl (ja_ (pv 1) (ja_ (pv 0) je_)))) (fun _ _ _ _=>(jn_ (i:=0) (show (["_law_value"]:List Str).Nodup by decide +kernel) rfl (Or.inl rfl) (Or.inr rfl))) (fun _ _ _ _=>zn_) (fun _ _ _ _=>(jk_ yf_ (pv 0) jd_)))))
  (jg_ (zr_ (ju_ (o_ne hr.units) (jj_ (jh_ (K:=K)) (pv 8) jd_ (fun _ _=>rfl)) (jj_ (jh_ (K:=K)) (pv 8) jd_ (fun _ _=>rfl)) (j6_ _))
   (jg_ (jt_ xm_))
   j5_))))))
  (jg_ (jt_ xm_)))),?_⟩
 rw[show L2.j7_ ["_law_script","_law_letters_here","_law_patterns","_law_left_here","_law_some","_law_k","_law_told","_law_word","_law_found"] [.ref a,.ref b,.ref pa,.ref lf]=[some (.ref a),some (.ref b),some (.ref pa),some (.ref lf),none,none,none,none,none] from rfl]
 rw[xc_]
 walk_at "go"
 intro so hso
 refine j8_ (K:=K) (xs:=(j1_ ks).map V.int) (fun j acc σ H'=>∃ x,σ=[some (.ref pa),x]/\acc=(ks.take j).map (fun k=>ya.getD k .non)/\H' so=some (.lst acc)/\Same H H') (fun j acc σ H' _ ⟨_,_,_,_,s⟩=>SqL.of (s _ _ hlf))
  ⟨none,rfl,rfl,jb_,jc_ hso _⟩ (fun j acc σ H' ⟨_,_,e,e2,_⟩=>⟨e2,by rw[e,pb_,p2_];omega⟩) (szn (by rw[pb_,jw_];omega)) ?_ ?_
 ·rintro j acc σ H3 hj ⟨x,rfl,rfl,e3,s3⟩
  rw[pb_,jw_] at hj
  rw[yl_ (pa_ hj)]
  have hlt:=y5_ hks _ (px_ hj)
  have htk3:ks.take (j+1)=ks.take j++[ks[j]]:=by rw[p3_,pa_ hj];rfl
  rw[htk3]
  generalize ks[j]=k at hlt ⊢
  have hat:atI ya (k:Int)=some (ya.getD k .non):=zg_ (by omega) (by rw[show ((k:Int)).toNat=k by omega,pf_,pa_ (show k < ya.length by omega)];rfl)
  walk_at "go"
  refine xa_ (jr_ (s3 _ _ ha)) hat ?_
  refine⟨e3,_,rfl,?_,jb_,jv_ hso s3⟩
  rw[pk_];rfl
 rintro acc σ H1 ⟨x,rfl,rfl,eso,s1⟩
 rw[pb_,jw_,py_] at eso
 have hso1:=ub_ (IsL.same s1 hya) (y5_ hks)
 generalize (ks.map fun k=>ya.getD k .non)=yo at eso hso1
 have ok1:OkP xs:=sm.1
 have ok2:OkP (sel xs ks):=(u0_ sm hks).1
 have hcur:∀(u:List Nat),(∀ c∈u,c∈LETL)->(vals xs u).map (· % 2)=(vals (sel xs ks) u).map (· % 2):=halk
 generalize sel xs ks=zs at hso1 ok2 hcur
 walk_at "go"
 refine zu_ (fun i σ H'=>∃(x5 x6 x7 x8:Option V),σ=[some (.ref a),some (.ref b),some (.ref pa),some (.ref lf),some (.ref so),x5,x6,x7,x8]/\Same H1 H') ⟨none,none,none,none,rfl,fun _ _ e=>e⟩ ?_ ?_
 ·rintro i σ H9 hi ⟨x5,x6,x7,x8,rfl,s9⟩
  have hi:i < 6:=hi
  have s09:=s1.trans s9
  walk_at "go"
  intro q1 hq1
  walk_at "go"
  intro q2 hq2
  walk_at "go"
  refine jia_ jb_ (by decide) fun q3 hq3=>?_
  have e31:(upd (upd (upd H9 q1 (.lst [.int 4])) q2 (.lst [.int 5])) q3 (.lst (pr_ (5:Int).toNat (.int 5)))) q1=some (.lst [.int 4]):=(jc_ hq3 _) _ _ ((jc_ hq2 _) _ _ jb_)
  have s10:=((jc_ hq1 (.lst [.int 4])).trans (jc_ hq2 (.lst [.int 5]))).trans (jc_ hq3 (.lst (pr_ (5:Int).toNat (.int 5))))
  walk_at "go"
  refine yh_ e31 jb_ (szn (show 6<=1000000 by decide)) fun q4 hq4=>?_
  have s11:=s10.trans (jc_ hq4 (.lst ([.int 4]++pr_ (5:Int).toNat (.int 5))))
  have e11:=jb_ (H:=upd (upd (upd H9 q1 (.lst [.int 4])) q2 (.lst [.int 5])) q3 (.lst (pr_ (5:Int).toNat (.int 5)))) (a:=q4) (o:=.lst ([.int 4]++pr_ (5:Int).toNat (.int 5)))
  generalize upd (upd (upd (upd H9 q1 (.lst [.int 4])) q2 (.lst [.int 5])) q3 (.lst (pr_ (5:Int).toNat (.int 5)))) q4 (.lst ([.int 4]++pr_ (5:Int).toNat (.int 5)))=H11 at s11 e11 ⊢
  have e11:H11 q4=some (.lst ((4::pr_ 5 (5:Int)).map V.int)):=e11
  walk_at "go"
  refine⟨a,ns,40+i,q4,(4::pr_ 5 (5:Int)),by rw[show (40:Int)+(0+(i:Int))=((40+i:Nat):Int) by omega];rfl,(s09.trans s11).seq hS,by omega,e11,by decide,by decide,fun tr ds H12 htr etr hdl hds s12=>?_⟩
  have hdl:ds.length=6:=hdl
  have s912:=s11.trans s12
  obtain⟨hd0,hd1⟩:=hds 0 (ds[0]'(by omega)) 4 (pa_ _) rfl
  have hdn:∀ x∈ds,0<=x:=fun x hx=>by
   obtain⟨j,hj,rfl⟩:=rd_.mp hx
   have hj2:j < (4::pr_ 5 (5:Int)).length:=by rw[hdl] at hj;exact hj
   exact(hds j _ _ (pa_ hj) (pa_ hj2)).1
  have ad0:atI (ds.map V.int) 0=some (.int (ds[0]'(by omega))):=zg_ (by decide) (by rw[pl_];show Option.map V.int ds[0]?=_;rw[pa_ (by omega)];rfl)
  generalize (ds[0]'(by omega))=d0 at hd0 hd1 ad0
  have hb12:=(s09.trans s912) _ _ hb
  have s012:=s9.trans s912
  clear s12 e11 s11 s10 e31 hq4 hq3 hq2 hq1 hds htr s09 s912
  walk_at "go"
  refine vq_ (SqL.of etr) fun g hg0=>?_
  rw[xq_,y2_]
  have hcl2:=yk_ ds (some 1) (some (3+d0))
  have hsx1:sx ds.length 0 (some 1)=1:=by simp only[sx];rw[if_neg (by decide)];show min 1 ds.length=1;omega
  have hsx2:sx ds.length ds.length (some (3+d0))=3+d0.toNat:=by simp only[sx];rw[if_neg (by omega)];omega
  rw[hsx1,hsx2] at hcl2
  have hcm:∀ v∈cutA ds (some 1) (some (3+d0)),0<=v:=fun v hv=>hdn v (rc_ (ql_ hv))
  generalize cutA ds (some 1) (some (3+d0))=cs at hcl2 hcm ⊢
  have s13:=jc_ hg0 (.lst (cs.map V.int))
  have e13:=jb_ (H:=H12) (a:=g) (o:=.lst (cs.map V.int))
  generalize upd H12 g (.lst (cs.map V.int))=H13 at s13 e13 ⊢
  have e313:=s13 _ _ hb12
  walk_at "go"
  intro n hn0
  refine j8_ (K:=K) (xs:=cs.map V.int) (fun j acc σ H'=>∃(v:Option V) (us:List Nat),σ=[some (.ref b),v]/\acc=lets us/\us.length=j/\Low us/\H' n=some (.lst acc)/\Same H13 H')
   (fun j acc σ H' _ ⟨_,_,_,_,_,_,_,s3⟩=>SqL.of (s3 _ _ e13)) ⟨none,[],rfl,rfl,rfl,(fun u hu=>nomatch hu),jb_,jc_ hn0 _⟩ (fun j acc σ H' ⟨_,us,_,e,e1,_,e3,_⟩=>⟨e3,by rw[e,lets,pb_];omega⟩) (szn (by rw[pb_];omega)) ?_ ?_
  ·rintro j acc σ H14 hj ⟨v,us,rfl,rfl,hul,hus,e14,s14⟩
   have hj':j < cs.length:=by simpa using hj
   have hgd:(cs.map V.int).getD j .non=V.int cs[j]:=by
    rw[pf_,pl_,pa_ hj'];rfl
   rw[hgd]
   have hu0:=hcm _ (px_ hj')
   generalize cs[j]=dx at hu0 ⊢
   have e314:=s14 _ _ e313
   walk_at "go"
   rw[hll]
   have hc0:=qu_ dx (show (l.length:Int)≠0 by omega)
   have hc1:=qp_ dx (show (0:Int) < (l.length:Int) by omega)
   generalize dx % (l.length:Int)=c at hc0 hc1 ⊢
   have hcl3:c.toNat < l.length:=by omega
   refine xa_ (v:=.str (S [l[c.toNat]])) (jr_ e314) (zg_ hc0 (by rw[lets,pl_,pa_ hcl3];rfl)) ?_
   refine⟨e14,_,us++[l[c.toNat]],rfl,by rw[lets,lets,pk_];rfl,by rw[pg_,hul];rfl,vy_ hus (fun x hx=>?_),jb_,jv_ hn0 s14⟩
   have:x=l[c.toNat]:=by simpa using hx
   rw[this]
   exact hlw _ (px_ _)
  rintro acc σ H14 ⟨v,u,rfl,rfl,hul,hwl,e14,s14⟩
  rw[pb_] at hul
  walk_at "go"
  have hs:=jko_ u
  refine jje_ (ys:=u.map fun c=>S [c]) (by rw[<- jlb_];exact ym_ e14) ?_ ?_
  ·rw[hs,pb_,js_]
   simp only[qm_,lb_]
   omega
  rw[jbv_]
  have hu1:1<=u.length:=by omega
  have hu2:u.length<=250000:=by omega
  have hcu:=hcur u fun c hc=>jpn_ (hwl c hc)
  have s114:=s012.trans (s13.trans s14)
  clear hs e14 hul hn0 s13 s14 e13 e313 hcm hcl2 v hg0 etr
  walk_at "go"
  intro p2 hp2
  have s15:=jc_ hp2 (.lst [.ref pa,.ref so])
  have ep2:=jb_ (H:=H14) (a:=p2) (o:=.lst [.ref pa,.ref so])
  have s115:=s114.trans s15
  generalize upd H14 p2 (.lst [.ref pa,.ref so])=H15 at s15 ep2 s115 ⊢
  walk_at "go"
  intro rr hrr
  have hrr1:H1 rr=none:=s115.free hrr
  refine j8_ (K:=K) (xs:=[.ref pa,.ref so]) (fun k acc σ H'=>∃(ls:List Addr) (v:Option V),σ=[some (.str (S u)),v]/\acc=ls.map V.ref/\ls.length=k/\(∀ j l,ls[j]?=some l->l≠rr/\H' l=some (.lst (((vals (if j=0 then xs else zs) u).map (· % 2)).map V.int)))/\H' rr=some (.lst acc)/\Same H1 H'/\H' p2=some (.lst [.ref pa,.ref so]))
   (fun k acc σ H' _ ⟨_,_,_,_,_,_,_,_,e⟩=>SqL.of e) ⟨[],none,rfl,rfl,rfl,fun j l h=>(nomatch h),jb_,s115.trans (jc_ hrr _),(jc_ hrr _) _ _ ep2⟩ (fun k acc σ H' ⟨ls,_,_,e,e1,_,e2,_,_⟩=>⟨e2,by rw[e,pb_];omega⟩) (szn (show 2<=1000000 by decide)) ?_ ?_
  ·rintro k acc σ H4 hk ⟨ls,v,rfl,rfl,hls,hlsv,e4,s4,ep4⟩
   have hk2:k < 2:=hk
   have n2:p2≠rr:=fun z=>by rw[z] at ep2;rw[ep2] at hrr;cases hrr
   obtain⟨al,ys,hget,hal,hys,hok⟩:∃(al:Addr) (ys:List V),([V.ref pa,V.ref so]:List V).getD k .non=.ref al/\H1 al=some (.lst ys)/\L2.IsL H1 ys ((if k=0 then xs else zs).map patD)/\OkP (if k=0 then xs else zs):=by
    rcases (show k=0∨k=1 by omega) with rfl | rfl
    ·exact⟨pa,ya,rfl,s1 _ _ ha,IsL.same s1 hya,ok1⟩
    ·exact⟨so,yo,rfl,eso,hso1,ok2⟩
   rw[hget]
   generalize hxs:(if k=0 then xs else zs)=xs0 at hys hok
   walk_at "go"
   refine⟨.ref al,xs0,u,rfl,zp_ (s4 _ _ hal) (IsL.same s4 hys),hok,hu1,hu2,fun rv H5 hrv erv s5=>?_⟩
   have hvl:((vals xs0 u).map V.int).length<=250000:=by
    unfold L2.vals
    rw[pb_,pb_,sn_];omega
   walk_at "go"
   intro r6 hr6
   refine j8_ (K:=K) (xs:=(vals xs0 u).map V.int) (fun m acc' σ H'=>∃ x,σ=[x]/\acc'=(((vals xs0 u).take m).map (· % 2)).map V.int/\H' r6=some (.lst acc')/\Same H5 H') (fun m acc' σ H' _ ⟨_,_,_,_,s⟩=>SqL.of (s _ _ erv))
    ⟨none,rfl,rfl,jb_,jc_ hr6 _⟩ (fun m acc' σ H' ⟨_,_,e,e2,_⟩=>⟨e2,by rw[e];simp;omega⟩) (szn (by omega)) ?_ ?_
   ·rintro m acc' σ H6 hm ⟨x,rfl,rfl,e6,s6⟩
    have hm':m < (vals xs0 u).length:=by simpa using hm
    have hgd:((vals xs0 u).map V.int).getD m .non=V.int (vals xs0 u)[m]:=by
     rw[pf_,pl_,pa_ hm'];rfl
    rw[hgd]
    walk_at "go"
    refine⟨e6,_,rfl,?_,jb_,jv_ hr6 s6⟩
    rw[p3_,pa_ hm',pk_,pk_];rfl
   ·rintro acc' σ H6 ⟨x,rfl,rfl,e6,s6⟩
    have hl6:((vals xs0 u).map V.int).length=(vals xs0 u).length:=pb_ ..
    rw[hl6,py_] at e6
    have s46:=s5.trans s6
    have e46:=s46 _ _ e4
    have nr6:r6≠rr:=fun z=>by rw[z,s5 _ _ e4] at hr6;cases hr6
    refine⟨e46,ls++[r6],_,rfl,by rw[pk_];rfl,by rw[pg_,hls];rfl,fun j l hj=>?_,jb_,jv_ hrr1 (s4.trans s46),by rw[ji_ n2];exact s46 _ _ ep4⟩
    by_cases hjl:j < ls.length
    ·rw[r0_ hjl] at hj
     obtain⟨h1,h2⟩:=hlsv j l hj
     exact⟨h1,by rw[ji_ h1];exact s46 _ _ h2⟩
    ·rw[rs_ (by omega)] at hj
     have hj0:j - ls.length=0:=by
      have:=(pq_.mp hj).1
      simp at this
      omega
     rw[hj0] at hj
     cases hj
     have hjk:j=k:=by omega
     rw[hjk,hxs]
     exact⟨nr6,by rw[ji_ nr6];exact e6⟩
  ·rintro acc σ H4 ⟨ls,v,rfl,rfl,hls,hlsv,e4,s4,ep4⟩
   match ls,hls with
   | [l1,l2],_ =>
    have e1:=(hlsv 0 l1 rfl).2
    have e2:=(hlsv 1 l2 rfl).2
    rw[if_pos rfl] at e1
    rw[if_neg (by decide),<- hcu] at e2
    have e4:H4 rr=some (.lst [.ref l1,.ref l2]):=e4
    walk_at "go"
    refine jrz_ (d:=.lst (((vals xs u).map (· % 2)).map Dt.int)) (zp_ e1 (IsL.ints _ _)) (zp_ e2 (IsL.ints _ _)) (xk_ _) ?_
    walk_at "go"
    exact⟨_,_,_,_,rfl,s4⟩
 ·rintro σ H9 ⟨x5,x6,x7,x8,rfl,s9⟩
  walk_at "go"
  exact q H9 (s1.trans s9)
end
noncomputable abbrev s_law:Stmt:=top 36
theorem sc_law:FnScope ["_law_script","_law_letters_here","_law_patterns","_law_handed","_law_due","_law_turn","_law_found"] ["_law_script"] (jm_ s_law):=by walk_at "f"
def jln_ (K:pc_):Sp:=fun vs H Q _=>∃(a:Addr) (ns:List Int),vs=[.ref a]/\SqL K H a (ns.map V.int)/\ns.length<=63/\∀ H',Q (.bl true) H'
theorem jtq_ (xs:List Pat):sel xs (pu_ xs.length)=xs:=by
 unfold sel
 refine List.ext_getElem? fun i=>?_
 rw[pl_]
 by_cases h:i < xs.length
 ·rw[List.getElem?_range h]
  show some (xs.getD i ([],[]))=xs[i]?
  rw[pf_,pa_ h];rfl
 ·rw[te_ (by rw[sn_];omega),te_ (by omega)];rfl
theorem jlf_ {xs:List Pat}(sm:SmP xs):∀(ns left:List Nat),qj_ left (pu_ xs.length)->Alk (sel xs left) (sel xs (rnd xs left ns))
 | [],_,_=>fun _ _=>rfl
 | n::ns,left,h=>fun w hw=>by
  have h1:=jsm_ (xs:=xs) (left:=left) (n:=n) (u0_ sm h).1 (u0_ sm (t6_.trans h)).1 w hw
  exact h1.trans (jlf_ sm ns (stp xs left n) ((jlw_ xs left n).trans h) w hw)
theorem jkp_ {xs:List Pat}(sm:SmP xs):∀ k,qj_ (itr xs k (pu_ xs.length)) (pu_ xs.length)/\Alk xs (sel xs (itr xs k (pu_ xs.length)))
 | 0=>⟨r9_ _,fun w _=>by show _=(vals (sel xs (pu_ xs.length)) w).map _;rw[jtq_]⟩
 | k+1=>by
  obtain⟨h1,h2⟩:=jkp_ sm k
  show qj_ (rd1 xs (itr xs k (pu_ xs.length))) (pu_ xs.length)/\Alk xs (sel xs (rd1 xs (itr xs k (pu_ xs.length))))
  exact⟨(xr_ xs _ _).trans h1,fun w hw=>(h2 w hw).trans (jlf_ sm _ _ h1 w hw)⟩
theorem Left.alk {xs:List Pat}{ks:List Nat}(sm:SmP xs)(h:Left xs (pu_ xs.length) ks):Alk xs (sel xs ks):=by
 obtain⟨⟨k,rfl⟩,_⟩:=h
 exact(jkp_ sm k).2
theorem ifE {b:Bool}{i:Nat}{D:Ends}{σ:St}{H:Hp}(h:∀ σ' H',((b=true/\∃ q,H q=none/\σ'=σ.set i (some (.ref q))/\H'=upd H q (.lst []))∨(b=false/\σ'=σ/\H'=H))->D.nx σ' H'):if b=true then tAsg (tLst tNil) (jbe_ i) D σ H else jqv_ D σ H:=by
 cases b with
 | false=>exact h _ _ (.inr ⟨rfl,rfl,rfl⟩)
 | true =>
  rw[if_pos rfl]
  walk_at "go"
  intro q hq
  walk_at "go"
  exact h _ _ (.inl ⟨rfl,q,hq,rfl,rfl⟩)
section
variable {P:Program}{w:World}{K:pc_}{mg:Str->Option Value}{base:Heap}{f:Addr}{fd:FuncData}{tk:Nat->Tok}{cO:Addr}
theorem jxf_ (T:Txt mg tk)(F:Fun K "law" "law" s_law f fd)(D_law_row:Dn P w K mg base "_law_row" 1 ["_law_script","_law_at","_law_bounds"] (jco_ K))(D_law_letters:Dn P w K mg base "_law_letters" 1 ["_law_numbers"] jip_)(D_law_grown:Dn P w K mg base "_law_grown" 3 ["_law_script","_law_letters_here","_law_many"] (jea_ K))(D_law_left:Dn P w K mg base "_law_left" 5 ["_law_patterns"] jjt_)(D_pared:Dn P w K mg base "pared" 8 ["patterns"] jei_)(D_law_alike:Dn P w K mg base "_law_alike" 3 ["_law_script","_law_letters_here","_law_patterns","_law_left_here"] (jek_ K)):FnOk P w K mg base CX0 9 f fd ["_law_script"] (jln_ K):=by
 refine F.ok sc_law (fun vs H Q E h=>?_) (fun cdv A outer s H vs Q E hr h=>?_)
 ·obtain⟨a,ns,rfl,_⟩:=h
  rfl
 obtain⟨a,ns,rfl,hS,hlen,q⟩:=h
 have nd:=sc_law.nd
 refine⟨_,(jf_ (jl_ (i:=1) nd rfl (Or.inl rfl) (jq_ D_law_letters hr.mo_ rfl (ja_ (jq_ D_law_row hr.mo_ rfl (ja_ (pv 0) (ja_ jd_ (ja_ (j0_ (ja_ jd_ (ja_ jd_ (ja_ jd_ je_)))) je_)))) je_)))
  (jf_ (jl_ (i:=2) nd rfl (Or.inl rfl) (jq_ D_law_grown hr.mo_ rfl (ja_ (pv 0) (ja_ (zj_ (z7_ (K:=K)) (pv 1) z6_ (zk_ (jkm_ jku_ jd_))) (ja_ (jk_ jx_ jd_ (jj_ (jh_ (K:=K)) (jq_ D_law_row hr.mo_ rfl (ja_ (pv 0) (ja_ jd_ (ja_ (j0_ (ja_ jd_ je_)) je_)))) jd_ (fun _ _=>rfl))) je_)))))
  (jf_ (zr_ (ju_ (o_eq hr.units) (jj_ (jh_ (K:=K)) (jq_ D_law_row hr.mo_ rfl (ja_ (pv 0) (ja_ jd_ (ja_ (j0_ (ja_ jd_ je_)) je_)))) jd_ (fun _ _=>rfl)) jd_ (j6_ _))
   (jg_ (jl_ (i:=2) nd rfl (Or.inl rfl) (j0_ je_)))
   j5_)
  (jf_ (jl_ (i:=3) nd rfl (Or.inl rfl) (zz_ jig_ rfl T.z_list (by decide +kernel) (ja_ (pv 2) je_)))
  (jf_ (jl_ (i:=4) nd rfl (Or.inl rfl) (jq_ D_law_left hr.mo_ rfl (ja_ (pv 2) je_)))
  (jf_ (zo_ p5_ rfl (z5_ rfl T.z_range (ja_ jd_ je_)) (jn_ (i:=5) nd rfl (Or.inl rfl))
   (jf_ (jl_ (i:=6) nd rfl (Or.inl rfl) (jq_ D_pared hr.mo_ rfl (ja_ (pv 3) je_)))
  (jf_ (zr_ (PW.pt (jcw_ (jjf_ (vb_ (jo_ uc_ rfl T.z_isinstance (by decide +kernel) (ja_ (pv 6) (ja_ (jlh_ (v:=.ty "list") rfl T.z_list (by decide +kernel) rfl) je_))) (fun _=>rfl))) (jcw_ (ju_ (o_ne hr.units) (pv 6) (pv 4) (j6_ _)) (jau_ (vb_ (jo_ (jlm_ rfl) rfl T.z_any (by decide +kernel) (ja_ (zs_ ["_law_number"] [none] rfl (by kernel_rfl) rfl (j9_ (K:=K) (pv 6)) (fun _ _ _ _=>(jn_ (i:=0) (show (["_law_number"]:List Str).Nodup by decide +kernel) rfl (Or.inl rfl) (Or.inr rfl))) (fun _ _ _ _=>zn_) (fun _ _ _ _=>(jo_ uc_ rfl T.z_isinstance (by decide +kernel) (ja_ (pv 0) (ja_ (jlh_ (v:=.ty "bool") rfl T.z_bool (by decide +kernel) rfl) je_))))) je_)) (fun _=>rfl))))))
   (jg_ (jt_ xm_))
   j5_)
  (jf_ (zr_ (PW.pt (jcw_ (ju_ (o_ne hr.units) (pv 3) (pv 2) (j6_ _)) (jau_ (jjf_ (vb_ (jq_ D_law_alike hr.mo_ rfl (ja_ (pv 0) (ja_ (pv 1) (ja_ (pv 2) (ja_ (pv 6) je_))))) (fun _=>rfl))))))
   (jg_ (jt_ xm_))
   j5_)
  (jg_ (ys_ (jkt_ (K:=K) qf_ PySem.F.slot_list_clear PySem.F.type_list_clear jsd_ (pv 6))))))))
  (jg_ (jt_ xm_)))))))),?_⟩
 rw[show L2.j7_ ["_law_script","_law_letters_here","_law_patterns","_law_handed","_law_due","_law_turn","_law_found"] [.ref a]=[some (.ref a),none,none,none,none,none,none] from rfl]
 walk_at "go"
 intro p1 h1
 have s1:=jc_ h1 (.lst [.int 26,.int 6,.int 3])
 walk_at "go"
 refine⟨a,ns,0,p1,[26,6,3],rfl,s1.seq hS,by decide,jb_,by decide,by decide,fun r1 ds H2 hr1 e2 hdl hds s2=>?_⟩
 have s02:=s1.trans s2
 obtain⟨x,y,z,rfl⟩:∃ x y z,ds=[x,y,z]:=by
  match ds,hdl with
  | [x,y,z],_=>exact⟨x,y,z,rfl⟩
 obtain⟨hx0,hx1⟩:=hds 0 x 26 rfl rfl
 obtain⟨hy0,hy1⟩:=hds 1 y 6 rfl rfl
 obtain⟨hz0,hz1⟩:=hds 2 z 3 rfl rfl
 walk_at "go"
 refine⟨r1,x,y,z,rfl,e2,hx0,hx1,hy0,hy1,hz0,hz1,fun lt l H3 hr2 e3 hlw hl3 hl5 s3=>?_⟩
 have s03:=s02.trans s3
 have hll:(lets l).length=l.length:=by rw[lets,pb_]
 clear s3 e2 s2 s02 hds hr2 hr1 s1 h1
 walk_at "go"
 refine vq_ (SqL.of e3) fun l2 hl2=>?_
 rw[xq_,lets,y2_]
 have hcl:=yk_ l none (some (-1))
 have hsx:sx l.length l.length (some (-1))=l.length - 1:=by simp only[sx];rw[if_pos (by decide)];omega
 rw[hsx] at hcl
 have hcl:(cutA l none (some (-1))).length=l.length - 1:=hcl
 have hlo:=juf_ hlw none (some (-1))
 generalize cutA l none (some (-1))=l' at hcl hlo ⊢
 have s4:=jc_ hl2 (.lst (l'.map fun c=>V.str (S [c])))
 have e4:(upd H3 l2 (.lst (l'.map fun c=>V.str (S [c])))) l2=some (.lst (lets l')):=jb_
 have s04:=s03.trans s4
 have e34:=s4 _ _ e3
 generalize upd H3 l2 (.lst (l'.map fun c=>V.str (S [c])))=H4 at e4 s04 e34 ⊢
 walk_at "go"
 intro p2 hp2
 have s5:=jc_ hp2 (.lst [.int 5])
 have ep2:=jb_ (H:=H4) (a:=p2) (o:=.lst [.int 5])
 have e45:=s5 _ _ e4
 have e35:=s5 _ _ e34
 have s05:=s04.trans s5
 generalize upd H4 p2 (.lst [.int 5])=H5 at s5 ep2 e45 e35 s05 ⊢
 walk_at "go"
 refine⟨a,ns,1,p2,[5],rfl,s05.seq hS,by decide,ep2,by decide,by decide,fun r2 ds2 H6 hr2 e6 hdl2 hds2 s6=>?_⟩
 obtain⟨d,rfl⟩:∃ x,ds2=[x]:=by
  match ds2,hdl2 with
  | [x],_=>exact⟨x,rfl⟩
 obtain⟨hd0,hd1⟩:=hds2 0 d 5 rfl rfl
 have e6:H6 r2=some (.lst [.int d]):=e6
 have s06:=s05.trans s6
 have e36:=s6 _ _ e35
 walk_at "go"
 refine⟨a,ns,l2,l',d.toNat+1,by rw[show (1:Int)+d=((d.toNat+1:Nat):Int) by omega];rfl,s06.seq hS,s6 _ _ e45,hlo,by omega,by omega,by omega,by omega,fun pa xs H7 hpa hGL hxl s7=>?_⟩
 have s07:=s06.trans s7
 have e37:=s7 _ _ e36
 have hxl:xs.length<=10:=by omega
 clear hpa s7 e36 s06 e6 hds2 hr2 s6 s05 e35 e45 ep2 s5 hp2 s04 e34 e4 s4 hl2 s03 e3
 walk_at "go"
 intro p3 hp3
 have s8:=jc_ hp3 (.lst [.int 16])
 have ep3:=jb_ (H:=H7) (a:=p3) (o:=.lst [.int 16])
 have e38:=s8 _ _ e37
 have hGL8:=hGL.same s8
 have s08:=s07.trans s8
 generalize upd H7 p3 (.lst [.int 16])=H8 at s8 ep3 e38 hGL8 s08 ⊢
 walk_at "go"
 refine⟨a,ns,2,p3,[16],rfl,s08.seq hS,by decide,ep3,by decide,by decide,fun r3 ds3 H9 hr3 e9 hdl3 hds3 s9=>?_⟩
 obtain⟨d3,rfl⟩:∃ x,ds3=[x]:=by
  match ds3,hdl3 with
  | [x],_=>exact⟨x,rfl⟩
 have e9:H9 r3=some (.lst [.int d3]):=e9
 have e39:=s9 _ _ e38
 have hGL9:=hGL8.same s9
 have s09:=s08.trans s9
 clear hds3 hr3 hGL8 e38 ep3 hp3 s8 s08 s9 hGL e37 s07
 walk_at "go"
 refine ifE fun σ' H' hc=>?_
 obtain⟨pb,zs,rfl,hGL,hzl,elt,s1⟩:∃(pb:Addr) (zs:List Pat),σ'=[some (.ref a),some (.ref lt),some (.ref pb),none,none,none,none]/\GL H' pb zs/\zs.length<=10/\H' lt=some (.lst (lets l))/\Same H H':=by
  rcases hc with ⟨_,p,hp,rfl,rfl⟩ | ⟨_,rfl,rfl⟩
  ·have sp:=jc_ hp (.lst [])
   exact⟨p,[],rfl,⟨[],jb_,by simp only[p7_,L2.IsL],fun x hx=>nomatch hx⟩,qz_ _,sp _ _ e39,s09.trans sp⟩
  ·exact⟨pa,xs,rfl,hGL9,hxl,e39,s09⟩
 clear hc hGL9 e39 s09 e9 hxl
 obtain⟨ys,epa,hys,hgs⟩:=id hGL
 obtain⟨_,_,_,_,_,_,sm,_,lo,_⟩:=hGL.two hGL (by omega) (by omega)
 walk_at "go"
 refine jex_ (jr_ epa) fun ph hph=>?_
 have s2:=jc_ hph (.lst ys)
 have eph:=jb_ (H:=H') (a:=ph) (o:=.lst ys)
 have epa2:=s2 _ _ epa
 have hys2:=IsL.same s2 hys
 have elt2:=s2 _ _ elt
 have s02:=s1.trans s2
 generalize upd H' ph (.lst ys)=H2 at s2 eph epa2 hys2 elt2 s02 ⊢
 walk_at "go"
 refine⟨pb,ys,zs,rfl,epa2,hys2,sm,lo,fun du ks H3 hdu hleft hks edu s3=>?_⟩
 have eph3:=s3 _ _ eph
 have epa3:=s3 _ _ epa2
 have hys3:=IsL.same s3 hys2
 have elt3:=s3 _ _ elt2
 have s03:=s02.trans s3
 have hkl:=xd_ hks
 walk_at "go"
 refine zu_ (fun i σ H'=>∃(x5 x6:Option V),σ=[some (.ref a),some (.ref lt),some (.ref pb),some (.ref ph),some (.ref du),x5,x6]/\Same H3 H') ⟨none,none,rfl,fun _ _ e=>e⟩ ?_ ?_
 ·rintro i σ H4 hi ⟨x5,x6,rfl,s4⟩
  have eph4:=s4 _ _ eph3
  have epa4:=s4 _ _ epa3
  have hys4:=IsL.same s4 hys3
  have elt4:=s4 _ _ elt3
  have edu4:=s4 _ _ edu
  walk_at "go"
  refine⟨ph,ys,zs,rfl,eph4,hys4,sm,fun fo ks2 H5 hfo hleft2 hks2 efo s5=>?_⟩
  cases hleft2.one hleft
  have eph5:=s5 _ _ eph4
  have epa5:=s5 _ _ epa4
  have hys5:=IsL.same s5 hys4
  have edu5:=s5 _ _ edu4
  walk_at "go"
  refine jrz_ (d:=.lst ((j1_ ks).map Dt.int)) (zp_ efo (IsL.ints _ _)) (zp_ edu5 (IsL.ints _ _)) (xk_ _) ?_
  walk_at "go"
  intro r6 hr6
  refine j8_ (K:=K) (xs:=(j1_ ks).map V.int) (fun j acc σ H'=>∃ x,σ=[x]/\acc=(pr_ j false).map V.bl/\H' r6=some (.lst acc)/\Same H5 H') (fun j acc σ H' _ ⟨_,_,_,_,s⟩=>SqL.of (s _ _ efo))
   ⟨none,rfl,rfl,jb_,jc_ hr6 _⟩ (fun j acc σ H' ⟨_,_,e,e2,_⟩=>⟨e2,by rw[e];simp⟩) (szn (by rw[pb_,jw_];omega)) ?_ ?_
  ·rintro j acc σ H6 hj ⟨x,rfl,rfl,e6,s6⟩
   rw[pb_,jw_] at hj
   rw[yl_ (pa_ hj)]
   walk_at "go"
   refine⟨e6,_,rfl,?_,jb_,jv_ hr6 s6⟩
   rw[List.replicate_succ',pk_];rfl
  ·rintro acc σ H6 ⟨x,rfl,rfl,e6,s6⟩
   have eph6:=s6 _ _ eph5
   have epa6:=s6 _ _ epa5
   have hys6:=IsL.same s6 hys5
   have efo6:=s6 _ _ efo
   have s46:=s5.trans s6
   walk_at "go"
   refine jeu_ (ym_ e6) ?_
   have hany:((pr_ ((j1_ ks).map V.int).length false).any id)=false:=by rw[sl_];intro x hx;rw[(List.mem_replicate.mp hx).2];simp
   simp only[hany]
   walk_at "go"
   refine jrz_ (d:=x3_ zs) (zp_ eph6 hys6) (zp_ epa6 hys6) ((Lay.pats lo).ok (by decide)) ?_
   walk_at "go"
   refine⟨a,ns,lt,l,pb,ys,zs,fo,ks,rfl,(s03.trans (s4.trans s46)).seq hS,s46 _ _ elt4,hlw,by omega,by omega,epa6,hys6,sm,efo6,hks,hleft.alk sm,fun H7 s7=>?_⟩
   have efo7:=s7 _ _ efo6
   walk_at "go"
   refine jwq_ efo7 ?_
   walk_at "go"
   exact⟨_,_,rfl,jv_ (s4.free hfo) (s4.trans (s46.trans s7))⟩
 ·rintro σ H4 ⟨x5,x6,rfl,s4⟩
  walk_at "go"
  exact q H4
end
def FuE (K:pc_)(x qual:Str)(st:Stmt)(f:Addr):Prop:=∃ fd,Fun K x qual st f fd
theorem bn1 {α:Type}{P:List α->Prop}(h:∀ a,P [a]):∀ us:List α,us.length=1->P us
 | [a],_=>h a
theorem bn2 {α:Type}{P:List α->Prop}(h:∀ a b,P [a,b]):∀ us:List α,us.length=2->P us
 | [a,b],_=>h a b
theorem bn3 {α:Type}{P:List α->Prop}(h:∀ a b c,P [a,b,c]):∀ us:List α,us.length=3->P us
 | [a,b,c],_=>h a b c
theorem bn4 {α:Type}{P:List α->Prop}(h:∀ a b c d,P [a,b,c,d]):∀ us:List α,us.length=4->P us
 | [a,b,c,d],_=>h a b c d
theorem bn5 {α:Type}{P:List α->Prop}(h:∀ a b c d e,P [a,b,c,d,e]):∀ us:List α,us.length=5->P us
 | [a,b,c,d,e],_=>h a b c d e
theorem all_mk {l:w8_}{w:World}{K:pc_}{h:Heap}{mg:Str->Option Value}{fa f0 f1 f2 f3 f4 f5 f6 f7 f8 f9 f10 f11 f12 f13 f14 f15 f16 f17 f18 f19 f20 f21 f22 f23 f24 f25 f26 f27 f28 f29 f30 f31 f32 f33 f34 f35:Addr}(X:K.In h)(G:h.Ns mainGlobals mg)(hfa:mg "law"=some (.ref fa))
  {cO:Addr} (aO:pw_ K mainGlobals "Sight"=some (some (.ref cO))) (pO:sr_ K cO Str.empty=true) (dO:s4_ K cO=true) (vO:we_ K cO=true) (sO:qi_ K (.ref cO) "__setattr__"=some (some (.builtin "object.__setattr__"))) (mO:w4_ K cO=true) (kO:rz_ K (.ref cO)=true)
  (n_known:qi_ K (.ref cO) "known"=some none)
  (n_one_numbers:qi_ K (.ref cO) "one_numbers"=some none)
  (n_other_numbers:qi_ K (.ref cO) "other_numbers"=some none)
  (a0:pw_ K mainGlobals "beginnings"=some (some (.ref f0))) (F0:FuE K "beginnings" "beginnings" s_beginnings f0)
  (a1:pw_ K mainGlobals "greatest_numbers"=some (some (.ref f1))) (F1:FuE K "greatest_numbers" "greatest_numbers" s_greatest_numbers f1)
  (a2:pw_ K mainGlobals "told_at_end"=some (some (.ref f2))) (F2:FuE K "told_at_end" "told_at_end" s_told_at_end f2)
  (iOX3:qi_ K (.ref cO) "__init__"=some (some (.ref f3))) (fOX3:sa_ K (.ref f3)=true) (F3:FuE K "__init__" "Sight.__init__" s_Sight_init f3)
  (iOX4:qi_ K (.ref cO) "tail_of"=some (some (.ref f4))) (fOX4:sa_ K (.ref f4)=true) (F4:FuE K "tail_of" "Sight.tail_of" s_Sight_tail_of f4)
  (iOX5:qi_ K (.ref cO) "pair_at_end"=some (some (.ref f5))) (fOX5:sa_ K (.ref f5)=true) (F5:FuE K "pair_at_end" "Sight.pair_at_end" s_Sight_pair_at_end f5)
  (iOX6:qi_ K (.ref cO) "first"=some (some (.ref f6))) (fOX6:sa_ K (.ref f6)=true) (F6:FuE K "first" "Sight.first" s_Sight_first f6)
  (iOX7:qi_ K (.ref cO) "by_letter"=some (some (.ref f7))) (fOX7:sa_ K (.ref f7)=true) (F7:FuE K "by_letter" "Sight.by_letter" s_Sight_by_letter f7)
  (iOX8:qi_ K (.ref cO) "by_end"=some (some (.ref f8))) (fOX8:sa_ K (.ref f8)=true) (F8:FuE K "by_end" "Sight.by_end" s_Sight_by_end f8)
  (a9:pw_ K mainGlobals "letters_to_read"=some (some (.ref f9))) (F9:FuE K "letters_to_read" "letters_to_read" s_letters_to_read f9)
  (a10:pw_ K mainGlobals "steps_from"=some (some (.ref f10))) (F10:FuE K "steps_from" "steps_from" s_steps_from f10)
  (a11:pw_ K mainGlobals "breaks_otherwise"=some (some (.ref f11))) (F11:FuE K "breaks_otherwise" "breaks_otherwise" s_breaks_otherwise f11)
  (a12:pw_ K mainGlobals "apart"=some (some (.ref f12))) (F12:FuE K "apart" "apart" s_apart f12)
  (a13:pw_ K mainGlobals "_law_row"=some (some (.ref f13))) (F13:FuE K "_law_row" "_law_row" s_law_row f13)
  (a14:pw_ K mainGlobals "_law_letters"=some (some (.ref f14))) (F14:FuE K "_law_letters" "_law_letters" s_law_letters f14)
  (a15:pw_ K mainGlobals "_law_pattern"=some (some (.ref f15))) (F15:FuE K "_law_pattern" "_law_pattern" s_law_pattern f15)
  (a16:pw_ K mainGlobals "_law_greatest"=some (some (.ref f16))) (F16:FuE K "_law_greatest" "_law_greatest" s_law_greatest f16)
  (a17:pw_ K mainGlobals "_law_values"=some (some (.ref f17))) (F17:FuE K "_law_values" "_law_values" s_law_values f17)
  (a18:pw_ K mainGlobals "_law_begins"=some (some (.ref f18))) (F18:FuE K "_law_begins" "_law_begins" s_law_begins f18)
  (a19:pw_ K mainGlobals "_law_seen"=some (some (.ref f19))) (F19:FuE K "_law_seen" "_law_seen" s_law_seen f19)
  (a20:pw_ K mainGlobals "_law_step"=some (some (.ref f20))) (F20:FuE K "_law_step" "_law_step" s_law_step f20)
  (a21:pw_ K mainGlobals "_law_last"=some (some (.ref f21))) (F21:FuE K "_law_last" "_law_last" s_law_last f21)
  (a22:pw_ K mainGlobals "_law_first"=some (some (.ref f22))) (F22:FuE K "_law_first" "_law_first" s_law_first f22)
  (a23:pw_ K mainGlobals "_law_signs"=some (some (.ref f23))) (F23:FuE K "_law_signs" "_law_signs" s_law_signs f23)
  (a24:pw_ K mainGlobals "_law_all"=some (some (.ref f24))) (F24:FuE K "_law_all" "_law_all" s_law_all f24)
  (a25:pw_ K mainGlobals "_law_lower"=some (some (.ref f25))) (F25:FuE K "_law_lower" "_law_lower" s_law_lower f25)
  (a26:pw_ K mainGlobals "_law_longer"=some (some (.ref f26))) (F26:FuE K "_law_longer" "_law_longer" s_law_longer f26)
  (a27:pw_ K mainGlobals "_law_bent"=some (some (.ref f27))) (F27:FuE K "_law_bent" "_law_bent" s_law_bent f27)
  (a28:pw_ K mainGlobals "needless"=some (some (.ref f28))) (F28:FuE K "needless" "needless" s_needless f28)
  (a29:pw_ K mainGlobals "_law_grown"=some (some (.ref f29))) (F29:FuE K "_law_grown" "_law_grown" s_law_grown f29)
  (a30:pw_ K mainGlobals "left_of_round"=some (some (.ref f30))) (F30:FuE K "left_of_round" "left_of_round" s_left_of_round f30)
  (a31:pw_ K mainGlobals "pared"=some (some (.ref f31))) (F31:FuE K "pared" "pared" s_pared f31)
  (a32:pw_ K mainGlobals "_law_apart"=some (some (.ref f32))) (F32:FuE K "_law_apart" "_law_apart" s_law_apart f32)
  (a33:pw_ K mainGlobals "_law_left"=some (some (.ref f33))) (F33:FuE K "_law_left" "_law_left" s_law_left f33)
  (a34:pw_ K mainGlobals "_law_alike"=some (some (.ref f34))) (F34:FuE K "_law_alike" "_law_alike" s_law_alike f34)
  {od35 an35:Option Addr}{sl35:Array (Option Value)}{oc35 kV35 dc35 pm35 cd35 ct35:Value}
  (a35:pw_ K mainGlobals "law"=some (some (.ref f35))) (l35:K.lookup f35=some ⟨oc35,od35,.func (sj_ "law" "law" (ve_ s_law) (xp_ s_law) (jm_ s_law) .none kV35 dc35 pm35 an35 cd35 ct35),sl35⟩) (c_35:t8_ K cd35 "law"=true) (k35:rz_ K (.ref f35)=true)
  {tkLETTERS:Tok} (gLETTERS:pw_ K mainGlobals "LETTERS"=some (some (.str "abcdefghijklmnopqrstuvwxyz" tkLETTERS)))
  (z_len:pw_ K mainGlobals "len"=some none)
  (z_abs:pw_ K mainGlobals "abs"=some none)
  (z_all:pw_ K mainGlobals "all"=some none)
  (z_any:pw_ K mainGlobals "any"=some none)
  (z_range:pw_ K mainGlobals "range"=some none)
  (z_enumerate:pw_ K mainGlobals "enumerate"=some none)
  (z_isinstance:pw_ K mainGlobals "isinstance"=some none)
  (z_tuple:pw_ K mainGlobals "tuple"=some none)
  (z_list:pw_ K mainGlobals "list"=some none)
  (z_bool:pw_ K mainGlobals "bool"=some none)
  (z_str:pw_ K mainGlobals "str"=some none)
  (z_int:pw_ K mainGlobals "int"=some none)
  (z_min:pw_ K mainGlobals "min"=some none)
  (z_max:pw_ K mainGlobals "max"=some none)
  (z_zip:pw_ K mainGlobals "zip"=some none)
  (z_sorted:pw_ K mainGlobals "sorted"=some none)
  : ∃ fd:FuncData,(∀(s:Shared) (v:Value),BindsTo s fd ⟨[v],[]⟩ [("_law_script",v)])/\∀ base:Heap,K.In base->base.Ns mainGlobals mg->FnOk l.prog w K mg base CX0 9 fa fd ["_law_script"] (jln_ K):=by
 have e:=hfa.symm.trans (p4_ X G a35)
 cases e
 have T:Txt mg (fun i=>([tkLETTERS]:List Tok).getD i 0):=⟨qg_ X G z_len,qg_ X G z_abs,qg_ X G z_all,qg_ X G z_any,qg_ X G z_range,qg_ X G z_enumerate,qg_ X G z_isinstance,qg_ X G z_tuple,qg_ X G z_list,qg_ X G z_bool,qg_ X G z_str,qg_ X G z_int,qg_ X G z_min,qg_ X G z_max,qg_ X G z_zip,qg_ X G z_sorted,p4_ X G gLETTERS⟩
 have O:Ow K mg cO:=⟨p4_ X G aO,⟨pO,dO,vO,sO⟩,n_known,n_one_numbers,n_other_numbers⟩
 obtain⟨fd0,F_beginnings⟩:=F0
 have b_beginnings:=F_beginnings.binds (ps:=["patterns"]) fun _ _ _ _ _ _=>bn1 fun _=>rfl
 have m_beginnings:=p4_ X G a0
 obtain⟨fd1,F_greatest_numbers⟩:=F1
 have b_greatest_numbers:=F_greatest_numbers.binds (ps:=["patterns"]) fun _ _ _ _ _ _=>bn1 fun _=>rfl
 have m_greatest_numbers:=p4_ X G a1
 obtain⟨fd2,F_told_at_end⟩:=F2
 have b_told_at_end:=F_told_at_end.binds (ps:=["numbers_by_signs","text","back"]) fun _ _ _ _ _ _=>bn3 fun _ _ _=>rfl
 have m_told_at_end:=p4_ X G a2
 obtain⟨fd3,F_Sight_init⟩:=F3
 have b_Sight_init:=F_Sight_init.binds (ps:=["self","one","other"]) fun _ _ _ _ _ _=>bn3 fun _ _ _=>rfl
 obtain⟨fd4,F_Sight_tail_of⟩:=F4
 have b_Sight_tail_of:=F_Sight_tail_of.binds (ps:=["self","text"]) fun _ _ _ _ _ _=>bn2 fun _ _=>rfl
 obtain⟨fd5,F_Sight_pair_at_end⟩:=F5
 have b_Sight_pair_at_end:=F_Sight_pair_at_end.binds (ps:=["self","text","back","ones","others"]) fun _ _ _ _ _ _=>bn5 fun _ _ _ _ _=>rfl
 obtain⟨fd6,F_Sight_first⟩:=F6
 have b_Sight_first:=F_Sight_first.binds (ps:=["self"]) fun _ _ _ _ _ _=>bn1 fun _=>rfl
 obtain⟨fd7,F_Sight_by_letter⟩:=F7
 have b_Sight_by_letter:=F_Sight_by_letter.binds (ps:=["self","view","letter"]) fun _ _ _ _ _ _=>bn3 fun _ _ _=>rfl
 obtain⟨fd8,F_Sight_by_end⟩:=F8
 have b_Sight_by_end:=F_Sight_by_end.binds (ps:=["self","view"]) fun _ _ _ _ _ _=>bn2 fun _ _=>rfl
 obtain⟨fd9,F_letters_to_read⟩:=F9
 have b_letters_to_read:=F_letters_to_read.binds (ps:=["patterns"]) fun _ _ _ _ _ _=>bn1 fun _=>rfl
 have m_letters_to_read:=p4_ X G a9
 obtain⟨fd10,F_steps_from⟩:=F10
 have b_steps_from:=F_steps_from.binds (ps:=["sight","letters","view","word"]) fun _ _ _ _ _ _=>bn4 fun _ _ _ _=>rfl
 have m_steps_from:=p4_ X G a10
 obtain⟨fd11,F_breaks_otherwise⟩:=F11
 have b_breaks_otherwise:=F_breaks_otherwise.binds (ps:=["pairs"]) fun _ _ _ _ _ _=>bn1 fun _=>rfl
 have m_breaks_otherwise:=p4_ X G a11
 obtain⟨fd12,F_apart⟩:=F12
 have b_apart:=F_apart.binds (ps:=["one","other"]) fun _ _ _ _ _ _=>bn2 fun _ _=>rfl
 have m_apart:=p4_ X G a12
 obtain⟨fd13,F_law_row⟩:=F13
 have b_law_row:=F_law_row.binds (ps:=["_law_script","_law_at","_law_bounds"]) fun _ _ _ _ _ _=>bn3 fun _ _ _=>rfl
 have m_law_row:=p4_ X G a13
 obtain⟨fd14,F_law_letters⟩:=F14
 have b_law_letters:=F_law_letters.binds (ps:=["_law_numbers"]) fun _ _ _ _ _ _=>bn1 fun _=>rfl
 have m_law_letters:=p4_ X G a14
 obtain⟨fd15,F_law_pattern⟩:=F15
 have b_law_pattern:=F_law_pattern.binds (ps:=["_law_script","_law_at","_law_letters_here"]) fun _ _ _ _ _ _=>bn3 fun _ _ _=>rfl
 have m_law_pattern:=p4_ X G a15
 obtain⟨fd16,F_law_greatest⟩:=F16
 have b_law_greatest:=F_law_greatest.binds (ps:=["_law_patterns","_law_read","_law_place"]) fun _ _ _ _ _ _=>bn3 fun _ _ _=>rfl
 have m_law_greatest:=p4_ X G a16
 obtain⟨fd17,F_law_values⟩:=F17
 have b_law_values:=F_law_values.binds (ps:=["_law_patterns","_law_word"]) fun _ _ _ _ _ _=>bn2 fun _ _=>rfl
 have m_law_values:=p4_ X G a17
 obtain⟨fd18,F_law_begins⟩:=F18
 have b_law_begins:=F_law_begins.binds (ps:=["_law_patterns"]) fun _ _ _ _ _ _=>bn1 fun _=>rfl
 have m_law_begins:=p4_ X G a18
 obtain⟨fd19,F_law_seen⟩:=F19
 have b_law_seen:=F_law_seen.binds (ps:=["_law_lists","_law_text","_law_behind","_law_ones","_law_others"]) fun _ _ _ _ _ _=>bn5 fun _ _ _ _ _=>rfl
 have m_law_seen:=p4_ X G a19
 obtain⟨fd20,F_law_step⟩:=F20
 have b_law_step:=F_law_step.binds (ps:=["_law_lists","_law_view","_law_letter"]) fun _ _ _ _ _ _=>bn3 fun _ _ _=>rfl
 have m_law_step:=p4_ X G a20
 obtain⟨fd21,F_law_last⟩:=F21
 have b_law_last:=F_law_last.binds (ps:=["_law_lists","_law_view"]) fun _ _ _ _ _ _=>bn2 fun _ _=>rfl
 have m_law_last:=p4_ X G a21
 obtain⟨fd22,F_law_first⟩:=F22
 have b_law_first:=F_law_first.binds (ps:=["_law_lists"]) fun _ _ _ _ _ _=>bn1 fun _=>rfl
 have m_law_first:=p4_ X G a22
 obtain⟨fd23,F_law_signs⟩:=F23
 have b_law_signs:=F_law_signs.binds (ps:=["_law_patterns"]) fun _ _ _ _ _ _=>bn1 fun _=>rfl
 have m_law_signs:=p4_ X G a23
 obtain⟨fd24,F_law_all⟩:=F24
 have b_law_all:=F_law_all.binds (ps:=["_law_lists","_law_letters_here","_law_view"]) fun _ _ _ _ _ _=>bn3 fun _ _ _=>rfl
 have m_law_all:=p4_ X G a24
 obtain⟨fd25,F_law_lower⟩:=F25
 have b_law_lower:=F_law_lower.binds (ps:=["_law_pattern_here","_law_told"]) fun _ _ _ _ _ _=>bn2 fun _ _=>rfl
 have m_law_lower:=p4_ X G a25
 obtain⟨fd26,F_law_longer⟩:=F26
 have b_law_longer:=F_law_longer.binds (ps:=["_law_pattern_here","_law_letter"]) fun _ _ _ _ _ _=>bn2 fun _ _=>rfl
 have m_law_longer:=p4_ X G a26
 obtain⟨fd27,F_law_bent⟩:=F27
 have b_law_bent:=F_law_bent.binds (ps:=["_law_pattern_here","_law_told"]) fun _ _ _ _ _ _=>bn2 fun _ _=>rfl
 have m_law_bent:=p4_ X G a27
 obtain⟨fd28,F_needless⟩:=F28
 have b_needless:=F_needless.binds (ps:=["patterns","number"]) fun _ _ _ _ _ _=>bn2 fun _ _=>rfl
 have m_needless:=p4_ X G a28
 obtain⟨fd29,F_law_grown⟩:=F29
 have b_law_grown:=F_law_grown.binds (ps:=["_law_script","_law_letters_here","_law_many"]) fun _ _ _ _ _ _=>bn3 fun _ _ _=>rfl
 have m_law_grown:=p4_ X G a29
 obtain⟨fd30,F_left_of_round⟩:=F30
 have b_left_of_round:=F_left_of_round.binds (ps:=["patterns","numbers"]) fun _ _ _ _ _ _=>bn2 fun _ _=>rfl
 have m_left_of_round:=p4_ X G a30
 obtain⟨fd31,F_pared⟩:=F31
 have b_pared:=F_pared.binds (ps:=["patterns"]) fun _ _ _ _ _ _=>bn1 fun _=>rfl
 have m_pared:=p4_ X G a31
 obtain⟨fd32,F_law_apart⟩:=F32
 have b_law_apart:=F_law_apart.binds (ps:=["_law_one","_law_other"]) fun _ _ _ _ _ _=>bn2 fun _ _=>rfl
 have m_law_apart:=p4_ X G a32
 obtain⟨fd33,F_law_left⟩:=F33
 have b_law_left:=F_law_left.binds (ps:=["_law_patterns"]) fun _ _ _ _ _ _=>bn1 fun _=>rfl
 have m_law_left:=p4_ X G a33
 obtain⟨fd34,F_law_alike⟩:=F34
 have b_law_alike:=F_law_alike.binds (ps:=["_law_script","_law_letters_here","_law_patterns","_law_left_here"]) fun _ _ _ _ _ _=>bn4 fun _ _ _ _=>rfl
 have m_law_alike:=p4_ X G a34
 have F_law:=jps_ (st:=s_law) l35 c_35 k35
 have b_law:=F_law.binds (ps:=["_law_script"]) fun _ _ _ _ _ _=>bn1 fun _=>rfl
 have m_law:=p4_ X G a35
 refine⟨sj_ "law" "law" (ve_ s_law) (xp_ s_law) (jm_ s_law) .none kV35 dc35 pm35 an35 cd35 ct35,fun s v=>.of_eq rfl,fun base _ _=>?_⟩
 have D_beginnings:Dn l.prog w K mg base "beginnings" 1 ["patterns"] uz_:=⟨_,_,m_beginnings,F_beginnings.kp,b_beginnings,jcj_ T F_beginnings⟩
 have D_greatest_numbers:Dn l.prog w K mg base "greatest_numbers" 1 ["patterns"] jqp_:=⟨_,_,m_greatest_numbers,F_greatest_numbers.kp,b_greatest_numbers,vp_ T F_greatest_numbers⟩
 have D_told_at_end:Dn l.prog w K mg base "told_at_end" 1 ["numbers_by_signs","text","back"] jnv_:=⟨_,_,m_told_at_end,F_told_at_end.kp,b_told_at_end,jby_ T F_told_at_end⟩
 have D_Sight_init:Dk l.prog w K mg base cO 2 ["self","one","other"] (jbq_ cO):=⟨_,_,⟨mO,iOX3,fOX3,kO⟩,b_Sight_init,jck_ T O F_Sight_init D_beginnings D_greatest_numbers⟩
 have D_Sight_tail_of:Dm l.prog w K mg base cO "tail_of" 1 ["self","text"] (jep_ cO):=⟨_,_,⟨iOX4,fOX4,F_Sight_tail_of.kp⟩,b_Sight_tail_of,u8_ T O F_Sight_tail_of⟩
 have D_Sight_pair_at_end:Dm l.prog w K mg base cO "pair_at_end" 2 ["self","text","back","ones","others"] (jer_ cO):=⟨_,_,⟨iOX5,fOX5,F_Sight_pair_at_end.kp⟩,b_Sight_pair_at_end,x9_ T O F_Sight_pair_at_end D_told_at_end⟩
 have D_Sight_first:Dm l.prog w K mg base cO "first" 2 ["self"] (jfe_ cO):=⟨_,_,⟨iOX6,fOX6,F_Sight_first.kp⟩,b_Sight_first,jbn_ T O F_Sight_first D_Sight_tail_of⟩
 have D_Sight_by_letter:Dm l.prog w K mg base cO "by_letter" 3 ["self","view","letter"] (v4_ cO):=⟨_,_,⟨iOX7,fOX7,F_Sight_by_letter.kp⟩,b_Sight_by_letter,vw_ T O F_Sight_by_letter D_Sight_tail_of D_Sight_pair_at_end⟩
 have D_Sight_by_end:Dm l.prog w K mg base cO "by_end" 3 ["self","view"] (jeh_ cO):=⟨_,_,⟨iOX8,fOX8,F_Sight_by_end.kp⟩,b_Sight_by_end,jal_ T O F_Sight_by_end D_Sight_pair_at_end⟩
 have D_letters_to_read:Dn l.prog w K mg base "letters_to_read" 1 ["patterns"] jdw_:=⟨_,_,m_letters_to_read,F_letters_to_read.kp,b_letters_to_read,v5_ T F_letters_to_read⟩
 have D_steps_from:Dn l.prog w K mg base "steps_from" 4 ["sight","letters","view","word"] (jec_ cO):=⟨_,_,m_steps_from,F_steps_from.kp,b_steps_from,jcl_ T O F_steps_from D_Sight_by_letter D_Sight_by_end⟩
 have D_breaks_otherwise:Dn l.prog w K mg base "breaks_otherwise" 1 ["pairs"] x6_:=⟨_,_,m_breaks_otherwise,F_breaks_otherwise.kp,b_breaks_otherwise,vo_ T F_breaks_otherwise⟩
 have D_apart:Dn l.prog w K mg base "apart" 5 ["one","other"] jfb_:=⟨_,_,m_apart,F_apart.kp,b_apart,jra_ T O F_apart D_letters_to_read D_steps_from D_breaks_otherwise D_Sight_init D_Sight_first⟩
 have D_law_row:Dn l.prog w K mg base "_law_row" 1 ["_law_script","_law_at","_law_bounds"] (jco_ K):=⟨_,_,m_law_row,F_law_row.kp,b_law_row,jhx_ T F_law_row⟩
 have D_law_letters:Dn l.prog w K mg base "_law_letters" 1 ["_law_numbers"] jip_:=⟨_,_,m_law_letters,F_law_letters.kp,b_law_letters,jay_ T F_law_letters⟩
 have D_law_pattern:Dn l.prog w K mg base "_law_pattern" 2 ["_law_script","_law_at","_law_letters_here"] (jqz_ K):=⟨_,_,m_law_pattern,F_law_pattern.kp,b_law_pattern,jcb_ T F_law_pattern D_law_row⟩
 have D_law_greatest:Dn l.prog w K mg base "_law_greatest" 1 ["_law_patterns","_law_read","_law_place"] jeb_:=⟨_,_,m_law_greatest,F_law_greatest.kp,b_law_greatest,jak_ T F_law_greatest⟩
 have D_law_values:Dn l.prog w K mg base "_law_values" 2 ["_law_patterns","_law_word"] jie_:=⟨_,_,m_law_values,F_law_values.kp,b_law_values,jch_ T F_law_values D_law_greatest⟩
 have D_law_begins:Dn l.prog w K mg base "_law_begins" 1 ["_law_patterns"] uz_:=⟨_,_,m_law_begins,F_law_begins.kp,b_law_begins,jcf_ T F_law_begins⟩
 have D_law_seen:Dn l.prog w K mg base "_law_seen" 1 ["_law_lists","_law_text","_law_behind","_law_ones","_law_others"] jfq_:=⟨_,_,m_law_seen,F_law_seen.kp,b_law_seen,jha_ T F_law_seen⟩
 have D_law_step:Dn l.prog w K mg base "_law_step" 2 ["_law_lists","_law_view","_law_letter"] jib_:=⟨_,_,m_law_step,F_law_step.kp,b_law_step,jgg_ T F_law_step D_law_seen⟩
 have D_law_last:Dn l.prog w K mg base "_law_last" 2 ["_law_lists","_law_view"] jii_:=⟨_,_,m_law_last,F_law_last.kp,b_law_last,jhg_ T F_law_last D_law_seen⟩
 have D_law_first:Dn l.prog w K mg base "_law_first" 1 ["_law_lists"] jcc_:=⟨_,_,m_law_first,F_law_first.kp,b_law_first,jfi_ T F_law_first⟩
 have D_law_signs:Dn l.prog w K mg base "_law_signs" 1 ["_law_patterns"] jdw_:=⟨_,_,m_law_signs,F_law_signs.kp,b_law_signs,jet_ T F_law_signs⟩
 have D_law_all:Dn l.prog w K mg base "_law_all" 3 ["_law_lists","_law_letters_here","_law_view"] jry_:=⟨_,_,m_law_all,F_law_all.kp,b_law_all,jjb_ T F_law_all D_law_step D_law_last⟩
 have D_law_lower:Dn l.prog w K mg base "_law_lower" 1 ["_law_pattern_here","_law_told"] vf_:=⟨_,_,m_law_lower,F_law_lower.kp,b_law_lower,jfa_ T F_law_lower⟩
 have D_law_longer:Dn l.prog w K mg base "_law_longer" 1 ["_law_pattern_here","_law_letter"] jaz_:=⟨_,_,m_law_longer,F_law_longer.kp,b_law_longer,jci_ T F_law_longer⟩
 have D_law_bent:Dn l.prog w K mg base "_law_bent" 1 ["_law_pattern_here","_law_told"] vf_:=⟨_,_,m_law_bent,F_law_bent.kp,b_law_bent,jgs_ T F_law_bent⟩
 have D_needless:Dn l.prog w K mg base "needless" 6 ["patterns","number"] v1_:=⟨_,_,m_needless,F_needless.kp,b_needless,jht_ T F_needless D_apart⟩
 have D_law_grown:Dn l.prog w K mg base "_law_grown" 3 ["_law_script","_law_letters_here","_law_many"] (jea_ K):=⟨_,_,m_law_grown,F_law_grown.kp,b_law_grown,jel_ T F_law_grown D_law_row D_law_pattern D_law_lower D_law_longer D_law_bent⟩
 have D_left_of_round:Dn l.prog w K mg base "left_of_round" 7 ["patterns","numbers"] jfm_:=⟨_,_,m_left_of_round,F_left_of_round.kp,b_left_of_round,u3_ T F_left_of_round D_needless⟩
 have D_pared:Dn l.prog w K mg base "pared" 8 ["patterns"] jei_:=⟨_,_,m_pared,F_pared.kp,b_pared,jpk_ T F_pared D_left_of_round⟩
 have D_law_apart:Dn l.prog w K mg base "_law_apart" 4 ["_law_one","_law_other"] jbc_:=⟨_,_,m_law_apart,F_law_apart.kp,b_law_apart,jem_ T F_law_apart D_law_begins D_law_signs D_law_first D_law_all⟩
 have D_law_left:Dn l.prog w K mg base "_law_left" 5 ["_law_patterns"] jjt_:=⟨_,_,m_law_left,F_law_left.kp,b_law_left,jgn_ T F_law_left D_law_apart⟩
 have D_law_alike:Dn l.prog w K mg base "_law_alike" 3 ["_law_script","_law_letters_here","_law_patterns","_law_left_here"] (jek_ K):=⟨_,_,m_law_alike,F_law_alike.kp,b_law_alike,jfp_ T F_law_alike D_law_row D_law_values⟩
 exact jxf_ T F_law D_law_row D_law_letters D_law_grown D_law_left D_pared D_law_alike
theorem walk {l:w8_}{q:Program}{loose:List Str}{XP:(Str->Option Value)->Heap->Prop}{YP:World->Heap->Prop}{d:DefRec}{K:Params->pc_}(hn:l.most=some 63)(hdf:d.params.defaults=[])
  (hY:∀(w:World) (h:Heap),YP w h->(K w.params).In h)
  (F:∀(w:World) (mg:Str->Option Value) (fa:Addr) (h:Heap),(K w.params).In h->h.Ns mainGlobals mg->mg d.name=some (.ref fa) ->
   ∃ fd:FuncData,(∀(s:Shared) (u:Value),BindsTo s fd ⟨[u],[]⟩ [("_law_script",u)])/\∀ base:Heap,(K w.params).In base->base.Ns mainGlobals mg->FnOk l.prog w (K w.params) mg base CX0 9 fa fd ["_law_script"] (jln_ (K w.params))) :
  PySem.W.WalkO q loose XP YP l.row.toRowW d [] (fun f vs=>PySem.call f vs) :=
 L2.jkn_ (n:=63) (k:=9) (x:="_law_script") (CX:=fun _=>CX0) (sp:=fun w=>jln_ (K w.params)) hn (by decide) hdf ⟨rfl,by decide,by decide⟩ hY F (fun _ _ a ns hl _ hS=>⟨a,ns,rfl,hS,hl,fun _=>rfl⟩) fun _ _ _ _ _ z=>z
end K35
local macro_rules | `(tactic| walk_at "w")=>`(tactic| (refine' ⟨_,L2.jps_ ?l ?c ?k⟩;(case l=>k_is);(case c=>k_is);(case k=>k_is)))
open PySem PySem.W PyProof.Rows
set_option maxRecDepth 100000 in
set_option maxHeartbeats 0 in
theorem PySem.Challenge.cw_breakwords_k35_whole_pared_holds : PySem.Challenge.rw_breakwords_k35_whole_pared.Holds := by
 w_on;o_law;k_head;(case hw=>w_witness2)
 k_fill
 refine K35.walk (l:=PySem.Challenge.rw_breakwords_k35_whole_pared) rfl rfl (fun w h Y=>PySem.W.kIn_of Y) ?F
 case F =>
  intro w mg fa h KX G hmg
  refine' K35.all_mk KX G hmg ?aO ?pO ?dO ?vO ?sO ?mO ?kO ?n_known ?n_one_numbers ?n_other_numbers ?a0 ?F0 ?a1 ?F1 ?a2 ?F2 ?iOX3 ?fOX3 ?F3 ?iOX4 ?fOX4 ?F4 ?iOX5 ?fOX5 ?F5 ?iOX6 ?fOX6 ?F6 ?iOX7 ?fOX7 ?F7 ?iOX8 ?fOX8 ?F8 ?a9 ?F9 ?a10 ?F10 ?a11 ?F11 ?a12 ?F12 ?a13 ?F13 ?a14 ?F14 ?a15 ?F15 ?a16 ?F16 ?a17 ?F17 ?a18 ?F18 ?a19 ?F19 ?a20 ?F20 ?a21 ?F21 ?a22 ?F22 ?a23 ?F23 ?a24 ?F24 ?a25 ?F25 ?a26 ?F26 ?a27 ?F27 ?a28 ?F28 ?a29 ?F29 ?a30 ?F30 ?a31 ?F31 ?a32 ?F32 ?a33 ?F33 ?a34 ?F34 ?a35 ?l35 ?c_35 ?k35 ?gLETTERS ?z_len ?z_abs ?z_all ?z_any ?z_range ?z_enumerate ?z_isinstance ?z_tuple ?z_list ?z_bool ?z_str ?z_int ?z_min ?z_max ?z_zip ?z_sorted
  case aO | pO | dO | vO | sO | mO | kO | n_known | n_one_numbers | n_other_numbers | a0=>k_is
  case F0=>walk_at "w"
  case a1=>k_is
  case F1=>walk_at "w"
  case a2=>k_is
  case F2=>walk_at "w"
  case iOX3 | fOX3=>k_is
  case F3=>walk_at "w"
  case iOX4 | fOX4=>k_is
  case F4=>walk_at "w"
  case iOX5 | fOX5=>k_is
  case F5=>walk_at "w"
  case iOX6 | fOX6=>k_is
  case F6=>walk_at "w"
  case iOX7 | fOX7=>k_is
  case F7=>walk_at "w"
  case iOX8 | fOX8=>k_is
  case F8=>walk_at "w"
  case a9=>k_is
  case F9=>walk_at "w"
  case a10=>k_is
  case F10=>walk_at "w"
  case a11=>k_is
  case F11=>walk_at "w"
  case a12=>k_is
  case F12=>walk_at "w"
  case a13=>k_is
  case F13=>walk_at "w"
  case a14=>k_is
  case F14=>walk_at "w"
  case a15=>k_is
  case F15=>walk_at "w"
  case a16=>k_is
  case F16=>walk_at "w"
  case a17=>k_is
  case F17=>walk_at "w"
  case a18=>k_is
  case F18=>walk_at "w"
  case a19=>k_is
  case F19=>walk_at "w"
  case a20=>k_is
  case F20=>walk_at "w"
  case a21=>k_is
  case F21=>walk_at "w"
  case a22=>k_is
  case F22=>walk_at "w"
  case a23=>k_is
  case F23=>walk_at "w"
  case a24=>k_is
  case F24=>walk_at "w"
  case a25=>k_is
  case F25=>walk_at "w"
  case a26=>k_is
  case F26=>walk_at "w"
  case a27=>k_is
  case F27=>walk_at "w"
  case a28=>k_is
  case F28=>walk_at "w"
  case a29=>k_is
  case F29=>walk_at "w"
  case a30=>k_is
  case F30=>walk_at "w"
  case a31=>k_is
  case F31=>walk_at "w"
  case a32=>k_is
  case F32=>walk_at "w"
  case a33=>k_is
  case F33=>walk_at "w"
  case a34=>k_is
  case F34=>walk_at "w"
  case a35 | l35 | c_35 | k35 | gLETTERS | z_len | z_abs | z_all | z_any | z_range | z_enumerate | z_isinstance | z_tuple | z_list | z_bool | z_str | z_int | z_min | z_max | z_zip | z_sorted=>k_is
#print axioms PySem.Challenge.cw_breakwords_k35_whole_pared_holds
namespace K35
end K35
