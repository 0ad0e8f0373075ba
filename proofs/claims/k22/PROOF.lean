import PyProof.Rows.All
import Wide.All
import OpenK.AllK
import Wide.FinOn
import Lean
import PyProof.EqAt
import PyProof.EqKinds
import PyProof.TupleCall
import PyProof.CompFree
import PyProof.P3Eq
import PyProof.Draws
import PyProof.EnumMake
import PyProof.WalksMore
import PyProof.StrLawsIn
import KE.KDictOf
import PyProof.ZipIter
import PyProof.WalkInts
import PyProof.SeqI3
import KE.KIntText
import PyProof.AutoListH
import PyProof.Rows.SortShellK
import PyProof.Rows.SortStr
import KE.KDictSum
import PyProof.CollectIter
import PyProof.TupleOfGen
import PyProof.ListRange
import KE.KRevIter
import PyProof.CollectWalk
import PyProof.ListNew
import KE.KItemsList
import PyProof.Rows.StrMeet
import PyProof.StrLawsRepr
import KE.KDictList
import PyProof.DictTruth
import PyProof.DictWalks
import KE.KDictLaws
import PyProof.Rows.TupDisplay
import PySem.Challenge.RW_breakwords_k22_whole_patterns_out_of_a_w
local macro_rules | `(tactic| omega)=>`(tactic| lia)
namespace PySem.W.Fast
def tw13800645491657784076:=0
def tw1367919984651569535:=0
def tw18400528045278032625:=0
def tw7656349633995205431:=0
def tw9810784125685207372:=0
def tw2393338727784260941:=0
def tw16901507434677289625:=0
def tw2842970513934272493:=0
def tw11717060624576776156:=0
def tw1374955052056493899:=0
def tw7776101906361471363:=0
def tw7665710559911047202:=0
def tw7447285810400208948:=0
def tw6129980493954298276:=0
def tw9796578164591169152:=0
def tw10623835067087658263:=0
def tw17313073265371697491:=0
def tw2042185983402529957:=0
def tw3768034939176193025:=0
def tw15646358191433499329:=0
def tw4960976008592397755:=0
def tw5499356051012690063:=0
def tw1987805903991283810:=0
def tw15945743710751417536:=0
def tw5322131294276681704:=0
def tw18079552552513561146:=0
def tw14728214229182116837:=0
def tw12937791513687658727:=0
def tw8003323856990057112:=0
def tw2463056062337499415:=0
def tw7381500572229465970:=0
def tw16917998422924437851:=0
def tw8152194929462628078:=0
def tw10304750176001569941:=0
def tw12652079562943366936:=0
def tw14340408254799755943:=0
def tw924681284030563195:=0
def tw6841097539265921335:=0
def tw9068651113889547045:=0
def tw3011489475561771391:=0
def tw9378186260460948393:=0
def tw17427512686526230810:=0
def tw525781374483611401:=0
def tw16437019694818507812:=0
def tw1036097361978693769:=0
def tw10320870810653474268:=0
def tw4688163863796410718:=0
def tw2728642845107537923:=0
def tw16397064402507642680:=0
def tw7821601496272907009:=0
def tw3312901607331239504:=0
def tw3020952468315935143:=0
def tw4549227729977315460:=0
def tw12973302854991508793:=0
def tw1433037101209739148:=0
def tw1934459213902200068:=0
def tw10962065755767501945:=0
def tw8929440210753395706:=0
def tw5716932190878969664:=0
def tw3750708958517005392:=0
def tw3781836089991617100:=0
def tw7473734935019663326:=0
def tw16431220217143420600:=0
def tw6185297638536742866:=0
def tw2720469320031455120:=0
def tw146547025395914380:=0
def tw5649655996935938132:=0
def tw2984007050346016418:=0
def tw1347978933444409673:=0
def tw17528254518768914254:=0
def tw4928408261219796053:=0
def tw15485307718212841907:=0
def tw14906175080113777623:=0
def tw3781080601998780287:=0
def tw1272528189556464999:=0
def tw13287706868557143913:=0
def tw14206813577128249043:=0
def tw2633894102874030977:=0
def tw17891453945652257394:=0
def tw9570753299414495076:=0
def tw17008769434847927121:=0
def tw18032517169460360691:=0
def tw910019828107117983:=0
def tw15229227757654935673:=0
end PySem.W.Fast
set_option Elab.async false
set_option linter.all false
set_option maxRecDepth 100000
open PySem.Heap renaming get?_push_of_some→pa_,get?_push_size→pk_,lt_size→pm_,size_push→q9_,SameBut→rq_,get?_update_other→r1_,get?_update_self→tw_,IsTuple→lh_
open List renaming length_map→pb_,getElem?_eq_getElem→pc_,getD_eq_getElem?_getD→pe_,map_cons→pf_,getElem?_map→ph_,size_toArray→pi_,length_append→pj_,getElem?_eq_some_iff→pl_,mem_cons_of_mem→pn_,mem_cons_self→po_,mem_append→pq_,length_take→pr_,mem_cons→pt_,append_assoc→pu_,replicate→pv_,map_append→pw_,getElem_mem→py_,length_cons→pz_,map_nil→p2_,range→p3_,mem_range→p4_,take_length→p5_,mem_of_mem_take→p8_,take_append_drop→qa_,length_drop→qb_,map_map→qc_,mem_map→qh_,filterMap_cons→qj_,find?_cons→qk_,mem_of_mem_drop→ql_,flatten_cons→qm_,lookup_cons→qn_,map_congr_left→qo_,getElem_of_mem→qp_,mem_append_right→qs_,append_nil→qt_,mem_iff_getElem?→qv_,length_range→q0_,take_of_length_le→q1_,nodup_cons→q6_,Perm→q7_,take_succ→ra_,mem_of_getElem?→rb_,pairwise_append→rc_,forIn_cons→rd_,pairwise_iff_getElem→rf_,length_replicate→rg_,length_nil→rj_,length_pos_iff→ro_,pairwise_map→rp_,range_succ→rt_,getElem?_take_of_lt→rv_,mem_append_left→rw_,Pairwise→rx_,drop_zero→ry_,replicate_succ→rz_,not_mem_nil→r5_,mem_filterMap→r6_,perm_append_comm→r7_,filterMap_nil→r8_,drop_eq_getElem_cons→sa_,mem_of_find?_eq_some→sb_,take_take→sc_,foldl_cons→sf_,eq_nil_of_length_eq_zero→so_,forIn_nil→sq_,take_zero→sr_,getElem_cons_succ→su_,find?_eq_none→sv_,length_singleton→sy_,filterMap_append→s0_,any_cons→s3_,foldl_append→s4_,getElem?_append_right→s5_,getElem?_append_left→s7_,rel_of_pairwise_cons→s9_,zipIdx_cons→tb_,length_reverse→te_,length_filterMap_le→tf_,getElem?_cons_succ→tl_,find?_some→tm_,reverse_cons→tr_,nodup_append→ts_,drop_drop→tv_,all_eq_true→tx_,ext_getElem→tz_,any_eq_true→t0_,getElem_map→t1_,dropLast_concat_getLast→t6_,mem_filter→t8_,zipIdx_nil→wa_,getElem?_drop→wf_,mem_singleton→wg_,pairwise_cons→wi_,getElem?_eq_none_iff→wl_,getLastD_eq_getLast?→wm_,getElem_take→wr_,getElem_drop→ws_,ext_getElem?→wt_,getElem?_replicate→wy_,eraseIdx_cons_succ→w0_,length_eq_zero_iff→w2_,cons_append→w7_,nodup_range→w8_,mem_reverse→w9_,getElem?_set_self→ka_,drop_eq_nil_of_le→ke_,of_mem_zip→kg_,nil_append→kh_,length_filter_le→kk_,getElem?_eq_none→kn_,dropLast_eq_take→kp_,range_zero→kr_,getElem?_set_ne→ks_,mem_iff_getElem→kt_,reverse_reverse→ku_,replicate_succ'→kw_,find?_map→kz_,length→k0_,map_id→k3_,sum_cons→k7_,find?→lb_,Nodup→ld_
open PySem.W renaming Frag→pd_,nsIn→p1_,mg_none_of→qd_,mg_of→qf_,keepIn→sp_,fnOf→sx_,findIn→tu_,codeIn→wk_,methodObj→wn_,cellsFrom_some→kb_,OpenLaw→ki_,specialIn→k9_,kitx_list→la_
open Nat renaming le_refl→pg_,lt_of_lt_of_le→p6_,ne_of_lt→p7_,le_trans→qq_,min_eq_left→q8_,zero_le→ri_,le_of_lt→si_,lt_irrefl→sj_,add_sub_cancel_left→sm_,lt_of_le_of_lt→ti_,succ_ne_self→ty_,add_assoc→t7_,ne_of_gt→we_,eq_or_lt_of_le→wh_,eq_zero_or_pos→wj_,lt_succ_of_lt→wp_,zero_add→km_,le_succ→k1_,add_comm→lf_,le_of_eq→lg_,sub_zero→li_
open Bool renaming false_ne_true→pp_,false_eq_true→p0_,and_eq_true→qr_,eq_iff_iff→sw_,not_true→tn_,or_eq_false_iff→t3_,not_eq_true'→wq_,and_eq_false_iff→ko_,false_or→k6_
open PySem.Builtin.SmallTypes renaming ownedTupleIsFree→ps_,nextOf→px_,fitsIndex→q3_,ownedTupleHandOut→re_
open Array renaming getElem?_toList→p9_,getElem?_eq_getElem→qw_,toList_push→rh_,perm_iff_toList_perm→r4_,length_toList→sk_,toList_setIfInBounds→s6_,toList_append→td_,toList_eraseIdxIfInBounds→tt_,toList→le_
open PyProof.Rows.KeyOrd renaming kle_trans→qe_,kle_of_klt→qy_,kle_refl→rk_,kle_antisymm→k4_
open PySem.F renaming plainAttrs_list→qg_,called_enumerate→qu_,slot_list_append→q4_,type_list_append→q5_,slot_dict_get→rs_,slot_tuple_iterator_next→r3_,entry_dict_get→st_,entry_enumerate_new→sz_,entry_object_init→tc_,slot_list_extend→tg_,type_list_extend→th_,plainAttrs_dict→tk_,slot_zip_next→to_,args_tuple_iterator_next_1→t5_,entry_tuple_iterator_next→t9_,args_tuple_add_2→wo_,entry_tuple_add→wz_,args_dict_get_2→w3_,args_dict_get_3→w4_,slot_dict_items→w5_,slot_tuple_add→kc_,plainAttrs_str→kf_,type_dict_get→kl_
open PySem.PassesOwn renaming never→qi_
open PyProof.Rows renaming callWith_type1→qx_,slot_tuple_getitem→sd_,strKind→kv_,sortedS→kx_
open PySem.Str renaming ofString→qz_
open PySem.Calls renaming spliced_cons→q2_,spliced_nil→rm_,call_function_entry→sh_,callWith_builtin→ss_,evalArgs_plain→t2_,Name_function_global→wc_
open List.Perm renaming append_right→rl_,append_left→ru_,refl→ky_
open Int renaming toNat_natCast→rn_,le_refl→sn_,emod_nonneg→tp_,emod_lt_of_pos→tq_
open Option renaming map_some→rr_,getD_some→ta_,map_eq_some_iff→kd_,map_none→kq_
open PySem.Builtin.List renaming listExtendWith→r0_,listItems→r2_,listTooLong→sg_,listSameRef→wv_
open PySem.Builtin.Slice renaming slicePlaces→r9_,sliceAdjust→s8_,sliceApplied→wd_
open PySem.Builtin.Tuple renaming tupleExact→se_
open PySem renaming mem_of_lookup→sl_
open False renaming elim→s1_
open PySem.Obj renaming mapSeq→s2_
open PySem.StrLaws renaming occBody→tj_
open PySem.Paired renaming length→t4_
open List.cons renaming injEq→wb_
open PySem.Sem renaming wp_loadIfAlive→wu_
open List.Pairwise renaming imp_of_mem→ww_
open Ne renaming symm→wx_
open PySem.Shared renaming heap→w1_
open Function renaming comp→w6_
open PySem.Txt renaming startswith3→kj_,slice→k5_,join→lj_
open PySem.Heap.SameBut renaming update→k2_
open PySem.SeqAt renaming EqAt→k8_
open Option.some renaming injEq→lc_
namespace L2
open PySem PySem.Spec PyProof.Rows
abbrev Key:=Sum Int Str
def ug_:Key->Value->Bool
 | .inl k,v=>Value.isInt k v
 | .inr x,v=>Value.isStrOf x v
def keyH (w:World):Key->Int
 | .inl k=>hashInt k
 | .inr x=>hashStr w x
theorem j4_:∀{k:Key} {v:Value},ug_ k v=true->(∃ i t,k=Sum.inl i/\v=Value.int i t)∨(∃ x t,k=Sum.inr x/\v=Value.str x t)
 | .inl i,v,h=>by
  obtain⟨t,e⟩:=Value.isInt_shape (k:=i) (v:=v) h
  exact .inl ⟨i,t,rfl,e⟩
 | .inr x,v,h=>by
  obtain⟨t,e⟩:=Value.isStrOf_shape (x:=x) (v:=v) h
  exact .inr ⟨x,t,rfl,e⟩
theorem jlz_ (i:Int) (t:Tok):ug_ (.inl i) (.int i t)=true:=by simp[ug_,Value.isInt]
theorem jlp_ (x:Str) (t:Tok):ug_ (.inr x) (.str x t)=true:=by simp[ug_,Value.isStrOf]
theorem jvb_ (a b:Int):decide ((Sum.inl a:Key)=Sum.inl b)=(a == b):=by
 by_cases e:a=b
 ·subst e;simp
 ·have h:¬ (Sum.inl a:Key)=Sum.inl b:=fun q=>e (Sum.inl.inj q)
  rw[decide_eq_false h]
  exact(beq_eq_false_iff_ne.mpr e).symm
theorem jtz_ (a b:Str):decide ((Sum.inr a:Key)=Sum.inr b)=decide (a=b):=by
 by_cases e:a=b
 ·subst e;simp
 ·have h:¬ (Sum.inr a:Key)=Sum.inr b:=fun q=>e (Sum.inr.inj q)
  rw[decide_eq_false h,decide_eq_false e]
theorem jth_ (a:Int) (b:Str):decide ((Sum.inl a:Key)=Sum.inr b)=false:=decide_eq_false (fun q=>nomatch q)
theorem jui_ (a:Str) (b:Int):decide ((Sum.inr a:Key)=Sum.inl b)=false:=decide_eq_false (fun q=>nomatch q)
def jx_ (prog:Program) (w:World):PySem.KeyKind prog w Key where
 is:=ug_
 hash:=keyH w
 inj:=fun v a b ha hb=>by
  rcases j4_ ha with ⟨i,t,rfl,rfl⟩ | ⟨x,t,rfl,rfl⟩
  ·rcases j4_ hb with ⟨j,u,rfl,e⟩ | ⟨y,u,rfl,e⟩
   ·injection e with e1 _;rw[e1]
   ·exact nomatch e
  ·rcases j4_ hb with ⟨j,u,rfl,e⟩ | ⟨y,u,rfl,e⟩
   ·exact nomatch e
   ·injection e with e1 _;rw[e1]
 byValue:=fun k v h=>by
  rcases j4_ h with ⟨i,t,rfl,rfl⟩ | ⟨x,t,rfl,rfl⟩ <;> rfl
 pyHash:=fun hv h=>by
  rcases j4_ hv with ⟨i,t,rfl,rfl⟩ | ⟨x,t,rfl,rfl⟩
  ·exact wpAny_pyHash_int h
  ·exact wpAny_pyHash_str h
 eqBool:=fun hu hv h=>by
  rcases j4_ hu with ⟨i,t,rfl,rfl⟩ | ⟨x,t,rfl,rfl⟩
  ·rcases j4_ hv with ⟨j,u,rfl,rfl⟩ | ⟨y,u,rfl,rfl⟩
   ·rw[jvb_] at h;exact wpAny_eqBool_int h
   ·rw[jth_] at h;exact k8_.int_str i t y u _ _ _ _ h
  ·rcases j4_ hv with ⟨j,u,rfl,rfl⟩ | ⟨y,u,rfl,rfl⟩
   ·rw[jui_] at h;exact k8_.str_int x t j u _ _ _ _ h
   ·rw[jtz_] at h;exact wpAny_eqBool_str h
 «strs»:=fun k x t v h=>by
  rcases j4_ h with ⟨i,u,rfl,e⟩ | ⟨y,u,rfl,e⟩
  ·exact nomatch e
  ·injection e with e1 _
   subst e1
   cases v <;> rfl
theorem jes_ (prog:Program) (w:World) (i:Int) (t:Tok):(jx_ prog w).is (.inl i) (.int i t)=true:=jlz_ i t
theorem jex_ (prog:Program) (w:World) (x:Str) (t:Tok):(jx_ prog w).is (.inr x) (.str x t)=true:=jlp_ x t
end L2
namespace L2
open PySem PySem.Spec PyProof.Rows
inductive V where
 | non | bl (b:Bool) | int (i:Int) | str (x:Str) | byt (b:Array UInt8) | flt (b:UInt64) | ref (a:Addr) | ty (n:String)
 deriving DecidableEq
def RelV:V->Value->Prop
 | .non,u=>u=Value.none
 | .bl b,u=>u=Value.bool b
 | .int i,u=>∃ t,u=Value.int i t
 | .str x,u=>∃ t,u=Value.str x t
 | .byt b,u=>∃ t,u=Value.bytes b t
 | .flt b,u=>∃ t,u=Value.float b t
 | .ref a,u=>u=Value.ref a
 | .ty n,u=>u=Value.type n
abbrev Vals:List V->List Value->Prop:=Paired RelV
theorem Vals.length {xs:List V} {us:List Value} (r:Vals xs us):xs.length=us.length:=t4_ r
theorem Vals.get:∀{xs:List V} {us:List Value} {i:Nat} {x:V},Vals xs us->xs[i]?=some x->∃ u,us[i]?=some u/\RelV x u
 | _,_,_,_,.nil,e=>by simp at e
 | _,_,0,_,.cons r _,e=>by simp at e;subst e;exact⟨_,rfl,r⟩
 | _,_,i+1,x,.cons _ t,e=>by
  obtain⟨u,h1,h2⟩:=Vals.get (i:=i) (x:=x) t (by simpa using e)
  exact⟨u,by simpa using h1,h2⟩
theorem Vals.set {x:V} {u:Value} (r:RelV x u):∀{xs:List V} {us:List Value} (i:Nat),Vals xs us->Vals (xs.set i x) (us.set i u)
 | _,_,_,.nil=>.nil
 | _,_,0,.cons _ t=>.cons r t
 | _,_,i+1,.cons q t=>.cons q (Vals.set r i t)
theorem Vals.append:∀{xs ys:List V} {us ws:List Value},Vals xs us->Vals ys ws->Vals (xs++ys) (us++ws)
 | _,_,_,_,.nil,s=>s
 | _,_,_,_,.cons r t,s=>.cons r (Vals.append t s)
theorem Vals.take:∀{xs:List V} {us:List Value} (n:Nat),Vals xs us->Vals (xs.take n) (us.take n)
 | _,_,0,_=>.nil
 | _,_,_+1,.nil=>.nil
 | _,_,n+1,.cons r t=>.cons r (Vals.take n t)
theorem Vals.drop:∀{xs:List V} {us:List Value} (n:Nat),Vals xs us->Vals (xs.drop n) (us.drop n)
 | _,_,0,r=>r
 | _,_,_+1,.nil=>.nil
 | _,_,n+1,.cons _ t=>Vals.drop n t
def RelO:Option V->Option Value->Prop
 | some v,some u=>RelV v u
 | none,none=>True
 | _,_=>False
def KV {κ:Type}:List (κ×V)->List (κ×Value)->Prop:=Paired fun(p:κ×V) (q:κ×Value)=>p.1=q.1/\RelV p.2 q.2
def kV:Key->V
 | .inl i=>.int i
 | .inr x=>.str x
inductive HO where
 | lst (xs:List V)
 | tup (xs:List V)
 | dK (kvs:List (Key×V)) | dT (kvs:List (List Key×V))
 | set (S:Int->Bool) (n:Nat)
 | ins (C dx:Addr) (fs:List (Str×V))
 | own (x:Addr)
 | xd (fs:List (Str×V))
 | met (f x:Addr)
 | rng (lo hi:Int)
 | frz (o:Obj) (u:HO)
 | tbl (ps:Array Value)
 | ext (φ:Heap->Prop)
abbrev Hp:=Addr->Option HO
def upd (H:Hp) (a:Addr) (o:HO):Hp:=fun b=>if b=a then some o else H b
theorem jb_ {H:Hp} {a:Addr} {o:HO}:upd H a o a=some o:=by unfold upd;rw[if_pos rfl]
theorem je_ {H:Hp} {a b:Addr} {o:HO} (h:b≠a):upd H a o b=H b:=by unfold upd;rw[if_neg h]
theorem jqo_ {H:Hp} {a:Addr} {o u:HO}:upd (upd H a o) a u=upd H a u:=by
 funext b;unfold upd;split <;> rfl
theorem jcu_ {H:Hp} {a b:Addr} {o u:HO} (h:H a=some o) (h':H b=some u) (d:o≠u):a≠b:=by
 intro e;subst e;rw[h] at h';exact d (Option.some.inj h')
theorem jf_ {H:Hp} {a b:Addr} {o:HO} (h:H a=some o) (h':H b=none):a≠b:=by
 intro e;subst e;rw[h] at h';cases h'
section
variable (P:Program) (w:World)
def ObjOk (H:Hp) (h:Heap) (a:Addr):HO->Prop
 | .lst xs=>xs.length<=sizeLine/\∃(its:List Value) (n:Nat),Vals xs its/\h.get? a=some { cls:=.type "list",data:=.seq its.toArray n }
 | .tup xs=>xs.length<=sizeLine/\∃ its:List Value,Vals xs its/\IsTup h a its.toArray
 | .dK kvs=>kvs.length<=sizeLine/\(a == sysModules)=false/\∃ vs,KV kvs vs/\h.DictOf (jx_ P w) a vs
 | .dT kvs=>kvs.length<=sizeLine/\(a == sysModules)=false/\∃ xs:List (List Key×Addr×Value),
   Paired (fun(p:List Key×V) (q:List Key×Addr×Value)=>p.1=q.1/\H q.2.1=some (.tup (p.1.map kV))/\RelV p.2 q.2.2) kvs xs /\
   ∃ o es ep,h.get? a=some o/\o.ExactDict/\o.data=.dict es ep/\es.toList=xs.map (entryOfKey (tupleKind (jx_ P w)))/\(xs.map (·.1)).Nodup
 | .set S n=>h.SetOf (intKind P w) a S n
 | .ins C dx fs=>H dx=some (.own a)/\fs.length<=1000/\dx≠a/\h.get? a=some (PySem.W.instObj C dx) /\
   ∃ mA,h.Ns1 dx mA/\(∀ f,RelO (fs.lookup f) (mA f))/\PySem.Within mA (fs.map (·.1))
 | .own _=>∃ o,h.get? a=some o
 | .xd fs=>∃ mA,h.Ns1 a mA/\∀ f,RelO (fs.lookup f) (mA f)
 | .rng lo hi=>∃ t u v,h.get? a=some { cls:=.type "range",data:=.fields #[.int lo t,.int hi u,.int 1 v] }
 | .frz o u=>h.get? a=some o/\ObjOk H h a u
 | .tbl ps=>h.get? a=some { cls:=.none,data:=.fields ps }
 | .met f x=>h.get? a=some (wn_ (.ref f) (.ref x))
 | .ext φ=>φ h/\(∃ o,h.get? a=some o)/\∀ h1 h2:Heap,φ h1->(∀ o,h1.get? a=some o->h2.get? a=some o)->φ h2
def HOk (H:Hp) (h:Heap):Prop:=∀ a o,H a=some o->ObjOk P w H h a o
end
section
variable {P:Program} {w:World} {H H':Hp} {h h':Heap} {a:Addr} {o:HO}
theorem ObjOk.lt (x:ObjOk P w H h a o):a < h.objs.size:=by
 cases o with
 | lst xs=>obtain⟨_,_,_,_,e⟩:=x;exact pm_ e
 | tup xs=>obtain⟨_,_,_,p⟩:=x;exact p.lt
 | dK kvs=>obtain⟨_,_,_,_,o,_,_,e,_⟩:=x;exact pm_ e
 | dT kvs=>obtain⟨_,_,_,_,o,_,_,e,_⟩:=x;exact pm_ e
 | set S n=>obtain⟨o,_,_,_,e,_⟩:=x;exact pm_ e
 | ins C dx fs=>obtain⟨_,_,_,e,_⟩:=x;exact pm_ e
 | own y=>obtain⟨_,e⟩:=x;exact pm_ e
 | xd fs=>obtain⟨_,⟨_,_,_,e,_⟩,_⟩:=x;exact pm_ e
 | rng lo hi=>obtain⟨_,_,_,e⟩:=x;exact pm_ e
 | frz ob u=>obtain⟨e,_⟩:=x;exact pm_ e
 | tbl ps=>exact pm_ (show h.get? a=some _ from x)
 | met f y=>exact pm_ (show h.get? a=some _ from x)
 | ext φ=>obtain⟨_,⟨_,e⟩,_⟩:=x;exact pm_ e
theorem Paired.mapP {α β:Type} {F G:α->β->Prop}:∀{l₁:List α} {l₂:List β},Paired F l₁ l₂->(∀ a b,F a b->G a b)->Paired G l₁ l₂
 | _,_,.nil,_=>.nil
 | _,_,.cons r t,f=>.cons (f _ _ r) (Paired.mapP t f)
theorem ObjOk.stay (x:ObjOk P w H h a o) (k:∀ b u,(b=a∨H b=some (.own a))->h.get? b=some u->h'.get? b=some u)
  (ho:∀ b,H b=some (.own a)->H' b=some (.own a)) (ht:∀ b xs,H b=some (.tup xs)->H' b=some (.tup xs)):ObjOk P w H' h' a o:=by
 induction o with
 | lst xs=>obtain⟨z,its,n,r,e⟩:=x;exact⟨z,its,n,r,k _ _ (.inl rfl) e⟩
 | tup xs=>obtain⟨z,its,r,ob,e,c⟩:=x;exact⟨z,its,r,ob,k _ _ (.inl rfl) e,c⟩
 | dK kvs=>obtain⟨z,y,vs,r,ob,es,ep,e,c⟩:=x;exact⟨z,y,vs,r,ob,es,ep,k _ _ (.inl rfl) e,c⟩
 | dT kvs =>
  obtain⟨z,y,xs,r,ob,es,ep,e,c⟩:=x
  exact⟨z,y,xs,Paired.mapP r fun p q z=>⟨z.1,ht _ _ z.2.1,z.2.2⟩,ob,es,ep,k _ _ (.inl rfl) e,c⟩
 | set S n=>obtain⟨ob,es,ep,t,e,c⟩:=x;exact⟨ob,es,ep,t,k _ _ (.inl rfl) e,c⟩
 | ins C dx fs =>
  obtain⟨d,z,ne,e,mA,⟨od,es,ep,e2,c⟩,r⟩:=x
  exact⟨ho _ d,z,ne,k _ _ (.inl rfl) e,mA,⟨od,es,ep,k _ _ (.inr d) e2,c⟩,r⟩
 | own y=>obtain⟨ob,e⟩:=x;exact⟨ob,k _ _ (.inl rfl) e⟩
 | xd fs=>obtain⟨mA,⟨od,es,ep,e,c⟩,r⟩:=x;exact⟨mA,⟨od,es,ep,k _ _ (.inl rfl) e,c⟩,r⟩
 | rng lo hi=>obtain⟨t,u,v,e⟩:=x;exact⟨t,u,v,k _ _ (.inl rfl) e⟩
 | frz ob u ih=>obtain⟨e,q⟩:=x;exact⟨k _ _ (.inl rfl) e,ih q⟩
 | tbl ps =>
  have e:h.get? a=some { cls:=.none,data:=.fields ps }:=x
  show h'.get? a=some { cls:=.none,data:=.fields ps }
  exact k a _ (.inl rfl) e
 | met f y =>
  have e:h.get? a=some (wn_ (.ref f) (.ref y)):=x
  show h'.get? a=some (wn_ (.ref f) (.ref y))
  exact k a _ (.inl rfl) e
 | ext φ=>obtain⟨p,⟨o,e⟩,st⟩:=x;exact⟨st _ _ p fun o q=>k _ _ (.inl rfl) q,⟨o,k _ _ (.inl rfl) e⟩,st⟩
theorem HOk.lt (x:HOk P w H h) (e:H a=some o):a < h.objs.size:=(x a o e).lt
theorem HOk.fresh (x:HOk P w H h) (e:h.objs.size<=a):H a=none:=by
 cases q:H a with
 | none=>rfl
 | some u=>exact absurd (p6_ (x.lt q) e) (sj_ _)
theorem HOk.kept (x:HOk P w H h) (k:∀ b u,h.get? b=some u->h'.get? b=some u):HOk P w H h':=fun a o e =>
 (x a o e).stay (fun b u _ q=>k b u q) (fun _ q=>q) fun _ _ q=>q
theorem HOk.laid (x:HOk P w H h) (k:∀ b u,h.get? b=some u->h'.get? b=some u) (hp:h.objs.size<=a) (new:ObjOk P w (upd H a o) h' a o):HOk P w (upd H a o) h':=fun b u e=>by
 have hn:=x.fresh hp
 by_cases hb:b=a
 ·subst hb;rw[jb_] at e;cases e;exact new
 ·rw[je_ hb] at e
  exact(x b u e).stay (fun c v _ q=>k c v q) (fun c q=>by rw[je_ (jf_ q hn)];exact q) fun c xs q=>by rw[je_ (jf_ q hn)];exact q
end
def Rd (H:Hp) (a:Addr) (u:HO):Prop:=H a=some u∨∃ o,H a=some (.frz o u)
theorem Rd.ok {P:Program} {w:World} {H:Hp} {h:Heap} {a:Addr} {u:HO} (r:Rd H a u) (x:HOk P w H h):ObjOk P w H h a u:=by
 rcases r with r | ⟨o,r⟩
 ·exact x a u r
 ·obtain⟨_,q⟩:=x a _ r
  exact q
def Mut:Option HO->Prop
 | some (.lst _)=>True
 | some (.dK _)=>True
 | some (.dT _)=>True
 | some (.set _ _)=>True
 | some (.ins _ _ _)=>True
 | some (.ext _)=>True
 | _=>False
section
variable {P:Program} {w:World} {H:Hp} {h h':Heap} {x e:Addr} {o':HO}
theorem HOk.write (ok:HOk P w H h) (mu:Mut (H x)) (he:e=x∨H e=some (.own x)) (k:∀ b u,b≠e->h.get? b=some u->h'.get? b=some u) (heo:∃ u,h'.get? e=some u)
  (new:ObjOk P w (upd H x o') h' x o'):HOk P w (upd H x o') h':=fun b u q=>by
 have nown:∀ c y,H c=some (.own y)->c≠x:=fun c y r z=>by subst z;rw[r] at mu;exact mu
 have ntup:∀ c xs,H c=some (.tup xs)->c≠x:=fun c xs r z=>by subst z;rw[r] at mu;exact mu
 by_cases hb:b=x
 ·subst hb;rw[jb_] at q;cases q;exact new
 ·rw[je_ hb] at q
  by_cases hbe:b=e
  ·have q':H b=some (.own x):=by
    rcases he with z | z
    ·exact absurd (hbe.trans z) hb
    ·rw[hbe];exact z
   rw[q] at q';cases q'
   obtain⟨v,hv⟩:=heo
   exact⟨v,by rw[hbe];exact hv⟩
  ·refine(ok b u q).stay (fun c v hc r=>k c v ?_ r) (fun c r=>by rw[je_ (nown c b r)];exact r) fun c xs r=>by rw[je_ (ntup c xs r)];exact r
   rcases hc with rfl | hc
   ·exact hbe
   ·rintro rfl
    rcases he with z | z
    ·exact nown c b hc z
    ·rw[hc] at z;cases z;exact hb rfl
end
structure Un (fs ex:List Addr) (H H':Hp) (h h':Heap):Prop where
 keep:∀ b o,h.get? b=some o->H b=none->b∉fs->b∉ex->h'.get? b=some o
 slot:∀ b o,h.get? b=some o->H b=none->b∈fs->b∉ex->∃ sl,h'.get? b=some { o with slots:=sl }
 free:∀ b o,h.get? b=some o->H b=none->b∉ex->H' b=none
 there:∀ b o,h.get? b=some o->b∉ex->∃ o',h'.get? b=some o'
 tups:∀ b xs,H b=some (.tup xs)->H' b=some (.tup xs)
 frzs:∀ b o u,H b=some (.frz o u)->H' b=some (.frz o u)
 tbls:∀ b ps,H b=some (.tbl ps)->∃ more,H' b=some (.tbl (ps++more))
section
variable {fs fs' ex ex':List Addr} {H H1 H2:Hp} {h h1 h2 h':Heap} {a x e:Addr} {o:HO}
theorem Un.any (u:Un fs ex H H1 h h1) {b:Addr} {ob:Obj} (q:h.get? b=some ob) (n:H b=none) (hx:b∉ex):∃ sl,h1.get? b=some { ob with slots:=sl }:=by
 by_cases hb:b∈fs
 ·exact u.slot b ob q n hb hx
 ·exact⟨ob.slots,u.keep b ob q n hb hx⟩
theorem Un.kept (k:∀ b u,h.get? b=some u->h'.get? b=some u):Un fs ex H H h h' :=
 ⟨fun b ob q _ _ _=>k b ob q,fun b ob q _ _ _=>⟨ob.slots,k b ob q⟩,fun _ _ _ n _=>n,fun b ob q _=>⟨ob,k b ob q⟩,fun _ _ q=>q,fun _ _ _ q=>q,fun _ ps q=>⟨#[],by rw[q];simp⟩⟩
theorem Un.refl:Un fs ex H H h h:=Un.kept fun _ _ q=>q
theorem Un.laid (k:∀ b u,h.get? b=some u->h'.get? b=some u) (hp:h.objs.size<=a) (hn:H a=none):Un fs ex H (upd H a o) h h' where
 keep:=fun b u q _ _ _=>k b u q
 slot:=fun b u q _ _ _=>⟨u.slots,k b u q⟩
 free:=fun b u q n _=>by rw[je_ (p7_ (p6_ (pm_ q) hp))];exact n
 there:=fun b u q _=>⟨u,k b u q⟩
 tups:=fun b xs q=>by rw[je_ (jf_ q hn)];exact q
 frzs:=fun b u xs q=>by rw[je_ (jf_ q hn)];exact q
 tbls:=fun b ps q=>⟨#[],by rw[je_ (jf_ q hn),q];simp⟩
theorem Un.write (mu:Mut (H x)) (he:e=x∨H e=some (.own x)) (k:∀ b u,b≠e->h.get? b=some u->h'.get? b=some u) (heo:∃ u,h'.get? e=some u):Un fs ex H (upd H x o) h h':=by
 have hx:∀ b,H b=none->b≠x:=fun b n z=>by subst z;rw[n] at mu;exact mu
 have hb:∀ b,H b=none->b≠e:=fun b n z=>by
  subst z
  rcases he with r | r
  ·exact hx b n r
  ·rw[n] at r;cases r
 have hm:∀ b u,H b=some u->¬ Mut (some u)->b≠x:=fun b u q nm z=>by subst z;rw[q] at mu;exact nm mu
 refine⟨fun b u q n _ _=>k b u (hb b n) q,fun b u q n _ _=>⟨u.slots,k b u (hb b n) q⟩,fun b u q n _=>by rw[je_ (hx b n)];exact n,fun b u q _=>?_,
  fun b xs q=>by rw[je_ (hm b _ q fun z=>z)];exact q,fun b u xs q=>by rw[je_ (hm b _ q fun z=>z)];exact q,fun b ps q=>⟨#[],by rw[je_ (hm b _ q fun z=>z),q];simp⟩⟩
 by_cases hbe:b=e
 ·subst hbe;exact heo
 ·exact⟨u,k b u hbe q⟩
end
def trk (h:Heap) (H:Hp):List Addr:=(p3_ h.objs.size).filter fun a=>(H a).isSome
def hidT (h:Heap) (H:Hp):Heap:=PySem.W.hideAll h (trk h H)
theorem jlu_ (h:Heap) (H:Hp):(hidT h H).objs.size=h.objs.size:=PySem.W.hideAll_size _ _
theorem joj_ {h:Heap} {H:Hp} {b:Addr} {o:Obj} (e:h.get? b=some o) (n:H b=none):(hidT h H).get? b=some o :=
 PySem.W.hideAll_get _ e fun hm=>by
  have q:(H b).isSome=true:=(t8_.mp hm).2
  rw[n] at q;simp at q
theorem jqn_ {h:Heap} {H:Hp} {b:Addr} {o:Obj} (e:(hidT h H).get? b=some o):h.get? b=some o/\H b=none:=by
 have e':h.get? b=some o:=PySem.W.of_hideAll (trk h H) e
 refine⟨e',?_⟩
 cases q:H b with
 | none=>rfl
 | some x =>
  have hm:b∈trk h H:=t8_.mpr ⟨p4_.mpr (pm_ e'),by simp[q]⟩
  have z:(hidT h H).get? b=none:=PySem.W.hideAll_none (trk h H) hm
  rw[z] at e;cases e
end L2
namespace L2
open PySem PySem.Spec PyProof.Rows
structure Mod (K:pd_) (mg:Str->Option Value) (base:Heap):Prop where
 kin:K.In base
 glob:base.Ns mainGlobals mg
 blt:∃ mb,base.Ns builtinsNs mb/\∀ x:Str,x≠"__name__"->mb x=bootBuiltins x
 nolimit:base.NoLimit
structure Cx where
 prog:Program
 w:World
 K:pd_
 mg:Str->Option Value
 base:Heap
 A:Around
 N:List Str
 s₀:Shared
 H₀:Hp
 env:Env
 outer:List Env
 stack:List Env
 ex:List Addr
 fn:Str->Bool
 calm:Bool
 pn:List (Addr×Obj)
 xe:Value->Shared->Prop
def frs (l:List Env):List Addr:=l.filterMap (·.frame)
abbrev Cx.fs (X:Cx):List Addr:=frs X.outer
def Vis (sc:Scope) (x:Str):Prop:=sc.names.lookup x=some .local∨sc.names.lookup x=some .cell∨sc.names.lookup x=some .free
def Loc (sc:Scope) (x:Str):Prop:=sc.names.lookup x=some .local∨sc.names.lookup x=some .cell
def Look (env:Env) (h:Heap) (m:Str->Option Value) (x:Str) (u:Value):Prop :=
 (env.kindOf x=some .local/\m x=some u)∨((env.kindOf x=some .cell∨env.kindOf x=some .free)/\∃ c,env.cells.lookup x=some c/\h.IsCell c (some u))
structure Cx.Ok (X:Cx):Prop where
 mod:Mod X.K X.mg X.base
 kind:X.env.scope.kind=.function
 glob:X.env.globals=mainGlobals
 blt:X.env.builtins=builtinsNs
 above:X.s₀.heap.objs.size<=X.env.locals
 inj:∀ x y c,X.env.cells.lookup x=some c->X.env.cells.lookup y=some c->x=y
 has:∀ x,(X.env.kindOf x=some .cell∨X.env.kindOf x=some .free)->∃ c,X.env.cells.lookup x=some c
 cab:∀ x c,X.fn x=true->X.env.cells.lookup x=some c->X.s₀.heap.objs.size<=c
 hd:X.calm=true->X.A.handled=none
 frames:X.A.frames=some X.stack
 stk:X.stack=X.outer∨(X.stack=X.env::X.outer/\X.env.frame=some X.env.locals)
 exf:∀ b∈X.ex,b≠X.env.locals/\∀ x c,X.env.cells.lookup x=some c->c≠b
 bs:∀ b o,X.base.get? b=some o->X.s₀.heap.get? b=some o/\X.H₀ b=none
 bsz:X.base.objs.size<=X.s₀.heap.objs.size
 noex:∀ b o,X.base.get? b=some o->b∉X.ex
 exfs:∀ b∈X.ex,b∉X.fs
 funs:X.s₀.heap.FunFrames X.base X.outer
 frf:∀ b∈X.fs,X.H₀ b=none
structure Inv (X:Cx) (pins:List (Addr×Obj)) (σ:List (Option V)) (H:Hp) (s:Shared):Prop where
 ok:X.Ok
 os:s.os=X.s₀.os
 bare:AllBare s.gens
 base:Un X.fs X.ex X.H₀ H X.s₀.heap s.heap
 loc:∃ m,s.heap.Ns X.env.locals m/\∀(i:Nat) (x:Str) (v:V),X.N[i]?=some x->σ[i]?=some (some v)->Vis X.env.scope x->∃ u,RelV v u/\Look X.env s.heap m x u
 cell:∀ x c,X.env.cells.lookup x=some c->∃ v,s.heap.IsCell c v
 free:H X.env.locals=none
 freeC:∀ x c,X.env.cells.lookup x=some c->H c=none
 pin:∀ p∈X.pn++pins,s.heap.get? p.1=some p.2/\H p.1=none/\p.1≠X.env.locals/\p.1∉X.fs/\∀ v,p.2.data≠.cell v
 hok:HOk X.prog X.w H s.heap
 len:σ.length=X.N.length
section
variable {X:Cx} {pins:List (Addr×Obj)} {σ:List (Option V)} {H H':Hp} {s:Shared} {h':Heap}
theorem Cx.Ok.nofr (ok:X.Ok) {b:Addr} {o:Obj} (e:X.base.get? b=some o):b∉X.fs:=fun hb=>by
 have:=(ok.funs.mem hb).1
 rw[e] at this;cases this
theorem Inv.bs (I:Inv X pins σ H s):∀ b o,X.base.get? b=some o->s.heap.get? b=some o/\H b=none:=fun b o e =>
 ⟨I.base.keep b o (I.ok.bs b o e).1 (I.ok.bs b o e).2 (I.ok.nofr e) (I.ok.noex b o e),I.base.free b o (I.ok.bs b o e).1 (I.ok.bs b o e).2 (I.ok.noex b o e)⟩
theorem Inv.bk (I:Inv X pins σ H s):∀ b o,X.base.get? b=some o->s.heap.get? b=some o:=fun b o e=>(I.bs b o e).1
theorem Inv.mod (I:Inv X pins σ H s):Mod X.K X.mg X.base:=I.ok.mod
theorem Inv.kIn (I:Inv X pins σ H s):X.K.In s.heap:=I.ok.mod.kin.keeps I.bk
theorem Inv.lt (I:Inv X pins σ H s):X.env.locals < s.heap.objs.size:=let ⟨_,hn,_⟩:=I.loc;hn.lt
theorem Inv.sz (I:Inv X pins σ H s):X.s₀.heap.objs.size<=s.heap.objs.size:=qq_ I.ok.above (si_ I.lt)
theorem Inv.nofs (I:Inv X pins σ H s) {a:Addr} (h:s.heap.objs.size<=a):a∉X.fs:=fun hb=>by
 obtain⟨_,o,ho,_⟩:=I.ok.funs.mem hb
 exact absurd (p6_ (pm_ ho) (qq_ I.sz h)) (sj_ _)
theorem Inv.cne (I:Inv X pins σ H s):∀ x c,X.env.cells.lookup x=some c->c≠X.env.locals:=fun x c e z=>by
 obtain⟨v,o,ho,hd⟩:=I.cell x c e
 obtain⟨m,⟨o',es,ep,ho',hd',_⟩,_⟩:=I.loc
 rw[z,ho'] at ho;cases ho;rw[hd'] at hd;cases hd
theorem Inv.funs (I:Inv X pins σ H s):s.heap.FunFrames X.base X.outer:=by
 have all:∀(l:List Env),(∀ b∈frs l,b∈X.fs)->X.s₀.heap.FunFrames X.base l->s.heap.FunFrames X.base l:=by
  intro l
  induction l with
  | nil=>intro _ _;trivial
  | cons env r ih =>
   intro hs hl
   obtain⟨hk,⟨L,o,hf,hn,ho,hd⟩,hr⟩:=hl
   have hL:L∈X.fs:=hs L (by unfold frs;rw[qj_,hf];exact po_)
   obtain⟨sl,e⟩:=I.base.slot L o ho (I.ok.frf L hL) hL fun z=>I.ok.exfs L z hL
   exact⟨hk,⟨L,_,hf,hn,e,hd⟩,ih (fun b hb=>hs b (by unfold frs;rw[qj_,hf];exact pn_ _ hb)) hr⟩
 exact all X.outer (fun _ hb=>hb) I.ok.funs
theorem Inv.stack (I:Inv X pins σ H s):s.heap.FunFrames X.base X.stack:=by
 rcases I.ok.stk with e | ⟨e,hf⟩
 ·rw[e];exact I.funs
 ·rw[e]
  obtain⟨m,hn,_⟩:=I.loc
  refine .cons (by rw[I.ok.kind];decide) hf hn ?_ I.funs
  exact Heap.get?_none_of_le (qq_ I.ok.bsz I.ok.above)
theorem Inv.stkSub (I:Inv X pins σ H s):∀ b∈frs X.stack,b∈X.env.locals::X.fs:=fun b hb=>by
 rcases I.ok.stk with e | ⟨e,hf⟩
 ·rw[e] at hb;exact pn_ _ hb
 ·rw[e] at hb
  unfold frs at hb
  rw[qj_,hf] at hb
  exact hb
theorem Inv.stkFree (I:Inv X pins σ H s):∀ b∈frs X.stack,H b=none:=fun b hb=>by
 rcases pt_.mp (I.stkSub b hb) with e | hb
 ·rw[e];exact I.free
 ·obtain⟨_,o,ho,_⟩:=I.ok.funs.mem hb
  exact I.base.free b o ho (I.ok.frf b hb) fun z=>I.ok.exfs b z hb
theorem Inv.step {g':Array GenState} {t':Nat} {d':Drawn} {ch:List Addr} (I:Inv X pins σ H s)
  (hch:∀ b∈ch,(b∈X.ex∨X.s₀.heap.objs.size<=b)/\b≠X.env.locals/\(∀ x c,X.env.cells.lookup x=some c->c≠b)/\∀ p∈X.pn++pins,p.1≠b)
  (keep:∀ b o,b≠X.env.locals->b∉X.fs->b∉ch->s.heap.get? b=some o->H b=none->h'.get? b=some o)
  (slot:∀ b o,b≠X.env.locals->b∈X.fs->b∉ch->s.heap.get? b=some o->H b=none->∃ sl,h'.get? b=some { o with slots:=sl }) (free:∀ b o,b∉ch->s.heap.get? b=some o->H b=none->H' b=none)
  (there:∀ b o,b∉ch->s.heap.get? b=some o->∃ o',h'.get? b=some o')
  (tups:∀ b xs,H b=some (.tup xs)->H' b=some (.tup xs)) (frzs:∀ b o u,H b=some (.frz o u)->H' b=some (.frz o u)) (tbls:∀ b ps,H b=some (.tbl ps)->∃ more,H' b=some (.tbl (ps++more)))
  (ns:∀ m,s.heap.Ns X.env.locals m->h'.Ns X.env.locals m) (hok:HOk X.prog X.w H' h') (hg:AllBare g') :
  Inv X pins σ H' { s with heap:=h',gens:=g',drawn:=d',toks:=t' }:=by
 have neL:∀ b o,X.s₀.heap.get? b=some o->b≠X.env.locals:=fun b o e=>p7_ (p6_ (pm_ e) I.ok.above)
 have neC:∀ b o,X.s₀.heap.get? b=some o->b∉X.ex->b∉ch:=fun b o e hx hb=>by
  rcases (hch b hb).1 with z | z
  ·exact hx z
  ·exact absurd (p6_ (pm_ e) z) (sj_ _)
 have cellK:∀ x c,X.env.cells.lookup x=some c->∀ v,s.heap.IsCell c v->h'.IsCell c v:=fun x c e v ⟨o,ho,hd⟩=>by
  have nch:c∉ch:=fun z=>(hch c z).2.2.1 x c e rfl
  by_cases hc:c∈X.fs
  ·obtain⟨sl,q⟩:=slot c o (I.cne x c e) hc nch ho (I.freeC x c e)
   exact⟨_,q,hd⟩
  ·exact⟨o,keep c o (I.cne x c e) hc nch ho (I.freeC x c e),hd⟩
 refine⟨I.ok,I.os,hg,⟨fun b o e n hb hx=>?_,fun b o e n hb hx=>?_,fun b o e n hx=>?_,fun b o e hx=>?_,fun b xs e=>tups b xs (I.base.tups b xs e),fun b o xs e=>frzs b o xs (I.base.frzs b o xs e),fun b ps e=>?_⟩,?_,fun x c e=>?_,?_,fun x c e=>?_,fun p hp=>?_,hok,I.len⟩
 ·exact keep b o (neL b o e) hb (neC b o e hx) (I.base.keep b o e n hb hx) (I.base.free b o e n hx)
 ·obtain⟨sl,e1⟩:=I.base.slot b o e n hb hx
  obtain⟨sl',e2⟩:=slot b _ (neL b o e) hb (neC b o e hx) e1 (I.base.free b o e n hx)
  exact⟨sl',e2⟩
 ·obtain⟨o',e1⟩:=I.base.there b o e hx
  exact free b o' (neC b o e hx) e1 (I.base.free b o e n hx)
 ·obtain⟨o',e1⟩:=I.base.there b o e hx
  exact there b o' (neC b o e hx) e1
 ·obtain⟨m1,e1⟩:=I.base.tbls b ps e
  obtain⟨m2,e2⟩:=tbls b _ e1
  exact⟨m1++m2,by rw[e2,Array.append_assoc]⟩
 ·obtain⟨m,hn,hl⟩:=I.loc
  refine⟨m,ns m hn,fun i x v e1 e2 e3=>?_⟩
  obtain⟨u,r,l⟩:=hl i x v e1 e2 e3
  refine⟨u,r,?_⟩
  rcases l with l | ⟨k,c,e,z⟩
  ·exact .inl l
  ·exact .inr ⟨k,c,e,cellK x c e _ z⟩
 ·obtain⟨v,z⟩:=I.cell x c e
  exact⟨v,cellK x c e v z⟩
 ·obtain⟨m,⟨o,_,_,ho,_⟩,_⟩:=I.loc
  exact free _ o (fun z=>(hch _ z).2.1 rfl) ho I.free
 ·obtain⟨v,o,ho,hd⟩:=I.cell x c e
  exact free c o (fun z=>(hch c z).2.2.1 x c e rfl) ho (I.freeC x c e)
 ·obtain⟨e,n,ne,nf,d⟩:=I.pin p hp
  have nch:p.1∉ch:=fun z=>(hch p.1 z).2.2.2 p hp rfl
  exact⟨keep p.1 p.2 ne nf nch e n,free p.1 p.2 nch e n,ne,nf,d⟩
theorem Inv.un {t':Nat} (I:Inv X pins σ H s) (u:Un X.fs [] H H' s.heap h') (hok:HOk X.prog X.w H' h'):Inv X pins σ H' { s with heap:=h',toks:=t' }:=by
 obtain⟨m,⟨o,es,ep,ho,r⟩,_⟩:=id I.loc
 obtain⟨sl,hL⟩:=u.any ho I.free (by simp)
 exact I.step (g':=s.gens) (d':=s.drawn) (ch:=[]) (fun _ z=>nomatch z) (fun b o _ hb _ e n=>u.keep b o e n hb (by simp)) (fun b o _ hb _ e n=>u.slot b o e n hb (by simp)) (fun b o _ e n=>u.free b o e n (by simp)) (fun b o _ e=>u.there b o e (by simp)) u.tups u.frzs u.tbls (fun m' hm=>by
  obtain⟨o',es',ep',ho',r'⟩:=hm
  rw[ho] at ho';cases ho'
  exact⟨_,es',ep',hL,r'⟩) hok I.bare
theorem Inv.call {g':Array GenState} {t':Nat} {d':Drawn} {ch:List Addr} (I:Inv X pins σ H s) (u:Un (frs X.stack) ch H H' s.heap h') (hok:HOk X.prog X.w H' h') (hg:AllBare g')
  (hch:∀ b∈ch,(b∈X.ex∨X.s₀.heap.objs.size<=b)/\b≠X.env.locals/\(∀ x c,X.env.cells.lookup x=some c->c≠b)/\∀ p∈X.pn++pins,p.1≠b) :
  Inv X pins σ H' { s with heap:=h',gens:=g',drawn:=d',toks:=t' }:=by
 obtain⟨m,⟨o,es,ep,ho,r⟩,_⟩:=id I.loc
 obtain⟨sl,hL⟩:=u.any ho I.free fun z=>(hch _ z).2.1 rfl
 exact I.step (ch:=ch) hch (fun b o hL hb hc e n=>u.keep b o e n (fun z=>(pt_.mp (I.stkSub b z)).elim hL hb) hc) (fun b o _ _ hc e n=>u.any e n hc) (fun b o hc e n=>u.free b o e n hc) (fun b o hc e=>u.there b o e hc) u.tups u.frzs u.tbls (fun m' hm=>by
  obtain⟨o',es',ep',ho',r'⟩:=hm
  rw[ho] at ho';cases ho'
  exact⟨_,es',ep',hL,r'⟩) hok hg
theorem Inv.turned {t':Nat} {it:Addr} (I:Inv X pins σ H s) (k:∀ b o,b≠it->s.heap.get? b=some o->h'.get? b=some o) (hn:H it=none) (hL:it≠X.env.locals)
  (h1:it∈X.ex∨X.s₀.heap.objs.size<=it) (h2:∀ x c,X.env.cells.lookup x=some c->c≠it) (h3:∀ p∈X.pn++pins,p.1≠it):Inv X pins σ H { s with heap:=h',toks:=t' }:=by
 have nit:∀ b u,H b=some u->b≠it:=fun b u e z=>by rw[z,hn] at e;cases e
 refine I.step (g':=s.gens) (d':=s.drawn) (ch:=[it]) (fun b hb=>?_) (fun b o _ _ hc e _=>k b o (fun z=>hc (by simp[z])) e) (fun b o _ _ hc e _=>⟨o.slots,k b o (fun z=>hc (by simp[z])) e⟩) (fun _ _ _ _ n=>n)
  (fun b o hc e=>⟨o,k b o (fun z=>hc (by simp[z])) e⟩) (fun _ _ e=>e) (fun _ _ _ e=>e) (fun b ps e=>⟨#[],by rw[e];simp⟩) (fun m hm=>?_) (fun b u e=>?_) I.bare
 ·have e:b=it:=by simpa using hb
  subst e
  exact⟨h1,hL,h2,h3⟩
 ·obtain⟨o,es,ep,ho,r⟩:=hm
  exact⟨o,es,ep,k _ o (wx_ hL) ho,r⟩
 ·refine(I.hok b u e).stay (fun c v hc q=>k c v ?_ q) (fun _ q=>q) fun _ _ q=>q
  rcases hc with z | z
  ·rw[z];exact nit b u e
  ·exact nit c _ z
theorem Inv.tok (I:Inv X pins σ H s) (t:Nat):Inv X pins σ H { s with toks:=t }:=I.un (h':=s.heap) (t':=t) Un.refl I.hok
theorem Inv.kept {t':Nat} (I:Inv X pins σ H s) (k:∀ b u,s.heap.get? b=some u->h'.get? b=some u):Inv X pins σ H { s with heap:=h',toks:=t' }:=I.un (Un.kept k) (I.hok.kept k)
theorem Inv.laid {a:Addr} {o:HO} {t':Nat} (I:Inv X pins σ H s) (k:∀ b u,s.heap.get? b=some u->h'.get? b=some u) (hp:s.heap.objs.size<=a) (new:ObjOk X.prog X.w (upd H a o) h' a o) :
  Inv X pins σ (upd H a o) { s with heap:=h',toks:=t' }:=I.un (Un.laid k hp (I.hok.fresh hp)) (I.hok.laid k hp new)
theorem Inv.write {x e:Addr} {o:HO} {t':Nat} (I:Inv X pins σ H s) (mu:Mut (H x)) (he:e=x∨H e=some (.own x)) (k:∀ b u,b≠e->s.heap.get? b=some u->h'.get? b=some u) (heo:∃ u,h'.get? e=some u)
  (new:ObjOk X.prog X.w (upd H x o) h' x o):Inv X pins σ (upd H x o) { s with heap:=h',toks:=t' }:=I.un (Un.write mu he k heo) (I.hok.write mu he k heo new)
theorem Inv.pins_of {pins':List (Addr×Obj)} (I:Inv X pins σ H s) (h:∀ p∈pins',s.heap.get? p.1=some p.2/\H p.1=none/\p.1≠X.env.locals/\p.1∉X.fs/\∀ v,p.2.data≠.cell v):Inv X pins' σ H s :=
 ⟨I.ok,I.os,I.bare,I.base,I.loc,I.cell,I.free,I.freeC,fun p hp=>(pq_.mp hp).elim (fun z=>I.pin p (rw_ _ z)) (h p),I.hok,I.len⟩
theorem jfe_ {N:List Str} (hN:N.Nodup) {i j:Nat} {x:Str} (a:N[i]?=some x) (b:N[j]?=some x):i=j:=by
 obtain⟨h1,e1⟩:=pl_.mp a
 obtain⟨h2,e2⟩:=pl_.mp b
 exact(List.getElem_inj hN).mp (e1.trans e2.symm)
theorem jdj_ {M:Model} {A:Around} {E:Value->Shared->Prop} {i:Nat} {x:Str} {v:V} {u:Value} {Q:Unit->Shared->Prop} (I:Inv X pins σ H s) (hN:X.N.Nodup) (hi:X.N[i]?=some x) (hx:Loc X.env.scope x) (r:RelV v u)
  (h:∀ s',Inv X pins (σ.set i (some v)) H s'->(∃ a,rq_ a s.heap s'.heap/\(a=X.env.locals∨X.env.cells.lookup x=some a))->Q () s') (hf:X.fn x=true∨X.env.scope.names.lookup x=some .local:=by first | exact .inl rfl | exact .inr rfl | assumption):wpAny M A (storeName X.env x u) Q E s:=by
 obtain⟨m,hn,hl⟩:=id I.loc
 have hcls:(X.env.scope.kind == .class || (X.env.scope.kind == .module&&X.env.locals != X.env.globals))=false:=by rw[I.ok.kind];rfl
 have hiσ:i < σ.length:=by rw[I.len];exact(pl_.mp hi).1
 have cne:=I.cne
 have tracked:∀{a:Addr} {h':Heap},(∃ o,s.heap.get? a=some o/\H a=none)->rq_ a s.heap h'->HOk X.prog X.w H h':=fun{a h'} ha hs b ob e=>by
  obtain⟨_,_,hfree⟩:=ha
  refine(I.hok b ob e).stay (fun c w' hc q=>(hs.2 c ?_).trans q) (fun _ q=>q) fun _ _ q=>q
  rintro rfl
  rcases hc with rfl | hc
  ·rw[hfree] at e;cases e
  ·rw[hfree] at hc;cases hc
 rcases hx with hk | hk
 ·refine wpAny_storeName_local hk hn (fun h' hn' hs=>?_) hcls
  obtain⟨oL,_,_,hoL,_⟩:=id hn
  refine h _ ⟨I.ok,I.os,I.bare,⟨fun b o e n hb hx=>?_,fun b o e n hb hx=>?_,I.base.free,fun b o e hx=>?_,I.base.tups,I.base.frzs,I.base.tbls⟩,⟨_,hn',fun j y v' e1 e2 e3=>?_⟩,fun y c e=>?_,I.free,I.freeC,fun p hp=>?_,tracked ⟨oL,hoL,I.free⟩ hs,by simpa using I.len⟩ ⟨_,hs,.inl rfl⟩
  ·exact(hs.2 b (p7_ (p6_ (pm_ e) I.ok.above))).trans (I.base.keep b o e n hb hx)
  ·obtain⟨sl,e1⟩:=I.base.slot b o e n hb hx
   exact⟨sl,(hs.2 b (p7_ (p6_ (pm_ e) I.ok.above))).trans e1⟩
  ·obtain⟨o',e1⟩:=I.base.there b o e hx
   exact⟨o',(hs.2 b (p7_ (p6_ (pm_ e) I.ok.above))).trans e1⟩
  ·by_cases hj:j=i
   ·subst hj
    rw[hi] at e1;cases e1
    rw[ka_ hiσ] at e2
    cases e2
    exact⟨u,r,.inl ⟨hk,by simp⟩⟩
   ·rw[ks_ (wx_ hj)] at e2
    obtain⟨u',r',q⟩:=hl j y v' e1 e2 e3
    refine⟨u',r',?_⟩
    rcases q with ⟨k,e⟩ | ⟨k,c,e,z⟩
    ·refine .inl ⟨k,?_⟩
     have:y≠x:=fun e=>hj (jfe_ hN e1 (e▸hi))
     simp[this,e]
    ·exact .inr ⟨k,c,e,z.sameBut hs (cne y c e)⟩
  ·obtain⟨w',z⟩:=I.cell y c e
   exact⟨w',z.sameBut hs (cne y c e)⟩
  ·obtain⟨e,n,ne,nf,d⟩:=I.pin p hp
   exact⟨(hs.2 p.1 ne).trans e,n,ne,nf,d⟩
 ·have hfn:X.fn x=true:=by
   rcases hf with z | z
   ·exact z
   ·rw[z] at hk;cases hk
  obtain⟨c,hc⟩:=I.ok.has x (.inl hk)
  obtain⟨w',z⟩:=I.cell x c hc
  refine wpAny_storeName_cell I.ok.kind hk hc z (fun h' hc' hs=>?_)
  obtain⟨oc,hoc,hocd⟩:=id z
  refine h { s with heap:=h' } ⟨I.ok,I.os,I.bare,⟨fun b o e n hb hx=>?_,fun b o e n hb hx=>?_,I.base.free,fun b o e hx=>?_,I.base.tups,I.base.frzs,I.base.tbls⟩,⟨m,hn.sameBut hs (wx_ (cne x c hc)),fun j y v' e1 e2 e3=>?_⟩,fun y c' e=>?_,I.free,I.freeC,fun p hp=>?_,tracked ⟨oc,hoc,I.freeC x c hc⟩ hs,by simpa using I.len⟩ ⟨c,hs,.inr hc⟩
  ·exact(hs.2 b (p7_ (p6_ (pm_ e) (I.ok.cab x c hfn hc)))).trans (I.base.keep b o e n hb hx)
  ·obtain⟨sl,e1⟩:=I.base.slot b o e n hb hx
   exact⟨sl,(hs.2 b (p7_ (p6_ (pm_ e) (I.ok.cab x c hfn hc)))).trans e1⟩
  ·obtain⟨o',e1⟩:=I.base.there b o e hx
   exact⟨o',(hs.2 b (p7_ (p6_ (pm_ e) (I.ok.cab x c hfn hc)))).trans e1⟩
  ·by_cases hj:j=i
   ·subst hj
    rw[hi] at e1;cases e1
    rw[ka_ hiσ] at e2
    cases e2
    exact⟨u,r,.inr ⟨.inl hk,c,hc,hc'⟩⟩
   ·rw[ks_ (wx_ hj)] at e2
    obtain⟨u',r',q⟩:=hl j y v' e1 e2 e3
    refine⟨u',r',?_⟩
    rcases q with q | ⟨k,c',e,z'⟩
    ·exact .inl q
    ·refine .inr ⟨k,c',e,z'.sameBut hs ?_⟩
     rintro rfl
     exact hj (jfe_ hN e1 (I.ok.inj _ _ _ e hc▸hi))
  ·by_cases hcc:c'=c
   ·subst hcc;exact⟨_,hc'⟩
   ·obtain⟨w2,z2⟩:=I.cell y c' e
    exact⟨w2,z2.sameBut hs hcc⟩
  ·obtain⟨e,n,ne,nf,d⟩:=I.pin p hp
   refine⟨(hs.2 p.1 ?_).trans e,n,ne,nf,d⟩
   intro q
   rw[q,hoc] at e
   have q':oc=p.2:=Option.some.inj e
   exact d w' (by rw[<- q'];exact hocd)
theorem jey_ {M:Model} {A:Around} {E:Value->Shared->Prop} {i:Nat} {x:Str} {v:V} {u:Value} {Q:Unit->Shared->Prop} (I:Inv X pins σ H s) (hN:X.N.Nodup) (hi:X.N[i]?=some x) (hx:Loc X.env.scope x) (r:RelV v u)
  (h:∀ s',Inv X pins (σ.set i (some v)) H s'->Q () s') (hf:X.fn x=true∨X.env.scope.names.lookup x=some .local:=by first | exact .inl rfl | exact .inr rfl | assumption):wpAny M A (storeName X.env x u) Q E s :=
 jdj_ I hN hi hx r (fun s' I' _=>h s' I') hf
theorem Inv.call' {s':Shared} {ch:List Addr} (I:Inv X pins σ H s) (ho:s'.os=s.os) (u:Un (frs X.stack) ch H H' s.heap s'.heap) (hok:HOk X.prog X.w H' s'.heap) (hg:AllBare s'.gens)
  (hch:∀ b∈ch,(b∈X.ex∨X.s₀.heap.objs.size<=b)/\b≠X.env.locals/\(∀ x c,X.env.cells.lookup x=some c->c≠b)/\∀ p∈X.pn++pins,p.1≠b):Inv X pins σ H' s':=by
 obtain⟨h',g',d',t',o'⟩:=s'
 have e:o'=s.os:=ho
 subst e
 exact I.call (g':=g') (t':=t') (d':=d') u hok hg hch
end
abbrev XK:=Value->Option Addr->Hp->Prop
abbrev St:=List (Option V)
abbrev VK:=V->Hp->Prop
abbrev TE:=St->Hp->VK->Prop
abbrev TT:=St->Hp->(Bool->Hp->Prop)->Prop
abbrev TA:=St->Hp->(List V->Hp->Prop)->Prop
structure Ends where
 nx:St->Hp->Prop
 rt:VK
 bk:St->Hp->Prop:=fun _ _=>False
 ct:St->Hp->Prop:=fun _ _=>False
abbrev TS:=Ends->St->Hp->Prop
def EP (X:Cx) (pins:List (Addr×Obj)) (σ:St) (Q:VK) (u:Value) (s':Shared):Prop:=∃ v H',Inv X pins σ H' s'/\RelV v u/\Q v H'
def TP (X:Cx) (pins:List (Addr×Obj)) (σ:St) (Q:Bool->Hp->Prop) (b:Bool) (s':Shared):Prop:=∃ H',Inv X pins σ H' s'/\Q b H'
def AP (X:Cx) (pins:List (Addr×Obj)) (σ:St) (Q:List V->Hp->Prop) (us:List Value) (s':Shared):Prop:=∃ vs H',Inv X pins σ H' s'/\Vals vs us/\Q vs H'
def SP (X:Cx) (pins:List (Addr×Obj)) (D:Ends) (f:Flow) (s':Shared):Prop :=
 match f with
 | .next=>∃ σ' H',Inv X pins σ' H' s'/\D.nx σ' H'
 | .brk=>∃ σ' H',Inv X pins σ' H' s'/\D.bk σ' H'
 | .cont=>∃ σ' H',Inv X pins σ' H' s'/\D.ct σ' H'
 | .ret u=>∃ v σ' H',Inv X pins σ' H' s'/\RelV v u/\D.rt v H'
def PE (X:Cx) (e:Expr) (t:TE):Prop :=
 ∀(pins:List (Addr×Obj)) (s:Shared) (σ:St) (H:Hp) (Q:VK),Inv X pins σ H s->t σ H Q->wpAny (model X.prog X.w) X.A (eval e X.env) (EP X pins σ Q) X.xe s
def PT (X:Cx) (e:Expr) (t:TT):Prop :=
 ∀(pins:List (Addr×Obj)) (s:Shared) (σ:St) (H:Hp) (Q:Bool->Hp->Prop),Inv X pins σ H s->t σ H Q->wpAny (model X.prog X.w) X.A (isTrue e X.env (eval e X.env)) (TP X pins σ Q) X.xe s
def PW (X:Cx) (e:Expr) (t:TT):Prop :=
 ∀(whole:Sem Value) (pins:List (Addr×Obj)) (s:Shared) (σ:St) (H:Hp) (Q:Bool->Hp->Prop),Inv X pins σ H s->t σ H Q->wpAny (model X.prog X.w) X.A (isTrue e X.env whole) (TP X pins σ Q) X.xe s
theorem PW.pt {X:Cx} {e:Expr} {t:TT} (h:PW X e t):PT X e t:=h _
def PA (X:Cx) (es:List Expr) (t:TA):Prop :=
 ∀(pos:Pos) (pins:List (Addr×Obj)) (s:Shared) (σ:St) (H:Hp) (Q:List V->Hp->Prop),Inv X pins σ H s->t σ H Q->wpAny (model X.prog X.w) X.A (spliced (backTo pos (starEach es X.env))) (AP X pins σ Q) X.xe s
def PS (X:Cx) (st:Stmt) (t:TS):Prop :=
 ∀(pins:List (Addr×Obj)) (s:Shared) (σ:St) (H:Hp) (D:Ends),Inv X pins σ H s->t D σ H->wpAny (model X.prog X.w) X.A (exec st X.env) (SP X pins D) X.xe s
def PSs (X:Cx) (st:List Stmt) (t:TS):Prop :=
 ∀(pins:List (Addr×Obj)) (s:Shared) (σ:St) (H:Hp) (D:Ends),Inv X pins σ H s->t D σ H->wpAny (model X.prog X.w) X.A (execs st X.env) (SP X pins D) X.xe s
theorem thn {α:Type} {t:Sem α} {Q Q':α->Shared->Prop} {M:Model} {A:Around} {E:Value->Shared->Prop} {s:Shared} (h:wpAny M A t Q E s) (hQ:∀ a s,Q a s->Q' a s):wpAny M A t Q' E s:=wpAny_mono h hQ fun _ _ x=>x
end L2
namespace L2
open PySem PySem.Spec PyProof.Rows
section
variable {X:Cx}
theorem bin {a b:Expr} {ta tb:TE} (ha:PE X a ta) (hb:PE X b tb) {pins:List (Addr×Obj)} {s:Shared} {σ:St} {H:Hp} {R:V->V->Hp->Prop} (I:Inv X pins σ H s) (h:ta σ H fun x H1=>tb σ H1 fun y H2=>R x y H2)
  {α:Type} {Q:α->Shared->Prop} {f:Value->Value->Sem α}
  (hf:∀ v u s2 x y H2,Inv X pins σ H2 s2->RelV x v->RelV y u->R x y H2->wpAny (model X.prog X.w) X.A (f v u) Q X.xe s2) :
  wpAny (model X.prog X.w) X.A (eval a X.env) (fun v s₁=>wpAny (model X.prog X.w) X.A (eval b X.env) (fun u s₂=>wpAny (model X.prog X.w) X.A (f v u) Q X.xe s₂) X.xe s₁) X.xe s:=by
 refine thn (ha pins s σ H _ I h) fun v s1 ⟨x,H1,I1,r1,q1⟩=>?_
 refine thn (hb pins s1 σ H1 _ I1 q1) fun u s2 ⟨y,H2,I2,r2,q2⟩=>?_
 exact hf v u s2 x y H2 I2 r1 r2 q2
def tVar (i:Nat):TE:=fun σ H Q=>∃ v,σ[i]?=some (some v)/\Q v H
def tC (v:V):TE:=fun _ H Q=>Q v H
theorem jtw_ {i:Nat} {x:Str} {pos:Pos} (hN:X.N[i]?=some x) (hv:Vis X.env.scope x) (hd:(x == ("__debug__":Str))=false:=by decide) (hcd:(x == ("__classdict__":Str))=false:=by decide):PE X (.Name x pos) (tVar i):=by
 intro pins s σ H Q I h
 obtain⟨v,e,h⟩:=h
 obtain⟨m,hn,hl⟩:=I.loc
 obtain⟨u,r,l⟩:=hl i x v hN e hv
 have fin:EP X pins σ Q u s:=⟨v,H,I,r,h⟩
 rcases l with ⟨hk,hm⟩ | ⟨hk,c,hc,hcell⟩
 ·exact wpAny_Name (wpAny_loadName_local I.ok.kind hk hn hm fin) hd
 ·rcases hk with hk | hk
  ·exact wpAny_Name (wpAny_loadName_cell I.ok.kind hk hc hcell fin) hd
  ·exact wpAny_Name (wpAny_loadName_free I.ok.kind hk hc hcell fin hcd) hd
theorem pe_int {i j pos}:PE X (.Constant (.int i) j pos) (tC (.int i)):=fun _ _ _ H _ I h=>wpAny_Constant_int ⟨.int i,H,I.tok _,⟨_,rfl⟩,h⟩
theorem pe_bl {b j pos}:PE X (.Constant (.bool b) j pos) (tC (.bl b)):=fun _ _ _ H _ I h=>Constant_bool ⟨.bl b,H,I,rfl,h⟩
theorem xj_ {j pos}:PE X (.Constant .none j pos) (tC .non):=fun _ _ _ H _ I h=>Constant_none ⟨.non,H,I,rfl,h⟩
theorem pe_str {x j pos}:PE X (.Constant (.str x) j pos) (tC (.str x)):=fun _ _ _ H _ I h=>Calls.Constant_str ⟨.str x,H,I.tok _,⟨_,rfl⟩,h⟩
def Gl (X:Cx) (x:Str):Prop:=X.env.kindOf x=some .globalImplicit
theorem jsc_ {E:Value->Shared->Prop} {pins:List (Addr×Obj)} {s:Shared} {σ:St} {H:Hp} {x:Str} {u:Value} {pos:Pos} {Q:Value->Shared->Prop} (I:Inv X pins σ H s) (hg:Gl X x) (hm:X.mg x=some u) (h:Q u s)
  (hd:(x == ("__debug__":Str))=false:=by decide):wpAny (model X.prog X.w) X.A (eval (.Name x pos) X.env) Q E s :=
 wc_ I.ok.kind hg (Calls.loadGlobal_global (by rw[I.ok.glob];exact I.mod.glob.keeps I.bk) hm h) hd
theorem yw_ {E:Value->Shared->Prop} {pins:List (Addr×Obj)} {s:Shared} {σ:St} {H:Hp} {x:Str} {u:Value} {pos:Pos} {Q:Value->Shared->Prop} (I:Inv X pins σ H s) (hg:Gl X x) (hm:X.mg x=none) (hv:bootBuiltins x=some u) (h:Q u s)
  (hn:x≠"__name__":=by decide) (hd:(x == ("__debug__":Str))=false:=by decide):wpAny (model X.prog X.w) X.A (eval (.Name x pos) X.env) Q E s:=by
 obtain⟨mb,h1,h2⟩:=I.mod.blt
 exact wc_ I.ok.kind hg (Calls.loadGlobal_builtin (by rw[I.ok.glob];exact I.mod.glob.keeps I.bk) hm (by rw[I.ok.blt];exact h1.keeps I.bk) ((h2 x hn).trans hv) h) hd
theorem zj_ {x:Str} {v:V} {u:Value} {pos:Pos} (hg:Gl X x) (hm:X.mg x=none) (hv:bootBuiltins x=some u) (r:RelV v u) (hn:x≠"__name__":=by decide) (hd:(x == ("__debug__":Str))=false:=by decide):PE X (.Name x pos) (tC v) :=
 fun _ _ _ H _ I h=>yw_ I hg hm hv ⟨v,H,I,r,h⟩ hn hd
variable {a b:Expr} {ta tb:TE} {pos:Pos}
variable {tA tB':TT} {rest:List Expr}
def tAnd (t u:TT):TT:=fun σ H Q=>t σ H fun c H1=>if c=true then u σ H1 Q else Q false H1
def tOr (t u:TT):TT:=fun σ H Q=>t σ H fun c H1=>if c=true then Q true H1 else u σ H1 Q
def tNot (t:TT):TT:=fun σ H Q=>t σ H fun c H1=>Q (!c) H1
theorem jdo_ (ha:PT X a tA):PW X (.BoolOp .And [a] pos) tA:=by
 intro wh pins s σ H Q I h
 refine isTrue_and (thn (ha pins s σ H Q I h) fun c s1 e=>?_)
 cases c with
 | true=>exact isTrue_and_nil e
 | false=>exact e
theorem jem_ (ha:PT X a tA):PW X (.BoolOp .Or [a] pos) tA:=by
 intro wh pins s σ H Q I h
 refine isTrue_or (thn (ha pins s σ H Q I h) fun c s1 e=>?_)
 cases c with
 | false=>exact isTrue_or_nil e
 | true=>exact e
theorem jhf_ (ha:PT X a tA) (hb:PW X (.BoolOp .And (b::rest) pos) tB'):PW X (.BoolOp .And (a::b::rest) pos) (tAnd tA tB'):=by
 intro wh pins s σ H Q I h
 refine isTrue_and (thn (ha pins s σ H _ I h) fun c s1 ⟨H1,I1,q1⟩=>?_)
 cases c with
 | true=>exact hb wh pins s1 σ H1 Q I1 q1
 | false=>exact⟨H1,I1,q1⟩
theorem jko_ (ha:PT X a tA) (hb:PW X (.BoolOp .Or (b::rest) pos) tB'):PW X (.BoolOp .Or (a::b::rest) pos) (tOr tA tB'):=by
 intro wh pins s σ H Q I h
 refine isTrue_or (thn (ha pins s σ H _ I h) fun c s1 ⟨H1,I1,q1⟩=>?_)
 cases c with
 | true=>exact⟨H1,I1,q1⟩
 | false=>exact hb wh pins s1 σ H1 Q I1 q1
theorem jim_ (ha:PT X a tA):PT X (.UnaryOp .Not a pos) (tNot tA):=by
 intro pins s σ H Q I h
 exact isTrue_not (ha pins s σ H (fun c H1=>Q (!c) H1) I h)
def jsw_ (ta tb:TE):TE:=fun σ H Q=>ta σ H fun x H1=>∃ c,x=.bl c/\if c=true then tb σ H1 Q else Q (.bl false) H1
theorem jeg_ {op} {t:TE} (h:PE X a t):PE X (.BoolOp op [a] pos) t:=fun pins s σ H Q I hw=>BoolOp_one (h pins s σ H Q I hw)
theorem jax_ (ha:PE X a ta) (hb:PE X (.BoolOp .And (b::rest) pos) tb):PE X (.BoolOp .And (a::b::rest) pos) (jsw_ ta tb):=by
 intro pins s σ H Q I h
 refine BoolOp_and (thn (ha pins s σ H _ I h) fun v s1 ⟨x,H1,I1,r1,q1⟩=>?_)
 obtain⟨c,rfl,q1⟩:=q1
 cases r1
 refine wpAny_truthy_bool ?_
 cases c with
 | true=>exact hb pins s1 σ H1 Q I1 q1
 | false=>exact⟨.bl false,H1,I1,rfl,q1⟩
end
end L2
namespace L2
open PySem PySem.Spec PyProof.Rows
def SqL (K:pd_) (H:Hp) (a:Addr) (xs:List V):Prop :=
 Rd H a (.lst xs) ∨
  ∃(o:Obj) (its:Array Value) (n:Nat),K.lookup a=some o/\o.cls=.type "list"/\o.dict=none/\o.data=.seq its n/\its.size<=sizeLine/\Vals xs its.toList
def SqT (K:pd_) (H:Hp) (a:Addr) (xs:List V):Prop :=
 Rd H a (.tup xs) ∨
  ∃(o:Obj) (its:Array Value) (n:Nat),K.lookup a=some o/\o.cls=.type "tuple"/\o.data=.seq its n/\its.size<=sizeLine/\Vals xs its.toList
def absV:Value->Option V
 | .none=>some .non
 | .bool b=>some (.bl b)
 | .int i _=>some (.int i)
 | .str x _=>some (.str x)
 | .bytes b _=>some (.byt b)
 | .float b _=>some (.flt b)
 | .ref a=>some (.ref a)
 | .type n=>some (.ty n)
 | _=>none
theorem RelV.abs {x:V} {u:Value} (r:RelV x u):absV u=some x:=by
 cases x with
 | non=>cases r;rfl
 | bl _=>cases r;rfl
 | int _=>obtain⟨t,rfl⟩:=r;rfl
 | str _=>obtain⟨t,rfl⟩:=r;rfl
 | byt _=>obtain⟨t,rfl⟩:=r;rfl
 | flt _=>obtain⟨t,rfl⟩:=r;rfl
 | ref _=>cases r;rfl
 | ty _=>cases r;rfl
theorem RelV.inj {x y:V} {u:Value} (r:RelV x u) (q:RelV y u):x=y:=Option.some.inj (r.abs.symm.trans q.abs)
theorem Vals.inj:∀{xs ys:List V} {us:List Value},Vals xs us->Vals ys us->xs=ys
 | _,_,_,.nil,.nil=>rfl
 | _,_,_,.cons r t,.cons r' t'=>by rw[r.inj r',Vals.inj t t']
section
variable {X:Cx} {pins:List (Addr×Obj)} {σ:St} {H:Hp} {s:Shared} {a:Addr} {xs ys:List V}
theorem SqL.of {K:pd_} (h:H a=some (.lst xs)):SqL K H a xs:=.inl (.inl h)
theorem SqT.of {K:pd_} (h:H a=some (.tup xs)):SqT K H a xs:=.inl (.inl h)
theorem Inv.list (I:Inv X pins σ H s) (h:SqL X.K H a xs):∃ its:List Value,Vals xs its/\PlainL s.heap a its.toArray/\xs.length<=sizeLine:=by
 rcases h with h | ⟨o,its,n,hk,hc,hd,hs,hz,r⟩
 ·obtain⟨z,its,n,r,e⟩:=h.ok I.hok
  exact⟨its,r,⟨_,n,e,rfl,rfl,rfl⟩,z⟩
 ·refine⟨its.toList,r,⟨o,n,I.kIn a o hk,hc,hd,by simpa using hs⟩,?_⟩
  have e:=r.length
  simp only[sk_] at e
  omega
theorem Inv.tuple (I:Inv X pins σ H s) (h:SqT X.K H a xs):∃ its:List Value,Vals xs its/\IsTup s.heap a its.toArray/\xs.length<=sizeLine:=by
 rcases h with h | ⟨o,its,n,hk,hc,hs,hz,r⟩
 ·obtain⟨z,its,r,p⟩:=h.ok I.hok
  exact⟨its,r,p,z⟩
 ·refine⟨its.toList,r,⟨o,I.kIn a o hk,hc,n,by simpa using hs⟩,?_⟩
  have e:=r.length
  simp only[sk_] at e
  omega
theorem Inv.list_inj (I:Inv X pins σ H s) (h:SqL X.K H a xs) (h':SqL X.K H a ys):xs=ys:=by
 obtain⟨its,r,⟨o,n,e,_,_,d⟩,_⟩:=I.list h
 obtain⟨its',r',⟨o',n',e',_,_,d'⟩,_⟩:=I.list h'
 rw[e] at e';cases e'
 rw[d] at d'
 injection d' with d1 _
 have:its=its':=by simpa using congrArg le_ d1
 subst this
 exact r.inj r'
theorem Inv.tuple_inj (I:Inv X pins σ H s) (h:SqT X.K H a xs) (h':SqT X.K H a ys):xs=ys:=by
 obtain⟨its,r,⟨o,e,_,n,d⟩,_⟩:=I.tuple h
 obtain⟨its',r',⟨o',e',_,n',d'⟩,_⟩:=I.tuple h'
 rw[e] at e';cases e'
 rw[d] at d'
 injection d' with d1 _
 have:its=its':=by simpa using congrArg le_ d1
 subst this
 exact r.inj r'
end
abbrev Cx.wish (X:Cx) (E:Value->Shared->Prop):Cx:={ X with xe:=E }
abbrev Cx.nox (X:Cx):Cx:=X.wish fun _ _=>False
theorem Cx.Ok.wish {X:Cx} (ok:X.Ok) (E:Value->Shared->Prop):(X.wish E).Ok :=
 ⟨ok.mod,ok.kind,ok.glob,ok.blt,ok.above,ok.inj,ok.has,ok.cab,ok.hd,ok.frames,ok.stk,ok.exf,ok.bs,ok.bsz,ok.noex,ok.exfs,ok.funs,ok.frf⟩
theorem Cx.Ok.unwish {X:Cx} {E:Value->Shared->Prop} (ok:(X.wish E).Ok):X.Ok :=
 ⟨ok.mod,ok.kind,ok.glob,ok.blt,ok.above,ok.inj,ok.has,ok.cab,ok.hd,ok.frames,ok.stk,ok.exf,ok.bs,ok.bsz,ok.noex,ok.exfs,ok.funs,ok.frf⟩
section
variable {X:Cx} {pins:List (Addr×Obj)} {σ:St} {H:Hp} {s:Shared} {E:Value->Shared->Prop}
theorem Inv.wish (I:Inv X pins σ H s) (E:Value->Shared->Prop):Inv (X.wish E) pins σ H s:=⟨I.ok.wish E,I.os,I.bare,I.base,I.loc,I.cell,I.free,I.freeC,I.pin,I.hok,I.len⟩
theorem Inv.unwish (I:Inv (X.wish E) pins σ H s):Inv X pins σ H s:=⟨I.ok.unwish,I.os,I.bare,I.base,I.loc,I.cell,I.free,I.freeC,I.pin,I.hok,I.len⟩
theorem SP.unwish {D:Ends} {f:Flow} {s':Shared} (h:SP (X.wish E) pins D f s'):SP X pins D f s':=by
 cases f with
 | next=>obtain⟨σ',H',I,q⟩:=h;exact⟨σ',H',I.unwish,q⟩
 | brk=>obtain⟨σ',H',I,q⟩:=h;exact⟨σ',H',I.unwish,q⟩
 | cont=>obtain⟨σ',H',I,q⟩:=h;exact⟨σ',H',I.unwish,q⟩
 | ret u=>obtain⟨v,σ',H',I,r,q⟩:=h;exact⟨v,σ',H',I.unwish,r,q⟩
theorem PSs.nox {st:List Stmt} {t:TS} (h:PSs X.nox st t):PSs X st t:=fun pins s σ H D I hw =>
 wpAny_mono (h pins s σ H D (I.wish _) hw) (fun _ _ q=>q.unwish) fun _ _ z=>s1_ z
end
section
variable {X:Cx} {st:Stmt} {rest:List Stmt} {t u:TS} {e:Expr} {te:TE} {pos:Pos}
def jsv_:TS:=fun D σ H=>D.nx σ H
def tSeq (t u:TS):TS:=fun D σ H=>t { D with nx:=u D } σ H
theorem jy_:PSs X [] jsv_:=fun _ _ σ H _ I h=>wpAny_execs_nil ⟨σ,H,I,h⟩
theorem jc_ (h1:PS X st t) (h2:PSs X rest u):PSs X (st::rest) (tSeq t u):=by
 intro pins s σ H D I h
 refine wpAny_execs_cons (thn (h1 pins s σ H { D with nx:=u D } I h) fun f s1 q=>?_)
 cases f with
 | next =>
  obtain⟨σ',H',I',q⟩:=q
  exact h2 pins s1 σ' H' D I' q
 | ret v=>exact q
 | brk=>exact q
 | cont=>exact q
theorem jh_ (h1:PS X st t):PSs X [st] t:=by
 intro pins s σ H D I h
 refine wpAny_execs_cons (thn (h1 pins s σ H D I h) fun f s1 q=>?_)
 cases f with
 | next=>exact wpAny_execs_nil q
 | ret v=>exact q
 | brk=>exact q
 | cont=>exact q
theorem Inv.quiet {pins:List (Addr×Obj)} {σ:St} {H:Hp} {s:Shared} (I:Inv X pins σ H s):interactive X.env=false:=by simp[interactive,I.ok.kind]
def jtg_ (te:TE):TS:=fun D σ H=>te σ H fun _ H1=>D.nx σ H1
theorem z2_ (he:PE X e te) (hs:swapsWith e none pos.line X.env=pure false:=by rfl):PS X (.Expr e pos) (jtg_ te):=by
 intro pins s σ H D I h
 exact wpAny_Expr_any (thn (he pins s σ H _ I h) fun v s1 ⟨x,H1,I1,r1,q1⟩=>⟨σ,H1,I1,q1⟩) I.quiet hs
def tRet (te:TE):TS:=fun D σ H=>te σ H D.rt
theorem jq_ (he:PE X e te):PS X (.Return (some e) pos) (tRet te):=by
 intro pins s σ H D I h
 exact wpAny_Return_some (thn (he pins s σ H _ I h) fun v s1 ⟨x,H1,I1,r1,q1⟩=>⟨x,σ,H1,I1,r1,q1⟩)
def tIfS (c:TT) (t u:TS):TS:=fun D σ H=>c σ H fun b H1=>if b=true then t D σ H1 else u D σ H1
theorem zg_ {c:Expr} {a b:List Stmt} {tc:TT} (hc:PT X c tc) (ha:PSs X a t) (hb:PSs X b u):PS X (.If c a b pos) (tIfS tc t u):=by
 intro pins s σ H D I h
 refine wpAny_If (thn (hc pins s σ H _ I h) fun d s1 ⟨H1,I1,q1⟩=>?_)
 cases d with
 | true=>exact ha pins s1 σ H1 D I1 q1
 | false=>exact hb pins s1 σ H1 D I1 q1
end
abbrev TG:=V->St->Hp->(St->Hp->Prop)->Prop
abbrev TGs:=List V->St->Hp->(St->Hp->Prop)->Prop
def PG (X:Cx) (target:Expr) (t:TG):Prop :=
 ∀(pins:List (Addr×Obj)) (s:Shared) (σ:St) (H:Hp) (v:V) (u:Value) (Q:St->Hp->Prop),Inv X pins σ H s->RelV v u->t v σ H Q ->
  wpAny (model X.prog X.w) X.A (assign target X.env u) (fun _ s'=>∃ σ' H',Inv X pins σ' H' s'/\Q σ' H') X.xe s
def PGs (X:Cx) (ts:List Expr) (t:TGs):Prop :=
 ∀(pins:List (Addr×Obj)) (s:Shared) (σ:St) (H:Hp) (vs:List V) (us:List Value) (Q:St->Hp->Prop),Inv X pins σ H s->Vals vs us->t vs σ H Q ->
  wpAny (model X.prog X.w) X.A (assignInOrder ((assignEach ts X.env).map (·.2)) us) (fun _ s'=>∃ σ' H',Inv X pins σ' H' s'/\Q σ' H') X.xe s
abbrev TSet:=V->V->V->Hp->(Hp->Prop)->Prop
def PSet (X:Cx) (t:TSet):Prop :=
 ∀(pins:List (Addr×Obj)) (s:Shared) (σ:St) (H:Hp) (o i v:V) (ov iv u:Value) (Q:Hp->Prop),Inv X pins σ H s->RelV o ov->RelV i iv->RelV v u->t o i v H Q ->
  wpAny (model X.prog X.w) X.A (setItem ov iv u) (fun _ s'=>∃ H',Inv X pins σ H' s'/\Q H') X.xe s
section
variable {X:Cx} {pos:Pos}
def jkb_ (i:Nat):TG:=fun v σ H Q=>Q (σ.set i (some v)) H
theorem jn_ {i:Nat} {x:Str} (hN:X.N.Nodup) (hi:X.N[i]?=some x) (hx:Loc X.env.scope x) (hf:X.fn x=true∨X.env.scope.names.lookup x=some .local:=by first | exact .inl rfl | exact .inr rfl | assumption):PG X (.Name x pos) (jkb_ i):=by
 intro pins s σ H v u Q I r h
 exact wpAny_assign_Name (jey_ I hN hi hx r (fun s' I'=>⟨_,H,I',h⟩) hf)
def gNil:TGs:=fun vs σ H Q=>vs=[]/\Q σ H
def jsk_ (t:TG) (u:TGs):TGs:=fun vs σ H Q=>∃ v r,vs=v::r/\t v σ H fun σ' H'=>u r σ' H' Q
theorem xl_:PGs X [] gNil:=by
 intro pins s σ H vs us Q I r h
 obtain⟨e,h⟩:=h
 subst e
 cases r
 exact assignInOrder_nil ⟨σ,H,I,h⟩
theorem zb_ {e:Expr} {es:List Expr} {t:TG} {u:TGs} (h1:PG X e t) (h2:PGs X es u)
  (hs:(assignEach (e::es) X.env).map (·.2)=assign e X.env::(assignEach es X.env).map (·.2):=by rfl):PGs X (e::es) (jsk_ t u):=by
 intro pins s σ H vs us Q I r h
 obtain⟨v,vr,e1,h⟩:=h
 subst e1
 cases r with
 | cons r rr =>
  rw[hs]
  refine assignInOrder_cons (thn (h1 pins s σ H _ _ _ I r h) fun _ s1 ⟨σ1,H1,I1,q1⟩=>?_)
  exact h2 pins s1 σ1 H1 _ _ Q I1 rr q1
def gTup (K:pd_) (n:Nat) (t:TGs):TG:=fun v σ H Q=>∃ a xs,v=.ref a/\SqT K H a xs/\xs.length=n/\t xs σ H Q
theorem u8_ {es:List Expr} {k:Nat} {t:TGs} {n:Nat} (hc:X.calm=true) (h:PGs X es t)
  (hn:(assignEach es X.env).length=n:=by rfl) (hst:(assignEach es X.env).findIdx? (·.1)=none:=by rfl):PG X (.Tuple es k pos) (gTup X.K n t):=by
 intro pins s σ H v u Q I r hw
 obtain⟨a,xs,e1,hq,hl,hw⟩:=hw
 subst e1
 cases r
 obtain⟨its,rv,ht,hz⟩:=I.tuple hq
 refine assign_Tuple_tuple (I.ok.hd hc) ht (by simp[hn,<- hl,rv.length]) hst fun h' hx=>?_
 have I1:Inv X pins σ H { s with heap:=h' }:=I.kept (t':=s.toks) fun b o e=>hx b o (p7_ (pm_ e)) e
 exact h pins _ σ H xs _ Q I1 (by simpa using rv) hw
def gSub (to ti:TE) (t:TSet):TG:=fun v σ H Q=>to σ H fun o H1=>ti σ H1 fun i H2=>t o i v H2 fun H3=>Q σ H3
theorem jid_ {o i:Expr} {to ti:TE} {t:TSet} (ho:PE X o to) (hi:PE X i ti) (hs:PSet X t)
  (ha:∀ v,assign (.Subscript o i pos) X.env v=(do
   let ov <- holding [v] (eval o X.env)
   let iv <- holding [v,ov] (eval i X.env)
   standAt pos
   holding [v,ov,iv] (setItem ov iv v)
   release [v,ov,iv] []):=by intro _;rfl):PG X (.Subscript o i pos) (gSub to ti t):=by
 intro pins s σ H v u Q I r h
 rw[ha]
 refine wpAny_bind (wpAny_holding (thn (ho pins s σ H _ I h) fun ov s1 ⟨x,H1,I1,r1,q1⟩=>?_))
 refine wpAny_bind (wpAny_holding (thn (hi pins s1 σ H1 _ I1 q1) fun iv s2 ⟨y,H2,I2,r2,q2⟩=>?_))
 refine wpAny_bind (wpAny_standAt (wpAny_bind (wpAny_holding (thn (hs pins s2 σ H2 x y v ov iv u _ I2 r1 r2 r q2) fun _ s3 ⟨H3,I3,q3⟩=>?_))))
 exact wpAny_release ⟨σ,H3,I3,q3⟩
def tAsg (te:TE) (g:TG):TS:=fun D σ H=>te σ H fun x H1=>g x σ H1 D.nx
theorem jiw_ {tg e:Expr} {te:TE} {g:TG} (he:PE X e te) (hg:PG X tg g) (hs:swapsWithSole [tg] e pos.line X.env=pure false:=by rfl) (hw:swappedStores [tg] e X.env=pure none:=by rfl)
  (h1:(assignEach [tg] X.env).map (·.2)=[assign tg X.env]:=by rfl):PS X (.Assign [tg] e pos) (tAsg te g):=by
 intro pins s σ H D I h
 refine wpAny_Assign_stores (thn (he pins s σ H _ I h) fun v s1 ⟨x,H1,I1,r1,q1⟩=>?_) hs hw
 rw[h1]
 exact thn (hg pins s1 σ H1 x v _ I1 r1 q1) fun _ s2 q=>q
theorem jj_ {i:Nat} {x:Str} {e:Expr} {te:TE} {pos':Pos} (hN:X.N.Nodup) (hi:X.N[i]?=some x) (hx:Loc X.env.scope x) (he:PE X e te) (hs:swapsWith e (some (.Name x pos')) pos.line X.env=pure false:=by rfl) (hf:X.fn x=true∨X.env.scope.names.lookup x=some .local:=by first | exact .inl rfl | exact .inr rfl | assumption) :
  PS X (.Assign [.Name x pos'] e pos) (tAsg te (jkb_ i)):=by
 intro pins s σ H D I h
 refine wpAny_Assign_Name (thn (he pins s σ H _ I h) fun v s1 ⟨y,H1,I1,r1,q1⟩=>?_) hs
 exact jey_ I1 hN hi hx r1 (fun s2 I2=>⟨_,H1,I2,q1⟩) hf
end
section
variable {X:Cx} {pos:Pos}
def jov_ (c:TT) (tb:TS):TS:=fun D σ H=>∃ W:Nat->St->Hp->Prop,(∃ m,W m σ H)/\∀ m σ H,W m σ H ->
 c σ H fun b H1=>if b=true then ∃ N:St->Hp->Prop,(∀ σ' H',N σ' H'->∃ m',m' < m/\W m' σ' H')/\tb { D with nx:=N,ct:=N,bk:=D.nx } σ H1 else D.nx σ H1
theorem jnd_ {c:Expr} {body:List Stmt} {tc:TT} {tb:TS} (hp:PassesOwn (model X.prog X.w) X.A X.env X.xe) (hc:PT X c tc) (hb:PSs X body tb):PS X (.While c body [] pos) (jov_ tc tb):=by
 intro pins s σ H D I h
 obtain⟨W,⟨m0,w0⟩,turn⟩:=h
 refine wpAny_While (codeAny_whileLoop (fun n s'=>∃ σ' H',Inv X pins σ' H' s'/\W n σ' H') ?_ m0 ⟨σ,H,I,w0⟩)
 rintro n s1 ⟨σ1,H1,I1,w1⟩
 refine wpAny_passesOwn hp (thn (hc pins s1 σ1 H1 _ I1 (turn n σ1 H1 w1)) fun b s2 ⟨H2,I2,q2⟩=>?_)
 cases b with
 | true =>
  obtain⟨N,hN,q2⟩:=q2
  rw[if_pos rfl]
  refine wpAny_passesOwn hp (thn (hb pins s2 σ1 H2 _ I2 q2) fun f s3 q3=>?_)
  cases f with
  | next =>
   obtain⟨σ3,H3,I3,n3⟩:=q3
   obtain⟨m',hm,w3⟩:=hN σ3 H3 n3
   exact⟨m',hm,σ3,H3,I3,w3⟩
  | cont =>
   obtain⟨σ3,H3,I3,n3⟩:=q3
   obtain⟨m',hm,w3⟩:=hN σ3 H3 n3
   exact⟨m',hm,σ3,H3,I3,w3⟩
  | brk=>exact q3
  | ret v=>exact q3
 | false =>
  rw[if_neg pp_]
  exact wpAny_execs_nil ⟨σ1,H2,I2,q2⟩
end
structure It where
 go:Nat->Hp->Prop
 yld:Nat->Hp->V->Hp->Prop
 stop:Nat->Hp->Prop
def FpOk (X:Cx) (pins:List (Addr×Obj)) (H:Hp) (b:Addr):Prop :=
 H b=none/\b≠X.env.locals/\b∉X.fs/\(b∈X.ex∨X.s₀.heap.objs.size<=b)/\(∀ x c,X.env.cells.lookup x=some c->c≠b)/\∀ p∈X.pn++pins,p.1≠b
theorem Inv.fpOk {X:Cx} {pins:List (Addr×Obj)} {σ:St} {H H':Hp} {s:Shared} {b:Addr} (I:Inv X pins σ H s) (hb:s.heap.objs.size<=b) (hn:H' b=none):FpOk X pins H' b:=by
 refine⟨hn,we_ (p6_ I.lt hb),I.nofs hb,.inr (qq_ I.sz hb),fun x c e z=>?_,fun p hp z=>?_⟩
 ·obtain⟨v,q⟩:=I.cell x c e
  exact absurd (p6_ q.lt (by rw[z];exact hb)) (sj_ _)
 ·exact absurd (p6_ (pm_ (I.pin p hp).1) (by rw[z];exact hb)) (sj_ _)
structure Turn (P:Program) (w:World) (K:pd_) (tg:Expr) (J:It) (fp:List Addr) (it:Addr) (tn:Nat->Heap->Prop):Prop where
 mem:it∈fp
 obj:∀ i h,tn i h->∀ b∈fp,∃ o,h.get? b=some o/\∀ v,o.data≠.cell v
 keep:∀ i h h',tn i h->(∀ b∈fp,∀ o,h.get? b=some o->h'.get? b=some o)->tn i h'
 item:∀(X:Cx),X.prog=P->X.w=w->X.K=K->X.calm=true->∀(i:Nat) (pins:List (Addr×Obj)) (s:Shared) (σ:St) (H:Hp) (E:Value->Shared->Prop),Inv X pins σ H s->(∀ b∈fp,FpOk X pins H b)->tn i s.heap->J.go i H ->
  wpAny (model P w) X.A (pyNext (.ref it)) (fun r s1=>∃ u,r=some u /\
   wpAny (model P w) X.A (letOwnedTupleGo tg (.ref it) u) (fun _ s2=>∃ x H',Inv X pins σ H' s2/\RelV x u/\J.yld i H x H'/\tn (i+1) s2.heap/\∀ b∈fp,H' b=none) E s1) E s
 done:∀(X:Cx),X.prog=P->X.w=w->X.K=K->X.calm=true->∀(i:Nat) (pins:List (Addr×Obj)) (s:Shared) (σ:St) (H:Hp) (E:Value->Shared->Prop),Inv X pins σ H s->(∀ b∈fp,FpOk X pins H b)->tn i s.heap->J.stop i H ->
  wpAny (model P w) X.A (pyNext (.ref it)) (fun r s1=>r=none/\Inv X pins σ H s1) E s
 self:∀(A:Around) (i:Nat) (s:Shared) (Q:Value->Shared->Prop) (E:Value->Shared->Prop),tn i s.heap->Q (.ref it) s->wpAny (model P w) A (pyIter (.ref it)) Q E s
abbrev TI:=St->Hp->(It->Hp->Prop)->Prop
def PIE (X:Cx) (pins:List (Addr×Obj)) (σ:St) (tg:Expr) (R:It->Hp->Prop) (itv:Value) (s2:Shared):Prop :=
 ∃(it:Addr) (fp:List Addr) (tn:Nat->Heap->Prop) (J:It) (H':Hp),itv=.ref it/\Inv X pins σ H' s2/\Turn X.prog X.w X.K tg J fp it tn/\tn 0 s2.heap/\(∀ b∈fp,FpOk X pins H' b)/\R J H'
def PI (X:Cx) (tg iter:Expr) (wi:TI):Prop :=
 ∀(pins:List (Addr×Obj)) (s:Shared) (σ:St) (H:Hp) (R:It->Hp->Prop),Inv X pins σ H s->wi σ H R ->
  wpAny (model X.prog X.w) X.A (eval iter X.env) (fun v s1=>wpAny (model X.prog X.w) X.A (pyIter v) (PIE X pins σ tg R) X.xe s1) X.xe s
theorem jkd_ {M:Model} {A:Around} {E:Value->Shared->Prop} {s:Shared} {tg:Expr} {it:Addr} {u:Value} {o:Obj} {n:String} {vs:Array Value} {Q:Unit->Shared->Prop} (ho:s.heap.get? it=some o) (hc:o.cls=.type n) (hd:o.data=.fields vs)
  (hn:["enumerate","zip","dict_itemiterator","dict_reverseitemiterator","odict_iterator","itertools.zip_longest","itertools.pairwise"].contains n=false) (hQ:Q () s):wpAny M A (letOwnedTupleGo tg (.ref it) u) Q E s:=by
 unfold letOwnedTupleGo
 cases tg <;> first
  | exact wpAny_pure hQ
  | (cases u <;> first
    | exact wpAny_pure hQ
    | (refine wpAny_bind (wpAny_load ho ?_)
       rw[hc,hd]
       show wpAny M A (if (["enumerate","zip","dict_itemiterator","dict_reverseitemiterator","odict_iterator","itertools.zip_longest","itertools.pairwise"].contains n&&vs[0]? == some (rawInt _))=true then _ else _) Q E s
       rw[if_neg (by intro h;rw[hn,Bool.false_and] at h;cases h)]
       exact wpAny_pure hQ))
def Itl (K:pd_) (a:Addr):It :=
 ⟨fun i H=>∃ xs x,SqL K H a xs/\xs[i]?=some x,fun i H x H'=>H'=H/\∀ xs,SqL K H a xs->xs[i]?=some x,fun i H=>∃ xs,SqL K H a xs/\xs.length<=i⟩
def Itt (K:pd_) (a:Addr):It :=
 ⟨fun i H=>∃ xs x,SqT K H a xs/\xs[i]?=some x,fun i H x H'=>H'=H/\∀ xs,SqT K H a xs->xs[i]?=some x,fun i H=>∃ xs,SqT K H a xs/\xs.length<=i⟩
def Itr (lo:Int) (n:Nat):It:=⟨fun i _=>i < n,fun i H x H'=>H'=H/\x=.int (lo+i),fun i _=>n<=i⟩
theorem jln_ {P:Program} {w:World} {K:pd_} {tg:Expr} (a it:Addr):Turn P w K tg (Itl K a) [it] it (fun i h=>h.IsListIter it a i) where
 mem:=by simp
 obj:=fun i h st b hb=>by
  have e:b=it:=by simpa using hb
  subst e
  obtain⟨o,e,c,d⟩:=st
  exact⟨o,e,fun v z=>by rw[d] at z;cases z⟩
 keep:=fun i h h' st k=>st.at fun o e=>k it (by simp) o e
 item:=by
  intro X hP hw hK hc i pins s σ H E I hf st hg
  subst hP hw hK
  obtain⟨xs,x,hq,hx⟩:=hg
  obtain⟨its,rv,p,hz⟩:=I.list hq
  obtain⟨u,hu,ru⟩:=rv.get hx
  obtain⟨f0,f1,f2,f3,f4,f5⟩:=hf it (by simp)
  refine wpAny_pyNext_list_item st p.isList (x:=u) (by simpa using hu) fun h' st' sb=>?_
  have I1:Inv X pins σ H { s with heap:=h' }:=I.turned (t':=s.toks) (fun b o hb e=>(sb.2 b hb).trans e) f0 f1 f3 f4 f5
  obtain⟨o,e,c,d⟩:=id st'
  exact⟨u,rfl,jkd_ (s:={ s with heap:=h' }) e c d (by decide) ⟨x,H,I1,ru,⟨rfl,fun ys hy=>by rw[I.list_inj hy hq];exact hx⟩,st',fun b hb=>(hf b hb).1⟩⟩
 done:=by
  intro X hP hw hK hc i pins s σ H E I hf st hg
  subst hP hw hK
  obtain⟨xs,hq,hx⟩:=hg
  obtain⟨its,rv,p,hz⟩:=I.list hq
  obtain⟨f0,f1,f2,f3,f4,f5⟩:=hf it (by simp)
  have hl:=rv.length
  exact wpAny_pyNext_list_end (I.ok.hd hc) st p.isList (by simp;omega) fun h' eb=>⟨rfl,I.turned (t':=s.toks) (fun b o hb e=>eb b o hb e) f0 f1 f3 f4 f5⟩
 self:=fun _ _ _ _ _ st h=>wpAny_pyIter_listiter st h
theorem jio_ {P:Program} {w:World} {K:pd_} {tg:Expr} (a it:Addr):Turn P w K tg (Itt K a) [it] it (fun i h=>h.IsTupleIter it a i) where
 mem:=by simp
 obj:=fun i h st b hb=>by
  have e:b=it:=by simpa using hb
  subst e
  obtain⟨o,e,c,d⟩:=st
  exact⟨o,e,fun v z=>by rw[d] at z;cases z⟩
 keep:=fun i h h' st k=>st.at fun o e=>k it (by simp) o e
 item:=by
  intro X hP hw hK hc i pins s σ H E I hf st hg
  subst hP hw hK
  obtain⟨xs,x,hq,hx⟩:=hg
  obtain⟨its,rv,p,hz⟩:=I.tuple hq
  obtain⟨u,hu,ru⟩:=rv.get hx
  obtain⟨f0,f1,f2,f3,f4,f5⟩:=hf it (by simp)
  refine wpAny_pyNext_tuple_item st (show s.heap.IsTuple a its.toArray from p) (x:=u) (by simpa using hu) fun h' st' sb=>?_
  have I1:Inv X pins σ H { s with heap:=h' }:=I.turned (t':=s.toks) (fun b o hb e=>(sb.2 b hb).trans e) f0 f1 f3 f4 f5
  obtain⟨o,e,c,d⟩:=id st'
  exact⟨u,rfl,jkd_ (s:={ s with heap:=h' }) e c d (by decide) ⟨x,H,I1,ru,⟨rfl,fun ys hy=>by rw[I.tuple_inj hy hq];exact hx⟩,st',fun b hb=>(hf b hb).1⟩⟩
 done:=by
  intro X hP hw hK hc i pins s σ H E I hf st hg
  subst hP hw hK
  obtain⟨xs,hq,hx⟩:=hg
  obtain⟨its,rv,p,hz⟩:=I.tuple hq
  obtain⟨f0,f1,f2,f3,f4,f5⟩:=hf it (by simp)
  have hl:=rv.length
  exact wpAny_pyNext_tuple_end (I.ok.hd hc) st (show s.heap.IsTuple a its.toArray from p) (by simp;omega) fun h' eb=>⟨rfl,I.turned (t':=s.toks) (fun b o hb e=>eb b o hb e) f0 f1 f3 f4 f5⟩
 self:=fun _ _ _ _ _ st h=>wpAny_pyIter_tupleiter st h
theorem jhu_ {P:Program} {w:World} {K:pd_} {tg:Expr} (it:Addr) (lo:Int) (n:Nat):Turn P w K tg (Itr lo n) [it] it (fun i h=>IsRangeIter h it (lo+(i:Nat) * 1) ((n:Int) - (i:Nat)) 1) where
 mem:=by simp
 obj:=fun i h st b hb=>by
  have e:b=it:=by simpa using hb
  subst e
  exact⟨_,st,fun v z=>by
   have z':Data.fields _=Data.cell v:=z
   cases z'⟩
 keep:=fun i h h' st k=>k it (by simp) _ st
 item:=by
  intro X hP hw hK hc i pins s σ H E I hf st hg
  subst hP hw hK
  obtain⟨f0,f1,f2,f3,f4,f5⟩:=hf it (by simp)
  have W:=Walks.range (prog:=X.prog) (w:=X.w) (I.ok.hd hc) it lo 1 n
  refine W.item i s _ _ hg st fun v h' tk hv st' kk=>?_
  obtain⟨t,rfl⟩:=hv
  have I1:Inv X pins σ H { s with heap:=h',toks:=tk }:=I.turned (fun b o hb e=>kk b o (by simpa using hb) e) f0 f1 f3 f4 f5
  refine⟨_,rfl,jkd_ (s:={ s with heap:=h',toks:=tk }) (n:="range_iterator") st' rfl rfl (by decide) ⟨.int (lo+i),H,I1,⟨t,?_⟩,⟨rfl,rfl⟩,st',fun b hb=>(hf b hb).1⟩⟩
  rw[Int.mul_one]
 done:=by
  intro X hP hw hK hc i pins s σ H E I hf st hg
  subst hP hw hK
  obtain⟨f0,f1,f2,f3,f4,f5⟩:=hf it (by simp)
  exact wpAny_pyNext_range_end (I.ok.hd hc) st (by have:n<=i:=hg;omega) fun h' eb=>⟨rfl,I.turned (t':=s.toks) (fun b o hb e=>eb b o hb e) f0 f1 f3 f4 f5⟩
 self:=fun _ _ _ _ _ st h=>wpAny_pyIter_rangeiter st h
end L2
namespace L2
open PySem PySem.Spec PyProof.Rows
section
variable {X:Cx} {tg:Expr}
theorem jgt_ {pins:List (Addr×Obj)} {σ:St} {H:Hp} {s:Shared} {R:It->Hp->Prop} {E:Value->Shared->Prop} {lo hi:Int} {t u v:Tok} {tk:Nat} (I:Inv X pins σ H s) (h1:-(2 ^ 62)<=lo) (h2:lo < 2 ^ 62) (h3:-(2 ^ 62)<=hi) (h4:hi < 2 ^ 62)
  (q:R (Itr lo (hi - lo).toNat) H):wpAny (model X.prog X.w) X.A (pyIter (.ref s.heap.objs.size)) (PIE X pins σ tg R) E { s with heap:=s.heap.push { cls:=.type "range",data:=.fields #[.int lo t,.int hi u,.int 1 v] },toks:=tk }:=by
 refine wpAny_pyIter_range (IsRange.new ..) (small_one h1 h2 h3 h4) ?_
 have I1:Inv X pins σ H { s with heap:=s.heap.push { cls:=.type "range",data:=.fields #[.int lo t,.int hi u,.int 1 v] },toks:=tk }:=I.kept fun b o e=>pa_ _ e
 refine⟨(s.heap.push { cls:=.type "range",data:=.fields #[.int lo t,.int hi u,.int 1 v] }).objs.size,[(s.heap.push { cls:=.type "range",data:=.fields #[.int lo t,.int hi u,.int 1 v] }).objs.size],_,_,H,rfl,
  I1.kept (t':=tk) fun b o e=>pa_ _ e,jhu_ _ lo (hi - lo).toNat,?_,fun b hb=>?_,q⟩
 ·have e1:lo+((0:Nat):Int) * 1=lo:=by simp
  have e2:(((hi - lo).toNat:Nat):Int) - ((0:Nat):Int)=Builtin.Range.rangeSize lo hi 1:=by rw[rangeSize_one];split <;> omega
  show IsRangeIter _ _ (lo+((0:Nat):Int) * 1) ((((hi - lo).toNat:Nat):Int) - ((0:Nat):Int)) 1
  rw[e1,e2]
  exact pk_ _ rfl
 ·have e:b=(s.heap.push { cls:=.type "range",data:=.fields #[.int lo t,.int hi u,.int 1 v] }).objs.size:=by simpa using hb
  subst e
  exact I1.fpOk (pg_ _) (I1.hok.fresh (pg_ _))
def jsf_ (ta:TA):TI:=fun σ H R=>ta σ H fun vs H1=>∃ j:Int,vs=[.int j]/\-(2 ^ 62)<=j/\j < 2 ^ 62/\R (Itr 0 j.toNat) H1
def jse_ (ta:TA):TI:=fun σ H R=>ta σ H fun vs H1=>∃ i j:Int,vs=[.int i,.int j]/\(-(2 ^ 62)<=i/\i < 2 ^ 62/\-(2 ^ 62)<=j/\j < 2 ^ 62)/\R (Itr i (j - i).toNat) H1
theorem zd_ {a:Expr} {ta:TA} {p pos:Pos} (hg:Gl X "range") (hm:X.mg "range"=none) (ha:PA X [a] ta) (hs:starEach [a] X.env=[(false,eval a X.env)]:=by rfl):PI X tg (.Call (.Name "range" p) [a] [] pos) (jsf_ ta):=by
 intro pins s σ H R I h
 refine Call_ (yw_ I hg hm boot_range (qx_ (thn (ha pos pins s σ H _ I h) fun us s1 ⟨vs,H1,I1,r1,q1⟩=>?_) hs rfl))
 obtain⟨j,e,q1,q2,q⟩:=q1
 subst e
 cases r1 with
 | cons r rr =>
  cases rr
  obtain⟨t,rfl⟩:=r
  exact call_range_1 (jgt_ I1 (by omega) (by omega) q1 q2 (by simpa using q))
theorem jmh_ {a b:Expr} {ta:TA} {p pos:Pos} (hg:Gl X "range") (hm:X.mg "range"=none) (ha:PA X [a,b] ta) (hs:starEach [a,b] X.env=[(false,eval a X.env),(false,eval b X.env)]:=by rfl) (hs2:starEach [b] X.env=[(false,eval b X.env)]:=by rfl) :
  PI X tg (.Call (.Name "range" p) [a,b] [] pos) (jse_ ta):=by
 intro pins s σ H R I h
 refine Call_ (yw_ I hg hm boot_range (qx_ (thn (ha pos pins s σ H _ I h) fun us s1 ⟨vs,H1,I1,r1,q1⟩=>?_) (by rw[hs,hs2]) (by rw[hs2];rfl)))
 obtain⟨i,j,e,⟨q1,q2,q3,q4⟩,q⟩:=q1
 subst e
 cases r1 with
 | cons r rr =>
  cases rr with
  | cons r' rr =>
   cases rr
   obtain⟨t,rfl⟩:=r
   obtain⟨t',rfl⟩:=r'
   exact call_range_2 (jgt_ I1 q1 q2 q3 q4 q)
def tFor (wi:TI) (g:TG) (tb:TS):TS:=fun D σ H=>wi σ H fun J H1=>∃ W:Nat->Nat->St->Hp->Prop,(∃ m,W 0 m σ H1)/\∀ i m σ H,W i m σ H ->
 (J.stop i H/\D.nx σ H)∨(J.go i H/\∃ N:St->Hp->Prop,(∀ σ' H',N σ' H'->∃ m',m' < m/\W (i+1) m' σ' H')/\∀ x H',J.yld i H x H'->g x σ H' fun σ2 H2=>tb { D with nx:=N,ct:=N,bk:=D.nx } σ2 H2)
def jat_ (fp:List Addr) (h:Heap):List (Addr×Obj):=fp.filterMap fun b=>(h.get? b).map fun o=>(b,o)
theorem y2_ {fp:List Addr} {h:Heap} {b:Addr} {o:Obj} (hb:b∈fp) (e:h.get? b=some o):(b,o)∈jat_ fp h:=r6_.mpr ⟨b,hb,by rw[e];rfl⟩
theorem jls_ {fp:List Addr} {h:Heap} {p:Addr×Obj} (hp:p∈jat_ fp h):p.1∈fp/\h.get? p.1=some p.2:=by
 obtain⟨b,hb,e⟩:=r6_.mp hp
 cases q:h.get? b with
 | none=>rw[q] at e;cases e
 | some o =>
  rw[q] at e
  have e':(b,o)=p:=Option.some.inj e
  subst e'
  exact⟨hb,q⟩
theorem Inv.pinned {pins:List (Addr×Obj)} {σ:St} {H:Hp} {s:Shared} {fp:List Addr} (I:Inv X pins σ H s) (hf:∀ b∈fp,FpOk X pins H b) (ho:∀ b∈fp,∃ o,s.heap.get? b=some o/\∀ v,o.data≠.cell v):Inv X (pins++jat_ fp s.heap) σ H s :=
 I.pins_of fun p hp=>(pq_.mp hp).elim (fun z=>I.pin p (qs_ _ z)) fun z=>by
  obtain⟨hb,e⟩:=jls_ z
  obtain⟨f0,f1,f2,_⟩:=hf p.1 hb
  obtain⟨o,e',d⟩:=ho p.1 hb
  rw[e] at e';cases e'
  exact⟨e,f0,f1,f2,d⟩
theorem Inv.unpinned {pins pl:List (Addr×Obj)} {σ:St} {H:Hp} {s:Shared} (I:Inv X (pins++pl) σ H s):Inv X pins σ H s:=I.pins_of fun p hp=>I.pin p (qs_ _ (rw_ _ hp))
theorem zh_ {iter:Expr} {body:List Stmt} {wi:TI} {g:TG} {tb:TS} {pos:Pos} (hp:PassesOwn (model X.prog X.w) X.A X.env X.xe) (hc:X.calm=true) (hi:PI X tg iter wi) (hg:PG X tg g) (hb:PSs X body tb)
  (hs:∀ x,foldedSetIterable iter X.env x=pure x:=by intro _;rfl):PS X (.For tg iter body [] pos) (tFor wi g tb):=by
 intro pins s σ H D I h
 refine wpAny_For (thn (hi pins s σ H _ I h) fun v s1 h1=>thn h1 fun itv s2 h2=>?_) hs
 obtain⟨it,fp,tn,J,H2,e,I2,T,st2,f2,W,⟨m0,w0⟩,turn⟩:=h2
 subst e
 -- what stays true of the iterator's objects through the loop
 have stat:∀{H':Hp},(∀ b∈fp,H' b=none)->∀ b∈fp,FpOk X pins H' b:=fun hn b hb=>⟨hn b hb,(f2 b hb).2⟩
 refine codeAny_forLoop_any (fun n s'=>∃ i σ' H',Inv X pins σ' H' s'/\tn i s'.heap/\(∀ b∈fp,H' b=none)/\W i n σ' H') ?_ m0 ⟨0,σ,H2,I2,st2,fun b hb=>(f2 b hb).1,w0⟩
 rintro n s3 ⟨i,σ3,H3,I3,st3,fr3,w3⟩
 rcases turn i n σ3 H3 w3 with ⟨stop,qn⟩ | ⟨go,N,hN,step⟩
 ·refine wpAny_passesOwn hp (thn (T.done X rfl rfl rfl hc i pins s3 σ3 H3 X.xe I3 (stat fr3) st3 stop) fun r s4 ⟨hr,I4⟩=>?_)
  subst hr
  exact wpAny_execs_nil ⟨σ3,H3,I4,qn⟩
 ·refine wpAny_passesOwn hp (thn (T.item X rfl rfl rfl hc i pins s3 σ3 H3 X.xe I3 (stat fr3) st3 go) fun r s4 ⟨u,hr,h4⟩=>?_)
  subst hr
  refine wpAny_passesOwn hp (thn h4 fun _ s5 ⟨x,H5,I5,r5,y5,st5,fr5⟩=>?_)
  have I5':=I5.pinned (stat fr5) (T.obj _ _ st5)
  refine wpAny_passesOwn hp (thn (hg _ s5 σ3 H5 x u _ I5' r5 (step x H5 y5)) fun _ s6 ⟨σ6,H6,I6,q6⟩=>?_)
  refine wpAny_passesOwn hp (thn (hb _ s6 σ6 H6 _ I6 q6) fun f s7 q7=>?_)
  have again:∀{σ7:St} {H7:Hp},Inv X (pins++jat_ fp s5.heap) σ7 H7 s7->N σ7 H7->∃ m,m < n/\∃ i σ' H',Inv X pins σ' H' s7/\tn i s7.heap/\(∀ b∈fp,H' b=none)/\W i m σ' H':=fun{σ7 H7} I7 n7=>by
   obtain⟨m',hm,w7⟩:=hN σ7 H7 n7
   refine⟨m',hm,i+1,σ7,H7,I7.unpinned,T.keep _ _ _ st5 fun b hb o e=>(I7.pin (b,o) (qs_ _ (qs_ _ (y2_ hb e)))).1,fun b hb=>?_,w7⟩
   obtain⟨o,e,d⟩:=T.obj _ _ st5 b hb
   exact(I7.pin (b,o) (qs_ _ (qs_ _ (y2_ hb e)))).2.1
  cases f with
  | next=>obtain⟨σ7,H7,I7,n7⟩:=q7;exact again I7 n7
  | cont=>obtain⟨σ7,H7,I7,n7⟩:=q7;exact again I7 n7
  | brk=>obtain⟨σ7,H7,I7,q7⟩:=q7;exact⟨σ7,H7,I7.unpinned,q7⟩
  | ret v=>obtain⟨x7,σ7,H7,I7,r7,q7⟩:=q7;exact⟨x7,σ7,H7,I7.unpinned,r7,q7⟩
end
theorem yj_ {K:pd_} {a:Addr} {xs:List V} {g:TG} {tb:TS} {D:Ends} {σ:St} {H:Hp} (Pv:Nat->St->Hp->Prop) (h0:Pv 0 σ H) (hl:∀ i σ H,i<=xs.length->Pv i σ H->SqL K H a xs)
  (hs:∀ i x σ H,xs[i]?=some x->Pv i σ H->g x σ H fun σ2 H2=>tb { D with nx:=Pv (i+1),ct:=Pv (i+1),bk:=D.nx } σ2 H2) (hd:∀ σ H,Pv xs.length σ H->D.nx σ H) :
  ∃ W:Nat->Nat->St->Hp->Prop,(∃ m,W 0 m σ H)/\∀ i m σ H,W i m σ H ->
   ((Itl K a).stop i H/\D.nx σ H)∨((Itl K a).go i H/\∃ N:St->Hp->Prop,(∀ σ' H',N σ' H'->∃ m',m' < m/\W (i+1) m' σ' H')/\∀ x H',(Itl K a).yld i H x H'->g x σ H' fun σ2 H2=>tb { D with nx:=N,ct:=N,bk:=D.nx } σ2 H2):=by
 refine⟨fun i m σ H=>m=xs.length - i/\i<=xs.length/\Pv i σ H,⟨xs.length,by simp,ri_ _,h0⟩,?_⟩
 rintro i m σ H ⟨rfl,hi,p⟩
 have q:=hl i σ H hi p
 by_cases hlt:i < xs.length
 ·refine .inr ⟨⟨xs,xs[i],q,by simp[hlt]⟩,Pv (i+1),fun σ' H' p'=>⟨xs.length - (i+1),by omega,rfl,hlt,p'⟩,fun x H' y=>?_⟩
  obtain⟨e,y⟩:=y
  subst e
  exact hs i x σ _ (y xs q) p
 ·have e:i=xs.length:=by omega
  subst e
  exact .inl ⟨⟨xs,q,pg_ _⟩,hd σ H p⟩
theorem jqh_ {K:pd_} {a:Addr} {xs:List V} {g:TG} {tb:TS} {D:Ends} {σ:St} {H:Hp} (Pv:Nat->St->Hp->Prop) (h0:Pv 0 σ H) (hl:∀ i σ H,i<=xs.length->Pv i σ H->SqT K H a xs)
  (hs:∀ i x σ H,xs[i]?=some x->Pv i σ H->g x σ H fun σ2 H2=>tb { D with nx:=Pv (i+1),ct:=Pv (i+1),bk:=D.nx } σ2 H2) (hd:∀ σ H,Pv xs.length σ H->D.nx σ H) :
  ∃ W:Nat->Nat->St->Hp->Prop,(∃ m,W 0 m σ H)/\∀ i m σ H,W i m σ H ->
   ((Itt K a).stop i H/\D.nx σ H)∨((Itt K a).go i H/\∃ N:St->Hp->Prop,(∀ σ' H',N σ' H'->∃ m',m' < m/\W (i+1) m' σ' H')/\∀ x H',(Itt K a).yld i H x H'->g x σ H' fun σ2 H2=>tb { D with nx:=N,ct:=N,bk:=D.nx } σ2 H2):=by
 refine⟨fun i m σ H=>m=xs.length - i/\i<=xs.length/\Pv i σ H,⟨xs.length,by simp,ri_ _,h0⟩,?_⟩
 rintro i m σ H ⟨rfl,hi,p⟩
 have q:=hl i σ H hi p
 by_cases hlt:i < xs.length
 ·refine .inr ⟨⟨xs,xs[i],q,by simp[hlt]⟩,Pv (i+1),fun σ' H' p'=>⟨xs.length - (i+1),by omega,rfl,hlt,p'⟩,fun x H' y=>?_⟩
  obtain⟨e,y⟩:=y
  subst e
  exact hs i x σ _ (y xs q) p
 ·have e:i=xs.length:=by omega
  subst e
  exact .inl ⟨⟨xs,q,pg_ _⟩,hd σ H p⟩
theorem yh_ {lo:Int} {n:Nat} {g:TG} {tb:TS} {D:Ends} {σ:St} {H:Hp} (Pv:Nat->St->Hp->Prop) (h0:Pv 0 σ H)
  (hs:∀ i σ H,i < n->Pv i σ H->g (.int (lo+i)) σ H fun σ2 H2=>tb { D with nx:=Pv (i+1),ct:=Pv (i+1),bk:=D.nx } σ2 H2) (hd:∀ σ H,Pv n σ H->D.nx σ H) :
  ∃ W:Nat->Nat->St->Hp->Prop,(∃ m,W 0 m σ H)/\∀ i m σ H,W i m σ H ->
   ((Itr lo n).stop i H/\D.nx σ H)∨((Itr lo n).go i H/\∃ N:St->Hp->Prop,(∀ σ' H',N σ' H'->∃ m',m' < m/\W (i+1) m' σ' H')/\∀ x H',(Itr lo n).yld i H x H'->g x σ H' fun σ2 H2=>tb { D with nx:=N,ct:=N,bk:=D.nx } σ2 H2):=by
 refine⟨fun i m σ H=>m=n - i/\i<=n/\Pv i σ H,⟨n,by simp,ri_ _,h0⟩,?_⟩
 rintro i m σ H ⟨rfl,hi,p⟩
 by_cases hlt:i < n
 ·refine .inr ⟨hlt,Pv (i+1),fun σ' H' p'=>⟨n - (i+1),by omega,rfl,hlt,p'⟩,fun x H' y=>?_⟩
  obtain⟨e,y⟩:=y
  subst e y
  exact hs i σ _ hlt p
 ·have e:i=n:=by omega
  subst e
  exact .inl ⟨pg_ _,hd σ H p⟩
end L2
namespace L2
open PySem PySem.Spec PyProof.Rows
abbrev R2:=V->V->Hp->VK->Prop
def OpR (X:Cx) (f:Value->Value->Sem Value) (r:R2):Prop :=
 ∀(pins:List (Addr×Obj)) (s:Shared) (σ:St) (H:Hp) (x y:V) (v u:Value) (Q:VK),Inv X pins σ H s->RelV x v->RelV y u->r x y H Q ->
  wpAny (model X.prog X.w) X.A (f v u) (EP X pins σ Q) X.xe s
def UnR (X:Cx) (f:Value->Sem Value) (r:V->Hp->VK->Prop):Prop :=
 ∀(pins:List (Addr×Obj)) (s:Shared) (σ:St) (H:Hp) (x:V) (v:Value) (Q:VK),Inv X pins σ H s->RelV x v->r x H Q ->
  wpAny (model X.prog X.w) X.A (f v) (EP X pins σ Q) X.xe s
def CallR (X:Cx) (f:Value) (r:List V->Hp->VK->Prop):Prop :=
 ∀(pins:List (Addr×Obj)) (s:Shared) (σ:St) (H:Hp) (xs:List V) (us:List Value) (Q:VK),Inv X pins σ H s->Vals xs us->r xs H Q ->
  wpAny (model X.prog X.w) X.A (call f us) (EP X pins σ Q) X.xe s
def TruR (X:Cx) (r:V->Hp->(Bool->Hp->Prop)->Prop):Prop :=
 ∀(pins:List (Addr×Obj)) (s:Shared) (σ:St) (H:Hp) (x:V) (v:Value) (Q:Bool->Hp->Prop),Inv X pins σ H s->RelV x v->r x H Q ->
  wpAny (model X.prog X.w) X.A (truthy v) (TP X pins σ Q) X.xe s
def tOp (r:R2) (ta tb:TE):TE:=fun σ H Q=>ta σ H fun x H1=>tb σ H1 fun y H2=>r x y H2 Q
def tUn (r:V->Hp->VK->Prop) (ta:TE):TE:=fun σ H Q=>ta σ H fun x H1=>r x H1 Q
def rI (C:Int->Int->Prop) (g:Int->Int->V):R2:=fun x y H Q=>∃ i j,x=.int i/\y=.int j/\C i j/\Q (g i j) H
def rI0 (g:Int->Int->V):R2:=fun x y H Q=>∃ i j,x=.int i/\y=.int j/\Q (g i j) H
def rU (g:Int->V):V->Hp->VK->Prop:=fun x H Q=>∃ i,x=.int i/\Q (g i) H
section
variable {X:Cx} {a b c:Expr} {ta tb tc:TE} {pos:Pos}
theorem binT (ha:PE X a ta) (hb:PE X b tb) {pins:List (Addr×Obj)} {s:Shared} {σ:St} {H:Hp} {R:V->V->Hp->Prop} (I:Inv X pins σ H s)
  (h:ta σ H fun x H1=>tb σ H1 fun y H2=>R x y H2) {Q:Value->Shared->Prop} {f:Value->Value->Sem Value}
  (hf:∀ v u s2 x y H2,Inv X pins σ H2 s2->RelV x v->RelV y u->R x y H2->wpAny (model X.prog X.w) X.A (f v u) Q X.xe s2) :
  wpAny (model X.prog X.w) X.A (eval a X.env) (fun v s₁=>wpAny (model X.prog X.w) X.A (eval b X.env) (fun u s₂=>wpAny (model X.prog X.w) X.A (f v u) Q X.xe s₂) X.xe s₁) X.xe s:=by
 refine thn (ha pins s σ H _ I h) fun v s1 ⟨x,H1,I1,r1,q1⟩=>?_
 refine thn (hb pins s1 σ H1 _ I1 q1) fun u s2 ⟨y,H2,I2,r2,q2⟩=>?_
 exact hf v u s2 x y H2 I2 r1 r2 q2
theorem jo_ {op:Operator} {r:R2} (ho:OpR X (binaryOp op) r) (ha:PE X a ta) (hb:PE X b tb):PE X (.BinOp a op b pos) (tOp r ta tb):=by
 intro pins s σ H Q I h
 exact wpAny_BinOp (binT ha hb I h fun v u s2 x y H2 I2 rx ry q=>ho pins s2 σ H2 x y v u Q I2 rx ry q)
theorem jjv_ {op:UnaryOp} {r:V->Hp->VK->Prop} (ho:UnR X (unaryOp op) r) (ha:PE X a ta):PE X (.UnaryOp op a pos) (tUn r ta):=by
 intro pins s σ H Q I h
 exact UnaryOp_ (thn (ha pins s σ H _ I h) fun v s1 ⟨x,H1,I1,r1,q1⟩=>ho pins s1 σ H1 x v Q I1 r1 q1)
theorem opI {f:Value->Value->Sem Value} {C:Int->Int->Prop} {g:Int->Int->Int}
  (rule:∀(i j:Int) (t u:Tok) (s:Shared) (Q:Value->Shared->Prop) (E:Value->Shared->Prop),C i j->Q (.int (g i j) s.toks) { s with toks:=s.toks+1 }->wpAny (model X.prog X.w) X.A (f (.int i t) (.int j u)) Q E s) :
  OpR X f (rI C fun i j=>.int (g i j)):=by
 intro pins s σ H x y v u Q I rx ry h
 obtain⟨i,j,rfl,rfl,hc,q⟩:=h
 obtain⟨t,rfl⟩:=rx
 obtain⟨t',rfl⟩:=ry
 exact rule i j t t' s _ _ hc ⟨.int (g i j),H,I.tok _,⟨_,rfl⟩,q⟩
theorem opI0 {f:Value->Value->Sem Value} {g:Int->Int->Int}
  (rule:∀(i j:Int) (t u:Tok) (s:Shared) (Q:Value->Shared->Prop) (E:Value->Shared->Prop),Q (.int (g i j) s.toks) { s with toks:=s.toks+1 }->wpAny (model X.prog X.w) X.A (f (.int i t) (.int j u)) Q E s) :
  OpR X f (rI0 fun i j=>.int (g i j)):=by
 intro pins s σ H x y v u Q I rx ry h
 obtain⟨i,j,rfl,rfl,q⟩:=h
 obtain⟨t,rfl⟩:=rx
 obtain⟨t',rfl⟩:=ry
 exact rule i j t t' s _ _ ⟨.int (g i j),H,I.tok _,⟨_,rfl⟩,q⟩
theorem opB0 {f:Value->Value->Sem Value} {g:Int->Int->Bool}
  (rule:∀(i j:Int) (t u:Tok) (s:Shared) (Q:Value->Shared->Prop) (E:Value->Shared->Prop),Q (.bool (g i j)) s->wpAny (model X.prog X.w) X.A (f (.int i t) (.int j u)) Q E s) :
  OpR X f (rI0 fun i j=>.bl (g i j)):=by
 intro pins s σ H x y v u Q I rx ry h
 obtain⟨i,j,rfl,rfl,q⟩:=h
 obtain⟨t,rfl⟩:=rx
 obtain⟨t',rfl⟩:=ry
 exact rule i j t t' s _ _ ⟨.bl (g i j),H,I,rfl,q⟩
def CDiv (i j:Int):Prop:=0 < j/\j < 1073741824
def CPow (i j:Int):Prop:=0<=j/\j<=1000000/\i.natAbs < 2 ^ 64
def CMul (i j:Int):Prop:=(-(2 ^ 64) < i/\i < 2 ^ 64)∨(-(2 ^ 64) < j/\j < 2 ^ 64)
theorem CMul.ok {i j:Int} (h:CMul i j):IntMulOk i j:=by
 rcases h with ⟨h1,h2⟩ | ⟨h1,h2⟩
 ·exact .of_left (intBits_le_64 h1 h2)
 ·exact .of_right (intBits_le_64 h1 h2)
theorem jvi_:OpR X (binaryOp .Add) (rI0 fun i j=>.int (i+j)):=opI0 fun _ _ _ _ _ _ _ q=>add_int q
theorem op_sub:OpR X (binaryOp .Sub) (rI0 fun i j=>.int (i - j)):=opI0 fun _ _ _ _ _ _ _ q=>sub_int q
theorem jvm_:OpR X (binaryOp .Mult) (rI CMul fun i j=>.int (i * j)):=opI fun _ _ _ _ _ _ _ hc q=>mul_int q hc.ok
theorem op_fdiv:OpR X (binaryOp .FloorDiv) (rI CDiv fun i j=>.int (i / j)):=opI fun i j _ _ _ _ _ hc q=>by
 have h1:(0:Int) < j:=hc.1
 have h2:j < 1073741824:=hc.2
 exact floordiv_int (by omega) (by rw[Int.fdiv_eq_ediv_of_nonneg i (by omega)];exact q) (.inl (PyProof.noPylong_small (by omega)))
theorem op_mod:OpR X (binaryOp .Mod) (rI (fun _ j=>0 < j) fun i j=>.int (i % j)):=opI fun i j _ _ _ _ _ hc q=>by
 have h1:(0:Int) < j:=hc
 exact mod_int' (by omega) (by rw[Int.fmod_eq_emod_of_nonneg i (by omega)];exact q)
theorem op_pow:OpR X (binaryOp .Pow) (rI CPow fun i j=>.int (i ^ j.toNat)):=opI fun _ _ _ _ _ _ _ hc q=>pow_int_small hc.1 hc.2.1 hc.2.2 q
theorem unI {f:Value->Sem Value} {g:Int->Int}
  (rule:∀(i:Int) (t:Tok) (s:Shared) (Q:Value->Shared->Prop) (E:Value->Shared->Prop),Q (.int (g i) s.toks) { s with toks:=s.toks+1 }->wpAny (model X.prog X.w) X.A (f (.int i t)) Q E s) :
  UnR X f (rU fun i=>.int (g i)):=by
 intro pins s σ H x v Q I rx h
 obtain⟨i,rfl,q⟩:=h
 obtain⟨t,rfl⟩:=rx
 exact rule i t s _ _ ⟨.int (g i),H,I.tok _,⟨_,rfl⟩,q⟩
theorem jtk_:UnR X (unaryOp .USub) (rU fun i=>.int (-i)):=unI fun _ _ _ _ _ q=>neg_int q
end
def scal:V->V->Bool
 | .non,.non=>true | .non,.int _=>true | .int _,.non=>true | .non,.bl _=>true | .bl _,.non=>true | .non,.str _=>true | .str _,.non=>true
 | .int _,.int _=>true | .bl _,.bl _=>true | .str _,.str _=>true | .byt _,.byt _=>true
 | .int _,.str _=>true | .str _,.int _=>true | .bl _,.str _=>true | .str _,.bl _=>true
 | _,_=>false
def rEq:R2:=fun x y H Q=>scal x y=true/\Q (.bl (decide (x=y))) H
def rNe:R2:=fun x y H Q=>scal x y=true/\Q (.bl (!decide (x=y))) H
theorem jjs_ {i j:Int}:decide (V.int i=V.int j)=(i == j):=by
 rw[sw_]
 simp
theorem jnu_ {i j:Bool}:decide (V.bl i=V.bl j)=(i == j):=by
 rw[sw_]
 simp
theorem jjl_ {i j:Str}:decide (V.str i=V.str j)=(i == j):=by
 rw[sw_]
 simp
theorem jjo_ {i j:Array UInt8}:decide (V.byt i=V.byt j)=(i.toList == j.toList):=by
 rw[sw_]
 cases i
 cases j
 simp
section
variable {X:Cx} {a b c:Expr} {ta tb tc:TE} {pos:Pos}
theorem js_ {pins:List (Addr×Obj)} {σ:St} {H:Hp} {s:Shared} {Q:VK} {k k':Bool} (I:Inv X pins σ H s) (q:Q (.bl k) H) (e:k=k'):EP X pins σ Q (.bool k') s:=by
 subst e
 exact⟨.bl k,H,I,rfl,q⟩
theorem jwd_:OpR X (compareOp .Eq) rEq:=by
 intro pins s σ H x y v u Q I rx ry h
 obtain⟨hs,q⟩:=h
 cases x with
 | non =>
  cases rx
  cases y with
  | non=>cases ry;exact PySem.EqNone.eq_none_none (js_ I q (by simp))
  | bl j=>cases ry;exact PySem.EqNone.eq_none_bool (js_ I q (by simp))
  | int j=>obtain⟨t',rfl⟩:=ry;exact PySem.EqNone.eq_none_int (js_ I q (by simp))
  | str j=>obtain⟨t',rfl⟩:=ry;exact PySem.EqNone.eq_none_str (js_ I q (by simp))
  | _=>exact absurd (show false=true from hs) pp_
 | bl i =>
  cases rx
  cases y with
  | non=>cases ry;exact PySem.EqNone.eq_bool_none (js_ I q (by simp))
  | bl j=>cases ry;exact eq_bool (js_ I q jnu_)
  | str j=>obtain⟨t',rfl⟩:=ry;exact PySem.EqMixed.eq_bool_str (js_ I q (by simp))
  | _=>exact absurd (show false=true from hs) pp_
 | int i =>
  obtain⟨t,rfl⟩:=rx
  cases y with
  | non=>cases ry;exact PySem.EqNone.eq_int_none (js_ I q (by simp))
  | int j=>obtain⟨t',rfl⟩:=ry;exact eq_int (js_ I q jjs_)
  | str j=>obtain⟨t',rfl⟩:=ry;exact PySem.EqMixed.eq_int_str (js_ I q (by simp))
  | _=>exact absurd (show false=true from hs) pp_
 | str i =>
  obtain⟨t,rfl⟩:=rx
  cases y with
  | non=>cases ry;exact PySem.EqNone.eq_str_none (js_ I q (by simp))
  | bl j=>cases ry;exact PySem.EqMixed.eq_str_bool (js_ I q (by simp))
  | int j=>obtain⟨t',rfl⟩:=ry;exact PySem.EqMixed.eq_str_int (js_ I q (by simp))
  | str j=>obtain⟨t',rfl⟩:=ry;exact eq_str (js_ I q jjl_)
  | _=>exact absurd (show false=true from hs) pp_
 | byt i =>
  obtain⟨t,rfl⟩:=rx
  cases y with
  | byt j=>obtain⟨t',rfl⟩:=ry;exact PySem.W.eq_bytes (js_ I q jjo_)
  | _=>exact absurd (show false=true from hs) pp_
 | _=>cases y <;> exact absurd (show false=true from hs) pp_
theorem jwe_:OpR X (compareOp .NotEq) rNe:=by
 intro pins s σ H x y v u Q I rx ry h
 obtain⟨hs,q⟩:=h
 cases x with
 | non =>
  cases rx
  cases y with
  | non=>cases ry;exact PySem.EqNone.ne_none_none (js_ I q (by simp))
  | bl j=>cases ry;exact PySem.EqNone.ne_none_bool (js_ I q (by simp))
  | int j=>obtain⟨t',rfl⟩:=ry;exact PySem.EqNone.ne_none_int (js_ I q (by simp))
  | str j=>obtain⟨t',rfl⟩:=ry;exact PySem.EqNone.ne_none_str (js_ I q (by simp))
  | _=>exact absurd (show false=true from hs) pp_
 | bl i =>
  cases rx
  cases y with
  | non=>cases ry;exact PySem.EqNone.ne_bool_none (js_ I q (by simp))
  | bl j=>cases ry;exact ne_bool (js_ I q (congrArg not jnu_))
  | str j=>obtain⟨t',rfl⟩:=ry;exact PySem.EqMixed.ne_bool_str (js_ I q (by simp))
  | _=>exact absurd (show false=true from hs) pp_
 | int i =>
  obtain⟨t,rfl⟩:=rx
  cases y with
  | non=>cases ry;exact PySem.EqNone.ne_int_none (js_ I q (by simp))
  | int j=>obtain⟨t',rfl⟩:=ry;exact ne_int (js_ I q (congrArg not jjs_))
  | str j=>obtain⟨t',rfl⟩:=ry;exact PySem.EqMixed.ne_int_str (js_ I q (by simp))
  | _=>exact absurd (show false=true from hs) pp_
 | str i =>
  obtain⟨t,rfl⟩:=rx
  cases y with
  | non=>cases ry;exact PySem.EqNone.ne_str_none (js_ I q (by simp))
  | bl j=>cases ry;exact PySem.EqMixed.ne_str_bool (js_ I q (by simp))
  | int j=>obtain⟨t',rfl⟩:=ry;exact PySem.EqMixed.ne_str_int (js_ I q (by simp))
  | str j=>obtain⟨t',rfl⟩:=ry;exact ne_str (js_ I q (congrArg not jjl_))
  | _=>exact absurd (show false=true from hs) pp_
 | byt i =>
  obtain⟨t,rfl⟩:=rx
  cases y with
  | byt j=>obtain⟨t',rfl⟩:=ry;exact PySem.W.ne_bytes (js_ I q (congrArg not jjo_))
  | _=>exact absurd (show false=true from hs) pp_
 | _=>cases y <;> exact absurd (show false=true from hs) pp_
theorem op_lt:OpR X (compareOp .Lt) (rI0 fun i j=>.bl (decide (i < j))):=opB0 fun _ _ _ _ _ _ _ q=>lt_int q
theorem op_gt:OpR X (compareOp .Gt) (rI0 fun i j=>.bl (decide (j < i))):=opB0 fun _ _ _ _ _ _ _ q=>gt_int q
theorem juq_:OpR X (compareOp .Is) (fun x y H Q=>y=.non/\Q (.bl (decide (x=.non))) H):=by
 intro pins s σ H x y v u Q I rx ry h
 obtain⟨rfl,q⟩:=h
 cases ry
 refine is_none_gen (js_ I q ?_)
 cases x <;> first
  | (cases rx;rfl)
  | (obtain⟨t,rfl⟩:=rx;rfl)
theorem jrp_:OpR X (compareOp .IsNot) (fun x y H Q=>y=.non/\Q (.bl (!decide (x=.non))) H):=by
 intro pins s σ H x y v u Q I rx ry h
 obtain⟨rfl,q⟩:=h
 cases ry
 refine isnot_none_gen (js_ I q ?_)
 cases x <;> first
  | (cases rx;rfl)
  | (obtain⟨t,rfl⟩:=rx;rfl)
theorem j0_ (b:Expr) {op:CmpOp} (h:op≠.In:=by decide) (h2:op≠.NotIn:=by decide):behindInMarks op b=false:=by
 have e1:(op == CmpOp.In)=false:=by cases op <;> first | rfl | exact absurd rfl h
 have e2:(op == CmpOp.NotIn)=false:=by cases op <;> first | rfl | exact absurd rfl h2
 cases b <;> simp[behindInMarks,e1,e2]
theorem vg_ {op:CmpOp} {r:R2} (ho:OpR X (compareOp op) r) (ha:PE X a ta) (hb:PE X b tb) (hm:behindInMarks op b=false):PE X (.Compare a [op] [b] pos) (tOp r ta tb):=by
 intro pins s σ H Q I h
 exact wpAny_Compare1 (binT ha hb I h fun v u s2 x y H2 I2 rx ry q=>ho pins s2 σ H2 x y v u Q I2 rx ry q) hm
def jta_ (t:TE):TT:=fun σ H Q=>t σ H fun x H'=>∃ k,x=.bl k/\Q k H'
theorem jv_ {op:CmpOp} {r:R2} (ho:OpR X (compareOp op) r) (ha:PE X a ta) (hb:PE X b tb) (hm:behindInMarks op b=false):PT X (.Compare a [op] [b] pos) (jta_ (tOp r ta tb)):=by
 intro pins s σ H Q I h
 refine wpAny_isTrue_Compare1 (thn (ha pins s σ H _ I h) fun v s1 ⟨x,H1,I1,r1,q1⟩=>thn (hb pins s1 σ H1 _ I1 q1) fun u s2 ⟨y,H2,I2,r2,q2⟩ =>
  thn (ho pins s2 σ H2 x y v u _ I2 r1 r2 q2) fun c s3 ⟨z,H3,I3,r3,k,e,q3⟩=>?_) hm
 subst e
 cases r3
 exact wpAny_truthy_bool ⟨H3,I3,q3⟩
def TruV (K:pd_) (x:V) (H:Hp) (k:Bool):Prop :=
 match x with
 | .non=>k=false
 | .bl b=>k=b
 | .int i=>k=(i != 0)
 | .str y=>y.length<=sizeLine/\k=((y.length:Int) != 0)
 | .byt y=>y.size<=sizeLine/\k=((y.size:Int) != 0)
 | .ref p=>(∃ xs,SqL K H p xs/\k=!xs.isEmpty)∨(∃ xs,SqT K H p xs/\k=!xs.isEmpty)∨∃ kvs,H p=some (.dK kvs)/\k=!kvs.isEmpty
 | _=>False
theorem jit_ {κ:Type} {kvs:List (κ×V)} {vs:List (κ×Value)} (r:KV kvs vs):(!vs.isEmpty)=!kvs.isEmpty:=by
 cases r <;> rfl
theorem jaq_ {xs:List V} {its:List Value} (r:Vals xs its):(!its.toArray.isEmpty)=!xs.isEmpty:=by
 cases r <;> simp
theorem x8_:(sizeLine:Nat) < 2 ^ 63:=by rw[sizeLine_eq];decide
theorem juv_:TruR X (fun x H Q=>∃ k,TruV X.K x H k/\Q k H):=by
 intro pins s σ H x v Q I rx h
 obtain⟨k,e,q⟩:=h
 have hl:=x8_
 have hs:sizeLine=16777216:=sizeLine_eq
 cases x with
 | non =>
  cases rx
  have e':k=false:=e
  subst e'
  exact truthy_none ⟨H,I,q⟩
 | bl b =>
  cases rx
  have e':k=b:=e
  subst e'
  exact wpAny_truthy_bool ⟨H,I,q⟩
 | int i =>
  obtain⟨t,rfl⟩:=rx
  have e':k=(i != 0):=e
  subst e'
  exact PySem.P.truthy_int ⟨H,I,q⟩
 | str y =>
  obtain⟨t,rfl⟩:=rx
  obtain⟨hy,e'⟩:y.length<=sizeLine/\k=((y.length:Int) != 0):=e
  subst e'
  exact PySem.P.truthy_str (by omega) ⟨H,I.tok _,q⟩
 | byt y =>
  obtain⟨t,rfl⟩:=rx
  obtain⟨hy,e'⟩:y.size<=sizeLine/\k=((y.size:Int) != 0):=e
  subst e'
  exact PySem.W.truthy_bytes (by omega) ⟨H,I.tok _,q⟩
 | ref p =>
  cases rx
  have e':(∃ xs,SqL X.K H p xs/\k=!xs.isEmpty)∨(∃ xs,SqT X.K H p xs/\k=!xs.isEmpty)∨∃ kvs,H p=some (.dK kvs)/\k=!kvs.isEmpty:=e
  rcases e' with ⟨xs,hx,e'⟩ | ⟨xs,hx,e'⟩ | ⟨kvs,hx,e'⟩
  ·subst e'
   obtain⟨its,r,pl,hz⟩:=I.list hx
   have hlen:=r.length
   exact wpAny_truthy_list pl.isList (by simp only[pi_];omega) ⟨H,I.tok _,by rw[jaq_ r];exact q⟩
  ·subst e'
   obtain⟨its,r,pl,hz⟩:=I.tuple hx
   have hlen:=r.length
   exact truthy_tuple pl (by simp only[pi_];omega) ⟨H,I.tok _,by rw[jaq_ r];exact q⟩
  ·subst e'
   obtain⟨hz,hS,vs,r,m⟩:kvs.length<=sizeLine/\(p == sysModules)=false/\∃ vs,KV kvs vs/\s.heap.DictOf (jx_ X.prog X.w) p vs:=I.hok p _ hx
   have hlen:kvs.length=vs.length:=t4_ r
   exact wpAny_truthy_dict hS m (by omega) ⟨H,I.tok _,by rw[jit_ r];exact q⟩
 | _=>exact(show False from e).elim
theorem jic_:OpR X (binaryOp .Add) (fun x y H Q=>∃ i j,x=.str i/\y=.str j/\i.length+j.length<=sizeLine/\Q (.str (i++j)) H):=by
 intro pins s σ H x y v u Q I rx ry h
 obtain⟨i,j,rfl,rfl,hz,q⟩:=h
 obtain⟨t,rfl⟩:=rx
 obtain⟨t',rfl⟩:=ry
 exact add_str (fun t' tk=>⟨.str (i++j),H,I.tok _,⟨_,rfl⟩,q⟩) hz
theorem xc_ {x:V} {us:List Value} (r:Vals [x] us):∃ u,us=[u]/\RelV x u:=by
 cases r with
 | cons r1 r2=>cases r2;exact⟨_,rfl,r1⟩
theorem jgz_ {x y:V} {us:List Value} (r:Vals [x,y] us):∃ u w',us=[u,w']/\RelV x u/\RelV y w':=by
 cases r with
 | cons r1 r2 =>
  cases r2 with
  | cons r3 r4=>cases r4;exact⟨_,_,rfl,r1,r3⟩
theorem call_abs:CallR X (.builtin "abs") (fun xs H Q=>∃ i,xs=[.int i]/\Q (.int (if i < 0 then -i else i)) H):=by
 intro pins s σ H xs us Q I r h
 obtain⟨i,rfl,q⟩:=h
 obtain⟨u,rfl,t,rfl⟩:=xc_ r
 exact call_abs_int fun u tk=>⟨.int (if i < 0 then -i else i),H,I.tok _,⟨_,rfl⟩,q⟩
theorem jlt_ (hc:X.calm=true):CallR X (.builtin "max") (fun xs H Q=>∃ i j,xs=[.int i,.int j]/\Q (.int (if j > i then j else i)) H):=by
 intro pins s σ H xs us Q I r h
 obtain⟨i,j,rfl,q⟩:=h
 obtain⟨u,w',rfl,⟨t,rfl⟩,⟨t',rfl⟩⟩:=jgz_ r
 refine max_two_ints (I.ok.hd hc) fun h' tk k=>⟨_,H,I.kept k,?_,q⟩
 by_cases hj:j > i
 ·rw[if_pos hj,if_pos hj];exact⟨_,rfl⟩
 ·rw[if_neg hj,if_neg hj];exact⟨_,rfl⟩
theorem jmc_ (hc:X.calm=true):CallR X (.builtin "min") (fun xs H Q=>∃ i j,xs=[.int i,.int j]/\Q (.int (if j < i then j else i)) H):=by
 intro pins s σ H xs us Q I r h
 obtain⟨i,j,rfl,q⟩:=h
 obtain⟨u,w',rfl,⟨t,rfl⟩,⟨t',rfl⟩⟩:=jgz_ r
 refine min_two_ints (I.ok.hd hc) fun h' tk k=>⟨_,H,I.kept k,?_,q⟩
 by_cases hj:j < i
 ·rw[if_pos hj,if_pos hj];exact⟨_,rfl⟩
 ·rw[if_neg hj,if_neg hj];exact⟨_,rfl⟩
end
end L2
namespace L2
open PySem PySem.Spec PyProof.Rows
structure ObjM (h:Heap) (x dx C:Addr) (mA:Str->Option Value):Prop where
 obj:h.get? x=some (PySem.W.instObj C dx)
 ns:h.Ns1 dx mA
 ne:dx≠x
section
variable {prog:Program} {w:World} {A:Around} {E:Value->Shared->Prop} {s:Shared} {K:pd_} {x dx C f:Addr} {mA:Str->Option Value} {name:Str} {v:Value}
end
theorem RelO.some_of {v:V} {o:Option Value} (r:RelO (some v) o):∃ u,o=some u/\RelV v u:=by
 cases o with
 | none=>exact(show False from r).elim
 | some u=>exact⟨u,rfl,r⟩
section
variable {P:Program} {w:World} {H H':Hp} {h h':Heap} {a C dx:Addr} {fs fs':List (Str×V)}
end
structure Cls (K:pd_) (C:Addr):Prop where
 pg:PySem.W.plainGet K C Str.empty=true
 hd:PySem.W.hasDictIn K C=true
 po:PySem.W.plainOver K C=true
 sa:tu_ K (.ref C) "__setattr__"=some (some (.builtin "object.__setattr__"))
structure Con (K:pd_) (C:Addr) (f:Str) (v:V) (u:Value):Prop where
 at_:tu_ K (.ref C) f=some (some u)
 rel:RelV v u
 get:k9_ K u "__get__"=some none
 cp:PySem.W.copiedNames.contains f=false
structure Meth (K:pd_) (C:Addr) (m:Str) (f:Addr):Prop where
 at_:tu_ K (.ref C) m=some (some (.ref f))
 fn:PySem.W.isFn K (.ref f)=true
 kp:sp_ K (.ref f)=true
section
variable {X:Cx} {pins:List (Addr×Obj)} {σ:St} {H:Hp} {s:Shared} {a C dx:Addr} {fs:List (Str×V)} {f:Str} {v:V} {A:Around} {E:Value->Shared->Prop}
end
section
variable {X:Cx} {o e value:Expr} {f:Str} {pos pos' tpos:Pos} {ta tv:TE}
end
section
variable {X:Cx} {pins:List (Addr×Obj)} {σ:St} {H:Hp} {s:Shared} {A:Around} {E:Value->Shared->Prop} {Q:Value->Shared->Prop} {c:Value} {b:Bool}
inductive TyOf (K:pd_) (H:Hp):V->Value->Prop where
 | non:TyOf K H .non (.type "NoneType")
 | bl (x:Bool):TyOf K H (.bl x) (.type "bool")
 | int (i:Int):TyOf K H (.int i) (.type "int")
 | str (x:Str):TyOf K H (.str x) (.type "str")
 | flt (x:UInt64):TyOf K H (.flt x) (.type "float")
 | lst {a:Addr} {xs:List V} (e:H a=some (.lst xs)):TyOf K H (.ref a) (.type "list")
 | frz {a:Addr} {o:Obj} {xs:List V} (e:H a=some (.frz o (.lst xs))):TyOf K H (.ref a) (.type "list")
 | tup {a:Addr} {xs:List V} (e:H a=some (.tup xs)):TyOf K H (.ref a) (.type "tuple")
 | dK {a:Addr} {kvs:List (Key×V)} (e:H a=some (.dK kvs)):TyOf K H (.ref a) (.type "dict")
 | dT {a:Addr} {kvs:List (List Key×V)} (e:H a=some (.dT kvs)):TyOf K H (.ref a) (.type "dict")
 | ins {a C dx:Addr} {fs:List (Str×V)} (e:H a=some (.ins C dx fs)) (cl:Cls K C) (ha:tu_ K (.ref C) "__class__"=some (some (.builtin "object.__class__")))
   (hn:k9_ K (.builtin "object.__class__") "__get__"=some (some (.builtin "getset_descriptor.__get__"))) (htk:PySem.W.takesIn K (.builtin "object.__class__")=some true)
   (hm:PySem.W.mroIn K C (.type "object")=some true):TyOf K H (.ref a) (.ref C)
end
end L2
namespace L2
open PySem PySem.Spec PyProof.Rows
structure Room (k:Nat) (A:Around):Prop where
 hd:A.handled=none
 dp:A.depth+3 * k+5 < recursionLimit
 un:A.units+16 * k+200 < cLine
theorem Room.mono {j k:Nat} {A:Around} (r:Room k A) (h:j<=k):Room j A:=⟨r.hd,by have:=r.dp;omega,by have:=r.un;omega⟩
theorem Room.deeper {k:Nat} {A:Around} (r:Room (k+1) A) (env:Env):Room k (A.deeper env) :=
 ⟨r.hd,by have:=r.dp;show A.depth+1+3 * k+5 < _;omega,by have:=r.un;show A.units+3+16 * k+200 < _;omega⟩
theorem Room.depth {k:Nat} {A:Around} (r:Room k A):A.depth < recursionLimit:=by have:=r.dp;omega
theorem Room.units {k:Nat} {A:Around} (r:Room k A):A.units+64 < cLine:=by have:=r.un;omega
def tNil:TA:=fun _ H Q=>Q [] H
def jsu_ (ta:TE) (tr:TA):TA:=fun σ H Q=>ta σ H fun x H1=>tr σ H1 fun xs H2=>Q (x::xs) H2
section
variable {X:Cx} {e:Expr} {es:List Expr} {te:TE} {t:TA} {pos:Pos}
theorem pa_nil:PA X [] tNil:=fun _ _ _ _ H Q I h=>rm_ ⟨[],H,I,.nil,h⟩
theorem ja_ (ha:PE X e te) (hr:PA X es t) (hs:starEach (e::es) X.env=(false,eval e X.env)::starEach es X.env:=by rfl):PA X (e::es) (jsu_ te t):=by
 intro pos pins s σ H Q I h
 rw[hs]
 show wpAny _ _ (spliced ((false,eval e X.env)::backTo pos (starEach es X.env))) _ _ s
 refine q2_ (thn (ha pins s σ H _ I h) fun u s1 ⟨x,H1,I1,r1,q1⟩=>?_)
 exact thn (hr pos pins s1 σ H1 _ I1 q1) fun us s2 ⟨xs,H2,I2,r2,q2⟩=>⟨x::xs,H2,I2,.cons r1 r2,q2⟩
def tTup (t:TA):TE:=fun σ H Q=>t σ H fun xs H1=>xs.length<=sizeLine/\∀ p,H1 p=none->Q (.ref p) (upd H1 p (.tup xs))
def tLst (t:TA):TE:=fun σ H Q=>t σ H fun xs H1=>xs.length<=sizeLine/\∀ p,H1 p=none->Q (.ref p) (upd H1 p (.lst xs))
theorem zy_ {x1} (h:PA X es t):PE X (.Tuple es x1 pos) (tTup t):=by
 intro pins s σ H Q I hq
 refine wpAny_Tuple_spliced (thn (h pos pins s σ H _ I hq) fun us s1 ⟨xs,H1,I1,r,z,q⟩=>⟨by rw[<- r.length];exact z,?_⟩)
 have hf:H1 s1.heap.objs.size=none:=I1.hok.fresh (pg_ _)
 refine⟨.ref s1.heap.objs.size,upd H1 s1.heap.objs.size (.tup xs),I1.laid (t':=s1.toks) (fun b u e=>pa_ _ e) (pg_ _) ?_,rfl,q _ hf⟩
 exact⟨z,us,r,⟨_,pk_ _ rfl,rfl,_,rfl⟩⟩
theorem zl_ (h:PA X es t):PE X (.List es pos) (tLst t):=by
 intro pins s σ H Q I hq
 refine wpAny_List_spliced (thn (h pos pins s σ H _ I hq) fun us s1 ⟨xs,H1,I1,r,z,q⟩=>⟨by rw[<- r.length];exact z,?_⟩)
 have hf:H1 s1.heap.objs.size=none:=I1.hok.fresh (pg_ _)
 refine⟨.ref s1.heap.objs.size,upd H1 s1.heap.objs.size (.lst xs),I1.laid (t':=s1.toks) (fun b u e=>pa_ _ e) (pg_ _) ?_,rfl,q _ hf⟩
 exact⟨z,us,0,r,pk_ _ rfl⟩
end
abbrev Sp:=List V->Hp->VK->XK->Prop
abbrev CXT:=List Env->Hp->Shared->XK->Value->Shared->Prop
structure Env0 (P:Program) (w:World) (K:pd_) (mg:Str->Option Value) (base:Heap) (A:Around) (outer:List Env) (s:Shared) (H:Hp):Prop where
 frames:A.frames=some outer
 mod:Mod K mg base
 bs:∀ b o,base.get? b=some o->s.heap.get? b=some o/\H b=none
 bsz:base.objs.size<=s.heap.objs.size
 funs:s.heap.FunFrames base outer
 frf:∀ b∈frs outer,H b=none
 hok:HOk P w H s.heap
 bare:AllBare s.gens
def CE (outer:List Env) (P:Program) (w:World) (H:Hp) (s:Shared) (Q:VK) (u:Value) (s':Shared):Prop :=
 ∃ v H',s'.os=s.os/\AllBare s'.gens/\Un (frs outer) [] H H' s.heap s'.heap/\HOk P w H' s'.heap/\RelV v u/\Q v H'
def CR (CX:CXT) (outer:List Env) (P:Program) (w:World) (H:Hp) (s:Shared) (Q:VK) (E:XK) (r:Result) (s':Shared):Prop :=
 match r with
 | .ok (.ret u)=>CE outer P w H s Q u s'
 | .ok _=>False
 | .error e=>CX outer H s E e s'
structure FnOk (P:Program) (w:World) (K:pd_) (mg:Str->Option Value) (base:Heap) (CX:CXT) (k:Nat) (f:Addr) (fd:FuncData) (ps:List Str) (sp:Sp):Prop where
 len:∀ vs H Q E,sp vs H Q E->vs.length=ps.length
 run:∀(A:Around) (outer:List Env) (s:Shared) (H:Hp) (args:Args) (us:List Value) (vs:List V) (Q:VK) (E:XK),Room k A->Env0 P w K mg base A outer s H->BindsTo s fd args (ps.zip us)->Vals vs us->sp vs H Q E ->
  codeAny (model P w) A (.call (.ref f) args) (CR CX outer P w H s Q E) s
section
variable {X:Cx} {pins:List (Addr×Obj)} {σ:St} {H:Hp} {s s':Shared}
theorem Inv.env0 (I:Inv X pins σ H s):Env0 X.prog X.w X.K X.mg X.base X.A X.stack s H :=
 ⟨I.ok.frames,I.ok.mod,I.bs,qq_ I.ok.bsz I.sz,I.stack,I.stkFree,I.hok,I.bare⟩
theorem Inv.after {Q:VK} {u:Value} (I:Inv X pins σ H s) (h:CE X.stack X.prog X.w H s Q u s'):EP X pins σ Q u s':=by
 obtain⟨v,H',os,bare,un,hok,r,q⟩:=h
 obtain⟨hh,g,d,t,os'⟩:=s'
 obtain rfl:os'=s.os:=os
 exact⟨v,H',I.call (h':=hh) (g':=g) (d':=d) (t':=t) (ch:=[]) un hok bare (fun b z=>absurd z (by simp)),r,q⟩
end
def jni_ (sp:Sp) (dvs:List V) (E:XK) (t:TA):TE:=fun σ H Q=>t σ H fun vs H1=>sp (vs++dvs) H1 Q E
def Binds (K:pd_) (fd:FuncData) (ps:List Str) (ds:List Value):Prop :=
 ∀(s:Shared) (us:List Value),K.In s.heap->(us++ds).length=ps.length->BindsTo s fd ⟨us,[]⟩ (ps.zip (us++ds))
theorem Binds.all {K:pd_} {fd:FuncData} {ps:List Str} (h:∀ us:List Value,us.length=ps.length->bindArgs fd ⟨us,[]⟩=pure (ps.zip us)):Binds K fd ps []:=fun s us _ hl=>by
 rw[qt_] at hl ⊢
 exact .of_eq (h us hl)
def jiy_ (CX:CXT) (X:Cx) (E:XK):Prop:=∀(pins:List (Addr×Obj)) (σ:St) (H:Hp) (s:Shared) (e:Value) (s':Shared),Inv X pins σ H s->CX X.stack H s E e s'->X.xe e s'
section
variable {X:Cx} {CX:CXT} {k:Nat} {f C:Addr} {fd:FuncData} {ps:List Str} {sp:Sp} {dvs:List V} {ds:List Value} {E:XK} {x m:Str} {p pos apos:Pos} {e o:Expr} {es:List Expr} {ta:TE} {t:TA}
theorem jti_ {pins:List (Addr×Obj)} {σ:St} {H:Hp} {s:Shared} {Q:VK} {us:List Value} {vs:List V} (F:FnOk X.prog X.w X.K X.mg X.base CX k f fd ps sp) (hr:Room k X.A) (hb:Binds X.K fd ps ds) (hd:Vals dvs ds) (hx:jiy_ CX X E)
  (I:Inv X pins σ H s) (r:Vals vs us) (h:sp (vs++dvs) H Q E):wpAny (model X.prog X.w) X.A (call (.ref f) us) (EP X pins σ Q) X.xe s:=by
 have r2:Vals (vs++dvs) (us++ds):=r.append hd
 have hl:(us++ds).length=ps.length:=by rw[<- r2.length];exact F.len _ _ _ _ h
 refine wpAny_call (codeAny_mono (F.run X.A X.stack s H ⟨us,[]⟩ (us++ds) (vs++dvs) Q E hr I.env0 (hb s us I.kIn hl) r2 h) fun r s' hq=>?_)
 cases r with
 | error e=>exact hx pins σ H s e s' I hq
 | ok fl =>
  cases fl with
  | ret u=>exact I.after hq
  | next=>exact s1_ hq
  | brk=>exact s1_ hq
  | cont=>exact s1_ hq
theorem jra_ (F:FnOk X.prog X.w X.K X.mg X.base CX k f fd ps sp) (hr:Room k X.A) (hg:Gl X x) (hm:X.mg x=some (.ref f)) (hk:sp_ X.K (.ref f)=true) (hb:Binds X.K fd ps ds) (hd:Vals dvs ds) (hx:jiy_ CX X E)
  (ha:PA X (e::es) t) (hdb:(x == ("__debug__":Str))=false:=by decide) (he:starEach (e::es) X.env=(false,eval e X.env)::starEach es X.env:=by rfl) (hpl:(backTo pos (starEach es X.env)).any (·.1)=false:=by rfl) :
  PE X (.Call (.Name x p) (e::es) [] pos) (jni_ sp dvs E t):=by
 intro pins s σ H Q I h
 refine wpAny_Call_Name_kw (jsc_ I hg hm ?_ hdb)
 refine PySem.W.callWith_K (h₀:=X.base) I.ok.mod.kin hk (thn (ha pos pins s σ H _ I h) fun us s1 ⟨vs,H1,I1,r,q⟩=>⟨I1.kIn,?_⟩) he hpl
 exact jti_ F hr hb hd hx I1 r q
structure Mk (K:pd_) (C f:Addr):Prop where
 makes:PySem.W.makesIn K C=true
 init:tu_ K (.ref C) "__init__"=some (some (.ref f))
 fn:PySem.W.isFn K (.ref f)=true
 kp:sp_ K (.ref C)=true
end
section
variable {X:Cx} {CX:CXT} {k:Nat} {f C:Addr} {fd:FuncData} {ps ks:List Str} {sp:Sp} {E:XK} {x m:Str} {p pos apos kpos:Pos} {e o:Expr} {es:List Expr} {kws:List Keyword} {te ta:TE} {t tk:TA} {nm:Option Str}
structure KBinds (K:pd_) (fd:FuncData) (ps ks:List Str) (g:List Value->List Value->List Value) (gV:List V->List V->List V):Prop where
 to:∀(s:Shared) (us ws:List Value),K.In s.heap->(g us ws).length=ps.length->BindsTo s fd ⟨us,ks.zip ws⟩ (ps.zip (g us ws))
 rel:∀{vs:List V} {us:List Value} {zs:List V} {ws:List Value},Vals vs us->Vals zs ws->Vals (gV vs zs) (g us ws)
variable {g:List Value->List Value->List Value} {gV:List V->List V->List V}
end
structure FnScope (N P:List Str) (sc:Scope):Prop where
 kind:sc.kind=.function
 co:sc.isCoroutine=false
 gen:sc.isGenerator=false
 nd:N.Nodup
 pre:N.take P.length=P
 par:∀ x∈P,sc.names.lookup x=some .local∨sc.names.lookup x=some .cell
 nofree:∀ y∈sc.names,y.2≠.free
theorem jcn_ {kindOf:Str->Option NameKind} {x:Str}:∀{binds:List (Str×Value)} {m:Str->Option Value},(∀ v,(x,v)∉binds)->bindL kindOf binds m x=m x
 | [],_,_=>rfl
 | (n,v)::r,m,h=>by
  unfold bindL
  rw[jcn_ fun w hw=>h w (pn_ _ hw)]
  split
  ·have:x≠n:=by rintro rfl;exact h v po_
   simp[this]
  ·rfl
theorem jck_ {kindOf:Str->Option NameKind} {x:Str}:∀{binds:List (Str×Value)} {m:Str->Option Value},(∀ v,(x,v)∉binds)->bindC kindOf binds m x=m x
 | [],_,_=>rfl
 | (n,v)::r,m,h=>by
  unfold bindC
  rw[jck_ fun w hw=>h w (pn_ _ hw)]
  split
  ·rfl
  ·have:x≠n:=by rintro rfl;exact h v po_
   simp[this]
theorem jdl_ {kindOf:Str->Option NameKind} {x:Str} {v:Value}:∀{P:List Str} {vs:List Value} {i:Nat} {m:Str->Option Value},P.Nodup->P[i]?=some x->vs[i]?=some v->kindOf x=some .local ->
  bindL kindOf (P.zip vs) m x=some v
 | [],_,_,_,_,h,_,_=>by simp at h
 | _::_,[],_,_,_,_,h,_=>by simp at h
 | p::P,w::vs,0,m,nd,h1,h2,hk=>by
  simp at h1 h2;subst h1;subst h2
  show bindL kindOf ((p,w)::P.zip vs) m p=_
  unfold bindL
  rw[jcn_ fun v hv=>(q6_.mp nd).1 (kg_ hv).1,if_pos hk]
  simp
 | p::P,w::vs,i+1,m,nd,h1,h2,hk=>by
  show bindL kindOf ((p,w)::P.zip vs) m x=_
  unfold bindL
  exact jdl_ (i:=i) (q6_.mp nd).2 (by simpa using h1) (by simpa using h2) hk
theorem jcl_ {kindOf:Str->Option NameKind} {x:Str} {v:Value}:∀{P:List Str} {vs:List Value} {i:Nat} {m:Str->Option Value},P.Nodup->P[i]?=some x->vs[i]?=some v->kindOf x≠some .local ->
  bindC kindOf (P.zip vs) m x=some v
 | [],_,_,_,_,h,_,_=>by simp at h
 | _::_,[],_,_,_,_,h,_=>by simp at h
 | p::P,w::vs,0,m,nd,h1,h2,hk=>by
  simp at h1 h2;subst h1;subst h2
  show bindC kindOf ((p,w)::P.zip vs) m p=_
  unfold bindC
  rw[jck_ fun v hv=>(q6_.mp nd).1 (kg_ hv).1,if_neg hk]
  simp
 | p::P,w::vs,i+1,m,nd,h1,h2,hk=>by
  show bindC kindOf ((p,w)::P.zip vs) m x=_
  unfold bindC
  exact jcl_ (i:=i) (q6_.mp nd).2 (by simpa using h1) (by simpa using h2) hk
def start (N:List Str) (vs:List V):St:=vs.map some++pv_ (N.length - vs.length) none
def cxOf (CX:CXT) (P:Program) (w:World) (K:pd_) (mg:Str->Option Value) (base:Heap) (N:List Str) (qual:Str) (scope:Scope) (f:Addr) (cd:Value) (A:Around) (outer:List Env) (s:Shared) (H:Hp) (E:XK):Cx where
 prog:=P
 w:=w
 K:=K
 mg:=mg
 base:=base
 A:=A.deeper (envOfC qual scope s.heap.objs.size f cd)
 N:=N
 s₀:=s
 H₀:=H
 env:=envOfC qual scope s.heap.objs.size f cd
 outer:=outer
 stack:=envOfC qual scope s.heap.objs.size f cd::outer
 ex:=[]
 calm:=true
 fn:=fun _=>true
 pn:=[]
 xe:=fun e s'=>wpAny (model P w) (A.deeper (envOfC qual scope s.heap.objs.size f cd)) (leaving (envOfC qual scope s.heap.objs.size f cd) e) (fun _ s''=>CX outer H s E e s'') (fun e' s''=>CX outer H s E e' s'') s'
theorem jfx_ {sc:Scope} {n:Nat} {x:Str} (h:sc.names.lookup x=some .cell):∃ c,(cellsFrom n sc.names []).lookup x=some c:=by
 have q:=kb_ sc.names n [] (.inl h)
 exact Option.isSome_iff_exists.mp q
theorem jlq_ {CX:CXT} {P:Program} {w:World} {K:pd_} {mg:Str->Option Value} {base:Heap} {N ps:List Str} {qual:Str} {scope:Scope} {f:Addr} {cd:Value} {A:Around} {outer:List Env} {s s1:Shared} {H:Hp} {E:XK} {us:List Value} {vs:List V}
  (S:FnScope N ps scope) (hd:A.handled=none) (e0:Env0 P w K mg base A outer s H) (hl:vs.length=ps.length) (r:Vals vs us)
  (x:InCallC s s.heap.objs.size (bindL (envOfC qual scope s.heap.objs.size f cd).kindOf (ps.zip us) fun _=>none) (cellsFrom (s.heap.objs.size+1) scope.names []) (bindC (envOfC qual scope s.heap.objs.size f cd).kindOf (ps.zip us) fun _=>none) s1) :
  Inv (cxOf CX P w K mg base N qual scope f cd A outer s H E) [] (start N vs) H s1:=by
 have hpl:ps.length<=N.length:=by have:=congrArg k0_ S.pre;rw[pr_] at this;omega
 obtain⟨h1,tk,rfl,hk⟩:=x.done
 have noA:∀ b:Addr,b∉(cxOf CX P w K mg base N qual scope f cd A outer s H E).ex:=fun b z=>absurd (show b∈([]:List Addr) from z) (by simp)
 refine⟨⟨e0.mod,S.kind,rfl,rfl,pg_ _,fun y z c h1 h2=>?_,fun y hy=>?_,fun y c _ h=>?_,fun _=>hd,Around.frames_deeper e0.frames,.inr ⟨rfl,rfl⟩,fun b z=>absurd z (noA b),e0.bs,e0.bsz,fun b _ _=>noA b,fun b z=>absurd z (noA b),e0.funs,e0.frf⟩,
  rfl,e0.bare,Un.kept hk,⟨_,x.toInCall.ns,fun i y v h1 h2 h3=>?_⟩,fun y c h=>⟨_,x.cell y c h⟩,e0.hok.fresh (pg_ _),fun y c h=>?_,fun p hp=>absurd (show p∈([]:List (Addr×Obj)) from hp) (by simp),e0.hok.kept hk,?_⟩
 ·exact name_of_addr x.apart (sl_ h1) (sl_ h2)
 ·have hy:scope.names.lookup y=some .cell∨scope.names.lookup y=some .free:=hy
  rcases hy with hy | hy
  ·exact jfx_ hy
  ·exact absurd rfl (S.nofree _ (sl_ hy))
 ·exact si_ (x.above y c (sl_ h))
 ·have hi:i < vs.length:=by
   unfold start at h2
   by_cases hi:i < vs.length
   ·exact hi
   ·rw[s5_ (by simpa using hi)] at h2
    rw[wy_] at h2
    split at h2 <;> cases h2
  have ha:vs[i]?=some v:=by
   unfold start at h2
   rw[s7_ (by simpa using hi),ph_] at h2
   cases e:vs[i]? with
   | none=>rw[e] at h2;cases h2
   | some a=>rw[e] at h2;cases h2;rfl
  obtain⟨u,hu,rv⟩:=r.get ha
  have hp:ps[i]?=some y:=by
   rw[<- S.pre,rv_ (by omega)];exact h1
  have ndP:ps.Nodup:=by rw[<- S.pre];exact S.nd.sublist (List.take_sublist _ _)
  refine⟨u,rv,?_⟩
  rcases S.par y (rb_ hp) with k | k
  ·exact .inl ⟨k,jdl_ ndP hp hu k⟩
  ·obtain⟨c,e⟩:=jfx_ (n:=s.heap.objs.size+1) k
   refine .inr ⟨.inl k,c,e,?_⟩
   have q:=x.cell y c e
   rw[jcl_ ndP hp hu (by show scope.names.lookup y≠_;rw[k];decide)] at q
   exact q
 ·exact e0.hok.fresh (si_ (x.above y c (sl_ h)))
 ·unfold start
  show _=N.length
  rw[pj_,pb_,rg_]
  omega
theorem jwu_ {CX:CXT} {P:Program} {w:World} {K:pd_} {mg:Str->Option Value} {base:Heap} {k:Nat} {f:Addr} {name qual:Str} {params:Arguments} {body:List Stmt} {scope:Scope} {dV kV doc pm cdv ct oc:Value} {an od:Option Addr}
  {osl:Array (Option Value)} {N ps:List Str} {sp:Sp} (lk:K.lookup f=some ⟨oc,od,.func (sx_ name qual params body scope dV kV doc pm an cdv ct),osl⟩) (hcd:wk_ K cdv qual=true) (S:FnScope N ps scope)
  (len:∀ vs H Q E,sp vs H Q E->vs.length=ps.length)
  (hbody:∀(A:Around) (outer:List Env) (s:Shared) (H:Hp) (vs:List V) (Q:VK) (E:XK),Room k (A.deeper (envOfC qual scope s.heap.objs.size f cdv))->sp vs H Q E ->
   ∃ t,PSs (cxOf CX P w K mg base N qual scope f cdv A outer s H E) body t/\t { nx:=fun _ H'=>Q .non H',rt:=Q } (start N vs) H) :
  FnOk P w K mg base CX (k+1) f (sx_ name qual params body scope dV kV doc pm an cdv ct) ps sp:=by
 refine⟨len,fun A outer s H args us vs Q E hr e0 hb r hsp=>?_⟩
 have hl:=len _ _ _ _ hsp
 have KX:K.In s.heap:=e0.mod.kin.keeps fun b o e=>(e0.bs b o e).1
 have lim:s.heap.NoLimit:=e0.mod.nolimit.keeps fun b o e=>(e0.bs b o e).1
 have hkind:∀ y∈ps.zip us,scope.names.lookup y.1=some .local∨(scope.names.lookup y.1=some .cell/\((cellsFrom (s.heap.objs.size+1) scope.names []).lookup y.1).isSome=true):=fun⟨n,v⟩ hy=>by
  rcases S.par n (kg_ hy).1 with q | q
  ·exact .inl q
  ·exact .inr ⟨q,kb_ _ _ _ (.inl q)⟩
 refine codeAny_call_function hr.depth (KX _ _ lk) rfl S.co S.gen rfl (PySem.W.codeRec_of KX hcd) (hb _ _ _ _ ?_)
 refine wpAny_newFunctionEnv_cells S.kind hkind fun env he s1 x=>?_
 subst he
 refine⟨lim.keeps x.toInCall.keep,codeAny_func ?_⟩
 obtain⟨t,ht,hq⟩:=hbody A outer s H vs Q E (hr.deeper _) hsp
 have I:Inv (cxOf CX P w K mg base N qual scope f cdv A outer s H E) [] (start N vs) H s1:=jlq_ S hr.hd e0 hl r x
 refine wpAny_mono (ht [] s1 (start N vs) H _ I hq) (fun fl s' hs=>?_) fun e s' hs=>hs
 have fin:∀{σ':St} {H':Hp} {v:V} {u:Value},Inv (cxOf CX P w K mg base N qual scope f cdv A outer s H E) [] σ' H' s'->RelV v u->Q v H'->CE outer P w H s Q u s' :=
  fun{σ' H' v u} J rv q=>⟨v,H',J.os,J.bare,J.base,J.hok,rv,q⟩
 cases fl with
 | ret u =>
  obtain⟨v,σ',H',J,rv,q⟩:=hs
  exact fin J rv q
 | next =>
  obtain⟨σ',H',J,q⟩:=hs
  exact fin (v:=V.non) (u:=Value.none) J rfl q
 | brk =>
  obtain⟨_,_,_,q⟩:=hs
  exact s1_ q
 | cont =>
  obtain⟨_,_,_,q⟩:=hs
  exact s1_ q
end L2
namespace L2
open PySem PySem.Spec PyProof.Rows
section
variable {X:Cx} {x:Str} {p pos:Pos} {e:Expr} {es:List Expr} {t:TA} {id T:String} {r:List V->Hp->VK->Prop}
def tCB (r:List V->Hp->VK->Prop) (t:TA):TE:=fun σ H Q=>t σ H fun vs H1=>r vs H1 Q
theorem ji_ (hc:CallR X (.builtin id) r) (hg:Gl X x) (hm:X.mg x=none) (hv:bootBuiltins x=some (.builtin id)) (ha:PA X (e::es) t) (hn:x≠"__name__":=by decide) (hdb:(x == ("__debug__":Str))=false:=by decide)
  (he:starEach (e::es) X.env=(false,eval e X.env)::starEach es X.env:=by rfl) (hpl:(backTo pos (starEach es X.env)).any (·.1)=false:=by rfl):PE X (.Call (.Name x p) (e::es) [] pos) (tCB r t):=by
 intro pins s σ H Q I h
 refine wpAny_Call_Name_kw (yw_ I hg hm hv ?_ hn hdb)
 exact PyProof.Rows.callWith_builtin1 (thn (ha pos pins s σ H _ I h) fun us s1 ⟨vs,H1,I1,r1,q1⟩=>hc pins s1 σ H1 vs us Q I1 r1 q1) he hpl
theorem zq_ (hc:CallR X (.type T) r) (hg:Gl X x) (hm:X.mg x=none) (hv:bootBuiltins x=some (.type T)) (ha:PA X (e::es) t) (hn:x≠"__name__":=by decide) (hdb:(x == ("__debug__":Str))=false:=by decide)
  (he:starEach (e::es) X.env=(false,eval e X.env)::starEach es X.env:=by rfl) (hpl:(backTo pos (starEach es X.env)).any (·.1)=false:=by rfl):PE X (.Call (.Name x p) (e::es) [] pos) (tCB r t):=by
 intro pins s σ H Q I h
 refine wpAny_Call_Name_kw (yw_ I hg hm hv ?_ hn hdb)
 exact qx_ (thn (ha pos pins s σ H _ I h) fun us s1 ⟨vs,H1,I1,r1,q1⟩=>hc pins s1 σ H1 vs us Q I1 r1 q1) he hpl
end
end L2
namespace HT
open PySem PyProof.Rows
section
open PySem.SeqAt
open PySem.AutoSeq1 (wpAny_loadPart')
open PySem.MeetsSeq PySem.MeetsSeq2 PySem.MeetsSeq3
end
section
variable {prog:Program} {w:World} {A:Around} {E:Value->Shared->Prop} {s:Shared}
theorem cat_tup {t b:Addr} {vs ws:List Value} {Q:Value->Shared->Prop} (ht:IsTup s.heap t vs.toArray) (hb:IsTup s.heap b ws.toArray) (hv:vs≠[])
  (h1:ws=[]->Q (.ref t) s) (h2:ws≠[]->Q (.ref s.heap.objs.size) { s with heap:=s.heap.push { cls:=.type "tuple",data:=.seq (vs++ws).toArray } })
  (hsz:vs.length+ws.length<=sizeLine):wpAny (model prog w) A (binaryOp .Add (.ref t) (.ref b)) Q E s:=by
 obtain⟨⟨cls,dd,data,sl⟩,ho,hc,n,hd⟩:=id ht
 obtain⟨⟨cls2,dd2,data2,sl2⟩,ho2,hc2,n2,hd2⟩:=id hb
 simp only at hc hd hc2 hd2
 subst hc hd hc2 hd2
 have e:vs.toArray++ws.toArray=(vs++ws).toArray:=by simp
 by_cases hw:ws=[]
 ·exact concat_meets ⟨_,ho,rfl⟩ ⟨_,ho2,rfl⟩ noFill_tuple_add seq_tuple_add kc_ wz_ (wo_ _ _)
   (tuple_addW1 t b vs.toArray ws.toArray n n2 dd dd2 sl sl2 (by simpa using hv) (by simp[hw])) ⟨ho,ho2,h1 hw⟩
 ·refine concat_meets ⟨_,ho,rfl⟩ ⟨_,ho2,rfl⟩ noFill_tuple_add seq_tuple_add kc_ wz_ (wo_ _ _)
   (tuple_addW2 t b vs.toArray ws.toArray n n2 dd dd2 sl sl2 (by simpa using hv) (by simpa using hw) (by rw[pi_,pi_];exact hsz)) ⟨ho,ho2,?_⟩
  rw[e]
  exact h2 hw
def sIx (n d:Nat):Option Int->Nat
 | none=>d
 | some v=>if v < 0 then (v+(n:Int)).toNat else min v.toNat n
theorem juk_ (n d:Nat) (hd:d<=n) (o:Option Int):sIx n d o<=n:=by
 cases o with
 | none=>exact hd
 | some v =>
  show (if v < 0 then (v+(n:Int)).toNat else min v.toNat n)<=n
  by_cases hv:v < 0
  ·rw[if_pos hv];omega
  ·rw[if_neg hv];exact Nat.min_le_right _ _
theorem jjm_ (v:Int) (n d:Nat):(if v < 0 then max (v+(n:Int)) 0 else min v (n:Int))=((sIx n d (some v):Nat):Int):=by
 show (if v < 0 then max (v+(n:Int)) 0 else min v (n:Int))=(((if v < 0 then (v+(n:Int)).toNat else min v.toNat n):Nat):Int)
 by_cases hv:v < 0
 ·simp only[if_pos hv];omega
 ·simp only[if_neg hv];omega
theorem jiz_ (lo hi:Option Int) (n:Nat):s8_ lo hi 1 (n:Int)=(((sIx n 0 lo:Nat):Int),((sIx n n hi:Nat):Int)):=by
 have h1:¬ ((1:Int) < 0):=by omega
 unfold s8_
 simp only[h1,if_false]
 refine Prod.ext ?_ ?_
 ·cases lo with
  | none=>rfl
  | some v=>exact jjm_ v n 0
 ·cases hi with
  | none=>rfl
  | some v=>exact jjm_ v n n
theorem jif_ (i j:Nat):r9_ (i:Int) (j:Int) 1=j - i:=by
 unfold r9_
 have h1:(1:Int) > 0:=by omega
 simp only[h1,if_true,Int.ediv_one]
 split <;> omega
theorem jbh_ {v:Value} {o:Option Int} {Q:Option Int->Shared->Prop} (p:IsPart v o) (h:Q o s):wpAny (model prog w) A (Builtin.Slice.slicePartIndex v) Q E s:=by
 cases p with
 | none=>exact slicePart_none h
 | int i t=>exact slicePart_int h
theorem v2_ {sl:Addr} {vl vu:Value} {lo hi:Option Int} {n:Nat} {Q:Int×Int×Nat->Shared->Prop} (hs:s.heap.IsSliceOf sl vl vu .none) (pl:IsPart vl lo) (pu:IsPart vu hi)
  (h:Q (((sIx n 0 lo:Nat):Int),1,sIx n n hi - sIx n 0 lo) s):wpAny (model prog w) A (wd_ (.ref sl) (pure (n:Int))) Q E s:=by
 obtain⟨os,hos,hcs,hds⟩:=id hs
 unfold wd_ Builtin.Slice.sliceFields
 refine wpAny_bind (wpAny_bind (wpAny_field hos hds (x:=vl) rfl (wpAny_bind (wpAny_field hos hds (x:=vu) rfl (wpAny_bind (wpAny_field hos hds (x:=.none) rfl (wpAny_pure ?_)))))))
 refine wpAny_bind (slicePart_none ?_)
 show wpAny _ _ (if ((1:Int) == 0)=true then _ else _) _ _ s
 rw[if_neg (by decide)]
 refine wpAny_bind (jbh_ pl (wpAny_bind (jbh_ pu (wpAny_bind (wpAny_pure ?_)))))
 show wpAny _ _ (match s8_ lo hi 1 (n:Int) with | (lo,hi)=>pure (lo,(1:Int),r9_ lo hi 1)) _ _ s
 rw[jiz_ lo hi n]
 show wpAny _ _ (pure (((sIx n 0 lo:Nat):Int),(1:Int),r9_ ((sIx n 0 lo:Nat):Int) ((sIx n n hi:Nat):Int) 1)) _ _ s
 rw[jif_]
 exact wpAny_pure h
theorem jmy_ (xs:Array Value) (i k:Nat):((p3_ k).filterMap fun(m:Nat)=>xs[((i:Int)+(m:Int) * 1).toNat]?).toArray=((xs.toList.drop i).take k).toArray:=by
 have e:(fun(m:Nat)=>xs[((i:Int)+(m:Int) * 1).toNat]?)=fun m=>xs[i+m]?:=by
  funext m
  have:((i:Int)+(m:Int) * 1).toNat=i+m:=by omega
  rw[this]
 rw[e]
 have:=pick_run xs i k
 rw[List.filterMap_map] at this
 have e2:((fun x=>xs[x]?)∘fun x=>i+x)=fun m=>xs[i+m]?:=rfl
 rw[e2] at this
 rw[this]
theorem getItem_tuple_cut {t sl:Addr} {items:Array Value} {vl vu:Value} {lo hi:Option Int} {Q:Value->Shared->Prop} (ht:IsTup s.heap t items) (hs:s.heap.IsSliceOf sl vl vu .none) (pl:IsPart vl lo) (pu:IsPart vu hi)
  (hw:¬ (sIx items.size 0 lo=0/\sIx items.size items.size hi=items.size))
  (h:Q (.ref s.heap.objs.size) { s with heap:=s.heap.push { cls:=.type "tuple",data:=.seq ((items.toList.drop (sIx items.size 0 lo)).take (sIx items.size items.size hi - sIx items.size 0 lo)).toArray } })
  (hsz:items.size<=sizeLine):wpAny (model prog w) A (getItem (.ref t) (.ref sl)) Q E s:=by
 have htake:sizeOk (.seq ((items.toList.drop (sIx items.size 0 lo)).take (sIx items.size items.size hi - sIx items.size 0 lo)).toArray):=by
  show ((items.toList.drop (sIx items.size 0 lo)).take (sIx items.size items.size hi - sIx items.size 0 lo)).toArray.size<=sizeLine
  rw[pi_,pr_,qb_,sk_]
  omega
 have hj:sIx items.size items.size hi<=items.size:=juk_ _ _ (pg_ _) hi
 obtain⟨os,hos,hcs,hds⟩:=id hs
 have hTs:s.TypeIs (.ref sl) "slice":=⟨os,hos,hcs⟩
 unfold getItem
 try with_reducible refine wpAny_holding ?_
 first | refine wpAny_bind (wpAny_pure ?_) | skip
 refine wpAny_bind (wpAny_sequenceKey ht.typeIs (by decide) ?_)
 refine wpAny_bind (wpAny_callSpecial?_slot (name:=qz_ "__getitem__") ht.typeIs sd_
  (wpAny_call_entry sd_ ht.typeIs entry_tuple_getitem ?_ (args_tuple_getitem _ _)))
 show wpAny _ _ (Builtin.Tuple.tupleItemsOf (.ref t) >>= _) _ _ s
 refine wpAny_bind (tupleItemsOf_ ht ?_)
 refine wpAny_bind (wpAny_typeOf hTs ?_)
 rw[if_pos (by decide)]
 refine wpAny_bind (v2_ hs pl pu ?_)
 have hno:¬ ((((sIx items.size 0 lo:Nat):Int) == 0&&(1:Int) == 1&&(sIx items.size items.size hi - sIx items.size 0 lo) == items.size)=true):=by
  intro q
  rw[qr_,qr_] at q
  have q1:((sIx items.size 0 lo:Nat):Int)=0:=eq_of_beq q.1.1
  have q2:sIx items.size items.size hi - sIx items.size 0 lo=items.size:=eq_of_beq q.2
  exact hw ⟨by omega,by omega⟩
 show wpAny _ _ (if (((sIx items.size 0 lo:Nat):Int) == 0&&(1:Int) == 1&&(sIx items.size items.size hi - sIx items.size 0 lo) == items.size)=true then _ else _) _ _ s
 rw[if_neg hno,jmy_]
 first
  | exact wpAny_bind (m:=se_ _) (wpAny_newObj_type (wpAny_pure ⟨_,rfl,wpAny_pure h⟩) htake)
  | exact wpAny_bind (m:=se_ _) (wpAny_newObj_type (wpAny_bind (wpAny_pure (wpAny_pure ⟨_,rfl,wpAny_pure h⟩))) htake)
  | exact wpAny_bind (wpAny_bind (m:=se_ _) (wpAny_newObj_type (wpAny_pure (wpAny_pure ⟨_,rfl,wpAny_pure h⟩)) htake))
  | exact wpAny_bind (wpAny_bind (m:=se_ _) (wpAny_newObj_type (wpAny_pure ⟨_,rfl,wpAny_pure h⟩) htake))
end
end HT
namespace L2
open PySem PySem.Spec PyProof.Rows
abbrev TO:=St->Hp->(Option Int->Hp->Prop)->Prop
def PO (X:Cx) (e:Option Expr) (t:TO):Prop :=
 ∀(pins:List (Addr×Obj)) (s:Shared) (σ:St) (H:Hp) (Q:Option Int->Hp->Prop),Inv X pins σ H s->t σ H Q ->
  wpAny (model X.prog X.w) X.A (evalPart e X.env) (fun u s'=>∃ o H',Inv X pins σ H' s'/\IsPart u o/\Q o H') X.xe s
def jjq_:TO:=fun _ H Q=>Q none H
def jsm_ (t:TE):TO:=fun σ H Q=>t σ H fun x H1=>∃ i,x=.int i/\Q (some i) H1
section
variable {X:Cx} {e:Expr} {te:TE} {lo hi:Option Expr} {tl th:TO} {pos p2:Pos}
theorem ye_:PO X none jjq_:=by
 intro pins s σ H Q I h
 rw[evalPart_none]
 exact wpAny_pure ⟨none,H,I,.none,h⟩
theorem j9_ (h:PE X e te):PO X (some e) (jsm_ te):=by
 intro pins s σ H Q I hw
 rw[evalPart_some]
 refine thn (h pins s σ H _ I hw) fun u s1 ⟨x,H1,I1,r1,q1⟩=>?_
 obtain⟨i,rfl,q⟩:=q1
 obtain⟨t,rfl⟩:=r1
 exact⟨some i,H1,I1,.int i t,q⟩
def SlR (X:Cx) (r:V->Option Int->Option Int->Hp->VK->Prop):Prop :=
 ∀(pins:List (Addr×Obj)) (s:Shared) (σ:St) (H:Hp) (x:V) (v vl vu:Value) (lo hi:Option Int) (sl:Addr) (Q:VK),Inv X pins σ H s->RelV x v->s.heap.IsSliceOf sl vl vu .none->IsPart vl lo->IsPart vu hi->r x lo hi H Q ->
  ∃ T id,typeLookup (.type T) "__getitem__"=pure (some (.builtin id))/\s.TypeIs v T/\wpAny (model X.prog X.w) X.A (getItem v (.ref sl)) (EP X pins σ Q) X.xe s
def tSl (r:V->Option Int->Option Int->Hp->VK->Prop) (te:TE) (tl th:TO):TE:=fun σ H Q=>te σ H fun x H1=>tl σ H1 fun l H2=>th σ H2 fun u H3=>r x l u H3 Q
theorem zc_ {r:V->Option Int->Option Int->Hp->VK->Prop} (hr:SlR X r) (he:PE X e te) (hl:PO X lo tl) (hu:PO X hi th):PE X (.Subscript e (.Slice lo hi none p2) pos) (tSl r te tl th):=by
 intro pins s σ H Q I h
 refine Subscript_ (thn (he pins s σ H _ I h) fun v s1 ⟨x,H1,I1,r1,q1⟩=>?_)
 refine wpAny_Slice (thn (hl pins s1 σ H1 _ I1 q1) fun vl s2 ⟨l,H2,I2,pl,q2⟩=>thn (hu pins s2 σ H2 _ I2 q2) fun vu s3 ⟨u,H3,I3,pu,q3⟩=>?_)
 rw[evalPart_none]
 refine wpAny_pure ?_
 have I4:Inv X pins σ H3 { s3 with heap:=s3.heap.push { cls:=.type "slice",data:=.fields #[vl,vu,.none] } }:=I3.kept (t':=s3.toks) fun b ob q=>pa_ _ q
 obtain⟨T,id,hT,ht,hg⟩:=hr pins { s3 with heap:=s3.heap.push { cls:=.type "slice",data:=.fields #[vl,vu,.none] } } σ H3 x v vl vu l u s3.heap.objs.size Q I4 r1 (Heap.IsSliceOf.new ..) pl pu q3
 show wpAny (model X.prog X.w) X.A (subscriptTail e (.Slice lo hi none p2) v (.ref s3.heap.objs.size)) (EP X pins σ Q) X.xe { s3 with heap:=s3.heap.push { cls:=.type "slice",data:=.fields #[vl,vu,.none] } }
 exact tail_any (ops:=[.ref s3.heap.objs.size,v]) ht hT hg (by with_unfolding_all rfl)
def cutV (xs:List V) (lo hi:Option Int):List V:=(xs.drop (HT.sIx xs.length 0 lo)).take (HT.sIx xs.length xs.length hi - HT.sIx xs.length 0 lo)
theorem ui_ (xs:List V) (lo hi:Option Int):(cutV xs lo hi).length<=xs.length:=by
 unfold cutV
 rw[pr_,qb_]
 omega
def rSlT (K:pd_):V->Option Int->Option Int->Hp->VK->Prop:=fun x lo hi H Q=>∃ a xs,x=.ref a/\SqT K H a xs /\
 ¬ (HT.sIx xs.length 0 lo=0/\HT.sIx xs.length xs.length hi=xs.length)/\∀ p,H p=none->Q (.ref p) (upd H p (.tup (cutV xs lo hi)))
theorem jux_:SlR X (rSlT X.K):=by
 intro pins s σ H x v vl vu lo hi sl Q I rx hs pl pu h
 obtain⟨a,xs,rfl,hx,hw,q⟩:=h
 cases rx
 obtain⟨its,r,ht,hz⟩:=I.tuple hx
 have hlen:its.toArray.size=xs.length:=by rw[pi_];exact r.length.symm
 refine⟨"tuple",_,sd_.lookup,ht.typeIs,?_⟩
 refine HT.getItem_tuple_cut ht hs pl pu (by rw[hlen];exact hw) ?_ (by rw[hlen];exact hz)
 rw[hlen]
 refine⟨.ref s.heap.objs.size,_,I.laid (t':=s.toks) (o:=.tup (cutV xs lo hi)) (fun b ob q=>pa_ _ q) (pg_ _) ?_,rfl,q _ (I.hok.fresh (pg_ _))⟩
 exact⟨qq_ (ui_ xs lo hi) hz,_,(r.drop (HT.sIx xs.length 0 lo)).take (HT.sIx xs.length xs.length hi - HT.sIx xs.length 0 lo),IsTup.new _ _⟩
def jwt_ (K:pd_):R2:=fun x y H Q=>∃ a b xs ys,x=.ref a/\y=.ref b/\SqT K H a xs/\SqT K H b ys/\xs≠[]/\xs.length+ys.length<=sizeLine /\
 (ys=[]->Q (.ref a) H)/\(ys≠[]->∀ p,H p=none->Q (.ref p) (upd H p (.tup (xs++ys))))
theorem Vals.nil_iff {xs:List V} {us:List Value} (r:Vals xs us):us=[]↔xs=[]:=by
 cases r with
 | nil=>simp
 | cons _ _=>simp
theorem jqv_:OpR X (binaryOp .Add) (jwt_ X.K):=by
 intro pins s σ H x y v u Q I rx ry h
 obtain⟨a,b,xs,ys,rfl,rfl,ha,hb,hx,hz,q1,q2⟩:=h
 cases rx
 cases ry
 obtain⟨its,r1,p1,_⟩:=I.tuple ha
 obtain⟨its2,r2,p2,_⟩:=I.tuple hb
 refine HT.cat_tup p1 p2 (fun z=>hx (r1.nil_iff.mp z)) (fun z=>⟨.ref a,H,I,rfl,q1 (r2.nil_iff.mp z)⟩) (fun z=>?_) (by rw[<- r1.length,<- r2.length];exact hz)
 refine⟨.ref s.heap.objs.size,_,I.laid (t':=s.toks) (o:=.tup (xs++ys)) (fun b ob q=>pa_ _ q) (pg_ _) ?_,rfl,q2 (fun w=>z (r2.nil_iff.mpr w)) _ (I.hok.fresh (pg_ _))⟩
 exact⟨by rw[pj_];exact hz,_,r1.append r2,IsTup.new _ _⟩
end
end L2
namespace L2
open PySem PySem.Spec PyProof.Rows
def ixN (n:Nat) (i:Int):Option Nat:=if 0<=i then (if i < n then some i.toNat else none) else if -(n:Int)<=i then some (i+n).toNat else none
def atI {α:Type} (xs:List α) (i:Int):Option α:=(ixN xs.length i).bind fun j=>xs[j]?
theorem jkp_ {n:Nat} {i:Int} {j:Nat} (h:ixN n i=some j):seqIndex? i n=some j/\j < n/\-(n:Int)<=i/\i < n:=by
 unfold ixN at h
 by_cases h0:0<=i
 ·rw[if_pos h0] at h
  by_cases h1:i < n
  ·rw[if_pos h1] at h
   have e:i.toNat=j:=Option.some.inj h
   exact⟨by rw[seqIndex_of h0 h1,e],by omega,by omega,h1⟩
  ·rw[if_neg h1] at h;cases h
 ·rw[if_neg h0] at h
  by_cases h1:-(n:Int)<=i
  ·rw[if_pos h1] at h
   have e:(i+n).toNat=j:=Option.some.inj h
   exact⟨by rw[seqIndex_neg (by omega) h1,e],by omega,h1,by omega⟩
  ·rw[if_neg h1] at h;cases h
theorem jee_ {α:Type} {xs:List α} {i:Int} {v:α} (h:atI xs i=some v):∃ j,seqIndex? i xs.length=some j/\xs[j]?=some v/\j < xs.length/\-(xs.length:Int)<=i/\i < xs.length:=by
 unfold atI at h
 cases e:ixN xs.length i with
 | none=>rw[e] at h;cases h
 | some j =>
  rw[e] at h
  obtain⟨h1,h2,h3,h4⟩:=jkp_ e
  exact⟨j,h1,h,h2,h3,h4⟩
theorem vu_ {α:Type} {xs:List α} {j:Nat} {v:α} (h:xs[j]?=some v):atI xs (j:Int)=some v:=by
 have hj:j < xs.length:=(pl_.mp h).1
 have e:ixN xs.length (j:Int)=some j:=by
  unfold ixN
  rw[if_pos (by omega),if_pos (by omega)];simp
 unfold atI;rw[e];exact h
def jqm_ (b:Expr):Prop:=∀ o i,subscripted b false o i=operate [o,i] (getItem o i)
def IxR (X:Cx) (r:R2):Prop :=
 ∀(value slice:Expr) (pins:List (Addr×Obj)) (s:Shared) (σ:St) (H:Hp) (x y:V) (v u:Value) (Q:VK),Inv X pins σ H s->RelV x v->RelV y u->r x y H Q ->
  subscripted slice false v u=operate [v,u] (getItem v u)->wpAny (model X.prog X.w) X.A (subscriptTail value slice v u) (EP X pins σ Q) X.xe s
def MtR (X:Cx) (id:String) (r:V->List V->Hp->VK->Prop):Prop :=
 ∀(pins:List (Addr×Obj)) (s:Shared) (σ:St) (H:Hp) (x:V) (xs:List V) (v:Value) (us:List Value) (Q:VK),Inv X pins σ H s->RelV x v->Vals xs us->r x xs H Q ->
  wpAny (model X.prog X.w) X.A (call (.builtin id) (v::us)) (EP X pins σ Q) X.xe s
section
variable {X:Cx} {a b:Expr} {ta tb:TE} {pos:Pos}
theorem jr_ {r:R2} (hr:IxR X r) (ha:PE X a ta) (hb:PE X b tb) (hs:jqm_ b):PE X (.Subscript a b pos) (tOp r ta tb):=by
 intro pins s σ H Q I h
 exact Subscript_ (binT ha hb I h fun v u s2 x y H2 I2 rx ry q=>hr a b pins s2 σ H2 x y v u Q I2 rx ry q (hs _ _))
def rIxL (K:pd_):R2:=fun x y H Q=>∃ p xs i v,x=.ref p/\y=.int i/\SqL K H p xs/\atI xs i=some v/\Q v H
def rIxT (K:pd_):R2:=fun x y H Q=>∃ p xs i v,x=.ref p/\y=.int i/\SqT K H p xs/\atI xs i=some v/\Q v H
def rIxS:R2:=fun x y H Q=>∃ z i c,x=.str z/\y=.int i/\z.length<=sizeLine/\atI z.cps.toList i=some c/\Q (.str ⟨#[c]⟩) H
theorem jqx_:IxR X (rIxL X.K):=by
 intro value slice pins s σ H x y v u Q I rx ry h hs
 obtain⟨p,xs,i,z,rfl,rfl,hq,he,q⟩:=h
 cases rx
 obtain⟨t,rfl⟩:=ry
 obtain⟨its,r,pl,hz⟩:=I.list hq
 obtain⟨j,h1,h2,h3,h4,h5⟩:=jee_ he
 obtain⟨w,ew,rw'⟩:=r.get h2
 have hl:=r.length
 have hn:=x8_
 have fin:EP X pins σ Q w s:=⟨z,H,I,rw',q⟩
 by_cases h0:0<=i
 ·have hj:i.toNat=j:=by
   rw[seqIndex_of h0 h5] at h1
   exact Option.some.inj h1
  exact item_listR pl.isList h0 (by omega) (by rw[hj];simpa using ew) fin hs
 ·have hj:(i+(its.toArray.size:Int)).toNat=j:=by
   rw[seqIndex_neg (by omega) h4] at h1
   rw[pi_,<- hl]
   exact Option.some.inj h1
  exact subscriptTail_builtinR (x:=w) pl.isList.typeIs slot_list_getitem.lookup
   (wpAny_getItem_list_neg (Q:=fun r s'=>r=w/\EP X pins σ Q r s') pl.isList (by omega) (by rw[pi_] <;> omega) (by omega) (by rw[hj];simpa using ew) ⟨rfl,fin⟩) hs
theorem jvc_:IxR X (rIxT X.K):=by
 intro value slice pins s σ H x y v u Q I rx ry h hs
 obtain⟨p,xs,i,z,rfl,rfl,hq,he,q⟩:=h
 cases rx
 obtain⟨t,rfl⟩:=ry
 obtain⟨its,r,pl,hz⟩:=I.tuple hq
 obtain⟨j,h1,h2,h3,h4,h5⟩:=jee_ he
 obtain⟨w,ew,rw'⟩:=r.get h2
 have hl:=r.length
 have hn:=x8_
 have fin:EP X pins σ Q w s:=⟨z,H,I,rw',q⟩
 exact subscriptTail_builtinR (x:=w) pl.typeIs slot_tuple_getitem.lookup
  (getItem_tuple (j:=j) (Q:=fun r s'=>r=w/\EP X pins σ Q r s') pl (by omega) (by omega) (by rw[pi_,<- hl];exact h1) (by simpa using ew) ⟨rfl,fin⟩) hs
theorem jve_:IxR X rIxS:=by
 intro value slice pins s σ H x y v u Q I rx ry h hs
 obtain⟨z,i,c,rfl,rfl,hz,he,q⟩:=h
 obtain⟨t,rfl⟩:=rx
 obtain⟨t',rfl⟩:=ry
 obtain⟨j,h1,h2,h3,h4,h5⟩:=jee_ he
 have hl:z.cps.toList.length=z.length:=by simp[Str.length]
 rw[hl] at h1 h4 h5
 have hn:=x8_
 exact tail_any (typeIs_str s z t) slot_str_getitem.lookup (getItem_str (c:=c) (by
  have e1:decide (i < -(2 ^ 63:Int))=false:=decide_eq_false (by omega)
  have e2:decide (i≥2 ^ 63)=false:=decide_eq_false (by omega)
  rw[e1,e2,Bool.or_false]) (by rw[h1];simpa using h2) ⟨.str ⟨#[c]⟩,H,I.tok _,⟨_,rfl⟩,q⟩) hs
theorem jib_ (its:List Value) (n j:Nat) (u:Value):s2_ (·.setIfInBounds j u) { cls:=.type "list",data:=.seq its.toArray n }={ cls:=.type "list",data:=.seq (its.set j u).toArray n }:=by
 simp[s2_]
theorem Inv.lst {pins:List (Addr×Obj)} {σ:St} {H:Hp} {s:Shared} {p:Addr} {xs:List V} (I:Inv X pins σ H s) (h:H p=some (.lst xs)) :
  ∃(its:List Value) (n:Nat),Vals xs its/\s.heap.get? p=some { cls:=.type "list",data:=.seq its.toArray n }/\xs.length<=sizeLine:=by
 obtain⟨z,its,n,r,e⟩:=I.hok p _ h
 exact⟨its,n,r,e,z⟩
theorem Inv.lstUpd {pins:List (Addr×Obj)} {σ:St} {H:Hp} {s:Shared} {p:Addr} {xs ys:List V} {its its':List Value} {n n':Nat} {f:Obj->Obj} (I:Inv X pins σ H s) (h:H p=some (.lst xs))
  (ho:s.heap.get? p=some { cls:=.type "list",data:=.seq its.toArray n }) (hf:f { cls:=.type "list",data:=.seq its.toArray n }={ cls:=.type "list",data:=.seq its'.toArray n' }) (r:Vals ys its') (hz:ys.length<=sizeLine) (t:Nat) :
  Inv X pins σ (upd H p (.lst ys)) { s with heap:=s.heap.update p f,toks:=t }:=by
 have e:(s.heap.update p f).get? p=some { cls:=.type "list",data:=.seq its'.toArray n' }:=by
  rw[tw_ f ho (by rw[hf] <;> rfl),hf]
 refine I.write (x:=p) (e:=p) (by rw[h];trivial) (.inl rfl) (fun b u hb q=>(r1_ _ _ (wx_ hb)).trans q) ⟨_,e⟩ ?_
 exact⟨hz,its',n',r,e⟩
def jwq_:V->V->V->Hp->(Hp->Prop)->Prop:=fun o i v H Q=>∃ p xs k j,o=.ref p/\i=.int k/\H p=some (.lst xs)/\ixN xs.length k=some j/\Q (upd H p (.lst (xs.set j v)))
theorem jnn_:PSet X jwq_:=by
 intro pins s σ H o i v ov iv u Q I ro ri rv h
 obtain⟨p,xs,k,j,rfl,rfl,hp,hj,q⟩:=h
 cases ro
 obtain⟨t,rfl⟩:=ri
 obtain⟨its,n,r,ho,hz⟩:=I.lst hp
 obtain⟨h1,h2,h3,h4⟩:=jkp_ hj
 have hl:=r.length
 have hn:=x8_
 have I':Inv X pins σ (upd H p (.lst (xs.set j v))) { s with heap:=s.heap.update p (s2_ (·.setIfInBounds j u)) } :=
  I.lstUpd hp ho (jib_ its n j u) (r.set rv j) (by rw[List.length_set];exact hz) s.toks
 by_cases h0:0<=k
 ·have hk:k.toNat=j:=by
   rw[seqIndex_of h0 h4] at h1
   exact Option.some.inj h1
  exact PySem.W.ki_setAt ho h0 (by omega) (by rw[pi_,<- hl];exact h4) (by rw[hk];exact⟨_,I',q⟩)
 ·have hk:(k+(its.toArray.size:Int)).toNat=j:=by
   rw[seqIndex_neg (by omega) h3] at h1
   rw[pi_,<- hl]
   exact Option.some.inj h1
  exact PySem.W.ki_setBack ho (by omega) (by rw[pi_,<- hl];exact h3) (by omega) (by rw[hk];exact⟨_,I',q⟩)
theorem jdn_ (lo hi:Option Int) (n:Nat):(sliceBounds lo hi none n).1=((HT.sIx n 0 lo:Nat):Int)/\(sliceBounds lo hi none n).2.1=((HT.sIx n n hi:Nat):Int)/\(sliceBounds lo hi none n).2.2=1:=by
 refine⟨?_,?_,rfl⟩
 ·cases lo with
  | none=>simp[sliceBounds,HT.sIx]
  | some i =>
   simp only[sliceBounds,HT.sIx,Option.getD_none,show (1:Int) > 0 by decide,if_true]
   by_cases h:i < 0
   ·simp only[h,if_true] <;> omega
   ·simp only[h,if_false] <;> omega
 ·cases hi with
  | none=>simp[sliceBounds,HT.sIx]
  | some i =>
   simp only[sliceBounds,HT.sIx,Option.getD_none,show (1:Int) > 0 by decide,if_true]
   by_cases h:i < 0
   ·simp only[h,if_true] <;> omega
   ·simp only[h,if_false] <;> omega
theorem jbv_ (its:List Value) (lo hi:Option Int):slicePick its.toArray lo hi none=((its.drop (HT.sIx its.length 0 lo)).take (HT.sIx its.length its.length hi - HT.sIx its.length 0 lo)).toArray:=by
 obtain⟨h1,h2,h3⟩:=jdn_ lo hi its.toArray.size
 unfold slicePick
 rw[h1,h2,h3]
 simp only[sliceRange_one,pick_run,pi_] <;> rfl
def rSlL (K:pd_):V->Option Int->Option Int->Hp->VK->Prop:=fun x lo hi H Q=>∃ a xs,x=.ref a/\SqL K H a xs/\∀ p,H p=none->Q (.ref p) (upd H p (.lst (cutV xs lo hi)))
theorem jqr_:SlR X (rSlL X.K):=by
 intro pins s σ H x v vl vu lo hi sl Q I rx hs pl pu h
 obtain⟨a,xs,rfl,hx,q⟩:=h
 cases rx
 obtain⟨its,r,ht,hz⟩:=I.list hx
 have hlen:=r.length
 refine⟨"list",_,slot_list_getitem.lookup,ht.isList.typeIs,?_⟩
 refine wpAny_getItem_list_slice ht.isList hs pl pu .none (by simp) ?_ (by rw[pi_] <;> omega)
 rw[jbv_,<- hlen]
 refine⟨.ref s.heap.objs.size,_,I.laid (t':=s.toks) (o:=.lst (cutV xs lo hi)) (fun b ob q=>pa_ _ q) (pg_ _) ?_,rfl,q _ (I.hok.fresh (pg_ _))⟩
 exact⟨qq_ (ui_ xs lo hi) hz,_,0,(r.drop (HT.sIx xs.length 0 lo)).take (HT.sIx xs.length xs.length hi - HT.sIx xs.length 0 lo),pk_ _ rfl⟩
def jsz_:V->Bool
 | .non=>true
 | .bl _=>true
 | .int _=>true
 | .str _=>true
 | _=>false
def eqV:V->V->Bool
 | .non,.non=>true
 | .bl a,.bl b=>a == b
 | .bl a,.int b=>(if a then 1 else 0) == b
 | .int a,.bl b=>a == (if b then 1 else 0)
 | .int a,.int b=>a == b
 | .str a,.str b=>a == b
 | _,_=>false
def inV (x:V) (xs:List V):Bool:=xs.any fun y=>eqV y x
theorem jeq_:CallR X (.builtin "len") (fun xs H Q=>∃ p ys,xs=[.ref p]/\(SqL X.K H p ys∨SqT X.K H p ys)/\Q (.int ys.length) H):=by
 intro pins s σ H xs us Q I r h
 obtain⟨p,ys,rfl,hq,q⟩:=h
 obtain⟨u,rfl,rx⟩:=xc_ r
 cases rx
 have hn:=x8_
 rcases hq with hq | hq
 ·obtain⟨its,r',pl,hz⟩:=I.list hq
  have hlen:=r'.length
  exact Calls.call_len_list pl.isList (by simp only[pi_] <;> omega) ⟨.int ys.length,H,I.tok _,⟨s.toks+1,by rw[pi_,hlen]⟩,q⟩
 ·obtain⟨its,r',pl,hz⟩:=I.tuple hq
  have hlen:=r'.length
  exact len_tuple pl (by simp only[pi_] <;> omega) ⟨.int ys.length,H,I.tok _,⟨s.toks+1,by rw[pi_,hlen]⟩,q⟩
theorem jdz_:CallR X (.builtin "len") (fun xs H Q=>∃ z,xs=[.str z]/\z.length<=sizeLine/\Q (.int z.length) H):=by
 intro pins s σ H xs us Q I r h
 obtain⟨z,rfl,hz,q⟩:=h
 obtain⟨u,rfl,t,rfl⟩:=xc_ r
 have hn:=x8_
 exact len_str (by omega) ⟨.int z.length,H,I.tok _,⟨_,rfl⟩,q⟩
theorem call_list_of:CallR X (.type "list") (fun xs H Q=>∃ p ys,xs=[.ref p]/\(SqL X.K H p ys∨SqT X.K H p ys)/\∀ l,H l=none->Q (.ref l) (upd H l (.lst ys))):=by
 intro pins s σ H xs us Q I r h
 obtain⟨p,ys,rfl,hq,q⟩:=h
 obtain⟨u,rfl,rx⟩:=xc_ r
 cases rx
 have fin:∀(its:List Value),Vals ys its->ys.length<=sizeLine->∀(h':Heap) (c':Nat),(∀ b o',s.heap.get? b=some o'->h'.get? b=some o') ->
   h'.get? s.heap.objs.size=some { cls:=.type "list",dict:=none,data:=.seq its.toArray c',slots:=#[] }->EP X pins σ Q (.ref s.heap.objs.size) { s with heap:=h' }:=fun its r' hz h' c' kp e =>
  ⟨.ref s.heap.objs.size,_,I.laid (t':=s.toks) kp (pg_ _) (show ObjOk X.prog X.w _ h' _ (.lst ys) from ⟨hz,its,c',r',e⟩),rfl,q _ (I.hok.fresh (pg_ _))⟩
 rcases hq with hq | hq
 ·obtain⟨its,r',pl,hz⟩:=I.list hq
  have hlen:=r'.length
  obtain⟨o,ho,hc,n,hd⟩:=pl.isList
  exact call_list_seq p (.inl rfl) ho hc hd (fun h' c' kp e=>fin its r' hz h' c' kp e) (by simp only[pi_] <;> omega)
 ·obtain⟨its,r',pl,hz⟩:=I.tuple hq
  have hlen:=r'.length
  obtain⟨o,ho,hc,n,hd⟩:=pl
  exact call_list_seq p (.inr rfl) ho hc hd (fun h' c' kp e=>fin its r' hz h' c' kp e) (by simp only[pi_] <;> omega)
theorem call_tuple_of:CallR X (.type "tuple") (fun xs H Q=>∃ p ys,xs=[.ref p]/\((SqL X.K H p ys/\∀ l,H l=none->Q (.ref l) (upd H l (.tup ys)))∨(SqT X.K H p ys/\Q (.ref p) H))):=by
 intro pins s σ H xs us Q I r h
 obtain⟨p,ys,rfl,h⟩:=h
 obtain⟨u,rfl,rx⟩:=xc_ r
 cases rx
 rcases h with ⟨hq,q⟩ | ⟨hq,q⟩
 ·obtain⟨its,r',pl,hz⟩:=I.list hq
  have hlen:=r'.length
  refine call_tuple_list pl.isList (fun h' kp=>?_) (by simp only[pi_] <;> omega)
  have I1:Inv X pins σ H { s with heap:=h' }:=I.kept (t':=s.toks) kp
  have I2:Inv X pins σ (upd H h'.objs.size (.tup ys)) { s with heap:=h'.push { cls:=.type "tuple",data:=.seq its.toArray } } :=
   I1.laid (t':=s.toks) (fun b o e=>pa_ _ e) (pg_ _) (show ObjOk X.prog X.w _ _ _ (.tup ys) from ⟨hz,its,r',IsTup.new _ _⟩)
  exact⟨.ref h'.objs.size,_,I2,rfl,q _ (I1.hok.fresh (pg_ _))⟩
 ·obtain⟨its,r',pl,hz⟩:=I.tuple hq
  exact call_tuple_same pl ⟨.ref p,H,I,rfl,q⟩
def tyV (K:pd_) (T:String) (x:V) (H:Hp):Prop:=match x with
 | .str _=>T="str"
 | .int _=>T="int"
 | .ref p=>(T="list"/\∃ xs,SqL K H p xs)∨(T="tuple"/\∃ o,K.lookup p=some o/\o.cls=.type "tuple"/\o.dict=none) ∨
   (T="dict"/\((∃ kvs,H p=some (.dK kvs))∨∃ kvs,H p=some (.dT kvs)))∨(T="set"/\∃ S n,H p=some (.set S n))
 | _=>False
theorem jmu_ {pins:List (Addr×Obj)} {σ:St} {H:Hp} {s:Shared} {T:String} {x:V} {v:Value} (I:Inv X pins σ H s) (r:RelV x v) (ty:tyV X.K T x H) :
  s.TypeIs v T/\∀ a,v=.ref a->∃ ob,s.heap.get? a=some ob/\ob.dict=none:=by
 cases x with
 | str z =>
  obtain⟨t,rfl⟩:=r
  cases (show T="str" from ty)
  exact⟨typeIs_str s z t,fun _ e=>nomatch e⟩
 | int i =>
  obtain⟨t,rfl⟩:=r
  cases (show T="int" from ty)
  exact⟨typeIs_int s i t,fun _ e=>nomatch e⟩
 | ref p =>
  cases r
  rcases ty with ⟨rfl,xs,hq⟩ | ⟨rfl,o,hk,hc,hd⟩ | ⟨rfl,hk⟩ | ⟨rfl,S,n,hk⟩
  ·obtain⟨its,_,pl,_⟩:=I.list hq
   refine⟨pl.isList.typeIs,fun a e=>?_⟩
   cases e
   obtain⟨o,n,e,c,hd,_⟩:=pl
   exact⟨o,e,hd⟩
  ·refine⟨⟨o,I.kIn p o hk,hc⟩,fun a e=>?_⟩
   cases e
   exact⟨o,I.kIn _ o hk,hd⟩
  ·have z:∃ o,s.heap.get? p=some o/\o.ExactDict:=by
    rcases hk with ⟨kvs,hk⟩ | ⟨kvs,hk⟩
    ·obtain⟨_,_,_,_,o,_,_,e,ex,_⟩:=I.hok p _ hk
     exact⟨o,e,ex⟩
    ·obtain⟨_,_,_,_,o,_,_,e,ex,_⟩:=I.hok p _ hk
     exact⟨o,e,ex⟩
   obtain⟨o,e,ex⟩:=z
   refine⟨⟨o,e,ex.1⟩,fun a e2=>?_⟩
   cases e2
   exact⟨o,e,ex.2.1⟩
  ·obtain⟨o,_,_,_,e,ex,_⟩:=I.hok p _ hk
   refine⟨⟨o,e,ex.1⟩,fun a e2=>?_⟩
   cases e2
   exact⟨o,e,ex.2.1⟩
 | _=>exact s1_ ty
def tBM0 (K:pd_) (T:String) (r:V->List V->Hp->VK->Prop) (to:TE):TE:=fun σ H Q=>to σ H fun x H1=>tyV K T x H1/\r x [] H1 Q
def tBM (K:pd_) (T:String) (r:V->List V->Hp->VK->Prop) (to:TE) (t:TA):TE:=fun σ H Q=>to σ H fun x H1=>tyV K T x H1/\t σ H1 fun xs H2=>r x xs H2 Q
variable {o e:Expr} {es:List Expr} {to:TE} {t:TA} {name:Str} {apos cpos:Pos} {T id:String} {r:V->List V->Hp->VK->Prop}
theorem jvn_ (pa:PlainAttrs T) (slot:Slot T name id) (hty:typeOf (.builtin id)=pure (.type "method_descriptor")) (hm:MtR X id r) (ho:PE X o to)
  (hbase:attributeBase o name X.env (eval o X.env)=eval o X.env:=by rfl) (hline:(apos.endLine == cpos.line)=true:=by rfl):PE X (.Call (.Attribute o name apos) [] [] cpos) (tBM0 X.K T r to):=by
 intro pins s σ H Q I h
 refine wpAny_Call_method0_late hbase hline (thn (ho pins s σ H _ I h) fun v s1 ⟨x,H1,I1,r1,ty,q1⟩=>?_)
 obtain⟨h1,h2⟩:=jmu_ I1 r1 ty
 exact⟨T,id,pa,slot,hty,h1,h2,ss_ rfl (PySem.evalArgs_none (hm pins s1 σ H1 x [] v [] Q I1 r1 .nil q1))⟩
theorem jvt_ (pa:PlainAttrs T) (slot:Slot T name id) (hty:typeOf (.builtin id)=pure (.type "method_descriptor")) (hm:MtR X id r) (ho:PE X o to) (ha:PA X (e::es) t)
  (hbase:attributeBase o name X.env (eval o X.env)=eval o X.env:=by rfl)
  (hfew:((backTo cpos (starEach (e::es) X.env)).all (fun x=>!x.1)&&(backToKw cpos (keywordEach [] X.env)).all (fun x=>x.1.isSome)
   && decide ((e::es).length+([]:List Keyword).length+(if ([]:List Keyword).isEmpty then 0 else 1) < 30))=true:=by rfl)
  (hline:(apos.endLine == cpos.line)=true:=by rfl) (hs:starEach (e::es) X.env=(false,eval e X.env)::starEach es X.env:=by rfl) (hplain:(backTo cpos (starEach es X.env)).any (·.1)=false:=by rfl) :
  PE X (.Call (.Attribute o name apos) (e::es) [] cpos) (tBM X.K T r to t):=by
 intro pins s σ H Q I h
 refine wpAny_Call_method_late hbase hfew hline rfl (thn (ho pins s σ H _ I h) fun v s1 ⟨x,H1,I1,r1,ty,q1⟩=>?_)
 obtain⟨h1,h2⟩:=jmu_ I1 r1 ty
 refine⟨T,id,pa,slot,hty,h1,h2,?_⟩
 have hA:=ha cpos pins s1 σ H1 _ I1 q1
 rw[hs] at hA ⊢
 refine ss_ (by show (false || (backTo cpos (starEach es X.env)).any (·.1))=false;rw[hplain] <;> rfl) (t2_ ?_)
 exact thn hA fun us s2 ⟨vs,H2,I2,r2,q2⟩=>hm pins s2 σ H2 x vs v us Q I2 r1 r2 q2
/- xs.append(e),list.index on a module's tuple .. are MtR facts of 06m -/
end
end L2
namespace L2
open PySem PySem.Spec PyProof.Rows
def MtM (X:Cx) (id:String) (r:V->List V->Hp->VK->Prop):Prop :=
 ∀(pins:List (Addr×Obj)) (s:Shared) (σ:St) (H:Hp) (x:V) (xs:List V) (v:Value) (us:List Value) (Q:VK),Inv X pins σ H s->RelV x v->Vals xs us->r x xs H Q ->
  wpAny (model X.prog X.w) X.A (call (.builtin id) (v::us)) (EP X pins σ Q) X.xe s
theorem Vals.one:∀{x:V} {us:List Value},Vals [x] us->∃ u,us=[u]/\RelV x u
 | _,_,.cons r .nil=>⟨_,rfl,r⟩
theorem Vals.zero:∀{us:List Value},Vals [] us->us=[]
 | _,.nil=>rfl
theorem Vals.dropLast {xs:List V} {us:List Value} (h:Vals xs us):Vals xs.dropLast us.dropLast:=by
 induction h with
 | nil=>exact .nil
 | cons r t ih =>
  cases t with
  | nil=>exact .nil
  | cons q t'=>exact .cons r ih
theorem Vals.reverse {xs:List V} {us:List Value} (h:Vals xs us):Vals xs.reverse us.reverse:=by
 induction h with
 | nil=>exact .nil
 | cons r t ih=>rw[tr_,tr_];exact Vals.append ih (.cons r .nil)
theorem Vals.rep {xs:List V} {us:List Value} (h:Vals xs us):∀ k:Nat,Vals (pv_ k xs).flatten (pv_ k us).flatten
 | 0=>.nil
 | k+1=>by
  rw[rz_,rz_,qm_,qm_]
  exact Vals.append h (Vals.rep h k)
theorem jhq_ {α:Type} (l:List α):l.eraseIdx (l.length - 1)=l.dropLast:=by
 induction l with
 | nil=>rfl
 | cons a r ih =>
  cases r with
  | nil=>rfl
  | cons b r =>
   have e:(a::b::r).length - 1=((b::r).length - 1)+1:=by
    have h1:(a::b::r).length=r.length+2:=rfl
    have h2:(b::r).length=r.length+1:=rfl
    omega
   rw[e,w0_,ih]
   all_goals rfl
theorem jdd_ (its:List Value):∀(k:Nat) (acc:List Value),
  List.foldl (fun x1 x2=>x1++x2) acc.toArray (pv_ k its.toArray)=(acc++(pv_ k its).flatten).toArray
 | 0,acc=>by simp
 | k+1,acc=>by
  have e:acc.toArray++its.toArray=(acc++its).toArray:=by simp
  have e2:(acc++its)++(pv_ k its).flatten=acc++(pv_ (k+1) its).flatten:=by
   rw[rz_,qm_,pu_]
  rw[<- e2,<- jdd_ its k (acc++its),<- e,rz_,sf_]
section
variable {X:Cx} {pins:List (Addr×Obj)} {σ:St} {H:Hp} {s:Shared} {l b:Addr} {xs ys zs:List V}
theorem Inv.lset {its its':List Value} {n:Nat} {f:Array Value->Array Value} {t':Nat} (I:Inv X pins σ H s) (hH:H l=some (.lst xs))
  (e:s.heap.get? l=some { cls:=.type "list",data:=.seq its.toArray n }) (hf:f its.toArray=its'.toArray) (hv:Vals ys its') (hz:ys.length<=sizeLine) :
  Inv X pins σ (upd H l (.lst ys)) { s with heap:=s.heap.update l (s2_ f),toks:=t' }:=by
 have q:=PySem.IsL.update e f
 rw[hf] at q
 refine I.write (x:=l) (e:=l) (by rw[hH];exact trivial) (.inl rfl) (fun b' u hb hu=>(r1_ s.heap (s2_ f) (wx_ hb)).trans hu) ⟨_,q⟩ ?_
 exact⟨hz,its',_,hv,q⟩
theorem Inv.lnew {its:List Value} {t':Nat} (I:Inv X pins σ H s) (hv:Vals ys its) (hz:ys.length<=sizeLine) :
  Inv X pins σ (upd H s.heap.objs.size (.lst ys)) { s with heap:=s.heap.push { cls:=.type "list",data:=.seq its.toArray },toks:=t' } :=
 I.laid (fun _ _ q=>pa_ _ q) (pg_ _) ⟨hz,its,0,hv,pk_ _ rfl⟩
theorem Inv.fresh (I:Inv X pins σ H s):H s.heap.objs.size=none:=I.hok.fresh (pg_ _)
theorem Inv.lstM (I:Inv X pins σ H s) (hH:H l=some (.lst xs)):xs.length<=sizeLine/\∃(its:List Value) (n:Nat),Vals xs its/\xs.length=its.length/\s.heap.get? l=some { cls:=.type "list",data:=.seq its.toArray n }:=by
 obtain⟨z,its,n,r,e⟩:=I.hok l _ hH
 exact⟨z,its,n,r,r.length,e⟩
theorem jgr_ {n:Nat} (h:n<=sizeLine):sg_ n=false:=by
 unfold sg_
 exact decide_eq_false (by omega)
end
section
variable {X:Cx}
def jql_:V->List V->Hp->VK->Prop:=fun x vs H Q=>∃ l xs y,x=.ref l/\vs=[y]/\H l=some (.lst xs)/\xs.length < sizeLine/\Q .non (upd H l (.lst (xs++[y])))
theorem jcf_:MtM X "list.append" jql_:=by
 intro pins s σ H x vs v us Q I rx rv h
 obtain⟨l,xs,y,rfl,rfl,hH,hz,q⟩:=h
 cases rx
 obtain⟨u,rfl,ru⟩:=rv.one
 obtain⟨z,its,n,r,hl,e⟩:=I.lstM hH
 refine call_meets F.slot_list_append ⟨_,e,rfl⟩ F.entry_list_append (F.args_list_append_2 _ _) (PySem.list_append l its.toArray n u (by rw[pi_];omega)) ⟨e,?_⟩
 refine⟨.non,_,I.lset (its':=its++[u]) hH e (by simp) (r.append (.cons ru .nil)) ?_,rfl,q⟩
 rw[pj_,sy_]
 omega
def jrt_:V->List V->Hp->VK->Prop:=fun x vs H Q=>∃ l b xs zs,x=.ref l/\vs=[.ref b]/\H l=some (.lst xs)/\H b=some (.lst zs)/\xs.length+zs.length<=sizeLine/\Q .non (upd H l (.lst (xs++zs)))
theorem jlh_:MtM X "list.extend" jrt_:=by
 intro pins s σ H x vs v us Q I rx rv h
 obtain⟨l,b,xs,zs,rfl,rfl,hH,hB,hz,q⟩:=h
 cases rx
 obtain⟨u,rfl,ru⟩:=rv.one
 cases ru
 obtain⟨z,its,n,r,hl,e⟩:=I.lstM hH
 obtain⟨z2,its2,n2,r2,hl2,e2⟩:=I.lstM hB
 have hsz:its.toArray.size+its2.toArray.size<=sizeLine:=by rw[pi_,pi_];omega
 have hlong:¬ (!its.toArray.isEmpty&&sg_ (its.toArray.size+its2.toArray.size))=true:=by
  rw[jgr_ hsz,Bool.and_false]
  exact pp_
 refine call_meets F.slot_list_extend ⟨_,e,rfl⟩ F.entry_list_extend (F.args_list_extend_2 _ _)
  (AutoSeq1.list_extend_list_list_0 l its.toArray n b its2.toArray n2 hlong (by rw[pi_];omega) (by omega)) ⟨e,e2,?_⟩
 refine⟨.non,_,I.lset (its':=its++its2) hH e (by simp) (r.append r2) ?_,rfl,q⟩
 rw[pj_]
 omega
def rPop:V->List V->Hp->VK->Prop:=fun x vs H Q=>∃ l xs y,x=.ref l/\vs=[]/\H l=some (.lst xs)/\xs[xs.length - 1]?=some y/\Q y (upd H l (.lst xs.dropLast))
theorem jvd_:MtM X "list.pop" rPop:=by
 intro pins s σ H x vs v us Q I rx rv h
 obtain⟨l,xs,y,rfl,rfl,hH,hy,q⟩:=h
 cases rx
 have hus:=rv.zero
 subst hus
 obtain⟨z,its,n,r,hl,e⟩:=I.lstM hH
 obtain⟨u,hu,ru⟩:=r.get hy
 have hy':its.toArray[its.toArray.size - 1]?=some u:=by
  show its.toArray[its.length - 1]?=some u
  rw[<- p9_,<- hl]
  exact hu
 refine call_meets F.slot_list_pop ⟨_,e,rfl⟩ F.entry_list_pop (F.args_list_pop_1 _) (MeetsSeq.list_pop_last l its.toArray n u hy' (by rw[pi_];omega)) ⟨e,?_⟩
 refine⟨y,_,I.lset (its':=its.dropLast) hH e ?_ r.dropLast ?_,ru,q⟩
 ·show its.toArray.eraseIdxIfInBounds (its.toArray.size - 1)=its.dropLast.toArray
  rw[pi_,List.eraseIdxIfInBounds_toArray,jhq_]
 ·rw[List.length_dropLast]
  omega
def rCat:R2:=fun x y H Q=>∃ l b xs zs,x=.ref l/\y=.ref b/\H l=some (.lst xs)/\H b=some (.lst zs)/\xs.length+zs.length<=sizeLine/\∀ p,H p=none->Q (.ref p) (upd H p (.lst (xs++zs)))
theorem jvj_:OpR X (binaryOp .Add) rCat:=by
 intro pins s σ H x y v u Q I rx ry h
 obtain⟨l,b,xs,zs,rfl,rfl,hH,hB,hz,q⟩:=h
 cases rx
 cases ry
 obtain⟨z,its,n,r,hl,e⟩:=I.lstM hH
 obtain⟨z2,its2,n2,r2,hl2,e2⟩:=I.lstM hB
 refine PySem.P.add_list e e2 ?_ (by rw[pi_,pi_];omega)
 have ea:its.toArray++its2.toArray=(its++its2).toArray:=by simp
 rw[ea]
 exact⟨.ref _,_,I.lnew (t':=s.toks) (r.append r2) (by rw[pj_];omega),rfl,q _ I.fresh⟩
def rRep:R2:=fun x y H Q=>∃ l k xs,x=.ref l/\y=.int k/\H l=some (.lst xs)/\-(2 ^ 63)<=k/\k < 2 ^ 63/\xs.length * k.toNat<=sizeLine /\
 ∀ p,H p=none->Q (.ref p) (upd H p (.lst (pv_ k.toNat xs).flatten))
theorem jqb_ {α:Type} (xs:List α) (k:Nat):(pv_ k xs).flatten.length=k * xs.length:=by
 induction k with
 | zero=>simp
 | succ k ih=>rw[rz_,qm_,pj_,ih,Nat.succ_mul,lf_]
theorem jvg_:OpR X (binaryOp .Mult) rRep:=by
 intro pins s σ H x y v u Q I rx ry h
 obtain⟨l,k,xs,rfl,rfl,hH,h1,h2,hz,q⟩:=h
 cases rx
 obtain⟨t,rfl⟩:=ry
 obtain⟨z,its,n,r,hl,e⟩:=I.lstM hH
 have hlen:its.toArray.size * k.toNat<=sizeLine:=by rw[pi_,<- hl];exact hz
 have hcap:¬ its.toArray.size * k.toNat > (2 ^ 63 - 1) / 8:=by
  have:(sizeLine:Nat)<=(2 ^ 63 - 1) / 8:=by decide
  omega
 have hfit:¬ (!Builtin.List.listFitsIndex k)=true:=by
  rw[fitsIndex_both h1 h2]
  exact pp_
 have hlong:¬ sg_ (its.toArray.size * k.toNat)=true:=by
  rw[jgr_ hlen]
  exact pp_
 have hnew:List.foldl (fun x1 x2=>x1++x2) #[] (pv_ (if its.toArray.isEmpty=true then 0 else k.toNat) its.toArray)=(pv_ k.toNat its).flatten.toArray:=by
  have f0:∀ m:Nat,List.foldl (fun x1 x2=>x1++x2) #[] (pv_ m its.toArray)=(pv_ m its).flatten.toArray:=fun m=>by
   have:=jdd_ its m []
   rw[kh_] at this
   exact this
  rw[f0]
  cases its with
  | nil=>simp
  | cons a r'=>rw[if_neg (by simp)]
 refine wpAny_binaryOp_repeat_ref (T:="list") (U:="int") (by decide) ⟨_,e,rfl⟩ (fun s'=>typeIs_int s' k t) noFill_list_mul F.fills_int_mul F.slot_int_rmul repeat_list F.slot_int_index.lookup
  (call_meets F.slot_int_rmul (typeIs_int s k t) F.entry_int_rmul (F.args_int_rmul_2 _ _) (int___rmul___int_list k t l its.toArray n)
   ⟨e,rfl,⟨_,e,rfl⟩,call_meets F.slot_list_mul ⟨_,e,rfl⟩ F.entry_list_mul (F.args_list_mul_2 _ _) (AutoListH.list___mul___list_int_3 l its.toArray n k t hfit hcap hlong) ⟨e,?_⟩⟩)
 rw[hnew]
 exact⟨.ref _,_,I.lnew (t':=s.toks) (r.rep k.toNat) (by rw[jqb_,Nat.mul_comm];exact hz),rfl,q _ I.fresh⟩
end
section
variable {prog:Program} {w:World} {A:Around} {E:Value->Shared->Prop} {s:Shared}
set_option maxRecDepth 100000 in
end
section
variable {X:Cx}
end
end L2
namespace Att
open PySem PySem.W PySem.Calls PyProof.Rows
theorem ut_ {P:Params} {h:Heap}:∀(ns:List Int) (vs:List Value),WellAll P h vs (ns.map WData.int)->IntsAre vs ns:=by
 intro ns
 induction ns with
 | nil =>
  intro vs w
  rw[p2_] at w
  cases w
  exact .nil
 | cons n ns ih =>
  intro vs w
  rw[pf_] at w
  cases w with
  | cons a b =>
   cases a
   exact .cons _ _ (ih _ b)
theorem jlb_ {l:OpenLaw} {n:Nat} (hn:l.most=some n) {P:Params} {h:Heap} {args:List WData} {vals:List Value}
  (hpre:l.row.toRowW.claim.pre args=true) (hwl:WellAll P h vals args) :
  ∃ a vs ns,vals=[Value.ref a]/\args=[WData.list (ns.map WData.int)]/\h.get? a=some { cls:=.type "list",data:=.seq vs.toArray }/\IntsAre vs ns/\ns.length<=n:=by
 have hsh:WShape.hasAll [] args [.list .int]=true:=(pre_splitW hpre).1
 have hc:l.pre.holds [] { args:=args }=true:=(pre_splitW hpre).2
 obtain⟨d,r,rfl,h1,h2⟩:=hasAllW_cons hsh
 obtain rfl:=hasAllW_nil h2
 obtain⟨xs,rfl,h3⟩:=hasW_list h1
 obtain⟨ns,rfl⟩:=items_int h3
 have hlen:ns.length<=n:=by
  unfold OpenLaw.pre at hc
  have h4:(WTm.not (.lt (.lit (.int (n:Int))) (.len (.arg 0)))).holds [] { args:=[.list (ns.map .int)] }=true:=by
   have h4:=(holds_andW hc).1
   rw[hn] at h4
   exact h4
  have h5:=condW_of h4 (w_not (w_lt w_lit (w_len_list (w_arg rfl))))
  rw[pb_] at h5
  refine Nat.le_of_not_lt fun q=>?_
  have q':(n:Int) < ((ns.length:Nat):Int):=by omega
  first
   | (rw[decide_eq_true q'] at h5;exact absurd h5 (by decide))
   | (simp at h5;omega)
 cases hwl with
 | cons w1 w2 =>
  cases w2
  cases w1 with
  | list ho hall=>exact⟨_,_,ns,rfl,rfl,ho,ut_ ns _ hall,hlen⟩
theorem jli_ (l:OpenLaw) (args:List WData):l.row.toRowW.claim.post args (.bool true) args=true :=
 postW_of (r:=l.row.toRowW) (X:=(true == true))
  (show WShape.has [] (.bool true) .bool=true by first | rfl | decide | simp[WShape.has,WShape.arms,WShape.armsAll])
  (show (WTm.eq .res (.lit (.bool true))).value [] { args:=args,res:=some (.bool true),after:=args }=some (.bool (true == true)) from w_eq_bool (w_res rfl) w_lit) rfl
theorem attach_call {l:OpenLaw} {n:Nat} {q:Program} {loose:List Str} {XP:(Str->Option Value)->Heap->Prop} {YP:World->Heap->Prop} {d:DefRec}
  (hn:l.most=some n) (hdf:d.params.defaults=[])
  (call:∀(w:World) (s₀ s₁:Shared) (mg mb:Str->Option Value) (fa:Addr) (o:Obj) (pm cd doc:Value) (a:Addr) (vs:List Value) (ns:List Int),
   Ground q loose [] XP w s₀ mg mb s₁.heap->YP w s₁.heap ->
   s₁.heap.get? fa=some o->o.data=.func (docDef d.name d.params d.body d.scope pm cd doc)->s₁.heap.CodeRec cd d.name->mg d.name=some (.ref fa) ->
   s₁.heap.get? a=some { cls:=.type "list",data:=.seq vs.toArray }->IntsAre vs ns->ns.length<=n->s₁.gens=#[] ->
   codeAny (model l.prog w) callerA (.call (.ref fa) ⟨[.ref a],[]⟩) (fun r s'=>r=.ok (.ret (.bool true))/\OldK s₁.heap s'.heap/\s'.os=s₁.os/\AllBare s'.gens) s₁) :
  WalkO q loose XP YP l.row.toRowW d [] (fun f vs=>PySem.call f vs):=by
 intro w s₀ s₁ mg mb G Y fa o pm cd doc dV kV ho hd hcd hD hmg hg args vals as hpre hlay hrd hwl hlo
 obtain rfl:dV=.none:=Dflts.none hD hdf
 obtain rfl:kV=.none:=Dflts.noKw hD
 obtain⟨a,vs,ns,rfl,rfl,hobj,hints,hlen⟩:=jlb_ hn hpre hwl
 refine enter_call (codeAny_mono (call w s₀ s₁ mg mb fa o pm cd doc a vs ns G Y ho (fd_plain hd) hcd hmg hobj hints hlen hg) fun r s' hq=>?_)
 obtain⟨rfl,h2,h3,h4⟩:=hq
 exact⟨.inl ⟨.bool true,.bool true,[],rfl,fun _=>rfl,.bool true,jli_ l _,fun _=>⟨rx_.nil,fun _ hm=>(nomatch hm)⟩⟩,h2,h3,h4⟩
section
variable {prog:Program} {w:World} {A:Around} {E:Value->Shared->Prop} {s:Shared} {K:Frag}
end
end Att
namespace L2
open PySem PySem.Spec PyProof.Rows
theorem jcq_:∀{vs:List Value} {ns:List Int},IntsAre vs ns->Vals (ns.map V.int) vs
 | _,_,.nil=>.nil
 | _,_,.cons n t h=>.cons ⟨t,rfl⟩ (jcq_ h)
def Only (H:Hp):Prop:=∀ b,H b=none∨∃ o xs,H b=some (.frz o (.lst xs))
theorem jpn_ {P:Program} {w:World} {K:pd_} {mg mb:Str->Option Value} {CX:CXT} {k:Nat} {fa a:Addr} {fd:FuncData} {x:Str} {sp:Sp} {s₁:Shared} {vs:List Value} {ns:List Int}
  (KX:K.In s₁.heap) (hns:s₁.heap.Ns mainGlobals mg) (hb:s₁.heap.Ns builtinsNs mb) (hbb:∀ x:Str,x≠"__name__"->mb x=bootBuiltins x) (hlim:s₁.heap.NoLimit) (hg:s₁.gens=#[])
  (ha:s₁.heap.get? a=some { cls:=.type "list",data:=.seq vs.toArray }) (hi:IntsAre vs ns) (hl:ns.length<=sizeLine) (hr:Room k callerA)
  (F:∀ base:Heap,K.In base->base.Ns mainGlobals mg->FnOk P w K mg base CX k fa fd [x] sp) (hbind:∀(s:Shared) (u:Value),BindsTo s fd ⟨[u],[]⟩ [(x,u)])
  (hsp:∀ H:Hp,Only H->SqL K H a (ns.map V.int)->sp [.ref a] H (fun v _=>v=.bl true) fun _ _ _=>False)
  (hCX:∀ H e s',CX [] H s₁ (fun _ _ _=>False) e s'->False) :
  codeAny (model P w) callerA (.call (.ref fa) ⟨[.ref a],[]⟩) (fun r s'=>r=.ok (.ret (.bool true))/\OldK s₁.heap s'.heap/\s'.os=s₁.os/\AllBare s'.gens) s₁:=by
 have rv:=jcq_ hi
 have lenV:=hi.length
 -- from an abstract heap in which nothing but the script may be tracked
 have core:∀ H:Hp,Only H->SqL K H a (ns.map V.int)->HOk P w H s₁.heap->(∀ b,H b≠none->b=a)->(H a≠none->K.lookup a=none) ->
   codeAny (model P w) callerA (.call (.ref fa) ⟨[.ref a],[]⟩) (fun r s'=>r=.ok (.ret (.bool true))/\OldK s₁.heap s'.heap/\s'.os=s₁.os/\AllBare s'.gens) s₁:=by
  intro H hO hS hok hA hK
  have base_of:∀{b:Addr} {o:Obj},s₁.heap.get? b=some o->H b=none->(hidT s₁.heap H).get? b=some o:=fun e n=>joj_ e n
  have noA:∀{b:Addr} {o:Obj} {es:Array DictEntry} {ep:Nat},s₁.heap.get? b=some o->o.data=.dict es ep->H b=none:=fun{b o es ep} e d=>by
   cases q:H b with
   | none=>rfl
   | some u =>
    have e':b=a:=hA b (by rw[q];simp)
    subst e'
    rw[ha] at e;cases e
    have d':Data.seq vs.toArray _=Data.dict es ep:=d
    cases d'
  have nsK:∀{b:Addr} {m:Str->Option Value},s₁.heap.Ns b m->(hidT s₁.heap H).Ns b m:=fun{b m} ⟨o,es,ep,e,d,r⟩=>⟨o,es,ep,base_of e (noA e d),d,r⟩
  have hKb:K.In (hidT s₁.heap H):=fun b o e=>base_of (KX b o e) (by
   cases q:H b with
   | none=>rfl
   | some u =>
    have e':b=a:=hA b (by rw[q];simp)
    subst e'
    rw[hK (by rw[q];simp)] at e;cases e)
  have hM:Mod K mg (hidT s₁.heap H):=⟨hKb,nsK hns,⟨mb,nsK hb,hbb⟩,let ⟨mc,h1,h2⟩:=hlim;⟨mc,nsK h1,h2⟩⟩
  have e0:Env0 P w K mg (hidT s₁.heap H) callerA [] s₁ H:=⟨rfl,hM,fun b o e=>jqn_ e,lg_ (jlu_ _ _),trivial,fun b hb=>absurd (show b∈([]:List Addr) from hb) (by simp),hok,.of_eq hg⟩
  refine codeAny_mono ((F _ hKb (nsK hns)).run callerA [] s₁ H ⟨[.ref a],[]⟩ [.ref a] [.ref a] _ _ hr e0 (hbind s₁ (.ref a)) (.cons rfl .nil) (hsp H hO hS)) fun r s' h=>?_
  cases r with
  | error e=>exact(hCX H e s' h).elim
  | ok fl =>
   cases fl with
   | next=>exact s1_ h
   | brk=>exact s1_ h
   | cont=>exact s1_ h
   | ret u =>
    obtain⟨v,H',os,bare,un,hok',r',q⟩:=h
    have q':v=.bl true:=q
    subst q'
    obtain rfl:u=Value.bool true:=r'
    refine⟨rfl,OldK.of_keep fun b o e=>?_,os,bare⟩
    cases q:H b with
    | none=>exact un.keep b o e q (by intro z;exact absurd (show b∈([]:List Addr) from z) (by simp)) (by simp)
    | some u =>
     rcases hO b with z | ⟨ob,xs,z⟩
     ·rw[q] at z;cases z
     ·have z2:=un.frzs b ob _ z
      obtain⟨e1,_⟩:=hok b _ z
      obtain⟨e2,_⟩:=hok' b _ z2
      rw[e] at e1;cases e1
      exact e2
 cases hk:K.lookup a with
 | some o =>
  -- the script is one of the module's own objects
  have e:=KX a o hk
  rw[ha] at e
  cases e
  refine core (fun _=>none) (fun _=>.inl rfl) (.inr ⟨_,vs.toArray,_,hk,rfl,rfl,rfl,by rw[pi_,lenV];exact hl,by simpa using rv⟩) (fun b u z=>by have z':(none:Option HO)=some u:=z;cases z') (fun b z=>absurd rfl z) fun z=>absurd rfl z
 | none =>
  refine core (fun b=>if b=a then some (.frz { cls:=.type "list",data:=.seq vs.toArray } (.lst (ns.map V.int))) else none) (fun b=>?_) (.inl (.inr ⟨{ cls:=.type "list",data:=.seq vs.toArray },if_pos rfl⟩)) (fun b u z=>?_) (fun b z=>?_) fun _=>hk
  ·by_cases hb:b=a
   ·exact .inr ⟨_,_,if_pos hb⟩
   ·exact .inl (if_neg hb)
  ·by_cases hb:b=a
   ·have z':=(if_pos hb).symm.trans z
    cases z'
    subst hb
    exact⟨ha,by rw[pb_];exact hl,vs,_,rv,ha⟩
   ·have z':=(if_neg hb).symm.trans z
    cases z'
  ·by_cases hb:b=a
   ·exact hb
   ·exact absurd (if_neg hb) z
end L2
namespace L2
open PySem PySem.Spec PyProof.Rows
theorem jkh_ {l:ki_} {n k:Nat} {q:Program} {loose:List Str} {XP:(Str->Option Value)->Heap->Prop} {YP:World->Heap->Prop} {d:DefRec} {K:Params->pd_} {CX:World->CXT} {sp:World->Sp} {x:Str}
  (hn:l.most=some n) (hn2:n<=sizeLine) (hdf:d.params.defaults=[]) (hr:Room k callerA)
  (hY:∀(w:World) (h:Heap),YP w h->(K w.params).In h)
  (F:∀(w:World) (mg:Str->Option Value) (fa:Addr) (h:Heap),(K w.params).In h->h.Ns mainGlobals mg->mg d.name=some (.ref fa) ->
   ∃ fd:FuncData,(∀(s:Shared) (u:Value),BindsTo s fd ⟨[u],[]⟩ [(x,u)]) /\
    ∀ base:Heap,(K w.params).In base->base.Ns mainGlobals mg->FnOk l.prog w (K w.params) mg base (CX w) k fa fd [x] (sp w))
  (hsp:∀(w:World) (H:Hp) (a:Addr) (ns:List Int),ns.length<=n->Only H->SqL (K w.params) H a (ns.map V.int)->sp w [.ref a] H (fun v _=>v=.bl true) fun _ _ _=>False)
  (hCX:∀(w:World) (H:Hp) (s:Shared) (e:Value) (s':Shared),CX w [] H s (fun _ _ _=>False) e s'->False) :
  PySem.W.WalkO q loose XP YP l.row.toRowW d [] (fun f vs=>PySem.call f vs):=by
 refine Att.attach_call hn hdf fun w s₀ s₁ mg mb fa o pm cd doc a vs ns G Y ho hd hcd hmg hobj hints hlen hg=>?_
 have KX:=hY w _ Y
 obtain⟨fd,hb,hF⟩:=F w mg fa _ KX G.T.g hmg
 exact jpn_ KX G.T.g G.T.b G.T.builtins G.T.nolimit hg hobj hints (qq_ hlen hn2) hr hF hb (fun H hO hS=>hsp w H a ns hlen hO hS) fun H e s'=>hCX w H s₁ e s'
end L2
/- THE LAST THEOREM (shape;LID,My.* are yours):
  My.Adr: a structure of the addresses that your layer names (classes,functions);My.Txt K t: a structure (Prop) of the equations over K;
  My.txt_mk:{K} {implicit addresses ..} (e1:nsIn K mainGlobals "law"=some (some (.ref f))) (e2:K.lookup f=some ⟨oc,od,.func (fnOf "law" "law" params body scope dV kV doc pm an cdv ct),sl⟩) (e3:codeIn K cdv "law"=true) ..:∃ t,My.Txt K t
set_option maxRecDepth 100000 in
set_option maxHeartbeats 0 in
theorem PySem.Challenge.cw_LID_holds : PySem.Challenge.rw_LID.Holds := by
 w_on;o_law;k_head;(case hw=>w_witness2)
 k_fill
 refine L2.jkh_ (l:=PySem.Challenge.rw_LID) (n:=63) (k:=40) (x:="script") (CX:=fun w=>..) (sp:=fun _=>My.sp_law) rfl (by decide) rfl ⟨rfl,by decide,by decide⟩ (fun w h Y=>PySem.W.kIn_of Y) ?F ?S ?C
 case F =>
  intro w mg fa h KX G hmg
  have T:∃ t,My.Txt (L2.KOf KX) t:=by
   dsimp only [L2.KOf]                          -- K must stand as «<heap const> w.params» for k_is
   refine' My.txt_mk ?e1 ?e2 ?e3 ..
   (case e1=>PySem.W.k_is)                    -- in the order: a name -> its address -> its object -> its parts
   (case e2=>PySem.W.k_is)
   ..
  obtain⟨t,T⟩:=T
  have e0:=hmg.symm.trans (qf_ KX G T.law)
  cases e0                                       -- fa is the law's own address
  exact⟨_,fun s u=>.of_eq rfl,fun base kb nb=>My.law_fn T kb nb⟩     -- if «.of_eq rfl» comes too early: refine' ⟨_,?b,fun base kb nb=>My.law_fn T kb nb⟩;exact fun s u=>.of_eq rfl
 case S=>exact fun w H a ns hl hO hS=>..
 case C=>exact ..
(the tactic k_is has no namespace: write k_is) -/
namespace L2
open PySem PySem.Spec PyProof.Rows
def xz_ (s:Stmt):Arguments:=match s with
 | .FunctionDef _ a _ _ _ _ _ _ _ _=>a
 | _=>{ posonlyargs:=[],args:=[],vararg:=none,kwonlyargs:=[],kw_defaults:=[],kwarg:=none,defaults:=[] }
def y3_ (s:Stmt):List Stmt:=match s with
 | .FunctionDef _ _ b _ _ _ _ _ _ _=>b
 | _=>[]
def jl_ (s:Stmt):Scope:=match s with
 | .FunctionDef _ _ _ _ _ _ sc _ _ _=>sc
 | _=>{ kind:=.function,names:=[],isGenerator:=false,isCoroutine:=false }
abbrev CX0:CXT:=fun _ _ _ _ _ _=>False
abbrev E0:XK:=fun _ _ _=>False
theorem jwf_ {X:Cx}:jiy_ CX0 X E0:=fun _ _ _ _ _ _ _ h=>h.elim
structure Fun (K:pd_) (x qual:Str) (st:Stmt) (f:Addr) (fd:FuncData):Prop where
 ex:∃(oc:Value) (od:Option Addr) (kV doc pm:Value) (an:Option Addr) (cdv ct:Value) (osl:Array (Option Value)),
  fd=sx_ x qual (xz_ st) (y3_ st) (jl_ st) .none kV doc pm an cdv ct/\K.lookup f=some ⟨oc,od,.func fd,osl⟩/\wk_ K cdv qual=true
 kp:sp_ K (.ref f)=true
section
variable {P:Program} {w:World} {K:pd_} {mg:Str->Option Value} {base:Heap}
theorem Fun.ok {x qual:Str} {st:Stmt} {f:Addr} {fd:FuncData} {N ps:List Str} {k:Nat} {sp:Sp} (F:Fun K x qual st f fd) (S:FnScope N ps (jl_ st)) (len:∀ vs H Q E,sp vs H Q E->vs.length=ps.length)
  (hbody:∀(cdv:Value) (A:Around) (outer:List Env) (s:Shared) (H:Hp) (vs:List V) (Q:VK) (E:XK),Room k (A.deeper (envOfC qual (jl_ st) s.heap.objs.size f cdv))->sp vs H Q E ->
   ∃ t,PSs (cxOf CX0 P w K mg base N qual (jl_ st) f cdv A outer s H E).nox (y3_ st) t/\t { nx:=fun _ H'=>Q .non H',rt:=Q } (start N vs) H):FnOk P w K mg base CX0 (k+1) f fd ps sp:=by
 obtain⟨oc,od,kV,doc,pm,an,cdv,ct,osl,rfl,lk,hcd⟩:=F.ex
 refine jwu_ lk hcd S len fun A outer s H vs Q E hr hsp=>?_
 obtain⟨t,h,q⟩:=hbody cdv A outer s H vs Q E hr hsp
 exact⟨t,h.nox,q⟩
theorem Fun.binds {x qual:Str} {st:Stmt} {f:Addr} {fd:FuncData} {ps:List Str} (F:Fun K x qual st f fd)
  (h:∀(kV doc pm:Value) (an:Option Addr) (cdv ct:Value) (us:List Value),us.length=ps.length->bindArgs (sx_ x qual (xz_ st) (y3_ st) (jl_ st) .none kV doc pm an cdv ct) ⟨us,[]⟩=pure (ps.zip us)):Binds K fd ps []:=by
 obtain⟨oc,od,kV,doc,pm,an,cdv,ct,osl,rfl,lk,hcd⟩:=F.ex
 exact .all (h kV doc pm an cdv ct)
theorem jpu_ {x qual:Str} {st:Stmt} {f:Addr} {oc:Value} {od an:Option Addr} {osl:Array (Option Value)} {kV doc pm cdv ct:Value} (l:K.lookup f=some ⟨oc,od,.func (sx_ x qual (xz_ st) (y3_ st) (jl_ st) .none kV doc pm an cdv ct),osl⟩)
  (c:wk_ K cdv qual=true) (k:sp_ K (.ref f)=true):Fun K x qual st f (sx_ x qual (xz_ st) (y3_ st) (jl_ st) .none kV doc pm an cdv ct):=⟨⟨oc,od,kV,doc,pm,an,cdv,ct,osl,rfl,l,c⟩,k⟩
end
theorem ve_ {A:Around} {k:Nat} (hr:Room k A):A.units+1 < cLine:=ti_ (Nat.add_le_add_left (by decide:1<=64) _) hr.units
section
variable {X:Cx}
theorem pv (i:Nat) {x:Str} {pos:Pos} (hN:X.N[i]?=some x:=by rfl) (hv:Vis X.env.scope x:=by first | exact Or.inl rfl | exact Or.inr (Or.inl rfl) | exact Or.inr (Or.inr rfl)) (hd:(x == ("__debug__":Str))=false:=by decide)
  (hcd:(x == ("__classdict__":Str))=false:=by decide):PE X (.Name x pos) (tVar i):=jtw_ hN hv hd hcd
end
theorem iteF {A B:Prop} (h:B):if false=true then A else B:=by
 rw[if_neg pp_]
 exact h
theorem iteT {A B:Prop} (h:A):if true=true then A else B:=by
 rw[if_pos rfl]
 exact h
def Same (H H':Hp):Prop:=∀ b o,H b=some o->H' b=some o
theorem Same.refl (H:Hp):Same H H:=fun _ _ h=>h
theorem Same.trans {H H1 H2:Hp} (a:Same H H1) (b:Same H1 H2):Same H H2:=fun c o h=>b c o (a c o h)
theorem Same.free {H H':Hp} (e:Same H H') {l:Addr} (h:H' l=Option.none):H l=Option.none:=by
 cases q:H l with
 | none=>rfl
 | some o =>
  rw[e l o q] at h
  cases h
theorem Same.seq {K:pd_} {H H':Hp} {a:Addr} {xs:List V} (e:Same H H') (h:SqL K H a xs):SqL K H' a xs:=by
 rcases h with (h | ⟨o,h⟩) | h
 ·exact .inl (.inl (e _ _ h))
 ·exact .inl (.inr ⟨o,e _ _ h⟩)
 ·exact .inr h
end L2
namespace L2
open PySem
def clTo (cells:List (Str×Addr)):List (Str×NameKind)->List (Str×Addr)->List (Str×Addr)
 | [],acc=>acc
 | (n,k)::r,acc=>if k == .free then clTo cells r ((n,(cells.lookup n).getD 0)::acc) else clTo cells r acc
theorem jbu_ {scope:Scope} {env:Env} (h:∀ y∈scope.names,y.2=.free->∃ c,env.cells.lookup y.1=some c) :
  closureFor scope env=pure (clTo env.cells scope.names []):=by
 simp only[closureFor]
 generalize ([]:List (Str×Addr))=acc
 revert h
 generalize scope.names=l
 intro h
 have key:∀(l:List (Str×NameKind)) (acc:List (Str×Addr)),(∀ y∈l,y.2=.free->∃ c,env.cells.lookup y.1=some c) ->
   (forIn l acc (fun x r=>if (x.snd == NameKind.free)=true then do
      let a <- cellOf env x.fst
      pure (ForInStep.yield ((x.fst,a)::r)) else pure (ForInStep.yield r)):Sem _)=pure (clTo env.cells l acc):=by
  intro l
  induction l with
  | nil=>intro acc _;rfl
  | cons y l ih =>
   intro acc h
   obtain⟨n,k⟩:=y
   rw[rd_]
   have hr:=fun y hy=>h y (pn_ _ hy)
   by_cases hk:(k == NameKind.free)=true
   ·obtain⟨c,hc⟩:=h (n,k) po_ (by simpa using hk)
    have hc':env.cells.lookup n=some c:=hc
    have e1:cellOf env n=pure c:=by unfold cellOf;rw[hc']
    simp only[hk,if_true,e1,clTo,hc',ta_,pure_bind]
    exact ih _ hr
   ·simp only[Bool.not_eq_true] at hk
    simp only[hk,p0_,if_false,clTo,pure_bind]
    exact ih _ hr
 rw[key l acc h]
 rfl
theorem xx_ {cells:List (Str×Addr)} {x:Str}:∀(l:List (Str×NameKind)) (acc:List (Str×Addr)),((x,NameKind.free)∈l∨acc.lookup x=some ((cells.lookup x).getD 0)) ->
  (clTo cells l acc).lookup x=some ((cells.lookup x).getD 0)
 | [],acc,h=>by
  rcases h with h | h
  ·cases h
  ·exact h
 | (n,k)::r,acc,h=>by
  unfold clTo
  by_cases hk:(k == NameKind.free)=true
  ·rw[if_pos hk]
   refine xx_ r _ ?_
   by_cases e:x=n
   ·subst e;right;simp
   ·rcases h with h | h
    ·left
     rcases pt_.mp h with h | h
     ·injection h with h1 _;exact absurd h1 e
     ·exact h
    ·right
     rw[qn_,beq_eq_false_iff_ne.mpr e];exact h
  ·rw[if_neg hk]
   refine xx_ r _ ?_
   rcases h with h | h
   ·left
    rcases pt_.mp h with h | h
    ·injection h with _ h2;rw[<- h2] at hk;exact absurd rfl hk
    ·exact h
   ·exact .inr h
theorem jea_ {cells:List (Str×Addr)} {x:Str} {c:Addr}:∀(l:List (Str×NameKind)) (acc:List (Str×Addr)),(clTo cells l acc).lookup x=some c ->
  acc.lookup x=some c∨((x,NameKind.free)∈l/\c=(cells.lookup x).getD 0)
 | [],acc,h=>.inl h
 | (n,k)::r,acc,h=>by
  unfold clTo at h
  by_cases hk:(k == NameKind.free)=true
  ·rw[if_pos hk] at h
   rcases jea_ r _ h with q | ⟨q1,q2⟩
   ·by_cases e:x=n
    ·subst e
     rw[qn_,beq_self_eq_true] at q
     have hk':k=.free:=by simpa using hk
     subst hk'
     exact .inr ⟨po_,(Option.some.inj q).symm⟩
    ·rw[qn_,beq_eq_false_iff_ne.mpr e] at q
     exact .inl q
   ·exact .inr ⟨pn_ _ q1,q2⟩
  ·rw[if_neg hk] at h
   rcases jea_ r _ h with q | ⟨q1,q2⟩
   ·exact .inl q
   ·exact .inr ⟨pn_ _ q1,q2⟩
section
variable {prog:Program} {w:World} {A:Around}
 {R:Result->Shared->Prop} {s:Shared}
theorem jdq_ {M:Model} (hM:M=model prog w) {elt target iter:Expr} {ifs:List Expr} {scope:Scope} {pos:Pos} {it acc:Value} {env:Env} (I:Nat->Shared->Prop)
  (turn:∀ n s,I n s->wpAny M A (pyNext it) (fun r z₁=>match r with
   | none=>R (.ok .next) z₁
   | some v=>wpAny M A (letOwnedTupleGo target it v) (fun _ z₀=>wpAny M A (assign target env v) (fun _ z₂ =>
     wpAny M A (forIn ifs true fun c r=>if r=true then do let ok <- isTrue c env (eval c env);pure (ForInStep.yield ok) else pure (ForInStep.yield r)) (fun ok z₃ =>
      if ok=true then wpAny M A (eval elt env) (fun x z₄ =>
       wpAny M A (call (.builtin "list.append") [acc,x]) (fun _ z₅=>∃ m,m < n/\I m z₅) (notedBy M A env fun e s'=>R (.error e) s') z₄) (notedBy M A env fun e s'=>R (.error e) s') z₃
      else ∃ m,m < n/\I m z₃) (notedBy M A env fun e s'=>R (.error e) s') z₂) (notedBy M A env fun e s'=>R (.error e) s') z₀) (notedBy M A env fun e s'=>R (.error e) s') z₁) (notedBy M A env fun e s'=>R (.error e) s') s)
  (n:Nat) (h:I n s) :
  codeAny M A (.compLoop (.ListComp elt [⟨target,iter,ifs,0⟩] scope pos) 0 it acc env) R s:=by
 subst hM
 refine codeAny_loop rfl I (fun k z hz=>?_) n h
 show wpAny _ A (Sem.onRaise (compTurn (.ListComp elt [⟨target,iter,ifs,0⟩] scope pos) 0 it acc env) _) _ _ z
 rw[compTurn_list]
 refine wpAny_noted (wpAny_bind (wpAny_standAt (wpAny_bind (wpAny_mono (turn k z hz) (fun r z1 g1=>?_) fun _ _ e=>e))))
 match r,g1 with
 | none,g1=>exact wpAny_pure g1
 | some v,g1 =>
  refine wpAny_bind (wpAny_mono g1 (fun _ z2 g2=>wpAny_bind (wpAny_mono g2 (fun _ z3 g3=>wpAny_bind (wpAny_mono g3 (fun b z4 g4=>?_) fun _ _ e=>e)) fun _ _ e=>e)) fun _ _ e=>e)
  match b,g4 with
  | false,g4=>exact wpAny_pure ⟨rfl,g4⟩
  | true,g4 =>
   refine wpAny_bind (wpAny_bind (wpAny_mono g4 (fun y z5 g5=>wpAny_bind (wpAny_mono g5 (fun _ z6 g6=>?_) fun _ _ e=>e)) fun _ _ e=>e))
   exact wpAny_pure (wpAny_pure ⟨rfl,g6⟩)
end
end L2
namespace L2
open PySem PySem.Spec PyProof.Rows
def jnm_ (σ:St):Option Nat->Option V
 | none=>none
 | some j=>match σ[j]? with
  | some (some v)=>some v
  | _=>none
def pick (ix:List (Option Nat)) (σ:St):St:=ix.map (jnm_ σ)
theorem jmr_ {ix:List (Option Nat)} {σ:St} {i:Nat} {v:V} (h:(pick ix σ)[i]?=some (some v)):∃ j,ix[i]?=some (some j)/\σ[j]?=some (some v):=by
 unfold pick at h
 rw[ph_] at h
 cases e:ix[i]? with
 | none=>rw[e] at h;cases h
 | some o =>
  rw[e] at h
  have h':jnm_ σ o=some v:=Option.some.inj h
  cases o with
  | none=>cases h'
  | some j =>
   refine⟨j,rfl,?_⟩
   unfold jnm_ at h'
   dsimp only at h'
   split at h'
   ·rename_i q;rw[q,h']
   ·cases h'
def ze_ (X:Cx) (pins:List (Addr×Obj)) (scope:Scope) (N':List Str) (fp:List Addr) (s3:Shared) (H3:Hp):Cx where
 prog:=X.prog
 w:=X.w
 K:=X.K
 mg:=X.mg
 base:=X.base
 A:=X.A
 N:=N'
 s₀:=s3
 H₀:=H3
 env:=compEnvC scope (clTo X.env.cells scope.names []) s3.heap.objs.size X.env
 outer:=X.stack
 stack:=X.stack
 ex:=fp
 fn:=fun _=>false
 calm:=X.calm
 pn:=X.pn++pins
 xe:=fun _ _=>False
def zk_ (names:List (Str×NameKind)) (N:List Str):List (Option Nat)->List Str->Bool
 | [],[]=>true
 | none::r,_::q=>zk_ names N r q
 | some j::r,x::q=>N[j]? == some x&&names.lookup x == some .free&&zk_ names N r q
 | _,_=>false
def jav_ (sc:Scope) (N:List Str) (scope:Scope) (N':List Str) (ix:List (Option Nat)):Bool :=
 scope.names.all (fun y=>y.2 != .cell)&&scope.names.all (fun y=>y.2 != .local || scope.names.lookup y.1 == some .local)
  && scope.names.all (fun y=>y.2 != .free || (sc.names.lookup y.1 == some .cell || sc.names.lookup y.1 == some .free))&&zk_ scope.names N ix N'
theorem x2_ {names:List (Str×NameKind)} {N:List Str}:∀{ix:List (Option Nat)} {N':List Str},zk_ names N ix N'=true->ix.length=N'.length
 | [],[],_=>rfl
 | none::r,_::q,h=>by simp only[zk_] at h;simp[x2_ h]
 | some j::r,x::q,h=>by simp only[zk_,qr_] at h;simp[x2_ h.2]
 | [],_::_,h=>by simp[zk_] at h
 | none::_,[],h=>by simp[zk_] at h
 | some _::_,[],h=>by simp[zk_] at h
theorem x7_ {names:List (Str×NameKind)} {N:List Str}:∀{ix:List (Option Nat)} {N':List Str} {i j:Nat} {x:Str},zk_ names N ix N'=true->ix[i]?=some (some j)->N'[i]?=some x ->
  N[j]?=some x/\names.lookup x=some .free
 | [],[],_,_,_,_,e,_=>by simp at e
 | none::r,_::q,0,_,_,_,e,_=>by simp at e
 | none::r,_::q,i+1,_,_,h,e,e'=>by
  simp only[zk_] at h
  exact x7_ h (by simpa using e) (by simpa using e')
 | some j::r,x::q,0,_,_,h,e,e'=>by
  simp only[zk_,qr_] at h
  simp at e e'
  subst e;subst e'
  exact⟨by simpa using h.1.1,by simpa using h.1.2⟩
 | some j::r,x::q,i+1,_,_,h,e,e'=>by
  simp only[zk_,qr_] at h
  exact x7_ h.2 (by simpa using e) (by simpa using e')
 | [],_::_,_,_,_,h,_,_=>by simp[zk_] at h
 | none::_,[],_,_,_,h,_,_=>by simp[zk_] at h
 | some _::_,[],_,_,_,h,_,_=>by simp[zk_] at h
theorem mem_of_lookup {α β:Type} [BEq α] [LawfulBEq α] {x:α} {k:β}:∀{l:List (α×β)},l.lookup x=some k->(x,k)∈l
 | [],h=>by cases h
 | (n,k')::r,h=>by
  rw[qn_] at h
  by_cases e:x == n
  ·rw[e] at h
   have e':x=n:=by simpa using e
   cases h
   rw[e'];exact po_
  ·have e':(x == n)=false:=by simpa using e
   rw[e'] at h
   exact pn_ _ (mem_of_lookup h)
theorem y1_ {env:Env} {x:Str} {k:NameKind}:∀{names:List (Str×NameKind)},(∀ y∈names,y.2≠.cell) ->
  (names.map fun(n,k)=>if (k == NameKind.free&&env.scope.kind == .function&&env.kindOf n == some .cell) then (n,NameKind.cell) else (n,k)).lookup x=some k->(k=.cell∨k=.free)->(x,NameKind.free)∈names
 | [],_,h,_=>by cases h
 | (n,k')::r,hc,h,hk=>by
  rw[pf_] at h
  have hc':=fun y hy=>hc y (pn_ _ hy)
  have hk':k'≠.cell:=hc (n,k') po_
  by_cases e:x=n
  ·subst e
   dsimp only at h
   split at h
   ·rename_i q
    rw[qn_,beq_self_eq_true] at h
    have:k'=.free:=by simp only[qr_] at q;simpa using q.1.1
    subst this;exact po_
   ·rw[qn_,beq_self_eq_true] at h
    have hkk:k'=k:=Option.some.inj h
    subst hkk
    rcases hk with z | z
    ·exact absurd z hk'
    ·subst z;exact po_
  ·have e':(x == n)=false:=beq_eq_false_iff_ne.mpr e
   refine pn_ _ (y1_ (env:=env) hc' ?_ hk)
   dsimp only at h
   split at h
   ·rw[qn_,e'] at h;exact h
   ·rw[qn_,e'] at h;exact h
theorem y9_ {env:Env} {x:Str}:∀{names:List (Str×NameKind)},names.lookup x=some .free ->
  (names.map fun(n,k)=>if (k == NameKind.free&&env.scope.kind == .function&&env.kindOf n == some .cell) then (n,NameKind.cell) else (n,k)).lookup x=some .cell ∨
  (names.map fun(n,k)=>if (k == NameKind.free&&env.scope.kind == .function&&env.kindOf n == some .cell) then (n,NameKind.cell) else (n,k)).lookup x=some .free
 | [],h=>by cases h
 | (n,k')::r,h=>by
  rw[pf_]
  rw[qn_] at h
  by_cases e:x=n
  ·subst e
   rw[beq_self_eq_true] at h
   have hk:k'=.free:=Option.some.inj h
   subst hk
   dsimp only
   split
   ·left;rw[qn_,beq_self_eq_true]
   ·right;rw[qn_,beq_self_eq_true]
  ·have e':(x == n)=false:=beq_eq_false_iff_ne.mpr e
   rw[e'] at h
   dsimp only
   split
   ·rw[qn_,e'];exact y9_ h
   ·rw[qn_,e'];exact y9_ h
structure CompFacts (X:Cx) (scope:Scope) (N':List Str) (ix:List (Option Nat)):Prop where
 nocell:∀ y∈scope.names,y.2≠.cell
 names:∀ y∈scope.names,y.2=.local->scope.names.lookup y.1=some .local
 free:∀ x,(x,NameKind.free)∈scope.names->X.env.kindOf x=some .cell∨X.env.kindOf x=some .free
 len:ix.length=N'.length
 link:∀{i j:Nat} {x:Str},ix[i]?=some (some j)->N'[i]?=some x->X.N[j]?=some x/\scope.names.lookup x=some .free
theorem jlg_ {X:Cx} {scope:Scope} {N':List Str} {ix:List (Option Nat)} (h:jav_ X.env.scope X.N scope N' ix=true):CompFacts X scope N' ix:=by
 simp only[jav_,qr_,tx_] at h
 obtain⟨⟨⟨h1,h2⟩,h3⟩,h4⟩:=h
 refine⟨fun y hy=>by simpa using h1 y hy,fun y hy e=>?_,fun x hx=>?_,x2_ h4,fun e e'=>x7_ h4 e e'⟩
 ·have q:=h2 y hy
  rw[e] at q
  simpa using q
 ·have q:=h3 _ hx
  have q':X.env.scope.names.lookup x=some .cell∨X.env.scope.names.lookup x=some .free:=by simpa using q
  exact q'
section
variable {X:Cx} {pins:List (Addr×Obj)} {σ:St} {H H':Hp} {s s':Shared} {scope:Scope} {N':List Str} {ix:List (Option Nat)} {fp:List Addr}
theorem FpOk.stk {b:Addr} (I:Inv X pins σ H s) (f:FpOk X pins H b):b∉frs X.stack:=fun z=>by
 rcases pt_.mp (I.stkSub b z) with q | q
 ·exact f.2.1 q
 ·exact f.2.2.1 q
theorem yf_ (I:Inv X pins σ H s) (F:CompFacts X scope N' ix) {x:Str} {c:Addr} (h:(clTo X.env.cells scope.names []).lookup x=some c):X.env.cells.lookup x=some c/\(x,NameKind.free)∈scope.names:=by
 rcases jea_ _ _ h with q | ⟨q1,q2⟩
 ·cases q
 ·obtain⟨c',e⟩:=I.ok.has x (F.free x q1)
  rw[e] at q2
  exact⟨by rw[e,q2];rfl,q1⟩
theorem jsb_ (I:Inv X pins σ H s) (F:CompFacts X scope N' ix) (hk:scope.kind=.function) (hf:∀ b∈fp,FpOk X pins H b) (ho:∀ b∈fp,∃ o,s.heap.get? b=some o):(ze_ X pins scope N' fp s H).Ok where
 mod:=I.ok.mod
 kind:=hk
 glob:=I.ok.glob
 blt:=I.ok.blt
 above:=pg_ _
 inj:=fun x y c e1 e2=>I.ok.inj x y c (yf_ I F e1).1 (yf_ I F e2).1
 has:=fun x hx=>by
  have q:(x,NameKind.free)∈scope.names:=by
   rcases hx with z | z
   ·exact y1_ F.nocell z (.inl rfl)
   ·exact y1_ F.nocell z (.inr rfl)
  exact⟨_,xx_ _ _ (.inl q)⟩
 cab:=fun x c e=>by cases e
 hd:=I.ok.hd
 frames:=I.ok.frames
 stk:=.inl rfl
 exf:=fun b hb=>by
  obtain⟨o,e⟩:=ho b hb
  exact⟨p7_ (pm_ e),fun x c q=>(hf b hb).2.2.2.2.1 x c (yf_ I F q).1⟩
 bs:=fun b o e=>I.bs b o e
 bsz:=qq_ I.ok.bsz I.sz
 noex:=fun b o e hb=>by
  rcases (hf b hb).2.2.2.1 with z | z
  ·exact I.ok.noex b o e z
  ·exact absurd (p6_ (pm_ (I.ok.bs b o e).1) z) (sj_ _)
 exfs:=fun b hb=>FpOk.stk I (hf b hb)
 funs:=I.stack
 frf:=I.stkFree
theorem jpg_ {h':Heap} {m:Str->Option Value} {ob:Obj} {t:Nat} (I:Inv X pins σ H s) (F:CompFacts X scope N' ix) (hk:scope.kind=.function) (hf:∀ b∈fp,FpOk X pins H b) (ho:∀ b∈fp,∃ o,s.heap.get? b=some o)
  (hn:h'.Ns s.heap.objs.size m) (hs:rq_ s.heap.objs.size (s.heap.push ob) h') :
  Inv (ze_ X pins scope N' fp s H) [] (pick ix σ) H { s with heap:=h',toks:=t }:=by
 have k:∀ b u,s.heap.get? b=some u->h'.get? b=some u:=fun b u e =>
  (hs.2 b (p7_ (pm_ e))).trans (pa_ _ e)
 refine⟨jsb_ I F hk hf ho,rfl,I.bare,Un.kept k,⟨m,hn,fun i x v e1 e2 e3=>?_⟩,fun x c e=>?_,I.fresh,fun x c e=>?_,fun p hp=>?_,I.hok.kept k,?_⟩
 ·obtain⟨j,ej,ev⟩:=jmr_ e2
  obtain⟨l1,l2⟩:=F.link ej e1
  have fr:(x,NameKind.free)∈scope.names:=mem_of_lookup l2
  obtain⟨m0,hn0,hl⟩:=I.loc
  have vis:Vis X.env.scope x:=.inr (F.free x fr)
  obtain⟨u,r,l⟩:=hl j x v l1 ev vis
  refine⟨u,r,.inr ⟨y9_ l2,?_⟩⟩
  rcases l with ⟨l,_⟩ | ⟨_,c,e,z⟩
  ·rcases F.free x fr with q | q
   ·rw[q] at l;cases l
   ·rw[q] at l;cases l
  ·refine⟨c,?_,z.keeps k⟩
   show (clTo X.env.cells scope.names []).lookup x=some c
   rw[xx_ _ _ (.inl fr),e];rfl
 ·obtain⟨v,z⟩:=I.cell x c (yf_ I F e).1
  exact⟨v,z.keeps k⟩
 ·exact I.freeC x c (yf_ I F e).1
 ·have hp':p∈X.pn++pins:=by
   have z:p∈(X.pn++pins)++[]:=hp
   rwa [qt_] at z
  obtain⟨e,n,ne,nf,d⟩:=I.pin p hp'
  refine⟨k _ _ e,n,p7_ (pm_ e),fun z=>?_,d⟩
  rcases pt_.mp (I.stkSub p.1 z) with q | q
  ·exact ne q
  ·exact nf q
 ·show (pick ix σ).length=N'.length
  unfold pick;rw[pb_];exact F.len
theorem HOk.sameBut {P:Program} {w:World} {h h':Heap} {a:Addr} (ok:HOk P w H h) (hn:H a=none) (hs:rq_ a h h'):HOk P w H h':=fun b ob e=>by
 refine(ok b ob e).stay (fun c w' hc q=>(hs.2 c ?_).trans q) (fun _ q=>q) fun _ _ q=>q
 rintro rfl
 rcases hc with rfl | hc
 ·rw[hn] at e;cases e
 ·rw[hn] at hc;cases hc
theorem jig_ {σ':St} {ps:List (Addr×Obj)} {h':Heap} (I:Inv X pins σ H s) (hf:∀ b∈fp,FpOk X pins H b) (I':Inv (ze_ X pins scope N' fp s H) ps σ' H' s') (hs:rq_ s.heap.objs.size s'.heap h') :
  Inv X pins σ H' { s' with heap:=h' }:=by
 have bk:∀{b o o'},s.heap.get? b=some o->s'.heap.get? b=some o'->h'.get? b=some o':=fun{b o o'} e e'=>(hs.2 b (p7_ (pm_ e))).trans e'
 refine I.call' (s':={ s' with heap:=h' }) (ch:=fp) I'.os ⟨fun b o e n hb hx=>?_,fun b o e n hb hx=>?_,I'.base.free,fun b o e hx=>?_,I'.base.tups,I'.base.frzs,I'.base.tbls⟩ (I'.hok.sameBut I'.free hs) I'.bare fun b hb=>⟨(hf b hb).2.2.2.1,(hf b hb).2.1,(hf b hb).2.2.2.2.1,(hf b hb).2.2.2.2.2⟩
 ·exact bk e (I'.base.keep b o e n hb hx)
 ·obtain⟨sl,q⟩:=I'.base.slot b o e n hb hx
  exact⟨sl,bk e q⟩
 ·obtain⟨o',q⟩:=I'.base.there b o e hx
  exact⟨o',bk e q⟩
end
def PTs (X:Cx) (ifs:List Expr) (t:TT):Prop :=
 ∀(pins:List (Addr×Obj)) (s:Shared) (σ:St) (H:Hp) (Q:Bool->Hp->Prop),Inv X pins σ H s->t σ H Q ->
  wpAny (model X.prog X.w) X.A (forIn ifs true fun c r=>if r=true then do let ok <- isTrue c X.env (eval c X.env);pure (ForInStep.yield ok) else pure (ForInStep.yield r)) (TP X pins σ Q) X.xe s
def jsq_:TT:=fun _ H Q=>Q true H
theorem z4_ {X:Cx}:PTs X [] jsq_:=fun _ _ _ H _ I h=>wpAny_tests_nil ⟨H,I,h⟩
theorem jqw_ {X:Cx} {c:Expr} {t:TT} (h:PT X c t):PTs X [c] t:=fun pins s σ H Q I q=>wpAny_tests_one (h pins s σ H Q I q)
def yo_ (J:It) (p:Addr) (g:TG) (tc:TT) (te:TE) (Q:VK) (σ0:St) (H0:Hp):Prop :=
 ∃ W:Nat->Nat->List V->St->Hp->Prop,(∃ m,W 0 m [] σ0 H0)/\∀ i m acc σ' H',W i m acc σ' H'->H' p=some (.lst acc) /\
  ((J.stop i H'/\Q (.ref p) H')∨(J.go i H'/\acc.length < sizeLine/\∃ N:List V->St->Hp->Prop,(∀ a' σ3 H3,N a' σ3 H3->∃ m',m' < m/\W (i+1) m' a' σ3 H3) /\
   ∀ x H2,J.yld i H' x H2->g x σ' H2 fun σ3 H3=>tc σ3 H3 fun b H4 =>
    if b=true then te σ3 H4 fun v H5=>H5 p=some (.lst acc)/\N (acc++[v]) σ3 (upd H5 p (.lst (acc++[v]))) else N acc σ3 H4))
def jjk_ (ix:List (Option Nat)) (wi:TI) (g:TG) (tc:TT) (te:TE):TE:=fun σ H Q=>wi σ H fun J H1=>∀ p,H1 p=none->yo_ J p g tc te Q (pick ix σ) (upd H1 p (.lst []))
section
variable {X:Cx} {elt tg iter:Expr} {ifs:List Expr} {scope:Scope} {pos:Pos} {N':List Str} {ix:List (Option Nat)} {wi:TI} {g:TG} {tc:TT} {te:TE}
theorem jgk_ {use:Option (Value->Sem Unit)} {R:Value->Shared->Prop} {pins:List (Addr×Obj)} {s:Shared} {σ:St} {H:Hp} {Q:VK} (hc:X.calm=true) (ok:jav_ X.env.scope X.N scope N' ix=true) (hk:scope.kind=.function)
  (hi:PI X tg iter wi)
  (hg:∀ pins fp s3 H3,PG (ze_ X pins scope N' fp s3 H3) tg g) (ht:∀ pins fp s3 H3,PTs (ze_ X pins scope N' fp s3 H3) ifs tc) (he:∀ pins fp s3 H3,PE (ze_ X pins scope N' fp s3 H3) elt te)
  (hs:∀ x,foldedSetIterable iter X.env x=pure x) (I:Inv X pins σ H s) (h:jjk_ ix wi g tc te σ H Q)
  (fin:∀(p C:Addr) (H':Hp) (s':Shared),(∃ m,s'.heap.Ns C m)->FpOk X pins H' C->(∀ h',rq_ C s'.heap h'->Inv X pins σ H' { s' with heap:=h' })->Q (.ref p) H'->compPost (model X.prog X.w) X.A X.xe use R (.ref p) C (.ok .next) s') :
  wpAny (model X.prog X.w) X.A (comprehension (.ListComp elt [⟨tg,iter,ifs,0⟩] scope pos) scope X.env (firstIterPos [⟨tg,iter,ifs,0⟩] pos) (newList []) (firstAsync [⟨tg,iter,ifs,0⟩]) (firstIter [⟨tg,iter,ifs,0⟩] X.env) use) R X.xe s:=by
 have F:=jlg_ ok
 refine wpAny_comprehension_free (cl:=clTo X.env.cells scope.names []) rfl hs (jbu_ fun y hy e=>?_) hk F.names ?_
 ·obtain⟨n,k⟩:=y
  have e':k=.free:=e
  subst e'
  exact I.ok.has n (F.free n hy)
 refine thn (hi pins s σ H _ I h) fun v s1 h1=>thn h1 fun itv s2 h2=>?_
 obtain⟨it,fp,tn,J,H2,e,I2,T,st2,f2,rd⟩:=h2
 subst e
 refine wpAny_newObj_type ?_
 have hp:=I2.fresh
 obtain⟨W,⟨m0,w0⟩,turn⟩:=rd _ hp
 have I3:=I2.lnew (ys:=[]) (its:=[]) (t':=s2.toks) Paired.nil (ri_ _)
 have hf3:∀ b∈fp,FpOk X pins (upd H2 s2.heap.objs.size (.lst [])) b:=fun b hb=>by
  obtain⟨o,e,_⟩:=T.obj _ _ st2 b hb
  exact⟨by rw[je_ (p7_ (pm_ e))];exact(f2 b hb).1,(f2 b hb).2⟩
 have ho3:∀ b∈fp,∃ o,(s2.heap.push { cls:=.type "list",data:=.seq ([]:List Value).toArray }).get? b=some o:=fun b hb=>by
  obtain⟨o,e,_⟩:=T.obj _ _ st2 b hb
  exact⟨o,pa_ _ e⟩
 have hpC:s2.heap.objs.size≠(s2.heap.push { cls:=.type "list",data:=.seq ([]:List Value).toArray }).objs.size:=by
  rw[q9_];exact p7_ (Nat.lt_succ_self _)
 refine wpAny_newFunctionEnv F.nocell (by intro y hy;simp at hy) (fun h4 hn4 hs4=>?_) hk
 have I4:=jpg_ (t:=s2.toks+([]:List (Str×Value)).length) I3 F hk hf3 ho3 hn4 hs4
 have k4:∀ b o,s2.heap.get? b=some o->h4.get? b=some o:=fun b o e =>
  (hs4.2 b (p7_ (p6_ (pm_ e) (by rw[q9_];exact k1_ _)))).trans (pa_ _ (pa_ _ e))
 have st4:tn 0 h4:=T.keep _ _ _ st2 fun b _ o e=>k4 b o e
 have fx:∀{H':Hp} {ps:List (Addr×Obj)},(∀ b∈fp,H' b=none)->(∀ b∈fp,∀ p∈ps,p.1≠b)->∀ b∈fp,FpOk (ze_ X pins scope N' fp { s2 with heap:=s2.heap.push { cls:=.type "list",data:=.seq ([]:List Value).toArray },toks:=s2.toks } (upd H2 s2.heap.objs.size (.lst []))) ps H' b:=fun{H' ps} hn hps b hb=>by
  obtain⟨o,e⟩:=ho3 b hb
  refine⟨hn b hb,p7_ (pm_ e),FpOk.stk I3 (hf3 b hb),.inl hb,fun x c q=>(hf3 b hb).2.2.2.2.1 x c (yf_ I3 F q).1,fun p hp=>?_⟩
  rcases pq_.mp hp with z | z
  ·exact(hf3 b hb).2.2.2.2.2 p z
  ·exact hps b hb p z
 have loop:codeAny (model X.prog X.w) X.A (.compLoop (.ListComp elt [⟨tg,iter,ifs,0⟩] scope pos) 0 (.ref it) (.ref s2.heap.objs.size) (compEnvC scope (clTo X.env.cells scope.names []) (s2.heap.push { cls:=.type "list",data:=.seq ([]:List Value).toArray }).objs.size X.env))
   (compPost (model X.prog X.w) X.A X.xe use R (.ref s2.heap.objs.size) (s2.heap.push { cls:=.type "list",data:=.seq ([]:List Value).toArray }).objs.size) { s2 with heap:=h4,toks:=s2.toks+([]:List (Str×Value)).length }:=by
  refine jdq_ rfl (fun n s'=>∃ i acc σ' H',Inv (ze_ X pins scope N' fp { s2 with heap:=s2.heap.push { cls:=.type "list",data:=.seq ([]:List Value).toArray },toks:=s2.toks } (upd H2 s2.heap.objs.size (.lst []))) [] σ' H' s'/\tn i s'.heap/\(∀ b∈fp,H' b=none)/\W i n acc σ' H')
   ?_ m0 ⟨0,[],_,_,I4,st4,fun b hb=>(hf3 b hb).1,w0⟩
  rintro n s5 ⟨i,acc,σ5,H5,I5,st5,fr5,w5⟩
  obtain⟨hacc,alt⟩:=turn i n acc σ5 H5 w5
  rcases alt with ⟨stop,q⟩ | ⟨go,hz,N,hN,step⟩
  ·refine wpAny_mono (T.done (ze_ X pins scope N' fp { s2 with heap:=s2.heap.push { cls:=.type "list",data:=.seq ([]:List Value).toArray },toks:=s2.toks } (upd H2 s2.heap.objs.size (.lst []))) rfl rfl rfl hc i [] s5 σ5 H5 (fun _ _=>False) I5 (fx (ps:=[]) fr5 (fun _ _ _ z=>nomatch z)) st5 stop) (fun r s6 ⟨hr,I6⟩=>?_) fun _ _ f=>f.elim
   subst hr
   refine fin _ _ H5 s6 ?_ (I3.fpOk (pg_ _) I6.free) (fun h' hs'=>jig_ I3 hf3 I6 hs') q
   obtain⟨m,hm,_⟩:=I6.loc
   exact⟨m,hm⟩
  ·refine wpAny_mono (T.item (ze_ X pins scope N' fp { s2 with heap:=s2.heap.push { cls:=.type "list",data:=.seq ([]:List Value).toArray },toks:=s2.toks } (upd H2 s2.heap.objs.size (.lst []))) rfl rfl rfl hc i [] s5 σ5 H5 (fun _ _=>False) I5 (fx (ps:=[]) fr5 (fun _ _ _ z=>nomatch z)) st5 go) (fun r s6 ⟨u,hr,h6⟩=>?_) fun _ _ f=>f.elim
   subst hr
   refine wpAny_mono h6 (fun _ s7 ⟨x,H7,I7,r7,y7,st7,fr7⟩=>?_) fun _ _ f=>f.elim
   have I7':=I7.pinned (fx (ps:=[]) fr7 (fun _ _ _ z=>nomatch z)) (T.obj _ _ st7)
   refine wpAny_mono (hg _ _ _ _ _ s7 σ5 H7 x u _ I7' r7 (step x H7 y7)) (fun _ s8 ⟨σ8,H8,I8,q8⟩=>?_) fun _ _ f=>f.elim
   refine wpAny_mono (ht _ _ _ _ _ s8 σ8 H8 _ I8 q8) (fun b s9 ⟨H9,I9,q9⟩=>?_) fun _ _ f=>f.elim
   have keep:∀{σ':St} {H':Hp} {s':Shared},Inv (ze_ X pins scope N' fp { s2 with heap:=s2.heap.push { cls:=.type "list",data:=.seq ([]:List Value).toArray },toks:=s2.toks } (upd H2 s2.heap.objs.size (.lst []))) ([]++jat_ fp s7.heap) σ' H' s' ->
     tn (i+1) s'.heap/\∀ b∈fp,H' b=none:=fun{σ' H' s'} I'=>by
    refine⟨T.keep _ _ _ st7 fun b hb o e=>(I'.pin (b,o) (qs_ _ (qs_ _ (y2_ hb e)))).1,fun b hb=>?_⟩
    obtain⟨o,e,d⟩:=T.obj _ _ st7 b hb
    exact(I'.pin (b,o) (qs_ _ (qs_ _ (y2_ hb e)))).2.1
   cases b with
   | false =>
    rw[if_neg pp_] at q9 ⊢
    obtain⟨m',hm,w9⟩:=hN _ _ _ q9
    exact⟨m',hm,i+1,acc,σ8,H9,I9.unpinned,(keep I9).1,(keep I9).2,w9⟩
   | true =>
    rw[if_pos rfl] at q9 ⊢
    refine wpAny_mono (he _ _ _ _ _ s9 σ8 H9 _ I9 q9) (fun y s10 ⟨v10,H10,I10,r10,hl10,w10⟩=>?_) fun _ _ f=>f.elim
    refine wpAny_mono (jcf_ (X:=(ze_ X pins scope N' fp { s2 with heap:=s2.heap.push { cls:=.type "list",data:=.seq ([]:List Value).toArray },toks:=s2.toks } (upd H2 s2.heap.objs.size (.lst [])))) _ s10 σ8 H10 (.ref s2.heap.objs.size) [v10] (.ref s2.heap.objs.size) [y] (fun _ H'=>N (acc++[v10]) σ8 H') I10 rfl (.cons r10 .nil) ⟨_,acc,v10,rfl,rfl,hl10,hz,w10⟩) (fun _ s11 ⟨_,H11,I11,_,n11⟩=>?_) fun _ _ f=>f.elim
    obtain⟨m',hm,w11⟩:=hN _ _ _ n11
    exact⟨m',hm,i+1,acc++[v10],σ8,H11,I11.unpinned,(keep I11).1,(keep I11).2,w11⟩
 exact codeAny_compStart_list loop (T.self X.A 0 _ _ _ st4 loop)
theorem z3_ (N':List Str) (ix:List (Option Nat)) (hc:X.calm=true) (ok:jav_ X.env.scope X.N scope N' ix=true) (hk:scope.kind=.function) (hi:PI X tg iter wi)
  (hg:∀ pins fp s3 H3,PG (ze_ X pins scope N' fp s3 H3) tg g) (ht:∀ pins fp s3 H3,PTs (ze_ X pins scope N' fp s3 H3) ifs tc) (he:∀ pins fp s3 H3,PE (ze_ X pins scope N' fp s3 H3) elt te)
  (hs:∀ x,foldedSetIterable iter X.env x=pure x:=by intro _;rfl):PE X (.ListComp elt [⟨tg,iter,ifs,0⟩] scope pos) (jjk_ ix wi g tc te):=by
 intro pins s σ H Q I h
 rw[eval_ListComp]
 refine jgk_ hc ok hk hi hg ht he hs I h fun p C H' s' hm fC inv q=>?_
 obtain⟨m,hm⟩:=hm
 exact⟨m,hm,fun h' hs'=>⟨.ref p,H',inv h' hs',rfl,q⟩⟩
theorem jry_ {i:Nat} {x:Str} {pos' spos:Pos} (N':List Str) (ix:List (Option Nat)) (hc:X.calm=true) (ok:jav_ X.env.scope X.N scope N' ix=true) (hk:scope.kind=.function) (hN:X.N.Nodup) (hx1:X.N[i]?=some x) (hx:X.env.scope.names.lookup x=some .local)
  (hi:PI X tg iter wi)
  (hg:∀ pins fp s3 H3,PG (ze_ X pins scope N' fp s3 H3) tg g) (ht:∀ pins fp s3 H3,PTs (ze_ X pins scope N' fp s3 H3) ifs tc) (he:∀ pins fp s3 H3,PE (ze_ X pins scope N' fp s3 H3) elt te)
  (hw:swapsWith (.ListComp elt [⟨tg,iter,ifs,0⟩] scope pos) (some (.Name x pos')) spos.line X.env=pure true:=by rfl)
  (hs:∀ x,foldedSetIterable iter X.env x=pure x:=by intro _;rfl):PS X (.Assign [.Name x pos'] (.ListComp elt [⟨tg,iter,ifs,0⟩] scope pos) spos) (tAsg (jjk_ ix wi g tc te) (jkb_ i)):=by
 intro pins s σ H D I h
 rw[exec_Assign_Name_used _ _ _ _ hw]
 refine wpAny_bind (wpAny_standAt (wpAny_bind ?_))
 show wpAny _ X.A (do let _ <- comprehension (.ListComp elt [⟨tg,iter,ifs,0⟩] scope pos) scope X.env (firstIterPos [⟨tg,iter,ifs,0⟩] pos) (newList []) (firstAsync [⟨tg,iter,ifs,0⟩]) (firstIter [⟨tg,iter,ifs,0⟩] X.env) (some (assign (.Name x pos') X.env))) _ _ s
 refine wpAny_bind (thn (jgk_ (R:=fun _ s'=>∃ σ' H',Inv X pins σ' H' s'/\D.nx σ' H') hc ok hk hi hg ht he hs I h fun p C H' s' hm fC inv q=>?_) fun _ s' ⟨σ',H',I',q⟩=>wpAny_pure (wpAny_pure ⟨σ',H',I',q⟩))
 have inv0:Inv X pins σ H' s':=by
  have:=inv s'.heap ⟨rfl,fun _ _=>rfl⟩
  exact this
 obtain⟨m,hm⟩:=hm
 refine wpAny_assign_Name ?_
 refine jdj_ (v:=.ref p) inv0 hN hx1 (.inl hx) rfl (fun s'' I'' ⟨a,sb,ha⟩=>?_) (.inr hx)
 have ne:C≠a:=by
  rcases ha with z | z
  ·rw[z];exact fC.2.1
  ·exact fun q=>fC.2.2.2.2.1 x a z q.symm
 refine⟨m,hm.sameBut sb ne,fun h' hs'=>⟨_,H',?_,q⟩⟩
 exact I''.turned (t':=s''.toks) (it:=C) (fun b o hb e=>(hs'.2 b hb).trans e) fC.1 fC.2.1 fC.2.2.2.1 fC.2.2.2.2.1 fC.2.2.2.2.2
end
end L2
namespace L2
open PySem PySem.Spec PyProof.Rows
inductive Dt where
 | non | bl (b:Bool) | int (i:Int) | str (x:Str) | tup (ds:List Dt) | lst (ds:List Dt)
mutual
def Is (H:Hp):V->Dt->Prop
 | v,.non=>v=.non
 | v,.bl b=>v=.bl b
 | v,.int i=>v=.int i
 | v,.str x=>v=.str x
 | v,.tup ds=>∃ a xs,v=.ref a/\H a=some (.tup xs)/\IsL H xs ds
 | v,.lst ds=>∃ a xs,v=.ref a/\H a=some (.lst xs)/\IsL H xs ds
def IsL (H:Hp):List V->List Dt->Prop
 | [],[]=>True
 | x::xs,d::ds=>Is H x d/\IsL H xs ds
 | _,_=>False
end
mutual
def dep:Dt->Nat
 | .tup ds=>depL ds+1
 | .lst ds=>depL ds+1
 | _=>0
def depL:List Dt->Nat
 | []=>0
 | d::ds=>max (dep d) (depL ds)
end
mutual
def wid:Dt->Nat
 | .tup ds=>max ds.length (widL ds)
 | .lst ds=>max ds.length (widL ds)
 | _=>0
def widL:List Dt->Nat
 | []=>0
 | d::ds=>max (wid d) (widL ds)
end
theorem jkr_ {ds:List Dt} {i:Nat} {d:Dt} (h:ds[i]?=some d):wid d<=widL ds:=by
 induction ds generalizing i with
 | nil=>simp at h
 | cons e ds ih =>
  simp only[widL]
  cases i with
  | zero=>simp at h;subst h;omega
  | succ i=>have:=ih (by simpa using h);omega
mutual
theorem Is.same {H H':Hp} (h:∀ b o,H b=some o->H' b=some o):∀{d:Dt} {v:V},Is H v d->Is H' v d
 | .non,_,k=>by simp only[Is] at k ⊢;exact k
 | .bl _,_,k=>by simp only[Is] at k ⊢;exact k
 | .int _,_,k=>by simp only[Is] at k ⊢;exact k
 | .str _,_,k=>by simp only[Is] at k ⊢;exact k
 | .tup ds,_,k=>by
  simp only[Is] at k ⊢
  obtain⟨a,xs,e,h1,h2⟩:=k
  exact⟨a,xs,e,h _ _ h1,IsL.same h h2⟩
 | .lst ds,_,k=>by
  simp only[Is] at k ⊢
  obtain⟨a,xs,e,h1,h2⟩:=k
  exact⟨a,xs,e,h _ _ h1,IsL.same h h2⟩
theorem IsL.same {H H':Hp} (h:∀ b o,H b=some o->H' b=some o):∀{ds:List Dt} {xs:List V},IsL H xs ds->IsL H' xs ds
 | [],[],_=>by simp only[IsL]
 | d::ds,x::xs,k=>by
  simp only[IsL] at k ⊢
  exact⟨Is.same h k.1,IsL.same h k.2⟩
 | [],_::_,k=>by simp only[IsL] at k
 | _::_,[],k=>by simp only[IsL] at k
end
theorem IsL.length {H:Hp}:∀{ds:List Dt} {xs:List V},IsL H xs ds->xs.length=ds.length
 | [],[],_=>rfl
 | d::ds,x::xs,k=>by
  simp only[IsL] at k
  simp only[pz_,IsL.length k.2]
 | [],_::_,k=>by simp only[IsL] at k
 | _::_,[],k=>by simp only[IsL] at k
theorem IsL.get {H:Hp}:∀{ds:List Dt} {xs:List V} {i:Nat},IsL H xs ds->i < ds.length->∃ x d,xs[i]?=some x/\ds[i]?=some d/\Is H x d
 | [],_,_,_,h=>by simp at h
 | d::ds,x::xs,0,k,_=>by
  simp only[IsL] at k
  exact⟨x,d,rfl,rfl,k.1⟩
 | d::ds,x::xs,i+1,k,h=>by
  simp only[IsL] at k
  obtain⟨y,e,h1,h2,h3⟩:=IsL.get (i:=i) k.2 (by simpa using h)
  exact⟨y,e,by simpa using h1,by simpa using h2,h3⟩
 | _::_,[],_,k,_=>by simp only[IsL] at k
theorem jjg_ {ds:List Dt} {i:Nat} {d:Dt} (h:ds[i]?=some d):dep d<=depL ds:=by
 induction ds generalizing i with
 | nil=>simp at h
 | cons e ds ih =>
  simp only[depL]
  cases i with
  | zero=>simp at h;subst h;omega
  | succ i=>have:=ih (by simpa using h);omega
theorem IsL.ints (H:Hp):∀ ns:List Int,IsL H (ns.map V.int) (ns.map Dt.int)
 | []=>by simp only[p2_,IsL]
 | n::ns=>by simp only[pf_,IsL,Is,true_and];exact IsL.ints H ns
mutual
def toP:Dt->PyData
 | .non=>.none
 | .bl b=>.bool b
 | .int i=>.int i
 | .str x=>.str x
 | .tup ds=>.tuple (toPs ds)
 | .lst ds=>.list (toPs ds)
def toPs:List Dt->List PyData
 | []=>[]
 | d::ds=>toP d::toPs ds
end
mutual
theorem Is.reads {P:Program} {w:World} {H:Hp} {h:Heap} (ok:HOk P w H h):∀{d:Dt} {v:V} {u:Value},Is H v d->RelV v u->∃ as,Reads h u (toP d) as
 | .non,_,_,k,r=>by simp only[Is] at k;subst k;cases r;exact⟨_,Reads.none⟩
 | .bl b,_,_,k,r=>by simp only[Is] at k;subst k;cases r;exact⟨_,Reads.bool b⟩
 | .int i,_,_,k,r=>by simp only[Is] at k;subst k;obtain⟨t,rfl⟩:=r;exact⟨_,Reads.int i t⟩
 | .str x,_,_,k,r=>by simp only[Is] at k;subst k;obtain⟨t,rfl⟩:=r;exact⟨_,Reads.str x t⟩
 | .tup ds,_,_,k,r=>by
  simp only[Is] at k
  obtain⟨a,xs,rfl,h1,h2⟩:=k
  cases r
  obtain⟨_,its,rv,o,ho,hc,n,hd⟩:=(show ObjOk P w H h a (.tup xs) from ok a _ h1)
  obtain⟨as,q⟩:=IsL.reads ok h2 rv
  exact⟨_,Reads.tuple ho hc hd (by simpa using q)⟩
 | .lst ds,_,_,k,r=>by
  simp only[Is] at k
  obtain⟨a,xs,rfl,h1,h2⟩:=k
  cases r
  obtain⟨_,its,n,rv,e⟩:=(show ObjOk P w H h a (.lst xs) from ok a _ h1)
  obtain⟨as,q⟩:=IsL.reads ok h2 rv
  exact⟨_,Reads.list e rfl rfl (by simpa using q)⟩
theorem IsL.reads {P:Program} {w:World} {H:Hp} {h:Heap} (ok:HOk P w H h):∀{ds:List Dt} {xs:List V} {us:List Value},IsL H xs ds->Vals xs us->∃ as,ReadsAll h us (toPs ds) as
 | [],[],_,_,.nil=>⟨_,ReadsAll.nil⟩
 | d::ds,x::xs,_,k,.cons r t=>by
  simp only[IsL] at k
  obtain⟨as,q⟩:=Is.reads ok k.1 r
  obtain⟨bs,q2⟩:=IsL.reads ok k.2 t
  exact⟨_,ReadsAll.cons q q2⟩
 | [],_::_,_,k,_=>by simp only[IsL] at k
 | _::_,[],_,k,_=>by simp only[IsL] at k
end
def okD (d:Dt):Prop:=SeqAt.shaped (toP d)=true
def eqD (d e:Dt):Bool:=PyData.eqv (toP d) (toP e)
end L2
namespace L2
open PySem PySem.Spec PyProof.Rows
section
variable {X:Cx}
theorem PE.imp {e:Expr} {t t':TE} (h:PE X e t) (hi:∀ σ H Q,t' σ H Q->t σ H Q):PE X e t':=fun pins s σ H Q I q=>h pins s σ H Q I (hi σ H Q q)
theorem OpR.imp {f:Value->Value->Sem Value} {r r':R2} (h:OpR X f r) (hi:∀ x y H Q,r' x y H Q->r x y H Q):OpR X f r':=fun pins s σ H x y v u Q I rx ry q=>h pins s σ H x y v u Q I rx ry (hi x y H Q q)
theorem CallR.imp {f:Value} {r r':List V->Hp->VK->Prop} (h:CallR X f r) (hi:∀ xs H Q,r' xs H Q->r xs H Q):CallR X f r':=fun pins s σ H xs us Q I rs q=>h pins s σ H xs us Q I rs (hi xs H Q q)
end
section
variable {X:Cx} {pins:List (Addr×Obj)} {σ:St} {H:Hp} {s:Shared} {Q:VK}
theorem endS {z:Str} {t:Tok} (I:Inv X pins σ H s) (q:Q (.str z) H):EP X pins σ Q (.str z t) s:=⟨.str z,H,I,⟨t,rfl⟩,q⟩
theorem endB {b:Bool} (I:Inv X pins σ H s) (q:Q (.bl b) H):EP X pins σ Q (.bool b) s:=⟨.bl b,H,I,rfl,q⟩
end
def lstR (H:Hp) (a:Addr):Option (List V):=match H a with
 | some (.lst xs)=>some xs
 | some (.frz _ (.lst xs))=>some xs
 | _=>none
def tupR (H:Hp) (a:Addr):Option (List V):=match H a with
 | some (.tup xs)=>some xs
 | _=>none
def seqR (H:Hp) (a:Addr):Option (List V):=match lstR H a with
 | some xs=>some xs
 | none=>tupR H a
theorem xu_ {H:Hp} {a:Addr} {xs:List V} (h:H a=some (.lst xs)):lstR H a=some xs:=by unfold lstR;rw[h]
theorem jkc_ {H:Hp} {a:Addr} {xs:List V} (h:H a=some (.tup xs)):tupR H a=some xs:=by unfold tupR;rw[h]
theorem jt_ {H:Hp} {a:Addr} {xs:List V} (h:H a=some (.lst xs)):seqR H a=some xs:=by unfold seqR;rw[xu_ h]
theorem yx_ {H:Hp} {a:Addr} {xs:List V} (h:H a=some (.tup xs)):seqR H a=some xs:=by
 have e:lstR H a=none:=by unfold lstR;rw[h]
 unfold seqR;rw[e];exact jkc_ h
theorem u1_ {K:pd_} {H:Hp} {a:Addr} {xs:List V} (h:lstR H a=some xs):SqL K H a xs:=by
 unfold lstR at h
 split at h
 ·rename_i e;cases h;exact .inl (.inl e)
 ·rename_i e;cases h;exact .inl (.inr ⟨_,e⟩)
 ·cases h
theorem uv_ {K:pd_} {H:Hp} {a:Addr} {xs:List V} (h:tupR H a=some xs):SqT K H a xs:=by
 unfold tupR at h
 split at h
 ·rename_i e;cases h;exact .inl (.inl e)
 ·cases h
theorem uu_ {K:pd_} {H:Hp} {a:Addr} {xs:List V} (h:seqR H a=some xs):SqL K H a xs∨SqT K H a xs:=by
 unfold seqR at h
 split at h
 ·rename_i e;cases h;exact .inl (u1_ e)
 ·exact .inr (uv_ h)
def GetT (H:Hp) (xs:List V) (Q:VK):Prop:=∀ p H',H' p=some (.tup xs)->(∀ b o,H b=some o->H' b=some o)->Q (.ref p) H'
theorem GetT.new {H:Hp} {xs:List V} {Q:VK} (h:GetT H xs Q) {p:Addr} (hp:H p=none):Q (.ref p) (upd H p (.tup xs)) :=
 h p _ jb_ fun b o e=>by rw[je_ (jf_ e hp)];exact e
theorem GetT.old {H:Hp} {xs:List V} {Q:VK} (h:GetT H xs Q) {p:Addr} (hp:H p=some (.tup xs)):Q (.ref p) H:=h p _ hp fun b o e=>e
def GetL (H:Hp) (xs:List V) (Q:VK):Prop:=∀ p,H p=none->Q (.ref p) (upd H p (.lst xs))
def fAdd:R2:=fun x y H Q=>match x,y with
 | .int i,.int j=>Q (.int (i+j)) H
 | .str i,.str j=>i.length+j.length<=sizeLine/\Q (.str (i++j)) H
 | .ref a,.ref b=>match H a,H b with
  | some (.lst xs),some (.lst ys)=>xs.length+ys.length<=sizeLine/\GetL H (xs++ys) Q
  | some (.tup xs),some (.tup ys)=>xs≠[]/\xs.length+ys.length<=sizeLine/\GetT H (xs++ys) Q
  | _,_=>False
 | _,_=>False
def fMul:R2:=fun x y H Q=>match x,y with
 | .int i,.int j=>CMul i j/\Q (.int (i * j)) H
 | .str z,.int n=>z.length * n.toNat<=1000000/\-(2 ^ 62) < n/\n < 2 ^ 62/\Q (.str (Txt.mul z n)) H
 | .ref a,.int k=>match H a with
  | some (.lst xs)=>-(2 ^ 63)<=k/\k < 2 ^ 63/\xs.length * k.toNat<=sizeLine/\GetL H (pv_ k.toNat xs).flatten Q
  | _=>False
 | _,_=>False
def fI (C:Int->Int->Prop) (g:Int->Int->V):R2:=fun x y H Q=>match x,y with
 | .int i,.int j=>C i j/\Q (g i j) H
 | _,_=>False
def fI0 (g:Int->Int->V):R2:=fun x y H Q=>match x,y with
 | .int i,.int j=>Q (g i j) H
 | _,_=>False
theorem jdv_ {g:Int->Int->V}:∀ x y H Q,fI0 g x y H Q->rI0 g x y H Q:=fun x y H Q h=>by
 unfold fI0 at h
 split at h
 ·exact⟨_,_,rfl,rfl,h⟩
 ·exact h.elim
theorem jna_ {C:Int->Int->Prop} {g:Int->Int->V}:∀ x y H Q,fI C g x y H Q->rI C g x y H Q:=fun x y H Q h=>by
 unfold fI at h
 split at h
 ·exact⟨_,_,rfl,rfl,h.1,h.2⟩
 ·exact h.elim
section
variable {X:Cx}
theorem j7_:OpR X (binaryOp .Add) fAdd:=by
 intro pins s σ H x y v u Q I rx ry h
 unfold fAdd at h
 split at h
 ·exact jvi_ pins s σ H _ _ v u Q I rx ry ⟨_,_,rfl,rfl,h⟩
 ·exact jic_ pins s σ H _ _ v u Q I rx ry ⟨_,_,rfl,rfl,h.1,h.2⟩
 ·split at h
  ·rename_i h1 h2
   exact jvj_ pins s σ H _ _ v u Q I rx ry ⟨_,_,_,_,rfl,rfl,h1,h2,h.1,h.2⟩
  ·rename_i xs ys h1 h2
   refine jqv_ pins s σ H _ _ v u Q I rx ry ⟨_,_,_,_,rfl,rfl,SqT.of h1,SqT.of h2,h.1,h.2.1,fun e=>?_,fun _ p hp=>h.2.2.new hp⟩
   subst e
   have:=h.2.2
   rw[qt_] at this
   exact this.old h1
  ·exact h.elim
 ·exact h.elim
theorem jsi_:OpR X (binaryOp .Sub) (fI0 fun i j=>.int (i - j)):=op_sub.imp jdv_
theorem jnj_:OpR X (binaryOp .FloorDiv) (fI CDiv fun i j=>.int (i / j)):=op_fdiv.imp jna_
theorem uo_:OpR X (binaryOp .Mod) (fI (fun _ j=>0 < j) fun i j=>.int (i % j)):=op_mod.imp jna_
theorem jvs_:OpR X (binaryOp .Pow) (fI CPow fun i j=>.int (i ^ j.toNat)):=op_pow.imp jna_
theorem jmx_ {z:Str} {n:Int} (h:z.length * n.toNat<=1000000) (h1:-(2 ^ 62) < n) (h2:n < 2 ^ 62):MulOk z n:=by
 have e1:((2:Int) ^ 62)=4611686018427387904:=by decide
 have e2:((2:Int) ^ 63)=9223372036854775808:=by decide
 rw[e1] at h1 h2
 refine⟨?_,fun hn _=>?_,fun hn _=>?_⟩
 ·rw[e2];simp only[t3_,decide_eq_false_iff_not];omega
 ·have hp:0 < n:=by omega
  have hz:(z.length:Int)<=1000000:=by
   have:z.length * 1<=z.length * n.toNat:=Nat.mul_le_mul_left _ (by omega)
   omega
  have e3:((2:Int) ^ 63 - 1)=9223372036854775807:=by decide
  rw[e3]
  intro hgt
  have h3:(9223372036854775807:Int) / n < z.length:=hgt
  have h4:(9223372036854775807:Int) < z.length * n:=by
   have:=Int.lt_mul_of_ediv_lt hp h3
   exact this
  have h5:(z.length:Int) * n<=1000000:=by
   have e:((z.length * n.toNat:Nat):Int)=(z.length:Int) * n:=by
    rw[Int.natCast_mul];congr 1;omega
   omega
  omega
 ·unfold Builtin.Str.tooLong sizeLine
  have e4:(2:Nat) ^ 24=16777216:=by decide
  exact decide_eq_false (by omega)
theorem jbg_:OpR X (binaryOp .Mult) fMul:=by
 intro pins s σ H x y v u Q I rx ry h
 unfold fMul at h
 split at h
 ·exact jvm_ pins s σ H _ _ v u Q I rx ry ⟨_,_,rfl,rfl,h.1,h.2⟩
 ·obtain⟨h1,h2,h3,q⟩:=h
  obtain⟨t,rfl⟩:=rx
  obtain⟨t',rfl⟩:=ry
  exact SB.mul (jmx_ h1 h2 h3) fun t' k=>endS (I.tok _) q
 ·split at h
  ·rename_i h1
   exact jvg_ pins s σ H _ _ v u Q I rx ry ⟨_,_,_,rfl,rfl,h1,h.1,h.2.1,h.2.2.1,h.2.2.2⟩
  ·exact h.elim
 ·exact h.elim
theorem o_lt:OpR X (compareOp .Lt) (fI0 fun i j=>.bl (decide (i < j))):=op_lt.imp jdv_
theorem o_gt:OpR X (compareOp .Gt) (fI0 fun i j=>.bl (decide (j < i))):=op_gt.imp jdv_
def fEq:R2:=fun x y H Q=>(scal x y=true/\Q (.bl (decide (x=y))) H)∨∃ d e,Is H x d/\Is H y e/\okD d/\okD e/\Q (.bl (eqD d e)) H
def fNe:R2:=fun x y H Q=>(scal x y=true/\Q (.bl (!decide (x=y))) H)∨∃ d e,Is H x d/\Is H y e/\okD d/\okD e/\Q (.bl (!eqD d e)) H
def fIs:R2:=fun x y H Q=>y=.non/\Q (.bl (decide (x=.non))) H
def joq_:R2:=fun x y H Q=>y=.non/\Q (.bl (!decide (x=.non))) H
theorem o_eq (hu:X.A.units+64 < cLine):OpR X (compareOp .Eq) fEq:=by
 intro pins s σ H x y v u Q I rx ry h
 rcases h with h | ⟨d,e,h1,h2,h3,h4,q⟩
 ·exact jwd_ pins s σ H x y v u Q I rx ry h
 ·obtain⟨as,r1⟩:=Is.reads I.hok h1 rx
  obtain⟨bs,r2⟩:=Is.reads I.hok h2 ry
  exact eq_dataH r1 r2 h3 h4 hu (endB I q)
theorem o_ne (hu:X.A.units+64 < cLine):OpR X (compareOp .NotEq) fNe:=by
 intro pins s σ H x y v u Q I rx ry h
 rcases h with h | ⟨d,e,h1,h2,h3,h4,q⟩
 ·exact jwe_ pins s σ H x y v u Q I rx ry h
 ·obtain⟨as,r1⟩:=Is.reads I.hok h1 rx
  obtain⟨bs,r2⟩:=Is.reads I.hok h2 ry
  exact ne_dataH r1 r2 h3 h4 hu (endB I q)
theorem o_is:OpR X (compareOp .Is) fIs:=juq_
theorem jjr_:OpR X (compareOp .IsNot) joq_:=jrp_
def fIn (neg:Bool):R2:=fun x y H Q=>match x,y with
 | .str i,.str j=>Q (.bl (xor neg (Txt.contains j i))) H
 | x,.ref p=>match seqR H p with
  | some xs=>jsz_ x=true/\xs.all jsz_=true/\Q (.bl (if neg then !inV x xs else inV x xs)) H
  | none=>False
 | _,_=>False
def fNeg:V->Hp->VK->Prop:=fun x H Q=>match x with
 | .int i=>Q (.int (-i)) H
 | _=>False
theorem jkv_:UnR X (unaryOp .USub) fNeg:=fun pins s σ H x v Q I rx h=>by
 unfold fNeg at h
 split at h
 ·exact jtk_ pins s σ H _ v Q I rx ⟨_,rfl,h⟩
 ·exact h.elim
def fIx (K:pd_):R2:=fun x y H Q=>match x,y with
 | .ref p,.int i=>∃ xs v,(SqL K H p xs∨SqT K H p xs)/\atI xs i=some v/\Q v H
 | .str z,.int i=>z.length<=sizeLine/\(match atI z.cps.toList i with | some c=>Q (.str ⟨#[c]⟩) H | none=>False)
 | _,_=>False
theorem jm_ {K:pd_} (hK:X.K=K:=by rfl):IxR X (fIx K):=by
 subst hK
 intro value slice pins s σ H x y v u Q I rx ry h hs
 unfold fIx at h
 split at h
 ·obtain⟨xs,w',e,e',h⟩:=h
  rcases e with q | q
  ·exact jqx_ value slice pins s σ H _ _ v u Q I rx ry ⟨_,_,_,_,rfl,rfl,q,e',h⟩ hs
  ·exact jvc_ value slice pins s σ H _ _ v u Q I rx ry ⟨_,_,_,_,rfl,rfl,q,e',h⟩ hs
 ·obtain⟨hz,h⟩:=h
  split at h
  ·rename_i c e
   exact jve_ value slice pins s σ H _ _ v u Q I rx ry ⟨_,_,_,rfl,rfl,hz,e,h⟩ hs
  ·exact h.elim
 ·exact h.elim
def fSl (K:pd_):V->Option Int->Option Int->Hp->VK->Prop:=fun x lo hi H Q=>match x with
 | .str z=>z.length<=sizeLine/\Q (.str (k5_ z lo hi)) H
 | .ref a=>(∃ xs,SqL K H a xs/\GetL H (cutV xs lo hi) Q) ∨
  (∃ xs,SqT K H a xs/\¬ (HT.sIx xs.length 0 lo=0/\HT.sIx xs.length xs.length hi=xs.length)/\GetT H (cutV xs lo hi) Q)
 | _=>False
theorem jvo_:SlR X (fun x lo hi H Q=>∃ z,x=.str z/\z.length<=sizeLine/\Q (.str (k5_ z lo hi)) H):=by
 intro pins s σ H x v vl vu lo hi sl Q I rx hs pl pu h
 obtain⟨z,rfl,hz,q⟩:=h
 obtain⟨t,rfl⟩:=rx
 refine⟨"str",_,PySem.F.slot_str_getitem.lookup,typeIs_str _ _ _,?_⟩
 have fin:∀(l u:Option (Int×Tok)),l.map (·.1)=lo->u.map (·.1)=hi->s.heap.IsSlice sl l u none->wpAny (model X.prog X.w) X.A (getItem (.str z t) (.ref sl)) (EP X pins σ Q) X.xe s:=fun l u el eu hs'=>by
  subst el eu
  refine wpAny_getItem_str_slice hs' rfl ?_
  have q':∀ t' k,EP X pins σ Q (.str (k5_ z (l.map (·.1)) (u.map (·.1))) t') { s with toks:=k }:=fun t' k=>endS (I.tok _) q
  exact post_val_or_str ⟨qq_ (Txt.slice_le z _ _) hz,fun t' k=>q' t' k⟩
 cases pl with
 | none =>
  cases pu with
  | none=>exact fin none none rfl rfl hs
  | int j u=>exact fin none (some (j,u)) rfl rfl hs
 | int i t' =>
  cases pu with
  | none=>exact fin (some (i,t')) none rfl rfl hs
  | int j u=>exact fin (some (i,t')) (some (j,u)) rfl rfl hs
theorem yb_ {K:pd_} (hK:X.K=K:=by rfl):SlR X (fSl K):=by
 subst hK
 intro pins s σ H x v vl vu lo hi sl Q I rx hs pl pu h
 unfold fSl at h
 split at h
 ·exact jvo_ pins s σ H _ v vl vu lo hi sl Q I rx hs pl pu ⟨_,rfl,h.1,h.2⟩
 ·rcases h with ⟨xs,e,h⟩ | ⟨xs,e,h⟩
  ·exact jqr_ pins s σ H _ v vl vu lo hi sl Q I rx hs pl pu ⟨_,_,rfl,e,h⟩
  ·exact jux_ pins s σ H _ v vl vu lo hi sl Q I rx hs pl pu ⟨_,_,rfl,e,h.1,fun p hp=>h.2.new hp⟩
 ·exact h.elim
def fLen (K:pd_):List V->Hp->VK->Prop:=fun xs H Q=>match xs with
 | [.str z]=>z.length<=sizeLine/\Q (.int z.length) H
 | [.ref p]=>∃ ys,(SqL K H p ys∨SqT K H p ys)/\Q (.int ys.length) H
 | _=>False
theorem zr_ {K:pd_} (hK:X.K=K:=by rfl):CallR X (.builtin "len") (fLen K):=by
 subst hK
 intro pins s σ H xs us Q I r h
 unfold fLen at h
 split at h
 ·exact jdz_ pins s σ H _ us Q I r ⟨_,rfl,h.1,h.2⟩
 ·obtain⟨ys,e,h⟩:=h
  exact jeq_ pins s σ H _ us Q I r ⟨_,_,rfl,e,h⟩
 ·exact h.elim
def f1I (g:Int->V):List V->Hp->VK->Prop:=fun xs H Q=>match xs with
 | [.int i]=>Q (g i) H
 | _=>False
def f2I (g:Int->Int->V):List V->Hp->VK->Prop:=fun xs H Q=>match xs with
 | [.int i,.int j]=>Q (g i j) H
 | _=>False
theorem jwo_:CallR X (.builtin "abs") (f1I fun i=>.int (if i < 0 then -i else i)):=call_abs.imp fun xs H Q h=>by
 unfold f1I at h
 split at h
 ·exact⟨_,rfl,h⟩
 ·exact h.elim
theorem jss_ (hc:X.calm=true):CallR X (.builtin "max") (f2I fun i j=>.int (if j > i then j else i)):=(jlt_ hc).imp fun xs H Q h=>by
 unfold f2I at h
 split at h
 ·exact⟨_,_,rfl,h⟩
 ·exact h.elim
theorem jsd_ (hc:X.calm=true):CallR X (.builtin "min") (f2I fun i j=>.int (if j < i then j else i)):=(jmc_ hc).imp fun xs H Q h=>by
 unfold f2I at h
 split at h
 ·exact⟨_,_,rfl,h⟩
 ·exact h.elim
def jnc_:List V->Hp->VK->Prop:=fun xs H Q=>match xs with
 | [.ref p]=>(match seqR H p with | some ys=>GetL H ys Q | none=>False)
 | _=>False
theorem jhh_:CallR X (.type "list") jnc_:=call_list_of.imp fun xs H Q h=>by
 unfold jnc_ at h
 split at h
 ·split at h
  ·rename_i e;exact⟨_,_,rfl,uu_ e,h⟩
  ·exact h.elim
 ·exact h.elim
def jiv_:List V->Hp->VK->Prop:=fun xs H Q=>match xs with
 | [.ref p]=>(match seqR H p with | some ys=>GetT H ys Q | none=>False)
 | _=>False
theorem joe_ {H:Hp} {p:Addr} {ys:List V} (h:tupR H p=some ys):H p=some (.tup ys):=by
 unfold tupR at h
 split at h
 ·rename_i e;cases h;exact e
 ·cases h
theorem vk_:CallR X (.type "tuple") jiv_:=call_tuple_of.imp fun xs H Q h=>by
 unfold jiv_ at h
 split at h
 ·split at h
  ·rename_i ys e
   refine⟨_,ys,rfl,?_⟩
   unfold seqR at e
   split at e
   ·rename_i e';cases e
    exact .inl ⟨u1_ e',fun l hl=>h.new hl⟩
   ·exact .inr ⟨uv_ e,h.old (joe_ e)⟩
  ·exact h.elim
 ·exact h.elim
def fTru (x:V) (H:Hp) (Q:Bool->Hp->Prop):Prop:=match x with
 | .non=>Q false H
 | .bl b=>Q b H
 | .int i=>Q (i != 0) H
 | .str z=>z.length<=sizeLine/\Q ((z.length:Int) != 0) H
 | .ref p=>(match seqR H p with | some xs=>Q (!xs.isEmpty) H | none=>False)
 | _=>False
theorem xb_ {a:Expr} {ta:TE} (ha:PE X a ta) (he:∀ whole,isTrue a X.env whole=(do let v <- whole;standAt a.pos;holding [v] (truthy v))) :
  PT X a (fun σ H Q=>ta σ H fun x H'=>fTru x H' Q):=by
 intro pins s σ H Q I h
 show wpAny _ _ (isTrue a X.env (eval a X.env)) _ _ _
 rw[he]
 refine wpAny_bind (thn (ha pins s σ H _ I h) fun v s1 ⟨x,H1,I1,r1,q1⟩=>wpAny_bind (wpAny_standAt (wpAny_holding ?_)))
 refine juv_ pins s1 σ H1 x v Q I1 r1 ?_
 have q1:fTru x H1 Q:=q1
 unfold fTru at q1
 split at q1
 ·exact⟨_,rfl,q1⟩
 ·exact⟨_,rfl,q1⟩
 ·exact⟨_,rfl,q1⟩
 ·exact⟨_,⟨q1.1,rfl⟩,q1.2⟩
 ·split at q1
  ·rename_i xs e
   refine⟨_,?_,q1⟩
   rcases uu_ (K:=X.K) e with z | z
   ·exact .inl ⟨_,z,rfl⟩
   ·exact .inr (.inl ⟨_,z,rfl⟩)
  ·exact q1.elim
 ·exact q1.elim
def jeh_:V->List V->Hp->VK->Prop:=fun x vs H Q=>match x,vs with
 | .ref l,[y]=>(match H l with | some (.lst xs)=>xs.length < sizeLine/\Q .non (upd H l (.lst (xs++[y]))) | _=>False)
 | _,_=>False
theorem zz_:MtR X "list.append" jeh_:=fun pins s σ H x xs v us Q I rx rs h=>by
 unfold jeh_ at h
 split at h
 ·split at h
  ·rename_i e
   exact jcf_ pins s σ H _ _ v us Q I rx rs ⟨_,_,_,rfl,rfl,e,h.1,h.2⟩
  ·exact h.elim
 ·exact h.elim
theorem jab_:∀{ys:List Str} {us:List Value},Vals (ys.map V.str) us->StrsAre us ys
 | [],_,.nil=>.nil
 | y::ys,_,.cons r t=>by
  obtain⟨k,rfl⟩:=r
  exact .cons y k (jab_ t)
def strs?:List V->Option (List Str)
 | []=>some []
 | .str z::r=>(strs? r).map (z::·)
 | _=>none
theorem strs?_map:∀ ys:List Str,strs? (ys.map V.str)=some ys
 | []=>rfl
 | y::ys=>by simp only[pf_,strs?,strs?_map ys,rr_]
theorem strs?_of:∀{xs:List V} {ys:List Str},strs? xs=some ys->xs=ys.map V.str
 | [],_,h=>by cases h;rfl
 | .str z::r,ys,h=>by
  simp only[strs?] at h
  cases e:strs? r with
  | none=>rw[e] at h;cases h
  | some q=>rw[e] at h;cases h;rw[strs?_of e];rfl
 | .non::_,_,h=>by cases h
 | .bl _::_,_,h=>by cases h
 | .int _::_,_,h=>by cases h
 | .byt _::_,_,h=>by cases h
 | .flt _::_,_,h=>by cases h
 | .ref _::_,_,h=>by cases h
 | .ty _::_,_,h=>by cases h
def jpf_:V->List V->Hp->VK->Prop:=fun x vs H Q=>match x,vs with
 | .str z,[.ref p]=>(match lstR H p with
  | some xs=>(match strs? xs with
   | some ys=>(ys.map (·.length)).sum+ys.length * z.length<=16777216/\Q (.str (lj_ z ys)) H
   | none=>False)
  | none=>False)
 | _,_=>False
theorem jrr_:MtR X "str.join" jpf_:=fun pins s σ H x xs v us Q I rx rs h=>by
 unfold jpf_ at h
 split at h
 ·rename_i z p
  split at h
  ·rename_i ws e
   split at h
   ·rename_i ys e2
    obtain⟨t,rfl⟩:=rx
    obtain⟨u,rfl,ru⟩:=xc_ rs
    cases ru
    obtain⟨its,r',pl,hz⟩:=I.list (u1_ e)
    rw[strs?_of e2] at r'
    exact join_list pl.isList (jab_ (by simpa using r')) h.1 fun t' k=>endS (I.tok _) h.2
   ·exact h.elim
  ·exact h.elim
 ·exact h.elim
def fSSI (g:Str->Str->Int->V):V->List V->Hp->VK->Prop:=fun x vs H Q=>match x,vs with
 | .str z,[.str y,.int i]=>Q (g z y i) H
 | _,_=>False
theorem jbw_:MtR X "str.startswith" (fSSI fun z y i=>.bl (kj_ z y i)):=fun pins s σ H x xs v us Q I rx rs h=>by
 unfold fSSI at h
 split at h
 ·obtain⟨t,rfl⟩:=rx
  obtain⟨u,w',rfl,⟨t',rfl⟩,⟨t'',rfl⟩⟩:=jgz_ rs
  exact SC.startswith3 (endB I h)
 ·exact h.elim
end
end L2
namespace L2
open PySem PySem.Spec PyProof.Rows
def tyN (H:Hp):V->Option String
 | .non=>some "NoneType"
 | .bl _=>some "bool"
 | .int _=>some "int"
 | .str _=>some "str"
 | .ref a=>match H a with
  | some (.lst _)=>some "list"
  | some (.frz _ (.lst _))=>some "list"
  | some (.tup _)=>some "tuple"
  | _=>none
 | _=>none
def subB (t T:String):Bool:=t == T || (t == "bool"&&T == "int")
def tys?:List V->Option (List String)
 | []=>some []
 | .ty T::r=>(tys? r).map (T::·)
 | _=>none
def ym_ (T:String):Bool:=["bool","int","str","list","tuple"].contains T
theorem jcc_ {K:pd_} {t T:String} (ht:t="NoneType"∨t="bool"∨t="int"∨t="str"∨t="list"∨t="tuple") (hT:T="bool"∨T="int"∨T="str"∨T="list"∨T="tuple") :
  PySem.W.kitOne K (.type t) (.type T)=some (subB t T):=by
 rcases ht with rfl | rfl | rfl | rfl | rfl | rfl <;> rcases hT with rfl | rfl | rfl | rfl | rfl <;> kernel_rfl
def fIsi:List V->Hp->VK->Prop:=fun xs H Q=>match xs with
 | [x,.ty T]=>(match tyN H x with
  | some t=>ym_ T=true/\Q (.bl (subB t T)) H
  | none=>False)
 | [x,.ref p]=>(match tyN H x,tupR H p with
  | some t,some ts=>(match tys? ts with
   | some Ts=>Ts.all ym_=true/\Q (.bl (Ts.any (subB t))) H
   | none=>False)
  | _,_=>False)
 | _=>False
section
variable {X:Cx}
theorem jkk_ {K:pd_} {pins:List (Addr×Obj)} {σ:St} {H:Hp} {s:Shared} {x:V} {u:Value} {t:String} (I:Inv X pins σ H s) (rx:RelV x u) (e:tyN H x=some t) :
  (t="NoneType"∨t="bool"∨t="int"∨t="str"∨t="list"∨t="tuple")/\u≠.builtin "__main__.__loader__#opaque"/\∃ Hp',PySem.W.KitX K u (.type t) Hp'/\Hp' s.heap:=by
 cases x with
 | non=>cases (show u=Value.none from rx);cases e;exact⟨by simp,(fun z=>nomatch z),_,PySem.W.kitx_none,True.intro⟩
 | bl b=>cases (show u=Value.bool b from rx);cases e;exact⟨by simp,(fun z=>nomatch z),_,PySem.W.kitx_bool,True.intro⟩
 | int i=>obtain⟨k,q⟩:=(show ∃ t,u=Value.int i t from rx);cases q;cases e;exact⟨by simp,(fun z=>nomatch z),_,PySem.W.kitx_int,True.intro⟩
 | str z=>obtain⟨k,q⟩:=(show ∃ t,u=Value.str z t from rx);cases q;cases e;exact⟨by simp,(fun z=>nomatch z),_,PySem.W.kitx_str,True.intro⟩
 | ref a =>
  cases (show u=Value.ref a from rx)
  unfold tyN at e
  dsimp only at e
  split at e
  ·rename_i xs ea
   cases e
   obtain⟨_,_,n,_,h1⟩:=(show ObjOk X.prog X.w H s.heap a (.lst xs) from I.hok a _ ea)
   exact⟨by simp,(fun z=>nomatch z),_,la_,⟨_,h1,rfl⟩⟩
  ·rename_i ob xs ea
   cases e
   obtain⟨_,_,_,n,_,h1⟩:=(show ObjOk X.prog X.w H s.heap a (.frz ob (.lst xs)) from I.hok a _ ea)
   exact⟨by simp,(fun z=>nomatch z),_,la_,⟨_,h1,rfl⟩⟩
  ·rename_i xs ea
   cases e
   obtain⟨_,_,_,p⟩:=(show ObjOk X.prog X.w H s.heap a (.tup xs) from I.hok a _ ea)
   obtain⟨o,h1,h2,_⟩:=p
   exact⟨by simp,(fun z=>nomatch z),_,PySem.W.kitx_tuple,⟨o,h1,h2⟩⟩
  ·cases e
 | byt _=>cases e
 | flt _=>cases e
 | ty _=>cases e
theorem jcj_ {T:String} (h:ym_ T=true):T="bool"∨T="int"∨T="str"∨T="list"∨T="tuple":=by
 simpa [ym_] using h
theorem jjj_ {K:pd_} {t:String} (ht:t="NoneType"∨t="bool"∨t="int"∨t="str"∨t="list"∨t="tuple"):∀{ts:List V} {Ts:List String} {its:List Value},tys? ts=some Ts->Vals ts its->Ts.all ym_=true ->
  PySem.W.kitAny K (.type t) its=some (Ts.any (subB t))
 | [],_,_,e,.nil,_=>by cases e;rfl
 | .ty T::r,Ts,_,e,.cons rv rt,hk=>by
  simp only[tys?] at e
  cases er:tys? r with
  | none=>rw[er] at e;cases e
  | some q =>
   rw[er] at e
   cases e
   simp only[List.all_cons,qr_] at hk
   cases rv
   have h1:=jcc_ (K:=K) ht (jcj_ hk.1)
   have h2:=jjj_ (K:=K) ht er rt hk.2
   unfold PySem.W.kitAny
   rw[h1]
   cases hb:subB t T with
   | true=>simp[hb]
   | false=>simp only[s3_,hb,k6_];exact h2
 | .non::_,_,_,e,_,_=>by cases e
 | .bl _::_,_,_,e,_,_=>by cases e
 | .int _::_,_,_,e,_,_=>by cases e
 | .str _::_,_,_,e,_,_=>by cases e
 | .byt _::_,_,_,e,_,_=>by cases e
 | .flt _::_,_,_,e,_,_=>by cases e
 | .ref _::_,_,_,e,_,_=>by cases e
theorem ju_:CallR X (.builtin "isinstance") fIsi:=by
 intro pins s σ H xs us Q I r h
 unfold fIsi at h
 split at h
 ·rename_i x T
  split at h
  ·rename_i t et
   obtain⟨u,c,rfl,rx,rc⟩:=jgz_ r
   cases rc
   obtain⟨ht,hu,H',hk,hH⟩:=jkk_ (K:=X.K) I rx et
   exact PySem.W.kia_one hk I.kIn hH (jcc_ ht (jcj_ h.1)) hu fun tk=>endB (I.tok _) h.2
  ·exact h.elim
 ·rename_i x p
  split at h
  ·rename_i t ts et ep
   split at h
   ·rename_i Ts eT
    obtain⟨u,c,rfl,rx,rc⟩:=jgz_ r
    cases rc
    obtain⟨ht,hu,H',hk,hH⟩:=jkk_ (K:=X.K) I rx et
    obtain⟨its,rv,pl,hz⟩:=I.tuple (uv_ ep)
    obtain⟨⟨cls,dd,data,sl⟩,ho,hc,n,hd⟩:=id pl
    simp only at hc hd
    subst hc hd
    exact PySem.W.kia_tup hk I.kIn hH ho (jjj_ ht eT rv h.1) hu fun tk=>endB (I.tok _) h.2
   ·exact h.elim
  ·exact h.elim
 ·exact h.elim
def bls?:List V->Option (List Bool)
 | []=>some []
 | .bl b::r=>(bls? r).map (b::·)
 | _=>none
theorem bls?_map:∀ bs:List Bool,bls? (bs.map V.bl)=some bs
 | []=>rfl
 | b::bs=>by simp only[pf_,bls?,bls?_map bs,rr_]
theorem bls?_of:∀{xs:List V} {bs:List Bool},bls? xs=some bs->xs=bs.map V.bl
 | [],_,h=>by cases h;rfl
 | .bl z::r,ys,h=>by
  simp only[bls?] at h
  cases e:bls? r with
  | none=>rw[e] at h;cases h
  | some q=>rw[e] at h;cases h;rw[bls?_of e];rfl
 | .non::_,_,h=>by cases h
 | .str _::_,_,h=>by cases h
 | .int _::_,_,h=>by cases h
 | .byt _::_,_,h=>by cases h
 | .flt _::_,_,h=>by cases h
 | .ref _::_,_,h=>by cases h
 | .ty _::_,_,h=>by cases h
def fAll (f:List Bool->Bool):List V->Hp->VK->Prop:=fun xs H Q=>match xs with
 | [.ref p]=>(match lstR H p with
  | some ys=>(match bls? ys with | some bs=>Q (.bl (f bs)) H | none=>False)
  | none=>False)
 | _=>False
theorem jle_ (bs:List Bool):(p3_ bs.length).all (fun i=>bs.getD i true)=bs.all id:=by
 rw[sw_,tx_,tx_]
 constructor
 ·intro h b hb
  obtain⟨i,hi,rfl⟩:=kt_.mp hb
  have:=h i (p4_.mpr hi)
  simpa [pe_,hi] using this
 ·intro h i hi
  have hi':=p4_.mp hi
  have:=h bs[i] (py_ hi')
  simpa [pe_,hi'] using this
theorem jvx_ (hc:X.calm=true):CallR X (.builtin "all") (fAll fun bs=>bs.all id):=by
 intro pins s σ H xs us Q I r h
 unfold fAll at h
 split at h
 ·rename_i p
  split at h
  ·rename_i ys e
   split at h
   ·rename_i bs eb
    obtain⟨u,rfl,ru⟩:=xc_ r
    cases ru
    obtain⟨its,rv,pl,hz⟩:=I.list (u1_ e)
    rw[bls?_of eb] at rv
    have hlen:=rv.length
    rw[pb_] at hlen
    have hlt:p < s.heap.objs.size:=by obtain⟨o,ho,_⟩:=pl.isList;exact pm_ ho
    refine call_all_walk (wpAny_pyIter_list pl.isList ?_)
    refine⟨s.heap.objs.size,_,_,_,_,_,(fun i=>bs.getD i true),rfl,Walks.list (A:=X.A.in1) (show X.A.in1.handled=none from I.ok.hd hc) s.heap.objs.size p (p7_ hlt) its.toArray,⟨⟨_,pk_ _ rfl,rfl,rfl⟩,?_⟩,fun i v s' Q' E' hv hq=>?_,fun h' tk k=>?_⟩
    ·obtain⟨o,ho,q⟩:=pl.isList
     exact⟨o,pa_ _ ho,q⟩
    ·have hv':its[i]?=some v:=by simpa using hv
     have hil:i < its.length:=(pl_.mp hv').1
     obtain⟨w',hw,rw'⟩:=rv.get (i:=i) (x:=V.bl (bs.getD i true)) (by rw[ph_];simp[pe_,show i < bs.length by omega])
     rw[hv'] at hw
     cases hw
     cases rw'
     exact wpAny_truthy_bool hq
    ·have e2:(p3_ its.toArray.size).all (fun i=>bs.getD i true)=bs.all id:=by rw[pi_,<- hlen];exact jle_ bs
     rw[e2]
     have I1:Inv X pins σ H { s with heap:=s.heap.push { cls:=.type "list_iterator",data:=.fields #[.ref p,.int 0 0] },toks:=s.toks }:=I.kept fun b u q=>pa_ _ q
     have f1:=I.fpOk (H':=H) (b:=s.heap.objs.size) (pg_ _) (I.hok.fresh (pg_ _))
     exact endB (I1.turned (t':=tk) (it:=s.heap.objs.size) (fun b o hb q=>k b o (by simpa using hb) q) f1.1 f1.2.1 f1.2.2.2.1 f1.2.2.2.2.1 f1.2.2.2.2.2) h
   ·exact h.elim
  ·exact h.elim
 ·exact h.elim
end
def Its (xs:List V):It:=⟨fun i _=>i < xs.length,fun i H x H'=>H'=H/\xs[i]?=some x,fun i _=>i=xs.length⟩
def chs (z:Str):List V:=z.cps.toList.map fun c=>V.str ⟨#[c]⟩
theorem jbf_ (z:Str):(chs z).length=z.length:=by unfold chs;rw[pb_];rfl
theorem jah_ {P:Program} {w:World} {K:pd_} {tg:Expr} {it:Addr} {n:Nat} {Pv:Nat->Value->Prop} {St:Nat->Heap->Prop} {xs:List V}
  (hW:∀ A:Around,A.handled=none->Walks P w A it [it] [it] n Pv St) (hn:xs.length=n) (hx:∀ i u,Pv i u->∃ x,xs[i]?=some x/\RelV x u)
  (hobj:∀ i h,St i h->∃ o ty vs,h.get? it=some o/\o.cls=.type ty/\o.data=.fields vs/\["enumerate","zip","dict_itemiterator","dict_reverseitemiterator","odict_iterator","itertools.zip_longest","itertools.pairwise"].contains ty=false)
  (hself:∀(A:Around) (i:Nat) (s:Shared) (Q:Value->Shared->Prop) (E:Value->Shared->Prop),St i s.heap->Q (.ref it) s->wpAny (model P w) A (pyIter (.ref it)) Q E s) :
  Turn P w K tg (Its xs) [it] it St where
 mem:=by simp
 obj:=fun i h st b hb=>by
  have e:b=it:=by simpa using hb
  subst e
  obtain⟨o,ty,vs,ho,_,hd,_⟩:=hobj i h st
  exact⟨o,ho,fun v z=>by rw[hd] at z;cases z⟩
 keep:=fun i h h' st k=>(hW {} rfl).frame i h h' st k
 item:=by
  intro X hP hw hK hc i pins s σ H E I hf st hg
  subst hP hw hK
  obtain⟨f0,f1,f2,f3,f4,f5⟩:=hf it (by simp)
  have hlt:i < n:=by rw[<- hn];exact hg
  refine(hW X.A (I.ok.hd hc)).item i s _ E hlt st fun v h' tk pv st' k=>?_
  obtain⟨x,ex,rx⟩:=hx i v pv
  have I1:Inv X pins σ H { s with heap:=h',toks:=tk }:=I.turned (fun b o hb e=>k b o (by simpa using hb) e) f0 f1 f3 f4 f5
  obtain⟨o,ty,vs,ho,hcl,hd,hnn⟩:=hobj _ _ st'
  exact⟨v,rfl,jkd_ (s:={ s with heap:=h',toks:=tk }) ho hcl hd hnn ⟨x,H,I1,rx,⟨rfl,ex⟩,st',fun b hb=>(hf b hb).1⟩⟩
 done:=by
  intro X hP hw hK hc i pins s σ H E I hf st hg
  subst hP hw hK
  obtain⟨f0,f1,f2,f3,f4,f5⟩:=hf it (by simp)
  have e:i=n:=by rw[<- hn];exact hg
  subst e
  exact(hW X.A (I.ok.hd hc)).done s _ E st fun h' tk k=>⟨rfl,I.turned (fun b o hb e=>k b o (by simpa using hb) e) f0 f1 f3 f4 f5⟩
 self:=hself
section
variable {X:Cx} {tg:Expr}
def jcr_ (K:pd_) (R:It->Hp->Prop):V->Hp->Prop:=fun x H1=>match x with
 | .str z=>R (Its (chs z)) H1
 | .ref a=>(∃ xs,SqL K H1 a xs/\R (Itl K a) H1)∨(∃ xs,SqT K H1 a xs/\R (Itt K a) H1)
 | _=>False
def iAny (K:pd_) (te:TE):TI:=fun σ H R=>te σ H (jcr_ K R)
theorem jfo_ {z:Str} {i:Nat} {u:Value} (h:SignAt z i u):∃ x,(chs z)[i]?=some x/\RelV x u:=by
 obtain⟨c,k,hc,rfl⟩:=h
 refine⟨.str ⟨#[c]⟩,?_,⟨k,rfl⟩⟩
 unfold chs
 rw[ph_,p9_,hc]
 rfl
theorem zt_ {K:pd_} {l:Expr} {tl:TE} (hl:PE X l tl) (hK:X.K=K:=by rfl):PI X tg l (iAny K tl):=by
 subst hK
 intro pins s σ H R I h
 refine thn (hl pins s σ H _ I h) fun v s1 ⟨x,H1,I1,r1,q1⟩=>?_
 have fresh1:∀ b∈[s1.heap.objs.size],FpOk X pins H1 b:=fun b hb=>by
  have e:b=s1.heap.objs.size:=by simpa using hb
  subst e
  exact I1.fpOk (pg_ _) (I1.hok.fresh (pg_ _))
 have kept1:∀ ob:Obj,Inv X pins σ H1 { s1 with heap:=s1.heap.push ob }:=fun ob=>I1.kept (t':=s1.toks) fun b o e=>pa_ _ e
 unfold jcr_ at q1
 split at q1
 ·rename_i z
  obtain⟨t,rfl⟩:=r1
  have hlen:(chs z).length=z.cps.size:=by unfold chs;simp
  cases ha:z.cps.all (· < 128)
  ·refine wpAny_pyIter_wide ha ⟨s1.heap.objs.size,[s1.heap.objs.size],_,_,H1,rfl,kept1 _,jah_ (fun A hA=>Walks.strWide hA s1.heap.objs.size z t) hlen (fun i u hu=>jfo_ hu) ?_ (fun A i s Q E st q=>wpAny_pyIter_striter_wide st q),⟨_,pk_ _ rfl,rfl,rfl⟩,fresh1,q1⟩
   intro i h st
   obtain⟨o,ho,hc,hd⟩:=st
   exact⟨o,_,_,ho,hc,hd,by decide⟩
  ·refine wpAny_pyIter_ascii ha ⟨s1.heap.objs.size,[s1.heap.objs.size],_,_,H1,rfl,kept1 _,jah_ (fun A hA=>Walks.strAscii hA s1.heap.objs.size z t) hlen (fun i u hu=>jfo_ hu) ?_ (fun A i s Q E st q=>wpAny_pyIter_striter_ascii st q),⟨_,pk_ _ rfl,rfl,rfl⟩,fresh1,q1⟩
   intro i h st
   obtain⟨o,ho,hc,hd⟩:=st
   exact⟨o,_,_,ho,hc,hd,by decide⟩
 ·rename_i a
  cases r1
  rcases q1 with ⟨xs,e,q1⟩ | ⟨xs,e,q1⟩
  ·obtain⟨its,rv,p,hz⟩:=I1.list e
   exact wpAny_pyIter_list p.isList ⟨s1.heap.objs.size,[s1.heap.objs.size],_,_,H1,rfl,kept1 _,jln_ a _,⟨_,pk_ _ rfl,rfl,rfl⟩,fresh1,q1⟩
  ·obtain⟨its,rv,p,hz⟩:=I1.tuple e
   exact wpAny_pyIter_tuple (show s1.heap.IsTuple a its.toArray from p) ⟨s1.heap.objs.size,[s1.heap.objs.size],_,_,H1,rfl,kept1 _,jio_ a _,⟨_,pk_ _ rfl,rfl,rfl⟩,fresh1,q1⟩
 ·exact q1.elim
end
theorem jqi_ {xs:List V} {g:TG} {tb:TS} {D:Ends} {σ:St} {H:Hp} (Pv:Nat->St->Hp->Prop) (h0:Pv 0 σ H)
  (hs:∀ i x σ H,xs[i]?=some x->Pv i σ H->g x σ H fun σ2 H2=>tb { D with nx:=Pv (i+1),ct:=Pv (i+1),bk:=D.nx } σ2 H2) (hd:∀ σ H,Pv xs.length σ H->D.nx σ H) :
  ∃ W:Nat->Nat->St->Hp->Prop,(∃ m,W 0 m σ H)/\∀ i m σ H,W i m σ H ->
   ((Its xs).stop i H/\D.nx σ H)∨((Its xs).go i H/\∃ N:St->Hp->Prop,(∀ σ' H',N σ' H'->∃ m',m' < m/\W (i+1) m' σ' H')/\∀ x H',(Its xs).yld i H x H'->g x σ H' fun σ2 H2=>tb { D with nx:=N,ct:=N,bk:=D.nx } σ2 H2):=by
 refine⟨fun i m σ H=>m=xs.length - i/\i<=xs.length/\Pv i σ H,⟨xs.length,by simp,ri_ _,h0⟩,fun i m σ' H' w=>?_⟩
 obtain⟨rfl,hi,p⟩:=w
 by_cases hlt:i < xs.length
 ·refine .inr ⟨hlt,Pv (i+1),fun σ2 H2 p'=>⟨xs.length - (i+1),by omega,rfl,hlt,p'⟩,fun x H2 y=>?_⟩
  obtain⟨rfl,y⟩:=y
  exact hs i x σ' _ y p
 ·have e:i=xs.length:=by omega
  exact .inl ⟨e,hd σ' H' (e▸p)⟩
theorem jdy_ {J:It} {n:Nat} {val:Nat->V} {p:Addr} {g:TG} {tc:TT} {te:TE} {Q:VK} {σ0:St} {H0:Hp} (Pv:Nat->List V->St->Hp->Prop)
  (hgo:∀ i acc σ H,i < n->Pv i acc σ H->J.go i H) (hst:∀ acc σ H,Pv n acc σ H->J.stop n H) (hy:∀ i acc σ H x H',i < n->Pv i acc σ H->J.yld i H x H'->H'=H/\x=val i)
  (h0:Pv 0 [] σ0 H0) (hp:∀ i acc σ H,Pv i acc σ H->H p=some (.lst acc)/\acc.length<=i) (hz:n<=sizeLine)
  (hs:∀ i acc σ H,i < n->Pv i acc σ H->g (val i) σ H fun σ3 H3=>tc σ3 H3 fun b H4 =>
   if b=true then te σ3 H4 fun v H5=>H5 p=some (.lst acc)/\Pv (i+1) (acc++[v]) σ3 (upd H5 p (.lst (acc++[v]))) else Pv (i+1) acc σ3 H4)
  (hd:∀ acc σ H,Pv n acc σ H->Q (.ref p) H) :
  yo_ J p g tc te Q σ0 H0:=by
 refine⟨fun i m acc σ H=>m=n - i/\i<=n/\Pv i acc σ H,⟨n,by simp,ri_ _,h0⟩,fun i m acc σ' H' w=>?_⟩
 obtain⟨rfl,hi,q⟩:=w
 obtain⟨q1,q2⟩:=hp i acc σ' H' q
 refine⟨q1,?_⟩
 by_cases hlt:i < n
 ·refine .inr ⟨hgo i acc σ' H' hlt q,by omega,Pv (i+1),fun a' σ3 H3 k=>⟨n - (i+1),by omega,rfl,hlt,k⟩,fun x H2 y=>?_⟩
  obtain⟨rfl,rfl⟩:=hy i acc σ' H' x H2 hlt q y
  exact hs i acc σ' _ hlt q
 ·have e:i=n:=by omega
  subst e
  exact .inl ⟨hst acc σ' H' q,hd acc σ' H' q⟩
theorem z0_ {lo:Int} {n:Nat} {p:Addr} {g:TG} {tc:TT} {te:TE} {Q:VK} {σ0:St} {H0:Hp} (Pv:Nat->List V->St->Hp->Prop)
  (h0:Pv 0 [] σ0 H0) (hp:∀ i acc σ H,Pv i acc σ H->H p=some (.lst acc)/\acc.length<=i) (hz:n<=sizeLine)
  (hs:∀ i acc σ H,i < n->Pv i acc σ H->g (.int (lo+i)) σ H fun σ3 H3=>tc σ3 H3 fun b H4 =>
   if b=true then te σ3 H4 fun v H5=>H5 p=some (.lst acc)/\Pv (i+1) (acc++[v]) σ3 (upd H5 p (.lst (acc++[v]))) else Pv (i+1) acc σ3 H4)
  (hd:∀ acc σ H,Pv n acc σ H->Q (.ref p) H):yo_ (Itr lo n) p g tc te Q σ0 H0 :=
 jdy_ (J:=Itr lo n) (val:=fun i=>.int (lo+i)) Pv (fun _ _ _ _ h _=>h) (fun _ _ _ _=>pg_ n) (fun _ _ _ _ _ _ _ _ y=>y) h0 hp hz hs hd
theorem vz_ {K:pd_} {a:Addr} {xs:List V} {p:Addr} {g:TG} {tc:TT} {te:TE} {Q:VK} {σ0:St} {H0:Hp} (Pv:Nat->List V->St->Hp->Prop)
  (hl:∀ i acc σ H,i<=xs.length->Pv i acc σ H->SqL K H a xs)
  (h0:Pv 0 [] σ0 H0) (hp:∀ i acc σ H,Pv i acc σ H->H p=some (.lst acc)/\acc.length<=i) (hz:xs.length<=sizeLine)
  (hs:∀ i acc σ H,i < xs.length->Pv i acc σ H->g (xs.getD i .non) σ H fun σ3 H3=>tc σ3 H3 fun b H4 =>
   if b=true then te σ3 H4 fun v H5=>H5 p=some (.lst acc)/\Pv (i+1) (acc++[v]) σ3 (upd H5 p (.lst (acc++[v]))) else Pv (i+1) acc σ3 H4)
  (hd:∀ acc σ H,Pv xs.length acc σ H->Q (.ref p) H):yo_ (Itl K a) p g tc te Q σ0 H0 :=
 jdy_ (J:=Itl K a) (n:=xs.length) (val:=fun i=>xs.getD i .non) Pv
  (fun i acc σ H hi q=>⟨xs,xs[i],(hl i acc σ H (si_ hi) q),by simp[hi]⟩) (fun acc σ H q=>⟨xs,(hl _ acc σ H (pg_ _) q),pg_ _⟩)
  (fun i acc σ H x _ hi q y=>⟨y.1,by have:=y.2 xs (hl i acc σ H (si_ hi) q);rw[pe_,this];rfl⟩) h0 hp hz hs hd
section
variable {X:Cx} {o e:Expr} {es:List Expr} {to:TE} {t:TA} {name:Str} {apos cpos:Pos} {T id:String} {r:V->List V->Hp->VK->Prop}
theorem ya_ {K:pd_} (pa:PlainAttrs T) (slot:Slot T name id) (hty:typeOf (.builtin id)=pure (.type "method_descriptor")) (hm:MtR X id r) (ho:PE X o to) (ha:PA X (e::es) t) (hK:X.K=K:=by rfl)
  (hb:attributeBase o name X.env (eval o X.env)=eval o X.env:=by rfl)
  (hf:((backTo cpos (starEach (e::es) X.env)).all (fun x=>!x.1)&&(backToKw cpos (keywordEach [] X.env)).all (fun x=>x.1.isSome)&&decide ((e::es).length+([]:List Keyword).length+(if ([]:List Keyword).isEmpty then 0 else 1) < 30))=true:=by rfl)
  (hl:(apos.endLine == cpos.line)=true:=by rfl) (he:starEach (e::es) X.env=(false,eval e X.env)::starEach es X.env:=by rfl) (hpl:(backTo cpos (starEach es X.env)).any (·.1)=false:=by rfl):PE X (.Call (.Attribute o name apos) (e::es) [] cpos) (tBM K T r to t):=by
 subst hK
 exact jvt_ pa slot hty hm ho ha hb hf hl he hpl
theorem jkl_ {K:pd_} (pa:PlainAttrs T) (slot:Slot T name id) (hty:typeOf (.builtin id)=pure (.type "method_descriptor")) (hm:MtR X id r) (ho:PE X o to) (hK:X.K=K:=by rfl)
  (hbase:attributeBase o name X.env (eval o X.env)=eval o X.env:=by rfl) (hline:(apos.endLine == cpos.line)=true:=by rfl):PE X (.Call (.Attribute o name apos) [] [] cpos) (tBM0 K T r to):=by
 subst hK
 exact jvn_ pa slot hty hm ho hbase hline
end
def fSet:V->V->V->Hp->(Hp->Prop)->Prop:=fun o i v H Q=>match o,i with
 | .ref p,.int k=>(match H p with
  | some (.lst xs)=>(match ixN xs.length k with | some j=>Q (upd H p (.lst (xs.set j v))) | none=>False)
  | _=>False)
 | _,_=>False
theorem jnp_ {X:Cx}:PSet X fSet:=fun pins s σ H o i v ov iv u Q I ro ri rv h=>by
 unfold fSet at h
 split at h
 ·split at h
  ·rename_i xs e
   split at h
   ·rename_i j ej
    exact jnn_ pins s σ H _ _ v ov iv u Q I ro ri rv ⟨_,_,_,_,rfl,rfl,e,ej,h⟩
   ·exact h.elim
  ·exact h.elim
 ·exact h.elim
structure Dn (P:Program) (w:World) (K:pd_) (mg:Str->Option Value) (base:Heap) (x:Str) (k:Nat) (ps:List Str) (sp:Sp):Prop where
 ex:∃(f:Addr) (fd:FuncData),mg x=some (.ref f)/\sp_ K (.ref f)=true/\Binds K fd ps []/\FnOk P w K mg base CX0 k f fd ps sp
theorem jg_ {X:Cx} {x:Str} {k:Nat} {ps:List Str} {sp:Sp} {e:Expr} {es:List Expr} {t:TA} {p pos:Pos} (D:Dn X.prog X.w X.K X.mg X.base x k ps sp) (hr:Room k X.A) (hg:Gl X x) (ha:PA X (e::es) t)
  (hdb:(x == ("__debug__":Str))=false:=by decide) (he:starEach (e::es) X.env=(false,eval e X.env)::starEach es X.env:=by rfl) (hpl:(backTo pos (starEach es X.env)).any (·.1)=false:=by rfl) :
  PE X (.Call (.Name x p) (e::es) [] pos) (jni_ sp [] E0 t):=by
 obtain⟨f,fd,h1,h2,h3,h4⟩:=D.ex
 exact jra_ h4 hr hg h1 h2 h3 .nil jwf_ ha hdb he hpl
end L2
namespace L2
open PySem
open Sem (wp)
open AutoSeq1 (wpAny_loadPart')
section
variable {prog:Program} {w:World} {A:Around} {E:Value->Shared->Prop} {s:Shared}
theorem jhv_ {it t:Addr} {i:Nat} {items:Array Value} {x:Value} {Q:Value->Shared->Prop} (hit:s.heap.IsTupleIter it t i) (ht:s.heap.IsTuple t items) (hx:items[i]?=some x)
  (hQ:∀ h',h'.IsTupleIter it t (i+1)->rq_ it s.heap h'->Q x { s with heap:=h' }):wpAny (model prog w) A (px_ (.ref it)) Q E s:=by
 obtain⟨ob,hob,hcl,hdt⟩:=id hit
 obtain⟨ot,hot,_,nt,hdot⟩:=ht
 unfold px_
 refine wpAny_bind (wpAny_callSpecial?_slot (name:=qz_ "__next__") hit.typeIs r3_ (wpAny_call_entry r3_ hit.typeIs t9_ ?_ (t5_ _)))
 show wpAny _ _ (field (.ref it) 0 >>= _) _ _ s
 refine wpAny_bind (wpAny_field hob hdt (x:=.ref t) rfl ?_)
 have nn:¬ ((Value.ref t == Value.none)=true):=pp_
 show wpAny _ _ (if (Value.ref t == Value.none)=true then _ else _) _ _ s
 rw[if_neg nn]
 show wpAny _ _ (field (.ref it) 1 >>= _) _ _ s
 refine wpAny_bind (wpAny_field hob hdt (x:=.int i 0) rfl ?_)
 show wpAny _ _ (seqItems? (.ref t) >>= _) _ _ s
 refine wpAny_bind (wpAny_seqItems hot hdot ?_)
 simp only[rn_,hx]
 refine wpAny_bind (wpAny_setField hob hdt (by simp) (wpAny_pure ⟨x,rfl,wpAny_pure (hQ _ ?_ (k2_ ..))⟩))
 exact⟨_,tw_ _ hob (Obj.isFreed_of_fields (Obj.data_mapFields hdt _)),(Obj.cls_mapFields ..).trans hcl,by rw[Obj.data_mapFields hdt];simp[rawInt]⟩
theorem jmk_ {it t:Addr} {i:Nat} {items:Array Value} {Q:Value->Shared->Prop} (hh:A.handled=none) (hit:s.heap.IsTupleIter it t i) (ht:s.heap.IsTuple t items) (hx:items[i]?=none)
  (hE:∀ h' e,Heap.ExtBut it s.heap h'->(∃ o,h'.get? e=some o/\o.cls=.type "StopIteration")->E (.ref e) { s with heap:=h' }):wpAny (model prog w) A (px_ (.ref it)) Q E s:=by
 obtain⟨ob,hob,hcl,hdt⟩:=id hit
 obtain⟨ot,hot,_,nt,hdot⟩:=ht
 unfold px_
 refine wpAny_bind (wpAny_callSpecial?_slot (name:=qz_ "__next__") hit.typeIs r3_ (wpAny_call_entry r3_ hit.typeIs t9_ ?_ (t5_ _)))
 show wpAny _ _ (field (.ref it) 0 >>= _) _ _ s
 refine wpAny_bind (wpAny_field hob hdt (x:=.ref t) rfl ?_)
 have nn:¬ ((Value.ref t == Value.none)=true):=pp_
 show wpAny _ _ (if (Value.ref t == Value.none)=true then _ else _) _ _ s
 rw[if_neg nn]
 show wpAny _ _ (field (.ref it) 1 >>= _) _ _ s
 refine wpAny_bind (wpAny_field hob hdt (x:=.int i 0) rfl ?_)
 show wpAny _ _ (seqItems? (.ref t) >>= _) _ _ s
 refine wpAny_bind (wpAny_seqItems hot hdot ?_)
 simp only[rn_,hx]
 refine wpAny_bind (wpAny_rule (wpAny_bind (wpAny_setField hob hdt (by simp) ?_)))
 show wpAny _ _ (newExc (.type "StopIteration") [] >>= _) _ _ _
 refine wpAny_bind ?_
 simp only[newExc,newTuple]
 refine wpAny_bind (wpAny_newObj_type ?_ (by size_fits))
 refine wpAny_bind (m:=firstArgMember _ _) (wpAny_of_eq (a:=Value.none) (by first | rfl | (simp only[firstArgMember];rfl)) (wpAny_newObj_type ?_ (by size_fits)))
 simp only[raiseNew]
 refine wpAny_bind (wpAny_handled ?_)
 first | rw[show A.in1.handled=none from hh] | rw[hh]
 exact wpAny_bind (wpAny_pure (wpAny_throw (hE _ _ (((k2_ ..).extBut.push _).push _) ⟨_,pk_ _ rfl,rfl⟩)))
end
theorem jil_ {prog:Program} {w:World} {A:Around} (hh:A.handled=none) (it t:Addr) (hne:t≠it) (items:Array Value) :
  Draws prog w A it [it,t] items.size (fun i v=>items[i]?=some v) (fun i h=>h.IsTupleIter it t i/\h.IsTuple t items) where
 live:=fun _ _ st=>let ⟨o,ho,_⟩:=st.1;⟨o,ho⟩
 frame:=fun _ _ _ st hk=>⟨st.1.at fun o e=>hk it (by simp) o e,let ⟨o,ho,r⟩:=st.2;⟨o,hk t (by simp) o ho,r⟩⟩
 item:=fun i s Q E hi st hQ=>by
  refine jhv_ st.1 st.2 (x:=items[i]) (by simp[hi]) fun h' hit' hs'=>?_
  exact hQ _ h' s.toks (by simp[hi]) ⟨hit',st.2.extBut hs'.extBut hne⟩ hs'
 done:=fun s Q E st hE=>jmk_ hh st.1 st.2 (by simp) hE
set_option maxHeartbeats 4000000 in
theorem jlj_ (l:Addr) (items:Array Value) (n:Nat) (dct:Option Addr) (sl:Array (Option Value)) (b:Int) (u:Tok) (hb:q3_ b=true) :
  Meets (Builtin.«enumerate.__new__» ⟨[.type "enumerate",.ref l],[(qz_ "start",.int b u)]⟩) (fun _ R s=>s.heap.get? l=some { cls:=.type "tuple",dict:=dct,data:=.seq items n,slots:=sl } /\
   R (.ok (.ret (.ref (s.heap.push { cls:=.type "tuple_iterator",data:=.fields #[.ref l,.int 0 0] }).objs.size)))
    { s with heap:=(s.heap.push { cls:=.type "tuple_iterator",data:=.fields #[.ref l,.int 0 0] }).push { cls:=.type "enumerate",data:=.fields #[.none,.bool false,.ref s.heap.objs.size,rawInt b,.none,.none] } }) :=
 .of_wp fun prog w A R s h=>by
  obtain⟨hp,g,d,tk,os⟩:=s;obtain⟨hl,h⟩:=h
  have hsub:=sub_enumerate
  have hL:lh_ (w1_ ⟨hp,g,d,tk,os⟩) l items:=⟨_,hl,rfl,n,rfl⟩
  have hb':(!Builtin.SmallTypes.fitsIndex b)=false:=by rw[hb];rfl
  wp_walk using wpAny_loadPart' hl
  refine wpAny_stack_any fun st=>wpAny_pure ?_
  split
  ·rename_i c _ _ _ _ _
   cases (c == Value.type "enumerate")
   ·wp_walk using wpAny_loadPart' hl,wpAny_pyIter_tuple hL
    exact⟨_,rfl,h⟩
   ·wp_walk using wpAny_loadPart' hl,wpAny_pyIter_tuple hL
    exact⟨_,rfl,h⟩
  ·wp_walk using wpAny_loadPart' hl,wpAny_pyIter_tuple hL
   exact⟨_,rfl,h⟩
set_option maxHeartbeats 4000000 in
theorem jmm_ (l:Addr) (items:Array Value) (n:Nat) (dct:Option Addr) (sl:Array (Option Value)) (b:Int) (u:Tok) (hb:q3_ b=true) :
  Meets (Builtin.«enumerate.__new__» ⟨[.type "enumerate",.ref l],[(qz_ "start",.int b u)]⟩) (fun _ R s=>s.heap.get? l=some { cls:=.type "list",dict:=dct,data:=.seq items n,slots:=sl } /\
   R (.ok (.ret (.ref (s.heap.push { cls:=.type "list_iterator",data:=.fields #[.ref l,.int 0 0] }).objs.size)))
    { s with heap:=(s.heap.push { cls:=.type "list_iterator",data:=.fields #[.ref l,.int 0 0] }).push { cls:=.type "enumerate",data:=.fields #[.none,.bool false,.ref s.heap.objs.size,rawInt b,.none,.none] } }) :=
 .of_wp fun prog w A R s h=>by
  obtain⟨hp,g,d,tk,os⟩:=s;obtain⟨hl,h⟩:=h
  have hsub:=sub_enumerate
  have hL:Heap.IsList (w1_ ⟨hp,g,d,tk,os⟩) l items:=⟨_,hl,rfl,n,rfl⟩
  have hb':(!Builtin.SmallTypes.fitsIndex b)=false:=by rw[hb];rfl
  wp_walk using wpAny_loadPart' hl
  refine wpAny_stack_any fun st=>wpAny_pure ?_
  split
  ·rename_i c _ _ _ _ _
   cases (c == Value.type "enumerate")
   ·wp_walk using wpAny_loadPart' hl,wpAny_pyIter_list hL
    exact⟨_,rfl,h⟩
   ·wp_walk using wpAny_loadPart' hl,wpAny_pyIter_list hL
    exact⟨_,rfl,h⟩
  ·wp_walk using wpAny_loadPart' hl,wpAny_pyIter_list hL
   exact⟨_,rfl,h⟩
section
variable {prog:Program} {w:World} {A:Around} {E:Value->Shared->Prop} {s:Shared}
theorem jkm_ {T newId:String} {self:Value} {rest:List Value} {kw:List (Str×Value)} (hl:typeLookup (.type T) "__init__"=pure (some (.builtin "object.__init__")))
  (hm:Bind.madeBy (.type T)=pure (some newId)) (hne:(some newId != some "object.__new__")=true) :
  Meets (Builtin.«object.__init__» ⟨self::rest,kw⟩) (fun _ R s=>s.TypeIs self T/\R (.ok (.ret .none)) s):=by
 refine Meets.of_wp fun prog w A R s hs=>?_
 obtain⟨hT,hq⟩:=hs
 cases rest with
 | nil =>
  cases kw with
  | nil=>exact wpAny_pure ⟨_,rfl,hq⟩
  | cons k kw =>
   repeat (any_goals (first | assumption | wp_step))
   exact⟨_,rfl,hq⟩
 | cons a rest =>
  repeat (any_goals (first | assumption | wp_step))
  exact⟨_,rfl,hq⟩
set_option maxHeartbeats 4000000 in
theorem xs_ {T newId initId:String} {Bn Bi:Builtin} {args:List Value} {kw:List (Str×Value)} {S:Spec} {Q Q₁:Value->Shared->Prop} (ft:TypeCalled T newId initId)
  (hct:checkTypeCall T ⟨args,kw⟩=pure ()) (hcn:checkBuiltinCall newId ⟨.type T::args,kw⟩=pure ())
  (entryN:entryFor table newId=some Bn) (entryI:entryFor table initId=some Bi) (g:Meets (Bn ⟨.type T::args,kw⟩) S) (h:S A.in1 (wants Q₁ E) s)
  (hnext:∀ obj s₁,Q₁ obj s₁->s₁.TypeIs obj T/\argsOk initId ⟨obj::args,kw⟩/\∃ Si,Meets (Bi ⟨obj::args,kw⟩) Si/\Si A.in1 (wants (fun r s₂=>r=.none/\Q obj s₂) E) s₁) :
  wpAny (model prog w) A (call (.type T) args kw) Q E s:=by
 obtain⟨c,tl,hmro⟩:=ft.mro
 have hmade:=ft.made
 have hsub:=ft.sub
 refine wpAny_call (codeAny_of_tree ?_)
 show wpAny _ _ (callAny (.type T) _) _ _ _
 refine wpAny_pure ⟨Code.quiet_builtin _ (by decide +kernel),codeAny_builtin F.entry_type_call ?_⟩
 rw[Around.under_plain (weight_type_call_type T args kw) (units_type_call_type T args kw)]
 have h1:=ft.notType
 have h2:=ft.canCreate
 repeat (any_goals (first | assumption | wp_step))
 refine codeAny_mono (codeAny_call_builtin ft.plain entryN (wpAny_of_eq hcn (g prog w A.in1 _ s h))) fun r s₁ hr=>?_
 cases r with
 | error e=>exact hr
 | ok fl =>
  cases fl with
  | ret obj =>
   obtain⟨hT,hok,Si,gi,hsi⟩:=hnext _ _ hr
   have hli:=ft.init.lookup
   have hbi:=ft.init.bind obj
   repeat (any_goals (first | assumption | wp_step))
   refine codeAny_mono (codeAny_call_builtin ft.init.plain entryI (ft.init.check _ _ _ _ _ _ _ _ hT hok (gi prog w A.in1 _ s₁ hsi))) fun r₂ s₂ hr₂=>?_
   cases r₂ with
   | error e=>exact hr₂
   | ok fl₂ =>
    cases fl₂ with
    | ret r =>
     obtain⟨rfl,hq⟩:=hr₂
     repeat (any_goals (first | assumption | wp_step))
    | _=>exact hr₂.elim
  | _=>exact hr.elim
theorem chk1 (a b:Value):checkTypeCall "enumerate" ⟨[a],[(qz_ "start",b)]⟩=pure ():=by kernel_rfl
theorem chk2 (a b:Value):checkBuiltinCall "enumerate.__new__" ⟨[.type "enumerate",a],[(qz_ "start",b)]⟩=pure ():=by kernel_rfl
theorem jsy_ (obj a b:Value):argsOk "object.__init__" ⟨[obj,a],[(qz_ "start",b)]⟩:=by
 unfold argsOk
 rw[signature?_of (id:="object.__init__") (n:=['_','_','t','i','n','i','_','_']) (o:=['t','c','e','j','b','o']) (by kernel_rfl) F.owner_object]
 kernel_rfl
theorem jhj_ {l:Addr} {items:Array Value} {b:Int} {u:Tok} {Q:Value->Shared->Prop} (hL:s.heap.IsTuple l items) (hb:q3_ b=true)
  (h:∀ h',IsEnum h' (s.heap.objs.size+1) s.heap.objs.size b .none->h'.IsTupleIter s.heap.objs.size l 0->(∀ b o,s.heap.get? b=some o->h'.get? b=some o)->Q (.ref (s.heap.objs.size+1)) { s with heap:=h' }) :
  wpAny (model prog w) A (call (.type "enumerate") [.ref l] [(qz_ "start",.int b u)]) Q E s:=by
 obtain⟨⟨c,dct,dt,sl⟩,hl,hc,n,hd⟩:=hL
 simp only at hc hd
 subst hc hd
 refine xs_ (Q₁:=fun obj s₁=>s₁.TypeIs obj "enumerate"/\Q obj s₁) qu_ (chk1 _ _) (chk2 _ _) sz_ tc_ (jlj_ l items n dct sl b u hb) ⟨hl,?_⟩
  fun obj s₁ hq=>⟨hq.1,jsy_ obj _ _,_,jkm_ qu_.init.lookup qu_.made (by decide),hq.1,rfl,hq.2⟩
 have hz:(s.heap.push { cls:=.type "tuple_iterator",data:=.fields #[.ref l,.int 0 0] }).objs.size=s.heap.objs.size+1:=q9_ ..
 show _/\_
 rw[hz]
 have he:IsEnum ((s.heap.push { cls:=.type "tuple_iterator",data:=.fields #[.ref l,.int 0 0] }).push { cls:=.type "enumerate",data:=.fields #[.none,.bool false,.ref s.heap.objs.size,rawInt b,.none,.none] }) (s.heap.objs.size+1) s.heap.objs.size b .none:=by
  have:=pk_ (s.heap.push { cls:=.type "tuple_iterator",data:=.fields #[.ref l,.int 0 0] }) (o:={ cls:=.type "enumerate",data:=.fields #[.none,.bool false,.ref s.heap.objs.size,rawInt b,.none,.none] }) rfl
  rw[hz] at this;exact this
 exact⟨⟨_,he,rfl⟩,h _ he ⟨_,pa_ _ (pk_ _ rfl),rfl,rfl⟩ fun b o x=>pa_ _ (pa_ _ x)⟩
theorem jhw_ {l:Addr} {items:Array Value} {b:Int} {u:Tok} {Q:Value->Shared->Prop} (hL:s.heap.IsList l items) (hb:q3_ b=true)
  (h:∀ h',IsEnum h' (s.heap.objs.size+1) s.heap.objs.size b .none->h'.IsListIter s.heap.objs.size l 0->(∀ b o,s.heap.get? b=some o->h'.get? b=some o)->Q (.ref (s.heap.objs.size+1)) { s with heap:=h' }) :
  wpAny (model prog w) A (call (.type "enumerate") [.ref l] [(qz_ "start",.int b u)]) Q E s:=by
 obtain⟨⟨c,dct,dt,sl⟩,hl,hc,n,hd⟩:=hL
 simp only at hc hd
 subst hc hd
 refine xs_ (Q₁:=fun obj s₁=>s₁.TypeIs obj "enumerate"/\Q obj s₁) qu_ (chk1 _ _) (chk2 _ _) sz_ tc_ (jmm_ l items n dct sl b u hb) ⟨hl,?_⟩
  fun obj s₁ hq=>⟨hq.1,jsy_ obj _ _,_,jkm_ qu_.init.lookup qu_.made (by decide),hq.1,rfl,hq.2⟩
 have hz:(s.heap.push { cls:=.type "list_iterator",data:=.fields #[.ref l,.int 0 0] }).objs.size=s.heap.objs.size+1:=q9_ ..
 show _/\_
 rw[hz]
 have he:IsEnum ((s.heap.push { cls:=.type "list_iterator",data:=.fields #[.ref l,.int 0 0] }).push { cls:=.type "enumerate",data:=.fields #[.none,.bool false,.ref s.heap.objs.size,rawInt b,.none,.none] }) (s.heap.objs.size+1) s.heap.objs.size b .none:=by
  have:=pk_ (s.heap.push { cls:=.type "list_iterator",data:=.fields #[.ref l,.int 0 0] }) (o:={ cls:=.type "enumerate",data:=.fields #[.none,.bool false,.ref s.heap.objs.size,rawInt b,.none,.none] }) rfl
  rw[hz] at this;exact this
 exact⟨⟨_,he,rfl⟩,h _ he ⟨_,pa_ _ (pk_ _ rfl),rfl,rfl⟩ fun b o x=>pa_ _ (pa_ _ x)⟩
end
end L2
namespace L2
open PySem PySem.Spec PyProof.Rows
section
variable {X:Cx} {pins:List (Addr×Obj)} {σ:St} {H:Hp} {s:Shared} {h':Heap}
theorem Inv.turnedL {t':Nat} {ch:List Addr} (I:Inv X pins σ H s) (k:∀ b u,b∉ch->s.heap.get? b=some u->h'.get? b=some u) (hf:∀ b∈ch,FpOk X pins H b):Inv X pins σ H { s with heap:=h',toks:=t' }:=by
 have nch:∀ b u,H b=some u->b∉ch:=fun b u e z=>by rw[(hf b z).1] at e;cases e
 refine I.step (g':=s.gens) (d':=s.drawn) (ch:=ch) (fun b hb=>⟨(hf b hb).2.2.2.1,(hf b hb).2.1,(hf b hb).2.2.2.2.1,(hf b hb).2.2.2.2.2⟩)
  (fun b u _ _ hc e _=>k b u hc e) (fun b u _ _ hc e _=>⟨u.slots,k b u hc e⟩) (fun _ _ _ _ n=>n)
  (fun b u hc e=>⟨u,k b u hc e⟩) (fun _ _ e=>e) (fun _ _ _ e=>e) (fun b ps e=>⟨#[],by rw[e];simp⟩) (fun m hm=>?_) (fun b u e=>?_) I.bare
 ·obtain⟨ob,es,ep,ho,r⟩:=hm
  exact⟨ob,es,ep,k _ ob (fun z=>(hf _ z).2.1 rfl) ho,r⟩
 ·refine(I.hok b u e).stay (fun c v hc q=>k c v ?_ q) (fun _ q=>q) fun _ _ q=>q
  rcases hc with z | z
  ·rw[z];exact nch b u e
  ·exact nch c _ z
theorem Inv.turnedNew {t':Nat} {ch:List Addr} {T:Addr} {o:HO} (I:Inv X pins σ H s) (hT:s.heap.objs.size<=T)
  (k:∀ b u,b∉ch->s.heap.get? b=some u->h'.get? b=some u) (hf:∀ b∈ch,FpOk X pins H b) (new:ObjOk X.prog X.w (upd H T o) h' T o) :
  Inv X pins σ (upd H T o) { s with heap:=h',toks:=t' }:=by
 have hn:H T=none:=I.hok.fresh hT
 have nch:∀ b u,H b=some u->b∉ch:=fun b u e z=>by rw[(hf b z).1] at e;cases e
 refine I.step (g':=s.gens) (d':=s.drawn) (ch:=ch) (fun b hb=>⟨(hf b hb).2.2.2.1,(hf b hb).2.1,(hf b hb).2.2.2.2.1,(hf b hb).2.2.2.2.2⟩)
  (fun b u _ _ hc e _=>k b u hc e) (fun b u _ _ hc e _=>⟨u.slots,k b u hc e⟩) (fun b u _ e n=>by rw[je_ (p7_ (p6_ (pm_ e) hT))];exact n)
  (fun b u hc e=>⟨u,k b u hc e⟩) (fun b xs e=>by rw[je_ (jf_ e hn)];exact e) (fun b u v e=>by rw[je_ (jf_ e hn)];exact e) (fun b ps e=>⟨#[],by rw[je_ (jf_ e hn),e];simp⟩)
  (fun m hm=>?_) (fun b u e=>?_) I.bare
 ·obtain⟨ob,es,ep,ho,r⟩:=hm
  exact⟨ob,es,ep,k _ ob (fun z=>(hf _ z).2.1 rfl) ho,r⟩
 ·by_cases hb:b=T
  ·subst hb;rw[jb_] at e;cases e;exact new
  ·rw[je_ hb] at e
   refine(I.hok b u e).stay (fun c v hc q=>k c v ?_ q) (fun c q=>by rw[je_ (jf_ q hn)];exact q) fun c xs q=>by rw[je_ (jf_ q hn)];exact q
   rcases hc with z | z
   ·rw[z];exact nch b u e
   ·exact nch c _ z
end
theorem Draws.shift {P:Program} {w:World} {A:Around} {it:Addr} {fp:List Addr} {n:Nat} {Pv:Nat->Value->Prop} {St:Nat->Heap->Prop} (D:Draws P w A it fp n Pv St) (b:Nat) :
  Draws P w A it fp (b+n) (fun j x=>b<=j/\Pv (j - b) x) (fun j h=>b<=j/\St (j - b) h) where
 live:=fun j h st=>D.live _ _ st.2
 frame:=fun j h h' st k=>⟨st.1,D.frame _ _ _ st.2 k⟩
 item:=fun j s Q E hj st hQ=>D.item (j - b) s Q E (by have:=st.1;omega) st.2 fun x h' tk hP hS sb=>hQ x h' tk ⟨st.1,hP⟩ ⟨by have:=st.1;omega,by rw[show j+1 - b=j - b+1 by have:=st.1;omega];exact hS⟩ sb
 done:=fun s Q E st hE=>D.done s Q E (by have:=st.2;rwa [sm_] at this) hE
def Ien (b:Nat) (xs:List V) (ok:Hp->Prop):It :=
 ⟨fun i H=>ok H/\i < xs.length,fun i H x H'=>∃ T v,H T=none/\xs[i]?=some v/\x=.ref T/\H'=upd H T (.tup [.int ((b:Int)+(i:Int)),v]),fun i H=>ok H/\i=xs.length⟩
def jaw_ (P:Program) (w:World) (A:Around) (it:Addr) (xs:List V) (St0:Nat->Heap->Prop) (H:Hp) (i:Nat) (h:Heap):Prop :=
 ∃(fp:List Addr) (Pv:Nat->Value->Prop) (St:Nat->Heap->Prop),Draws P w A it fp xs.length Pv St/\it∈fp/\(∀ b∈fp,b=it∨H b≠none)/\St i h/\(∀ j x,Pv j x->∃ v,xs[j]?=some v/\RelV v x)/\∀ j h',St j h'->St0 j h'
theorem xt_ {P:Program} {w:World} {K:pd_} {elts:List Expr} {k:Nat} {pos:Pos} {e it:Addr} {xs:List V} {b:Nat} {ok:Hp->Prop} {St0:Nat->Heap->Prop} (hei:e≠it)
  (hD:∀(X:Cx),X.prog=P->X.w=w->X.K=K->X.calm=true->∀(i:Nat) (pins:List (Addr×Obj)) (s:Shared) (σ:St) (H:Hp),Inv X pins σ H s->ok H->H it=none->St0 i s.heap->jaw_ P w X.A.in1 it xs St0 H i s.heap)
  (hobj:∀ i h,St0 i h->∃ o,h.get? it=some o/\∀ v,o.data≠.cell v) (hkeep:∀ i h h',St0 i h->(∀ o,h.get? it=some o->h'.get? it=some o)->St0 i h') :
  Turn P w K (.Tuple elts k pos) (Ien b xs ok) [e,it] e (fun i h=>(∃ old,IsEnum h e it ((b+i:Nat):Int) old)/\St0 i h) where
 mem:=by simp
 obj:=fun i h st c hc=>by
  rcases pt_.mp hc with z | z
  ·obtain⟨⟨old,he⟩,_⟩:=st
   rw[z]
   exact⟨_,he,fun v q=>by
    have q':Data.fields _=Data.cell v:=q
    cases q'⟩
  ·have z':c=it:=by simpa using z
   rw[z']
   exact hobj i h st.2
 keep:=fun i h h' st kk=>by
  obtain⟨⟨old,he⟩,hs⟩:=st
  exact⟨⟨old,kk e (by simp) _ he⟩,hkeep i h h' hs fun o q=>kk it (by simp) o q⟩
 item:=by
  intro X hP hw hK hc i pins s σ H E I hf st hg
  subst hP hw hK
  obtain⟨⟨old,he⟩,hs⟩:=st
  obtain⟨hok,hlt⟩:=hg
  obtain⟨fp,Pv,St,D,hif,hfp,hst,hrel,hback⟩:=hD X rfl rfl rfl hc i pins s σ H I hok (hf it (by simp)).1 hs
  have hef:e∉fp:=fun z=>by
   rcases hfp e z with q | q
   ·exact hei q
   ·exact q (hf e (by simp)).1
  have W:=WalksT.enumerateD (Draws.shift D b) e hei hef hif
  refine W.item (b+i) s _ E (by omega) ⟨⟨old,he⟩,by omega,by rw[sm_];exact hst⟩ fun T vals h1 tk hPv hT hTup hm hk=>⟨.ref T,rfl,?_⟩
  obtain⟨t,x,⟨_,hPx⟩,rfl⟩:=hPv
  rw[sm_] at hPx
  obtain⟨v,hv,rv⟩:=hrel _ _ hPx
  have apart:=W.apart _ _ _ hm
  refine W.go elts k pos (b+i) T _ _ E hm fun h2 st2 hk2=>?_
  have kk:∀ c u,c∉[e,it]->s.heap.get? c=some u->h2.get? c=some u:=fun c u hc q=>hk2 c u hc (hk c u hc q)
  have tup2:IsTup h2 T #[.int ((b+i:Nat):Int) t,x]:=by
   obtain⟨o,ho,r⟩:=hTup
   exact⟨o,hk2 T o apart ho,r⟩
  refine⟨.ref T,upd H T (.tup [.int ((b:Int)+(i:Int)),v]),I.turnedNew (t':=tk) hT kk hf ?_,rfl,⟨T,v,I.hok.fresh hT,hv,rfl,rfl⟩,?_,?_⟩
  ·refine⟨by show 2<=sizeLine;decide,[.int ((b+i:Nat):Int) t,x],.cons ⟨t,?_⟩ (.cons rv .nil),tup2⟩
   rw[Int.natCast_add]
  ·obtain⟨⟨old2,he2⟩,_,hs2⟩:=st2
   refine⟨⟨old2,he2⟩,hback _ _ ?_⟩
   rwa [show b+i+1 - b=i+1 by omega] at hs2
  ·intro c hc
   have hlt:c < s.heap.objs.size:=by
    rcases pt_.mp hc with z | z
    ·rw[z];exact pm_ he
    ·have z':c=it:=by simpa using z
     rw[z']
     obtain⟨o,ho,_⟩:=hobj i _ hs
     exact pm_ ho
   rw[je_ (p7_ (p6_ hlt hT))]
   exact(hf c hc).1
 done:=by
  intro X hP hw hK hc i pins s σ H E I hf st hg
  subst hP hw hK
  obtain⟨⟨old,he⟩,hs⟩:=st
  obtain⟨hok,rfl⟩:=hg
  obtain⟨fp,Pv,St,D,hif,hfp,hst,hrel,hback⟩:=hD X rfl rfl rfl hc _ pins s σ H I hok (hf it (by simp)).1 hs
  have hef:e∉fp:=fun z=>by
   rcases hfp e z with q | q
   ·exact hei q
   ·exact q (hf e (by simp)).1
  have W:=WalksT.enumerateD (Draws.shift D b) e hei hef hif
  exact W.done s _ E ⟨⟨old,he⟩,by omega,by rw[sm_];exact hst⟩ fun h1 tk hk=>⟨rfl,I.turnedL hk hf⟩
 self:=fun A i s Q E st q=>by
  obtain⟨⟨old,he⟩,_⟩:=st
  exact wpAny_pyIter_enum he q
section
variable {X:Cx}
end
def ul_ (n:Nat) (R:It->Hp->Prop):V->Hp->Prop:=fun x H1=>match x with
 | .ref a=>(∃ xs,H1 a=some (.lst xs)/\R (Ien n xs fun H=>H a=some (.lst xs)) H1)∨(∃ xs,H1 a=some (.tup xs)/\R (Ien n xs fun H=>H a=some (.tup xs)) H1)
 | _=>False
def jou_ (te ts:TE):TI:=fun σ H R=>te σ H fun x H1=>ts σ H1 fun y H2=>∃ n:Nat,y=.int (n:Int)/\n < 1000000/\ul_ n R x H2
theorem jfr_ {X:Cx} {pins:List (Addr×Obj)} {σ:St} {H:Hp} {s:Shared} {it a:Addr} {xs:List V} {i:Nat} (hc:X.calm=true) (I:Inv X pins σ H s) (h:SqL X.K H a xs) (hn:H it=none) (ha:H a≠none) (st:s.heap.IsListIter it a i) :
  jaw_ X.prog X.w X.A.in1 it xs (fun i h=>h.IsListIter it a i) H i s.heap:=by
 obtain⟨its,rv,pl,hz⟩:=I.list h
 have hl:its.toArray.size=xs.length:=by rw[pi_];exact rv.length.symm
 have hne:a≠it:=fun z=>ha (z▸hn)
 refine⟨[it,a],_,_,hl▸Draws.list (A:=X.A.in1) (show X.A.in1.handled=none from I.ok.hd hc) it a hne its.toArray,by simp,fun b hb=>?_,⟨st,pl.isList⟩,fun j x hx=>?_,fun _ _ q=>q.1⟩
 ·rcases pt_.mp hb with z | z
  ·exact .inl z
  ·have z':b=a:=by simpa using z
   rw[z'];exact .inr ha
 ·have hx':its[j]?=some x:=by simpa using hx
  have hj:j < xs.length:=by rw[rv.length];exact(pl_.mp hx').1
  obtain⟨u,hu,ru⟩:=rv.get (i:=j) (x:=xs[j]) (by simp[hj])
  rw[hx'] at hu
  cases hu
  exact⟨xs[j],by simp[hj],ru⟩
theorem u3_ {X:Cx} {pins:List (Addr×Obj)} {σ:St} {H:Hp} {s:Shared} {it a:Addr} {xs:List V} {i:Nat} (hc:X.calm=true) (I:Inv X pins σ H s) (h:SqT X.K H a xs) (hn:H it=none) (ha:H a≠none) (st:s.heap.IsTupleIter it a i) :
  jaw_ X.prog X.w X.A.in1 it xs (fun i h=>h.IsTupleIter it a i) H i s.heap:=by
 obtain⟨its,rv,pl,hz⟩:=I.tuple h
 have hl:its.toArray.size=xs.length:=by rw[pi_];exact rv.length.symm
 have hne:a≠it:=fun z=>ha (z▸hn)
 refine⟨[it,a],_,_,hl▸jil_ (A:=X.A.in1) (show X.A.in1.handled=none from I.ok.hd hc) it a hne its.toArray,by simp,fun b hb=>?_,⟨st,pl⟩,fun j x hx=>?_,fun _ _ q=>q.1⟩
 ·rcases pt_.mp hb with z | z
  ·exact .inl z
  ·have z':b=a:=by simpa using z
   rw[z'];exact .inr ha
 ·have hx':its[j]?=some x:=by simpa using hx
  have hj:j < xs.length:=by rw[rv.length];exact(pl_.mp hx').1
  obtain⟨u,hu,ru⟩:=rv.get (i:=j) (x:=xs[j]) (by simp[hj])
  rw[hx'] at hu
  cases hu
  exact⟨xs[j],by simp[hj],ru⟩
section
variable {X:Cx}
theorem jpr_ {elts:List Expr} {k:Nat} {tpos:Pos} {a b:Expr} {ta tb:TE} {p pos kpos:Pos} (hg:Gl X "enumerate") (hm:X.mg "enumerate"=none) (ha:PE X a ta) (hb:PE X b tb) (hs:starEach [a] X.env=[(false,eval a X.env)]:=by rfl) :
  PI X (.Tuple elts k tpos) (.Call (.Name "enumerate" p) [a] [⟨some "start",b,kpos⟩] pos) (jou_ ta tb):=by
 intro pins s σ H R I h
 refine wpAny_Call_Name_kw (yw_ I hg hm boot_enumerate ?_)
 refine PySem.W.callWith_of (P:=fun _=>True) (by rw[hs];rfl) (fun _ _=>⟨.machine,.inr (.inl rfl),PySem.W.Looks.of_pure rfl⟩) (PyProof.Rows.evalArgs_kw2 (by rfl) ?_ hs)
 rw[hs]
 show wpAny _ _ (spliced ((false,eval a X.env)::backTo pos (starEach [] X.env))) _ _ s
 refine q2_ (thn (ha pins s σ H _ I h) fun u s1 ⟨x,H1,I1,ru,q1⟩=>rm_ ?_)
 show wpAny _ _ (evalAll ((do let v <- eval b X.env;standAt pos;pure v)::[])) _ _ s1
 refine wpAny_evalAll_cons (wpAny_bind (thn (hb pins s1 σ H1 _ I1 q1) fun u2 s2 ⟨y,H2,I2,ry,n,ey,hn,q2⟩=>wpAny_bind (wpAny_standAt (wpAny_pure (wpAny_evalAll_nil ⟨trivial,?_⟩)))))
 subst ey
 obtain⟨t,rfl⟩:=ry
 show wpAny _ _ (call (.type "enumerate") [u] [(qz_ "start",.int (n:Int) t)]) _ _ s2
 have hfit:q3_ (n:Int)=true:=by
  unfold q3_
  have e:((2:Int) ^ 63)=9223372036854775808:=by decide
  simp only[e,qr_,decide_eq_true_eq]
  omega
 unfold ul_ at q2
 split at q2
 ·rename_i l _
  cases ru
  have fp:∀ b∈[s2.heap.objs.size+1,s2.heap.objs.size],FpOk X pins H2 b:=fun b hb=>by
   have:s2.heap.objs.size<=b:=by
    rcases pt_.mp hb with z | z
    ·rw[z];exact k1_ _
    ·have z':b=s2.heap.objs.size:=by simpa using z
     rw[z'];exact pg_ _
   exact I2.fpOk this (I2.hok.fresh this)
  rcases q2 with ⟨xs,hl,q2⟩ | ⟨xs,hl,q2⟩
  ·obtain⟨its,rv,pl,hz⟩:=I2.list (SqL.of hl)
   refine jhw_ pl.isList hfit fun h1 he hit hk=>?_
   refine wpAny_pyIter_enum he ?_
   refine⟨s2.heap.objs.size+1,[s2.heap.objs.size+1,s2.heap.objs.size],_,_,H2,rfl,I2.kept (t':=s2.toks) hk,xt_ (b:=n) (ok:=fun H=>H l=some (.lst xs)) (xs:=xs) (St0:=fun i h=>h.IsListIter s2.heap.objs.size l i) (ty_ _) ?_ ?_ ?_,⟨⟨.none,he⟩,hit⟩,fp,q2⟩
   ·intro X' h1 h2 h3 hc i pins s σ H I ok hn st
    exact h1▸h2▸jfr_ hc I (SqL.of ok) hn (by rw[ok];exact fun z=>nomatch z) st
   ·intro i h st
    obtain⟨o,ho,hc,hd⟩:=st
    exact⟨o,ho,fun v q=>by rw[hd] at q;cases q⟩
   ·intro i h h' st kk
    exact st.at kk
  ·obtain⟨its,rv,pl,hz⟩:=I2.tuple (SqT.of hl)
   refine jhj_ pl hfit fun h1 he hit hk=>?_
   refine wpAny_pyIter_enum he ?_
   refine⟨s2.heap.objs.size+1,[s2.heap.objs.size+1,s2.heap.objs.size],_,_,H2,rfl,I2.kept (t':=s2.toks) hk,xt_ (b:=n) (ok:=fun H=>H l=some (.tup xs)) (xs:=xs) (St0:=fun i h=>h.IsTupleIter s2.heap.objs.size l i) (ty_ _) ?_ ?_ ?_,⟨⟨.none,he⟩,hit⟩,fp,q2⟩
   ·intro X' h1 h2 h3 hc i pins s σ H I ok hn st
    exact h1▸h2▸u3_ hc I (SqT.of ok) hn (by rw[ok];exact fun z=>nomatch z) st
   ·intro i h st
    obtain⟨o,ho,hc,hd⟩:=st
    exact⟨o,ho,fun v q=>by rw[hd] at q;cases q⟩
   ·intro i h h' st kk
    exact st.at kk
 ·exact q2.elim
end
theorem jnk_ {b:Nat} {xs:List V} {ok:Hp->Prop} {g:TG} {tb:TS} {D:Ends} {σ:St} {H:Hp} (Pv:Nat->St->Hp->Prop) (h0:Pv 0 σ H) (hok:∀ i σ H,i<=xs.length->Pv i σ H->ok H)
  (hs:∀ i v σ H T,xs[i]?=some v->Pv i σ H->H T=none->g (.ref T) σ (upd H T (.tup [.int ((b:Int)+(i:Int)),v])) fun σ2 H2=>tb { D with nx:=Pv (i+1),ct:=Pv (i+1),bk:=D.nx } σ2 H2) (hd:∀ σ H,Pv xs.length σ H->D.nx σ H) :
  ∃ W:Nat->Nat->St->Hp->Prop,(∃ m,W 0 m σ H)/\∀ i m σ H,W i m σ H ->
   ((Ien b xs ok).stop i H/\D.nx σ H)∨((Ien b xs ok).go i H/\∃ N:St->Hp->Prop,(∀ σ' H',N σ' H'->∃ m',m' < m/\W (i+1) m' σ' H')/\∀ x H',(Ien b xs ok).yld i H x H'->g x σ H' fun σ2 H2=>tb { D with nx:=N,ct:=N,bk:=D.nx } σ2 H2):=by
 refine⟨fun i m σ H=>m=xs.length - i/\i<=xs.length/\Pv i σ H,⟨xs.length,by simp,ri_ _,h0⟩,fun i m σ' H' w=>?_⟩
 obtain⟨rfl,hi,p⟩:=w
 have ho:=hok i σ' H' hi p
 by_cases hlt:i < xs.length
 ·refine .inr ⟨⟨ho,hlt⟩,Pv (i+1),fun σ2 H2 p'=>⟨xs.length - (i+1),by omega,rfl,hlt,p'⟩,fun x H2 y=>?_⟩
  obtain⟨T,v,hT,hv,rfl,rfl⟩:=y
  exact hs i v σ' H' T hv p hT
 ·have e:i=xs.length:=by omega
  exact .inl ⟨⟨ho,e⟩,hd σ' H' (e▸p)⟩
end L2
namespace L2
open PySem PySem.Spec PyProof.Rows
section
variable {σ:St} {H:Hp} {D:Ends} {Q:VK} {QB:Bool->Hp->Prop} {QA:List V->Hp->Prop}
theorem jvw_ {t u:TS} (h:t { D with nx:=u D } σ H):tSeq t u D σ H:=h
theorem jwv_ {c:TT} {t u:TS} (h:c σ H fun b H1=>if b=true then t D σ H1 else u D σ H1):tIfS c t u D σ H:=h
theorem jvl_ (h:D.nx σ H):jsv_ D σ H:=h
theorem jwg_ {te:TE} (h:te σ H D.rt):tRet te D σ H:=h
theorem jub_ {te:TE} (h:te σ H fun _ H1=>D.nx σ H1):jtg_ te D σ H:=h
theorem jxd_ {te:TE} {g:TG} (h:te σ H fun x H1=>g x σ H1 D.nx):tAsg te g D σ H:=h
theorem z1_ {i:Nat} {v:V} {K:St->Hp->Prop} (h:K (σ.set i (some v)) H):jkb_ i v σ H K:=h
theorem jty_ {to ti:TE} {t:TSet} {v:V} {K:St->Hp->Prop} (h:to σ H fun o H1=>ti σ H1 fun i H2=>t o i v H2 fun H3=>K σ H3):gSub to ti t v σ H K:=h
theorem v1_ {K':pd_} {n:Nat} {t:TGs} {a:Addr} {xs:List V} {K:St->Hp->Prop} (h1:H a=some (.tup xs)) (h2:xs.length=n) (h:t xs σ H K):gTup K' n t (.ref a) σ H K:=⟨a,xs,rfl,SqT.of h1,h2,h⟩
theorem ue_ {K:St->Hp->Prop} (h:K σ H):gNil [] σ H K:=⟨rfl,h⟩
theorem zn_ {t:TG} {u:TGs} {v:V} {r:List V} {K:St->Hp->Prop} (h:t v σ H fun σ' H'=>u r σ' H' K):jsk_ t u (v::r) σ H K:=⟨v,r,rfl,h⟩
theorem jxc_ {wi:TI} {g:TG} {tb:TS} (h:wi σ H fun J H1=>∃ W:Nat->Nat->St->Hp->Prop,(∃ m,W 0 m σ H1)/\∀ i m σ H,W i m σ H ->
 (J.stop i H/\D.nx σ H)∨(J.go i H/\∃ N:St->Hp->Prop,(∀ σ' H',N σ' H'->∃ m',m' < m/\W (i+1) m' σ' H')/\∀ x H',J.yld i H x H'->g x σ H' fun σ2 H2=>tb { D with nx:=N,ct:=N,bk:=D.nx } σ2 H2)):tFor wi g tb D σ H:=h
theorem jwb_ {i:Nat} {v:V} (e:σ[i]?=some (some v)) (h:Q v H):tVar i σ H Q:=⟨v,e,h⟩
theorem i_c {v:V} (h:Q v H):tC v σ H Q:=h
theorem i_op {r:R2} {ta tb:TE} (h:ta σ H fun x H1=>tb σ H1 fun y H2=>r x y H2 Q):tOp r ta tb σ H Q:=h
theorem i_un {r:V->Hp->VK->Prop} {ta:TE} (h:ta σ H fun x H1=>r x H1 Q):tUn r ta σ H Q:=h
theorem jug_ {t:TE} (h:t σ H fun x H'=>∃ k,x=.bl k/\QB k H'):jta_ t σ H QB:=h
theorem i_bl {b:Bool} {P:Bool->Prop} (h:P b):∃ k,V.bl b=.bl k/\P k:=⟨b,rfl,h⟩
theorem jxk_ {t u:TT} (h:t σ H fun c H1=>if c=true then u σ H1 QB else QB false H1):tAnd t u σ H QB:=h
theorem i_or {t u:TT} (h:t σ H fun c H1=>if c=true then QB true H1 else u σ H1 QB):tOr t u σ H QB:=h
theorem jwz_ {t:TT} (h:t σ H fun c H1=>QB (!c) H1):tNot t σ H QB:=h
theorem juh_ {ta tb:TE} (h:ta σ H fun x H1=>∃ c,x=.bl c/\if c=true then tb σ H1 Q else Q (.bl false) H1):jsw_ ta tb σ H Q:=h
theorem jwm_ (h:QA [] H):tNil σ H QA:=h
theorem jva_ {ta:TE} {tr:TA} (h:ta σ H fun x H1=>tr σ H1 fun xs H2=>QA (x::xs) H2):jsu_ ta tr σ H QA:=h
theorem i_cb {r:List V->Hp->VK->Prop} {t:TA} (h:t σ H fun vs H1=>r vs H1 Q):tCB r t σ H Q:=h
theorem jvp_ {sp:Sp} {dvs:List V} {E:XK} {t:TA} (h:t σ H fun vs H1=>sp (vs++dvs) H1 Q E):jni_ sp dvs E t σ H Q:=h
theorem jvv_ {t:TA} (h:t σ H fun xs H1=>xs.length<=sizeLine/\∀ p,H1 p=none->Q (.ref p) (upd H1 p (.lst xs))):tLst t σ H Q:=h
theorem jxl_ {t:TA} (h:t σ H fun xs H1=>xs.length<=sizeLine/\∀ p,H1 p=none->Q (.ref p) (upd H1 p (.tup xs))):tTup t σ H Q:=h
theorem i_bm {K:pd_} {T:String} {r:V->List V->Hp->VK->Prop} {to:TE} {t:TA} (h:to σ H fun x H1=>tyV K T x H1/\t σ H1 fun xs H2=>r x xs H2 Q):tBM K T r to t σ H Q:=h
theorem jvz_ {K:pd_} {T:String} {r:V->List V->Hp->VK->Prop} {to:TE} (h:to σ H fun x H1=>tyV K T x H1/\r x [] H1 Q):tBM0 K T r to σ H Q:=h
theorem i_sl {r:V->Option Int->Option Int->Hp->VK->Prop} {te:TE} {tl th:TO} (h:te σ H fun x H1=>tl σ H1 fun l H2=>th σ H2 fun u H3=>r x l u H3 Q):tSl r te tl th σ H Q:=h
theorem jnf_ {K:Option Int->Hp->Prop} (h:K none H):jjq_ σ H K:=h
theorem jvf_ {t:TE} {K:Option Int->Hp->Prop} (h:t σ H fun x H1=>∃ i,x=.int i/\K (some i) H1):jsm_ t σ H K:=h
theorem jxe_ {i:Int} {P:Int->Prop} (h:P i):∃ k,V.int i=.int k/\P k:=⟨i,rfl,h⟩
theorem jvh_ {ix:List (Option Nat)} {wi:TI} {g:TG} {tc:TT} {te:TE} (h:wi σ H fun J H1=>∀ p,H1 p=none->yo_ J p g tc te Q (pick ix σ) (upd H1 p (.lst []))):jjk_ ix wi g tc te σ H Q:=h
theorem jtt_ (h:QB true H):jsq_ σ H QB:=h
theorem jum_ {ta:TA} {R:It->Hp->Prop} (h:ta σ H fun vs H1=>∃ j:Int,vs=[.int j]/\-(2 ^ 62)<=j/\j < 2 ^ 62/\R (Itr 0 j.toNat) H1):jsf_ ta σ H R:=h
theorem p62:((2:Int) ^ 62)=4611686018427387904:=by decide
theorem p63:((2:Int) ^ 63)=9223372036854775808:=by decide
theorem i_r1 {j:Int} {P:Int->Prop} (h1:-1000000000<=j/\j<=1000000000) (h:P j):∃ k:Int,[V.int j]=[.int k]/\-(2 ^ 62)<=k/\k < 2 ^ 62/\P k:=⟨j,rfl,by rw[p62];omega,by rw[p62];omega,h⟩
theorem jts_ {ta:TA} {R:It->Hp->Prop} (h:ta σ H fun vs H1=>∃ i j:Int,vs=[.int i,.int j]/\(-(2 ^ 62)<=i/\i < 2 ^ 62/\-(2 ^ 62)<=j/\j < 2 ^ 62)/\R (Itr i (j - i).toNat) H1):jse_ ta σ H R:=h
theorem i_r2 {i j:Int} {P:Int->Int->Prop} (h1:-1000000000<=i/\i<=1000000000/\-1000000000<=j/\j<=1000000000) (h:P i j):∃ a b:Int,[V.int i,V.int j]=[.int a,.int b]/\(-(2 ^ 62)<=a/\a < 2 ^ 62/\-(2 ^ 62)<=b/\b < 2 ^ 62)/\P a b:=⟨i,j,rfl,by rw[p62];omega,h⟩
theorem jvy_ {K:pd_} {te:TE} {R:It->Hp->Prop} (h:te σ H (jcr_ K R)):iAny K te σ H R:=h
theorem jtv_ {K:pd_} {R:It->Hp->Prop} {z:Str} (h:R (Its (chs z)) H):jcr_ K R (.str z) H:=h
theorem u9_ {K:pd_} {R:It->Hp->Prop} {a:Addr} {xs:List V} (h1:SqL K H a xs) (h:R (Itl K a) H):jcr_ K R (.ref a) H:=.inl ⟨xs,h1,h⟩
theorem jus_ {K:pd_} {R:It->Hp->Prop} {a:Addr} {xs:List V} (h1:SqT K H a xs) (h:R (Itt K a) H):jcr_ K R (.ref a) H:=.inr ⟨xs,h1,h⟩
theorem jro_ {te ts:TE} {R:It->Hp->Prop} (h:te σ H fun x H1=>ts σ H1 fun y H2=>∃ n:Nat,y=.int (n:Int)/\n < 1000000/\ul_ n R x H2):jou_ te ts σ H R:=h
theorem juz_ {n:Nat} {R:It->Hp->Prop} {a:Addr} {xs:List V} (h1:H a=some (.lst xs)) (h:R (Ien n xs fun H=>H a=some (.lst xs)) H):ul_ n R (.ref a) H:=.inl ⟨xs,h1,h⟩
theorem juy_ {n:Nat} {R:It->Hp->Prop} {a:Addr} {xs:List V} (h1:H a=some (.tup xs)) (h:R (Ien n xs fun H=>H a=some (.tup xs)) H):ul_ n R (.ref a) H:=.inr ⟨xs,h1,h⟩
theorem jxf_ {K:pd_} {z:Str} {R:Prop} (h:R):tyV K "str" (.str z) H/\R:=⟨rfl,h⟩
theorem jwp_ {K:pd_} {p:Addr} {xs:List V} {R:Prop} (h1:SqL K H p xs) (h:R):tyV K "list" (.ref p) H/\R:=⟨.inl ⟨rfl,xs,h1⟩,h⟩
theorem jxa_ {g:Int->Int->V} {i j:Int} (h:Q (g i j) H):fI0 g (.int i) (.int j) H Q:=h
theorem i_fI {C:Int->Int->Prop} {g:Int->Int->V} {i j:Int} (c:C i j) (h:Q (g i j) H):fI C g (.int i) (.int j) H Q:=⟨c,h⟩
theorem juu_ {i j:Int} (h:Q (.int (i+j)) H):fAdd (.int i) (.int j) H Q:=h
theorem joy_ {i j:Str} (c:i.length+j.length<=sizeLine) (h:Q (.str (i++j)) H):fAdd (.str i) (.str j) H Q:=⟨c,h⟩
theorem jpv_ {a b:Addr} {xs ys:List V} (h1:H a=some (.lst xs)) (h2:H b=some (.lst ys)) (c:xs.length+ys.length<=sizeLine) (h:∀ p,H p=none->Q (.ref p) (upd H p (.lst (xs++ys)))):fAdd (.ref a) (.ref b) H Q:=by
 show (match H a,H b with | some (.lst xs),some (.lst ys)=>_ | some (.tup xs),some (.tup ys)=>_ | _,_=>_)
 rw[h1,h2];exact⟨c,h⟩
theorem jvk_ {i j:Int} (c:CMul i j) (h:Q (.int (i * j)) H):fMul (.int i) (.int j) H Q:=⟨c,h⟩
theorem jua_ {a:Addr} {xs:List V} {k:Int} (h1:H a=some (.lst xs)) (c:-1000000000<=k/\k<=1000000000/\xs.length * k.toNat<=1000000) (h:∀ p,H p=none->Q (.ref p) (upd H p (.lst (pv_ k.toNat xs).flatten))):fMul (.ref a) (.int k) H Q:=by
 show (match H a with | some (.lst xs)=>_ | _=>_)
 rw[h1];exact⟨by rw[p63];omega,by rw[p63];omega,qq_ c.2.2 (by decide),h⟩
theorem jtf_ {K:pd_} {p:Addr} {i:Int} {xs:List V} {v:V} (h1:SqL K H p xs) (h2:atI xs i=some v) (h:Q v H):fIx K (.ref p) (.int i) H Q:=⟨xs,v,.inl h1,h2,h⟩
theorem yd_ {K:pd_} {p:Addr} {i:Int} {xs:List V} {v:V} (h1:seqR H p=some xs) (h2:atI xs i=some v) (h:Q v H):fIx K (.ref p) (.int i) H Q:=⟨xs,v,uu_ h1,h2,h⟩
theorem jsg_ {K:pd_} {z:Str} {i:Int} {c:Nat} (hz:z.length<=sizeLine) (h2:atI z.cps.toList i=some c) (h:Q (.str ⟨#[c]⟩) H):fIx K (.str z) (.int i) H Q:=by
 refine⟨hz,?_⟩
 rw[h2];exact h
theorem jtb_ {p:Addr} {k:Int} {v:V} {xs:List V} {j:Nat} {K:Hp->Prop} (h1:H p=some (.lst xs)) (h2:ixN xs.length k=some j) (h:K (upd H p (.lst (xs.set j v)))):fSet (.ref p) (.int k) v H K:=by
 show (match H p with | some (.lst xs)=>(match ixN xs.length k with | some j=>K (upd H p (.lst (xs.set j v))) | none=>False) | _=>False)
 rw[h1];dsimp only;rw[h2];exact h
theorem jvu_ {i:Int} (h:Q (.int (-i)) H):fNeg (.int i) H Q:=h
theorem i_eq {x y:V} (c:scal x y=true) (h:Q (.bl (decide (x=y))) H):fEq x y H Q:=.inl ⟨c,h⟩
theorem i_ne {x y:V} (c:scal x y=true) (h:Q (.bl (!decide (x=y))) H):fNe x y H Q:=.inl ⟨c,h⟩
theorem i_is {x:V} (h:Q (.bl (decide (x=.non))) H):fIs x .non H Q:=⟨rfl,h⟩
theorem jrc_ {x:V} (h:Q (.bl (!decide (x=.non))) H):joq_ x .non H Q:=⟨rfl,h⟩
theorem jnt_ {K:pd_} {z:Str} (hz:z.length<=sizeLine) (h:Q (.int z.length) H):fLen K [.str z] H Q:=⟨hz,h⟩
theorem jup_ {K:pd_} {p:Addr} {xs:List V} (h1:SqL K H p xs) (h:Q (.int xs.length) H):fLen K [.ref p] H Q:=⟨xs,.inl h1,h⟩
theorem juw_ {K:pd_} {p:Addr} {xs:List V} (h1:seqR H p=some xs) (h:Q (.int xs.length) H):fLen K [.ref p] H Q:=⟨xs,uu_ h1,h⟩
theorem i_1I {g:Int->V} {i:Int} (h:Q (g i) H):f1I g [.int i] H Q:=h
theorem i_2I {g:Int->Int->V} {i j:Int} (h:Q (g i j) H):f2I g [.int i,.int j] H Q:=h
theorem jeb_ {p:Addr} {xs:List V} (h1:seqR H p=some xs) (h:∀ q,H q=none->Q (.ref q) (upd H q (.lst xs))):jnc_ [.ref p] H Q:=by
 show (match seqR H p with | some ys=>GetL H ys Q | none=>False)
 rw[h1];exact h
theorem xg_ {p:Addr} {xs:List V} (h1:seqR H p=some xs) (h:GetT H xs Q):jiv_ [.ref p] H Q:=by
 show (match seqR H p with | some ys=>GetT H ys Q | none=>False)
 rw[h1];exact h
theorem jtc_ {K:pd_} {z:Str} {lo hi:Option Int} (hz:z.length<=sizeLine) (h:Q (.str (k5_ z lo hi)) H):fSl K (.str z) lo hi H Q:=⟨hz,h⟩
theorem jke_ {K:pd_} {a:Addr} {xs:List V} {lo hi:Option Int} (h1:SqL K H a xs) (h:∀ q,H q=none->Q (.ref q) (upd H q (.lst (cutV xs lo hi)))):fSl K (.ref a) lo hi H Q:=.inl ⟨xs,h1,h⟩
theorem jtp_ {b:Bool} (h:QB b H):fTru (.bl b) H QB:=h
theorem jtm_ {l:Addr} {y:V} {xs:List V} (h1:H l=some (.lst xs)) (c:xs.length < sizeLine) (h:Q .non (upd H l (.lst (xs++[y])))):jeh_ (.ref l) [y] H Q:=by
 show (match H l with | some (.lst xs)=>xs.length < sizeLine/\Q .non (upd H l (.lst (xs++[y]))) | _=>False)
 rw[h1];exact⟨c,h⟩
theorem jtu_ {z:Str} {p:Addr} {ys:List Str} (h1:lstR H p=some (ys.map V.str)) (c:(ys.map (·.length)).sum+ys.length * z.length<=16777216) (h:Q (.str (lj_ z ys)) H):jpf_ (.str z) [.ref p] H Q:=by
 show (match lstR H p with | some xs=>(match strs? xs with | some ys=>(ys.map (·.length)).sum+ys.length * z.length<=16777216/\Q (.str (lj_ z ys)) H | none=>False) | none=>False)
 rw[h1];dsimp only;rw[strs?_map];exact⟨c,h⟩
theorem jxi_ {g:Str->Str->Int->V} {z y:Str} {i:Int} (h:Q (g z y i) H):fSSI g (.str z) [.str y,.int i] H Q:=h
theorem jpo_ {f:List Bool->Bool} {p:Addr} {bs:List Bool} (h1:lstR H p=some (bs.map V.bl)) (h:Q (.bl (f bs)) H):fAll f [.ref p] H Q:=by
 show (match lstR H p with | some ys=>(match bls? ys with | some bs=>Q (.bl (f bs)) H | none=>False) | none=>False)
 rw[h1];dsimp only;rw[bls?_map];exact h
theorem jvr_ {x:V} {t T:String} (h1:tyN H x=some t) (c:ym_ T=true) (h:Q (.bl (subB t T)) H):fIsi [x,.ty T] H Q:=by
 show (match tyN H x with | some t=>ym_ T=true/\Q (.bl (subB t T)) H | none=>False)
 rw[h1];exact⟨c,h⟩
theorem vw_ {x:V} {p:Addr} {t T T':String} (h1:tyN H x=some t) (h2:H p=some (.tup [.ty T,.ty T'])) (c:ym_ T=true/\ym_ T'=true) (h:Q (.bl (subB t T || subB t T')) H):fIsi [x,.ref p] H Q:=by
 show (match tyN H x,tupR H p with | some t,some ts=>(match tys? ts with | some Ts=>Ts.all ym_=true/\Q (.bl (Ts.any (subB t))) H | none=>False) | _,_=>False)
 rw[h1,jkc_ h2]
 show [T,T'].all ym_=true/\Q (.bl ([T,T'].any (subB t))) H
 refine⟨by simp[c.1,c.2],?_⟩
 have e:[T,T'].any (subB t)=(subB t T || subB t T'):=by simp
 rw[e];exact h
end
theorem iteD {c A B:Prop} [Decidable c] (h1:c->A) (h2:¬ c->B):if decide c=true then A else B:=by
 by_cases h:c
 ·rw[if_pos (decide_eq_true h)];exact h1 h
 ·rw[if_neg (by rw[decide_eq_false h];exact pp_)];exact h2 h
theorem jwk_ {c A B:Prop} [Decidable c] (hc:c) (h:A):if decide c=true then A else B:=by rw[if_pos (decide_eq_true hc)];exact h
theorem jww_ {c A B:Prop} [Decidable c] (hc:¬ c) (h:B):if decide c=true then A else B:=by rw[if_neg (by rw[decide_eq_false hc];exact pp_)];exact h
theorem jkt_ {b:Bool} {A B:Prop} (h:b=true) (hA:A):if b=true then A else B:=by rw[if_pos h];exact hA
theorem jdf_ {b:Bool} {A B:Prop} (h:b=false) (hB:B):if b=true then A else B:=by rw[h];exact iteF hB
theorem szc {xs:List V} (h:decide (xs.length<=1000)=true):xs.length<=sizeLine:=qq_ (of_decide_eq_true h) (by decide)
theorem szn {n:Nat} (h:n<=1000000):n<=sizeLine:=qq_ h (by decide)
theorem i_sz {xs:List V} {R:Prop} (h:xs.length<=sizeLine) (r:R):xs.length<=sizeLine/\R:=⟨h,r⟩
theorem jjn_ {H:Hp} {a:Addr} {xs:List V} (h:H a=some (.tup xs)):tyN H (.ref a)=some "tuple":=by
 show (match H a with | some (.lst _)=>some "list" | some (.frz _ (.lst _))=>some "list" | some (.tup _)=>some "tuple" | _=>none)=_
 rw[h]
theorem jks_ {H:Hp} {a:Addr} {xs:List V} (h:H a=some (.lst xs)):tyN H (.ref a)=some "list":=by
 show (match H a with | some (.lst _)=>some "list" | some (.frz _ (.lst _))=>some "list" | some (.tup _)=>some "tuple" | _=>none)=_
 rw[h]
theorem jd_ {H:Hp} {p:Addr} (h:H p=none) (o:HO):Same H (upd H p o):=fun b u q=>by rw[je_ (jf_ q h)];exact q
theorem iteB {b:Bool} {A B:Prop} (h1:b=true->A) (h2:b=false->B):if b=true then A else B:=by
 cases b
 ·exact iteF (h2 rfl)
 ·exact iteT (h1 rfl)
theorem jwr_ {α:Type} (x:α) (xs:List α):atI (x::xs) 0=some x:=vu_ (xs:=x::xs) (j:=0) (v:=x) rfl
theorem jxj_ {α:Type} (x y:α) (xs:List α):atI (x::y::xs) 1=some y:=vu_ (xs:=x::y::xs) (j:=1) (v:=y) rfl
theorem jwc_ {α:Type} (x y z:α) (xs:List α):atI (x::y::z::xs) 2=some z:=vu_ (xs:=x::y::z::xs) (j:=2) (v:=z) rfl
theorem jwn_ {α:Type} (x y z u:α) (xs:List α):atI (x::y::z::u::xs) 3=some u:=vu_ (xs:=x::y::z::u::xs) (j:=3) (v:=u) rfl
theorem jox_ {n:Nat} {i:Int} (h:0<=i) (h2:i < n):ixN n i=some i.toNat:=by
 unfold ixN;rw[if_pos h,if_pos h2]
theorem jnv_ {H:Hp} {p:Addr} {xs:List V}:seqR (upd H p (.lst xs)) p=some xs:=jt_ jb_
theorem jpx_ {H:Hp} {p:Addr} {xs:List V}:lstR (upd H p (.lst xs)) p=some xs:=xu_ jb_
theorem jld_ {H:Hp} {p:Addr} {xs:List V}:seqR (upd H p (.tup xs)) p=some xs:=yx_ jb_
theorem j8_ {α:Type} {xs:List α} {i:Int} {v:α} (h:0<=i) (h2:xs[i.toNat]?=some v):atI xs i=some v:=by
 have e:i=((i.toNat:Nat):Int):=by omega
 rw[e];exact vu_ h2
theorem CMul.l {i j:Int} (h1:-(2 ^ 64) < i) (h2:i < 2 ^ 64):CMul i j:=.inl ⟨h1,h2⟩
theorem CMul.r {i j:Int} (h1:-(2 ^ 64) < j) (h2:j < 2 ^ 64):CMul i j:=.inr ⟨h1,h2⟩
def Off (p:Addr) (H H':Hp):Prop:=∀ b,b≠p->H' b=H b
def Kept (p:Addr) (H H':Hp):Prop:=∀ b o,b≠p->H b=some o->H' b=some o
theorem Off.kept {p:Addr} {H H':Hp} (h:Off p H H'):Kept p H H':=fun b o hb e=>(h b hb).trans e
theorem Off.refl (p:Addr) (H:Hp):Off p H H:=fun _ _=>rfl
theorem Off.trans {p:Addr} {H H1 H2:Hp} (a:Off p H H1) (b:Off p H1 H2):Off p H H2:=fun c hc=>(b c hc).trans (a c hc)
theorem Off.upd {p:Addr} {H H1:Hp} (a:Off p H H1) (o:HO):Off p H (L2.upd H1 p o):=fun c hc=>(je_ hc).trans (a c hc)
theorem Kept.refl (p:Addr) (H:Hp):Kept p H H:=fun _ _ _ e=>e
theorem Kept.trans {p:Addr} {H H1 H2:Hp} (a:Kept p H H1) (b:Kept p H1 H2):Kept p H H2:=fun c o hc e=>b c o hc (a c o hc e)
theorem Kept.new {p q:Addr} {H H1:Hp} (a:Kept p H H1) (hq:H1 q=none) (o:HO):Kept p H (L2.upd H1 q o):=fun c u hc e=>by
 rw[je_ (jf_ (a c u hc e) hq)];exact a c u hc e
end L2
namespace L2
def jbx_ (sep:List Nat):List (List Nat)->List Nat
 | []=>[]
 | [x]=>x
 | x::y::r=>x++sep++jbx_ sep (y::r)
theorem jcs_:∀ ls:List (List Nat),jbx_ [] ls=ls.flatten
 | []=>rfl
 | [x]=>by simp[jbx_]
 | x::y::r=>by
  have:=jcs_ (y::r)
  simp only[jbx_,this,qt_,qm_]
def jst_ (c:Nat):Bool:=decide (97<=c/\c<=122)
def Low (l:List Nat):Prop:=∀ c∈l,jst_ c=true
structure RS where
 w:List Nat
 g:List Nat
 lacks:Bool
end L2
namespace L2
open PySem PySem.Builtin PySem.Builtin.Str
def S (l:List Nat):Str:=⟨l.toArray⟩
theorem jnx_ (l:List Nat):(S l).cps.toList=l:=rfl
theorem j1_ (l:List Nat):(S l).length=l.length:=by show l.toArray.size=_;simp
theorem jas_ (a b:List Nat):S a++S b=S (a++b):=by
 show (⟨a.toArray++b.toArray⟩:Str)=⟨(a++b).toArray⟩
 rw[List.append_toArray]
theorem jgx_ {a b:List Nat} (h:S a=S b):a=b:=by
 have:=congrArg (fun z:Str=>z.cps.toList) h
 exact this
def sx (n d:Nat):Option Int->Nat
 | none=>d
 | some v=>if v < 0 then (v+(n:Int)).toNat else min v.toNat n
def cutA {α:Type} (l:List α) (lo hi:Option Int):List α:=(l.drop (sx l.length 0 lo)).take (sx l.length l.length hi - sx l.length 0 lo)
theorem jow_ (n d:Nat) (hd:d<=n) (o:Option Int):sx n d o<=n:=by
 cases o with
 | none=>exact hd
 | some v=>simp only[sx];split <;> omega
theorem jrw_ (lo hi:Option Int) (n:Nat):strSliceIndices lo hi 1 n=(p3_ (sx n n hi - sx n 0 lo)).map (sx n 0 lo+·):=by
 have key:∀(a c:Nat),sliceRange (a:Int) (c:Int) 1=(p3_ (c - a)).map (a+·):=fun a c=>by
  unfold sliceRange
  have e:(if (1:Int) > 0 then (if (a:Int) < (c:Int) then ((c:Int) - a+1 - 1) / 1 else 0) else (if (a:Int) > (c:Int) then ((a:Int) - c - 1 - 1) / (-1) else 0)).toNat=c - a:=by
   rw[if_pos (by decide)]
   split
   ·rw[Int.ediv_one];omega
   ·omega
  simp only[e]
  apply qo_
  intro k _
  omega
 have cl:∀ v:Int,max 0 (min (if v < 0 then v+(n:Int) else v) (n:Int))=(((if v < 0 then (v+(n:Int)).toNat else min v.toNat n):Nat):Int):=fun v=>by
  by_cases hv:v < 0
  ·simp only[if_pos hv];omega
  ·simp only[if_neg hv];omega
 unfold strSliceIndices
 have h1:((1:Int) > 0)=True:=by simp
 cases lo with
 | none =>
  cases hi with
  | none=>simp only[h1,if_true];exact key 0 n
  | some v=>simp only[h1,if_true,cl];exact key 0 _
 | some u =>
  cases hi with
  | none=>simp only[h1,if_true,cl];exact key _ n
  | some v=>simp only[h1,if_true,cl];exact key _ _
theorem jsl_ (l:List Nat):∀(m a:Nat),a+m<=l.length->((p3_ m).map (a+·)).filterMap (l.toArray[·]?)=(l.drop a).take m
 | 0,a,_=>by simp
 | m+1,a,h=>by
  have ha:a < l.length:=by omega
  rw[List.range_succ_eq_map,pf_,qj_,qc_]
  have e:((a+·)∘Nat.succ)=((a+1)+·):=by funext k;simp;omega
  have:=jsl_ l m (a+1) (by omega)
  rw[e,this,sa_ ha,List.take_succ_cons]
  simp[ha]
theorem jmn_ (l:List Nat) (lo hi:Option Int) :
  (if ((1:Int) == 1&&(strSliceIndices lo hi 1 (S l).length).length == (S l).length)=true then S l else ⟨((strSliceIndices lo hi 1 (S l).length).filterMap ((S l).cps[·]?)).toArray⟩:Str)=S (cutA l lo hi):=by
 have h1:=jow_ l.length l.length (pg_ _) hi
 have h2:=jow_ l.length 0 (ri_ _) lo
 rw[j1_,jrw_]
 unfold cutA
 generalize sx l.length l.length hi=c at *
 generalize sx l.length 0 lo=a at *
 split
 ·rename_i hc
  simp only[pb_,q0_,beq_self_eq_true,Bool.true_and,beq_iff_eq] at hc
  by_cases h0:l.length=0
  ·have:l=[]:=w2_.mp h0
   subst this;simp
  ·have ha:a=0:=by omega
   have hc':c=l.length:=by omega
   subst ha hc'
   simp
 ·by_cases hac:a<=c
  ·show S _=S _
   congr 1
   exact jsl_ l _ a (by omega)
  ·have:c - a=0:=by omega
   rw[this]
   simp[S]
theorem jgo_ (s sub:Str) (hi:Nat):∀(l:List Nat) (arr:Array Nat) (f:Nat),1<=arr.size->(forIn l (arr,f) (tj_ s sub hi 1)).run.fst=arr
 | [],_,_,_=>rfl
 | a::l,arr,f,h=>by
  rw[rd_]
  unfold tj_
  have c:¬ ((((arr,f).fst.size < 1/\(arr,f).snd<=a)/\a+sub.length<=hi)/\subAt s sub a=true):=fun q=>by
   have t:arr.size < 1:=q.1.1.1
   omega
  rw[if_neg c]
  exact jgo_ s sub hi l arr f h
theorem jca_ (s sub:Str) (hi:Nat):∀(l:List Nat) (f:Nat),(∀ i∈l,f<=i) ->
  (forIn l ((#[]:Array Nat),f) (tj_ s sub hi 1)).run.fst.toList=(l.find? fun i=>decide (i+sub.length<=hi)&&subAt s sub i).toList
 | [],_,_=>rfl
 | a::l,f,hf=>by
  rw[rd_]
  unfold tj_
  have ha:f<=a:=hf a po_
  by_cases hc:a+sub.length<=hi/\subAt s sub a=true
  ·have c1:((((#[]:Array Nat),f).fst.size < 1/\((#[]:Array Nat),f).snd<=a)/\a+sub.length<=hi)/\subAt s sub a=true:=⟨⟨⟨by simp,ha⟩,hc.1⟩,hc.2⟩
   rw[if_pos c1]
   have e:=jgo_ s sub hi l (#[].push a) (a+sub.length) (by simp)
   have e2:(decide (a+sub.length<=hi)&&subAt s sub a)=true:=by simp[hc.1,hc.2]
   rw[qk_,e2]
   show ((forIn l ((#[]:Array Nat).push a,a+sub.length) (tj_ s sub hi 1)).run.fst).toList=_
   rw[e]
   simp
  ·have c2:¬ (((((#[]:Array Nat),f).fst.size < 1/\((#[]:Array Nat),f).snd<=a)/\a+sub.length<=hi)/\subAt s sub a=true):=fun q=>hc ⟨q.1.2,q.2⟩
   rw[if_neg c2]
   have e2:(decide (a+sub.length<=hi)&&subAt s sub a)=false:=by
    rw[Bool.eq_false_iff]
    intro q
    simp only[qr_,decide_eq_true_eq] at q
    exact hc q
   rw[qk_,e2]
   exact jca_ s sub hi l f fun i hi'=>hf i (pn_ _ hi')
def fits (p l:List Nat) (i:Nat):Bool:=decide (i+p.length<=l.length)&&((l.drop i).take p.length == p)
theorem jkf_ (l p:List Nat) (i:Nat):subAt (S l) (S p) i=((l.drop i).take p.length == p):=by
 rw[StrLaws.subAt_eq,j1_];rfl
theorem jws_ (l p:List Nat) (k:Nat):occurrences (S l) (S p) k (S l).length 1=((List.range' k (l.length+1 - k)).find? (fits p l)).toList:=by
 rw[StrLaws.occ_eq,j1_,jca_ _ _ _ _ k (fun i hi=>by have:=List.mem_range'.mp hi;omega)]
 have e:(fun i=>decide (i+(S p).length<=l.length)&&subAt (S l) (S p) i)=fits p l:=by
  funext i
  rw[jkf_,j1_];rfl
 rw[e]
def jpe_ (p l:List Nat) (k:Nat):Int:=match (List.range' k (l.length+1 - k)).find? (fits p l) with
 | some i=>(i:Int)
 | none=>-1
theorem jqa_ (l p:List Nat) (k:Nat):(match occurrences (S l) (S p) k (S l).length 1 with | i::_=>(i:Int) | []=>-1)=jpe_ p l k:=by
 rw[jws_]
 unfold jpe_
 cases (List.range' k (l.length+1 - k)).find? (fits p l) <;> rfl
theorem jsj_ (sep:List Nat):∀ ls:List (List Nat),Str.join (S sep) (ls.map S)=S (jbx_ sep ls)
 | []=>rfl
 | [x]=>rfl
 | x::y::r=>by
  have ih:=jsj_ sep (y::r)
  show S x++S sep++Str.join (S sep) ((y::r).map S)=_
  rw[ih,jas_,jas_]
  rfl
end L2
namespace L2
open PySem PySem.Spec PyProof.Rows
def LET:Str:=S [97,98,99,100,101,102,103,104,105,106,107,108,109,110,111,112,113,114,115,116,117,118,119,120,121,122]
theorem juf_:qz_ "abcdefghijklmnopqrstuvwxyz"=LET:=by decide +kernel
def FeedAt (H:Hp) (p:Addr) (n:Nat):Prop:=∃ a b c:Int,H p=some (.lst [.int a,.int b,.int c])/\0<=a/\0<=b/\b < 2147483399/\0<=c/\c<=n
theorem FeedAt.mono {H:Hp} {p:Addr} {n m:Nat} (h:FeedAt H p n) (e:n<=m):FeedAt H p m:=by
 obtain⟨a,b,c,h1,h2,h3,h4,h5,h6⟩:=h
 exact⟨a,b,c,h1,h2,h3,h4,h5,by omega⟩
theorem FeedAt.new {H:Hp} {p q:Addr} {n:Nat} {o:HO} (h:FeedAt H p n) (hq:H q=none):FeedAt (upd H q o) p n:=by
 obtain⟨a,b,c,h1,r⟩:=h
 exact⟨a,b,c,by rw[je_ (jf_ h1 hq)];exact h1,r⟩
theorem FeedAt.some {H:Hp} {p:Addr} {n:Nat} (h:FeedAt H p n):∃ o,H p=some o:=by
 obtain⟨a,b,c,h1,r⟩:=h
 exact⟨_,h1⟩
def y6_:Nat:=1000000
def jhy_ (K:pd_):Sp:=fun vs H Q _=>∃(a:Addr) (ns:List Int) (k:Int),vs=[.ref a,.int k]/\SqL K H a (ns.map V.int)/\0<=k/\k < 1000 /\
 ∀(p:Addr) (H':Hp),H p=none->FeedAt H' p 0->Off p H H'->Q (.ref p) H'
def xe_:Sp:=fun vs H Q _=>∃(p:Addr) (m:Int) (n:Nat),vs=[.ref p,.int m]/\FeedAt H p n/\n < y6_/\0 < m/\m < 1073741824 /\
 ∀(d:Int) (H':Hp),0<=d->d < m->FeedAt H' p (n+1)->Off p H H'->Q (.int d) H'
def ud_:Sp:=fun vs H Q _=>∃(p:Addr) (n:Nat),vs=[.ref p]/\FeedAt H p n/\n+3 < y6_ /\
 ∀(l:List Nat) (H':Hp),Low l->2<=l.length->l.length<=26->FeedAt H' p (n+3)->Off p H H'->Q (.str (S l)) H'
def jej_:Sp:=fun vs H Q _=>∃(p:Addr) (n:Nat) (l:List Nat) (m:Nat),vs=[.ref p,.str (S l),.int m]/\FeedAt H p n/\n+30 < y6_/\Low l/\1<=l.length/\l.length<=26/\1<=m/\m<=25 /\
 ∀(w:List Nat) (H':Hp),Low w->1<=w.length->w.length<=m->FeedAt H' p (n+30)->Kept p H H'->Q (.str (S w)) H'
def vf_ (n:Nat):Sp:=fun vs H Q _=>∃(u v:V) (d:Dt),vs=[u,v]/\Is H u d/\Is H v d/\dep d < n/\wid d<=100000/\∀ H',Same H H'->Q (.bl true) H'
end L2
namespace L2
open PySem PySem.Spec PyProof.Rows
mutual
def cstE:Expr->Option Dt
 | .Constant (.int i) _ _=>some (.int i)
 | .Constant (.str x) _ _=>some (.str x)
 | .Constant (.bool b) _ _=>some (.bl b)
 | .Tuple es _ _=>(cstL es).map .tup
 | .List es _=>(cstL es).map .lst
 | _=>none
def cstL:List Expr->Option (List Dt)
 | []=>some []
 | e::es=>match cstE e,cstL es with
  | some d,some ds=>if ds.length < 1000 then some (d::ds) else none
  | _,_=>none
end
def jte_ (d:Dt):TE:=fun _ H Q=>∀ v H',Is H' v d->Same H H'->Q v H'
def jvq_ (ds:List Dt):TA:=fun _ H Q=>∀ vs H',IsL H' vs ds->Same H H'->Q vs H'
theorem PA.imp {X:Cx} {es:List Expr} {t t':TA} (h:PA X es t) (hi:∀ σ H Q,t' σ H Q->t σ H Q):PA X es t':=fun pos pins s σ H Q I q=>h pos pins s σ H Q I (hi σ H Q q)
theorem jkx_:∀{es:List Expr} {ds:List Dt},cstL es=some ds->ds.length<=1000
 | [],ds,h=>by simp only[cstL] at h;cases h;exact ri_ _
 | e::es,ds,h=>by
  simp only[cstL] at h
  split at h
  ·split at h
   ·rename_i hl;cases h;simp only[pz_];omega
   ·cases h
  ·cases h
theorem jny_ {X:Cx} {e:Expr} {es:List Expr} {d:Dt} (h:cstE e=some d):starEach (e::es) X.env=(false,eval e X.env)::starEach es X.env:=by
 cases e <;> first | rfl | (simp only[cstE] at h;cases h)
mutual
theorem jod_ {X:Cx}:∀{e:Expr} (d:Dt),cstE e=some d->PE X e (jte_ d)
 | .Constant c k p,d,h=>by
  cases c with
  | int i=>simp only[cstE] at h;cases h;exact pe_int.imp fun σ H Q q=>q _ _ (by simp only[Is]) (Same.refl H)
  | str x=>simp only[cstE] at h;cases h;exact pe_str.imp fun σ H Q q=>q _ _ (by simp only[Is]) (Same.refl H)
  | bool b=>simp only[cstE] at h;cases h;exact pe_bl.imp fun σ H Q q=>q _ _ (by simp only[Is]) (Same.refl H)
  | _=>simp only[cstE] at h;cases h
 | .Tuple es x1 p,d,h=>by
  simp only[cstE] at h
  cases e:cstL es with
  | none=>rw[e] at h;cases h
  | some ds =>
   rw[e] at h
   cases h
   refine(zy_ (jis_ ds e)).imp fun σ H Q q vs H' hv hs=>⟨szn (by rw[IsL.length hv];have:=jkx_ e;omega),fun p hp=>q _ _ ?_ (hs.trans (jd_ hp _))⟩
   simp only[Is]
   exact⟨p,vs,rfl,jb_,IsL.same (jd_ hp _) hv⟩
 | .List es p,d,h=>by
  simp only[cstE] at h
  cases e:cstL es with
  | none=>rw[e] at h;cases h
  | some ds =>
   rw[e] at h
   cases h
   refine(zl_ (jis_ ds e)).imp fun σ H Q q vs H' hv hs=>⟨szn (by rw[IsL.length hv];have:=jkx_ e;omega),fun p hp=>q _ _ ?_ (hs.trans (jd_ hp _))⟩
   simp only[Is]
   exact⟨p,vs,rfl,jb_,IsL.same (jd_ hp _) hv⟩
 | .Name _ _,d,h=>by simp only[cstE] at h;cases h
 | .BinOp _ _ _ _,d,h=>by simp only[cstE] at h;cases h
 | .Call _ _ _ _,d,h=>by simp only[cstE] at h;cases h
theorem jis_ {X:Cx}:∀{es:List Expr} (ds:List Dt),cstL es=some ds->PA X es (jvq_ ds)
 | [],ds,h=>by
  simp only[cstL] at h
  cases h
  exact pa_nil.imp fun σ H Q q=>q [] H (by simp only[IsL]) (Same.refl H)
 | e::es,ds,h=>by
  simp only[cstL] at h
  split at h
  ·rename_i d ds' h1 h2
   split at h
   ·cases h
    refine(ja_ (jod_ d h1) (jis_ ds' h2) (jny_ h1)).imp fun σ H Q q v H1 hv s1 vs H2 hvs s2=>q (v::vs) H2 ?_ (s1.trans s2)
    simp only[IsL]
    exact⟨Is.same s2 hv,hvs⟩
   ·cases h
  ·cases h
end
theorem jud_ {σ:St} {H:Hp} {Q:VK} {d:Dt} (h:∀ v H',Is H' v d->Same H H'->Q v H'):jte_ d σ H Q:=h
end L2
namespace L2
open PySem PySem.Spec PyProof.Rows
theorem jjf_ (l:List Nat) (lo hi:Option Int):k5_ (S l) lo hi=S (cutA l lo hi):=jmn_ l lo hi
theorem jxm_ (l p:List Nat) (k:Nat):Txt.find3 (S l) (S p) (k:Int)=jpe_ p l k:=by
 have e:fromIndex (S l).length (k:Int)=k:=by
  unfold fromIndex
  rw[if_neg (by omega)];omega
 show (match Builtin.Str.occurrences (S l) (S p) (fromIndex (S l).length (k:Int)) (S l).length 1 with | k::_=>(k:Int) | []=>-1)=_
 rw[e];exact jqa_ l p k
theorem jmg_ (l p:List Nat) (k:Nat):kj_ (S l) (S p) (k:Int)=fits p l k:=by
 have e:fromIndex (S l).length (k:Int)=k:=by
  unfold fromIndex
  rw[if_neg (by omega)];omega
 unfold kj_
 rw[e,jkf_,j1_,j1_];rfl
theorem jto_ (sep:List Nat) (ls:List (List Nat)):lj_ (S sep) (ls.map S)=S (jbx_ sep ls):=by
 show Builtin.Str.glued (S sep) (ls.map S)=_
 rw[StrLaws.glued_eq_join,jsj_]
theorem jwx_ (l:List Nat):chs (S l)=l.map fun c=>V.str (S [c]):=rfl
theorem jqs_ {l:List Nat} {i:Nat} (h:i < l.length):(chs (S l)).getD i .non=V.str (S [l[i]]):=by
 rw[jwx_];simp[pe_,h]
theorem jcb_ {α:Type} (l:List α) (i j:Nat) (h:j<=l.length) (hij:i<=j):cutA l (some (i:Int)) (some (j:Int))=(l.drop i).take (j - i):=by
 unfold cutA
 have e1:sx l.length 0 (some (i:Int))=i:=by simp only[sx];rw[if_neg (by omega)];omega
 have e2:sx l.length l.length (some (j:Int))=j:=by simp only[sx];rw[if_neg (by omega)];omega
 rw[e1,e2]
theorem jbc_ {α:Type} (l:List α) (i:Nat) (h:i<=l.length):cutA l (some (i:Int)) none=l.drop i:=by
 unfold cutA
 have e1:sx l.length 0 (some (i:Int))=i:=by simp only[sx];rw[if_neg (by omega)];omega
 rw[e1]
 show (l.drop i).take (l.length - i)=_
 rw[q1_ (by simp)]
theorem uw_ (xs:List V) (lo hi:Option Int):cutV xs lo hi=cutA xs lo hi:=rfl
theorem jrs_ {l:List Nat} (h:Low l) (lo hi:Option Int):Low (cutA l lo hi):=fun c hc=>h c (ql_ (p8_ hc))
theorem jiq_ {a b:List Nat} (ha:Low a) (hb:Low b):Low (a++b):=fun c hc=>(pq_.mp hc).elim (ha c) (hb c)
theorem x9_ {α:Type} (l:List α) (lo hi:Option Int):(cutA l lo hi).length=sx l.length l.length hi - sx l.length 0 lo:=by
 have h1:=jow_ l.length l.length (pg_ _) hi
 unfold cutA
 rw[pr_,qb_]
 omega
def LETL:List Nat:=[97,98,99,100,101,102,103,104,105,106,107,108,109,110,111,112,113,114,115,116,117,118,119,120,121,122]
theorem jfs_:Low LETL:=by unfold Low;decide
theorem jwl_:qz_ "abcdefghijklmnopqrstuvwxyz"=S LETL:=juf_
theorem u0_:qz_ ""=S []:=by decide +kernel
theorem jky_:qz_ "."=S [46]:=by decide +kernel
theorem jie_ (ws:List Nat):lj_ (S []) (ws.map fun c=>S [c])=S ws:=by
 have e:(ws.map fun c=>S [c])=(ws.map fun c=>[c]).map S:=by rw[qc_];rfl
 rw[e,jto_,jcs_]
 congr 1
 clear e
 induction ws with
 | nil=>rfl
 | cons c ws ih=>simp only[pf_,qm_];rw[ih];rfl
theorem jrm_ (ws:List Nat):((ws.map fun c=>S [c]).map (·.length)).sum=ws.length:=by
 induction ws with
 | nil=>rfl
 | cons c ws ih=>simp only[pf_,k7_,pz_,j1_,rj_];rw[qc_] at ih ⊢;omega
theorem jrd_ (ws:List Nat):(ws.map fun c=>V.str (S [c]))=(ws.map fun c=>S [c]).map V.str:=by rw[qc_];rfl
theorem FeedAt.same {H H':Hp} {p:Addr} {n:Nat} (h:FeedAt H p n) (k:∀ b o,H b=Option.some o->H' b=Option.some o):FeedAt H' p n:=by
 obtain⟨a,b,c,h1,r⟩:=h
 exact⟨a,b,c,k _ _ h1,r⟩
theorem Kept.same {p:Addr} {H H1 H2:Hp} (a:Kept p H H1) (b:∀ c o,H1 c=some o->H2 c=some o):Kept p H H2:=fun c o hc e=>b c o (a c o hc e)
theorem Kept.off {p:Addr} {H H1 H2:Hp} (a:Kept p H H1) (b:Off p H1 H2):Kept p H H2:=fun c o hc e=>(b c hc).trans (a c o hc e)
theorem jxg_ {K:pd_} {H:Hp} {Q:VK} {l:List Nat} {i:Int} {c:Nat} (hz:l.length<=1000000) (h2:atI l i=some c) (h:Q (.str (S [c])) H):fIx K (.str (S l)) (.int i) H Q:=jsg_ (szn (by rw[j1_];exact hz)) h2 h
theorem jtx_ {H:Hp} {Q:VK} {a b:List Nat} (hz:a.length+b.length<=1000000) (h:Q (.str (S (a++b))) H):fAdd (.str (S a)) (.str (S b)) H Q:=joy_ (szn (by rw[j1_,j1_];exact hz)) (by rw[jas_];exact h)
theorem jxh_ {K:pd_} {H:Hp} {Q:VK} {l:List Nat} {lo hi:Option Int} (hz:l.length<=1000000) (h:Q (.str (S (cutA l lo hi))) H):fSl K (.str (S l)) lo hi H Q:=jtc_ (szn (by rw[j1_];exact hz)) (by rw[jjf_];exact h)
theorem juj_ {K:pd_} {H:Hp} {Q:VK} {l:List Nat} (hz:l.length<=1000000) (h:Q (.int (l.length:Int)) H):fLen K [.str (S l)] H Q:=jnt_ (szn (by rw[j1_];exact hz)) (by rw[j1_];exact h)
theorem jut_ {H:Hp} {Q:VK} {a:Addr} {x:V} {k:Int} (h1:H a=some (.lst [x])) (c:0<=k/\k<=1000000) (h:∀ p,H p=none->Q (.ref p) (upd H p (.lst (pv_ k.toNat x)))):fMul (.ref a) (.int k) H Q:=by
 refine jua_ h1 ⟨by omega,by omega,by simp;omega⟩ fun p hp=>?_
 have e:(pv_ k.toNat [x]).flatten=pv_ k.toNat x:=by
  generalize k.toNat=m
  induction m with
  | zero=>rfl
  | succ m ih=>rw[rz_,qm_,ih];rfl
 rw[e];exact h p hp
theorem jom_ {α β:Type} (g:α->β) (l:List α) (lo hi:Option Int):cutA (l.map g) lo hi=(cutA l lo hi).map g:=by
 unfold cutA
 rw[pb_,List.map_take,List.map_drop]
def patD (x:List Nat×List Int):Dt:=.tup [.str (S x.1),.tup (x.2.map Dt.int)]
def zv_ (xs:List (List Nat×List Int)):Dt:=.lst (xs.map patD)
structure GP (x:List Nat×List Int):Prop where
 ne:1<=x.1.length
 le:x.1.length<=22
 len:x.2.length=x.1.length+1
 num:∀ v∈x.2,0<=v/\v<=9
 cs:∀ c∈x.1,c < 128
theorem uf_ {H:Hp}:∀{g:List Int} {xs:List V},L2.IsL H xs (g.map Dt.int)->xs=g.map V.int
 | [],[],_=>rfl
 | [],_::_,h=>by simp only[p2_,L2.IsL] at h
 | _::_,[],h=>by simp only[pf_,L2.IsL] at h
 | k::g,x::xs,h=>by
  simp only[pf_,L2.IsL,Is] at h
  rw[h.1,uf_ h.2];rfl
theorem vi_ {H:Hp} {v:V} {x:List Nat×List Int} (h:Is H v (patD x)):∃ a t,v=.ref a/\H a=some (.tup [.str (S x.1),.ref t])/\H t=some (.tup (x.2.map V.int)):=by
 simp only[Is,patD] at h
 obtain⟨a,xs,rfl,ha,hxs⟩:=h
 match xs,hxs with
 | [],h=>simp only[L2.IsL] at h
 | [_],h=>simp only[L2.IsL] at h;exact h.2.elim
 | _::_::_::_,h=>simp only[L2.IsL] at h;exact h.2.2.elim
 | [y,z],h =>
  simp only[L2.IsL,Is] at h
  obtain⟨rfl,⟨t,ys,rfl,ht,hys⟩,_⟩:=h
  have:=uf_ hys
  subst this
  exact⟨a,t,rfl,ha,ht⟩
theorem zu_ {H:Hp} {a t:Addr} {x:List Nat×List Int} (h1:H a=some (.tup [.str (S x.1),.ref t])) (h2:H t=some (.tup (x.2.map V.int))):Is H (.ref a) (patD x):=by
 simp only[Is,patD,L2.IsL]
 exact⟨a,_,rfl,h1,rfl,⟨t,_,rfl,h2,IsL.ints _ _⟩,trivial⟩
theorem jdm_ {H:Hp} {v:V} {xs:List (List Nat×List Int)} (h:Is H v (zv_ xs)):∃ a ys,v=.ref a/\H a=some (.lst ys)/\L2.IsL H ys (xs.map patD):=by
 simp only[Is,zv_] at h
 exact h
theorem IsL.append {H:Hp}:∀{ds es:List Dt} {xs ys:List V},L2.IsL H xs ds->L2.IsL H ys es->L2.IsL H (xs++ys) (ds++es)
 | [],_,[],_,_,h=>h
 | d::ds,es,x::xs,ys,h,k=>by
  simp only[L2.IsL] at h
  simp only[w7_,L2.IsL]
  exact⟨h.1,IsL.append h.2 k⟩
 | [],_,_::_,_,h,_=>by simp only[L2.IsL] at h
 | _::_,_,[],_,h,_=>by simp only[L2.IsL] at h
theorem head_dot {s:List Nat}:(cutA s none (some 1)=[46])↔s.head?=some 46:=by
 cases s with
 | nil=>simp[cutA,sx]
 | cons c s =>
  have e:cutA (c::s) none (some 1)=[c]:=by
   unfold cutA
   have e2:sx (c::s).length (c::s).length (some 1)=1:=by simp only[sx];rw[if_neg (by decide)];simp
   rw[e2];rfl
  rw[e];simp
theorem last_dot {s:List Nat}:(cutA s (some (-1)) none=[46])↔s.getLast?=some 46:=by
 cases h:s.getLast? with
 | none =>
  have:s=[]:=by simpa using h
  subst this
  simp[cutA,sx]
 | some c =>
  obtain⟨r,rfl⟩:=List.getLast?_eq_some_iff.mp h
  have e:cutA (r++[c]) (some (-1)) none=[c]:=by
   unfold cutA
   have e1:sx (r++[c]).length 0 (some (-1))=r.length:=by simp only[sx];rw[if_pos (by decide)];simp;omega
   have e2:sx (r++[c]).length (r++[c]).length none=r.length+1:=by simp[sx]
   rw[e1,e2];simp
  rw[e];simp
end L2
namespace L2
abbrev Pat:=List Nat×List Int
def mx (a b:Int):Int:=if b > a then b else a
theorem mx_le {a b c:Int}:mx a b<=c↔a<=c/\b<=c:=by unfold mx;split <;> omega
def put (t:List Int) (p:Nat) (v:Int):List Int:=t.set p (mx (t.getD p 0) v)
theorem jag_ (t:List Int) (p:Nat) (v:Int):(put t p v).length=t.length:=by unfold put;simp
theorem jqe_ (t:List Int) (p q:Nat) (v:Int) (hq:q < t.length):(put t p v).getD q 0=if p=q then mx (t.getD q 0) v else t.getD q 0:=by
 unfold put
 simp only[pe_,List.getElem?_set]
 by_cases h:p=q
 ·subst h;simp[hq]
 ·simp[h]
def laid (t:List Int) (b:Nat):List Int->List Int
 | []=>t
 | v::r=>laid (put t b v) (b+1) r
theorem jct_ (b:Nat) (v:Int):∀(r:List Int) (t:List Int) (c:Nat),laid t c (r++[v])=put (laid t c r) (c+r.length) v
 | [],t,c=>by simp[laid]
 | x::r,t,c=>by
  simp only[w7_,laid,pz_]
  rw[jct_ b v r]
  congr 1;omega
theorem z6_:∀(ns:List Int) (t:List Int) (b:Nat),(laid t b ns).length=t.length
 | [],_,_=>rfl
 | v::r,t,b=>by simp only[laid];rw[z6_ r,jag_]
def uh_ (m:Int) (p b:Nat):List Int->Int
 | []=>m
 | v::r=>uh_ (if b=p then mx m v else m) p (b+1) r
theorem jaj_:∀(ns:List Int) (t:List Int) (b q:Nat),q < t.length->(laid t b ns).getD q 0=uh_ (t.getD q 0) q b ns
 | [],_,_,_,_=>rfl
 | v::r,t,b,q,h=>by
  simp only[laid,uh_]
  rw[jaj_ r _ _ q (by rw[jag_];exact h),jqe_ t b q v h]
def j2_ (p f:List Nat):List Nat:=(p3_ f.length).filter (fits p f)
def vd_ (f:List Nat) (t:List Int) (x:Pat):List Int:=(j2_ x.1 f).foldl (fun t b=>laid t b x.2) t
def jdg_ (f:List Nat) (t:List Int) (xs:List Pat):List Int:=xs.foldl (vd_ f) t
def numP (f:List Nat) (p:Nat) (m:Int) (x:Pat):Int:=(j2_ x.1 f).foldl (fun m b=>uh_ m p b x.2) m
def numA (f:List Nat) (p:Nat) (m:Int) (xs:List Pat):Int:=xs.foldl (numP f p) m
theorem jbj_ (ns:List Int):∀(bs:List Nat) (t:List Int),(bs.foldl (fun t b=>laid t b ns) t).length=t.length/\∀ q,q < t.length->(bs.foldl (fun t b=>laid t b ns) t).getD q 0=bs.foldl (fun m b=>uh_ m q b ns) (t.getD q 0)
 | [],t=>⟨rfl,fun _ _=>rfl⟩
 | b::bs,t=>by
  obtain⟨h1,h2⟩:=jbj_ ns bs (laid t b ns)
  rw[z6_] at h1 h2
  refine⟨by simpa using h1,fun q hq=>?_⟩
  simp only[sf_]
  rw[h2 q hq,jaj_ ns t b q hq]
theorem v4_ (f:List Nat):∀(xs:List Pat) (t:List Int),(jdg_ f t xs).length=t.length/\∀ q,q < t.length->(jdg_ f t xs).getD q 0=numA f q (t.getD q 0) xs
 | [],t=>⟨rfl,fun _ _=>rfl⟩
 | x::xs,t=>by
  obtain⟨h1,h2⟩:=jbj_ x.2 (j2_ x.1 f) t
  obtain⟨h3,h4⟩:=v4_ f xs (vd_ f t x)
  have e:(vd_ f t x).length=t.length:=h1
  rw[e] at h3 h4
  refine⟨h3,fun q hq=>?_⟩
  show (jdg_ f (vd_ f t x) xs).getD q 0=_
  rw[h4 q hq]
  show numA f q ((vd_ f t x).getD q 0) xs=numA f q (numP f q (t.getD q 0) x) xs
  rw[show (vd_ f t x).getD q 0=numP f q (t.getD q 0) x from h2 q hq]
def frame (w:List Nat):List Nat:=46::(w++[46])
theorem za_ (w:List Nat):(frame w).length=w.length+2:=by simp[frame]
def vals (xs:List Pat) (w:List Nat):List Int:=(p3_ (w.length - 1)).map fun j=>numA (frame w) (j+2) 0 xs
theorem up_ (xs:List Pat) (w:List Nat):(vals xs w).length=w.length - 1:=by simp[vals]
theorem jmz_ (xs:List Pat) (w:List Nat) (j:Nat) (h:j < w.length - 1):(vals xs w)[j]?=some (numA (frame w) (j+2) 0 xs):=by
 simp[vals,h]
theorem jeo_ (n q:Nat):(pv_ n (0:Int)).getD q 0=0:=by
 simp only[pe_,wy_];split <;> rfl
theorem jga_ {a b:List Int} (h:a.length=b.length) (k:∀ q,q < a.length->a.getD q 0=b.getD q 0):a=b:=by
 apply tz_ h
 intro i h1 h2
 have:=k i h1
 simpa [pe_,h1,h2] using this
theorem vq_ (xs:List Pat) (w:List Nat) (h:1<=w.length):cutA (jdg_ (frame w) (pv_ ((frame w).length+1) 0) xs) (some 2) (some (-2))=vals xs w:=by
 obtain⟨h1,h2⟩:=v4_ (frame w) xs (pv_ ((frame w).length+1) 0)
 rw[rg_] at h1 h2
 unfold cutA
 rw[h1]
 rw[za_] at h1 h2 ⊢
 have e1:sx (w.length+2+1) 0 (some 2)=2:=by simp only[sx];rw[if_neg (by decide)];show min 2 (w.length+2+1)=2;omega
 have e2:sx (w.length+2+1) (w.length+2+1) (some (-2))=w.length+1:=by simp only[sx];rw[if_pos (by decide)];omega
 rw[e1,e2]
 apply jga_
 ·rw[up_,pr_,qb_,h1];omega
 ·intro q hq
  rw[pr_,qb_,h1] at hq
  have hq':q < w.length - 1:=by omega
  have:=h2 (2+q) (by omega)
  rw[jeo_] at this
  have e3:(vals xs w).getD q 0=numA (frame w) (q+2) 0 xs:=by rw[pe_,jmz_ xs w q hq'];rfl
  rw[e3,lf_ q 2,<- this]
  simp only[pe_,List.getElem?_take,wf_]
  rw[if_pos (by omega)]
theorem jaf_ (p:Nat):∀(ns:List Int) (m:Int) (b:Nat),uh_ m p b ns=if b<=p/\p < b+ns.length then mx m (ns.getD (p - b) 0) else m
 | [],m,b=>by
  simp only[uh_,rj_]
  rw[if_neg (by omega)]
 | v::r,m,b=>by
  simp only[uh_,pz_]
  rw[jaf_ p r]
  by_cases e:b=p
  ·subst e
   rw[if_pos rfl,if_neg (by omega),if_pos (by omega),Nat.sub_self];rfl
  ·rw[if_neg e]
   by_cases h:b+1<=p/\p < b+1+r.length
   ·have:p - b=(p - (b+1))+1:=by omega
    rw[if_pos h,if_pos (by omega),this];rfl
   ·rw[if_neg h,if_neg (by omega)]
def jxb_ (f:List Nat) (p:Nat) (xs:List Pat) (v:Int):Prop:=∃ x∈xs,∃ b∈j2_ x.1 f,b<=p/\p < b+x.2.length/\v=x.2.getD (p - b) 0
theorem jrl_ (f:List Nat) (p:Nat) (x:Pat) (m c:Int):numP f p m x<=c↔m<=c/\∀ b∈j2_ x.1 f,b<=p->p < b+x.2.length->x.2.getD (p - b) 0<=c:=by
 unfold numP
 generalize j2_ x.1 f=bs
 induction bs generalizing m with
 | nil=>simp
 | cons b bs ih =>
  simp only[sf_]
  rw[ih,jaf_]
  constructor
  ·rintro⟨h1,h2⟩
   split at h1
   ·rename_i hc
    have:=mx_le.mp h1
    refine⟨this.1,fun b' hb' k1 k2=>?_⟩
    rcases pt_.mp hb' with rfl | hb'
    ·exact this.2
    ·exact h2 b' hb' k1 k2
   ·rename_i hc
    refine⟨h1,fun b' hb' k1 k2=>?_⟩
    rcases pt_.mp hb' with rfl | hb'
    ·exact absurd ⟨k1,k2⟩ hc
    ·exact h2 b' hb' k1 k2
  ·rintro⟨h1,h2⟩
   refine⟨?_,fun b' hb'=>h2 b' (pn_ _ hb')⟩
   split
   ·rename_i hc
    exact mx_le.mpr ⟨h1,h2 b po_ hc.1 hc.2⟩
   ·exact h1
theorem jje_ (f:List Nat) (p:Nat):∀(xs:List Pat) (m c:Int),numA f p m xs<=c↔m<=c/\∀ v,jxb_ f p xs v->v<=c
 | [],m,c=>by
  show m<=c↔_
  constructor
  ·exact fun h=>⟨h,fun v ⟨x,hx,_⟩=>by cases hx⟩
  ·exact fun h=>h.1
 | x::xs,m,c=>by
  show numA f p (numP f p m x) xs<=c↔_
  rw[jje_ f p xs,jrl_]
  constructor
  ·rintro⟨⟨h1,h2⟩,h3⟩
   refine⟨h1,fun v ⟨y,hy,b,hb,k1,k2,e⟩=>?_⟩
   rcases pt_.mp hy with rfl | hy
   ·rw[e];exact h2 b hb k1 k2
   ·exact h3 v ⟨y,hy,b,hb,k1,k2,e⟩
  ·rintro⟨h1,h2⟩
   exact⟨⟨h1,fun b hb k1 k2=>h2 _ ⟨x,po_,b,hb,k1,k2,rfl⟩⟩,fun v ⟨y,hy,r⟩=>h2 v ⟨y,pn_ _ hy,r⟩⟩
end L2
namespace L2
open PySem PySem.Spec PyProof.Rows
def jei_:V->List V->Hp->VK->Prop:=fun x vs H Q=>match x,vs with
 | .ref l,[.ref b]=>(match H l,H b with | some (.lst xs),some (.lst zs)=>xs.length+zs.length<=sizeLine/\Q .non (upd H l (.lst (xs++zs))) | _,_=>False)
 | _,_=>False
theorem v8_ {X:Cx}:MtR X "list.extend" jei_:=fun pins s σ H x xs v us Q I rx rs h=>by
 unfold jei_ at h
 split at h
 ·split at h
  ·rename_i e e2
   exact jlh_ pins s σ H _ _ v us Q I rx rs ⟨_,_,_,_,rfl,rfl,e,e2,h.1,h.2⟩
  ·exact h.elim
 ·exact h.elim
theorem jij_ {H:Hp} {Q:VK} {l b:Addr} {xs zs:List V} (h1:H l=some (.lst xs)) (h2:H b=some (.lst zs)) (c:xs.length+zs.length<=sizeLine) (h:Q .non (upd H l (.lst (xs++zs)))):jei_ (.ref l) [.ref b] H Q:=by
 show (match H l,H b with | some (.lst xs),some (.lst zs)=>xs.length+zs.length<=sizeLine/\Q .non (upd H l (.lst (xs++zs))) | _,_=>False)
 rw[h1,h2];exact⟨c,h⟩
mutual
def z7_:Dt->Bool
 | .lst _=>false
 | .tup ds=>jw_ ds
 | _=>true
def jw_:List Dt->Bool
 | []=>true
 | d::ds=>z7_ d&&jw_ ds
end
def Tk (H H':Hp):Prop:=∀ b xs,H b=some (.tup xs)->H' b=some (.tup xs)
theorem Tk.trans {H H1 H2:Hp} (a:Tk H H1) (b:Tk H1 H2):Tk H H2:=fun c o h=>b c o (a c o h)
theorem Same.tk {H H':Hp} (h:Same H H'):Tk H H':=fun b xs e=>h b _ e
theorem Tk.new {H:Hp} {p:Addr} (h:H p=none) (o:HO):Tk H (upd H p o):=(jd_ h o).tk
theorem Tk.lst {H:Hp} {p:Addr} {zs:List V} (h:H p=some (.lst zs)) (o:HO):Tk H (upd H p o):=fun b xs e=>by
 rw[je_ (jcu_ e h (by intro z;cases z))];exact e
mutual
theorem Is.tk {H H':Hp} (h:Tk H H'):∀{d:Dt} {v:V},z7_ d=true->Is H v d->Is H' v d
 | .non,_,_,k=>by simp only[Is] at k ⊢;exact k
 | .bl _,_,_,k=>by simp only[Is] at k ⊢;exact k
 | .int _,_,_,k=>by simp only[Is] at k ⊢;exact k
 | .str _,_,_,k=>by simp only[Is] at k ⊢;exact k
 | .tup ds,_,t,k=>by
  simp only[z7_] at t
  simp only[Is] at k ⊢
  obtain⟨a,xs,e,h1,h2⟩:=k
  exact⟨a,xs,e,h _ _ h1,IsL.tk h t h2⟩
 | .lst ds,_,t,_=>by simp only[z7_] at t;cases t
theorem IsL.tk {H H':Hp} (h:Tk H H'):∀{ds:List Dt} {xs:List V},jw_ ds=true->IsL H xs ds->IsL H' xs ds
 | [],[],_,_=>by simp only[IsL]
 | [],_::_,_,k=>by simp only[IsL] at k
 | _::_,[],_,k=>by simp only[IsL] at k
 | d::ds,x::xs,t,k=>by
  simp only[jw_,qr_] at t
  simp only[IsL] at k ⊢
  exact⟨Is.tk h t.1 k.1,IsL.tk h t.2 k.2⟩
end
theorem v3_:∀{ds:List Dt},(∀ d∈ds,z7_ d=true)->jw_ ds=true
 | [],_=>rfl
 | d::ds,h=>by simp only[jw_,qr_];exact⟨h d po_,v3_ fun e he=>h e (pn_ _ he)⟩
theorem jez_ (ns:List Int):jw_ (ns.map Dt.int)=true:=v3_ fun d hd=>by
 obtain⟨n,_,rfl⟩:=qh_.mp hd;rfl
theorem IsL.snoc {H:Hp} {ds:List Dt} {d:Dt} {xs:List V} {x:V} (h:IsL H xs ds) (k:Is H x d):IsL H (xs++[x]) (ds++[d]) :=
 IsL.append h (by simp only[IsL];exact⟨k,trivial⟩)
abbrev Fit:=Nat×List Int
def fitD (x:Fit):Dt:=.tup [.int (x.1:Int),.tup (x.2.map Dt.int)]
def jfw_ (xs:List Fit):Dt:=.lst (xs.map fitD)
theorem x6_ (xs:List Fit):jw_ (xs.map fitD)=true:=v3_ fun d hd=>by
 obtain⟨n,_,rfl⟩:=qh_.mp hd;simp only[fitD,z7_,jw_,jez_,Bool.and_true]
theorem jwy_ {H:Hp} {v:V} {x:Fit} (h:Is H v (fitD x)):∃ a t,v=.ref a/\H a=some (.tup [.int (x.1:Int),.ref t])/\H t=some (.tup (x.2.map V.int)):=by
 simp only[Is,fitD] at h
 obtain⟨a,xs,rfl,ha,hxs⟩:=h
 match xs,hxs with
 | [],h=>simp only[L2.IsL] at h
 | [_],h=>simp only[L2.IsL] at h;exact h.2.elim
 | _::_::_::_,h=>simp only[L2.IsL] at h;exact h.2.2.elim
 | [y,z],h =>
  simp only[L2.IsL,Is] at h
  obtain⟨rfl,⟨t,ys,rfl,ht,hys⟩,_⟩:=h
  have:=uf_ hys
  subst this
  exact⟨a,t,rfl,ha,ht⟩
theorem joo_ {H:Hp} {a t:Addr} {x:Fit} (h1:H a=some (.tup [.int (x.1:Int),.ref t])) (h2:H t=some (.tup (x.2.map V.int))):Is H (.ref a) (fitD x):=by
 simp only[Is,fitD,L2.IsL]
 exact⟨a,_,rfl,h1,rfl,⟨t,_,rfl,h2,IsL.ints _ _⟩,trivial⟩
theorem juc_ {H:Hp} {v:V} {xs:List Fit} (h:Is H v (jfw_ xs)):∃ a ys,v=.ref a/\H a=some (.lst ys)/\L2.IsL H ys (xs.map fitD):=by
 simp only[Is,jfw_] at h
 exact h
def layF (t:List Int) (xs:List Fit):List Int:=xs.foldl (fun t x=>laid t x.1 x.2) t
theorem yp_:∀(xs:List Fit) (t:List Int),(layF t xs).length=t.length
 | [],_=>rfl
 | x::xs,t=>by show (layF (laid t x.1 x.2) xs).length=_;rw[yp_ xs,z6_]
theorem uj_ (t:List Int) (xs ys:List Fit):layF t (xs++ys)=layF (layF t xs) ys:=s4_
theorem jlf_ {xs:List Fit} {i:Nat} (h:i < xs.length) (t:List Int):layF t (xs.take (i+1))=laid (layF t (xs.take i)) xs[i].1 xs[i].2:=by
 rw[ra_,pc_ h,uj_];rfl
def un_ (f:List Nat) (x:Pat):List Fit:=(j2_ x.1 f).map fun b=>(b,x.2)
def z9_ (f:List Nat) (xs:List Pat):List Fit:=xs.flatMap (un_ f)
theorem jfn_ {f:List Nat} {xs:List Pat} {i:Nat} (h:i < xs.length):z9_ f (xs.take (i+1))=z9_ f (xs.take i)++un_ f xs[i]:=by
 unfold z9_;rw[ra_,pc_ h,List.flatMap_append];simp
theorem jhk_ (f:List Nat) (x:Pat) (t:List Int):layF t (un_ f x)=vd_ f t x:=by
 unfold layF un_ vd_;rw[List.foldl_map]
theorem uk_ (f:List Nat):∀(xs:List Pat) (t:List Int),layF t (z9_ f xs)=jdg_ f t xs
 | [],_=>rfl
 | x::xs,t=>by
  show layF t (un_ f x++z9_ f xs)=jdg_ f (vd_ f t x) xs
  rw[uj_,jhk_,uk_ f xs]
theorem jde_ (p f:List Nat):(j2_ p f).length<=f.length:=by
 unfold j2_;exact qq_ (kk_ _ _) (by simp)
theorem jbi_ (f:List Nat):∀(xs:List Pat),(z9_ f xs).length<=xs.length * f.length
 | []=>by simp[z9_]
 | x::xs=>by
  show (un_ f x++z9_ f xs).length<=_
  have h1:=jbi_ f xs
  have h2:=jde_ x.1 f
  have h3:(un_ f x).length=(j2_ x.1 f).length:=by simp[un_]
  rw[pj_,pz_,Nat.add_mul];omega
theorem jhm_ {f:List Nat} {xs:List Pat} {y:Fit} (h:y∈z9_ f xs):∃ x∈xs,y.1∈j2_ x.1 f/\y.2=x.2:=by
 obtain⟨x,hx,hy⟩:=List.mem_flatMap.mp h
 obtain⟨b,hb,rfl⟩:=qh_.mp hy
 exact⟨x,hx,hb,rfl⟩
end L2
namespace L2
open PySem PySem.Spec PyProof.Rows
section
variable {κ:Type} [DecidableEq κ]
def valV (kvs:List (κ×V)) (k:κ):Option V:=(kvs.find? fun kv=>decide (kv.1=k)).map (·.2)
def putK (kvs:List (κ×V)) (k:κ) (v:V):List (κ×V) :=
 if (kvs.any fun kv=>decide (kv.1=k))=true then kvs.map (fun kv=>if kv.1=k then (kv.1,v) else kv) else kvs++[(k,v)]
theorem vc_ {p:κ×V} {r:List (κ×V)} {k:κ} (e:p.1=k):valV (p::r) k=some p.2:=by simp[valV,qk_,e]
theorem vl_ {p:κ×V} {r:List (κ×V)} {k:κ} (e:¬ p.1=k):valV (p::r) k=valV r k:=by simp[valV,qk_,e]
theorem jbb_ (k:κ):∀ kvs:List (κ×V),(kvs.any fun kv=>decide (kv.1=k))=(valV kvs k).isSome
 | []=>rfl
 | p::r=>by
  rw[s3_]
  by_cases e:p.1=k
  ·simp only[vc_ e,decide_eq_true e,Bool.true_or,Option.isSome_some]
  ·rw[vl_ e,decide_eq_false e,k6_];exact jbb_ k r
theorem z8_ (kvs:List (κ×V)) (k:κ) (v:V):(putK kvs k v).length<=kvs.length+1:=by
 unfold putK
 split
 ·rw[pb_];omega
 ·rw[pj_,pz_,rj_];omega
theorem jpw_ {kvs:List (κ×V)} {k:κ} (v:V) (h:valV kvs k=none):putK kvs k v=kvs++[(k,v)]:=by
 unfold putK
 rw[jbb_,h]
 exact if_neg (by decide)
theorem RelO.isSome_eq {o:Option V} {u:Option Value} (r:RelO o u):o.isSome=u.isSome:=by
 cases o with
 | none=>cases u with
  | none=>rfl
  | some _=>exact(show False from r).elim
 | some _=>cases u with
  | none=>exact(show False from r).elim
  | some _=>rfl
theorem RelO.getD {o:Option V} {u:Option Value} {d:V} {d':Value} (r:RelO o u) (rd:RelV d d'):RelV (o.getD d) (u.getD d'):=by
 cases o with
 | none=>cases u with
  | none=>exact rd
  | some _=>exact(show False from r).elim
 | some _=>cases u with
  | none=>exact(show False from r).elim
  | some _=>exact r
theorem KV.val {kvs:List (κ×V)} {vs:List (κ×Value)} (r:KV kvs vs) (k:κ):RelO (valV kvs k) (valueAt vs k):=by
 unfold KV at r
 induction r with
 | nil=>exact True.intro
 | @cons p q ps qs h t ih =>
  obtain⟨h1,h2⟩:=h
  by_cases e:p.1=k
  ·have e':q.1=k:=h1.symm.trans e
   have b:valueAt (q::qs) k=some q.2:=by simp[valueAt,qk_,e']
   rw[vc_ e,b];exact h2
  ·have e':¬ q.1=k:=fun z=>e (h1.trans z)
   have b:valueAt (q::qs) k=valueAt qs k:=by simp[valueAt,qk_,e']
   rw[vl_ e,b];exact ih
theorem KV.any {kvs:List (κ×V)} {vs:List (κ×Value)} (r:KV kvs vs) (k:κ):(kvs.any fun kv=>decide (kv.1=k))=vs.any fun kv=>decide (kv.1=k):=by
 unfold KV at r
 induction r with
 | nil=>rfl
 | cons h t ih=>rw[s3_,s3_,ih,h.1]
theorem KV.repl {kvs:List (κ×V)} {vs:List (κ×Value)} (r:KV kvs vs) (k:κ) {y:V} {u:Value} (ry:RelV y u) :
  KV (kvs.map fun kv=>if kv.1=k then (kv.1,y) else kv) (vs.map fun kv=>if kv.1=k then (kv.1,u) else kv):=by
 unfold KV at r ⊢
 induction r with
 | nil=>exact .nil
 | @cons p q ps qs h t ih =>
  rw[pf_,pf_]
  refine .cons ?_ ih
  obtain⟨h1,h2⟩:=h
  by_cases e:p.1=k
  ·rw[if_pos e,if_pos (h1.symm.trans e)];exact⟨h1,ry⟩
  ·rw[if_neg e,if_neg (fun z=>e (h1.trans z))];exact⟨h1,h2⟩
theorem KV.put {kvs:List (κ×V)} {vs:List (κ×Value)} (r:KV kvs vs) (k:κ) {y:V} {u:Value} (ry:RelV y u):KV (putK kvs k y) (stored vs k u):=by
 unfold putK stored
 rw[r.any k]
 by_cases e:(vs.any fun kv=>decide (kv.1=k))=true
 ·rw[if_pos e,if_pos e];exact r.repl k ry
 ·rw[if_neg e,if_neg e];exact Paired.snoc r ⟨rfl,ry⟩
theorem KV.length {kvs:List (κ×V)} {vs:List (κ×Value)} (r:KV kvs vs):kvs.length=vs.length:=t4_ r
end
theorem jcx_ {P:Program} {w:World} {k:Key} {u:Value} (r:RelV (kV k) u):(jx_ P w).is k u=true:=by
 cases k with
 | inl i=>obtain⟨t,e⟩:=(show ∃ t,u=Value.int i t from r);subst e;exact jes_ P w i t
 | inr x=>obtain⟨t,e⟩:=(show ∃ t,u=Value.str x t from r);subst e;exact jex_ P w x t
theorem jdb_ {P:Program} {w:World}:∀{ks:List Key} {us:List Value},Vals (ks.map kV) us->ItemsAre (jx_ P w) ks us
 | [],_,r=>by rw[p2_] at r;cases r;exact .nil
 | k::ks,_,r=>by
  rw[pf_] at r
  cases r with
  | cons h t=>exact .cons (jcx_ h) (jdb_ t)
abbrev KT (H:Hp):List (List Key×V)->List (List Key×Addr×Value)->Prop:=Paired fun p q=>p.1=q.1/\H q.2.1=some (.tup (p.1.map kV))/\RelV p.2 q.2.2
theorem KT.val {H:Hp} {kvs:List (List Key×V)} {xs:List (List Key×Addr×Value)} (r:KT H kvs xs) (k:List Key):RelO (valV kvs k) ((atKey xs k).map (·.2)):=by
 induction r with
 | nil=>exact True.intro
 | @cons p q ps qs h t ih =>
  obtain⟨h1,_,h2⟩:=h
  by_cases e:p.1=k
  ·have e':q.1=k:=h1.symm.trans e
   have b:atKey (q::qs) k=some q.2:=by simp[atKey,qk_,e']
   rw[vc_ e,b];exact h2
  ·have e':¬ q.1=k:=fun z=>e (h1.trans z)
   have b:atKey (q::qs) k=atKey qs k:=by simp[atKey,qk_,e']
   rw[vl_ e,b];exact ih
theorem KT.repl {H:Hp} {kvs:List (List Key×V)} {xs:List (List Key×Addr×Value)} (r:KT H kvs xs) (k:List Key) {y:V} {u:Value} (ry:RelV y u) :
  KT H (kvs.map fun kv=>if kv.1=k then (kv.1,y) else kv) (xs.map (putAt k u)):=by
 induction r with
 | nil=>exact .nil
 | @cons p q ps qs h t ih =>
  rw[pf_,pf_]
  refine .cons ?_ ih
  obtain⟨h1,h2,h3⟩:=h
  unfold putAt
  by_cases e:p.1=k
  ·rw[if_pos e,if_pos (h1.symm.trans e)];exact⟨h1,h2,ry⟩
  ·rw[if_neg e,if_neg (fun z=>e (h1.trans z))];exact⟨h1,h2,h3⟩
theorem KT.put {H:Hp} {kvs:List (List Key×V)} {xs:List (List Key×Addr×Value)} (r:KT H kvs xs) (k:List Key) {b:Addr} {y:V} {u:Value} (hb:H b=some (.tup (k.map kV))) (ry:RelV y u) :
  KT H (putK kvs k y) (storedH xs k b u):=by
 have e:(kvs.any fun kv=>decide (kv.1=k))=(atKey xs k).isSome:=by
  rw[jbb_,(r.val k).isSome_eq,Option.isSome_map]
 unfold putK storedH
 rw[e]
 by_cases q:(atKey xs k).isSome=true
 ·rw[if_pos q,if_pos q];exact r.repl k ry
 ·rw[if_neg q,if_neg q];exact Paired.snoc r ⟨rfl,hb,ry⟩
theorem KT.keeps {H H':Hp} {kvs:List (List Key×V)} {xs:List (List Key×Addr×Value)} (r:KT H kvs xs) (ht:∀ b ys,H b=some (.tup ys)->H' b=some (.tup ys)):KT H' kvs xs :=
 Paired.mapP r fun _ _ z=>⟨z.1,ht _ _ z.2.1,z.2.2⟩
section
variable {P:Program} {w:World} {H:Hp} {h:Heap} {a:Addr}
theorem jsr_ {u:HO} (ok:HOk P w H h) (e:Rd H a u):ObjOk P w H h a u:=e.ok ok
theorem jdk_ {kvs:List (Key×V)} (ok:HOk P w H h) (e:Rd H a (.dK kvs)):kvs.length<=sizeLine/\(a == sysModules)=false/\∃ vs,KV kvs vs/\h.DictOf (jx_ P w) a vs :=
 show ObjOk P w H h a (.dK kvs) from jsr_ ok e
theorem jgm_ {kvs:List (Key×V)} (ok:HOk P w H h) (e:H a=some (.dK kvs)):kvs.length<=sizeLine/\(a == sysModules)=false/\∃ vs,KV kvs vs/\h.DictOf (jx_ P w) a vs:=jdk_ ok (.inl e)
theorem jbk_ {ks:List Key} (ok:HOk P w H h) (e:H a=some (.tup (ks.map kV))):(tupleKind (jx_ P w)).is h ks a:=by
 obtain⟨_,its,r,o,h1,h2,n,h3⟩:=(show ObjOk P w H h a (.tup (ks.map kV)) from ok a _ e)
 exact⟨o,its.toArray,n,h1,h2,h3,by simpa using jdb_ r⟩
theorem jcz_ {kvs:List (List Key×V)} (ok:HOk P w H h) (e:Rd H a (.dT kvs)):kvs.length<=sizeLine/\(a == sysModules)=false /\
  ∃ xs,KT H kvs xs/\h.DictOfH (tupleKind (jx_ P w)) a xs:=by
 obtain⟨z,y,xs,r,o,es,ep,h1,h2,h3,h4,h5⟩:=(show ObjOk P w H h a (.dT kvs) from jsr_ ok e)
 refine⟨z,y,xs,r,o,es,ep,h1,h2,h3,h4,fun x hx=>?_,h5⟩
 have all:∀{l:List (List Key×V)} {m:List (List Key×Addr×Value)},KT H l m->∀ x∈m,(tupleKind (jx_ P w)).is h x.1 x.2.1:=by
  intro l m q
  induction q with
  | nil=>intro x hx;exact nomatch hx
  | @cons p q ps qs hq t ih =>
   intro x hx
   rcases pt_.mp hx with e | hx
   ·subst e
    exact jbk_ ok (by rw[<- hq.1];exact hq.2.1)
   ·exact ih x hx
 exact all r x hx
theorem jwi_ {kvs:List (List Key×V)} (ok:HOk P w H h) (e:H a=some (.dT kvs)):kvs.length<=sizeLine/\(a == sysModules)=false /\
  ∃ xs,KT H kvs xs/\h.DictOfH (tupleKind (jx_ P w)) a xs:=jcz_ ok (.inl e)
end
def DGet (H:Hp) (a:Addr) (y:V) (r:Option V):Prop :=
 (∃ kvs k,Rd H a (.dK kvs)/\y=kV k/\r=valV kvs k)∨∃ kvs k b,Rd H a (.dT kvs)/\y=.ref b/\H b=some (.tup (k.map kV))/\r=valV kvs k
def DPut (H:Hp) (a:Addr) (y v:V) (H':Hp):Prop :=
 (∃ kvs k,H a=some (.dK kvs)/\y=kV k/\kvs.length < sizeLine/\H'=upd H a (.dK (putK kvs k v))) ∨
 ∃ kvs k b,H a=some (.dT kvs)/\y=.ref b/\H b=some (.tup (k.map kV))/\kvs.length < sizeLine/\H'=upd H a (.dT (putK kvs k v))
theorem DGet.k {H:Hp} {a:Addr} {kvs:List (Key×V)} {k:Key} (e:H a=some (.dK kvs)):DGet H a (kV k) (valV kvs k):=.inl ⟨kvs,k,.inl e,rfl,rfl⟩
theorem DPut.k {H:Hp} {a:Addr} {kvs:List (Key×V)} {k:Key} {v:V} (e:H a=some (.dK kvs)) (hl:kvs.length < sizeLine):DPut H a (kV k) v (upd H a (.dK (putK kvs k v))):=.inl ⟨kvs,k,e,rfl,hl,rfl⟩
section
variable {X:Cx} {pins:List (Addr×Obj)} {σ:St} {H:Hp} {s:Shared} {a:Addr} {y v:V} {u r:Value} {o:Option V} {A:Around} {E:Value->Shared->Prop}
theorem Inv.big (I:Inv X pins σ H s):sysModules < s.heap.objs.size:=by
 have h:mainGlobals < s.heap.objs.size:=(I.mod.glob.keeps I.bk).lt
 exact Nat.lt_trans (by decide) h
theorem jlx_ {Q:Value->Shared->Prop} (hu:A.units+1 < cLine) (I:Inv X pins σ H s) (g:DGet H a y (some v)) (ry:RelV y u) (h:∀ w' s',Inv X pins σ H s'->RelV v w'->Q w' s') :
  wpAny (model X.prog X.w) A (getItem (.ref a) u) Q E s:=by
 rcases g with ⟨kvs,k,e,ey,l⟩ | ⟨kvs,k,b,e,ey,eb,l⟩
 ·subst ey
  obtain⟨z,hd,vs,rel,dd⟩:=jdk_ I.hok e
  obtain⟨w',hw,rw'⟩:=RelO.some_of (v:=v) (o:=valueAt vs k) (by rw[l];exact rel.val k)
  exact wpAny_getItem_of (jcx_ ry) dd.mapOf hw (h w' _ (I.tok _) rw')
 ·subst ey
  cases (show u=Value.ref b from ry)
  obtain⟨z,hd,xs,rel,dd⟩:=jcz_ I.hok e
  obtain⟨w',hw,rw'⟩:=RelO.some_of (v:=v) (o:=(atKey xs k).map (·.2)) (by rw[l];exact rel.val k)
  obtain⟨p,hp,hp2⟩:=kd_.mp hw
  refine wpAny_getItem_heap (tupleKind_room_in1 hu) (jbk_ I.hok eb) dd hp ?_
  rw[hp2]
  exact h w' _ (I.tok _) rw'
theorem jel_ {h':Heap} {t':Nat} {ob:HO} (I:Inv X pins σ H s) (mu:Mut (H a)) (hs:rq_ a s.heap h') (he:∃ q,h'.get? a=some q) (new:ObjOk X.prog X.w (upd H a ob) h' a ob) :
  Inv X pins σ (upd H a ob) { s with heap:=h',toks:=t' } :=
 I.write (x:=a) (e:=a) mu (.inl rfl) (fun b q hb z=>(hs.2 b hb).trans z) he new
theorem jog_ {P:Program} {w:World} {H':Hp} {h':Heap} {kvs:List (Key×V)} {vs:List (Key×Value)} (z:kvs.length<=sizeLine) (hd:(a == sysModules)=false) (rel:KV kvs vs) (dd:h'.DictOf (jx_ P w) a vs) :
  ObjOk P w H' h' a (.dK kvs):=⟨z,hd,vs,rel,dd⟩
theorem jmi_ {H':Hp} {Q:Unit->Shared->Prop} (hu:A.units+1 < cLine) (I:Inv X pins σ H s) (g:DPut H a y v H') (ry:RelV y u) (rv:RelV v r) (h:∀ s',Inv X pins σ H' s'->Q () s') :
  wpAny (model X.prog X.w) A (setItem (.ref a) u r) Q E s:=by
 rcases g with ⟨kvs,k,e,ey,l,eH⟩ | ⟨kvs,k,b,e,ey,eb,l,eH⟩
 ·subst ey eH
  obtain⟨z,hd,vs,rel,dd⟩:=jgm_ I.hok e
  have hz:vs.length<=sizeLine:=by rw[<- rel.length];exact z
  have hl:(putK kvs k v).length<=sizeLine:=by have:=z8_ kvs k v;omega
  refine wpAny_setItem_pairs (hsz:=hz) (jcx_ ry) dd fun h' dd' hs=>h _ ?_
  have he:∃ q,h'.get? a=some q:=let ⟨q,_,_,hq,_⟩:=dd';⟨q,hq⟩
  exact jel_ I (by rw[e];exact True.intro) hs he (jog_ hl hd (rel.put k rv) dd')
 ·subst ey eH
  cases (show u=Value.ref b from ry)
  obtain⟨z,hd,xs,rel,dd⟩:=jwi_ I.hok e
  have hz:xs.length<=sizeLine:=by rw[<- t4_ rel];exact z
  have hl:(putK kvs k v).length<=sizeLine:=by have:=z8_ kvs k v;omega
  refine wpAny_setItem_heap (hsz:=hz) (tupleKind_room_in1 hu) (jbk_ I.hok eb) dd fun h' dd' hs=>h _ ?_
  obtain⟨q,es,ep,hq,h2,h3,h4,_,h5⟩:=dd'
  refine jel_ I (by rw[e];exact True.intro) hs ⟨q,hq⟩ ⟨hl,hd,_,(rel.put k eb rv).keeps fun c ys ec=>?_,q,es,ep,hq,h2,h3,h4,h5⟩
  rw[je_ (jcu_ ec e (fun z=>nomatch z))]
  exact ec
end
section
variable {X:Cx} {pins:List (Addr×Obj)} {σ:St} {H:Hp} {s:Shared} {a:Addr} {kvs:List (Key×V)} {k:Key} {u:Value} {A:Around} {E:Value->Shared->Prop}
end
def NoSl (i:Expr):Prop:=∀ ov iv,subscripted i false ov iv=operate [ov,iv] (getItem ov iv)
theorem jrb_ {prog:Program} {w:World} {A:Around} {E:Value->Shared->Prop} {s:Shared} {env:Env} {value slice:Expr} {pos:Pos} {T id:String} {Q:Value->Shared->Prop}
  (hl:typeLookup (.type T) "__getitem__"=pure (some (.builtin id))) (hs:NoSl slice)
  (h:wpAny (model prog w) A (eval value env) (fun o s₁=>wpAny (model prog w) A (eval slice env) (fun i s₂=>s₂.TypeIs o T/\wpAny (model prog w) A (getItem o i) Q E s₂) E s₁) E s) :
  wpAny (model prog w) A (eval (.Subscript value slice pos) env) Q E s:=by
 refine Subscript_ (wpAny_mono h (fun o s₁ h₁=>wpAny_mono h₁ (fun i s₂ h₂=>?_) fun _ _ x=>x) fun _ _ x=>x)
 obtain⟨hT,h₂⟩:=h₂
 unfold subscriptTail
 refine wpAny_bind ?_
 rw[getitemInPython_of_ne hT.not_modules]
 refine wpAny_bind (wpAny_specialOf hT hl ?_)
 have fin:wpAny (model prog w) A (subscripted slice false o i) (fun r s₃=>wpAny (model prog w) A (letTemporaryGo value o r >>= fun _=>pure r) Q E s₃) E s₂:=by
  rw[hs o i]
  exact wpAny_operating (wpAny_mono h₂ (fun r s₃ h₃=>wpAny_bind (wpAny_letTemporaryGo (wpAny_pure h₃))) fun _ _ x=>x)
 first
  | exact wpAny_pure (wpAny_bind fin)
  | exact wpAny_bind (wpAny_pure (wpAny_bind fin))
  | exact wpAny_bind fin
theorem jfm_ {X:Cx} {pins:List (Addr×Obj)} {σ:St} {H:Hp} {s:Shared} {a:Addr} {y:V} {o:Option V} (I:Inv X pins σ H s) (g:DGet H a y o):s.TypeIs (.ref a) "dict":=by
 rcases g with ⟨kvs,k,e,_,_⟩ | ⟨kvs,k,b,e,_,_,_⟩
 ·obtain⟨_,_,vs,_,dd⟩:=jdk_ I.hok e
  exact dd.typeIs
 ·obtain⟨_,_,xs,_,dd⟩:=jcz_ I.hok e
  exact dd.typeIs
def jsx_ (td ty:TE):TE:=fun σ H Q=>td σ H fun x H1=>ty σ H1 fun y H2=>∃ a v,x=.ref a/\DGet H2 a y (some v)/\Q v H2
def jtd_ (td ty tv:TE):TS:=fun D σ H=>tv σ H fun v H1=>td σ H1 fun x H2=>ty σ H2 fun y H3=>∃ a H4,x=.ref a/\DPut H3 a y v H4/\D.nx σ H4
section
variable {X:Cx} {o i e value:Expr} {pos pos' tpos:Pos} {td ty tv:TE}
theorem jju_ (hu:X.A.units+1 < cLine) (ho:PE X o td) (hi:PE X i ty) (hs:NoSl i):PE X (.Subscript o i pos) (jsx_ td ty):=by
 intro pins s σ H Q I h
 refine jrb_ PySem.F.slot_dict_getitem.lookup hs (thn (ho pins s σ H _ I h) fun u s1 ⟨x,H1,I1,rx,q1⟩=>thn (hi pins s1 σ H1 _ I1 q1) fun iv s2 ⟨y,H2,I2,ry,a,v,ex,g,q2⟩=>?_)
 subst ex
 obtain rfl:u=Value.ref a:=rx
 exact⟨jfm_ I2 g,jlx_ hu I2 g ry fun w' s3 I3 rw'=>⟨v,H2,I3,rw',q2⟩⟩
theorem uy_ (hu:X.A.units+1 < cLine) (ho:PE X o td) (hi:PE X i ty) (hv:PE X value tv) (hs:swapsWith value (some (.Subscript o i pos')) pos.line X.env=pure false) :
  PS X (.Assign [.Subscript o i pos'] value pos) (jtd_ td ty tv):=by
 intro pins s σ H D I h
 refine wpAny_Assign_Subscript (thn (hv pins s σ H _ I h) fun r s1 ⟨v,H1,I1,rv,q1⟩=>thn (ho pins s1 σ H1 _ I1 q1) fun u s2 ⟨x,H2,I2,rx,q2⟩=>thn (hi pins s2 σ H2 _ I2 q2) fun iv s3 ⟨y,H3,I3,ry,a,H4,ex,g,q3⟩=>?_) hs
 subst ex
 obtain rfl:u=Value.ref a:=rx
 exact jmi_ hu I3 g ry rv fun s4 I4=>⟨σ,H4,I4,q3⟩
end
theorem jgj_ {P:Program} {w:World} {H:Hp} (h:Heap) (hb:sysModules < h.objs.size):ObjOk P w H (h.push { cls:=.type "dict",data:=.dict #[] }) h.objs.size (.dK []) :=
 ⟨ri_ _,beq_eq_false_iff_ne.mpr (wx_ (p7_ hb)),[],.nil,Heap.DictOf.new h⟩
def jpi_:TE:=fun _ H Q=>∀ p,H p=none->Q (.ref p) (upd H p (.dK []))
section
variable {X:Cx} {pos:Pos}
theorem jaa_:PE X (.Dict [] [] pos) jpi_:=fun pins s σ H Q I h =>
 wpAny_Dict_empty ⟨.ref s.heap.objs.size,_,I.laid (a:=s.heap.objs.size) (o:=.dK []) (t':=s.toks) (fun _ _ q=>pa_ _ q) (pg_ _) (jgj_ s.heap I.big),rfl,h _ (I.hok.fresh (pg_ _))⟩
end
def jbl_:List (TE×TE)->St->Hp->(List (V×V)->Hp->Prop)->Prop
 | [],_,H,Q=>Q [] H
 | (tk,tv)::r,σ,H,Q=>tk σ H fun x H1=>tv σ H1 fun y H2=>jbl_ r σ H2 fun ps H3=>Q ((x,y)::ps) H3
abbrev VV:List (V×V)->List (Value×Value)->Prop:=Paired fun p q=>RelV p.1 q.1/\RelV p.2 q.2
def PPs (X:Cx) (pos:Pos) (keys:List (Option Expr)) (values:List Expr) (trs:List (TE×TE)):Prop :=
 ∀(pins:List (Addr×Obj)) (s:Shared) (σ:St) (H:Hp) (Q:List (V×V)->Hp->Prop),Inv X pins σ H s->jbl_ trs σ H Q ->
  wpAny (model X.prog X.w) X.A (evalPairs (pairTrees keys values X.env pos)) (fun vs s'=>∃ ps H',Inv X pins σ H' s'/\VV ps vs/\Q ps H') X.xe s
theorem jre_ {X:Cx} {pos:Pos}:PPs X pos [] [] []:=fun pins s σ H Q I h=>pairTrees_nil_walk ⟨[],H,I,.nil,h⟩
theorem jot_ {X:Cx} {pos:Pos} {k v:Expr} {ks:List (Option Expr)} {vs:List Expr} {tk tv:TE} {trs:List (TE×TE)} (hk:PE X k tk) (hv:PE X v tv) (hr:PPs X pos ks vs trs) :
  PPs X pos (some k::ks) (v::vs) ((tk,tv)::trs):=fun pins s σ H Q I h =>
 pairTrees_cons_walk (thn (hk pins s σ H _ I h) fun u s1 ⟨x,H1,I1,rx,q1⟩=>thn (hv pins s1 σ H1 _ I1 q1) fun w2 s2 ⟨y,H2,I2,ry,q2⟩ =>
  thn (hr pins s2 σ H2 _ I2 q2) fun ws s3 ⟨ps,H3,I3,rel,q3⟩=>⟨(x,y)::ps,H3,I3,.cons ⟨rx,ry⟩ rel,q3⟩)
def x5_ (kvs more:List (Key×V)):List (Key×V):=more.foldl (fun acc kv=>putK acc kv.1 kv.2) kvs
theorem KV.merge:∀{more:List (Key×V)} {rs:List (Key×Value)} {kvs:List (Key×V)} {vs:List (Key×Value)},KV more rs->KV kvs vs->KV (x5_ kvs more) (merged vs rs):=by
 intro more rs kvs vs r
 unfold KV at r
 induction r generalizing kvs vs with
 | nil=>intro q;exact q
 | @cons p q ps qs h t ih =>
  intro r0
  have e:KV (putK kvs p.1 p.2) (stored vs q.1 q.2):=by
   have:=r0.put p.1 h.2
   rw[<- h.1];exact this
  exact ih e
theorem x1_:∀(more kvs:List (Key×V)),(x5_ kvs more).length<=kvs.length+more.length
 | [],kvs=>by show kvs.length<=kvs.length+0;omega
 | p::r,kvs=>by
  have h1:=x1_ r (putK kvs p.1 p.2)
  have h2:=z8_ kvs p.1 p.2
  show (x5_ (putK kvs p.1 p.2) r).length<=_
  rw[pz_];omega
theorem jar_ {P:Program} {w:World}:∀{kvs:List (Key×V)} {ws:List (Value×Value)},VV (kvs.map fun kv=>(kV kv.1,kv.2)) ws->∃ rs,Carries (jx_ P w) ws rs/\KV kvs rs
 | [],_,r=>by rw[p2_] at r;cases r;exact⟨[],True.intro,.nil⟩
 | p::kvs,_,r=>by
  rw[pf_] at r
  cases r with
  | @cons a b as bs h t =>
   obtain⟨rs,c,q⟩:=jar_ (P:=P) (w:=w) t
   obtain⟨b1,b2⟩:=b
   exact⟨(p.1,b2)::rs,⟨jcx_ h.1,rfl,c⟩,.cons ⟨rfl,h.2⟩ q⟩
def jso_ (trs:List (TE×TE)):TE:=fun σ H Q=>∀ p,H p=none->jbl_ trs σ (upd H p (.dK [])) fun ps H2=>H2 p=some (.dK [])/\∃ kvs:List (Key×V),ps=kvs.map (fun kv=>(kV kv.1,kv.2))/\kvs.length<=15/\Q (.ref p) (upd H2 p (.dK (x5_ [] kvs)))
theorem jrk_ {X:Cx} {pos:Pos} {keys:List (Option Expr)} {values:List Expr} {trs:List (TE×TE)} (h:PPs X pos keys values trs) (hall:keys.all (·.isSome)=true) (hl:keys.length=values.length) (h0:keys≠[])
  (h15:keys.length<=15):PE X (.Dict keys values pos) (jso_ trs):=by
 intro pins s σ H Q I q
 have hn:=I.hok.fresh (pg_ s.heap.objs.size)
 have I1:=I.laid (a:=s.heap.objs.size) (o:=.dK []) (h':=s.heap.push { cls:=.type "dict",data:=.dict #[] }) (t':=s.toks) (fun _ _ q=>pa_ _ q) (pg_ _) (jgj_ s.heap I.big)
 refine wpAny_Dict_walk (knd:=jx_ X.prog X.w) hall hl h0 h15 (thn (h pins _ σ _ _ I1 (q _ hn)) fun ws s2 ⟨ps,H2,I2,rel,e,kvs,ep,lk,q2⟩=>?_)
 subst ep
 obtain⟨rs,c,rk⟩:=jar_ (P:=X.prog) (w:=X.w) rel
 obtain⟨z,hd,vs0,r0,dd⟩:=jgm_ I2.hok e
 cases r0
 refine⟨rs,c,dd,fun h' dd' hs=>⟨.ref s.heap.objs.size,_,?_,rfl,q2⟩⟩
 have hz:(x5_ [] kvs).length<=sizeLine:=by
  have h1:=x1_ kvs []
  rw[rj_] at h1
  rw[sizeLine_eq];omega
 have he:∃ q,h'.get? s.heap.objs.size=some q:=let ⟨q,_,_,hq,_⟩:=dd';⟨q,hq⟩
 exact jel_ I2 (by rw[e];exact True.intro) hs he (jog_ hz hd (rk.merge .nil) dd')
structure M1 (X:Cx) (o:Expr) (m:Str) (apos:Pos) (e:Expr) (cpos:Pos):Prop where
 base:attributeBase o m X.env (eval o X.env)=eval o X.env
 few:((backTo cpos (starEach [e] X.env)).all (fun x=>!x.1)&&(backToKw cpos (keywordEach [] X.env)).all (fun x=>x.1.isSome)
  && decide (([e]:List Expr).length+([]:List Keyword).length+(if ([]:List Keyword).isEmpty then 0 else 1) < 30))=true
 line:(apos.endLine == cpos.line)=true
 trees:backTo cpos (starEach [e] X.env)=[(false,eval e X.env)]
structure M2 (X:Cx) (o:Expr) (m:Str) (apos:Pos) (e f:Expr) (cpos:Pos):Prop where
 base:attributeBase o m X.env (eval o X.env)=eval o X.env
 few:((backTo cpos (starEach [e,f] X.env)).all (fun x=>!x.1)&&(backToKw cpos (keywordEach [] X.env)).all (fun x=>x.1.isSome)
  && decide (([e,f]:List Expr).length+([]:List Keyword).length+(if ([]:List Keyword).isEmpty then 0 else 1) < 30))=true
 line:(apos.endLine == cpos.line)=true
 trees:backTo cpos (starEach [e,f] X.env)=[(false,eval e X.env),(false,eval f X.env)]
def IsD (H:Hp) (a:Addr):Prop:=(∃ kvs,Rd H a (.dK kvs))∨∃ kvs,Rd H a (.dT kvs)
theorem jnr_ {X:Cx} {pins:List (Addr×Obj)} {σ:St} {H:Hp} {s:Shared} {a:Addr} (I:Inv X pins σ H s) (d:IsD H a) :
  s.TypeIs (.ref a) "dict"/\(∀ b,Value.ref a=.ref b->∃ ob,s.heap.get? b=some ob/\ob.dict=none)/\(a == sysModules)=false:=by
 rcases d with ⟨kvs,e⟩ | ⟨kvs,e⟩
 ·obtain⟨_,hd,vs,_,dd⟩:=jdk_ I.hok e
  refine⟨dd.typeIs,fun b q=>?_,hd⟩
  cases q
  obtain⟨ob,_,_,h1,h2,_⟩:=dd
  exact⟨ob,h1,h2.2.1⟩
 ·obtain⟨_,hd,xs,_,dd⟩:=jcz_ I.hok e
  refine⟨dd.typeIs,fun b q=>?_,hd⟩
  cases q
  obtain⟨ob,_,_,h1,h2,_⟩:=dd
  exact⟨ob,h1,h2.2.1⟩
section
variable {X:Cx} {pins:List (Addr×Obj)} {σ:St} {H:Hp} {s:Shared} {a:Addr} {y d:V} {u r:Value} {o:Option V} {A:Around} {E:Value->Shared->Prop}
theorem jtq_ {Q:Value->Shared->Prop} (hu:A.units+1 < cLine) (I:Inv X pins σ H s) (g:DGet H a y o) (ry:RelV y u) (h:∀ w' s',Inv X pins σ H s'->RelV (o.getD .non) w'->Q w' s') :
  wpAny (model X.prog X.w) A (call (.builtin "dict.get") [.ref a,u]) Q E s:=by
 rcases g with ⟨kvs,k,e,ey,l⟩ | ⟨kvs,k,b,e,ey,eb,l⟩
 ·subst ey
  obtain⟨z,hd,vs,rel,dd⟩:=jdk_ I.hok e
  refine call_meetsIn rs_ dd.typeIs st_ (w3_ _ _) (meets_dict_get (jx_ X.prog X.w) a (jcx_ ry) hd) ⟨_,dd.mapOf,h _ _ (I.tok _) ?_⟩
  rw[l]
  exact(rel.val k).getD rfl
 ·subst ey
  cases (show u=Value.ref b from ry)
  obtain⟨z,hd,xs,rel,dd⟩:=jcz_ I.hok e
  refine call_meetsIn rs_ dd.typeIs st_ (w3_ _ _) (meetsH_dict_get (tupleKind (jx_ X.prog X.w)) a b hd) ⟨tupleKind_room_in1 hu,k,xs,jbk_ I.hok eb,dd,h _ _ (I.tok _) ?_⟩
  rw[l]
  exact(rel.val k).getD rfl
theorem jtn_ {Q:Value->Shared->Prop} (hu:A.units+1 < cLine) (I:Inv X pins σ H s) (g:DGet H a y o) (ry:RelV y u) (rd:RelV d r) (h:∀ w' s',Inv X pins σ H s'->RelV (o.getD d) w'->Q w' s') :
  wpAny (model X.prog X.w) A (call (.builtin "dict.get") [.ref a,u,r]) Q E s:=by
 rcases g with ⟨kvs,k,e,ey,l⟩ | ⟨kvs,k,b,e,ey,eb,l⟩
 ·subst ey
  obtain⟨z,hd,vs,rel,dd⟩:=jdk_ I.hok e
  refine call_meetsIn rs_ dd.typeIs st_ (w4_ _ _ _) (meets_dict_get_default (jx_ X.prog X.w) a (jcx_ ry) hd r) ⟨_,dd.mapOf,h _ _ (I.tok _) ?_⟩
  rw[l]
  exact(rel.val k).getD rd
 ·subst ey
  cases (show u=Value.ref b from ry)
  obtain⟨z,hd,xs,rel,dd⟩:=jcz_ I.hok e
  refine call_meetsIn rs_ dd.typeIs st_ (w4_ _ _ _) (meetsH_dict_get_default (tupleKind (jx_ X.prog X.w)) a b hd r) ⟨tupleKind_room_in1 hu,k,xs,jbk_ I.hok eb,dd,h _ _ (I.tok _) ?_⟩
  rw[l]
  exact(rel.val k).getD rd
end
def jnz_ (td ty:TE):TE:=fun σ H Q=>td σ H fun x H1=>∃ a,x=.ref a/\IsD H1 a/\ty σ H1 fun y H2=>∃ o,DGet H2 a y o/\Q (o.getD .non) H2
def jpt_ (td ty tx:TE):TE:=fun σ H Q=>td σ H fun x H1=>∃ a,x=.ref a/\IsD H1 a/\ty σ H1 fun y H2=>tx σ H2 fun z H3=>∃ o,DGet H3 a y o/\Q (o.getD z) H3
section
variable {X:Cx} {o e f:Expr} {apos cpos:Pos} {td ty tx:TE}
theorem joi_ (hu:X.A.units+1 < cLine) (ho:PE X o td) (he:PE X e ty) (m:M1 X o "get" apos e cpos):PE X (.Call (.Attribute o "get" apos) [e] [] cpos) (jnz_ td ty):=by
 intro pins s σ H Q I h
 refine wpAny_Call_method m.base m.few m.line tk_ rs_ kl_ (thn (ho pins s σ H _ I h) fun u s1 ⟨x,H1,I1,rx,a,ex,d,q1⟩=>?_)
 subst ex
 obtain rfl:u=Value.ref a:=rx
 obtain⟨t1,t2,_⟩:=jnr_ I1 d
 refine⟨t1,t2,?_⟩
 rw[m.trees]
 refine ss_ rfl (t2_ (q2_ (thn (he pins s1 σ H1 _ I1 q1) fun iv s2 ⟨y,H2,I2,ry,ov,g,q2⟩=>rm_ ?_)))
 exact jtq_ hu I2 g ry fun w' s3 I3 rw'=>⟨_,H2,I3,rw',q2⟩
theorem jfu_ (hu:X.A.units+1 < cLine) (ho:PE X o td) (he:PE X e ty) (hf:PE X f tx) (m:M2 X o "get" apos e f cpos):PE X (.Call (.Attribute o "get" apos) [e,f] [] cpos) (jpt_ td ty tx):=by
 intro pins s σ H Q I h
 refine wpAny_Call_method m.base m.few m.line tk_ rs_ kl_ (thn (ho pins s σ H _ I h) fun u s1 ⟨x,H1,I1,rx,a,ex,d,q1⟩=>?_)
 subst ex
 obtain rfl:u=Value.ref a:=rx
 obtain⟨t1,t2,_⟩:=jnr_ I1 d
 refine⟨t1,t2,?_⟩
 rw[m.trees]
 refine ss_ rfl (t2_ (q2_ (thn (he pins s1 σ H1 _ I1 q1) fun iv s2 ⟨y,H2,I2,ry,q2⟩ =>
  q2_ (thn (hf pins s2 σ H2 _ I2 q2) fun fv s3 ⟨z,H3,I3,rz,ov,g,q3⟩=>rm_ ?_))))
 exact jtn_ hu I3 g ry rz fun w' s4 I4 rw'=>⟨_,H3,I4,rw',q3⟩
end
section
variable {X:Cx} {pins:List (Addr×Obj)} {σ:St} {H:Hp} {s:Shared} {a:Addr} {kvs:List (Key×V)} {A:Around} {E:Value->Shared->Prop}
end
section
variable {X:Cx} {pins:List (Addr×Obj)} {σ:St} {H:Hp} {s:Shared} {a:Addr} {y:V} {u:Value} {A:Around} {E:Value->Shared->Prop}
end
end L2
namespace L2
def bT (ns:List (List Nat)):List (Key×V):=ns.map fun z=>((Sum.inr (S z):Key),V.bl true)
def addN (ns:List (List Nat)) (z:List Nat):List (List Nat):=if z∈ns then ns else ns++[z]
def begS (ns:List (List Nat)) (s:List Nat) (k:Nat):List (List Nat):=(p3_ k).foldl (fun ns j=>addN ns (s.take (j+1))) ns
def begA (ns:List (List Nat)) (xs:List Pat):List (List Nat):=xs.foldl (fun ns x=>begS ns x.1 x.1.length) ns
def begs (xs:List Pat):List (List Nat):=begA [[]] xs
theorem vx_ {a b:List Nat} (h:(Sum.inr (S a):Key)=Sum.inr (S b)):a=b:=by
 injection h with h
 exact jgx_ h
theorem jtj_ (ns:List (List Nat)) (z:List Nat):((bT ns).any fun kv=>decide (kv.1=(Sum.inr (S z):Key)))=decide (z∈ns):=by
 unfold bT
 rw[List.any_map,sw_,t0_,decide_eq_true_iff]
 constructor
 ·rintro⟨y,hy,e⟩
  have:=vx_ (of_decide_eq_true e)
  rw[<- this];exact hy
 ·intro hz
  exact⟨z,hz,decide_eq_true rfl⟩
theorem jtr_ (ns:List (List Nat)) (z:List Nat):putK (bT ns) (Sum.inr (S z)) (.bl true)=bT (addN ns z):=by
 unfold putK addN
 rw[jtj_]
 by_cases h:z∈ns
 ·rw[if_pos (decide_eq_true h),if_pos h]
  unfold bT
  rw[qc_]
  apply qo_
  intro y _
  show (if (Sum.inr (S y):Key)=Sum.inr (S z) then ((Sum.inr (S y):Key),V.bl true) else ((Sum.inr (S y):Key),V.bl true))=_
  rw[ite_self]
 ·rw[if_neg (by rw[decide_eq_false h];exact pp_),if_neg h]
  unfold bT
  rw[pw_];rfl
theorem jpl_ {ns:List (List Nat)} {z y:List Nat}:y∈addN ns z↔y∈ns∨y=z:=by
 unfold addN
 split
 ·rename_i h
  exact⟨.inl,fun q=>q.elim id fun q=>q▸h⟩
 ·rw[pq_,wg_]
theorem jhi_ {ns:List (List Nat)} {z:List Nat} (h:ns.Nodup):(addN ns z).Nodup:=by
 unfold addN
 split
 ·exact h
 ·rename_i hz
  rw[ts_]
  refine⟨h,by simp,fun a ha b hb=>?_⟩
  have:b=z:=by simpa using hb
  rintro rfl
  exact hz (this▸ha)
theorem jnl_ (ns:List (List Nat)) (z:List Nat):(addN ns z).length<=ns.length+1:=by
 unfold addN
 split
 ·omega
 ·simp
theorem xy_ (ns:List (List Nat)) (s:List Nat) (k:Nat):begS ns s (k+1)=addN (begS ns s k) (s.take (k+1)):=by
 unfold begS;rw[rt_,s4_];rfl
theorem jfi_ {ns:List (List Nat)} {s y:List Nat}:∀{k:Nat},y∈begS ns s k↔y∈ns∨∃ e,1<=e/\e<=k/\y=s.take e
 | 0=>by
  show y∈ns↔_
  exact⟨.inl,fun q=>q.elim id fun⟨e,a,b,_⟩=>by omega⟩
 | k+1=>by
  rw[xy_,jpl_,jfi_]
  constructor
  ·rintro((h | ⟨e,a,b,c⟩) | h)
   ·exact .inl h
   ·exact .inr ⟨e,a,by omega,c⟩
   ·exact .inr ⟨k+1,by omega,by omega,h⟩
  ·rintro(h | ⟨e,a,b,c⟩)
   ·exact .inl (.inl h)
   ·by_cases z:e=k+1
    ·exact .inr (z▸c)
    ·exact .inl (.inr ⟨e,a,by omega,c⟩)
theorem jan_ {ns:List (List Nat)} {s:List Nat} (h:ns.Nodup):∀{k:Nat},(begS ns s k).Nodup
 | 0=>h
 | k+1=>by rw[xy_];exact jhi_ (jan_ h)
theorem jal_ (ns:List (List Nat)) (s:List Nat):∀ k:Nat,(begS ns s k).length<=ns.length+k
 | 0=>pg_ _
 | k+1=>by
  rw[xy_]
  have:=jnl_ (begS ns s k) (s.take (k+1))
  have:=jal_ ns s k
  omega
theorem jlr_ (ns:List (List Nat)) (xs:List Pat) (x:Pat):begA ns (xs++[x])=begS (begA ns xs) x.1 x.1.length:=by
 unfold begA;rw[s4_];rfl
theorem jfd_ {y:List Nat}:∀{xs:List Pat} {ns:List (List Nat)},y∈begA ns xs↔y∈ns∨∃ x∈xs,∃ e,1<=e/\e<=x.1.length/\y=x.1.take e
 | [],ns=>by
  show y∈ns↔_
  exact⟨.inl,fun q=>q.elim id fun⟨x,hx,_⟩=>nomatch hx⟩
 | x::xs,ns=>by
  show y∈begA (begS ns x.1 x.1.length) xs↔_
  rw[jfd_,jfi_]
  constructor
  ·rintro((h | h) | ⟨z,hz,h⟩)
   ·exact .inl h
   ·exact .inr ⟨x,po_,h⟩
   ·exact .inr ⟨z,pn_ _ hz,h⟩
  ·rintro(h | ⟨z,hz,h⟩)
   ·exact .inl (.inl h)
   ·rcases pt_.mp hz with rfl | hz
    ·exact .inl (.inr h)
    ·exact .inr ⟨z,hz,h⟩
theorem jay_:∀{xs:List Pat} {ns:List (List Nat)},ns.Nodup->(begA ns xs).Nodup
 | [],_,h=>h
 | x::xs,ns,h=>jay_ (xs:=xs) (jan_ h)
theorem mem_begs {xs:List Pat} {y:List Nat}:y∈begs xs↔y=[]∨∃ x∈xs,∃ e,1<=e/\e<=x.1.length/\y=x.1.take e:=by
 unfold begs;rw[jfd_,wg_]
theorem jhp_ (xs:List Pat):(begs xs).Nodup:=jay_ (by simp)
theorem jfv_ {c:Nat}:∀(xs:List Pat) (ns:List (List Nat)),(∀ x∈xs,x.1.length<=c)->(begA ns xs).length<=ns.length+xs.length * c
 | [],ns,_=>by show ns.length<=_;simp
 | x::xs,ns,h=>by
  have h1:=jfv_ xs (begS ns x.1 x.1.length) fun y hy=>h y (pn_ _ hy)
  have h2:=jal_ ns x.1 x.1.length
  have h3:=h x po_
  show (begA (begS ns x.1 x.1.length) xs).length<=_
  rw[pz_,Nat.succ_mul]
  omega
end L2
namespace L2
def NT (H:Hp):List (Key×V)->List Pat->Prop
 | [],[]=>True
 | kv::kvs,g::gs=>kv.1=Sum.inr (S g.1)/\(∃ t,kv.2=.ref t/\H t=some (.tup (g.2.map V.int)))/\NT H kvs gs
 | _,_=>False
def jk_ (gs:List Pat) (z:List Nat):Option Pat:=gs.find? fun g=>decide (g.1=z)
theorem NT.val {H:Hp} {z:List Nat}:∀{kvs:List (Key×V)} {gs:List Pat},NT H kvs gs->(jk_ gs z=none/\valV kvs (Sum.inr (S z))=none)∨∃ g t,jk_ gs z=some g/\g∈gs/\g.1=z/\valV kvs (Sum.inr (S z))=some (.ref t)/\H t=some (.tup (g.2.map V.int))
 | [],[],_=>.inl ⟨rfl,rfl⟩
 | [],_::_,h=>h.elim
 | _::_,[],h=>h.elim
 | kv::kvs,g::gs,h=>by
  obtain⟨h1,⟨t,h2,h3⟩,h4⟩:=h
  by_cases e:g.1=z
  ·refine .inr ⟨g,t,?_,po_,e,?_,h3⟩
   ·unfold jk_;rw[qk_,decide_eq_true e]
   ·rw[vc_ (by rw[h1,e]),h2]
  ·have hl:jk_ (g::gs) z=jk_ gs z:=by unfold jk_;rw[qk_,decide_eq_false e]
   have hv:valV (kv::kvs) (Sum.inr (S z))=valV kvs (Sum.inr (S z)):=vl_ fun q=>e (vx_ (h1.symm.trans q))
   rw[hl,hv]
   rcases NT.val (z:=z) h4 with q | ⟨g',t',a,b,c,d,f⟩
   ·exact .inl q
   ·exact .inr ⟨g',t',a,pn_ _ b,c,d,f⟩
theorem NT.same {H H':Hp} (s:Same H H'):∀{kvs:List (Key×V)} {gs:List Pat},NT H kvs gs->NT H' kvs gs
 | [],[],_=>trivial
 | [],_::_,h=>h.elim
 | _::_,[],h=>h.elim
 | kv::kvs,g::gs,h=>by
  obtain⟨h1,⟨t,h2,h3⟩,h4⟩:=h
  exact⟨h1,⟨t,h2,s _ _ h3⟩,NT.same s h4⟩
end L2
namespace L2
open PySem
def zs_:List Int->List Int->List Int
 | a::as,b::bs=>mx a b::zs_ as bs
 | _,_=>[]
theorem yg_:∀{a b:List Int},a.length=b.length->(zs_ a b).length=a.length
 | [],[],_=>rfl
 | [],_::_,h=>by simp at h
 | _::_,[],h=>by simp at h
 | a::as,b::bs,h=>by simp only[zs_,pz_];rw[yg_ (by simpa using h)]
theorem xp_:∀{a b:List Int} {i:Nat} (h1:i < a.length) (h2:i < b.length),(zs_ a b)[i]?=some (mx a[i] b[i])
 | a::as,b::bs,0,_,_=>rfl
 | a::as,b::bs,i+1,h1,h2=>by
  have h1':i < as.length:=by simpa using h1
  have h2':i < bs.length:=by simpa using h2
  simp only[zs_,tl_,su_]
  exact xp_ h1' h2'
theorem jai_ {a b:List Int} {i:Nat} (h1:i < a.length) (h2:i < b.length):(zs_ a b).take (i+1)=(zs_ a b).take i++[mx a[i] b[i]]:=by
 rw[ra_,xp_ h1 h2];rfl
def putG (gs:List Pat) (s:List Nat) (ns:List Int):List Pat :=
 if (gs.any fun g=>decide (g.1=s))=true then gs.map (fun g=>if g.1=s then (g.1,ns) else g) else gs++[(s,ns)]
def grtS (gs:List Pat) (x:Pat):List Pat:=putG gs x.1 (zs_ (((jk_ gs x.1).map (·.2)).getD x.2) x.2)
def grt (xs:List Pat):List Pat:=xs.foldl grtS []
theorem jbm_ (xs:List Pat) (x:Pat):grt (xs++[x])=grtS (grt xs) x:=by unfold grt;rw[s4_];rfl
theorem NT.anyK {H:Hp} {s:List Nat}:∀{kvs:List (Key×V)} {gs:List Pat},NT H kvs gs->(kvs.any fun kv=>decide (kv.1=(Sum.inr (S s):Key)))=gs.any fun g=>decide (g.1=s)
 | [],[],_=>rfl
 | [],_::_,h=>h.elim
 | _::_,[],h=>h.elim
 | kv::kvs,g::gs,h=>by
  obtain⟨h1,_,h4⟩:=h
  rw[s3_,s3_,NT.anyK h4]
  congr 1
  rw[h1]
  by_cases e:g.1=s
  ·rw[decide_eq_true e,decide_eq_true (by rw[e])]
  ·rw[decide_eq_false e,decide_eq_false fun q=>e (vx_ q)]
theorem NT.append {H:Hp}:∀{kvs kvs':List (Key×V)} {gs gs':List Pat},NT H kvs gs->NT H kvs' gs'->NT H (kvs++kvs') (gs++gs')
 | [],_,[],_,_,h=>h
 | [],_,_::_,_,h,_=>h.elim
 | _::_,_,[],_,h,_=>h.elim
 | kv::kvs,_,g::gs,_,h,h'=>⟨h.1,h.2.1,NT.append h.2.2 h'⟩
theorem NT.mapP {H:Hp} {s:List Nat} {ns:List Int} {t:Addr} (ht:H t=some (.tup (ns.map V.int))):∀{kvs:List (Key×V)} {gs:List Pat},NT H kvs gs->NT H (kvs.map fun kv=>if kv.1=(Sum.inr (S s):Key) then (kv.1,.ref t) else kv) (gs.map fun g=>if g.1=s then (g.1,ns) else g)
 | [],[],_=>trivial
 | [],_::_,h=>h.elim
 | _::_,[],h=>h.elim
 | kv::kvs,g::gs,h=>by
  obtain⟨h1,h2,h4⟩:=h
  rw[pf_,pf_]
  by_cases e:g.1=s
  ·rw[if_pos e,if_pos (by rw[h1,e])]
   exact⟨h1,⟨t,rfl,ht⟩,NT.mapP ht h4⟩
  ·rw[if_neg e,if_neg (by rw[h1];exact fun q=>e (vx_ q))]
   exact⟨h1,h2,NT.mapP ht h4⟩
theorem NT.put {H:Hp} {s:List Nat} {ns:List Int} {t:Addr} {kvs:List (Key×V)} {gs:List Pat} (h:NT H kvs gs) (ht:H t=some (.tup (ns.map V.int))):NT H (putK kvs (Sum.inr (S s)) (.ref t)) (putG gs s ns):=by
 unfold putK putG
 rw[h.anyK]
 split
 ·exact h.mapP ht
 ·exact h.append ⟨rfl,⟨t,rfl,ht⟩,trivial⟩
theorem NT.tups {H H':Hp} (hk:∀ b zs,H b=some (.tup zs)->H' b=some (.tup zs)):∀{kvs:List (Key×V)} {gs:List Pat},NT H kvs gs->NT H' kvs gs
 | [],[],_=>trivial
 | [],_::_,h=>h.elim
 | _::_,[],h=>h.elim
 | kv::kvs,g::gs,h=>by
  obtain⟨h1,⟨t,h2,h3⟩,h4⟩:=h
  exact⟨h1,⟨t,h2,hk _ _ h3⟩,NT.tups hk h4⟩
theorem jgs_ {gs:List Pat} {s:List Nat} {ns:List Int} {g:Pat} (h:g∈putG gs s ns):g∈gs∨g=(s,ns):=by
 unfold putG at h
 split at h
 ·obtain⟨g',hg',e⟩:=qh_.mp h
  split at e
  ·rename_i q
   right
   rw[<- e,q]
  ·left;rw[<- e];exact hg'
 ·rcases pq_.mp h with h | h
  ·exact .inl h
  ·right;simpa using h
theorem jch_ {gs:List Pat} {z:List Nat} {g:Pat} (h:jk_ gs z=some g):g∈gs/\g.1=z:=⟨sb_ h,by have:=tm_ h;simpa using this⟩
theorem jik_:∀{xs:List Pat} {gs:List Pat},(∀ g∈gs,g.2.length=g.1.length+1)->(∀ x∈xs,x.2.length=x.1.length+1)->∀ g∈xs.foldl grtS gs,g.2.length=g.1.length+1
 | [],gs,h,_=>h
 | x::xs,gs,h,hx=>by
  refine jik_ (xs:=xs) (gs:=grtS gs x) (fun g hg=>?_) fun y hy=>hx y (pn_ _ hy)
  rcases jgs_ hg with q | q
  ·exact h g q
  ·rw[q]
   have hxx:=hx x po_
   show (zs_ _ _).length=_
   have hl:(((jk_ gs x.1).map (·.2)).getD x.2).length=x.2.length:=by
    cases e:jk_ gs x.1 with
    | none=>rfl
    | some g' =>
     obtain⟨q1,q2⟩:=jch_ e
     show g'.2.length=_
     rw[h g' q1,q2,hxx]
   rw[yg_ hl,hl,hxx]
end L2
namespace L2
end L2
namespace L2
def jhb_ (B:List (List Nat)):List Nat->List Nat
 | []=>[]
 | c::r=>if (c::r)∈B then c::r else jhb_ B r
theorem jix_ (B:List (List Nat)):∀ t,jhb_ B t <:+ t
 | []=>List.suffix_refl _
 | c::r=>by
  unfold jhb_
  split
  ·exact List.suffix_refl _
  ·exact(jix_ B r).trans (List.suffix_cons c r)
theorem jin_:∀(u:List Nat),u=[]∨∃ s d,u=s++[d]
 | []=>.inl rfl
 | c::r=>.inr ⟨(c::r).dropLast,(c::r).getLast (by simp),(t6_ (by simp)).symm⟩
theorem jap_ (xs:List Pat):[]∈begs xs:=mem_begs.mpr (.inl rfl)
theorem y4_ {xs:List Pat} {y:List Nat} (hy:y≠[]):y∈begs xs↔∃ x∈xs,y <+: x.1:=by
 rw[mem_begs]
 constructor
 ·rintro(h | ⟨x,hx,e,h1,h2,h3⟩)
  ·exact absurd h hy
  ·exact⟨x,hx,h3▸List.take_prefix _ _⟩
 ·rintro⟨x,hx,h⟩
  have hl:=ro_.mpr hy
  refine .inr ⟨x,hx,y.length,hl,h.length_le,?_⟩
  exact List.prefix_iff_eq_take.mp h
theorem jpy_ (xs:List Pat) (s:List Nat) (d:Nat) (h:s++[d]∈begs xs):s∈begs xs:=by
 obtain⟨x,hx,hp⟩:=(y4_ (by simp)).mp h
 by_cases hs:s=[]
 ·rw[hs];exact jap_ xs
 ·exact(y4_ hs).mpr ⟨x,hx,(List.prefix_append s [d]).trans hp⟩
theorem jll_ {xs:List Pat} {x:Pat} (h:x∈xs):x.1∈begs xs:=by
 by_cases hs:x.1=[]
 ·rw[hs];exact jap_ xs
 ·exact(y4_ hs).mpr ⟨x,h,List.prefix_refl _⟩
theorem jhl_ {gs:List Pat} {s:List Nat} {ns:List Int} {z:List Nat}:jk_ (putG gs s ns) z=if z=s then some (s,ns) else jk_ gs z:=by
 unfold putG
 by_cases h:(gs.any fun g=>decide (g.1=s))=true
 ·rw[if_pos h]
  induction gs with
  | nil=>simp at h
  | cons g gs ih =>
   unfold jk_ at ih ⊢
   rw[pf_,qk_,qk_]
   by_cases hg:g.1=s
   ·rw[if_pos hg]
    by_cases hz:z=s
    ·rw[if_pos hz,decide_eq_true (show (g.1,ns).1=z from hg.trans hz.symm),hg]
    ·rw[if_neg hz,decide_eq_false (show ¬ (g.1,ns).1=z from fun q=>hz (q.symm.trans hg))]
     show lb_ (fun g=>decide (g.1=z)) (gs.map _)=lb_ (fun g=>decide (g.1=z)) gs
     by_cases ha:(gs.any fun g=>decide (g.1=s))=true
     ·have:=ih ha
      rw[if_neg hz] at this
      exact this
     ·have he:gs.map (fun g=>if g.1=s then (g.1,ns) else g)=gs:=by
       conv=>rhs;rw[<- k3_ gs]
       apply qo_
       intro y hy
       rw[if_neg]
       ·rfl
       ·intro q
        exact ha (t0_.mpr ⟨y,hy,decide_eq_true q⟩)
      rw[he]
   ·rw[if_neg hg]
    have ha:(gs.any fun g=>decide (g.1=s))=true:=by
     rw[s3_,decide_eq_false hg,k6_] at h;exact h
    have:=ih ha
    by_cases hz:z=s
    ·rw[if_pos hz] at this ⊢
     rw[decide_eq_false (show ¬ g.1=z from fun q=>hg (q.trans hz))]
     exact this
    ·rw[if_neg hz] at this ⊢
     rw[this]
 ·rw[if_neg h]
  unfold jk_
  rw[List.find?_append]
  by_cases hz:z=s
  ·rw[if_pos hz]
   have:lb_ (fun g:Pat=>decide (g.1=z)) gs=none:=by
    rw[sv_]
    intro y hy q
    exact h (t0_.mpr ⟨y,hy,by rw[hz] at q;exact q⟩)
   rw[this,Option.none_or,qk_,decide_eq_true (show (s,ns).1=z from hz.symm)]
  ·rw[if_neg hz]
   have:lb_ (fun g:Pat=>decide (g.1=z)) [(s,ns)]=none:=by
    rw[qk_,decide_eq_false (show ¬ (s,ns).1=z from fun q=>hz q.symm)];rfl
   rw[this,Option.or_none]
theorem z5_ {xs:List Pat} (hx:∀ x∈xs,x.2.length=x.1.length+1):∀ n,n<=xs.length->∀(z:List Nat),
  (jk_ (grt (xs.take n)) z=none->∀ x∈xs.take n,x.1≠z)/\(∀ g,jk_ (grt (xs.take n)) z=some g->g.2.length=z.length+1/\∀(j:Nat) (c:Int),j < z.length+1->(g.2.getD j 0<=c↔∀ x∈xs.take n,x.1=z->x.2.getD j 0<=c))
 | 0,_,z=>⟨fun _ x hx=>(by simp at hx),fun g h=>by
   have:jk_ (grt (xs.take 0)) z=none:=rfl
   rw[this] at h;cases h⟩
 | n+1,hn,z=>by
  have ih:=z5_ hx n (by omega)
  have hn':n < xs.length:=by omega
  have htk:xs.take (n+1)=xs.take n++[xs[n]]:=by rw[ra_,pc_ hn'];rfl
  have hxn:=hx _ (py_ hn')
  rw[htk,jbm_]
  generalize xs[n]=x at hxn ⊢
  unfold grtS
  rw[jhl_]
  by_cases hz:z=x.1
  ·rw[if_pos hz]
   refine⟨(fun q=>by cases q),fun g q=>?_⟩
   cases q
   obtain⟨ih1,ih2⟩:=ih x.1
   cases e:jk_ (grt (xs.take n)) x.1 with
   | none =>
    have hno:=ih1 e
    show (zs_ x.2 x.2).length=_/\∀(j:Nat) (c:Int),j < _->((zs_ x.2 x.2).getD j 0<=c↔_)
    refine⟨by rw[yg_ rfl,hxn,hz],fun j c hj=>?_⟩
    have hj':j < x.2.length:=by rw[hxn,<- hz];exact hj
    have h1:(zs_ x.2 x.2).getD j 0=x.2.getD j 0:=by
     rw[pe_,xp_ hj' hj',pe_,pc_ hj']
     show mx _ _=_
     unfold mx;split <;> rfl
    rw[h1]
    refine⟨fun h y hy hyz=>?_,fun h=>h x (pq_.mpr (.inr (by simp))) hz.symm⟩
    rcases pq_.mp hy with q | q
    ·exact absurd (hyz.trans hz) (hno y q)
    ·have:y=x:=by simpa using q
     rw[this];exact h
   | some g0 =>
    obtain⟨hl0,hg0⟩:=ih2 g0 e
    have hl:g0.2.length=x.2.length:=by rw[hl0,hxn]
    show (zs_ g0.2 x.2).length=_/\∀(j:Nat) (c:Int),j < _->((zs_ g0.2 x.2).getD j 0<=c↔_)
    refine⟨by rw[yg_ hl,hl0,hz],fun j c hj=>?_⟩
    have hj':j < x.2.length:=by rw[hxn,<- hz];exact hj
    have hj0:j < g0.2.length:=by rw[hl];exact hj'
    have h1:(zs_ g0.2 x.2).getD j 0=mx (g0.2.getD j 0) (x.2.getD j 0):=by
     rw[pe_,xp_ hj0 hj',pe_,pc_ hj0,pe_,pc_ hj'];rfl
    rw[h1,mx_le,hg0 j c (by rw[<- hz];exact hj)]
    refine⟨fun h y hy hyz=>?_,fun h=>⟨fun y hy hyz=>h y (pq_.mpr (.inl hy)) (hyz.trans hz.symm),h x (pq_.mpr (.inr (by simp))) hz.symm⟩⟩
    rcases pq_.mp hy with q | q
    ·exact h.1 y q (hyz.trans hz)
    ·have:y=x:=by simpa using q
     rw[this];exact h.2
  ·rw[if_neg hz]
   obtain⟨ih1,ih2⟩:=ih z
   refine⟨fun q y hy=>?_,fun g q=>⟨(ih2 g q).1,fun j c hj=>?_⟩⟩
   ·rcases pq_.mp hy with h | h
    ·exact ih1 q y h
    ·have:y=x:=by simpa using h
     rw[this];exact fun w=>hz w.symm
   ·rw[(ih2 g q).2 j c hj]
    refine⟨fun h y hy hyz=>?_,fun h y hy=>h y (pq_.mpr (.inl hy))⟩
    rcases pq_.mp hy with h' | h'
    ·exact h y h' hyz
    ·have:y=x:=by simpa using h'
     rw[this] at hyz;exact absurd hyz.symm hz
theorem mem_places {p f:List Nat} {b:Nat}:b∈j2_ p f↔b < f.length/\b+p.length<=f.length/\(f.drop b).take p.length=p:=by
 unfold j2_ fits
 rw[t8_,p4_]
 simp
end L2
namespace L2
open PySem PySem.Spec PyProof.Rows
open Sem (wp)
open AutoSeq1 (wpAny_loadPart')
set_option maxHeartbeats 4000000 in
theorem jjb_ (l:Addr) (items:Array Value) (n:Nat) (dct:Option Addr) (sl:Array (Option Value)) :
  Meets (Builtin.«enumerate.__new__» ⟨[.type "enumerate",.ref l],[]⟩) (fun _ R s=>s.heap.get? l=some { cls:=.type "tuple",dict:=dct,data:=.seq items n,slots:=sl } /\
   R (.ok (.ret (.ref (s.heap.push { cls:=.type "tuple_iterator",data:=.fields #[.ref l,.int 0 0] }).objs.size)))
    { s with heap:=(s.heap.push { cls:=.type "tuple_iterator",data:=.fields #[.ref l,.int 0 0] }).push { cls:=.type "enumerate",data:=.fields #[.none,.bool false,.ref s.heap.objs.size,rawInt 0,.none,.none] } }) :=
 .of_wp fun prog w A R s h=>by
  obtain⟨hp,g,d,tk,os⟩:=s;obtain⟨hl,h⟩:=h
  have hsub:=sub_enumerate
  have hL:lh_ (w1_ ⟨hp,g,d,tk,os⟩) l items:=⟨_,hl,rfl,n,rfl⟩
  wp_walk using wpAny_loadPart' hl
  refine wpAny_stack_any fun st=>wpAny_pure ?_
  split
  ·rename_i c _ _ _ _ _
   cases (c == Value.type "enumerate")
   ·wp_walk using wpAny_loadPart' hl,wpAny_pyIter_tuple hL
    exact⟨_,rfl,h⟩
   ·wp_walk using wpAny_loadPart' hl,wpAny_pyIter_tuple hL
    exact⟨_,rfl,h⟩
  ·wp_walk using wpAny_loadPart' hl,wpAny_pyIter_tuple hL
   exact⟨_,rfl,h⟩
set_option maxHeartbeats 4000000 in
theorem jia_ (l:Addr) (items:Array Value) (n:Nat) (dct:Option Addr) (sl:Array (Option Value)) :
  Meets (Builtin.«enumerate.__new__» ⟨[.type "enumerate",.ref l],[]⟩) (fun _ R s=>s.heap.get? l=some { cls:=.type "list",dict:=dct,data:=.seq items n,slots:=sl } /\
   R (.ok (.ret (.ref (s.heap.push { cls:=.type "list_iterator",data:=.fields #[.ref l,.int 0 0] }).objs.size)))
    { s with heap:=(s.heap.push { cls:=.type "list_iterator",data:=.fields #[.ref l,.int 0 0] }).push { cls:=.type "enumerate",data:=.fields #[.none,.bool false,.ref s.heap.objs.size,rawInt 0,.none,.none] } }) :=
 .of_wp fun prog w A R s h=>by
  obtain⟨hp,g,d,tk,os⟩:=s;obtain⟨hl,h⟩:=h
  have hsub:=sub_enumerate
  have hL:Heap.IsList (w1_ ⟨hp,g,d,tk,os⟩) l items:=⟨_,hl,rfl,n,rfl⟩
  wp_walk using wpAny_loadPart' hl
  refine wpAny_stack_any fun st=>wpAny_pure ?_
  split
  ·rename_i c _ _ _ _ _
   cases (c == Value.type "enumerate")
   ·wp_walk using wpAny_loadPart' hl,wpAny_pyIter_list hL
    exact⟨_,rfl,h⟩
   ·wp_walk using wpAny_loadPart' hl,wpAny_pyIter_list hL
    exact⟨_,rfl,h⟩
  ·wp_walk using wpAny_loadPart' hl,wpAny_pyIter_list hL
   exact⟨_,rfl,h⟩
theorem jsh_ (a:Value):checkTypeCall "enumerate" ⟨[a],[]⟩=pure ():=by kernel_rfl
theorem jsn_ (a:Value):checkBuiltinCall "enumerate.__new__" ⟨[.type "enumerate",a],[]⟩=pure ():=by kernel_rfl
section
variable {prog:Program} {w:World} {A:Around} {E:Value->Shared->Prop} {s:Shared}
theorem jfb_ {l:Addr} {items:Array Value} {Q:Value->Shared->Prop} (hL:s.heap.IsTuple l items)
  (h:∀ h',IsEnum h' (s.heap.objs.size+1) s.heap.objs.size 0 .none->h'.IsTupleIter s.heap.objs.size l 0->(∀ b o,s.heap.get? b=some o->h'.get? b=some o)->Q (.ref (s.heap.objs.size+1)) { s with heap:=h' }) :
  wpAny (model prog w) A (call (.type "enumerate") [.ref l]) Q E s:=by
 obtain⟨⟨c,dct,dt,sl⟩,hl,hc,n,hd⟩:=hL
 simp only at hc hd
 subst hc hd
 refine xs_ (Q₁:=fun obj s₁=>s₁.TypeIs obj "enumerate"/\Q obj s₁) qu_ (jsh_ _) (jsn_ _) sz_ tc_ (jjb_ l items n dct sl) ⟨hl,?_⟩
  fun obj s₁ hq=>⟨hq.1,F.args_object_init_2 obj _,_,jkm_ qu_.init.lookup qu_.made (by decide),hq.1,rfl,hq.2⟩
 have hz:(s.heap.push { cls:=.type "tuple_iterator",data:=.fields #[.ref l,.int 0 0] }).objs.size=s.heap.objs.size+1:=q9_ ..
 show _/\_
 rw[hz]
 have he:IsEnum ((s.heap.push { cls:=.type "tuple_iterator",data:=.fields #[.ref l,.int 0 0] }).push { cls:=.type "enumerate",data:=.fields #[.none,.bool false,.ref s.heap.objs.size,rawInt 0,.none,.none] }) (s.heap.objs.size+1) s.heap.objs.size 0 .none:=by
  have:=pk_ (s.heap.push { cls:=.type "tuple_iterator",data:=.fields #[.ref l,.int 0 0] }) (o:={ cls:=.type "enumerate",data:=.fields #[.none,.bool false,.ref s.heap.objs.size,rawInt 0,.none,.none] }) rfl
  rw[hz] at this;exact this
 exact⟨⟨_,he,rfl⟩,h _ he ⟨_,pa_ _ (pk_ _ rfl),rfl,rfl⟩ fun b o x=>pa_ _ (pa_ _ x)⟩
theorem jgi_ {l:Addr} {items:Array Value} {Q:Value->Shared->Prop} (hL:s.heap.IsList l items)
  (h:∀ h',IsEnum h' (s.heap.objs.size+1) s.heap.objs.size 0 .none->h'.IsListIter s.heap.objs.size l 0->(∀ b o,s.heap.get? b=some o->h'.get? b=some o)->Q (.ref (s.heap.objs.size+1)) { s with heap:=h' }) :
  wpAny (model prog w) A (call (.type "enumerate") [.ref l]) Q E s:=by
 obtain⟨⟨c,dct,dt,sl⟩,hl,hc,n,hd⟩:=hL
 simp only at hc hd
 subst hc hd
 refine xs_ (Q₁:=fun obj s₁=>s₁.TypeIs obj "enumerate"/\Q obj s₁) qu_ (jsh_ _) (jsn_ _) sz_ tc_ (jia_ l items n dct sl) ⟨hl,?_⟩
  fun obj s₁ hq=>⟨hq.1,F.args_object_init_2 obj _,_,jkm_ qu_.init.lookup qu_.made (by decide),hq.1,rfl,hq.2⟩
 have hz:(s.heap.push { cls:=.type "list_iterator",data:=.fields #[.ref l,.int 0 0] }).objs.size=s.heap.objs.size+1:=q9_ ..
 show _/\_
 rw[hz]
 have he:IsEnum ((s.heap.push { cls:=.type "list_iterator",data:=.fields #[.ref l,.int 0 0] }).push { cls:=.type "enumerate",data:=.fields #[.none,.bool false,.ref s.heap.objs.size,rawInt 0,.none,.none] }) (s.heap.objs.size+1) s.heap.objs.size 0 .none:=by
  have:=pk_ (s.heap.push { cls:=.type "list_iterator",data:=.fields #[.ref l,.int 0 0] }) (o:={ cls:=.type "enumerate",data:=.fields #[.none,.bool false,.ref s.heap.objs.size,rawInt 0,.none,.none] }) rfl
  rw[hz] at this;exact this
 exact⟨⟨_,he,rfl⟩,h _ he ⟨_,pa_ _ (pk_ _ rfl),rfl,rfl⟩ fun b o x=>pa_ _ (pa_ _ x)⟩
end
section
variable {X:Cx}
def jpa_ (te:TE):TI:=fun σ H R=>te σ H (ul_ 0 R)
theorem jpb_ {elts:List Expr} {k:Nat} {tpos:Pos} {a:Expr} {ta:TE} {p pos:Pos} (hg:Gl X "enumerate") (hm:X.mg "enumerate"=none) (ha:PE X a ta) (hs:starEach [a] X.env=[(false,eval a X.env)]:=by rfl) :
  PI X (.Tuple elts k tpos) (.Call (.Name "enumerate" p) [a] [] pos) (jpa_ ta):=by
 intro pins s σ H R I h
 refine Call_ (yw_ I hg hm boot_enumerate (qx_ ?_ hs rfl))
 rw[hs]
 show wpAny _ _ (spliced ((false,eval a X.env)::backTo pos (starEach [] X.env))) _ _ s
 refine q2_ (thn (ha pins s σ H _ I h) fun u s2 ⟨x,H2,I2,ru,q2⟩=>rm_ ?_)
 unfold ul_ at q2
 split at q2
 ·rename_i l
  cases ru
  have fp:∀ b∈[s2.heap.objs.size+1,s2.heap.objs.size],FpOk X pins H2 b:=fun b hb=>by
   have:s2.heap.objs.size<=b:=by
    rcases pt_.mp hb with z | z
    ·rw[z];exact k1_ _
    ·have z':b=s2.heap.objs.size:=by simpa using z
     rw[z'];exact pg_ _
   exact I2.fpOk this (I2.hok.fresh this)
  rcases q2 with ⟨xs,hl,q2⟩ | ⟨xs,hl,q2⟩
  ·obtain⟨its,rv,pl,hz⟩:=I2.list (SqL.of hl)
   refine jgi_ pl.isList fun h1 he hit hk=>?_
   refine wpAny_pyIter_enum he ?_
   refine⟨s2.heap.objs.size+1,[s2.heap.objs.size+1,s2.heap.objs.size],_,_,H2,rfl,I2.kept (t':=s2.toks) hk,xt_ (b:=0) (ok:=fun H=>H l=some (.lst xs)) (xs:=xs) (St0:=fun i h=>h.IsListIter s2.heap.objs.size l i) (ty_ _) ?_ ?_ ?_,⟨⟨.none,he⟩,hit⟩,fp,q2⟩
   ·intro X' h1 h2 h3 hc i pins s σ H I ok hn st
    exact h1▸h2▸jfr_ hc I (SqL.of ok) hn (by rw[ok];exact fun z=>nomatch z) st
   ·intro i h st
    obtain⟨o,ho,hc,hd⟩:=st
    exact⟨o,ho,fun v q=>by rw[hd] at q;cases q⟩
   ·intro i h h' st kk
    exact st.at kk
  ·obtain⟨its,rv,pl,hz⟩:=I2.tuple (SqT.of hl)
   refine jfb_ pl fun h1 he hit hk=>?_
   refine wpAny_pyIter_enum he ?_
   refine⟨s2.heap.objs.size+1,[s2.heap.objs.size+1,s2.heap.objs.size],_,_,H2,rfl,I2.kept (t':=s2.toks) hk,xt_ (b:=0) (ok:=fun H=>H l=some (.tup xs)) (xs:=xs) (St0:=fun i h=>h.IsTupleIter s2.heap.objs.size l i) (ty_ _) ?_ ?_ ?_,⟨⟨.none,he⟩,hit⟩,fp,q2⟩
   ·intro X' h1 h2 h3 hc i pins s σ H I ok hn st
    exact h1▸h2▸u3_ hc I (SqT.of ok) hn (by rw[ok];exact fun z=>nomatch z) st
   ·intro i h st
    obtain⟨o,ho,hc,hd⟩:=st
    exact⟨o,ho,fun v q=>by rw[hd] at q;cases q⟩
   ·intro i h h' st kk
    exact st.at kk
 ·exact q2.elim
end
end L2
namespace L2
open PySem PySem.Spec PyProof.Rows
structure Dm (P:Program) (w:World) (K:pd_) (mg:Str->Option Value) (base:Heap) (C:Addr) (m:Str) (k:Nat) (ps:List Str) (sp:Sp):Prop where
 ex:∃(f:Addr) (fd:FuncData),Meth K C m f/\Binds K fd ps []/\FnOk P w K mg base CX0 k f fd ps sp
structure Dk (P:Program) (w:World) (K:pd_) (mg:Str->Option Value) (base:Heap) (C:Addr) (k:Nat) (ps:List Str) (sp:Sp):Prop where
 ex:∃(f:Addr) (fd:FuncData),Mk K C f/\Binds K fd ps []/\FnOk P w K mg base CX0 k f fd ps sp
section
variable {X:Cx} {k:Nat} {C:Addr} {ps:List Str} {sp:Sp} {x m:Str} {p pos apos:Pos} {e o:Expr} {es:List Expr} {ta:TE} {t:TA}
end
section
variable {σ:St} {H:Hp} {Q:VK} {D:Ends}
end
end L2
namespace L2
open PySem
open Sem (wp)
structure ZA (z TI TO i1 i2:Addr) (f1 f2:List Addr):Prop where
 TIz:TI≠z
 TOz:TO≠z
 i1z:i1≠z
 i2z:i2≠z
 TITO:TI≠TO
 TIi1:TI≠i1
 TIi2:TI≠i2
 TOi1:TO≠i1
 TOi2:TO≠i2
 i12:i1≠i2
 zf1:z∉f1
 zf2:z∉f2
 of1:TO∉f1
 of2:TO∉f2
 i1f2:i1∉f2
 i2f1:i2∉f1
theorem Draws.still {P:Program} {w:World} {A:Around} {it c:Addr} {fp:List Addr} {n i:Nat} {Pv:Nat->Value->Prop} {St:Nat->Heap->Prop} {h h':Heap} (D:Draws P w A it fp n Pv St) (st:St i h) (k:Heap.ExtBut c h h') (hc:c∉fp):St i h' :=
 D.frame _ _ _ st fun b hb o e=>k b o (fun z=>hc (z▸hb)) e
section
variable {prog:Program} {w:World} {A:Around} {E:Value->Shared->Prop} {s:Shared}
theorem jml_ {z TI TO i1 i2:Addr} {f1 f2:List Addr} {n1 n2 k1 k2:Nat} {P1 P2:Nat->Value->Prop} {S1 S2:Nat->Heap->Prop} {a b:Value} {Q:Value->Shared->Prop}
  (D1:Draws prog w A i1 f1 n1 P1 S1) (D2:Draws prog w A i2 f2 n2 P2 S2) (Z:ZA z TI TO i1 i2 f1 f2)
  (hz:IsZip s.heap z TI TO .none) (hTI:IsPair s.heap TI (.ref i1) (.ref i2)) (hTO:IsPair s.heap TO a b) (h1:S1 k1 s.heap) (h2:S2 k2 s.heap) (l1:k1 < n1) (l2:k2 < n2)
  (hQ:∀ x y h' tk,P1 k1 x->P2 k2 y->IsZip h' z TI TO (rawInt s.heap.objs.size)->IsPair h' TO x y->S1 (k1+1) h'->S2 (k2+1) h'->IsPair h' s.heap.objs.size x y ->
   (∀ c o,c≠z->c≠TO->c≠i1->c≠i2->s.heap.get? c=some o->h'.get? c=some o)->Q (.ref s.heap.objs.size) { s with heap:=h',toks:=tk }) :
  wpAny (model prog w) A (Builtin.«zip.__next__» ⟨[.ref z],[]⟩) (fun fin s'=>∃ v,fin=.done (.ret v)/\Q v s') E s:=by
 show wpAny _ _ (field (.ref z) 2 >>= _) _ _ _
 refine wpAny_bind (wpAny_field hz rfl (x:=.bool false) rfl ?_)
 show wpAny _ _ (field (.ref z) 3 >>= _) _ _ _
 refine wpAny_bind (wpAny_field hz rfl (x:=.ref TI) rfl (wpAny_bind (wpAny_seqItems hTI rfl ?_)))
 show wpAny _ _ (ps_ (.ref z) >>= _) _ _ _
 refine wpAny_bind ?_
 unfold ps_
 refine wpAny_bind (wpAny_field hz rfl (x:=.none) rfl (wpAny_pure ?_))
 simp only[if_true]
 refine wpAny_bind (wpAny_rule (wpAny_bind (wpAny_field hz rfl (x:=.ref TO) rfl (wpAny_bind (wpAny_setField_rec hz (by simp) fun g1 zg1 b1=>?_)))))
 have zg1':IsZip g1 z TI TO .ellipsis:=zg1
 refine wpAny_bind ?_
 simp only[tb_,wa_,rd_,sq_]
 refine wpAny_bind (wpAny_bind (wpAny_onRaise ?_))
 show wpAny _ _ (px_ (.ref i1) >>= _) _ _ _
 refine wpAny_bind (D1.item k1 _ _ _ l1 (Draws.still D1 h1 b1.extBut Z.zf1) fun x g2 tk1 hx h1' b2=>wpAny_pure ?_)
 have to2:IsPair g2 TO a b:=b2.extBut _ _ Z.TOi1 (b1.extBut _ _ Z.TOz hTO)
 refine wpAny_bind (wpAny_seqItems to2 rfl (wpAny_bind (wpAny_updateSeq_pair to2 fun g3 to3 b3=>?_)))
 have to3':IsPair g3 TO x b:=to3
 refine wpAny_bind (wpAny_letGo (wpAny_pure ?_))
 refine wpAny_bind (wpAny_bind (wpAny_onRaise ?_))
 show wpAny _ _ (px_ (.ref i2) >>= _) _ _ _
 refine wpAny_bind (D2.item k2 _ _ _ l2 (Draws.still D2 (Draws.still D2 (Draws.still D2 h2 b1.extBut Z.zf2) b2.extBut Z.i1f2) b3.extBut Z.of2) fun y g4 tk2 hy h2' b4=>wpAny_pure ?_)
 have to4:IsPair g4 TO x b:=b4.extBut _ _ Z.TOi2 to3'
 refine wpAny_bind (wpAny_seqItems to4 rfl (wpAny_bind (wpAny_updateSeq_pair to4 fun g5 to5 b5=>?_)))
 have to5':IsPair g5 TO x y:=to5
 refine wpAny_bind (wpAny_letGo (wpAny_pure (wpAny_pure ?_)))
 refine wpAny_bind (wpAny_seqItems to5' rfl (wpAny_bind (wpAny_newTuple ?_)))
 have sz:g5.objs.size=s.heap.objs.size:=by rw[b5.1,b4.1,b3.1,b2.1,b1.1]
 have zg5:IsZip g5 z TI TO .ellipsis:=b5.extBut _ _ Z.TOz.symm (b4.extBut _ _ Z.i2z.symm (b3.extBut _ _ Z.TOz.symm (b2.extBut _ _ Z.i1z.symm zg1')))
 have kp:∀ c o,c≠z->c≠TO->c≠i1->c≠i2->s.heap.get? c=some o->g5.get? c=some o:=fun c o c1 c2 c3 c4 e =>
  b5.extBut _ _ c2 (b4.extBut _ _ c4 (b3.extBut _ _ c2 (b2.extBut _ _ c3 (b1.extBut _ _ c1 e))))
 have s1:S1 (k1+1) g5:=Draws.still D1 (Draws.still D1 (Draws.still D1 h1' b3.extBut Z.of1) b4.extBut Z.i2f1) b5.extBut Z.of1
 have s2:S2 (k2+1) g5:=Draws.still D2 h2' b5.extBut Z.of2
 have zlt:z < g5.objs.size:=pm_ zg5
 show wpAny _ _ (re_ (.ref z) (.ref g5.objs.size) >>= _) _ _ _
 refine wpAny_bind ?_
 unfold re_
 have zg6:IsZip (g5.push { cls:=.type "tuple",data:=.seq #[x,y] }) z TI TO .ellipsis:=pa_ _ zg5
 refine wpAny_bind (wpAny_setField_rec zg6 (by simp) fun g7 zg7 b7=>?_)
 have zg7':IsZip g7 z TI TO (rawInt g5.objs.size):=zg7
 refine wpAny_setField_rec zg7' (by simp) fun g8 zg8 b8=>?_
 have zg8':IsZip g8 z TI TO (rawInt g5.objs.size):=zg8
 have up:∀ c o,c≠z->g5.get? c=some o->g8.get? c=some o:=fun c o c1 e=>b8.extBut _ _ c1 (b7.extBut _ _ c1 (pa_ _ e))
 have tp:IsPair g8 g5.objs.size x y:=b8.extBut _ _ (we_ zlt) (b7.extBut _ _ (we_ zlt) (pk_ _ rfl))
 rw[sz] at zg8' tp
 refine wpAny_pure ⟨_,rfl,?_⟩
 show Q (.ref g5.objs.size) _
 rw[sz]
 exact hQ x y g8 _ hx hy zg8' (up _ _ Z.TOz to5') (D1.frame _ _ _ s1 fun c hc o e=>up c o (fun q=>Z.zf1 (q▸hc)) e) (D2.frame _ _ _ s2 fun c hc o e=>up c o (fun q=>Z.zf2 (q▸hc)) e) tp fun c o c1 c2 c3 c4 e=>up c o c1 (kp c o c1 c2 c3 c4 e)
theorem jnb_ {z TI TO i1 i2:Addr} {f1 f2:List Addr} {n1 n2 k:Nat} {P1 P2:Nat->Value->Prop} {S1 S2:Nat->Heap->Prop} {a b:Value} {Q:Fin->Shared->Prop}
  (D1:Draws prog w A i1 f1 n1 P1 S1) (D2:Draws prog w A i2 f2 n2 P2 S2) (Z:ZA z TI TO i1 i2 f1 f2)
  (hz:IsZip s.heap z TI TO .none) (hTI:IsPair s.heap TI (.ref i1) (.ref i2)) (hTO:IsPair s.heap TO a b) (h1:S1 k s.heap) (h2:S2 k s.heap) (hk:k=min n1 n2)
  (hE:∀ h' e tk,(∀ c o,c≠z->c≠TO->c≠i1->c≠i2->s.heap.get? c=some o->h'.get? c=some o)->(∃ o,h'.get? e=some o/\o.cls=.type "StopIteration")->E (.ref e) { s with heap:=h',toks:=tk }) :
  wpAny (model prog w) A (Builtin.«zip.__next__» ⟨[.ref z],[]⟩) Q E s:=by
 show wpAny _ _ (field (.ref z) 2 >>= _) _ _ _
 refine wpAny_bind (wpAny_field hz rfl (x:=.bool false) rfl ?_)
 show wpAny _ _ (field (.ref z) 3 >>= _) _ _ _
 refine wpAny_bind (wpAny_field hz rfl (x:=.ref TI) rfl (wpAny_bind (wpAny_seqItems hTI rfl ?_)))
 show wpAny _ _ (ps_ (.ref z) >>= _) _ _ _
 refine wpAny_bind ?_
 unfold ps_
 refine wpAny_bind (wpAny_field hz rfl (x:=.none) rfl (wpAny_pure ?_))
 simp only[if_true]
 refine wpAny_bind (wpAny_rule (wpAny_bind (wpAny_field hz rfl (x:=.ref TO) rfl (wpAny_bind (wpAny_setField_rec hz (by simp) fun g1 zg1 b1=>?_)))))
 have zg1':IsZip g1 z TI TO .ellipsis:=zg1
 refine wpAny_bind ?_
 simp only[tb_,wa_,rd_,sq_]
 refine wpAny_bind (wpAny_bind (wpAny_onRaise ?_))
 show wpAny _ _ (px_ (.ref i1) >>= _) _ _ _
 have h1g:=Draws.still D1 h1 b1.extBut Z.zf1
 by_cases c:n1<=n2
 ·have e:k=n1:=by omega
  subst e
  refine wpAny_bind (D1.done _ _ _ h1g fun g2 e b2 he=>?_)
  obtain⟨oe,hoe,hce⟩:=he
  have zg2:IsZip g2 z TI TO .ellipsis:=b2 _ _ Z.i1z.symm zg1'
  have hez:e≠z:=fun x=>by subst x;rw[zg2] at hoe;cases hoe;simp at hce
  exact wpAny_setField_rec zg2 (by simp) fun g3 _ b3=>hE g3 e _ (fun c o c1 _ c3 _ x=>b3.extBut _ _ c1 (b2 _ _ c3 (b1.extBut _ _ c1 x))) ⟨oe,b3.extBut _ _ hez hoe,hce⟩
 ·have e:k=n2:=by omega
  subst e
  refine wpAny_bind (D1.item k _ _ _ (by omega) h1g fun x g2 tk1 hx h1' b2=>wpAny_pure ?_)
  have to2:IsPair g2 TO a b:=b2.extBut _ _ Z.TOi1 (b1.extBut _ _ Z.TOz hTO)
  refine wpAny_bind (wpAny_seqItems to2 rfl (wpAny_bind (wpAny_updateSeq_pair to2 fun g3 to3 b3=>?_)))
  refine wpAny_bind (wpAny_letGo (wpAny_pure ?_))
  refine wpAny_bind (wpAny_bind (wpAny_onRaise ?_))
  show wpAny _ _ (px_ (.ref i2) >>= _) _ _ _
  refine wpAny_bind (D2.done _ _ _ (Draws.still D2 (Draws.still D2 (Draws.still D2 h2 b1.extBut Z.zf2) b2.extBut Z.i1f2) b3.extBut Z.of2) fun g4 e b4 he=>?_)
  obtain⟨oe,hoe,hce⟩:=he
  have zg4:IsZip g4 z TI TO .ellipsis:=b4 _ _ Z.i2z.symm (b3.extBut _ _ Z.TOz.symm (b2.extBut _ _ Z.i1z.symm zg1'))
  have hez:e≠z:=fun x=>by subst x;rw[zg4] at hoe;cases hoe;simp at hce
  exact wpAny_setField_rec zg4 (by simp) fun g5 _ b5=>hE g5 e _ (fun c o c1 c2 c3 c4 x=>b5.extBut _ _ c1 (b4 _ _ c4 (b3.extBut _ _ c2 (b2.extBut _ _ c3 (b1.extBut _ _ c1 x))))) ⟨oe,b5.extBut _ _ hez hoe,hce⟩
end
theorem jek_ {h:Heap} {l:Addr} {ys:Array Value} (hl:h.IsTuple l ys) (o:Obj):(h.push o).IsTuple l ys:=by
 obtain⟨u,e,r⟩:=hl
 exact⟨u,pa_ _ e,r⟩
set_option maxHeartbeats 4000000 in
section
variable {prog:Program} {w:World} {A:Around} {E:Value->Shared->Prop} {s:Shared}
end
end L2
namespace L2
open PySem PySem.Spec PyProof.Rows
def Izp (xs ys:List V) (ok:Hp->Prop):It :=
 ⟨fun i H=>ok H/\i < xs.length/\i < ys.length,fun i H x H'=>∃ T u v,H T=none/\xs[i]?=some u/\ys[i]?=some v/\x=.ref T/\H'=upd H T (.tup [u,v]),fun i H=>ok H/\i=min xs.length ys.length⟩
theorem zn1 {n i j:Nat} (h:i≠j):n+i≠n+j:=by omega
theorem zn2 {n j:Nat} (h:0≠j):n≠n+j:=by omega
theorem zn3 {n j:Nat} (h:0≠j):n+j≠n:=by omega
section
variable {X:Cx}
end
theorem jnh_ {xs ys:List V} {ok:Hp->Prop} {p:Addr} {g:TG} {tc:TT} {te:TE} {Q:VK} {σ0:St} {H0:Hp} (n:Nat) (hn:n=min xs.length ys.length) (Pv:Nat->List V->St->Hp->Prop)
  (hok:∀ i acc σ H,i<=n->Pv i acc σ H->ok H) (h0:Pv 0 [] σ0 H0) (hp:∀ i acc σ H,Pv i acc σ H->H p=some (.lst acc)/\acc.length<=i) (hz:n<=sizeLine)
  (hs:∀ i u v acc σ H T,xs[i]?=some u->ys[i]?=some v->Pv i acc σ H->H T=none->g (.ref T) σ (upd H T (.tup [u,v])) fun σ3 H3=>tc σ3 H3 fun bb H4 =>
   if bb=true then te σ3 H4 fun v H5=>H5 p=some (.lst acc)/\Pv (i+1) (acc++[v]) σ3 (upd H5 p (.lst (acc++[v]))) else Pv (i+1) acc σ3 H4)
  (hd:∀ acc σ H,Pv n acc σ H->Q (.ref p) H):yo_ (Izp xs ys ok) p g tc te Q σ0 H0:=by
 refine⟨fun i m acc σ H=>m=n - i/\i<=n/\Pv i acc σ H,⟨n,by simp,ri_ _,h0⟩,fun i m acc σ' H' w=>?_⟩
 obtain⟨rfl,hi,q⟩:=w
 obtain⟨q1,q2⟩:=hp i acc σ' H' q
 have ho:=hok i acc σ' H' hi q
 refine⟨q1,?_⟩
 by_cases hlt:i < n
 ·refine .inr ⟨⟨ho,by omega,by omega⟩,by omega,Pv (i+1),fun a' σ3 H3 k=>⟨n - (i+1),by omega,rfl,hlt,k⟩,fun x H2 y=>?_⟩
  obtain⟨T,u,v,hT,hu,hv,rfl,rfl⟩:=y
  exact hs i u v acc σ' H' T hu hv q hT
 ·have e:i=n:=by omega
  subst e
  exact .inl ⟨⟨ho,hn⟩,hd acc σ' H' q⟩
end L2
namespace L2
open PySem PySem.Spec PyProof.Rows
def ints?:List V->Option (List Int)
 | []=>some []
 | .int i::r=>(ints? r).map (i::·)
 | _=>none
theorem ints?_of:∀{xs:List V} {ns:List Int},ints? xs=some ns->xs=ns.map V.int
 | [],ns,h=>by cases h;rfl
 | x::r,ns,h=>by
  cases x with
  | int i =>
   simp only[ints?,kd_] at h
   obtain⟨l,hl,rfl⟩:=h
   rw[ints?_of hl];rfl
  | _=>simp[ints?] at h
theorem ints?_map:∀ ns:List Int,ints? (ns.map V.int)=some ns
 | []=>rfl
 | n::ns=>by simp only[pf_,ints?,ints?_map ns];rfl
def jpc_ (le:Int->Int->Prop):List V->Hp->VK->Prop:=fun xs H Q=>match xs with
 | [.ref p]=>(match tupR H p with
  | some ys=>(match ints? ys with
   | some ns=>ns≠[]/\∀ m,m∈ns->(∀ n∈ns,le n m)->Q (.int m) H
   | none=>False)
  | none=>False)
 | _=>False
theorem jul_ {le:Int->Int->Prop} {H:Hp} {Q:VK} {p:Addr} {ns:List Int} (h:H p=some (.tup (ns.map V.int))) (h0:ns≠[]) (q:∀ m,m∈ns->(∀ n∈ns,le n m)->Q (.int m) H):jpc_ le [.ref p] H Q:=by
 have e:tupR H p=some (ns.map V.int):=by unfold tupR;rw[h]
 show match tupR H p with | some ys=>(match ints? ys with | some ns=>_ | none=>False) | none=>False
 rw[e]
 show match ints? (ns.map V.int) with | some ns=>_ | none=>False
 rw[ints?_map]
 exact⟨h0,q⟩
section
variable {X:Cx}
theorem juo_ (hc:X.calm=true):CallR X (.builtin "max") (jpc_ (·<=·)):=by
 intro pins s σ H xs us Q I r h
 unfold jpc_ at h
 split at h
 ·rename_i p
  split at h
  ·rename_i ys e
   split at h
   ·rename_i ns en
    obtain⟨h0,q⟩:=h
    obtain⟨u,rfl,ru⟩:=xc_ r
    cases ru
    obtain⟨its,rv,pl,hz⟩:=I.tuple (uv_ e)
    rw[ints?_of en] at rv
    have hlen:=rv.length
    rw[pb_] at hlen
    have hlt:p < s.heap.objs.size:=by obtain⟨o,ho,_⟩:=pl;exact pm_ ho
    have hval:∀(i:Nat) (v:Value),its.toArray[i]?=some v->∃ t,v=.int (ns.getD i 0) t:=fun i v hv=>by
     have hv':its[i]?=some v:=by simpa using hv
     have hil:i < its.length:=(pl_.mp hv').1
     obtain⟨w',hw,t,rfl⟩:=rv.get (i:=i) (x:=V.int (ns.getD i 0)) (by rw[ph_];simp[pe_,show i < ns.length by omega])
     rw[hv'] at hw
     cases hw
     exact⟨t,rfl⟩
    have hpos:0 < ns.length:=ro_.mpr h0
    refine call_max_walk (wpAny_pyIter_tuple pl ?_)
    refine⟨s.heap.objs.size,_,_,_,_,_,_,rfl,Walks.tuple (A:=X.A.in1) (show X.A.in1.handled=none from I.ok.hd hc) s.heap.objs.size p (p7_ hlt) its.toArray,⟨⟨_,pk_ _ rfl,rfl,rfl⟩,?_⟩,?_,?_,CmpOf.ints_gt (fun i=>ns.getD i 0) hval,fun v h' tk hv k=>?_⟩
    ·obtain⟨o,ho,q⟩:=pl
     exact⟨o,pa_ _ ho,q⟩
    ·intro b hb
     have hs:(s.heap.push { cls:=.type "tuple_iterator",data:=.fields #[.ref p,.int 0 0] }).objs.size=s.heap.objs.size+1:=q9_ ..
     show b < (s.heap.push _).objs.size
     rw[hs]
     rcases pt_.mp hb with z | z
     ·rw[z];exact Nat.lt_succ_self _
     ·have z':b=p:=by simpa using z
      rw[z'];exact wp_ hlt
    ·rw[pi_];omega
    ·obtain⟨t,rfl⟩:=hval _ _ hv
     rw[pi_]
     obtain⟨b1,b2⟩:=argBest_gt (fun i=>ns.getD i 0) (its.length - 1)
     have I1:Inv X pins σ H { s with heap:=s.heap.push { cls:=.type "tuple_iterator",data:=.fields #[.ref p,.int 0 0] },toks:=s.toks }:=I.kept fun b u q=>pa_ _ q
     have f1:=I.fpOk (H':=H) (b:=s.heap.objs.size) (pg_ _) (I.hok.fresh (pg_ _))
     refine⟨.int _,H,I1.turned (t':=tk) (it:=s.heap.objs.size) (fun b o hb q=>k b o (by simpa using hb) q) f1.1 f1.2.1 f1.2.2.2.1 f1.2.2.2.2.1 f1.2.2.2.2.2,⟨_,rfl⟩,q _ ?_ fun n hn=>?_⟩
     ·rw[pe_,pc_ (show argBest _ _ < ns.length by omega)]
      exact py_ _
     ·obtain⟨j,hj,rfl⟩:=qp_ hn
      have:=b2 j (by omega)
      rw[pe_ (i:=j),pc_ hj] at this
      exact this
   ·exact h.elim
  ·exact h.elim
 ·exact h.elim
end
end L2
namespace L2
open PySem
end L2
namespace L2
open PySem PySem.Spec PyProof.Rows
section
variable {X:Cx}
end
end L2
namespace L2
open PySem PySem.Spec PyProof.Rows
structure View where
 t:List Nat
 b:Option Nat
 i:Int
 j:Int
end L2
namespace L2
open PySem PySem.Spec PyProof.Rows
end L2
namespace L2
open PySem PySem.Spec PyProof.Rows
section
variable {X:Cx}
theorem KV.key {κ:Type}:∀{kvs:List (κ×V)} {vs:List (κ×Value)},KV kvs vs->vs.map (·.1)=kvs.map (·.1):=by
 intro kvs vs r
 unfold KV at r
 induction r with
 | nil=>rfl
 | cons r t ih=>rw[pf_,pf_,ih,r.1]
theorem jhx_ {pins:List (Addr×Obj)} {σ:St} {H:Hp} {s:Shared} {a:Addr} {kvs:List (Key×V)} {A:Around} {E:Value->Shared->Prop} {R:List Value->Shared->Prop} (I:Inv X pins σ H s) (hh:A.handled=none) (e:H a=some (.dK kvs))
  (h:∀(h':Heap) (tk:Nat) (acc:List Value),(∀ b o,s.heap.get? b=some o->h'.get? b=some o)->acc.length=kvs.length->(∀(j:Nat) v,acc[j]?=some v->∃ p,kvs[j]?=some p/\RelV (kV p.1) v)->R acc { s with heap:=h',toks:=tk }) :
  wpAny (model X.prog X.w) A (collect (.ref a)) R E s:=by
 obtain⟨z,hd,vs,rel,dd⟩:=jgm_ I.hok e
 obtain⟨ep,hat⟩:=dd.dictAt
 have hk:=KV.key rel
 have hl:vs.length=kvs.length:=by rw[<- pb_ (f:=(·.1)),hk,pb_]
 refine PySem.W.kdu_collect (PySem.W.kdl_dict (knd:=jx_ X.prog X.w) (kvs:=vs) (ep:=ep) hd) hh hat (by rw[hl];exact z) fun h' tk acc hkk hacc=>?_
 refine h h' tk acc.toList hkk (by rw[sk_,hacc.1,hl]) fun j v hv=>?_
 obtain⟨k,x,hx,hi⟩:=hacc.2 j v (by rw[<- p9_];exact hv)
 have hj:(kvs.map (·.1))[j]?=some k:=by rw[<- hk,ph_,hx];rfl
 rw[ph_] at hj
 cases hp:kvs[j]? with
 | none=>rw[hp] at hj;cases hj
 | some p =>
  rw[hp] at hj
  have hj:p.1=k:=by injection hj
  refine⟨p,rfl,?_⟩
  rw[hj]
  rcases j4_ (show ug_ k v=true from hi) with ⟨i,t,rfl,rfl⟩ | ⟨y,t,rfl,rfl⟩
  ·exact⟨t,rfl⟩
  ·exact⟨t,rfl⟩
theorem u4_:∀{vs:List Value} {ns:List Str},StrsAre vs ns->Vals (ns.map V.str) vs
 | _,_,.nil=>.nil
 | _,_,.cons n t h=>.cons ⟨t,rfl⟩ (u4_ h)
end
end L2
set_option autoImplicit false
namespace PyProof.Rows
open PySem
abbrev SM (α:Type):=StateT SortSt Sem α
def u2_ (beyond:Nat->SM (Option Bool)) (n lo hi:Nat):SM (Option Nat):=do
 let mut lo:=lo
 let mut hi:=hi
 for _ in [0:n] do
  if lo≥hi then break
  let m:=lo+(hi - lo) / 2
  let some more <- beyond m | return none
  if more then lo:=m+1 else hi:=m
 return some hi
def jge_ (beyond:Nat->SM (Option Bool)) (n hint:Nat):SM (Option Nat):=do
 let mut lastofs:=0
 let mut ofs:=1
 let maxofs:=n - hint
 for _ in [0:n] do
  if ofs≥maxofs then break
  let some more <- beyond (hint+ofs) | return none
  if !more then break
  lastofs:=ofs
  ofs:=2 * ofs+1
 u2_ beyond n (hint+lastofs+1) (hint+min ofs maxofs)
def jka_ (beyond:Nat->SM (Option Bool)) (n hint:Nat):SM (Option Nat):=do
 let mut lastofs:=0
 let mut ofs:=1
 let maxofs:=hint+1
 for _ in [0:n] do
  if ofs≥maxofs then break
  let some found <- beyond (hint - ofs) | return none
  if found then break
  lastofs:=ofs
  ofs:=2 * ofs+1
 u2_ beyond n (hint+1 - min ofs maxofs) (hint - lastofs)
def galW (beyond:Nat->SM (Option Bool)) (n hint:Nat):SM (Option Nat):=do
 let some right <- beyond hint | return none
 if right then jge_ beyond n hint else jka_ beyond n hint
def jkw_ (left:Bool) (key:Keyed) (arr:Array Keyed) (base:Nat) (i:Nat):SM (Option Bool):=do
 let x <- elem' arr (base+i)
 if left then lt' x key else return (<- lt' key x).map (!·)
def zm_:Bool->Keyed->Array Keyed->Nat->Nat->Nat->SM (Option Nat):=sortPriv% PySem.Builtin.gallop
theorem jih_ (left:Bool) (key:Keyed) (arr:Array Keyed) (base n hint:Nat):zm_ left key arr base n hint=galW (jkw_ left key arr base) n hint:=rfl
section
variable {M:Model} {A:Around} {E:Value->Shared->Prop} {s:Shared} {beyond:Nat->SM (Option Bool)} {B:Nat->Bool} {n:Nat} {st:SortSt} {Q:Option Nat->SortSt->Prop}
theorem uq_ (hb:∀ i (Q:Option Bool->SortSt->Prop),i < n->Q (some (B i)) st->wpS M A E s (beyond i) Q st) (mono:∀ i j,i<=j->j < n->B j=true->B i=true) {lo hi:Nat} (h1:lo<=hi) (h2:hi<=n)
  (h3:∀ i,i < lo->B i=true) (h4:∀ i,hi<=i->i < n->B i=false) (h:∀ r,r<=n->(∀ i,i < r->B i=true)->(∀ i,r<=i->i < n->B i=false)->Q (some r) st):wpS M A E s (u2_ beyond n lo hi) Q st:=by
 unfold u2_
 refine wpS_bind (wpS_mono (wpS_forRange (I:=fun t c st'=>st'=st/\∃ lo hi,c=(none,lo,hi)/\lo<=hi/\hi<=n/\hi - lo<=n - t/\(∀ i,i < lo->B i=true)/\(∀ i,hi<=i->i < n->B i=false))
  (Q:=fun c st'=>st'=st/\∃ r,c=(none,r,r)/\r<=n/\(∀ i,i < r->B i=true)/\(∀ i,r<=i->i < n->B i=false)) ?step ?fin ⟨rfl,lo,hi,rfl,h1,h2,by omega,h3,h4⟩) ?post)
 case fin =>
  rintro c st' ⟨rfl,lo,hi,rfl,a1,a2,a3,a4,a5⟩
  have:lo=hi:=by omega
  subst this
  exact⟨rfl,lo,rfl,a2,a4,a5⟩
 case step =>
  rintro t c st' _ ht ⟨rfl,lo,hi,rfl,a1,a2,a3,a4,a5⟩
  dsimp only
  by_cases hge:lo≥hi
  ·rw[if_pos hge]
   have:lo=hi:=by omega
   subst this
   exact wpS_pure ⟨rfl,lo,rfl,a2,a4,a5⟩
  ·rw[if_neg hge]
   refine wpS_bind (hb _ _ (by omega) ?_)
   cases hm:B (lo+(hi - lo) / 2) with
   | true =>
    simp only[if_true]
    exact wpS_pure ⟨rfl,_,hi,rfl,by omega,a2,by omega,fun i hi'=>mono i (lo+(hi - lo) / 2) (by omega) (by omega) hm,a5⟩
   | false =>
    simp only[p0_,if_false]
    refine wpS_pure ⟨rfl,lo,_,rfl,by omega,by omega,by omega,a4,fun i h1 h2=>?_⟩
    cases hi':B i with
    | false=>rfl
    | true=>rw[mono _ i h1 h2 hi'] at hm;cases hm
 case post =>
  rintro c st' ⟨rfl,r,rfl,a1,a2,a3⟩
  exact wpS_pure (h r a1 a2 a3)
theorem jof_ (hb:∀ i (Q:Option Bool->SortSt->Prop),i < n->Q (some (B i)) st->wpS M A E s (beyond i) Q st) (mono:∀ i j,i<=j->j < n->B j=true->B i=true) {hint:Nat} (hh:hint < n)
  (h:∀ r,r<=n->(∀ i,i < r->B i=true)->(∀ i,r<=i->i < n->B i=false)->Q (some r) st):wpS M A E s (galW beyond n hint) Q st:=by
 unfold galW
 refine wpS_bind (hb _ _ hh ?_)
 cases h0:B hint with
 | true =>
  simp only[if_true]
  unfold jge_
  refine wpS_bind (wpS_mono (wpS_forRange (I:=fun t c st'=>st'=st/\∃ la of',c=(none,la,of')/\la < of'/\t+1<=of'/\hint+la < n/\B (hint+la)=true)
   (Q:=fun c st'=>st'=st/\∃ la of',c=(none,la,of')/\la < of'/\hint+la < n/\B (hint+la)=true/\(n - hint<=of'∨B (hint+of')=false)) ?step ?fin ⟨rfl,0,1,rfl,by omega,by omega,by omega,h0⟩) ?post)
  case fin =>
   rintro c st' ⟨rfl,la,of',rfl,a1,a2,a3,a4⟩
   exact⟨rfl,la,of',rfl,a1,a3,a4,.inl (by omega)⟩
  case step =>
   rintro t c st' _ ht ⟨rfl,la,of',rfl,a1,a2,a3,a4⟩
   dsimp only
   by_cases hge:of'≥n - hint
   ·rw[if_pos hge]
    exact wpS_pure ⟨rfl,la,of',rfl,a1,a3,a4,.inl hge⟩
   ·rw[if_neg hge]
    refine wpS_bind (hb _ _ (by omega) ?_)
    cases hm:B (hint+of') with
    | true =>
     simp only[tn_,p0_,if_false]
     exact wpS_pure ⟨rfl,of',_,rfl,by omega,by omega,by omega,hm⟩
    | false =>
     simp only[Bool.not_false,if_true]
     exact wpS_pure ⟨rfl,la,of',rfl,a1,a3,a4,.inr hm⟩
  case post =>
   rintro c st' ⟨rfl,la,of',rfl,a1,a3,a4,a5⟩
   dsimp only
   refine uq_ hb mono (by omega) (by omega) (fun i hi=>mono i _ (by omega) a3 a4) (fun i h1 h2=>?_) h
   rcases a5 with a5 | a5
   ·omega
   ·cases hi':B i with
    | false=>rfl
    | true=>rw[mono (hint+of') i (by omega) h2 hi'] at a5;cases a5
 | false =>
  simp only[p0_,if_false]
  unfold jka_
  refine wpS_bind (wpS_mono (wpS_forRange (I:=fun t c st'=>st'=st/\∃ la of',c=(none,la,of')/\la < of'/\t+1<=of'/\la<=hint/\B (hint - la)=false)
   (Q:=fun c st'=>st'=st/\∃ la of',c=(none,la,of')/\la < of'/\la<=hint/\B (hint - la)=false/\(hint+1<=of'∨(of' < hint+1/\B (hint - of')=true))) ?step2 ?fin2 ⟨rfl,0,1,rfl,by omega,by omega,by omega,h0⟩) ?post2)
  case fin2 =>
   rintro c st' ⟨rfl,la,of',rfl,a1,a2,a3,a4⟩
   exact⟨rfl,la,of',rfl,a1,a3,a4,.inl (by omega)⟩
  case step2 =>
   rintro t c st' _ ht ⟨rfl,la,of',rfl,a1,a2,a3,a4⟩
   dsimp only
   by_cases hge:of'≥hint+1
   ·rw[if_pos hge]
    exact wpS_pure ⟨rfl,la,of',rfl,a1,a3,a4,.inl hge⟩
   ·rw[if_neg hge]
    refine wpS_bind (hb _ _ (by omega) ?_)
    cases hm:B (hint - of') with
    | false =>
     simp only[p0_,if_false]
     exact wpS_pure ⟨rfl,of',_,rfl,by omega,by omega,by omega,hm⟩
    | true =>
     simp only[if_true]
     exact wpS_pure ⟨rfl,la,of',rfl,a1,a3,a4,.inr ⟨by omega,hm⟩⟩
  case post2 =>
   rintro c st' ⟨rfl,la,of',rfl,a1,a3,a4,a5⟩
   dsimp only
   refine uq_ hb mono (by omega) (by omega) (fun i hi=>?_) (fun i h1 h2=>?_) h
   ·rcases a5 with a5 | ⟨a5,a6⟩
    ·omega
    ·exact mono i _ (by omega) (by omega) a6
   ·cases hi':B i with
    | false=>rfl
    | true=>rw[mono (hint - la) i (by omega) h2 hi'] at a4;cases a4
end
structure Cmp (prog:Program) (w:World) (A:Around) (E:Value->Shared->Prop) (s:Shared) (kd:SortKind) (O:KeyOrd) (ok:Keyed->Prop) (k:Keyed->O.α):Prop where
 lt:∀{st:SortSt} {x y:Keyed} {Q:Option Bool->SortSt->Prop},kindOf st=kd->ok x->ok y->Q (some (O.blt (k x) (k y))) st->wpS (model prog w) A E s (lt' x y) Q st
section
variable {prog:Program} {w:World} {A:Around} {E:Value->Shared->Prop} {s:Shared} {kd:SortKind} {O:KeyOrd} {ok:Keyed->Prop} {k:Keyed->O.α}
def Srt (O:KeyOrd) (k:Keyed->O.α) (l:List Keyed):Prop:=l.Pairwise fun x y=>O.kle (k x) (k y)
theorem jp_ {arr:Array Keyed} {i:Nat} {x:Keyed} {M:Model} {st:SortSt} {Q:Keyed->SortSt->Prop} (hx:arr[i]?=some x) (h:Q x st):wpS M A E s (elem' arr i) Q st:=by
 rw[elem'_eq,hx];exact wpS_pure h
theorem Srt.get {l:List Keyed} (h:Srt O k l) {i j:Nat} {x y:Keyed} (hij:i<=j) (hx:l[i]?=some x) (hy:l[j]?=some y):O.kle (k x) (k y):=by
 rcases wh_ hij with e | e
 ·subst e
  rw[hx] at hy
  cases hy
  exact rk_ _
 ·obtain⟨h1,rfl⟩:=pl_.mp hx
  obtain⟨h2,rfl⟩:=pl_.mp hy
  exact rf_.mp h i j h1 h2 e
theorem zx_ (C:Cmp prog w A E s kd O ok k) {left:Bool} {key:Keyed} {arr:Array Keyed} {base n hint:Nat} {seg:List Keyed} {st:SortSt} {Q:Option Nat->SortSt->Prop} (hk:kindOf st=kd) (okk:ok key)
  (hseg:∀ i,i < n->arr[base+i]?=seg[i]?) (hn:seg.length=n) (hok:∀ x∈seg,ok x) (hs:Srt O k seg) (hh:hint < n)
  (h:∀ r,r<=n->(∀ x∈seg.take r,if left=true then O.klt (k x) (k key) else O.kle (k x) (k key))->(∀ x∈seg.drop r,if left=true then O.kle (k key) (k x) else O.klt (k key) (k x))->Q (some r) st) :
  wpS (model prog w) A E s (zm_ left key arr base n hint) Q st:=by
 rw[jih_]
 obtain⟨B,hB⟩:∃ B:Nat->Bool,B=fun i=>match seg[i]? with
  | some x=>if left=true then O.blt (k x) (k key) else !O.blt (k key) (k x)
  | none=>false:=⟨_,rfl⟩
 have hBx:∀ i x,seg[i]?=some x->B i=if left=true then O.blt (k x) (k key) else !O.blt (k key) (k x):=fun i x hx=>by rw[hB];simp only[hx]
 refine jof_ (B:=B) (fun i Q hi hq=>?_) (fun i j hij hj hbj=>?_) hh fun r h1 h2 h3=>h r h1 (fun x hx=>?_) (fun x hx=>?_)
 ·have hx:seg[i]?=some seg[i]:=pc_ (by omega)
  unfold jkw_
  refine wpS_bind (jp_ ((hseg i hi).trans hx) ?_)
  rw[hBx i _ hx] at hq
  cases left with
  | true =>
   simp only[if_true] at hq ⊢
   exact C.lt hk (hok _ (py_ _)) okk hq
  | false =>
   simp only[p0_,if_false] at hq ⊢
   exact wpS_bind (C.lt hk okk (hok _ (py_ _)) (wpS_pure hq))
 ·have hx:seg[i]?=some seg[i]:=pc_ (by omega)
  have hy:seg[j]?=some seg[j]:=pc_ (by omega)
  have hle:=hs.get hij hx hy
  rw[hBx j _ hy] at hbj
  rw[hBx i _ hx]
  cases left with
  | true =>
   simp only[if_true] at hbj ⊢
   exact KeyOrd.klt_of_kle_of_klt hle hbj
  | false =>
   simp only[p0_,if_false,wq_] at hbj ⊢
   exact qe_ hle hbj
 ·obtain⟨i,hi,rfl⟩:=qp_ hx
  rw[pr_] at hi
  have:=h2 i (by omega)
  rw[wr_]
  rw[hBx i _ (pc_ (by omega))] at this
  cases left with
  | true=>simpa [KeyOrd.klt] using this
  | false=>simpa [KeyOrd.kle] using this
 ·obtain⟨i,hi,rfl⟩:=qp_ hx
  rw[qb_] at hi
  have:=h3 (r+i) (by omega) (by omega)
  rw[ws_]
  rw[hBx (r+i) _ (pc_ (by omega))] at this
  cases left with
  | true=>simpa [KeyOrd.kle] using this
  | false=>simpa [KeyOrd.klt] using this
end
end PyProof.Rows
set_option autoImplicit false
namespace PyProof.Rows
open PySem
def j3_:Nat->SM Unit:=sortPriv% PySem.Builtin.setMinGallop
theorem zi_ (g:Nat):j3_ g=modify fun s=>SortSt.mk' (kindOf s) (arrOf s) (pendingOf s) g (failedOf s):=rfl
abbrev S2:=Option (Array Keyed)×Array Keyed×Nat×Nat×Nat×Nat×Nat
abbrev S1:=Option (Array Keyed)×Array Keyed×Nat×Nat×Nat×Nat
abbrev S0:=Option (Array Keyed)×Array Keyed×Nat×Nat×Nat
def yr_ (a b out:Array Keyed) (ia ib:Nat):Array Keyed:=out++a.extract ia a.size++b.extract ib b.size
def vj_ (a b out:Array Keyed) (ia ib:Nat):Array Keyed:=out++b.extract ib b.size++a.extract ia a.size
def ml3 (a b:Array Keyed) (mg ac bc ia:Nat) (out:Array Keyed) (ib:Nat):SM (ForInStep S2):=do
 let x <- elem' a ia
 if (ia+1+1 == a.size)=true then pure (.done (some (vj_ a b (out.push x) (ia+1) ib),out.push x,ia+1,ib,mg,ac,bc))
 else if (decide (ac < 7)&&decide (bc < 7))=true then pure (.done (none,out.push x,ia+1,ib,mg,ac,bc)) else pure (.yield (none,out.push x,ia+1,ib,mg,ac,bc))
def ml2 (a b:Array Keyed) (mg ac ib bc:Nat) (out:Array Keyed) (ia:Nat):SM (ForInStep S2):=do
 let x <- elem' b ib
 if (ib+1 == b.size)=true then pure (.done (some (yr_ a b (out.push x) ia (ib+1)),out.push x,ia,ib+1,mg,ac,bc))
 else do
  let y <- elem' a ia
  let r <- zm_ true y b (ib+1) (b.size - (ib+1)) 0
  match r with
  | some k=>if k > 0 then (if (ib+1+k == b.size)=true then pure (.done (some (yr_ a b (out.push x++b.extract (ib+1) (ib+1+k)) ia (ib+1+k)),out.push x++b.extract (ib+1) (ib+1+k),ia,ib+1+k,mg,ac,k))
    else ml3 a b mg ac k ia (out.push x++b.extract (ib+1) (ib+1+k)) (ib+1+k)) else ml3 a b mg ac k ia (out.push x) (ib+1)
  | _=>pure (.done (some (yr_ a b (out.push x) ia (ib+1)),out.push x,ia,ib+1,mg,ac,bc))
def ml1 (a b:Array Keyed) (ac bc ib:Nat) (out:Array Keyed) (ia mg:Nat):SM (ForInStep S2):=do
 j3_ mg
 let x <- elem' b ib
 let r <- zm_ false x a ia (a.size - ia) 0
 match r with
 | some k=>if k > 0 then (if (ia+k+1 == a.size)=true then pure (.done (some (vj_ a b (out++a.extract ia (ia+k)) (ia+k) ib),out++a.extract ia (ia+k),ia+k,ib,mg,k,bc))
   else if (ia+k == a.size)=true then pure (.done (some (yr_ a b (out++a.extract ia (ia+k)) (ia+k) ib),out++a.extract ia (ia+k),ia+k,ib,mg,k,bc))
   else ml2 a b mg k ib bc (out++a.extract ia (ia+k)) (ia+k)) else ml2 a b mg k ib bc out ia
 | _=>pure (.done (some (yr_ a b out ia ib),out,ia,ib,mg,ac,bc))
def mlB (a b:Array Keyed) (_:Nat) (c:S2):SM (ForInStep S2) :=
 if c.2.2.2.2.1 > 1 then ml1 a b c.2.2.2.2.2.1 c.2.2.2.2.2.2 c.2.2.2.1 c.2.1 c.2.2.1 (c.2.2.2.2.1 - 1) else ml1 a b c.2.2.2.2.2.1 c.2.2.2.2.2.2 c.2.2.2.1 c.2.1 c.2.2.1 c.2.2.2.2.1
def mlAb (a b:Array Keyed) (mg:Nat) (c:S1):SM (ForInStep S1):=do
 let x <- elem' b c.2.2.2.1
 if (c.2.2.2.1+1 == b.size)=true then pure (.done (some (yr_ a b (c.2.1.push x) c.2.2.1 (c.2.2.2.1+1)),c.2.1.push x,c.2.2.1,c.2.2.2.1+1,0,c.2.2.2.2.2+1))
 else if c.2.2.2.2.2+1≥mg then pure (.done (none,c.2.1.push x,c.2.2.1,c.2.2.2.1+1,0,c.2.2.2.2.2+1)) else pure (.yield (none,c.2.1.push x,c.2.2.1,c.2.2.2.1+1,0,c.2.2.2.2.2+1))
def mlAa (a b:Array Keyed) (mg:Nat) (c:S1):SM (ForInStep S1):=do
 let x <- elem' a c.2.2.1
 if (c.2.2.1+1+1 == a.size)=true then pure (.done (some (vj_ a b (c.2.1.push x) (c.2.2.1+1) c.2.2.2.1),c.2.1.push x,c.2.2.1+1,c.2.2.2.1,c.2.2.2.2.1+1,0))
 else if c.2.2.2.2.1+1≥mg then pure (.done (none,c.2.1.push x,c.2.2.1+1,c.2.2.2.1,c.2.2.2.2.1+1,0)) else pure (.yield (none,c.2.1.push x,c.2.2.1+1,c.2.2.2.1,c.2.2.2.2.1+1,0))
def mlA (a b:Array Keyed) (mg:Nat) (_:Nat) (c:S1):SM (ForInStep S1):=do
 let x <- elem' b c.2.2.2.1
 let y <- elem' a c.2.2.1
 let r <- lt' x y
 match r with
 | some w=>if w=true then mlAb a b mg c else mlAa a b mg c
 | _=>pure (.done (some (yr_ a b c.2.1 c.2.2.1 c.2.2.2.1),c.2.1,c.2.2.1,c.2.2.2.1,c.2.2.2.2.1,c.2.2.2.2.2))
def mlO (a b:Array Keyed) (_:Nat) (c:S0):SM (ForInStep S0):=do
 let c1 <- forIn [0:a.size+b.size] ((none,c.2.1,c.2.2.1,c.2.2.2.1,0,0):S1) (mlA a b c.2.2.2.2)
 match c1.1 with
 | some r=>pure (.done (some r,c1.2.1,c1.2.2.1,c1.2.2.2.1,c.2.2.2.2))
 | none=>do
  liftM (rule "list.sort.gallop")
  let c2 <- forIn [0:a.size+b.size] ((none,c1.2.1,c1.2.2.1,c1.2.2.2.1,c.2.2.2.2+1,c1.2.2.2.2.1,c1.2.2.2.2.2):S2) (mlB a b)
  match c2.1 with
  | some r=>pure (.done (some r,c2.2.1,c2.2.2.1,c2.2.2.2.1,c2.2.2.2.2.1))
  | none=>do
   j3_ (c2.2.2.2.2.1+1)
   pure (.yield (none,c2.2.1,c2.2.2.1,c2.2.2.2.1,c2.2.2.2.2.1+1))
def vr_:Array Keyed->Array Keyed->SM (Array Keyed):=sortPriv% PySem.Builtin.mergeLo
theorem jdp_ (a b:Array Keyed):vr_ a b=(do
 rule "list.sort.merge-lo"
 let total:=a.size+b.size
 let done (out:Array Keyed) (ia ib:Nat):=out++a.extract ia a.size++b.extract ib b.size
 let lastOfA (out:Array Keyed) (ia ib:Nat):=out++b.extract ib b.size++a.extract ia a.size
 let mut out:Array Keyed:=#[<- elem' b 0]
 let mut ia:=0
 let mut ib:=1
 if ib == b.size then return done out ia ib
 if ia+1 == a.size then return lastOfA out ia ib
 let mut minGallop:=gallopOf (<- get)
 for _ in [0:total] do
  let mut acount:=0
  let mut bcount:=0
  for _ in [0:total] do
   let some bWins <- lt' (<- elem' b ib) (<- elem' a ia) | return done out ia ib
   if bWins then
    out:=out.push (<- elem' b ib);ib:=ib+1;bcount:=bcount+1;acount:=0
    if ib == b.size then return done out ia ib
    if bcount≥minGallop then break
   else
    out:=out.push (<- elem' a ia);ia:=ia+1;acount:=acount+1;bcount:=0
    if ia+1 == a.size then return lastOfA out ia ib
    if acount≥minGallop then break
  rule "list.sort.gallop"
  minGallop:=minGallop+1
  for _ in [0:total] do
   if minGallop > 1 then minGallop:=minGallop - 1
   j3_ minGallop
   let some k <- zm_ false (<- elem' b ib) a ia (a.size - ia) 0 | return done out ia ib
   acount:=k
   if k > 0 then
    out:=out++a.extract ia (ia+k);ia:=ia+k
    if ia+1 == a.size then return lastOfA out ia ib
    if ia == a.size then return done out ia ib
   out:=out.push (<- elem' b ib);ib:=ib+1
   if ib == b.size then return done out ia ib
   let some k <- zm_ true (<- elem' a ia) b ib (b.size - ib) 0 | return done out ia ib
   bcount:=k
   if k > 0 then
    out:=out++b.extract ib (ib+k);ib:=ib+k
    if ib == b.size then return done out ia ib
   out:=out.push (<- elem' a ia);ia:=ia+1
   if ia+1 == a.size then return lastOfA out ia ib
   if acount < 7&&bcount < 7 then break
  minGallop:=minGallop+1
  j3_ minGallop
 unsupported "internal:list.sort.merge-bound"):=rfl
theorem jgh_ (a b:Array Keyed):vr_ a b=(do
  liftM (rule "list.sort.merge-lo")
  let x <- elem' b 0
  if (1 == b.size)=true then pure (yr_ a b #[x] 0 1)
  else if (0+1 == a.size)=true then pure (vj_ a b #[x] 0 1)
  else do
   let s <- get
   let c <- forIn [0:a.size+b.size] ((none,#[x],0,1,gallopOf s):S0) (mlO a b)
   match c.1 with
   | some r=>pure r
   | none=>liftM (unsupported "internal:list.sort.merge-bound")):=by
 rw[jdp_]
 refine congrArg (bind _) (funext fun _=>?_)
 refine congrArg (bind _) (funext fun x=>?_)
 dsimp only
 refine ite_congr rfl (fun _=>rfl) fun _=>?_
 refine ite_congr rfl (fun _=>rfl) fun _=>?_
 refine congrArg (bind _) (funext fun s=>?_)
 refine congr (congrArg bind ?_) (funext fun c=>?_)
 ·refine congrArg (forIn _ _) (funext fun i=>funext fun c=>?_)
  unfold mlO
  refine congr (congrArg bind ?_) (funext fun c1=>?_)
  ·refine congrArg (forIn _ _) (funext fun i=>funext fun c=>?_)
   unfold mlA
   rfl
  ·obtain⟨r1,o1,ia1,ib1,ac1,bc1⟩:=c1
   cases r1 with
   | some r=>rfl
   | none =>
    refine congrArg (bind _) (funext fun _=>?_)
    refine congr (congrArg bind ?_) (funext fun c2=>?_)
    ·refine congrArg (forIn _ _) (funext fun i=>funext fun c=>?_)
     obtain⟨r2,o2,ia2,ib2,mg2,ac2,bc2⟩:=c
     unfold mlB
     dsimp only
     refine ite_congr rfl (fun _=>?_) fun _=>?_
     ·unfold ml1
      refine congrArg (bind _) (funext fun _=>?_)
      refine congrArg (bind _) (funext fun _=>?_)
      refine congrArg (bind _) (funext fun r=>?_)
      cases r with
      | none=>rfl
      | some k =>
       dsimp only
       refine ite_congr rfl (fun _=>?_) fun _=>?_
       ·refine ite_congr rfl (fun _=>rfl) fun _=>?_
        refine ite_congr rfl (fun _=>rfl) fun _=>?_
        rfl
       ·rfl
     ·rfl
    ·obtain⟨r2,o2,ia2,ib2,mg2,ac2,bc2⟩:=c2
     cases r2 <;> rfl
 ·obtain⟨r,c⟩:=c
  cases r <;> rfl
end PyProof.Rows
set_option autoImplicit false
namespace PyProof.Rows
open PySem
section
variable {O:KeyOrd} {k:Keyed->O.α}
structure Mi (O:KeyOrd) (k:Keyed->O.α) (A B o:List Keyed) (ia ib:Nat):Prop where
 perm:(o++A.drop ia++B.drop ib).Perm (A++B)
 srt:Srt O k o
 la:∀ x∈o,∀ y∈A.drop ia,O.kle (k x) (k y)
 lb:∀ x∈o,∀ y∈B.drop ib,O.kle (k x) (k y)
def Mrg (O:KeyOrd) (k:Keyed->O.α) (A B r:List Keyed):Prop:=r.Perm (A++B)/\Srt O k r
theorem Srt.drop {l:List Keyed} (h:Srt O k l) (i:Nat):Srt O k (l.drop i):=h.sublist (List.drop_sublist i l)
theorem Srt.take {l:List Keyed} (h:Srt O k l) (i:Nat):Srt O k (l.take i):=h.sublist (List.take_sublist i l)
theorem Srt.app {l m:List Keyed} (h:Srt O k l) (h':Srt O k m) (c:∀ x∈l,∀ y∈m,O.kle (k x) (k y)):Srt O k (l++m):=rc_.mpr ⟨h,h',c⟩
variable {A B o:List Keyed} {ia ib:Nat}
theorem Mi.endB (h:Mi O k A B o ia ib) (hA:Srt O k A) (he:B.length<=ib):Mrg O k A B (o++A.drop ia++B.drop ib):=by
 refine⟨h.perm,?_⟩
 rw[ke_ he,qt_]
 exact h.srt.app (hA.drop _) h.la
theorem Mi.endA (h:Mi O k A B o ia ib) (hB:Srt O k B) (he:A.length<=ia):Mrg O k A B (o++A.drop ia++B.drop ib):=by
 refine⟨h.perm,?_⟩
 rw[ke_ he,qt_]
 exact h.srt.app (hB.drop _) h.lb
theorem Mi.last (h:Mi O k A B o ia ib) (hB:Srt O k B) (hA:Srt O k A) (hl:∀ x∈A.drop (A.length - 1),∀ y∈B,O.kle (k y) (k x)) (he:ia+1=A.length):Mrg O k A B (o++B.drop ib++A.drop ia):=by
 refine⟨(q7_.trans ?_ h.perm),?_⟩
 ·rw[pu_,pu_]
  exact ru_ _ r7_
 ·refine(h.srt.app (hB.drop _) h.lb).app (hA.drop _) fun x hx y hy=>?_
  rcases pq_.mp hx with hx | hx
  ·exact h.la x hx y hy
  ·rw[show ia=A.length - 1 by omega] at hy
   exact hl y hy x (ql_ hx)
theorem Mi.blockA (h:Mi O k A B o ia ib) (hA:Srt O k A) (r:Nat) (c:∀ x∈(A.drop ia).take r,∀ y∈B.drop ib,O.kle (k x) (k y)):Mi O k A B (o++(A.drop ia).take r) (ia+r) ib:=by
 have e:A.drop (ia+r)=(A.drop ia).drop r:=by rw[tv_]
 refine⟨?_,h.srt.app ((hA.drop _).take _) fun x hx y hy=>h.la x hx y (p8_ hy),fun x hx y hy=>?_,fun x hx y hy=>?_⟩
 ·rw[e,pu_ o,qa_]
  exact h.perm
 ·rw[e] at hy
  rcases pq_.mp hx with hx | hx
  ·exact h.la x hx y (ql_ hy)
  ·have:=hA.drop ia
   rw[<- qa_ r (A.drop ia)] at this
   exact(rc_.mp this).2.2 x hx y hy
 ·rcases pq_.mp hx with hx | hx
  ·exact h.lb x hx y hy
  ·exact c x hx y hy
theorem Mi.blockB (h:Mi O k A B o ia ib) (hB:Srt O k B) (r:Nat) (c:∀ x∈(B.drop ib).take r,∀ y∈A.drop ia,O.kle (k x) (k y)):Mi O k A B (o++(B.drop ib).take r) ia (ib+r):=by
 have e:B.drop (ib+r)=(B.drop ib).drop r:=by rw[tv_]
 refine⟨q7_.trans ?_ h.perm,h.srt.app ((hB.drop _).take _) fun x hx y hy=>h.lb x hx y (p8_ hy),fun x hx y hy=>?_,fun x hx y hy=>?_⟩
 ·rw[e]
  conv=>rhs;rw[<- qa_ r (B.drop ib)]
  rw[pu_ o,pu_ o,pu_ o]
  refine ru_ _ ?_
  rw[<- pu_]
  exact rl_ _ r7_
 ·rcases pq_.mp hx with hx | hx
  ·exact h.la x hx y hy
  ·exact c x hx y hy
 ·rw[e] at hy
  rcases pq_.mp hx with hx | hx
  ·exact h.lb x hx y (ql_ hy)
  ·have:=hB.drop ib
   rw[<- qa_ r (B.drop ib)] at this
   exact(rc_.mp this).2.2 x hx y hy
theorem jbz_ {l:List Keyed} {i:Nat} {x:Keyed} (h:l[i]?=some x):(l.drop i).take 1=[x]:=by
 obtain⟨h1,rfl⟩:=pl_.mp h
 rw[sa_ h1];rfl
theorem Mi.pushA (h:Mi O k A B o ia ib) (hA:Srt O k A) {x:Keyed} (hx:A[ia]?=some x) (c:∀ y∈B.drop ib,O.kle (k x) (k y)):Mi O k A B (o++[x]) (ia+1) ib:=by
 have:=h.blockA hA 1 (by (rw[jbz_ hx];intro z hz y hy;have:z=x:=by simpa using hz);rw[this];exact c y hy)
 rw[jbz_ hx] at this
 exact this
theorem Mi.pushB (h:Mi O k A B o ia ib) (hB:Srt O k B) {x:Keyed} (hx:B[ib]?=some x) (c:∀ y∈A.drop ia,O.kle (k x) (k y)):Mi O k A B (o++[x]) ia (ib+1):=by
 have:=h.blockB hB 1 (by (rw[jbz_ hx];intro z hz y hy;have:z=x:=by simpa using hz);rw[this];exact c y hy)
 rw[jbz_ hx] at this
 exact this
theorem Srt.head {l:List Keyed} (h:Srt O k l) {i:Nat} {x:Keyed} (hx:l[i]?=some x):∀ y∈l.drop i,O.kle (k x) (k y):=fun y hy=>by
 obtain⟨j,hj,rfl⟩:=qp_ hy
 rw[qb_] at hj
 exact h.get (i:=i) (j:=i+j) (by omega) hx (by rw[ws_];exact pc_ (by omega))
end
def SSt (st st':SortSt):Prop:=kindOf st'=kindOf st/\arrOf st'=arrOf st/\pendingOf st'=pendingOf st/\failedOf st'=failedOf st
theorem SSt.refl (st:SortSt):SSt st st:=⟨rfl,rfl,rfl,rfl⟩
theorem SSt.trans {s1 s2 s3:SortSt} (h:SSt s1 s2) (h':SSt s2 s3):SSt s1 s3:=⟨h'.1.trans h.1,h'.2.1.trans h.2.1,h'.2.2.1.trans h.2.2.1,h'.2.2.2.trans h.2.2.2⟩
theorem yn_ (a b out:Array Keyed) (ia ib:Nat):(yr_ a b out ia ib).toList=out.toList++a.toList.drop ia++b.toList.drop ib:=by
 unfold yr_;simp;rw[q1_ (by simp),q1_ (by simp)]
theorem y8_ (a b out:Array Keyed) (ia ib:Nat):(vj_ a b out ia ib).toList=out.toList++b.toList.drop ib++a.toList.drop ia:=by
 unfold vj_;simp;rw[q1_ (by simp),q1_ (by simp)]
theorem jfl_ (a:Array Keyed) (i r:Nat):(a.extract i (i+r)).toList=(a.toList.drop i).take r:=by
 simp[List.take_drop,lf_]
section
variable {prog:Program} {w:World} {A:Around} {E:Value->Shared->Prop} {s:Shared} {kd:SortKind} {O:KeyOrd} {ok:Keyed->Prop} {k:Keyed->O.α} {a b:Array Keyed}
structure Two (O:KeyOrd) (ok:Keyed->Prop) (k:Keyed->O.α) (a b:Array Keyed):Prop where
 oka:∀ x∈a.toList,ok x
 okb:∀ x∈b.toList,ok x
 sa:Srt O k a.toList
 sb:Srt O k b.toList
 last:∀ x∈a.toList.drop (a.toList.length - 1),∀ y∈b.toList,O.kle (k y) (k x)
 first:∀ x∈b.toList.take 1,∀ y∈a.toList,O.kle (k x) (k y)
 na:0 < a.size
 nb:0 < b.size
theorem Two.getA (h:Two O ok k a b) {i:Nat} (hi:i < a.size):∃ x,a[i]?=some x/\a.toList[i]?=some x/\ok x:=⟨a[i],qw_ hi,by simp[hi],h.oka _ (by simp)⟩
theorem Two.getB (h:Two O ok k a b) {i:Nat} (hi:i < b.size):∃ x,b[i]?=some x/\b.toList[i]?=some x/\ok x:=⟨b[i],qw_ hi,by simp[hi],h.okb _ (by simp)⟩
def lens (a:Array Keyed):a.toList.length=a.size:=by simp
def G2 (O:KeyOrd) (k:Keyed->O.α) (a b:Array Keyed) (st:SortSt) (p:Nat) (c:S2) (st':SortSt):Prop:=SSt st st' /\
 match c.1 with
 | some r=>Mrg O k a.toList b.toList r.toList
 | none=>Mi O k a.toList b.toList c.2.1.toList c.2.2.1 c.2.2.2.1/\c.2.2.1+1 < a.size/\c.2.2.2.1 < b.size/\p<=c.2.2.1+c.2.2.2.1
theorem jjh_ (T:Two O ok k a b) {st st':SortSt} (ss:SSt st st') {mg ac bc ia ib p:Nat} {out:Array Keyed} (m:Mi O k a.toList b.toList out.toList ia ib) (h1:ia+1 < a.size) (h2:ib < b.size) (hp:p<=ia+ib)
  (hx:∀ x,a.toList[ia]?=some x->∀ y∈b.toList.drop ib,O.kle (k x) (k y)) :
  wpS (model prog w) A E s (ml3 a b mg ac bc ia out ib) (fun r st'=>match r with | .done c=>G2 O k a b st (p+1) c st' | .yield c=>c.1=none/\G2 O k a b st (p+1) c st') st':=by
 unfold ml3
 obtain⟨x,e1,e2,_⟩:=T.getA (show ia < a.size by omega)
 refine wpS_bind (jp_ e1 ?_)
 have m':Mi O k a.toList b.toList (out.push x).toList (ia+1) ib:=by rw[rh_];exact m.pushA T.sa e2 (hx x e2)
 by_cases c:ia+1+1=a.size
 ·rw[if_pos (by simpa using c)]
  refine wpS_pure ⟨ss,?_⟩
  show Mrg O k _ _ (vj_ a b (out.push x) (ia+1) ib).toList
  rw[y8_]
  exact m'.last T.sb T.sa T.last (by rw[lens];exact c)
 ·rw[if_neg (by simpa using c)]
  have fin:∀ mg ac bc,G2 O k a b st (p+1) (none,out.push x,ia+1,ib,mg,ac,bc) st':=fun mg ac bc=>⟨ss,m',by show ia+1+1 < a.size;omega,h2,by show p+1<=ia+1+ib;omega⟩
  split
  ·exact wpS_pure (fin _ _ _)
  ·exact wpS_pure ⟨rfl,fin _ _ _⟩
theorem jkz_ (C:Cmp prog w A E s kd O ok k) (T:Two O ok k a b) {st st':SortSt} (hk:kindOf st=kd) (ss:SSt st st') {mg ac bc ia ib p:Nat} {out:Array Keyed} (m:Mi O k a.toList b.toList out.toList ia ib) (h1:ia+1 < a.size) (h2:ib < b.size) (hp:p<=ia+ib)
  (hx:∀ x,b.toList[ib]?=some x->∀ y∈a.toList.drop ia,O.kle (k x) (k y)) :
  wpS (model prog w) A E s (ml2 a b mg ac ib bc out ia) (fun r st'=>match r with | .done c=>G2 O k a b st (p+1) c st' | .yield c=>c.1=none/\G2 O k a b st (p+1) c st') st':=by
 unfold ml2
 obtain⟨x,e1,e2,_⟩:=T.getB h2
 refine wpS_bind (jp_ e1 ?_)
 have m':Mi O k a.toList b.toList (out.push x).toList ia (ib+1):=by rw[rh_];exact m.pushB T.sb e2 (hx x e2)
 by_cases c:ib+1=b.size
 ·rw[if_pos (by simpa using c)]
  refine wpS_pure ⟨ss,?_⟩
  show Mrg O k _ _ (yr_ a b (out.push x) ia (ib+1)).toList
  rw[yn_]
  exact m'.endB T.sa (by rw[lens];omega)
 ·rw[if_neg (by simpa using c)]
  obtain⟨y,f1,f2,f3⟩:=T.getA (show ia < a.size by omega)
  refine wpS_bind (jp_ f1 ?_)
  refine wpS_bind (zx_ C (seg:=b.toList.drop (ib+1)) (ss.1.trans hk) f3 (fun i hi=>by rw[wf_,p9_]) (by rw[qb_,lens]) (fun z hz=>T.okb z (ql_ hz)) (T.sb.drop _) (by omega) fun r hr g1 g2=>?_)
  simp only[if_true] at g1 g2
  dsimp only
  have m2:Mi O k a.toList b.toList (out.push x++b.extract (ib+1) (ib+1+r)).toList ia (ib+1+r):=by
   rw[td_,jfl_]
   exact m'.blockB T.sb r fun z hz v hv=>qe_ (qy_ (g1 z hz)) (T.sa.head f2 v hv)
  have hy:∀ x,a.toList[ia]?=some x->∀ v∈b.toList.drop (ib+1+r),O.kle (k x) (k v):=fun x hx' v hv=>by
   rw[f2] at hx'
   cases hx'
   exact g2 v (by rw[tv_];exact hv)
  split
  ·by_cases c2:ib+1+r=b.size
   ·rw[if_pos (by simpa using c2)]
    refine wpS_pure ⟨ss,?_⟩
    show Mrg O k _ _ (yr_ a b _ ia (ib+1+r)).toList
    rw[yn_]
    exact m2.endB T.sa (by rw[lens];omega)
   ·rw[if_neg (by simpa using c2)]
    exact jjh_ T ss m2 h1 (by omega) (by omega) hy
  ·have:r=0:=by omega
   subst this
   exact jjh_ T ss m' h1 (by omega) (by omega) hy
theorem jqz_ (C:Cmp prog w A E s kd O ok k) (T:Two O ok k a b) {st st':SortSt} (hk:kindOf st=kd) (ss:SSt st st') {mg ac bc ia ib p:Nat} {out:Array Keyed} (m:Mi O k a.toList b.toList out.toList ia ib) (h1:ia+1 < a.size) (h2:ib < b.size) (hp:p<=ia+ib) :
  wpS (model prog w) A E s (ml1 a b ac bc ib out ia mg) (fun r st'=>match r with | .done c=>G2 O k a b st (p+1) c st' | .yield c=>c.1=none/\G2 O k a b st (p+1) c st') st':=by
 unfold ml1
 rw[zi_]
 refine wpS_bind (wpS_modify ?_)
 have ss1:SSt st (SortSt.mk' (kindOf st') (arrOf st') (pendingOf st') mg (failedOf st')):=ss.trans ⟨rfl,rfl,rfl,rfl⟩
 generalize SortSt.mk' (kindOf st') (arrOf st') (pendingOf st') mg (failedOf st')=st1 at ss1 ⊢
 obtain⟨x,e1,e2,e3⟩:=T.getB h2
 refine wpS_bind (jp_ e1 ?_)
 refine wpS_bind (zx_ C (seg:=a.toList.drop ia) (ss1.1.trans hk) e3 (fun i hi=>by rw[wf_,p9_]) (by rw[qb_,lens]) (fun z hz=>T.oka z (ql_ hz)) (T.sa.drop _) (by omega) fun r hr g1 g2=>?_)
 simp only[p0_,if_false] at g1 g2
 dsimp only
 have m2:Mi O k a.toList b.toList (out++a.extract ia (ia+r)).toList (ia+r) ib:=by
  rw[td_,jfl_]
  exact m.blockA T.sa r fun z hz v hv=>qe_ (g1 z hz) (T.sb.head e2 v hv)
 have hy:∀ x,b.toList[ib]?=some x->∀ v∈a.toList.drop (ia+r),O.kle (k x) (k v):=fun x hx' v hv=>by
  rw[e2] at hx'
  cases hx'
  exact qy_ (g2 v (by rw[tv_];exact hv))
 split
 ·by_cases c:ia+r+1=a.size
  ·rw[if_pos (by simpa using c)]
   refine wpS_pure ⟨ss1,?_⟩
   show Mrg O k _ _ (vj_ a b _ (ia+r) ib).toList
   rw[y8_]
   exact m2.last T.sb T.sa T.last (by rw[lens];exact c)
  ·rw[if_neg (by simpa using c)]
   by_cases c2:ia+r=a.size
   ·rw[if_pos (by simpa using c2)]
    refine wpS_pure ⟨ss1,?_⟩
    show Mrg O k _ _ (yr_ a b _ (ia+r) ib).toList
    rw[yn_]
    exact m2.endA T.sb (by rw[lens];omega)
   ·rw[if_neg (by simpa using c2)]
    exact jkz_ C T hk ss1 m2 (by omega) h2 (by omega) hy
 ·have:r=0:=by omega
  subst this
  exact jkz_ C T hk ss1 m h1 h2 hp hy
def G1 (O:KeyOrd) (k:Keyed->O.α) (a b:Array Keyed) (st:SortSt) (p:Nat) (c:S1) (st':SortSt):Prop:=SSt st st' /\
 match c.1 with
 | some r=>Mrg O k a.toList b.toList r.toList
 | none=>Mi O k a.toList b.toList c.2.1.toList c.2.2.1 c.2.2.2.1/\c.2.2.1+1 < a.size/\c.2.2.2.1 < b.size/\p<=c.2.2.1+c.2.2.2.1
def G0 (O:KeyOrd) (k:Keyed->O.α) (a b:Array Keyed) (st:SortSt) (p:Nat) (c:S0) (st':SortSt):Prop:=SSt st st' /\
 match c.1 with
 | some r=>Mrg O k a.toList b.toList r.toList
 | none=>Mi O k a.toList b.toList c.2.1.toList c.2.2.1 c.2.2.2.1/\c.2.2.1+1 < a.size/\c.2.2.2.1 < b.size/\p<=c.2.2.1+c.2.2.2.1
theorem jrj_ (C:Cmp prog w A E s kd O ok k) (T:Two O ok k a b) {st st':SortSt} (hk:kindOf st=kd) {mg i p:Nat} {c:S1} (hc:c.1=none) (g:G1 O k a b st p c st') :
  wpS (model prog w) A E s (mlA a b mg i c) (fun r st'=>match r with | .done c=>G1 O k a b st (p+1) c st' | .yield c=>c.1=none/\G1 O k a b st (p+1) c st') st':=by
 obtain⟨r0,out,ia,ib,ac,bc⟩:=c
 cases hc
 obtain⟨ss,m,h1,h2,hp⟩:=g
 dsimp only at m h1 h2 hp
 unfold mlA
 dsimp only
 obtain⟨x,e1,e2,e3⟩:=T.getB h2
 obtain⟨y,f1,f2,f3⟩:=T.getA (show ia < a.size by omega)
 refine wpS_bind (jp_ e1 (wpS_bind (jp_ f1 (wpS_bind (C.lt (ss.1.trans hk) e3 f3 ?_)))))
 dsimp only
 cases hw:O.blt (k x) (k y) with
 | true =>
  rw[if_pos rfl]
  unfold mlAb
  dsimp only
  refine wpS_bind (jp_ e1 ?_)
  have m':Mi O k a.toList b.toList (out.push x).toList ia (ib+1):=by
   rw[rh_]
   exact m.pushB T.sb e2 fun v hv=>qe_ (qy_ hw) (T.sa.head f2 v hv)
  by_cases c:ib+1=b.size
  ·rw[if_pos (by simpa using c)]
   refine wpS_pure ⟨ss,?_⟩
   show Mrg O k _ _ (yr_ a b (out.push x) ia (ib+1)).toList
   rw[yn_]
   exact m'.endB T.sa (by rw[lens];omega)
  ·rw[if_neg (by simpa using c)]
   have fin:∀ ac bc,G1 O k a b st (p+1) (none,out.push x,ia,ib+1,ac,bc) st':=fun ac bc=>⟨ss,m',h1,by show ib+1 < b.size;omega,by show p+1<=ia+(ib+1);omega⟩
   split
   ·exact wpS_pure (fin _ _)
   ·exact wpS_pure ⟨rfl,fin _ _⟩
 | false =>
  rw[if_neg pp_]
  unfold mlAa
  dsimp only
  refine wpS_bind (jp_ f1 ?_)
  have m':Mi O k a.toList b.toList (out.push y).toList (ia+1) ib:=by
   rw[rh_]
   exact m.pushA T.sa f2 fun v hv=>qe_ (show O.kle (k y) (k x) from hw) (T.sb.head e2 v hv)
  by_cases c:ia+1+1=a.size
  ·rw[if_pos (by simpa using c)]
   refine wpS_pure ⟨ss,?_⟩
   show Mrg O k _ _ (vj_ a b (out.push y) (ia+1) ib).toList
   rw[y8_]
   exact m'.last T.sb T.sa T.last (by rw[lens];exact c)
  ·rw[if_neg (by simpa using c)]
   have fin:∀ ac bc,G1 O k a b st (p+1) (none,out.push y,ia+1,ib,ac,bc) st':=fun ac bc=>⟨ss,m',by show ia+1+1 < a.size;omega,h2,by show p+1<=ia+1+ib;omega⟩
   split
   ·exact wpS_pure (fin _ _)
   ·exact wpS_pure ⟨rfl,fin _ _⟩
theorem jsa_ (C:Cmp prog w A E s kd O ok k) (T:Two O ok k a b) {st st':SortSt} (hk:kindOf st=kd) {i p:Nat} {c:S0} (hc:c.1=none) (g:G0 O k a b st p c st') :
  wpS (model prog w) A E s (mlO a b i c) (fun r st'=>match r with | .done c=>(∃ r,c.1=some r)/\G0 O k a b st (p+1) c st' | .yield c=>c.1=none/\G0 O k a b st (p+1) c st') st':=by
 obtain⟨r0,out,ia,ib,mg⟩:=c
 cases hc
 obtain⟨ss,m,h1,h2,hp⟩:=g
 dsimp only at m h1 h2 hp
 unfold mlO
 dsimp only
 refine wpS_bind (wpS_mono (wpS_forRange (I:=fun t c st'=>c.1=none/\G1 O k a b st (p+t) c st') (Q:=fun c st'=>G1 O k a b st (p+1) c st') ?step ?fin ⟨rfl,ss,m,h1,h2,by show p+0<=_;omega⟩) ?post)
 case fin =>
  rintro⟨r0,out,ia,ib,ac,bc⟩ st' ⟨hc,g⟩
  cases hc
  obtain⟨_,_,g1,g2,g3⟩:=g
  dsimp only at g1 g2 g3
  omega
 case step =>
  rintro t c st' _ _ ⟨hc,g⟩
  refine wpS_mono (jrj_ C T hk hc g) fun r st'' h=>?_
  cases r with
  | done c' =>
   obtain⟨h1,h2⟩:=h
   refine⟨h1,?_⟩
   obtain⟨r1,c1⟩:=c'
   cases r1 with
   | some r=>exact h2
   | none=>exact⟨h2.1,h2.2.1,h2.2.2.1,qq_ (by omega) h2.2.2.2⟩
  | yield c'=>exact h
 case post =>
  rintro⟨r1,out1,ia1,ib1,ac1,bc1⟩ st1 ⟨ss1,g⟩
  cases r1 with
  | some r=>exact wpS_pure ⟨⟨r,rfl⟩,ss1,g⟩
  | none =>
   obtain⟨m1,g1,g2,g3⟩:=g
   dsimp only at m1 g1 g2 g3 ⊢
   refine wpS_bind (wpS_lift (wpAny_rule ⟨rfl,?_⟩))
   refine wpS_bind (wpS_mono (wpS_forRange (I:=fun t c st'=>c.1=none/\G2 O k a b st (p+1+t) c st') (Q:=fun c st'=>G2 O k a b st (p+1) c st') ?step2 ?fin2 ⟨rfl,ss1,m1,g1,g2,by show p+1+0<=_;omega⟩) ?post2)
   case fin2 =>
    rintro⟨r0,out,ia,ib,mg,ac,bc⟩ st' ⟨hc,g⟩
    cases hc
    obtain⟨_,_,g1,g2,g3⟩:=g
    dsimp only at g1 g2 g3
    omega
   case step2 =>
    rintro t ⟨r0,out,ia,ib,mg,ac,bc⟩ st' _ _ ⟨hc,g⟩
    cases hc
    obtain⟨ss,m,h1,h2,hp⟩:=g
    dsimp only at m h1 h2 hp
    have fin:∀ mg,wpS (model prog w) A E s (ml1 a b ac bc ib out ia mg) (fun r st'=>match r with | .done c=>G2 O k a b st (p+1) c st' | .yield c=>c.1=none/\G2 O k a b st (p+1+(t+1)) c st') st':=fun mg=>by
     refine wpS_mono (jqz_ C T hk ss m h1 h2 hp) fun r st'' h=>?_
     cases r with
     | done c' =>
      obtain⟨h1,h2⟩:=h
      refine⟨h1,?_⟩
      obtain⟨r1,c1⟩:=c'
      cases r1 with
      | some r=>exact h2
      | none=>exact⟨h2.1,h2.2.1,h2.2.2.1,qq_ (by omega) h2.2.2.2⟩
     | yield c'=>exact h
    unfold mlB
    dsimp only
    split
    ·exact wpS_mono (fin _) fun r st h=>by cases r <;> exact h
    ·exact wpS_mono (fin _) fun r st h=>by cases r <;> exact h
   case post2 =>
    rintro⟨r2,out2,ia2,ib2,mg2,ac2,bc2⟩ st2 ⟨ss2,g⟩
    cases r2 with
    | some r=>exact wpS_pure ⟨⟨r,rfl⟩,ss2,g⟩
    | none =>
     obtain⟨m1,g1,g2,g3⟩:=g
     dsimp only at m1 g1 g2 g3 ⊢
     rw[zi_]
     exact wpS_bind (wpS_modify (wpS_pure ⟨rfl,ss2.trans ⟨rfl,rfl,rfl,rfl⟩,m1,g1,g2,g3⟩))
theorem jgw_ (C:Cmp prog w A E s kd O ok k) (T:Two O ok k a b) {st:SortSt} (hk:kindOf st=kd) {Q:Array Keyed->SortSt->Prop} (h:∀ r st',SSt st st'->Mrg O k a.toList b.toList r.toList->Q r st') :
  wpS (model prog w) A E s (vr_ a b) Q st:=by
 rw[jgh_]
 refine wpS_bind (wpS_lift (wpAny_rule ⟨rfl,?_⟩))
 obtain⟨x,e1,e2,_⟩:=T.getB T.nb
 refine wpS_bind (jp_ e1 ?_)
 have m0:Mi O k a.toList b.toList (#[x]:Array Keyed).toList 0 1:=by
  have hst:Mi O k a.toList b.toList [] 0 0:=⟨by simp,rx_.nil,fun x hx=>(nomatch hx),fun x hx=>(nomatch hx)⟩
  exact hst.pushB T.sb e2 fun y hy=>T.first x (by
   have:=jbz_ e2
   rw[ry_] at this
   rw[this];simp) y (by rwa [ry_] at hy)
 by_cases c:1=b.size
 ·rw[if_pos (by simpa using c)]
  refine wpS_pure (h _ _ (SSt.refl _) ?_)
  rw[yn_]
  exact m0.endB T.sa (by rw[lens];omega)
 ·rw[if_neg (by simpa using c)]
  by_cases c2:0+1=a.size
  ·rw[if_pos (by simpa using c2)]
   refine wpS_pure (h _ _ (SSt.refl _) ?_)
   rw[y8_]
   exact m0.last T.sb T.sa T.last (by rw[lens];exact c2)
  ·rw[if_neg (by simpa using c2)]
   refine wpS_bind (wpS_get ?_)
   have nb:=T.nb
   have na:=T.na
   refine wpS_bind (wpS_mono (wpS_forRange (I:=fun t c st'=>c.1=none/\G0 O k a b st t c st') (Q:=fun c st'=>(∃ r,c.1=some r)/\∃ p,G0 O k a b st p c st') ?step ?fin ⟨rfl,SSt.refl _,m0,by show 0+1 < a.size;omega,by show 1 < b.size;omega,by show 0<=_;omega⟩) ?post)
   case fin =>
    rintro⟨r0,out,ia,ib,mg⟩ st' ⟨hc,g⟩
    cases hc
    obtain⟨_,_,g1,g2,g3⟩:=g
    dsimp only at g1 g2 g3
    omega
   case step =>
    rintro t c st' _ _ ⟨hc,g⟩
    refine wpS_mono (jsa_ C T hk hc g) fun r st'' h=>?_
    cases r with
    | done c'=>exact⟨h.1,_,h.2⟩
    | yield c'=>exact h
   case post =>
    rintro⟨r,c⟩ st' ⟨⟨r',hr⟩,p,ss,g⟩
    cases hr
    exact wpS_pure (h _ _ ss g)
end
end PyProof.Rows
set_option autoImplicit false
namespace PyProof.Rows
open PySem
def vh_:Array Keyed->Array Keyed->SM (Array Keyed):=sortPriv% PySem.Builtin.mergeHi
theorem jdx_ (a b:Array Keyed):vh_ a b=(do
 rule "list.sort.merge-hi"
 let total:=a.size+b.size
 let done (out:Array Keyed) (na nb:Nat):=a.extract 0 na++b.extract 0 nb++out.reverse
 let firstOfB (out:Array Keyed) (na nb:Nat):=b.extract 0 nb++a.extract 0 na++out.reverse
 let mut na:=a.size - 1
 let mut nb:=b.size
 let mut out:Array Keyed:=#[<- elem' a na]
 if na == 0 then return done out na nb
 if nb == 1 then return firstOfB out na nb
 let mut minGallop:=gallopOf (<- get)
 for _ in [0:total] do
  let mut acount:=0
  let mut bcount:=0
  for _ in [0:total] do
   let some aWins <- lt' (<- elem' b (nb - 1)) (<- elem' a (na - 1)) | return done out na nb
   if aWins then
    na:=na - 1;out:=out.push (<- elem' a na);acount:=acount+1;bcount:=0
    if na == 0 then return done out na nb
    if acount≥minGallop then break
   else
    nb:=nb - 1;out:=out.push (<- elem' b nb);bcount:=bcount+1;acount:=0
    if nb == 1 then return firstOfB out na nb
    if bcount≥minGallop then break
  rule "list.sort.gallop"
  minGallop:=minGallop+1
  for _ in [0:total] do
   if minGallop > 1 then minGallop:=minGallop - 1
   j3_ minGallop
   let some at_ <- zm_ false (<- elem' b (nb - 1)) a 0 na (na - 1) | return done out na nb
   let k:=na - at_
   acount:=k
   if k > 0 then
    out:=out++(a.extract at_ na).reverse;na:=at_
    if na == 0 then return done out na nb
   nb:=nb - 1;out:=out.push (<- elem' b nb)
   if nb == 1 then return firstOfB out na nb
   let some at_ <- zm_ true (<- elem' a (na - 1)) b 0 nb (nb - 1) | return done out na nb
   let k:=nb - at_
   bcount:=k
   if k > 0 then
    out:=out++(b.extract at_ nb).reverse;nb:=at_
    if nb == 1 then return firstOfB out na nb
    if nb == 0 then return done out na nb
   na:=na - 1;out:=out.push (<- elem' a na)
   if na == 0 then return done out na nb
   if acount < 7&&bcount < 7 then break
  minGallop:=minGallop+1
  j3_ minGallop
 unsupported "internal:list.sort.merge-bound"):=rfl
abbrev R2:=Option (Array Keyed)×Nat×Nat×Array Keyed×Nat×Nat×Nat
abbrev R1:=Option (Array Keyed)×Nat×Nat×Array Keyed×Nat×Nat
abbrev R0:=Option (Array Keyed)×Nat×Nat×Array Keyed×Nat
def yt_ (a b out:Array Keyed) (na nb:Nat):Array Keyed:=a.extract 0 na++b.extract 0 nb++out.reverse
def y0_ (a b out:Array Keyed) (na nb:Nat):Array Keyed:=b.extract 0 nb++a.extract 0 na++out.reverse
def mh3 (a b:Array Keyed) (mg ac bc na nb:Nat) (out:Array Keyed):SM (ForInStep R2):=do
 let x <- elem' a (na - 1)
 if (na - 1 == 0)=true then pure (.done (some (yt_ a b (out.push x) (na - 1) nb),na - 1,nb,out.push x,mg,ac,bc))
 else if (decide (ac < 7)&&decide (bc < 7))=true then pure (.done (none,na - 1,nb,out.push x,mg,ac,bc)) else pure (.yield (none,na - 1,nb,out.push x,mg,ac,bc))
def mh2 (a b:Array Keyed) (mg ac nb bc na:Nat) (out:Array Keyed):SM (ForInStep R2):=do
 let x <- elem' b (nb - 1)
 if (nb - 1 == 1)=true then pure (.done (some (y0_ a b (out.push x) na (nb - 1)),na,nb - 1,out.push x,mg,ac,bc))
 else do
  let y <- elem' a (na - 1)
  let r <- zm_ true y b 0 (nb - 1) (nb - 1 - 1)
  match r with
  | some k=>if nb - 1 - k > 0 then (if (k == 1)=true then pure (.done (some (y0_ a b (out.push x++(b.extract k (nb - 1)).reverse) na k),na,k,out.push x++(b.extract k (nb - 1)).reverse,mg,ac,nb - 1 - k))
    else if (k == 0)=true then pure (.done (some (yt_ a b (out.push x++(b.extract k (nb - 1)).reverse) na k),na,k,out.push x++(b.extract k (nb - 1)).reverse,mg,ac,nb - 1 - k))
    else mh3 a b mg ac (nb - 1 - k) na k (out.push x++(b.extract k (nb - 1)).reverse)) else mh3 a b mg ac (nb - 1 - k) na (nb - 1) (out.push x)
  | _=>pure (.done (some (yt_ a b (out.push x) na (nb - 1)),na,nb - 1,out.push x,mg,ac,bc))
def mh1 (a b:Array Keyed) (ac bc nb:Nat) (out:Array Keyed) (na mg:Nat):SM (ForInStep R2):=do
 j3_ mg
 let x <- elem' b (nb - 1)
 let r <- zm_ false x a 0 na (na - 1)
 match r with
 | some k=>if na - k > 0 then (if (k == 0)=true then pure (.done (some (yt_ a b (out++(a.extract k na).reverse) k nb),k,nb,out++(a.extract k na).reverse,mg,na - k,bc))
   else mh2 a b mg (na - k) nb bc k (out++(a.extract k na).reverse)) else mh2 a b mg (na - k) nb bc na out
 | _=>pure (.done (some (yt_ a b out na nb),na,nb,out,mg,ac,bc))
def mhB (a b:Array Keyed) (_:Nat) (c:R2):SM (ForInStep R2) :=
 if c.2.2.2.2.1 > 1 then mh1 a b c.2.2.2.2.2.1 c.2.2.2.2.2.2 c.2.2.1 c.2.2.2.1 c.2.1 (c.2.2.2.2.1 - 1) else mh1 a b c.2.2.2.2.2.1 c.2.2.2.2.2.2 c.2.2.1 c.2.2.2.1 c.2.1 c.2.2.2.2.1
def mhAa (a b:Array Keyed) (mg:Nat) (c:R1):SM (ForInStep R1):=do
 let x <- elem' a (c.2.1 - 1)
 if (c.2.1 - 1 == 0)=true then pure (.done (some (yt_ a b (c.2.2.2.1.push x) (c.2.1 - 1) c.2.2.1),c.2.1 - 1,c.2.2.1,c.2.2.2.1.push x,c.2.2.2.2.1+1,0))
 else if c.2.2.2.2.1+1≥mg then pure (.done (none,c.2.1 - 1,c.2.2.1,c.2.2.2.1.push x,c.2.2.2.2.1+1,0)) else pure (.yield (none,c.2.1 - 1,c.2.2.1,c.2.2.2.1.push x,c.2.2.2.2.1+1,0))
def mhAb (a b:Array Keyed) (mg:Nat) (c:R1):SM (ForInStep R1):=do
 let x <- elem' b (c.2.2.1 - 1)
 if (c.2.2.1 - 1 == 1)=true then pure (.done (some (y0_ a b (c.2.2.2.1.push x) c.2.1 (c.2.2.1 - 1)),c.2.1,c.2.2.1 - 1,c.2.2.2.1.push x,0,c.2.2.2.2.2+1))
 else if c.2.2.2.2.2+1≥mg then pure (.done (none,c.2.1,c.2.2.1 - 1,c.2.2.2.1.push x,0,c.2.2.2.2.2+1)) else pure (.yield (none,c.2.1,c.2.2.1 - 1,c.2.2.2.1.push x,0,c.2.2.2.2.2+1))
def mhA (a b:Array Keyed) (mg:Nat) (_:Nat) (c:R1):SM (ForInStep R1):=do
 let x <- elem' b (c.2.2.1 - 1)
 let y <- elem' a (c.2.1 - 1)
 let r <- lt' x y
 match r with
 | some w=>if w=true then mhAa a b mg c else mhAb a b mg c
 | _=>pure (.done (some (yt_ a b c.2.2.2.1 c.2.1 c.2.2.1),c.2.1,c.2.2.1,c.2.2.2.1,c.2.2.2.2.1,c.2.2.2.2.2))
def mhO (a b:Array Keyed) (_:Nat) (c:R0):SM (ForInStep R0):=do
 let c1 <- forIn [0:a.size+b.size] ((none,c.2.1,c.2.2.1,c.2.2.2.1,0,0):R1) (mhA a b c.2.2.2.2)
 match c1.1 with
 | some r=>pure (.done (some r,c1.2.1,c1.2.2.1,c1.2.2.2.1,c.2.2.2.2))
 | none=>do
  liftM (rule "list.sort.gallop")
  let c2 <- forIn [0:a.size+b.size] ((none,c1.2.1,c1.2.2.1,c1.2.2.2.1,c.2.2.2.2+1,c1.2.2.2.2.1,c1.2.2.2.2.2):R2) (mhB a b)
  match c2.1 with
  | some r=>pure (.done (some r,c2.2.1,c2.2.2.1,c2.2.2.2.1,c2.2.2.2.2.1))
  | none=>do
   j3_ (c2.2.2.2.2.1+1)
   pure (.yield (none,c2.2.1,c2.2.2.1,c2.2.2.2.1,c2.2.2.2.2.1+1))
theorem jfq_ (a b:Array Keyed):vh_ a b=(do
  liftM (rule "list.sort.merge-hi")
  let x <- elem' a (a.size - 1)
  if (a.size - 1 == 0)=true then pure (yt_ a b #[x] (a.size - 1) b.size)
  else if (b.size == 1)=true then pure (y0_ a b #[x] (a.size - 1) b.size)
  else do
   let s <- get
   let c <- forIn [0:a.size+b.size] ((none,a.size - 1,b.size,#[x],gallopOf s):R0) (mhO a b)
   match c.1 with
   | some r=>pure r
   | none=>liftM (unsupported "internal:list.sort.merge-bound")):=by
 rw[jdx_]
 refine congrArg (bind _) (funext fun _=>?_)
 refine congrArg (bind _) (funext fun x=>?_)
 dsimp only
 refine ite_congr rfl (fun _=>rfl) fun _=>?_
 refine ite_congr rfl (fun _=>rfl) fun _=>?_
 refine congrArg (bind _) (funext fun s=>?_)
 refine congr (congrArg bind ?_) (funext fun c=>?_)
 ·refine congrArg (forIn _ _) (funext fun i=>funext fun c=>?_)
  unfold mhO
  refine congr (congrArg bind ?_) (funext fun c1=>?_)
  ·refine congrArg (forIn _ _) (funext fun i=>funext fun c=>?_)
   unfold mhA
   rfl
  ·obtain⟨r1,na1,nb1,o1,ac1,bc1⟩:=c1
   cases r1 with
   | some r=>rfl
   | none =>
    refine congrArg (bind _) (funext fun _=>?_)
    refine congr (congrArg bind ?_) (funext fun c2=>?_)
    ·refine congrArg (forIn _ _) (funext fun i=>funext fun c=>?_)
     obtain⟨r2,na2,nb2,o2,mg2,ac2,bc2⟩:=c
     unfold mhB
     dsimp only
     refine ite_congr rfl (fun _=>?_) fun _=>?_
     ·unfold mh1
      refine congrArg (bind _) (funext fun _=>?_)
      refine congrArg (bind _) (funext fun _=>?_)
      refine congrArg (bind _) (funext fun r=>?_)
      cases r with
      | none=>rfl
      | some k =>
       dsimp only
       refine ite_congr rfl (fun _=>?_) fun _=>?_
       ·refine ite_congr rfl (fun _=>rfl) fun _=>?_
        rfl
       ·rfl
     ·rfl
    ·obtain⟨r2,na2,nb2,o2,mg2,ac2,bc2⟩:=c2
     cases r2 <;> rfl
 ·obtain⟨r,c⟩:=c
  cases r <;> rfl
end PyProof.Rows
set_option autoImplicit false
namespace PyProof.Rows
open PySem
section
variable {O:KeyOrd} {k:Keyed->O.α}
structure Mh (O:KeyOrd) (k:Keyed->O.α) (A B o:List Keyed) (na nb:Nat):Prop where
 perm:(A.take na++B.take nb++o.reverse).Perm (A++B)
 srt:Srt O k o.reverse
 la:∀ x∈A.take na,∀ y∈o,O.kle (k x) (k y)
 lb:∀ x∈B.take nb,∀ y∈o,O.kle (k x) (k y)
variable {A B o:List Keyed} {na nb:Nat}
theorem Mh.endA (h:Mh O k A B o na nb) (hB:Srt O k B) (he:na=0):Mrg O k A B (A.take na++B.take nb++o.reverse):=by
 refine⟨h.perm,?_⟩
 rw[he,sr_,kh_]
 exact(hB.take _).app h.srt fun x hx y hy=>h.lb x hx y (by simpa using hy)
theorem Mh.endB (h:Mh O k A B o na nb) (hA:Srt O k A) (he:nb=0):Mrg O k A B (A.take na++B.take nb++o.reverse):=by
 refine⟨h.perm,?_⟩
 rw[he,sr_,qt_]
 exact(hA.take _).app h.srt fun x hx y hy=>h.la x hx y (by simpa using hy)
theorem Mh.first (h:Mh O k A B o na nb) (hB:Srt O k B) (hA:Srt O k A) (hf:∀ x∈B.take 1,∀ y∈A,O.kle (k x) (k y)) (he:nb=1):Mrg O k A B (B.take nb++A.take na++o.reverse):=by
 refine⟨q7_.trans (rl_ _ r7_) h.perm,?_⟩
 refine((hB.take _).app (hA.take _) fun x hx y hy=>?_).app h.srt fun x hx y hy=>?_
 ·rw[he] at hx
  exact hf x hx y (p8_ hy)
 ·have hy:y∈o:=by simpa using hy
  rcases pq_.mp hx with hx | hx
  ·exact h.lb x hx y hy
  ·exact h.la x hx y hy
theorem Mh.blockA (h:Mh O k A B o na nb) (hA:Srt O k A) {r:Nat} (hr:r<=na) (c:∀ x∈(A.take na).drop r,∀ y∈B.take nb,O.kle (k y) (k x)):Mh O k A B (o++((A.take na).drop r).reverse) r nb:=by
 have e:A.take na=A.take r++(A.take na).drop r:=by
  have:=qa_ r (A.take na)
  rw[sc_,q8_ hr] at this
  exact this.symm
 have erev:(o++((A.take na).drop r).reverse).reverse=(A.take na).drop r++o.reverse:=by rw[List.reverse_append,ku_]
 refine⟨q7_.trans ?_ h.perm,?_,fun x hx y hy=>?_,fun x hx y hy=>?_⟩
 ·rw[erev]
  conv=>rhs;rw[e]
  rw[pu_,pu_,pu_]
  refine ru_ _ ?_
  rw[<- pu_,<- pu_]
  exact rl_ _ r7_
 ·rw[erev]
  exact((hA.take _).drop _).app h.srt fun x hx y hy=>h.la x (ql_ hx) y (by simpa using hy)
 ·rcases pq_.mp hy with hy | hy
  ·exact h.la x (by rw[e];exact rw_ _ hx) y hy
  ·have:=hA.take na
   rw[e] at this
   exact(rc_.mp this).2.2 x hx y (by simpa using hy)
 ·rcases pq_.mp hy with hy | hy
  ·exact h.lb x hx y hy
  ·exact c y (by simpa using hy) x hx
theorem Mh.blockB (h:Mh O k A B o na nb) (hB:Srt O k B) {r:Nat} (hr:r<=nb) (c:∀ x∈(B.take nb).drop r,∀ y∈A.take na,O.kle (k y) (k x)):Mh O k A B (o++((B.take nb).drop r).reverse) na r:=by
 have e:B.take nb=B.take r++(B.take nb).drop r:=by
  have:=qa_ r (B.take nb)
  rw[sc_,q8_ hr] at this
  exact this.symm
 have erev:(o++((B.take nb).drop r).reverse).reverse=(B.take nb).drop r++o.reverse:=by rw[List.reverse_append,ku_]
 refine⟨?_,?_,fun x hx y hy=>?_,fun x hx y hy=>?_⟩
 ·rw[erev]
  have:=h.perm
  rw[e] at this
  simp only[pu_] at this ⊢
  exact this
 ·rw[erev]
  exact((hB.take _).drop _).app h.srt fun x hx y hy=>h.lb x (ql_ hx) y (by simpa using hy)
 ·rcases pq_.mp hy with hy | hy
  ·exact h.la x hx y hy
  ·exact c y (by simpa using hy) x hx
 ·rcases pq_.mp hy with hy | hy
  ·exact h.lb x (by rw[e];exact rw_ _ hx) y hy
  ·have:=hB.take nb
   rw[e] at this
   exact(rc_.mp this).2.2 x hx y (by simpa using hy)
theorem jcy_ {l:List Keyed} {n:Nat} {x:Keyed} (hn:0 < n) (h:l[n - 1]?=some x):(l.take n).drop (n - 1)=[x]:=by
 obtain⟨h1,rfl⟩:=pl_.mp h
 rw[List.drop_take,sa_ h1,show n - (n - 1)=1 by omega];rfl
theorem Mh.pushA (h:Mh O k A B o na nb) (hA:Srt O k A) (hn:0 < na) {x:Keyed} (hx:A[na - 1]?=some x) (c:∀ y∈B.take nb,O.kle (k y) (k x)):Mh O k A B (o++[x]) (na - 1) nb:=by
 have:=h.blockA hA (r:=na - 1) (by omega) (by (rw[jcy_ hn hx];intro z hz y hy;have:z=x:=by simpa using hz);rw[this];exact c y hy)
 rw[jcy_ hn hx] at this
 exact this
theorem Mh.pushB (h:Mh O k A B o na nb) (hB:Srt O k B) (hn:0 < nb) {x:Keyed} (hx:B[nb - 1]?=some x) (c:∀ y∈A.take na,O.kle (k y) (k x)):Mh O k A B (o++[x]) na (nb - 1):=by
 have:=h.blockB hB (r:=nb - 1) (by omega) (by (rw[jcy_ hn hx];intro z hz y hy;have:z=x:=by simpa using hz);rw[this];exact c y hy)
 rw[jcy_ hn hx] at this
 exact this
theorem Srt.tail {l:List Keyed} (h:Srt O k l) {n:Nat} (hn:0 < n) {x:Keyed} (hx:l[n - 1]?=some x):∀ y∈l.take n,O.kle (k y) (k x):=fun y hy=>by
 obtain⟨j,hj,rfl⟩:=qp_ hy
 rw[pr_] at hj
 exact h.get (i:=j) (j:=n - 1) (by omega) (by rw[wr_];exact pc_ (by omega)) hx
end
theorem yi_ (a b out:Array Keyed) (na nb:Nat):(yt_ a b out na nb).toList=a.toList.take na++b.toList.take nb++out.toList.reverse:=by
 unfold yt_;simp
theorem yu_ (a b out:Array Keyed) (na nb:Nat):(y0_ a b out na nb).toList=b.toList.take nb++a.toList.take na++out.toList.reverse:=by
 unfold y0_;simp
theorem jcd_ (a:Array Keyed) (i j:Nat):(a.extract i j).reverse.toList=((a.toList.take j).drop i).reverse:=by
 simp[List.drop_take]
section
variable {prog:Program} {w:World} {A:Around} {E:Value->Shared->Prop} {s:Shared} {kd:SortKind} {O:KeyOrd} {ok:Keyed->Prop} {k:Keyed->O.α} {a b:Array Keyed}
def J2 (O:KeyOrd) (k:Keyed->O.α) (a b:Array Keyed) (st:SortSt) (p:Nat) (c:R2) (st':SortSt):Prop:=SSt st st' /\
 match c.1 with
 | some r=>Mrg O k a.toList b.toList r.toList
 | none=>Mh O k a.toList b.toList c.2.2.2.1.toList c.2.1 c.2.2.1/\(0 < c.2.1/\c.2.1<=a.size)/\(1 < c.2.2.1/\c.2.2.1<=b.size)/\p+(c.2.1+c.2.2.1)<=a.size+b.size
def J1 (O:KeyOrd) (k:Keyed->O.α) (a b:Array Keyed) (st:SortSt) (p:Nat) (c:R1) (st':SortSt):Prop:=SSt st st' /\
 match c.1 with
 | some r=>Mrg O k a.toList b.toList r.toList
 | none=>Mh O k a.toList b.toList c.2.2.2.1.toList c.2.1 c.2.2.1/\(0 < c.2.1/\c.2.1<=a.size)/\(1 < c.2.2.1/\c.2.2.1<=b.size)/\p+(c.2.1+c.2.2.1)<=a.size+b.size
def J0 (O:KeyOrd) (k:Keyed->O.α) (a b:Array Keyed) (st:SortSt) (p:Nat) (c:R0) (st':SortSt):Prop:=SSt st st' /\
 match c.1 with
 | some r=>Mrg O k a.toList b.toList r.toList
 | none=>Mh O k a.toList b.toList c.2.2.2.1.toList c.2.1 c.2.2.1/\(0 < c.2.1/\c.2.1<=a.size)/\(1 < c.2.2.1/\c.2.2.1<=b.size)/\p+(c.2.1+c.2.2.1)<=a.size+b.size
theorem jkj_ (T:Two O ok k a b) {st st':SortSt} (ss:SSt st st') {mg ac bc na nb p:Nat} {out:Array Keyed} (m:Mh O k a.toList b.toList out.toList na nb) (h1:0 < na/\na<=a.size) (h2:1 < nb/\nb<=b.size) (hp:p+(na+nb)<=a.size+b.size)
  (hx:∀ x,a.toList[na - 1]?=some x->∀ y∈b.toList.take nb,O.kle (k y) (k x)) :
  wpS (model prog w) A E s (mh3 a b mg ac bc na nb out) (fun r st'=>match r with | .done c=>J2 O k a b st (p+1) c st' | .yield c=>c.1=none/\J2 O k a b st (p+1) c st') st':=by
 unfold mh3
 obtain⟨x,e1,e2,_⟩:=T.getA (show na - 1 < a.size by omega)
 refine wpS_bind (jp_ e1 ?_)
 have m':Mh O k a.toList b.toList (out.push x).toList (na - 1) nb:=by rw[rh_];exact m.pushA T.sa h1.1 e2 (hx x e2)
 by_cases c:na - 1=0
 ·rw[if_pos (by simpa using c)]
  refine wpS_pure ⟨ss,?_⟩
  show Mrg O k _ _ (yt_ a b (out.push x) (na - 1) nb).toList
  rw[yi_]
  exact m'.endA T.sb c
 ·rw[if_neg (by simpa using c)]
  have fin:∀ mg ac bc,J2 O k a b st (p+1) (none,na - 1,nb,out.push x,mg,ac,bc) st':=fun mg ac bc=>⟨ss,m',⟨by show 0 < na - 1;omega,by show na - 1<=a.size;omega⟩,h2,by show p+1+(na - 1+nb)<=_;omega⟩
  split
  ·exact wpS_pure (fin _ _ _)
  ·exact wpS_pure ⟨rfl,fin _ _ _⟩
theorem jjt_ (C:Cmp prog w A E s kd O ok k) (T:Two O ok k a b) {st st':SortSt} (hk:kindOf st=kd) (ss:SSt st st') {mg ac bc na nb p:Nat} {out:Array Keyed} (m:Mh O k a.toList b.toList out.toList na nb) (h1:0 < na/\na<=a.size) (h2:1 < nb/\nb<=b.size) (hp:p+(na+nb)<=a.size+b.size)
  (hx:∀ x,b.toList[nb - 1]?=some x->∀ y∈a.toList.take na,O.kle (k y) (k x)) :
  wpS (model prog w) A E s (mh2 a b mg ac nb bc na out) (fun r st'=>match r with | .done c=>J2 O k a b st (p+1) c st' | .yield c=>c.1=none/\J2 O k a b st (p+1) c st') st':=by
 unfold mh2
 obtain⟨x,e1,e2,_⟩:=T.getB (show nb - 1 < b.size by omega)
 refine wpS_bind (jp_ e1 ?_)
 have m':Mh O k a.toList b.toList (out.push x).toList na (nb - 1):=by rw[rh_];exact m.pushB T.sb (by omega) e2 (hx x e2)
 by_cases c:nb - 1=1
 ·rw[if_pos (by simpa using c)]
  refine wpS_pure ⟨ss,?_⟩
  show Mrg O k _ _ (y0_ a b (out.push x) na (nb - 1)).toList
  rw[yu_]
  exact m'.first T.sb T.sa T.first c
 ·rw[if_neg (by simpa using c)]
  obtain⟨y,f1,f2,f3⟩:=T.getA (show na - 1 < a.size by omega)
  refine wpS_bind (jp_ f1 ?_)
  refine wpS_bind (zx_ C (seg:=b.toList.take (nb - 1)) (ss.1.trans hk) f3 (fun i hi=>by rw[km_,rv_ hi,p9_]) (by rw[pr_,lens];omega) (fun z hz=>T.okb z (p8_ hz)) (T.sb.take _) (by omega) fun r hr g1 g2=>?_)
  simp only[if_true] at g1 g2
  dsimp only
  have m2:Mh O k a.toList b.toList (out.push x++(b.extract r (nb - 1)).reverse).toList na r:=by
   rw[td_,jcd_]
   exact m'.blockB T.sb hr fun z hz v hv=>qe_ (T.sa.tail h1.1 f2 v hv) (g2 z hz)
  have hy:∀ x,a.toList[na - 1]?=some x->∀ v∈b.toList.take r,O.kle (k v) (k x):=fun x hx' v hv=>by
   rw[f2] at hx'
   cases hx'
   exact qy_ (g1 v (by rw[sc_,q8_ hr];exact hv))
  split
  ·by_cases c2:r=1
   ·rw[if_pos (by simpa using c2)]
    refine wpS_pure ⟨ss,?_⟩
    show Mrg O k _ _ (y0_ a b _ na r).toList
    rw[yu_]
    exact m2.first T.sb T.sa T.first c2
   ·rw[if_neg (by simpa using c2)]
    by_cases c3:r=0
    ·rw[if_pos (by simpa using c3)]
     refine wpS_pure ⟨ss,?_⟩
     show Mrg O k _ _ (yt_ a b _ na r).toList
     rw[yi_]
     exact m2.endB T.sa c3
    ·rw[if_neg (by simpa using c3)]
     exact jkj_ T ss m2 h1 ⟨by omega,by omega⟩ (by omega) hy
  ·have:r=nb - 1:=by omega
   subst this
   exact jkj_ T ss m' h1 ⟨by omega,by omega⟩ (by omega) hy
theorem jqj_ (C:Cmp prog w A E s kd O ok k) (T:Two O ok k a b) {st st':SortSt} (hk:kindOf st=kd) (ss:SSt st st') {mg ac bc na nb p:Nat} {out:Array Keyed} (m:Mh O k a.toList b.toList out.toList na nb) (h1:0 < na/\na<=a.size) (h2:1 < nb/\nb<=b.size) (hp:p+(na+nb)<=a.size+b.size) :
  wpS (model prog w) A E s (mh1 a b ac bc nb out na mg) (fun r st'=>match r with | .done c=>J2 O k a b st (p+1) c st' | .yield c=>c.1=none/\J2 O k a b st (p+1) c st') st':=by
 unfold mh1
 rw[zi_]
 refine wpS_bind (wpS_modify ?_)
 have ss1:SSt st (SortSt.mk' (kindOf st') (arrOf st') (pendingOf st') mg (failedOf st')):=ss.trans ⟨rfl,rfl,rfl,rfl⟩
 generalize SortSt.mk' (kindOf st') (arrOf st') (pendingOf st') mg (failedOf st')=st1 at ss1 ⊢
 obtain⟨x,e1,e2,e3⟩:=T.getB (show nb - 1 < b.size by omega)
 refine wpS_bind (jp_ e1 ?_)
 refine wpS_bind (zx_ C (seg:=a.toList.take na) (ss1.1.trans hk) e3 (fun i hi=>by rw[km_,rv_ hi,p9_]) (by rw[pr_,lens];omega) (fun z hz=>T.oka z (p8_ hz)) (T.sa.take _) (by omega) fun r hr g1 g2=>?_)
 simp only[p0_,if_false] at g1 g2
 dsimp only
 have m2:Mh O k a.toList b.toList (out++(a.extract r na).reverse).toList r nb:=by
  rw[td_,jcd_]
  exact m.blockA T.sa hr fun z hz v hv=>qe_ (T.sb.tail (by omega) e2 v hv) (qy_ (g2 z hz))
 have hy:∀ x,b.toList[nb - 1]?=some x->∀ v∈a.toList.take r,O.kle (k v) (k x):=fun x hx' v hv=>by
  rw[e2] at hx'
  cases hx'
  exact g1 v (by rw[sc_,q8_ hr];exact hv)
 split
 ·by_cases c:r=0
  ·rw[if_pos (by simpa using c)]
   refine wpS_pure ⟨ss1,?_⟩
   show Mrg O k _ _ (yt_ a b _ r nb).toList
   rw[yi_]
   exact m2.endA T.sb c
  ·rw[if_neg (by simpa using c)]
   exact jjt_ C T hk ss1 m2 ⟨by omega,by omega⟩ h2 (by omega) hy
 ·have:r=na:=by omega
  subst this
  exact jjt_ C T hk ss1 m h1 h2 hp hy
theorem jqf_ (C:Cmp prog w A E s kd O ok k) (T:Two O ok k a b) {st st':SortSt} (hk:kindOf st=kd) {mg i p:Nat} {c:R1} (hc:c.1=none) (g:J1 O k a b st p c st') :
  wpS (model prog w) A E s (mhA a b mg i c) (fun r st'=>match r with | .done c=>J1 O k a b st (p+1) c st' | .yield c=>c.1=none/\J1 O k a b st (p+1) c st') st':=by
 obtain⟨r0,na,nb,out,ac,bc⟩:=c
 cases hc
 obtain⟨ss,m,h1,h2,hp⟩:=g
 dsimp only at m h1 h2 hp
 unfold mhA
 dsimp only
 obtain⟨x,e1,e2,e3⟩:=T.getB (show nb - 1 < b.size by omega)
 obtain⟨y,f1,f2,f3⟩:=T.getA (show na - 1 < a.size by omega)
 refine wpS_bind (jp_ e1 (wpS_bind (jp_ f1 (wpS_bind (C.lt (ss.1.trans hk) e3 f3 ?_)))))
 dsimp only
 cases hw:O.blt (k x) (k y) with
 | true =>
  rw[if_pos rfl]
  unfold mhAa
  dsimp only
  refine wpS_bind (jp_ f1 ?_)
  have m':Mh O k a.toList b.toList (out.push y).toList (na - 1) nb:=by
   rw[rh_]
   exact m.pushA T.sa h1.1 f2 fun v hv=>qe_ (T.sb.tail (by omega) e2 v hv) (qy_ hw)
  by_cases c:na - 1=0
  ·rw[if_pos (by simpa using c)]
   refine wpS_pure ⟨ss,?_⟩
   show Mrg O k _ _ (yt_ a b (out.push y) (na - 1) nb).toList
   rw[yi_]
   exact m'.endA T.sb c
  ·rw[if_neg (by simpa using c)]
   have fin:∀ ac bc,J1 O k a b st (p+1) (none,na - 1,nb,out.push y,ac,bc) st':=fun ac bc=>⟨ss,m',⟨by show 0 < na - 1;omega,by show na - 1<=a.size;omega⟩,h2,by show p+1+(na - 1+nb)<=_;omega⟩
   split
   ·exact wpS_pure (fin _ _)
   ·exact wpS_pure ⟨rfl,fin _ _⟩
 | false =>
  rw[if_neg pp_]
  unfold mhAb
  dsimp only
  refine wpS_bind (jp_ e1 ?_)
  have m':Mh O k a.toList b.toList (out.push x).toList na (nb - 1):=by
   rw[rh_]
   exact m.pushB T.sb (by omega) e2 fun v hv=>qe_ (T.sa.tail h1.1 f2 v hv) (show O.kle (k y) (k x) from hw)
  by_cases c:nb - 1=1
  ·rw[if_pos (by simpa using c)]
   refine wpS_pure ⟨ss,?_⟩
   show Mrg O k _ _ (y0_ a b (out.push x) na (nb - 1)).toList
   rw[yu_]
   exact m'.first T.sb T.sa T.first c
  ·rw[if_neg (by simpa using c)]
   have fin:∀ ac bc,J1 O k a b st (p+1) (none,na,nb - 1,out.push x,ac,bc) st':=fun ac bc=>⟨ss,m',h1,⟨by show 1 < nb - 1;omega,by show nb - 1<=b.size;omega⟩,by show p+1+(na+(nb - 1))<=_;omega⟩
   split
   ·exact wpS_pure (fin _ _)
   ·exact wpS_pure ⟨rfl,fin _ _⟩
theorem jru_ (C:Cmp prog w A E s kd O ok k) (T:Two O ok k a b) {st st':SortSt} (hk:kindOf st=kd) {i p:Nat} {c:R0} (hc:c.1=none) (g:J0 O k a b st p c st') :
  wpS (model prog w) A E s (mhO a b i c) (fun r st'=>match r with | .done c=>(∃ r,c.1=some r)/\J0 O k a b st (p+1) c st' | .yield c=>c.1=none/\J0 O k a b st (p+1) c st') st':=by
 obtain⟨r0,na,nb,out,mg⟩:=c
 cases hc
 obtain⟨ss,m,h1,h2,hp⟩:=g
 dsimp only at m h1 h2 hp
 unfold mhO
 dsimp only
 refine wpS_bind (wpS_mono (wpS_forRange (I:=fun t c st'=>c.1=none/\J1 O k a b st (p+t) c st') (Q:=fun c st'=>J1 O k a b st (p+1) c st') ?step ?fin ⟨rfl,ss,m,h1,h2,by show p+0+_<=_;omega⟩) ?post)
 case fin =>
  rintro⟨r0,na,nb,out,ac,bc⟩ st' ⟨hc,g⟩
  cases hc
  obtain⟨_,_,g1,g2,g3⟩:=g
  dsimp only at g1 g2 g3
  omega
 case step =>
  rintro t c st' _ _ ⟨hc,g⟩
  refine wpS_mono (jqf_ C T hk hc g) fun r st'' h=>?_
  cases r with
  | done c' =>
   obtain⟨h1,h2⟩:=h
   refine⟨h1,?_⟩
   obtain⟨r1,c1⟩:=c'
   cases r1 with
   | some r=>exact h2
   | none=>exact⟨h2.1,h2.2.1,h2.2.2.1,qq_ (by omega) h2.2.2.2⟩
  | yield c'=>exact h
 case post =>
  rintro⟨r1,na1,nb1,out1,ac1,bc1⟩ st1 ⟨ss1,g⟩
  cases r1 with
  | some r=>exact wpS_pure ⟨⟨r,rfl⟩,ss1,g⟩
  | none =>
   obtain⟨m1,g1,g2,g3⟩:=g
   dsimp only at m1 g1 g2 g3 ⊢
   refine wpS_bind (wpS_lift (wpAny_rule ⟨rfl,?_⟩))
   refine wpS_bind (wpS_mono (wpS_forRange (I:=fun t c st'=>c.1=none/\J2 O k a b st (p+1+t) c st') (Q:=fun c st'=>J2 O k a b st (p+1) c st') ?step2 ?fin2 ⟨rfl,ss1,m1,g1,g2,by show p+1+0+_<=_;omega⟩) ?post2)
   case fin2 =>
    rintro⟨r0,na,nb,out,mg,ac,bc⟩ st' ⟨hc,g⟩
    cases hc
    obtain⟨_,_,g1,g2,g3⟩:=g
    dsimp only at g1 g2 g3
    omega
   case step2 =>
    rintro t ⟨r0,na,nb,out,mg,ac,bc⟩ st' _ _ ⟨hc,g⟩
    cases hc
    obtain⟨ss,m,h1,h2,hp⟩:=g
    dsimp only at m h1 h2 hp
    have fin:∀ mg,wpS (model prog w) A E s (mh1 a b ac bc nb out na mg) (fun r st'=>match r with | .done c=>J2 O k a b st (p+1) c st' | .yield c=>c.1=none/\J2 O k a b st (p+1+(t+1)) c st') st':=fun mg=>by
     refine wpS_mono (jqj_ C T hk ss m h1 h2 hp) fun r st'' h=>?_
     cases r with
     | done c' =>
      obtain⟨h1,h2⟩:=h
      refine⟨h1,?_⟩
      obtain⟨r1,c1⟩:=c'
      cases r1 with
      | some r=>exact h2
      | none=>exact⟨h2.1,h2.2.1,h2.2.2.1,qq_ (by omega) h2.2.2.2⟩
     | yield c'=>exact h
    unfold mhB
    dsimp only
    split
    ·exact wpS_mono (fin _) fun r st h=>by cases r <;> exact h
    ·exact wpS_mono (fin _) fun r st h=>by cases r <;> exact h
   case post2 =>
    rintro⟨r2,na2,nb2,out2,mg2,ac2,bc2⟩ st2 ⟨ss2,g⟩
    cases r2 with
    | some r=>exact wpS_pure ⟨⟨r,rfl⟩,ss2,g⟩
    | none =>
     obtain⟨m1,g1,g2,g3⟩:=g
     dsimp only at m1 g1 g2 g3 ⊢
     rw[zi_]
     exact wpS_bind (wpS_modify (wpS_pure ⟨rfl,ss2.trans ⟨rfl,rfl,rfl,rfl⟩,m1,g1,g2,g3⟩))
theorem jfh_ (C:Cmp prog w A E s kd O ok k) (T:Two O ok k a b) {st:SortSt} (hk:kindOf st=kd) {Q:Array Keyed->SortSt->Prop} (h:∀ r st',SSt st st'->Mrg O k a.toList b.toList r.toList->Q r st') :
  wpS (model prog w) A E s (vh_ a b) Q st:=by
 rw[jfq_]
 refine wpS_bind (wpS_lift (wpAny_rule ⟨rfl,?_⟩))
 have nb:=T.nb
 have na:=T.na
 obtain⟨x,e1,e2,_⟩:=T.getA (show a.size - 1 < a.size by omega)
 refine wpS_bind (jp_ e1 ?_)
 have m0:Mh O k a.toList b.toList (#[x]:Array Keyed).toList (a.size - 1) b.size:=by
  have hst:Mh O k a.toList b.toList [] a.size b.size:=⟨by rw[q1_ (by rw[lens];omega),q1_ (by rw[lens];omega)];simp,rx_.nil,fun x _ y hy=>(nomatch hy),fun x _ y hy=>(nomatch hy)⟩
  refine hst.pushA T.sa na e2 fun y hy=>T.last x ?_ y (p8_ hy)
  rw[lens]
  have:=jcy_ na e2
  rw[q1_ (by rw[lens];omega)] at this
  rw[this];simp
 by_cases c:a.size - 1=0
 ·rw[if_pos (by simpa using c)]
  refine wpS_pure (h _ _ (SSt.refl _) ?_)
  rw[yi_]
  exact m0.endA T.sb c
 ·rw[if_neg (by simpa using c)]
  by_cases c2:b.size=1
  ·rw[if_pos (by simpa using c2)]
   refine wpS_pure (h _ _ (SSt.refl _) ?_)
   rw[yu_]
   exact m0.first T.sb T.sa T.first c2
  ·rw[if_neg (by simpa using c2)]
   refine wpS_bind (wpS_get ?_)
   refine wpS_bind (wpS_mono (wpS_forRange (I:=fun t c st'=>c.1=none/\J0 O k a b st t c st') (Q:=fun c st'=>(∃ r,c.1=some r)/\∃ p,J0 O k a b st p c st') ?step ?fin ⟨rfl,SSt.refl _,m0,⟨by show 0 < a.size - 1;omega,by show a.size - 1<=a.size;omega⟩,⟨by show 1 < b.size;omega,pg_ _⟩,by show 0+(a.size - 1+b.size)<=_;omega⟩) ?post)
   case fin =>
    rintro⟨r0,na,nb,out,mg⟩ st' ⟨hc,g⟩
    cases hc
    obtain⟨_,_,g1,g2,g3⟩:=g
    dsimp only at g1 g2 g3
    omega
   case step =>
    rintro t c st' _ _ ⟨hc,g⟩
    refine wpS_mono (jru_ C T hk hc g) fun r st'' h=>?_
    cases r with
    | done c'=>exact⟨h.1,_,h.2⟩
    | yield c'=>exact h
   case post =>
    rintro⟨r,c⟩ st' ⟨⟨r',hr⟩,p,ss,g⟩
    cases hr
    exact wpS_pure (h _ _ ss g)
end
end PyProof.Rows
set_option autoImplicit false
namespace PyProof.Rows
open PySem
def okK (κ:KeyKind) (p:Keyed):Prop:=∃ a,κ.keyOf p.1=some a
def keyK (κ:KeyKind) (p:Keyed):κ.α:=(κ.keyOf p.1).getD κ.dflt
def FrS (xs ys:Array Keyed) (lo hi:Nat):Prop:=∀ i,(i < lo∨hi<=i)->ys[i]?=xs[i]?
structure SB (kd:SortKind) (a₀:Array Keyed) (pd:Array (Nat×Nat×Nat)) (xs:Array Keyed) (lo hi:Nat) (st:SortSt):Prop where
 perm:(arrOf st).Perm a₀
 kind:kindOf st=kd
 failed:failedOf st=none
 pend:pendingOf st=pd
 fr:FrS xs (arrOf st) lo hi
section
variable {kd:SortKind} {a₀ xs:Array Keyed} {pd:Array (Nat×Nat×Nat)} {lo hi:Nat} {st:SortSt} {κ:KeyKind}
theorem SB.size (h:SB kd a₀ pd xs lo hi st):(arrOf st).size=a₀.size:=h.perm.size_eq
theorem SB.setArr (h:SB kd a₀ pd xs lo hi st) {ys:Array Keyed} (hp:ys.Perm (arrOf st)) (hf:FrS (arrOf st) ys lo hi):SB kd a₀ pd xs lo hi (setArr st ys) :=
 ⟨hp.trans h.perm,h.kind,h.failed,h.pend,fun i hi=>(hf i hi).trans (h.fr i hi)⟩
theorem xv_ {ys:Array Keyed} {i j:Nat} (hj:j<=ys.size) (h1:lo<=i) (h2:j<=hi):FrS ys (mirror ys i j ((j - i) / 2)) lo hi:=fun k hk=>by
 rw[getElem?_mirror_all hj,if_neg (by omega)]
theorem jlw_ {ys:Array Keyed} {src d:Nat} (hs:src < ys.size) (hd:d<=src) (h1:lo<=src - d) (h2:src < hi):FrS ys (bubble ys src d) lo hi:=fun k hk=>by
 rw[getElem?_bubble hs d hd,if_neg (by omega),if_neg (by omega)]
def SIn (κ:KeyKind) (ys:Array Keyed) (lo n:Nat):Prop:=∀ i j,lo<=i->i<=j->j < lo+n->κ.kle (KK κ ys i) (KK κ ys j)
def NIn (κ:KeyKind) (ys:Array Keyed) (lo n:Nat):Prop:=∀ i j,lo<=i->i<=j->j < lo+n->κ.kle (KK κ ys j) (KK κ ys i)
theorem SB.at (h:SB kd a₀ pd xs lo hi st) (h0:∀ p∈a₀.toList,okK κ p) {i:Nat} (hi:i < a₀.size):∃ p,(arrOf st)[i]?=some p/\okK κ p/\keyK κ p=KK κ (arrOf st) i:=by
 have hi':i < (arrOf st).size:=by rw[h.size];exact hi
 have hm:(arrOf st)[i]∈a₀.toList:=(r4_.mp h.perm).mem_iff.mp (by simp)
 have e:(arrOf st)[i]?=some (arrOf st)[i]:=getElem?_pos _ i hi'
 refine⟨_,e,h0 _ hm,?_⟩
 unfold KK keyK;rw[e]
end
def ascL (lo a nrem:Nat):SM AscSt:=forIn [a:nrem] ((none,a):AscSt) fun _ c=>do
 let x <- ltAt' (lo+c.2) (lo+c.2 - 1)
 match x with
 | some smaller=>if smaller=true then pure (.done (none,c.2)) else pure (.yield (none,c.2+1))
 | _=>pure (.done (some none,c.2))
def tl3 (lo n nrem:Nat):SM (Option Nat):=do
 reverseSlice' lo (lo+n)
 let c <- ascL lo n nrem
 match c.1 with
 | some r=>pure r
 | none=>pure (some c.2)
def dscL (lo n nrem:Nat):SM DescSt:=forIn [n:nrem] ((none,n,0):DescSt) fun _ c=>do
 let x <- ltAt' (lo+c.2.1) (lo+c.2.1 - 1)
 match x with
 | some smaller =>
  if smaller=true then
   if c.2.2 > 0 then do
    reverseSlice' (lo+c.2.1 - (c.2.2+1)) (lo+c.2.1)
    pure (.yield (none,c.2.1+1,0))
   else pure (.yield (none,c.2.1+1,0))
  else do
   let x <- ltAt' (lo+c.2.1 - 1) (lo+c.2.1)
   match x with
   | some larger=>if larger=true then pure (.done (none,c.2.1,c.2.2)) else pure (.yield (none,c.2.1+1,c.2.2+1))
   | _=>pure (.done (some none,c.2.1,c.2.2))
 | _=>pure (.done (some none,c.2.1,c.2.2))
def dscP (lo n nrem:Nat):SM (Option Nat):=do
 liftM (rule "list.sort.descending-run")
 let c <- dscL lo (n+1) nrem
 match c.1 with
 | some r=>pure r
 | none =>
  if c.2.2 > 0 then do
   reverseSlice' (lo+c.2.1 - (c.2.2+1)) (lo+c.2.1)
   tl3 lo c.2.1 nrem
  else tl3 lo c.2.1 nrem
theorem jed_ (lo nrem:Nat):countRun' lo nrem=(do
  let c <- ascL lo 1 nrem
  match c.1 with
  | some r=>pure r
  | none =>
   if (c.2 == nrem)=true then pure (some c.2)
   else if c.2 > 1 then do
    let x <- ltAt' lo (lo+c.2 - 1)
    match x with
    | some rose=>if rose=true then pure (some c.2) else do
      reverseSlice' lo (lo+c.2)
      dscP lo c.2 nrem
    | _=>pure none
   else dscP lo c.2 nrem):=by
 rw[countRun'_eq]
 refine congr (congrArg bind rfl) (funext fun c=>?_)
 obtain⟨r,n⟩:=c
 cases r with
 | some r=>rfl
 | none =>
  dsimp only
  refine ite_congr rfl (fun _=>rfl) fun _=>?_
  refine ite_congr rfl (fun _=>?_) fun _=>?_
  ·refine congrArg (bind _) (funext fun x=>?_)
   cases x with
   | none=>rfl
   | some rose =>
    dsimp only
    refine ite_congr rfl (fun _=>rfl) fun _=>?_
    refine congrArg (bind _) (funext fun _=>?_)
    unfold dscP
    refine congrArg (bind _) (funext fun _=>?_)
    refine congr (congrArg bind rfl) (funext fun c=>?_)
    obtain⟨r2,n2,q2⟩:=c
    cases r2 with
    | some r2=>rfl
    | none =>
     dsimp only
     refine ite_congr rfl (fun _=>?_) fun _=>?_
     ·refine congrArg (bind _) (funext fun _=>?_)
      unfold tl3
      refine congrArg (bind _) (funext fun _=>?_)
      refine congr (congrArg bind rfl) (funext fun c=>?_)
      obtain⟨r3,n3⟩:=c
      cases r3 <;> rfl
     ·unfold tl3
      refine congrArg (bind _) (funext fun _=>?_)
      refine congr (congrArg bind rfl) (funext fun c=>?_)
      obtain⟨r3,n3⟩:=c
      cases r3 <;> rfl
  ·unfold dscP
   refine congrArg (bind _) (funext fun _=>?_)
   refine congr (congrArg bind rfl) (funext fun c=>?_)
   obtain⟨r2,n2,q2⟩:=c
   cases r2 with
   | some r2=>rfl
   | none =>
    dsimp only
    refine ite_congr rfl (fun _=>?_) fun _=>?_
    ·refine congrArg (bind _) (funext fun _=>?_)
     unfold tl3
     refine congrArg (bind _) (funext fun _=>?_)
     refine congr (congrArg bind rfl) (funext fun c=>?_)
     obtain⟨r3,n3⟩:=c
     cases r3 <;> rfl
    ·unfold tl3
     refine congrArg (bind _) (funext fun _=>?_)
     refine congr (congrArg bind rfl) (funext fun c=>?_)
     obtain⟨r3,n3⟩:=c
     cases r3 <;> rfl
section
variable {prog:Program} {w:World} {A:Around} {E:Value->Shared->Prop} {s:Shared} {kd:SortKind} {a₀ xs:Array Keyed} {pd:Array (Nat×Nat×Nat)} {lo hi:Nat} {st:SortSt} {κ:KeyKind}
theorem vb_ (C:Cmp prog w A E s kd κ.toKeyOrd (okK κ) (keyK κ)) {i j:Nat} {Q:Option Bool->SortSt->Prop} (hB:SB kd a₀ pd xs lo hi st) (h0:∀ p∈a₀.toList,okK κ p) (hi':i < a₀.size) (hj:j < a₀.size)
  (h:Q (some (κ.blt (KK κ (arrOf st) i) (KK κ (arrOf st) j))) st):wpS (model prog w) A E s (ltAt' i j) Q st:=by
 obtain⟨x,e1,ox,kx⟩:=hB.at h0 hi'
 obtain⟨y,e2,oy,ky⟩:=hB.at h0 hj
 rw[ltAt'_eq]
 refine wpS_bind (wpS_get ?_)
 show wpS _ _ _ _ (do let x <- elem' (arrOf st) i;let y <- elem' (arrOf st) j;lt' x y) Q st
 refine wpS_bind (jp_ e1 (wpS_bind (jp_ e2 (C.lt hB.kind ox oy ?_))))
 rw[kx,ky];exact h
theorem us_ (C:Cmp prog w A E s kd κ.toKeyOrd (okK κ) (keyK κ)) {n ok:Nat} {Q:Bool->SortSt->Prop} (h0:∀ p∈a₀.toList,okK κ p) (hn:lo+n<=a₀.size) (hok:ok<=n) (hh:lo+n<=hi) (hB:SB kd a₀ pd xs lo hi st) (hs:SIn κ (arrOf st) lo ok)
  (h:∀ st',SB kd a₀ pd xs lo hi st'->SIn κ (arrOf st') lo n->Q true st'):wpS (model prog w) A E s (binarySort' lo n ok) Q st:=by
 rw[binarySort'_eq]
 refine wpS_bind (wpS_mono (wpS_forRange (I:=fun k c st'=>c=(none,())/\SB kd a₀ pd xs lo hi st'/\SIn κ (arrOf st') lo (min k n))
  (Q:=fun c st'=>c=(none,())/\SB kd a₀ pd xs lo hi st'/\SIn κ (arrOf st') lo n) ?step ?fin ?init) ?post)
 case post =>
  rintro c st' ⟨rfl,hB',hs'⟩
  exact wpS_pure (h st' hB' hs')
 case init =>
  refine⟨rfl,hB,fun i j hl hij hj=>?_⟩
  by_cases h1:ok=0
  ·have:i=j:=by omega
   subst this;exact rk_ _
  ·exact hs i j hl hij (by omega)
 case fin =>
  rintro c st' ⟨hc,hB',hs'⟩
  refine⟨hc,hB',?_⟩
  rwa [show min (max (max ok 1) n) n=n by omega] at hs'
 case step =>
  rintro k c st' hak hkn ⟨rfl,hB',hs'⟩
  rw[show min k n=k by omega] at hs'
  have hk:lo+k < a₀.size:=by omega
  refine wpS_bind (wpS_mono (wpS_forRange (I:=fun x c st''=>st''=st'/\∃ l r,c=(none,l,r)/\l<=r/\r<=k/\r - l<=k - x /\
    (∀ i,lo<=i->i < lo+l->κ.kle (KK κ (arrOf st') i) (KK κ (arrOf st') (lo+k)))/\(∀ i,lo+r<=i->i < lo+k->κ.klt (KK κ (arrOf st') (lo+k)) (KK κ (arrOf st') i)))
   (Q:=fun c st''=>st''=st'/\∃ l r,c=(none,l,r)/\l<=k /\
    (∀ i,lo<=i->i < lo+l->κ.kle (KK κ (arrOf st') i) (KK κ (arrOf st') (lo+k)))/\(∀ i,lo+l<=i->i < lo+k->κ.klt (KK κ (arrOf st') (lo+k)) (KK κ (arrOf st') i))) ?istep ?ifin ?iinit) ?ipost)
  case iinit=>exact⟨rfl,0,k,rfl,by omega,by omega,by omega,fun i hl hi=>by omega,fun i h1 h2=>by omega⟩
  case ifin =>
   rintro c st'' ⟨rfl,l,r,rfl,hlr,hrk,hm,hlo,hhi⟩
   have:l=r:=by omega
   subst this
   exact⟨rfl,l,l,rfl,hrk,hlo,hhi⟩
  case istep =>
   rintro x c st'' _ hxk ⟨rfl,l,r,rfl,hlr,hrk,hm,hlo,hhi⟩
   dsimp only
   by_cases hge:l≥r
   ·rw[if_pos hge]
    have:l=r:=by omega
    subst this
    exact wpS_pure ⟨rfl,l,l,rfl,hrk,hlo,hhi⟩
   ·rw[if_neg hge]
    refine wpS_bind (vb_ C hB' h0 hk (by omega) ?_)
    cases hless:κ.blt (KK κ (arrOf st'') (lo+k)) (KK κ (arrOf st'') (lo+(l+r) / 2))
    case true =>
     simp only[if_true]
     refine wpS_pure ⟨rfl,l,(l+r) / 2,rfl,by omega,by omega,by omega,hlo,fun i h1 h2=>?_⟩
     exact KeyOrd.klt_of_klt_of_kle hless (hs' _ _ (by omega) h1 (by omega))
    case false =>
     simp only[p0_,if_false]
     refine wpS_pure ⟨rfl,(l+r) / 2+1,r,rfl,by omega,by omega,by omega,fun i hl h1=>?_,hhi⟩
     exact qe_ (hs' i (lo+(l+r) / 2) hl (by omega) (by omega)) (show κ.kle _ _ from hless)
  case ipost =>
   rintro c st'' ⟨rfl,l,r,rfl,hlk,hlo,hhi⟩
   show wpS _ _ _ _ (do moveDown' (lo+k) (lo+l);pure (ForInStep.yield (none,()))) _ _
   rw[moveDown'_eq]
   have hks:lo+k < (arrOf st'').size:=by rw[hB'.size];exact hk
   refine wpS_bind (wpS_modify (wpS_pure ⟨rfl,hB'.setArr (bubble_perm _ _ _) (jlw_ hks (by omega) (by omega) (by omega)),?_⟩))
   rw[show min (k+1) n=k+1 by omega]
   intro i j hl hij hj
   show κ.kle (KK κ (bubble (arrOf st'') (lo+k) (lo+k - (lo+l))) i) (KK κ (bubble (arrOf st'') (lo+k) (lo+k - (lo+l))) j)
   rw[KK_bubble hks (by omega),KK_bubble hks (by omega),show lo+k - (lo+k - (lo+l))=lo+l by omega]
   repeat' split
   all_goals first
    | (exfalso;omega)
    | exact rk_ _
    | exact hlo _ (by omega) (by omega)
    | exact qy_ (hhi _ (by omega) (by omega))
    | exact hs' _ _ (by omega) (by omega) (by omega)
theorem jgf_ (C:Cmp prog w A E s kd κ.toKeyOrd (okK κ) (keyK κ)) {a nrem:Nat} {Q:AscSt->SortSt->Prop} (h0:∀ p∈a₀.toList,okK κ p) (hn:lo+nrem<=a₀.size) (ha:1<=a) (han:a<=nrem) (hB:SB kd a₀ pd xs lo hi st)
  (hs:SIn κ (arrOf st) lo a)
  (h:∀ n,a<=n->n<=nrem->SIn κ (arrOf st) lo n->(n=nrem∨κ.klt (KK κ (arrOf st) (lo+n)) (KK κ (arrOf st) (lo+n - 1)))->Q (none,n) st) :
  wpS (model prog w) A E s (ascL lo a nrem) Q st:=by
 unfold ascL
 refine wpS_forRange (I:=fun x c st'=>st'=st/\c=(none,x)/\SIn κ (arrOf st) lo x) ?step ?fin ⟨rfl,rfl,hs⟩
 case fin =>
  rintro c st' ⟨rfl,rfl,hs'⟩
  rw[show max a nrem=nrem by omega] at hs' ⊢
  exact h nrem han (pg_ _) hs' (.inl rfl)
 case step =>
  rintro x c st' hax hxn ⟨rfl,rfl,hs'⟩
  dsimp only
  refine wpS_bind (vb_ C hB h0 (by omega) (by omega) ?_)
  cases hless:κ.blt (KK κ (arrOf st') (lo+x)) (KK κ (arrOf st') (lo+x - 1))
  case true =>
   simp only[if_true]
   exact wpS_pure (h x hax (by omega) hs' (.inr hless))
  case false =>
   simp only[p0_,if_false]
   refine wpS_pure ⟨rfl,rfl,fun i j hl hij hj=>?_⟩
   by_cases hjx:j < lo+x
   ·exact hs' i j hl hij hjx
   ·have hj':j=lo+x:=by omega
    subst hj'
    by_cases hi':i=lo+x
    ·subst hi';exact rk_ _
    ·exact qe_ (hs' i (lo+x - 1) hl (by omega) (by omega)) hless
theorem jjz_ (C:Cmp prog w A E s kd κ.toKeyOrd (okK κ) (keyK κ)) {n nrem:Nat} {Q:Option Nat->SortSt->Prop} (h0:∀ p∈a₀.toList,okK κ p) (hn:lo+nrem<=a₀.size) (hh:lo+nrem<=hi) (h1:1<=n) (hnn:n<=nrem) (hB:SB kd a₀ pd xs lo hi st)
  (hs:NIn κ (arrOf st) lo n) (h:∀ m st',SB kd a₀ pd xs lo hi st'->1<=m->m<=nrem->SIn κ (arrOf st') lo m->Q (some m) st') :
  wpS (model prog w) A E s (tl3 lo n nrem) Q st:=by
 unfold tl3
 have hsz:lo+n<=(arrOf st).size:=by rw[hB.size];omega
 refine wpS_bind (wpS_reverse ?_)
 have hB':=hB.setArr (mirror_perm (arrOf st) lo (lo+n) ((lo+n - lo) / 2)) (xv_ hsz (pg_ _) (by omega))
 refine wpS_bind (jgf_ C h0 hn h1 hnn hB' ?_ fun m hm1 hm2 hsm _=>wpS_pure (h m _ hB' (by omega) hm2 hsm))
 intro i j hl hij hj
 show κ.kle (KK κ (mirror (arrOf st) lo (lo+n) ((lo+n - lo) / 2)) i) (KK κ (mirror (arrOf st) lo (lo+n) ((lo+n - lo) / 2)) j)
 rw[KK_mirror hsz,KK_mirror hsz,if_pos (by omega),if_pos (by omega)]
 exact hs _ _ (by omega) (by omega) (by omega)
theorem jos_ (C:Cmp prog w A E s kd κ.toKeyOrd (okK κ) (keyK κ)) {n nrem:Nat} {Q:DescSt->SortSt->Prop} (h0:∀ p∈a₀.toList,okK κ p) (hn:lo+nrem<=a₀.size) (hh:lo+nrem<=hi) (h1:1<=n) (hnn:n<=nrem) (hB:SB kd a₀ pd xs lo hi st)
  (hs:NIn κ (arrOf st) lo n)
  (h:∀ m neq st',SB kd a₀ pd xs lo hi st'->n<=m->m<=nrem->NIn κ (arrOf st') lo m->neq+1<=m->(∀ i,lo+m - (neq+1)<=i->i < lo+m->KK κ (arrOf st') i=KK κ (arrOf st') (lo+m - 1))->Q (none,m,neq) st') :
  wpS (model prog w) A E s (dscL lo n nrem) Q st:=by
 unfold dscL
 refine wpS_forRange (I:=fun x c st'=>∃ neq,c=(none,x,neq)/\SB kd a₀ pd xs lo hi st'/\NIn κ (arrOf st') lo x/\neq+1<=x /\
   (∀ i,lo+x - (neq+1)<=i->i < lo+x->KK κ (arrOf st') i=KK κ (arrOf st') (lo+x - 1))) ?step ?fin ⟨0,rfl,hB,hs,by omega,fun i h1 h2=>by congr 1;omega⟩
 case fin =>
  rintro c st' ⟨neq,rfl,hB',hs',hq,he⟩
  rw[show max n nrem=nrem by omega] at hs' hq he ⊢
  exact h nrem neq st' hB' hnn (pg_ _) hs' hq he
 case step =>
  rintro x c st' hax hxn ⟨neq,rfl,hB',hs',hq,he⟩
  dsimp only
  have hsz:lo+x<=(arrOf st').size:=by rw[hB'.size];omega
  refine wpS_bind (vb_ C hB' h0 (by omega) (by omega) ?_)
  cases hless:κ.blt (KK κ (arrOf st') (lo+x)) (KK κ (arrOf st') (lo+x - 1))
  case true =>
   simp only[if_true]
   have step1:∀ ys:Array Keyed,(∀ k,KK κ ys k=KK κ (arrOf st') k)->NIn κ ys lo (x+1):=by
    intro ys hk i j hl hij hj
    rw[hk,hk]
    by_cases hjx:j < lo+x
    ·exact hs' i j hl hij hjx
    ·have hj':j=lo+x:=by omega
     subst hj'
     by_cases hi':i=lo+x
     ·subst hi';exact rk_ _
     ·exact qe_ (qy_ hless) (hs' i (lo+x - 1) hl (by omega) (by omega))
   by_cases hneq:neq > 0
   ·rw[if_pos hneq]
    refine wpS_bind (wpS_reverse (wpS_pure ⟨0,rfl,hB'.setArr (mirror_perm _ _ _ _) (xv_ hsz (by omega) (by omega)),step1 _ (KK_mirror_equal hsz he),by omega,fun i h1 h2=>by congr 1;omega⟩))
   ·rw[if_neg hneq]
    exact wpS_pure ⟨0,rfl,hB',step1 _ (fun _=>rfl),by omega,fun i h1 h2=>by congr 1;omega⟩
  case false =>
   simp only[p0_,if_false]
   refine wpS_bind (vb_ C hB' h0 (by omega) (by omega) ?_)
   cases hlarger:κ.blt (KK κ (arrOf st') (lo+x - 1)) (KK κ (arrOf st') (lo+x))
   case true =>
    simp only[if_true]
    exact wpS_pure (h x neq st' hB' hax (by omega) hs' hq he)
   case false =>
    simp only[p0_,if_false]
    have heqx:KK κ (arrOf st') (lo+x)=KK κ (arrOf st') (lo+x - 1):=k4_ hlarger hless
    refine wpS_pure ⟨neq+1,rfl,hB',fun i j hl hij hj=>?_,by omega,fun i h1 h2=>?_⟩
    ·by_cases hjx:j < lo+x
     ·exact hs' i j hl hij hjx
     ·have hj':j=lo+x:=by omega
      subst hj'
      by_cases hi':i=lo+x
      ·subst hi';exact rk_ _
      ·rw[heqx];exact hs' i (lo+x - 1) hl (by omega) (by omega)
    ·rw[show lo+(x+1) - 1=lo+x by omega]
     by_cases hix:i=lo+x
     ·subst hix;rfl
     ·rw[heqx];exact he i (by omega) (by omega)
theorem jgd_ (C:Cmp prog w A E s kd κ.toKeyOrd (okK κ) (keyK κ)) {n nrem:Nat} {Q:Option Nat->SortSt->Prop} (h0:∀ p∈a₀.toList,okK κ p) (hn:lo+nrem<=a₀.size) (hh:lo+nrem<=hi) (hnn:n+1<=nrem) (hB:SB kd a₀ pd xs lo hi st)
  (hs:NIn κ (arrOf st) lo (n+1)) (h:∀ m st',SB kd a₀ pd xs lo hi st'->1<=m->m<=nrem->SIn κ (arrOf st') lo m->Q (some m) st') :
  wpS (model prog w) A E s (dscP lo n nrem) Q st:=by
 unfold dscP
 refine wpS_bind (wpS_lift (wpAny_rule ⟨rfl,?_⟩))
 refine wpS_bind (jos_ C h0 hn hh (by omega) hnn hB hs fun m neq st' hB' hm1 hm2 hs' hq he=>?_)
 dsimp only
 have hsz:lo+m<=(arrOf st').size:=by rw[hB'.size];omega
 by_cases hneq:neq > 0
 ·rw[if_pos hneq]
  refine wpS_bind (wpS_reverse (jjz_ C h0 hn hh (by omega) hm2 (hB'.setArr (mirror_perm _ _ _ _) (xv_ hsz (by omega) (by omega))) ?_ h))
  intro i j hl hij hj
  show κ.kle (KK κ (mirror (arrOf st') _ _ _) j) (KK κ (mirror (arrOf st') _ _ _) i)
  rw[KK_mirror_equal hsz he,KK_mirror_equal hsz he]
  exact hs' i j hl hij hj
 ·rw[if_neg hneq]
  exact jjz_ C h0 hn hh (by omega) hm2 hB' hs' h
theorem jbq_ (C:Cmp prog w A E s kd κ.toKeyOrd (okK κ) (keyK κ)) {nrem:Nat} {Q:Option Nat->SortSt->Prop} (h0:∀ p∈a₀.toList,okK κ p) (hn:lo+nrem<=a₀.size) (hh:lo+nrem<=hi) (h1:1<=nrem) (hB:SB kd a₀ pd xs lo hi st)
  (h:∀ m st',SB kd a₀ pd xs lo hi st'->1<=m->m<=nrem->SIn κ (arrOf st') lo m->Q (some m) st') :
  wpS (model prog w) A E s (countRun' lo nrem) Q st:=by
 rw[jed_]
 refine wpS_bind (jgf_ C h0 hn (pg_ 1) h1 hB (fun i j hl hij hj=>by have:i=j:=(by omega);subst this;exact rk_ _) fun n hn1 hn2 hsn hor=>?_)
 dsimp only
 by_cases hnn:n=nrem
 ·rw[if_pos (by simpa using hnn)]
  exact wpS_pure (h n st hB hn1 hn2 hsn)
 ·rw[if_neg (by simpa using hnn)]
  have hlt:κ.klt (KK κ (arrOf st) (lo+n)) (KK κ (arrOf st) (lo+n - 1)):=hor.resolve_left hnn
  by_cases hgt:n > 1
  ·rw[if_pos hgt]
   refine wpS_bind (vb_ C hB h0 (by omega) (by omega) ?_)
   cases hrose:κ.blt (KK κ (arrOf st) lo) (KK κ (arrOf st) (lo+n - 1))
   case true =>
    simp only[if_true]
    exact wpS_pure (h n st hB hn1 hn2 hsn)
   case false =>
    simp only[p0_,if_false]
    have hsz:lo+n<=(arrOf st).size:=by rw[hB.size];omega
    have hall:∀ k,lo<=k->k < lo+n->KK κ (arrOf st) k=KK κ (arrOf st) (lo+n - 1):=by
     intro k hl hk
     have a1:=hsn lo k (by omega) hl hk
     have a2:=hsn k (lo+n - 1) hl (by omega) (by omega)
     exact k4_ a2 (qe_ hrose a1)
    refine wpS_bind (wpS_reverse (jgd_ C h0 hn hh (by omega) (hB.setArr (mirror_perm _ _ _ _) (xv_ hsz (pg_ _) (by omega))) ?_ h))
    intro i j hl hij hj
    show κ.kle (KK κ (mirror (arrOf st) _ _ _) j) (KK κ (mirror (arrOf st) _ _ _) i)
    rw[KK_mirror_equal hsz hall,KK_mirror_equal hsz hall]
    by_cases hjn:j < lo+n
    ·rw[hall i hl (by omega),hall j (by omega) hjn];exact rk_ _
    ·have hj':j=lo+n:=by omega
     subst hj'
     by_cases hi':i=lo+n
     ·subst hi';exact rk_ _
     ·rw[hall i hl (by omega)];exact qy_ hlt
  ·rw[if_neg hgt]
   have hn1':n=1:=by omega
   subst hn1'
   refine jgd_ C h0 hn hh (by omega) hB ?_ h
   intro i j hl hij hj
   by_cases hi':i=j
   ·subst hi';exact rk_ _
   ·have hi0:i=lo:=by omega
    have hj1:j=lo+1:=by omega
    subst hi0;subst hj1
    exact qy_ hlt
end
end PyProof.Rows
set_option autoImplicit false
namespace PyProof.Rows
open PySem
theorem jds_ (i:Nat):mergeAt' i=(do
 let s <- get
 let (some (sa,na,power),some (sb,nb,_)):=((pendingOf s)[i]?,(pendingOf s)[i+1]?) | unsupported "internal:list.sort.pending"
 set (setPending s (((pendingOf s).setIfInBounds i (sa,na+nb,power)).eraseIdxIfInBounds (i+1)))
 let some k <- zm_ false (<- elem' (arrOf s) sb) (arrOf s) sa na 0 | return false
 let (sa,na):=(sa+k,na - k)
 if na == 0 then return true
 let some nb <- zm_ true (<- elem' (arrOf s) (sa+na - 1)) (arrOf s) sb nb (nb - 1) | return false
 if nb == 0 then return true
 let x:=(arrOf s).extract sa sb
 let y:=(arrOf s).extract sb (sb+nb)
 let merged <- if na<=nb then vr_ x y else vh_ x y
 modify fun s=>setArr s (merged.toList.zipIdx.foldl (fun a (p,j)=>a.setIfInBounds (sa+j) p) (arrOf s))
 return (failedOf (<- get)).isNone):=rfl
theorem jqk_ {M:Model} {A:Around} {E:Value->Shared->Prop} {s:Shared} {σ:Type} {t:σ} {Q:PUnit->σ->Prop} {st:σ} (h:Q ⟨⟩ t):wpS M A E s (set t:StateT σ Sem PUnit) Q st:=by
 unfold wpS;rw[StateT.run_set];exact wpAny_pure ⟨rfl,h⟩
theorem jac_:∀(m:List Keyed) (n:Nat) (base:Nat) (P O S:List Keyed) (arr:Array Keyed),arr.toList=P++O++S->P.length=base+n->O.length=m.length ->
  ((m.zipIdx n).foldl (fun a (x:Keyed×Nat)=>a.setIfInBounds (base+x.2) x.1) arr).toList=P++m++S
 | [],n,base,P,O,S,arr,h,_,ho=>by
  have:O=[]:=so_ ho
  rw[this] at h
  exact h
 | x::m,n,base,P,O,S,arr,h,hp,ho=>by
  match O,ho with
  | o::O,ho =>
   rw[tb_,sf_]
   have h2:(arr.setIfInBounds (base+n) x).toList=(P++[x])++O++S:=by
    rw[s6_,h,<- hp]
    simp[List.set_append_right]
   have:=jac_ m (n+1) base (P++[x]) O S _ h2 (by rw[pj_];simp;omega) (by simpa using ho)
   rw[this];simp
section
variable {prog:Program} {w:World} {A:Around} {E:Value->Shared->Prop} {s:Shared} {kd:SortKind} {O:KeyOrd} {ok:Keyed->Prop} {k:Keyed->O.α} {st:SortSt}
theorem ux_ {P R S:List Keyed} {arr:Array Keyed} (h:arr.toList=P++R++S) {i:Nat} (hi:i < R.length):arr[P.length+i]?=R[i]?:=by
 rw[<- p9_,h,pu_,s5_ (by omega),show P.length+i - P.length=i by omega,s7_ hi]
theorem jjw_ {P R S:List Keyed} {arr:Array Keyed} (h:arr.toList=P++R++S):(arr.extract P.length (P.length+R.length)).toList=R:=by
 rw[Array.toList_extract,List.extract_eq_take_drop,h,pu_,List.drop_left]
 simp
theorem jfj_ (C:Cmp prog w A E s kd O ok k) {P L R S:List Keyed} {i pw x:Nat} {Q:Bool->SortSt->Prop} (hL:(arrOf st).toList=P++L++R++S) (sL:Srt O k L) (sR:Srt O k R) (L0:L≠[]) (R0:R≠[])
  (hp1:(pendingOf st)[i]?=some (P.length,L.length,pw)) (hp2:(pendingOf st)[i+1]?=some (P.length+L.length,R.length,x)) (hk:kindOf st=kd) (hf:failedOf st=none) (hok:∀ p∈(arrOf st).toList,ok p)
  (h:∀ W st',W.Perm (L++R)->Srt O k W->(arrOf st').toList=P++W++S->kindOf st'=kd->failedOf st'=none->pendingOf st'=((pendingOf st).setIfInBounds i (P.length,L.length+R.length,pw)).eraseIdxIfInBounds (i+1)->Q true st') :
  wpS (model prog w) A E s (mergeAt' i) Q st:=by
 rw[jds_]
 refine wpS_bind (wpS_get ?_)
 rw[hp1,hp2]
 refine wpS_bind (jqk_ ?_)
 have eA:arrOf (setPending st (((pendingOf st).setIfInBounds i (P.length,L.length+R.length,pw)).eraseIdxIfInBounds (i+1)))=arrOf st:=rfl
 have eK:kindOf (setPending st (((pendingOf st).setIfInBounds i (P.length,L.length+R.length,pw)).eraseIdxIfInBounds (i+1)))=kd:=hk
 have eF:failedOf (setPending st (((pendingOf st).setIfInBounds i (P.length,L.length+R.length,pw)).eraseIdxIfInBounds (i+1)))=none:=hf
 have eP:pendingOf (setPending st (((pendingOf st).setIfInBounds i (P.length,L.length+R.length,pw)).eraseIdxIfInBounds (i+1)))=((pendingOf st).setIfInBounds i (P.length,L.length+R.length,pw)).eraseIdxIfInBounds (i+1):=rfl
 generalize setPending st (((pendingOf st).setIfInBounds i (P.length,L.length+R.length,pw)).eraseIdxIfInBounds (i+1))=st1 at eA eK eF eP ⊢
 have okL:∀ z∈L,ok z:=fun z hz=>hok z (by rw[hL];simp[hz])
 have okR:∀ z∈R,ok z:=fun z hz=>hok z (by rw[hL];simp[hz])
 have nL:=ro_.mpr L0
 have nR:=ro_.mpr R0
 have hL1:(arrOf st).toList=P++L++(R++S):=by rw[hL];simp
 have hL2:(arrOf st).toList=(P++L)++R++S:=hL
 have lPL:(P++L).length=P.length+L.length:=pj_
 obtain⟨r0,hr0⟩:∃ r0,R[0]?=some r0:=⟨_,pc_ nR⟩
 have er0:(arrOf st)[P.length+L.length]?=some r0:=by
  have:=ux_ hL2 nR
  rw[lPL] at this
  exact this.trans hr0
 refine wpS_bind (jp_ er0 ?_)
 refine wpS_bind (zx_ C (seg:=L) eK (okR r0 (rb_ hr0)) (fun j hj=>ux_ hL1 hj) rfl okL sL nL fun a ha g1 g2=>?_)
 simp only[p0_,if_false] at g1 g2
 dsimp only
 have hhead:∀ v∈R,O.kle (k r0) (k v):=fun v hv=>sR.head hr0 v (by rw[ry_];exact hv)
 have fin0:Srt O k (L++R)->Q true st1:=fun hs=>h (L++R) st1 (ky_ _) hs (by rw[eA,hL];simp) eK eF eP
 by_cases c1:L.length - a=0
 ·rw[if_pos (by simpa using c1)]
  refine wpS_pure (fin0 (sL.app sR fun u hu v hv=>?_))
  have:a=L.length:=by omega
  rw[this,p5_] at g1
  exact qe_ (g1 u hu) (hhead v hv)
 ·rw[if_neg (by simpa using c1)]
  obtain⟨l1,hl1⟩:∃ l1,L[L.length - 1]?=some l1:=⟨_,pc_ (by omega)⟩
  have el1:(arrOf st)[P.length+a+(L.length - a) - 1]?=some l1:=by
   have:=ux_ hL1 (i:=L.length - 1) (by omega)
   rw[show P.length+a+(L.length - a) - 1=P.length+(L.length - 1) by omega]
   exact this.trans hl1
  refine wpS_bind (jp_ el1 ?_)
  refine wpS_bind (zx_ C (seg:=R) eK (okL l1 (rb_ hl1)) (fun j hj=>by have:=ux_ hL2 hj;rw[lPL] at this;exact this) rfl okR sR (by omega) fun b hb f1 f2=>?_)
  simp only[if_true] at f1 f2
  dsimp only
  have hlast:∀ u∈L,O.kle (k u) (k l1):=fun u hu=>sL.tail nL hl1 u (by rw[p5_];exact hu)
  by_cases c2:b=0
  ·rw[if_pos (by simpa using c2)]
   subst c2
   refine wpS_pure (fin0 (sL.app sR fun u hu v hv=>qe_ (hlast u hu) (f2 v (by rw[ry_];exact hv))))
  ·rw[if_neg (by simpa using c2)]
   have hx:((arrOf st).extract (P.length+a) (P.length+L.length)).toList=L.drop a:=by
    have e:(arrOf st).toList=(P++L.take a)++L.drop a++(R++S):=by rw[hL1];congr 1;rw[pu_,qa_]
    have:=jjw_ e
    rw[pj_,pr_,qb_,q8_ ha,show P.length+a+(L.length - a)=P.length+L.length by omega] at this
    exact this
   have hy:((arrOf st).extract (P.length+L.length) (P.length+L.length+b)).toList=R.take b:=by
    have e:(arrOf st).toList=(P++L)++R.take b++(R.drop b++S):=by rw[hL2,<- pu_ ((P++L)++R.take b),pu_ (P++L) (R.take b),qa_]
    have:=jjw_ e
    rw[pj_,pr_,q8_ hb] at this
    exact this
   have T:Two O ok k ((arrOf st).extract (P.length+a) (P.length+L.length)) ((arrOf st).extract (P.length+L.length) (P.length+L.length+b)):=by
    refine⟨?_,?_,?_,?_,?_,?_,?_,?_⟩
    ·rw[hx];exact fun z hz=>okL z (ql_ hz)
    ·rw[hy];exact fun z hz=>okR z (p8_ hz)
    ·rw[hx];exact sL.drop _
    ·rw[hy];exact sR.take _
    ·rw[hx,hy]
     intro u hu v hv
     rw[tv_,qb_,show a+(L.length - a - 1)=L.length - 1 by omega] at hu
     have:=jcy_ nL hl1
     rw[p5_] at this
     rw[this] at hu
     have:u=l1:=by simpa using hu
     rw[this]
     exact qy_ (f1 v hv)
    ·rw[hx,hy]
     intro u hu v hv
     rw[sc_,q8_ (by omega)] at hu
     have h1:=jbz_ hr0
     rw[ry_] at h1
     rw[h1] at hu
     have:u=r0:=by simpa using hu
     rw[this]
     exact qy_ (g2 v hv)
    ·rw[<- lens,hx,qb_];omega
    ·rw[<- lens,hy,pr_];omega
   have fin:∀(mg:Array Keyed) (st':SortSt),SSt st1 st'->Mrg O k ((arrOf st).extract (P.length+a) (P.length+L.length)).toList ((arrOf st).extract (P.length+L.length) (P.length+L.length+b)).toList mg.toList ->
     wpS (model prog w) A E s (do
      modify fun s=>setArr s (mg.toList.zipIdx.foldl (fun a_1 (x:Keyed×Nat)=>a_1.setIfInBounds (P.length+a+x.2) x.1) (arrOf s))
      let t <- get
      pure (failedOf t).isNone:SM Bool) Q st':=fun mg st' ss hm=>by
    rw[hx,hy] at hm
    refine wpS_bind (wpS_modify (wpS_bind (wpS_get (wpS_pure ?_))))
    have e1:(failedOf (setArr st' (mg.toList.zipIdx.foldl (fun a_1 (x:Keyed×Nat)=>a_1.setIfInBounds (P.length+a+x.2) x.1) (arrOf st')))).isNone=true:=by
     show (failedOf st').isNone=true
     rw[ss.2.2.2,eF];rfl
    rw[e1]
    have hml:mg.toList.length=(L.drop a).length+(R.take b).length:=by rw[hm.1.length_eq,pj_]
    have e2:L++R=L.take a++(L.drop a++R.take b)++R.drop b:=by rw[<- pu_ (L.take a),qa_,pu_ L,qa_]
    have hw:(mg.toList.zipIdx.foldl (fun a_1 (x:Keyed×Nat)=>a_1.setIfInBounds (P.length+a+x.2) x.1) (arrOf st')).toList=(P++L.take a)++mg.toList++(R.drop b++S):=by
     refine jac_ mg.toList 0 (P.length+a) (P++L.take a) (L.drop a++R.take b) (R.drop b++S) (arrOf st') ?_ (by rw[pj_,pr_,q8_ ha];rfl) (by rw[pj_];exact hml.symm)
     rw[ss.2.1,eA,hL,show P++L++R++S=P++(L++R)++S by simp only[pu_],e2]
     simp only[pu_]
    refine h (L.take a++mg.toList++R.drop b) _ ?_ ?_ ?_ (ss.1.trans eK) (ss.2.2.2.trans eF) (ss.2.2.1.trans eP)
    ·rw[e2]
     exact rl_ _ (ru_ _ hm.1)
    ·have mem:∀ z∈mg.toList,z∈L.drop a∨z∈R.take b:=fun z hz=>pq_.mp (hm.1.mem_iff.mp hz)
     have hLL:=sL
     rw[<- qa_ a L] at hLL
     have hRR:=sR
     rw[<- qa_ b R] at hRR
     refine((sL.take _).app hm.2 fun u hu v hv=>?_).app (sR.drop _) fun u hu v hv=>?_
     ·rcases mem v hv with hv | hv
      ·exact(rc_.mp hLL).2.2 u hu v hv
      ·exact qe_ (g1 u hu) (hhead v (p8_ hv))
     ·rcases pq_.mp hu with hu | hu
      ·exact qe_ (hlast u (p8_ hu)) (f2 v hv)
      ·rcases mem u hu with hu | hu
       ·exact qe_ (hlast u (ql_ hu)) (f2 v hv)
       ·exact(rc_.mp hRR).2.2 u hu v hv
    ·show (mg.toList.zipIdx.foldl _ (arrOf st')).toList=_
     rw[hw];simp
   split
   ·exact wpS_bind (jgw_ C T eK fun mg st' ss hm=>fin mg st' ss hm)
   ·exact wpS_bind (jfh_ C T eK fun mg st' ss hm=>fin mg st' ss hm)
end
end PyProof.Rows
set_option autoImplicit false
namespace PyProof.Rows
open PySem
section
variable {O:KeyOrd} {k:Keyed->O.α}
def Pend (O:KeyOrd) (k:Keyed->O.α):Nat->List (Nat×Nat×Nat)->List (List Keyed)->Prop
 | _,[],[]=>True
 | b,p::pd,R::Rs=>p.1=b/\p.2.1=R.length/\R≠[]/\Srt O k R/\Pend O k (b+R.length) pd Rs
 | _,_,_=>False
theorem Pend.len:∀{b:Nat} {pd:List (Nat×Nat×Nat)} {Rs:List (List Keyed)},Pend O k b pd Rs->pd.length=Rs.length/\Rs.length<=Rs.flatten.length
 | _,[],[],_=>⟨rfl,pg_ _⟩
 | _,[],_::_,h=>h.elim
 | _,_::_,[],h=>h.elim
 | b,p::pd,R::Rs,⟨_,_,h,_,t⟩=>by
  have ih:=t.len
  have:=ro_.mpr h
  rw[qm_,pj_,pz_,pz_]
  omega
theorem Pend.snoc {R:List Keyed} {x:Nat} (hR:R≠[]) (sR:Srt O k R):∀{b:Nat} {pd:List (Nat×Nat×Nat)} {Rs:List (List Keyed)},Pend O k b pd Rs->Pend O k b (pd++[(b+Rs.flatten.length,R.length,x)]) (Rs++[R])
 | b,[],[],_=>⟨by simp,rfl,hR,sR,trivial⟩
 | _,[],_::_,h=>h.elim
 | _,_::_,[],h=>h.elim
 | b,p::pd,Q::Rs,⟨h1,h2,h3,h4,t⟩=>by
  refine⟨h1,h2,h3,h4,?_⟩
  have:=Pend.snoc (x:=x) hR sR t
  rw[qm_,pj_,<- t7_]
  exact this
theorem Pend.congr:∀{b:Nat} {pd pd':List (Nat×Nat×Nat)} {Rs:List (List Keyed)},pd.map (fun p=>(p.1,p.2.1))=pd'.map (fun p=>(p.1,p.2.1))->Pend O k b pd Rs->Pend O k b pd' Rs
 | b,[],[],Rs,_,h=>h
 | _,[],_::_,_,e,_=>by simp at e
 | _,_::_,[],_,e,_=>by simp at e
 | _,_::_,_::_,[],_,h=>h.elim
 | b,p::pd,q::pd',R::Rs,e,⟨h1,h2,h3,h4,t⟩=>by
  simp only[pf_,wb_,Prod.mk.injEq] at e
  exact⟨e.1.1▸h1,e.1.2▸h2,h3,h4,t.congr e.2⟩
theorem Pend.at:∀{i b:Nat} {pd:List (Nat×Nat×Nat)} {Rs:List (List Keyed)},Pend O k b pd Rs->i+1 < pd.length->∃(Rs1:List (List Keyed)) (L R:List Keyed) (Rs2:List (List Keyed)) (pw x:Nat),Rs=Rs1++L::R::Rs2/\pd[i]?=some (b+Rs1.flatten.length,L.length,pw)/\pd[i+1]?=some (b+Rs1.flatten.length+L.length,R.length,x) /\
   L≠[]/\R≠[]/\Srt O k L/\Srt O k R/\∀ W:List Keyed,W.length=L.length+R.length->Srt O k W->Pend O k b ((pd.set i (b+Rs1.flatten.length,L.length+R.length,pw)).eraseIdx (i+1)) (Rs1++W::Rs2)
 | 0,b,(p1,p2,p3)::(q1,q2,q3)::pd,L::R::Rs,⟨h1,h2,h3,h4,g1,g2,g3,g4,t⟩,_=>by
  simp only at h1 h2 g1 g2
  subst h1 h2 g1 g2
  refine⟨[],L,R,Rs,p3,q3,rfl,by simp,by simp,h3,g3,h4,g4,fun W hW sW=>?_⟩
  have hl:=ro_.mpr h3
  refine⟨by simp,by simpa using hW.symm,fun z=>?_,sW,?_⟩
  ·rw[z] at hW;simp at hW;omega
  ·rw[hW,<- t7_];exact t
 | i,b,[],_,_,hi=>by simp at hi
 | 0,b,[_],_,_,hi=>by simp at hi
 | _+1,b,[_],_,_,hi=>by simp at hi
 | _,b,_::_,[],h,_=>h.elim
 | 0,b,_::_::_,[_],⟨_,_,_,_,h⟩,_=>h.elim
 | i+1,b,p::pd,Q::Rs,⟨h1,h2,h3,h4,t⟩,hi=>by
  obtain⟨Rs1,L,R,Rs2,pw,x,e1,e2,e3,e4,e5,e6,e7,e8⟩:=Pend.at (i:=i) t (by simpa using hi)
  refine⟨Q::Rs1,L,R,Rs2,pw,x,by rw[e1];rfl,?_,?_,e4,e5,e6,e7,fun W hW sW=>?_⟩
  ·rw[tl_,e2,qm_,pj_,t7_]
  ·rw[tl_,e3,qm_,pj_,t7_ b]
  ·have:=e8 W hW sW
   rw[qm_,pj_,<- t7_,List.set_cons_succ,w0_]
   exact⟨h1,h2,h3,h4,this⟩
end
section
variable {prog:Program} {w:World} {A:Around} {E:Value->Shared->Prop} {s:Shared} {kd:SortKind} {a₀:Array Keyed} {st:SortSt} {κ:KeyKind}
structure RI (κ:KeyKind) (kd:SortKind) (a₀:Array Keyed) (S:List Keyed) (lo:Nat) (st:SortSt):Prop where
 runs:∃ Rs:List (List Keyed),(arrOf st).toList=Rs.flatten++S/\Pend κ.toKeyOrd (keyK κ) 0 (pendingOf st).toList Rs/\lo=Rs.flatten.length
 kind:kindOf st=kd
 failed:failedOf st=none
 perm:(arrOf st).Perm a₀
theorem RI.ok {S:List Keyed} {lo:Nat} (h:RI κ kd a₀ S lo st) (h0:∀ p∈a₀.toList,okK κ p):∀ p∈(arrOf st).toList,okK κ p:=fun p hp=>h0 p ((r4_.mp h.perm).mem_iff.mp hp)
theorem RI.size {S:List Keyed} {lo:Nat} (h:RI κ kd a₀ S lo st):(pendingOf st).size<=lo/\lo+S.length=a₀.size:=by
 obtain⟨Rs,e1,e2,e3⟩:=h.runs
 have h1:=e2.len
 have h2:=congrArg k0_ e1
 rw[pj_,lens,h.perm.size_eq] at h2
 have:(pendingOf st).toList.length=(pendingOf st).size:=by simp
 omega
theorem RI.merge (C:Cmp prog w A E s kd κ.toKeyOrd (okK κ) (keyK κ)) (h0:∀ p∈a₀.toList,okK κ p) {S:List Keyed} {lo i:Nat} (h:RI κ kd a₀ S lo st) (hi:i+1 < (pendingOf st).size) {Q:Bool->SortSt->Prop} (q:∀ st',RI κ kd a₀ S lo st'->(pendingOf st').size+1=(pendingOf st).size->Q true st') :
  wpS (model prog w) A E s (mergeAt' i) Q st:=by
 obtain⟨Rs,e1,e2,e3⟩:=id h.runs
 obtain⟨Rs1,L,R,Rs2,pw,x,f1,f2,f3,f4,f5,f6,f7,f8⟩:=e2.at (i:=i) (by simpa using hi)
 rw[km_] at f2 f3 f8
 have hL:(arrOf st).toList=Rs1.flatten++L++R++(Rs2.flatten++S):=by rw[e1,f1];simp
 refine jfj_ C hL f6 f7 f4 f5 (by rw[<- p9_];exact f2) (by rw[<- p9_];exact f3) h.kind h.failed (h.ok h0) fun W st' g1 g2 g3 g4 g5 g6=>?_
 have hW:=g1.length_eq
 rw[pj_] at hW
 refine q st' ⟨⟨Rs1++W::Rs2,by rw[g3];simp,?_,?_⟩,g4,g5,?_⟩ ?_
 ·rw[g6]
  have:=f8 W hW g2
  have e:(((pendingOf st).setIfInBounds i (Rs1.flatten.length,L.length+R.length,pw)).eraseIdxIfInBounds (i+1)).toList=((pendingOf st).toList.set i (Rs1.flatten.length,L.length+R.length,pw)).eraseIdx (i+1):=by
   rw[tt_,s6_]
  rw[e];exact this
 ·rw[e3,f1]
  simp only[List.flatten_append,qm_,pj_,hW]
  omega
 ·refine Array.Perm.trans ?_ h.perm
  rw[r4_,g3,hL]
  rw[pu_ Rs1.flatten L R]
  exact rl_ _ (ru_ _ g1)
 ·have e:(((pendingOf st).setIfInBounds i (Rs1.flatten.length,L.length+R.length,pw)).eraseIdxIfInBounds (i+1)).toList=((pendingOf st).toList.set i (Rs1.flatten.length,L.length+R.length,pw)).eraseIdx (i+1):=by
   rw[tt_,s6_]
  have:=congrArg k0_ e
  rw[List.length_eraseIdx,List.length_set,if_pos (by simpa using hi)] at this
  rw[g6]
  simp only[sk_] at this
  omega
theorem RI.push {S R:List Keyed} {lo:Nat} (h:RI κ kd a₀ (R++S) lo st) (hR:R≠[]) (sR:Srt κ.toKeyOrd (keyK κ) R):RI κ kd a₀ S (lo+R.length) (setPending st ((pendingOf st).push (lo,R.length,0))):=by
 obtain⟨Rs,e1,e2,e3⟩:=id h.runs
 refine⟨⟨Rs++[R],by show (arrOf st).toList=_;rw[e1];simp,?_,by rw[e3];simp⟩,h.kind,h.failed,h.perm⟩
 show Pend _ _ 0 ((pendingOf st).push (lo,R.length,0)).toList _
 rw[rh_]
 have:=Pend.snoc (x:=0) hR sR e2
 rw[km_,<- e3] at this
 exact this
theorem RI.power {S:List Keyed} {lo pw:Nat} (h:RI κ kd a₀ S lo st):RI κ kd a₀ S lo (setPending st ((pendingOf st).modify ((pendingOf st).size - 1) fun x=>match x with | (s,n,_)=>(s,n,pw))):=by
 obtain⟨Rs,e1,e2,e3⟩:=id h.runs
 refine⟨⟨Rs,e1,e2.congr ?_,e3⟩,h.kind,h.failed,h.perm⟩
 show _=((pendingOf st).modify _ _).toList.map _
 rw[Array.toList_modify]
 apply wt_
 intro j
 simp only[ph_,List.getElem?_modify]
 cases (pendingOf st).toList[j]? with
 | none=>rfl
 | some y =>
  obtain⟨y1,y2,y3⟩:=y
  by_cases c:(pendingOf st).size - 1=j <;> simp[c]
def xo_ (lo n:Nat):SM (ForInStep (Option Unit×Nat)):=do
 modify fun s=>setPending s ((pendingOf s).push (lo,n,0))
 pure (.yield (none,lo+n))
def runC (pw:Nat) (_:Nat) (_:Option Unit×Unit):SM (ForInStep (Option Unit×Unit)):=do
 let t <- get
 match if (pendingOf t).size > 1 then (pendingOf t)[(pendingOf t).size - 2]? else none with
 | some (_,_,older) =>
  if older<=pw then pure (.done (none,()))
  else do
   let b <- mergeAt' ((pendingOf t).size - 2)
   if (!b)=true then pure (.done (some (),())) else pure (.yield (none,()))
 | _=>pure (.done (none,()))
def runJ (size lo n:Nat):SM (ForInStep (Option Unit×Nat)):=do
 let t <- get
 match (pendingOf t).back? with
 | some (s1,n1,_)=>do
  let c <- forIn [0:size] ((none,()):Option Unit×Unit) (runC (power' size (2 * s1+n1) (2 * s1+n1+n1+n) size))
  match c.1 with
  | some r=>pure (.done (some r,lo))
  | none=>do
   modify fun s=>setPending s ((pendingOf s).modify ((pendingOf s).size - 1) fun x=>match x with | (st,len,_)=>(st,len,power' size (2 * s1+n1) (2 * s1+n1+n1+n) size))
   xo_ lo n
 | _=>xo_ lo n
def runO (size:Nat) (_:Nat) (c:Option Unit×Nat):SM (ForInStep (Option Unit×Nat)) :=
 if c.2≥size then pure (.done (none,c.2))
 else do
  let x <- countRun' c.2 (size - c.2)
  match x with
  | some n =>
   if n < minRun' size size 0 then do
    liftM (rule "list.sort.binary-insertion")
    let b <- binarySort' c.2 (min (size - c.2) (minRun' size size 0)) n
    if (!b)=true then pure (.done (some (),c.2)) else runJ size c.2 (min (size - c.2) (minRun' size size 0))
   else runJ size c.2 n
  | _=>pure (.done (some (),c.2))
def runF (_:Nat) (_:Option Unit×Unit):SM (ForInStep (Option Unit×Unit)):=do
 let t <- get
 if (pendingOf t).size<=1 then pure (.done (none,()))
 else do
  let b <- mergeAt' (if Option.any (fun x=>decide (x < (pendingOf t)[(pendingOf t).size - 2+1]?.elim 0 fun x=>x.2.1)) (if (pendingOf t).size - 2 > 0 then (pendingOf t)[(pendingOf t).size - 2 - 1]?.map (fun x=>x.2.1) else none)=true then (pendingOf t).size - 2 - 1 else (pendingOf t).size - 2)
  if (!b)=true then pure (.done (some (),())) else pure (.yield (none,()))
theorem jlc_:sortRuns'=(do
  let t <- get
  let c <- forIn [0:(arrOf t).size] ((none,0):Option Unit×Nat) (runO (arrOf t).size)
  match c.1 with
  | some r=>pure r
  | none=>do
   let c <- forIn [0:(arrOf t).size] ((none,()):Option Unit×Unit) runF
   match c.1 with
   | some r=>pure r
   | none=>pure ()):=by
 rw[sortRuns'_eq]
 refine congrArg (bind _) (funext fun t=>?_)
 refine congr (congrArg bind ?_) (funext fun c=>?_)
 ·refine congrArg (forIn _ _) (funext fun i=>funext fun c=>?_)
  unfold runO
  dsimp only
  refine ite_congr rfl (fun _=>rfl) fun _=>?_
  refine congrArg (bind _) (funext fun x=>?_)
  have J:∀ n,(do
    let __do_lift <- get
    match (pendingOf __do_lift).back? with
     | some (s1,n1,snd)=>do
      let __s <- forIn [0:(arrOf t).size] ((none,()):Option Unit×Unit) (runC (power' (arrOf t).size (2 * s1+n1) (2 * s1+n1+n1+n) (arrOf t).size))
      match __s.fst with
       | some r=>pure (ForInStep.done (some r,c.2))
       | none=>do
        modify fun s=>setPending s ((pendingOf s).modify ((pendingOf s).size - 1) fun x=>match x with | (st,len,_)=>(st,len,power' (arrOf t).size (2 * s1+n1) (2 * s1+n1+n1+n) (arrOf t).size))
        xo_ c.2 n
     | x=>xo_ c.2 n:SM (ForInStep (Option Unit×Nat)))=runJ (arrOf t).size c.2 n:=fun _=>rfl
  cases x with
  | none=>rfl
  | some n =>
   dsimp only
   refine ite_congr rfl (fun _=>?_) fun _=>?_
   ·refine congrArg (bind _) (funext fun _=>?_)
    refine congrArg (bind _) (funext fun b=>?_)
    refine ite_congr rfl (fun _=>rfl) fun _=>?_
    unfold runJ
    refine congrArg (bind _) (funext fun t2=>?_)
    cases (pendingOf t2).back? with
    | none=>rfl
    | some y =>
     obtain⟨s1,n1,p1⟩:=y
     dsimp only
     refine congr (congrArg bind rfl) (funext fun c2=>?_)
     obtain⟨r,u⟩:=c2
     cases r <;> rfl
   ·unfold runJ
    refine congrArg (bind _) (funext fun t2=>?_)
    cases (pendingOf t2).back? with
    | none=>rfl
    | some y =>
     obtain⟨s1,n1,p1⟩:=y
     dsimp only
     refine congr (congrArg bind rfl) (funext fun c2=>?_)
     obtain⟨r,u⟩:=c2
     cases r <;> rfl
 ·obtain⟨r,lo⟩:=c
  cases r with
  | some r=>rfl
  | none =>
   dsimp only
   refine congr (congrArg bind rfl) (funext fun c2=>?_)
   obtain⟨r,u⟩:=c2
   cases r <;> rfl
theorem jjd_ {ys:Array Keyed} {lo n:Nat} (hn:lo+n<=ys.size) (h:SIn κ ys lo n):Srt κ.toKeyOrd (keyK κ) ((ys.toList.drop lo).take n):=by
 refine rf_.mpr fun i j hi hj hij=>?_
 rw[pr_,qb_,lens] at hi hj
 have e:∀ m,m < n->∀ hm:m < ((ys.toList.drop lo).take n).length,keyK κ (((ys.toList.drop lo).take n)[m])=KK κ ys (lo+m):=fun m hm hm'=>by
  unfold KK keyK
  rw[qw_ (by omega:lo+m < ys.size)]
  simp[wr_,ws_]
 rw[e i (by omega),e j (by omega)]
 exact h _ _ (by omega) (by omega) (by omega)
theorem um_ {S R:List Keyed} {lo:Nat} {Q:ForInStep (Option Unit×Nat)->SortSt->Prop} (h:RI κ kd a₀ (R++S) lo st) (hR:R≠[]) (sR:Srt κ.toKeyOrd (keyK κ) R) (q:∀ st',RI κ kd a₀ S (lo+R.length) st'->Q (.yield (none,lo+R.length)) st') :
  wpS (model prog w) A E s (xo_ lo R.length) Q st:=by
 unfold xo_
 exact wpS_bind (wpS_modify (wpS_pure (q _ (h.push hR sR))))
theorem jng_ (C:Cmp prog w A E s kd κ.toKeyOrd (okK κ) (keyK κ)) (h0:∀ p∈a₀.toList,okK κ p) {S R:List Keyed} {lo size:Nat} {Q:ForInStep (Option Unit×Nat)->SortSt->Prop} (h:RI κ kd a₀ (R++S) lo st) (hR:R≠[]) (sR:Srt κ.toKeyOrd (keyK κ) R) (q:∀ st',RI κ kd a₀ S (lo+R.length) st'->Q (.yield (none,lo+R.length)) st') :
  wpS (model prog w) A E s (runJ size lo R.length) Q st:=by
 unfold runJ
 refine wpS_bind (wpS_get ?_)
 cases (pendingOf st).back? with
 | none=>exact um_ h hR sR q
 | some y =>
  obtain⟨s1,n1,p1⟩:=y
  dsimp only
  refine wpS_bind (wpS_mono (wpS_forRange (I:=fun _ c st'=>c=(none,())/\RI κ kd a₀ (R++S) lo st') (Q:=fun c st'=>c=(none,())/\RI κ kd a₀ (R++S) lo st') ?step (fun _ _ hh=>hh) ⟨rfl,h⟩) ?post)
  case step =>
   rintro t c st' _ _ ⟨rfl,h'⟩
   unfold runC
   refine wpS_bind (wpS_get ?_)
   by_cases c1:(pendingOf st').size > 1
   ·rw[if_pos c1]
    cases (pendingOf st')[(pendingOf st').size - 2]? with
    | none=>exact wpS_pure ⟨rfl,h'⟩
    | some z =>
     obtain⟨z1,z2,z3⟩:=z
     dsimp only
     split
     ·exact wpS_pure ⟨rfl,h'⟩
     ·refine wpS_bind (h'.merge C h0 (by omega) fun st'' h'' _=>?_)
      simp only[tn_,p0_,if_false]
      exact wpS_pure ⟨rfl,h''⟩
   ·rw[if_neg c1]
    exact wpS_pure ⟨rfl,h'⟩
  case post =>
   rintro c st' ⟨rfl,h'⟩
   dsimp only
   refine wpS_bind (wpS_modify ?_)
   exact um_ h'.power hR sR q
theorem jnw_ (C:Cmp prog w A E s kd κ.toKeyOrd (okK κ) (keyK κ)) (h0:∀ p∈a₀.toList,okK κ p) {S:List Keyed} {lo i:Nat} {Q:ForInStep (Option Unit×Nat)->SortSt->Prop} (h:RI κ kd a₀ S lo st) (q0:a₀.size<=lo->Q (.done (none,lo)) st) (q:∀ S' lo' st',lo < lo'->RI κ kd a₀ S' lo' st'->Q (.yield (none,lo')) st') :
  wpS (model prog w) A E s (runO a₀.size i (none,lo)) Q st:=by
 unfold runO
 dsimp only
 by_cases c:lo≥a₀.size
 ·rw[if_pos c];exact wpS_pure (q0 c)
 ·rw[if_neg c]
  have hB:SB kd a₀ (pendingOf st) (arrOf st) lo a₀.size st:=⟨h.perm,h.kind,h.failed,rfl,fun _ _=>rfl⟩
  have fin:∀ n st',1<=n->lo+n<=a₀.size->SB kd a₀ (pendingOf st) (arrOf st) lo a₀.size st'->SIn κ (arrOf st') lo n->wpS (model prog w) A E s (runJ a₀.size lo n) Q st':=fun n st' hn1 hn2 hB' hs=>by
   obtain⟨Rs,e1,e2,e3⟩:=id h.runs
   have hsz:(arrOf st').size=a₀.size:=hB'.size
   have htk:(arrOf st').toList.take lo=Rs.flatten:=by
    have e4:(arrOf st).toList.take lo=Rs.flatten:=by rw[e1,e3,List.take_left]
    rw[<- e4]
    apply wt_
    intro j
    by_cases hj:j < lo
    ·rw[rv_ hj,rv_ hj,p9_,p9_]
     exact hB'.fr j (.inl hj)
    ·rw[kn_ (by rw[pr_];omega),kn_ (by rw[pr_];omega)]
   have hRl:(((arrOf st').toList.drop lo).take n).length=n:=by rw[pr_,qb_,lens,hsz];omega
   have hRI:RI κ kd a₀ ((((arrOf st').toList.drop lo).take n)++((arrOf st').toList.drop lo).drop n) lo st':=by
    refine⟨⟨Rs,?_,by rw[hB'.pend];exact e2,e3⟩,hB'.kind,hB'.failed,hB'.perm⟩
    rw[qa_,<- htk,qa_]
   have:=jng_ C h0 (size:=a₀.size) (Q:=Q) hRI (fun z=>by rw[z] at hRl;simp at hRl;omega) (jjd_ (by rw[hsz];exact hn2) hs) fun st'' h''=>by
    rw[hRl] at h'' ⊢
    exact q _ _ _ (by omega) h''
   rw[hRl] at this
   exact this
  refine wpS_bind (jbq_ C h0 (by omega) (by omega) (by omega) hB fun m st' hB' hm1 hm2 hs=>?_)
  dsimp only
  by_cases c2:m < minRun' a₀.size a₀.size 0
  ·rw[if_pos c2]
   refine wpS_bind (wpS_lift (wpAny_rule ⟨rfl,?_⟩))
   refine wpS_bind (us_ C h0 (by omega) (by omega) (by omega) hB' hs fun st'' hB'' hs''=>?_)
   simp only[tn_,p0_,if_false]
   exact fin _ _ (by omega) (by omega) hB'' hs''
  ·rw[if_neg c2]
   exact fin _ _ hm1 (by omega) hB' hs
theorem jbt_ (C:Cmp prog w A E s kd κ.toKeyOrd (okK κ) (keyK κ)) (h0:∀ p∈a₀.toList,okK κ p) {Q:Unit->SortSt->Prop} (ha:arrOf st=a₀) (hp:pendingOf st=#[]) (hk:kindOf st=kd) (hf:failedOf st=none)
  (h:∀ st',(arrOf st').Perm a₀->failedOf st'=none->Srt κ.toKeyOrd (keyK κ) (arrOf st').toList->Q () st'):wpS (model prog w) A E s sortRuns' Q st:=by
 rw[jlc_]
 refine wpS_bind (wpS_get ?_)
 rw[ha]
 have hRI:RI κ kd a₀ a₀.toList 0 st:=⟨⟨[],by rw[ha];rfl,by rw[hp];trivial,rfl⟩,hk,hf,by rw[ha]⟩
 refine wpS_bind (wpS_mono (wpS_forRange (I:=fun t c st'=>∃ S lo,c=(none,lo)/\min t a₀.size<=lo/\RI κ kd a₀ S lo st') (Q:=fun c st'=>∃ S lo,c=(none,lo)/\a₀.size<=lo/\RI κ kd a₀ S lo st') ?step ?fin ⟨_,0,rfl,by omega,hRI⟩) ?post)
 case fin =>
  rintro c st' ⟨S,lo,rfl,hl,hr⟩
  exact⟨S,lo,rfl,by omega,hr⟩
 case step =>
  rintro t c st' _ ht ⟨S,lo,rfl,hl,hr⟩
  exact jnw_ C h0 hr (fun hge=>⟨S,lo,rfl,hge,hr⟩) fun S' lo' st'' hlt hr'=>⟨S',lo',rfl,by omega,hr'⟩
 case post =>
  rintro c st' ⟨S,lo,rfl,hl,hr⟩
  dsimp only
  have hsz:=hr.size
  have hlo:lo=a₀.size:=by omega
  have hS:S=[]:=so_ (by omega)
  subst hS
  refine wpS_bind (wpS_mono (wpS_forRange (I:=fun t c st'=>c=(none,())/\RI κ kd a₀ [] lo st'/\((pendingOf st').size<=1∨(pendingOf st').size+t<=a₀.size)) (Q:=fun c st'=>c=(none,())/\RI κ kd a₀ [] lo st'/\(pendingOf st').size<=1) ?step2 ?fin2 ⟨rfl,hr,.inr (by omega)⟩) ?post2)
  case fin2 =>
   rintro c st' ⟨rfl,hr,hp⟩
   exact⟨rfl,hr,by omega⟩
  case step2 =>
   rintro t c st' _ ht ⟨rfl,hr,hp⟩
   unfold runF
   refine wpS_bind (wpS_get ?_)
   by_cases c1:(pendingOf st').size<=1
   ·rw[if_pos c1];exact wpS_pure ⟨rfl,hr,c1⟩
   ·rw[if_neg c1]
    have go:∀ i,i+1 < (pendingOf st').size->wpS (model prog w) A E s (do
      let b <- mergeAt' i
      if (!b)=true then pure (ForInStep.done (some (),())) else pure (ForInStep.yield (none,())):SM (ForInStep (Option Unit×Unit))) (fun r st''=>match r with | .done c'=>c'=(none,())/\RI κ kd a₀ [] lo st''/\(pendingOf st'').size<=1 | .yield c'=>c'=(none,())/\RI κ kd a₀ [] lo st''/\((pendingOf st'').size<=1∨(pendingOf st'').size+(t+1)<=a₀.size)) st':=fun i hi=>by
     refine wpS_bind (hr.merge C h0 hi fun st'' h'' hz=>?_)
     simp only[tn_,p0_,if_false]
     exact wpS_pure ⟨rfl,h'',by omega⟩
    refine wpS_mono (go _ ?_) fun r st h=>by cases r <;> exact h
    generalize (Option.any _ _:Bool)=bb
    cases bb <;> simp <;> omega
  case post2 =>
   rintro c st' ⟨rfl,hr,hp⟩
   obtain⟨Rs,e1,e2,e3⟩:=id hr.runs
   have hl:=e2.len.1
   have hl2:(pendingOf st').toList.length=(pendingOf st').size:=by simp
   refine wpS_pure (h st' hr.perm hr.failed ?_)
   rw[e1,qt_]
   match Rs,hl,e2 with
   | [],_,_=>exact rx_.nil
   | [R],_,e2 =>
    match hpd:(pendingOf st').toList,e2 with
    | p::_,e2 =>
     rw[qm_,List.flatten_nil,qt_]
     exact e2.2.2.2.1
   | _::_::_,hl,_=>simp at hl;omega
end
end PyProof.Rows
set_option autoImplicit false
namespace PyProof.Rows
open PySem
section
variable {prog:Program} {w:World} {A:Around} {E:Value->Shared->Prop} {s:Shared}
theorem Cmp.ofOne {κ:KeyKind} (hO:κ.OneLt):Cmp prog w A E s oneType' κ.toKeyOrd (okK κ) (keyK κ):=⟨fun{st x y Q} hk hx hy h=>by
 obtain⟨a,ha⟩:=hx
 obtain⟨b,hb⟩:=hy
 rw[lt'_eq]
 refine wpS_bind (wpS_get ?_)
 rw[hk,keyLt'_oneType]
 refine wpS_bind (wpS_lift (wpAny_attempt (hO prog w A _ s x.1 y.1 a b ha hb ⟨rfl,?_⟩)))
 have e1:keyK κ x=a:=by unfold keyK;rw[ha];rfl
 have e2:keyK κ y=b:=by unfold keyK;rw[hb];rfl
 rw[e1,e2] at h
 exact wpS_pure h⟩
def j6_ (h:Heap) (a:Addr) (vs:List Value):Heap:=((h.update a (s2_ fun _=>#[])).push (seqObj "tuple" vs.toArray 0)).push (seqObj "list" #[] 0)
theorem xa_ {κ:KeyKind} {kd:SortKind} {a:Addr} {vs:List Value} {n:Nat} {P:Fin->Shared->Prop} (ho:s.heap.get? a=some (seqObj "list" vs.toArray n))
  (h0:∀ v∈vs,∃ x,κ.keyOf v=some x) (hkk:2<=vs.length->∀ Q:SortKind->Shared->Prop,Q kd { s with heap:=j6_ s.heap a vs }->wpAny (model prog w) A (keyKind' vs.toArray) Q E { s with heap:=j6_ s.heap a vs })
  (C:Cmp prog w A E { s with heap:=j6_ s.heap a vs } kd κ.toKeyOrd (okK κ) (keyK κ)) (hz:vs.length<=sizeLine)
  (h:∀ st':SortSt,(arrOf st').Perm (pairsOf vs)->Srt κ.toKeyOrd (keyK κ) (arrOf st').toList->P (.done (.ret .none)) { s with heap:=sortedHeap s.heap a vs ((arrOf st').map (·.2)) }) :
  wpAny (model prog w) A (Builtin.«list.sort» ⟨[.ref a],[]⟩) P E s:=by
 rw[list_sort_plain]
 have ha:a < s.heap.objs.size:=pm_ ho
 refine wpAny_bind (listItems_at ho rfl ?_)
 refine wpAny_bind (listUpdate_at ho rfl ?_ (by rw[pi_];exact hz))
 obtain⟨e1,ho1⟩:∃ e1,(s.heap.update a (s2_ fun _=>#[])).get? a=some (seqObj "list" #[] e1):=⟨_,get?_update_seq ho (fun _=>#[])⟩
 refine wpAny_bind (seqEpoch_at ho1 rfl ?_)
 refine wpAny_bind (wpAny_newTuple ?_ (by first | (rw[pi_];exact hz) | simpa using hz))
 refine wpAny_bind (wpAny_newList ?_)
 refine wpAny_holding ?_
 have ho6:(j6_ s.heap a vs).get? a=some (seqObj "list" #[] e1):=by
  unfold j6_
  rw[Heap.get?_push_ne _ _ _ (by rw[size_push',Heap.size_update];exact p7_ (wp_ ha)),Heap.get?_push_ne _ _ _ (by rw[Heap.size_update];exact p7_ ha)]
  exact ho1
 show wpAny (model prog w) A _ P E { s with heap:=j6_ s.heap a vs }
 dsimp only
 have hsz:vs.toArray.size=vs.length:=by simp
 have hsl:sizeLine<=sizeLine+1:=k1_ _
 by_cases h2:vs.toArray.size < 2
 ·rw[if_pos h2,if_pos h2]
  refine wpAny_bind (wpAny_pure ?_)
  rw[StateT.run_pure]
  refine wpAny_bind (wpAny_pure ?_)
  dsimp only
  refine wpAny_bind (seqEpoch_at ho6 rfl ?_)
  refine wpAny_bind (listUpdate_at ho6 rfl ?_ (hsz2:=by rw[Array.size_map];show (pairsOf vs).size<=_;rw[pairsOf_size];omega))
  simp only[bne_self_eq_false,p0_,if_false]
  refine wpAny_pure (h (SortSt.mk' general' (vs.toArray.zip vs.toArray) #[] 7 none) (Array.Perm.refl _) ?_)
  have hl:(pairsOf vs).toList.length < 2:=by rw[lens,pairsOf_size];omega
  show Srt κ.toKeyOrd (keyK κ) (pairsOf vs).toList
  match (pairsOf vs).toList,hl with
  | [],_=>exact rx_.nil
  | [x],_=>exact List.pairwise_singleton _ _
 ·rw[if_neg h2,if_neg h2]
  refine wpAny_bind (hkk (by omega) _ ?_)
  refine wpAny_bind (wpAny_mono (jbt_ (κ:=κ) C (a₀:=pairsOf vs) (st:=SortSt.mk' kd (vs.toArray.zip vs.toArray) #[] 7 none)
   (Q:=fun _ st'=>(arrOf st').Perm (pairsOf vs)/\failedOf st'=none/\Srt κ.toKeyOrd (keyK κ) (arrOf st').toList)
   (fun p hp=>by
    rw[pairsOf_toList] at hp
    have:=mem_zip_self hp
    obtain⟨x,hx⟩:=h0 _ this.2
    exact⟨x,hx⟩) rfl rfl rfl rfl fun st' a1 a2 a3=>⟨a1,a2,a3⟩) ?_ fun _ _ e=>e)
  rintro⟨⟨⟩,st'⟩ s' ⟨rfl,hp,hf,hs⟩
  dsimp only
  refine wpAny_bind (seqEpoch_at ho6 rfl ?_)
  refine wpAny_bind (listUpdate_at ho6 rfl ?_ (hsz2:=by refine qq_ (lg_ ((Array.size_map ..).trans (hp.size_eq.trans (pairsOf_size _)))) ?_;omega))
  rw[hf]
  simp only[bne_self_eq_false,p0_,if_false]
  exact wpAny_pure (h st' hp hs)
theorem jeu_ {κ:KeyKind} {xs:Array Keyed} (h:Srt κ.toKeyOrd (keyK κ) xs.toList):SortedToK κ xs xs.size:=fun i j hij hj=>by
 have e:∀ m,(hm:m < xs.size)->KK κ xs m=keyK κ xs[m]:=fun m hm=>by unfold KK keyK;rw[qw_ hm]
 rw[e i (by omega),e j hj]
 exact h.get hij (by rw[p9_,qw_ (by omega)]) (by rw[p9_,qw_ hj])
end
end PyProof.Rows
namespace L2
open PySem PySem.Spec PyProof.Rows
section
variable {X:Cx}
end
end L2
namespace L2
open PySem
section
variable {prog:Program} {w:World} {A:Around} {E:Value->Shared->Prop} {s:Shared}
def yl_ (T:Addr) (f:Bool) (TI TO:Addr):Obj:={ cls:=.type "zip",dict:=none,data:=.fields #[rawInt T,.bool f,.bool false,.ref TI,.ref TO],slots:=#[] }
theorem jhe_ {M:Model} {a:Addr} {o:Obj} {Q:Option Obj->Shared->Prop} (h:s.heap.get? a=some o) (q:Q (some o) s):wpAny M A (loadIfAlive a) Q E s:=fun Γ p hΓ=>by
 show PySem.Sem.wp M Γ (.loadIfAlive a .pure) _ _ p s
 rw[wu_,h]
 exact q
theorem jby_ {z T TI TO:Addr} {f:Bool} {oT:Obj} {Q:Bool->Shared->Prop} (hz:s.heap.get? z=some (yl_ T f TI TO)) (hoT:s.heap.get? T=some oT)
  (h:∀ g,g.get? z=some (yl_ T true TI TO)->rq_ z s.heap g->Q false { s with heap:=g }):wpAny (model prog w) A (ps_ (.ref z)) Q E s:=by
 unfold ps_
 refine wpAny_bind (wpAny_field hz rfl (x:=rawInt T) rfl ?_)
 show wpAny _ _ (loadIfAlive (((T:Nat):Int)).toNat >>= _) _ _ _
 rw[rn_]
 refine wpAny_bind (jhe_ hoT ?_)
 rw[if_neg (by simp)]
 refine wpAny_bind (wpAny_field hz rfl (x:=.bool f) rfl ?_)
 cases f with
 | false =>
  rw[if_pos (by decide)]
  exact wpAny_bind (wpAny_setField_rec hz (by simp) fun g zg b=>wpAny_pure (h g zg b))
 | true =>
  rw[if_neg (by decide)]
  have e:s={ s with heap:=s.heap }:=by cases s;rfl
  rw[e]
  exact wpAny_pure (h s.heap hz (rq_.refl _ _))
theorem jme_ {z TI TO i1 i2 T:Addr} {f:Bool} {f1 f2:List Addr} {n1 n2 k1 k2:Nat} {P1 P2:Nat->Value->Prop} {S1 S2:Nat->Heap->Prop} {Q:Value->Shared->Prop}
  (D1:Draws prog w A i1 f1 n1 P1 S1) (D2:Draws prog w A i2 f2 n2 P2 S2) (Z:ZA z TI TO i1 i2 f1 f2)
  (hz:s.heap.get? z=some (yl_ T f TI TO)) (hT:∃ o,s.heap.get? T=some o) (hTI:IsPair s.heap TI (.ref i1) (.ref i2)) (h1:S1 k1 s.heap) (h2:S2 k2 s.heap) (l1:k1 < n1) (l2:k2 < n2)
  (hQ:∀ x y h' tk,P1 k1 x->P2 k2 y->h'.get? z=some (yl_ T true TI TO)->S1 (k1+1) h'->S2 (k2+1) h'->IsPair h' s.heap.objs.size x y ->
   (∀ c o,c≠z->c≠i1->c≠i2->s.heap.get? c=some o->h'.get? c=some o)->Q (.ref s.heap.objs.size) { s with heap:=h',toks:=tk }) :
  wpAny (model prog w) A (Builtin.«zip.__next__» ⟨[.ref z],[]⟩) (fun fin s'=>∃ v,fin=.done (.ret v)/\Q v s') E s:=by
 obtain⟨oT,hoT⟩:=hT
 show wpAny _ _ (field (.ref z) 2 >>= _) _ _ _
 refine wpAny_bind (wpAny_field hz rfl (x:=.bool false) rfl ?_)
 show wpAny _ _ (field (.ref z) 3 >>= _) _ _ _
 refine wpAny_bind (wpAny_field hz rfl (x:=.ref TI) rfl (wpAny_bind (wpAny_seqItems hTI rfl ?_)))
 show wpAny _ _ (ps_ (.ref z) >>= _) _ _ _
 refine wpAny_bind (jby_ hz hoT fun g zg b1=>?_)
 rw[if_neg pp_]
 dsimp only
 rw[<- Array.forIn_toList]
 simp only[rd_,sq_]
 refine wpAny_bind (wpAny_bind (wpAny_bind (wpAny_holding ?_)))
 show wpAny _ _ (px_ (.ref i1) >>= _) _ _ _
 refine wpAny_bind (D1.item k1 _ _ _ l1 (Draws.still D1 h1 b1.extBut Z.zf1) fun x g2 tk1 hx h1' b2=>wpAny_pure (wpAny_pure ?_))
 dsimp only
 refine wpAny_bind (wpAny_bind (wpAny_holding ?_))
 show wpAny _ _ (px_ (.ref i2) >>= _) _ _ _
 refine wpAny_bind (D2.item k2 _ _ _ l2 (Draws.still D2 (Draws.still D2 h2 b1.extBut Z.zf2) b2.extBut Z.i1f2) fun y g3 tk2 hy h2' b3=>wpAny_pure (wpAny_pure (wpAny_pure ?_)))
 dsimp only
 have sz:g3.objs.size=s.heap.objs.size:=by rw[b3.1,b2.1,b1.1]
 refine wpAny_bind (wpAny_newTuple ?_ (by show 2<=sizeLine;decide))
 refine wpAny_pure ⟨_,rfl,?_⟩
 have zg3:g3.get? z=some (yl_ T true TI TO):=b3.extBut _ _ Z.i2z.symm (b2.extBut _ _ Z.i1z.symm zg)
 have s1:S1 (k1+1) g3:=Draws.still D1 h1' b3.extBut Z.i2f1
 show Q (.ref g3.objs.size) _
 have tp:IsPair (g3.push { cls:=.type "tuple",data:=.seq #[x,y] }) g3.objs.size x y:=pk_ _ rfl
 rw[sz] at tp ⊢
 exact hQ x y _ _ hx hy (pa_ _ zg3) (D1.frame _ _ _ s1 fun c hc o e=>pa_ _ e) (D2.frame _ _ _ h2' fun c hc o e=>pa_ _ e) tp fun c o c1 c3 c4 e=>pa_ _ (b3.extBut _ _ c4 (b2.extBut _ _ c3 (b1.extBut _ _ c1 e)))
def zO (f0:Value) (f:Bool) (TI TO:Addr):Obj:={ cls:=.type "zip",dict:=none,data:=.fields #[f0,.bool f,.bool false,.ref TI,.ref TO],slots:=#[] }
theorem jma_ {M:Model} {a:Addr} {Q:Option Obj->Shared->Prop} (h:s.heap.get? a=none) (q:Q none s):wpAny M A (loadIfAlive a) Q E s:=fun Γ p hΓ=>by
 show PySem.Sem.wp M Γ (.loadIfAlive a .pure) _ _ p s
 rw[wu_,h]
 exact q
theorem jco_ {z T TI TO:Addr} {f:Bool} {Q:Bool->Shared->Prop} (hz:s.heap.get? z=some (yl_ T f TI TO)) (hT:s.heap.get? T=none) (h:Q true s):wpAny (model prog w) A (ps_ (.ref z)) Q E s:=by
 unfold ps_
 refine wpAny_bind (wpAny_field hz rfl (x:=rawInt T) rfl ?_)
 show wpAny _ _ (loadIfAlive (((T:Nat):Int)).toNat >>= _) _ _ _
 rw[rn_]
 refine wpAny_bind (jma_ hT ?_)
 rw[if_pos (by simp)]
 exact wpAny_pure h
theorem jla_ {z TI TO i1 i2 T:Addr} {f:Bool} {f1 f2:List Addr} {n1 n2 k1 k2:Nat} {P1 P2:Nat->Value->Prop} {S1 S2:Nat->Heap->Prop} {a b:Value} {Q:Value->Shared->Prop}
  (D1:Draws prog w A i1 f1 n1 P1 S1) (D2:Draws prog w A i2 f2 n2 P2 S2) (Z:ZA z TI TO i1 i2 f1 f2)
  (hz:s.heap.get? z=some (yl_ T f TI TO)) (hT:s.heap.get? T=none) (hTI:IsPair s.heap TI (.ref i1) (.ref i2)) (hTO:IsPair s.heap TO a b) (h1:S1 k1 s.heap) (h2:S2 k2 s.heap) (l1:k1 < n1) (l2:k2 < n2)
  (hQ:∀ x y h' tk,P1 k1 x->P2 k2 y->h'.get? z=some (yl_ s.heap.objs.size false TI TO)->IsPair h' TO x y->S1 (k1+1) h'->S2 (k2+1) h'->IsPair h' s.heap.objs.size x y ->
   (∀ c o,c≠z->c≠TO->c≠i1->c≠i2->s.heap.get? c=some o->h'.get? c=some o)->Q (.ref s.heap.objs.size) { s with heap:=h',toks:=tk }) :
  wpAny (model prog w) A (Builtin.«zip.__next__» ⟨[.ref z],[]⟩) (fun fin s'=>∃ v,fin=.done (.ret v)/\Q v s') E s:=by
 show wpAny _ _ (field (.ref z) 2 >>= _) _ _ _
 refine wpAny_bind (wpAny_field hz rfl (x:=.bool false) rfl ?_)
 show wpAny _ _ (field (.ref z) 3 >>= _) _ _ _
 refine wpAny_bind (wpAny_field hz rfl (x:=.ref TI) rfl (wpAny_bind (wpAny_seqItems hTI rfl ?_)))
 show wpAny _ _ (ps_ (.ref z) >>= _) _ _ _
 refine wpAny_bind (jco_ hz hT ?_)
 simp only[if_true]
 refine wpAny_bind (wpAny_rule (wpAny_bind (wpAny_field hz rfl (x:=.ref TO) rfl (wpAny_bind (wpAny_setField_rec hz (by simp) fun g1 zg1 b1=>?_)))))
 have zg1':g1.get? z=some (zO .ellipsis f TI TO):=zg1
 refine wpAny_bind ?_
 simp only[tb_,wa_,rd_,sq_]
 refine wpAny_bind (wpAny_bind (wpAny_onRaise ?_))
 show wpAny _ _ (px_ (.ref i1) >>= _) _ _ _
 refine wpAny_bind (D1.item k1 _ _ _ l1 (Draws.still D1 h1 b1.extBut Z.zf1) fun x g2 tk1 hx h1' b2=>wpAny_pure ?_)
 have to2:IsPair g2 TO a b:=b2.extBut _ _ Z.TOi1 (b1.extBut _ _ Z.TOz hTO)
 refine wpAny_bind (wpAny_seqItems to2 rfl (wpAny_bind (wpAny_updateSeq_pair to2 fun g3 to3 b3=>?_)))
 have to3':IsPair g3 TO x b:=to3
 refine wpAny_bind (wpAny_letGo (wpAny_pure ?_))
 refine wpAny_bind (wpAny_bind (wpAny_onRaise ?_))
 show wpAny _ _ (px_ (.ref i2) >>= _) _ _ _
 refine wpAny_bind (D2.item k2 _ _ _ l2 (Draws.still D2 (Draws.still D2 (Draws.still D2 h2 b1.extBut Z.zf2) b2.extBut Z.i1f2) b3.extBut Z.of2) fun y g4 tk2 hy h2' b4=>wpAny_pure ?_)
 have to4:IsPair g4 TO x b:=b4.extBut _ _ Z.TOi2 to3'
 refine wpAny_bind (wpAny_seqItems to4 rfl (wpAny_bind (wpAny_updateSeq_pair to4 fun g5 to5 b5=>?_)))
 have to5':IsPair g5 TO x y:=to5
 refine wpAny_bind (wpAny_letGo (wpAny_pure (wpAny_pure ?_)))
 refine wpAny_bind (wpAny_seqItems to5' rfl (wpAny_bind (wpAny_newTuple ?_)))
 have sz:g5.objs.size=s.heap.objs.size:=by rw[b5.1,b4.1,b3.1,b2.1,b1.1]
 have zg5:g5.get? z=some (zO .ellipsis f TI TO):=b5.extBut _ _ Z.TOz.symm (b4.extBut _ _ Z.i2z.symm (b3.extBut _ _ Z.TOz.symm (b2.extBut _ _ Z.i1z.symm zg1')))
 have kp:∀ c o,c≠z->c≠TO->c≠i1->c≠i2->s.heap.get? c=some o->g5.get? c=some o:=fun c o c1 c2 c3 c4 e =>
  b5.extBut _ _ c2 (b4.extBut _ _ c4 (b3.extBut _ _ c2 (b2.extBut _ _ c3 (b1.extBut _ _ c1 e))))
 have s1:S1 (k1+1) g5:=Draws.still D1 (Draws.still D1 (Draws.still D1 h1' b3.extBut Z.of1) b4.extBut Z.i2f1) b5.extBut Z.of1
 have s2:S2 (k2+1) g5:=Draws.still D2 h2' b5.extBut Z.of2
 have zlt:z < g5.objs.size:=pm_ zg5
 show wpAny _ _ (re_ (.ref z) (.ref g5.objs.size) >>= _) _ _ _
 refine wpAny_bind ?_
 unfold re_
 have zg6:(g5.push { cls:=.type "tuple",data:=.seq #[x,y] }).get? z=some (zO .ellipsis f TI TO):=pa_ _ zg5
 refine wpAny_bind (wpAny_setField_rec zg6 (by simp) fun g7 zg7 b7=>?_)
 have zg7':g7.get? z=some (zO (rawInt g5.objs.size) f TI TO):=zg7
 refine wpAny_setField_rec zg7' (by simp) fun g8 zg8 b8=>?_
 have zg8':g8.get? z=some (yl_ g5.objs.size false TI TO):=zg8
 have up:∀ c o,c≠z->g5.get? c=some o->g8.get? c=some o:=fun c o c1 e=>b8.extBut _ _ c1 (b7.extBut _ _ c1 (pa_ _ e))
 have tp:IsPair g8 g5.objs.size x y:=b8.extBut _ _ (we_ zlt) (b7.extBut _ _ (we_ zlt) (pk_ _ rfl))
 rw[sz] at zg8' tp
 refine wpAny_pure ⟨_,rfl,?_⟩
 show Q (.ref g5.objs.size) _
 rw[sz]
 exact hQ x y g8 _ hx hy zg8' (up _ _ Z.TOz to5') (D1.frame _ _ _ s1 fun c hc o e=>up c o (fun q=>Z.zf1 (q▸hc)) e) (D2.frame _ _ _ s2 fun c hc o e=>up c o (fun q=>Z.zf2 (q▸hc)) e) tp fun c o c1 c2 c3 c4 e=>up c o c1 (kp c o c1 c2 c3 c4 e)
theorem jpd_ {z TI TO i1 i2 T:Addr} {f:Bool} {f1 f2:List Addr} {n1 n2 k:Nat} {P1 P2:Nat->Value->Prop} {S1 S2:Nat->Heap->Prop} {a b:Value} {Q:Fin->Shared->Prop}
  (D1:Draws prog w A i1 f1 n1 P1 S1) (D2:Draws prog w A i2 f2 n2 P2 S2) (Z:ZA z TI TO i1 i2 f1 f2)
  (hz:s.heap.get? z=some (yl_ T f TI TO)) (hT:s.heap.get? T=none) (hTI:IsPair s.heap TI (.ref i1) (.ref i2)) (hTO:IsPair s.heap TO a b) (h1:S1 k s.heap) (h2:S2 k s.heap) (hk:k=min n1 n2)
  (hE:∀ h' e tk,(∀ c o,c≠z->c≠TO->c≠i1->c≠i2->s.heap.get? c=some o->h'.get? c=some o)->(∃ o,h'.get? e=some o/\o.cls=.type "StopIteration")->E (.ref e) { s with heap:=h',toks:=tk }) :
  wpAny (model prog w) A (Builtin.«zip.__next__» ⟨[.ref z],[]⟩) Q E s:=by
 show wpAny _ _ (field (.ref z) 2 >>= _) _ _ _
 refine wpAny_bind (wpAny_field hz rfl (x:=.bool false) rfl ?_)
 show wpAny _ _ (field (.ref z) 3 >>= _) _ _ _
 refine wpAny_bind (wpAny_field hz rfl (x:=.ref TI) rfl (wpAny_bind (wpAny_seqItems hTI rfl ?_)))
 show wpAny _ _ (ps_ (.ref z) >>= _) _ _ _
 refine wpAny_bind (jco_ hz hT ?_)
 simp only[if_true]
 refine wpAny_bind (wpAny_rule (wpAny_bind (wpAny_field hz rfl (x:=.ref TO) rfl (wpAny_bind (wpAny_setField_rec hz (by simp) fun g1 zg1 b1=>?_)))))
 have zg1':g1.get? z=some (zO .ellipsis f TI TO):=zg1
 refine wpAny_bind ?_
 simp only[tb_,wa_,rd_,sq_]
 refine wpAny_bind (wpAny_bind (wpAny_onRaise ?_))
 show wpAny _ _ (px_ (.ref i1) >>= _) _ _ _
 have h1g:=Draws.still D1 h1 b1.extBut Z.zf1
 by_cases c:n1<=n2
 ·have e:k=n1:=by omega
  subst e
  refine wpAny_bind (D1.done _ _ _ h1g fun g2 e b2 he=>?_)
  obtain⟨oe,hoe,hce⟩:=he
  have zg2:g2.get? z=some (zO .ellipsis f TI TO):=b2 _ _ Z.i1z.symm zg1'
  have hez:e≠z:=fun x=>by subst x;rw[zg2] at hoe;cases hoe;simp[zO] at hce
  exact wpAny_setField_rec zg2 (by simp) fun g3 _ b3=>hE g3 e _ (fun c o c1 _ c3 _ x=>b3.extBut _ _ c1 (b2 _ _ c3 (b1.extBut _ _ c1 x))) ⟨oe,b3.extBut _ _ hez hoe,hce⟩
 ·have e:k=n2:=by omega
  subst e
  refine wpAny_bind (D1.item k _ _ _ (by omega) h1g fun x g2 tk1 hx h1' b2=>wpAny_pure ?_)
  have to2:IsPair g2 TO a b:=b2.extBut _ _ Z.TOi1 (b1.extBut _ _ Z.TOz hTO)
  refine wpAny_bind (wpAny_seqItems to2 rfl (wpAny_bind (wpAny_updateSeq_pair to2 fun g3 to3 b3=>?_)))
  refine wpAny_bind (wpAny_letGo (wpAny_pure ?_))
  refine wpAny_bind (wpAny_bind (wpAny_onRaise ?_))
  show wpAny _ _ (px_ (.ref i2) >>= _) _ _ _
  refine wpAny_bind (D2.done _ _ _ (Draws.still D2 (Draws.still D2 (Draws.still D2 h2 b1.extBut Z.zf2) b2.extBut Z.i1f2) b3.extBut Z.of2) fun g4 e b4 he=>?_)
  obtain⟨oe,hoe,hce⟩:=he
  have zg4:g4.get? z=some (zO .ellipsis f TI TO):=b4 _ _ Z.i2z.symm (b3.extBut _ _ Z.TOz.symm (b2.extBut _ _ Z.i1z.symm zg1'))
  have hez:e≠z:=fun x=>by subst x;rw[zg4] at hoe;cases hoe;simp[zO] at hce
  exact wpAny_setField_rec zg4 (by simp) fun g5 _ b5=>hE g5 e _ (fun c o c1 c2 c3 c4 x=>b5.extBut _ _ c1 (b4 _ _ c4 (b3.extBut _ _ c2 (b2.extBut _ _ c3 (b1.extBut _ _ c1 x))))) ⟨oe,b5.extBut _ _ hez hoe,hce⟩
theorem jnq_ {z TI TO i1 i2 T:Addr} {f:Bool} {f1 f2:List Addr} {n1 n2 k:Nat} {P1 P2:Nat->Value->Prop} {S1 S2:Nat->Heap->Prop} {Q:Fin->Shared->Prop}
  (D1:Draws prog w A i1 f1 n1 P1 S1) (D2:Draws prog w A i2 f2 n2 P2 S2) (Z:ZA z TI TO i1 i2 f1 f2)
  (hz:s.heap.get? z=some (yl_ T f TI TO)) (hT:∃ o,s.heap.get? T=some o) (hTI:IsPair s.heap TI (.ref i1) (.ref i2)) (h1:S1 k s.heap) (h2:S2 k s.heap) (hk:k=min n1 n2)
  (hE:∀ h' e tk,(∀ c o,c≠z->c≠TO->c≠i1->c≠i2->s.heap.get? c=some o->h'.get? c=some o)->(∃ o,h'.get? e=some o/\o.cls=.type "StopIteration")->E (.ref e) { s with heap:=h',toks:=tk }) :
  wpAny (model prog w) A (Builtin.«zip.__next__» ⟨[.ref z],[]⟩) Q E s:=by
 obtain⟨oT,hoT⟩:=hT
 show wpAny _ _ (field (.ref z) 2 >>= _) _ _ _
 refine wpAny_bind (wpAny_field hz rfl (x:=.bool false) rfl ?_)
 show wpAny _ _ (field (.ref z) 3 >>= _) _ _ _
 refine wpAny_bind (wpAny_field hz rfl (x:=.ref TI) rfl (wpAny_bind (wpAny_seqItems hTI rfl ?_)))
 show wpAny _ _ (ps_ (.ref z) >>= _) _ _ _
 refine wpAny_bind (jby_ hz hoT fun g zg b1=>?_)
 rw[if_neg pp_]
 dsimp only
 rw[<- Array.forIn_toList]
 simp only[rd_,sq_]
 refine wpAny_bind (wpAny_bind (wpAny_bind (wpAny_holding ?_)))
 show wpAny _ _ (px_ (.ref i1) >>= _) _ _ _
 have h1g:=Draws.still D1 h1 b1.extBut Z.zf1
 by_cases c:n1<=n2
 ·have e:k=n1:=by omega
  subst e
  exact wpAny_bind (D1.done _ _ _ h1g fun g2 e b2 he=>hE g2 e _ (fun c o c1 _ c3 _ x=>b2 _ _ c3 (b1.extBut _ _ c1 x)) he)
 ·have e:k=n2:=by omega
  subst e
  refine wpAny_bind (D1.item k _ _ _ (by omega) h1g fun x g2 tk1 hx h1' b2=>wpAny_pure (wpAny_pure ?_))
  dsimp only
  refine wpAny_bind (wpAny_bind (wpAny_holding ?_))
  show wpAny _ _ (px_ (.ref i2) >>= _) _ _ _
  exact wpAny_bind (D2.done _ _ _ (Draws.still D2 (Draws.still D2 h2 b1.extBut Z.zf2) b2.extBut Z.i1f2) fun g4 e b4 he=>hE g4 e _ (fun c o c1 c2 c3 c4 x=>b4 _ _ c4 (b2.extBut _ _ c3 (b1.extBut _ _ c1 x))) he)
theorem jly_ {z TI TO i1 i2:Addr} {f1 f2:List Addr} {n1 n2 k1 k2:Nat} {P1 P2:Nat->Value->Prop} {S1 S2:Nat->Heap->Prop} {a b:Value} {Q:Value->Shared->Prop}
  (D1:Draws prog w A i1 f1 n1 P1 S1) (D2:Draws prog w A i2 f2 n2 P2 S2) (Z:ZA z TI TO i1 i2 f1 f2)
  (hz:IsZip s.heap z TI TO .none∨∃ T f,s.heap.get? z=some (yl_ T f TI TO)) (hTI:IsPair s.heap TI (.ref i1) (.ref i2)) (hTO:IsPair s.heap TO a b) (h1:S1 k1 s.heap) (h2:S2 k2 s.heap) (l1:k1 < n1) (l2:k2 < n2)
  (hQ:∀ x y h' tk,P1 k1 x->P2 k2 y->(∃ T f,h'.get? z=some (yl_ T f TI TO))->(∃ a b,IsPair h' TO a b)->S1 (k1+1) h'->S2 (k2+1) h'->IsPair h' s.heap.objs.size x y ->
   (∀ c o,c≠z->c≠TO->c≠i1->c≠i2->s.heap.get? c=some o->h'.get? c=some o)->Q (.ref s.heap.objs.size) { s with heap:=h',toks:=tk }) :
  wpAny (model prog w) A (Builtin.«zip.__next__» ⟨[.ref z],[]⟩) (fun fin s'=>∃ v,fin=.done (.ret v)/\Q v s') E s:=by
 rcases hz with hz | ⟨T,f,hz⟩
 ·exact jml_ D1 D2 Z hz hTI hTO h1 h2 l1 l2 fun x y h' tk hx hy c1 c2 c3 c4 c5 hk=>hQ x y h' tk hx hy ⟨_,false,c1⟩ ⟨_,_,c2⟩ c3 c4 c5 hk
 ·cases hT:s.heap.get? T with
  | none=>exact jla_ D1 D2 Z hz hT hTI hTO h1 h2 l1 l2 fun x y h' tk hx hy c1 c2 c3 c4 c5 hk=>hQ x y h' tk hx hy ⟨_,false,c1⟩ ⟨_,_,c2⟩ c3 c4 c5 hk
  | some o=>exact jme_ D1 D2 Z hz ⟨o,hT⟩ hTI h1 h2 l1 l2 fun x y h' tk hx hy c1 c3 c4 c5 hk=>hQ x y h' tk hx hy ⟨_,_,c1⟩ ⟨_,_,hk _ _ Z.TOz Z.TOi1 Z.TOi2 hTO⟩ c3 c4 c5 fun c o c1 _ c3 c4 e=>hk c o c1 c3 c4 e
theorem jne_ {z TI TO i1 i2:Addr} {f1 f2:List Addr} {n1 n2 k:Nat} {P1 P2:Nat->Value->Prop} {S1 S2:Nat->Heap->Prop} {a b:Value} {Q:Fin->Shared->Prop}
  (D1:Draws prog w A i1 f1 n1 P1 S1) (D2:Draws prog w A i2 f2 n2 P2 S2) (Z:ZA z TI TO i1 i2 f1 f2)
  (hz:IsZip s.heap z TI TO .none∨∃ T f,s.heap.get? z=some (yl_ T f TI TO)) (hTI:IsPair s.heap TI (.ref i1) (.ref i2)) (hTO:IsPair s.heap TO a b) (h1:S1 k s.heap) (h2:S2 k s.heap) (hk:k=min n1 n2)
  (hE:∀ h' e tk,(∀ c o,c≠z->c≠TO->c≠i1->c≠i2->s.heap.get? c=some o->h'.get? c=some o)->(∃ o,h'.get? e=some o/\o.cls=.type "StopIteration")->E (.ref e) { s with heap:=h',toks:=tk }) :
  wpAny (model prog w) A (Builtin.«zip.__next__» ⟨[.ref z],[]⟩) Q E s:=by
 rcases hz with hz | ⟨T,f,hz⟩
 ·exact jnb_ D1 D2 Z hz hTI hTO h1 h2 hk hE
 ·cases hT:s.heap.get? T with
  | none=>exact jpd_ D1 D2 Z hz hT hTI hTO h1 h2 hk hE
  | some o=>exact jnq_ D1 D2 Z hz ⟨o,hT⟩ hTI h1 h2 hk hE
end
open PySem.Spec PyProof.Rows
theorem jmj_ {P:Program} {w:World} {K:pd_} {nm:Str} {pos:Pos} {z TI TO i1 i2:Addr} {xs ys:List V} {ok:Hp->Prop} {S1 S2:Nat->Heap->Prop}
  (n1:TI≠z) (n2:TO≠z) (n3:i1≠z) (n4:i2≠z) (n5:TI≠TO) (n6:TI≠i1) (n7:TI≠i2) (n8:TO≠i1) (n9:TO≠i2) (n10:i1≠i2)
  (hD1:∀(X:Cx),X.prog=P->X.w=w->X.K=K->X.calm=true->∀(i:Nat) (pins:List (Addr×Obj)) (s:Shared) (σ:St) (H:Hp),Inv X pins σ H s->ok H->H i1=none->S1 i s.heap->jaw_ P w X.A.in1 i1 xs S1 H i s.heap)
  (hD2:∀(X:Cx),X.prog=P->X.w=w->X.K=K->X.calm=true->∀(i:Nat) (pins:List (Addr×Obj)) (s:Shared) (σ:St) (H:Hp),Inv X pins σ H s->ok H->H i2=none->S2 i s.heap->jaw_ P w X.A.in1 i2 ys S2 H i s.heap)
  (o1:∀ i h,S1 i h->∃ o,h.get? i1=some o/\∀ v,o.data≠.cell v) (o2:∀ i h,S2 i h->∃ o,h.get? i2=some o/\∀ v,o.data≠.cell v)
  (k1:∀ i h h',S1 i h->(∀ o,h.get? i1=some o->h'.get? i1=some o)->S1 i h') (k2:∀ i h h',S2 i h->(∀ o,h.get? i2=some o->h'.get? i2=some o)->S2 i h') :
  Turn P w K (.Name nm pos) (Izp xs ys ok) [z,TI,TO,i1,i2] z (fun i h=>(IsZip h z TI TO .none∨∃ T f,h.get? z=some (yl_ T f TI TO))/\IsPair h TI (.ref i1) (.ref i2)/\(∃ a b,IsPair h TO a b)/\S1 i h/\S2 i h) where
 mem:=by simp
 obj:=fun i h st c hc=>by
  obtain⟨a1,a2,⟨a,b,a3⟩,a4,a5⟩:=st
  simp only[pt_,r5_,or_false] at hc
  rcases hc with q | q | q | q | q <;> rw[q]
  ·rcases a1 with a1 | ⟨T,f,a1⟩
   ·exact⟨_,a1,fun v q=>by have q':Data.fields _=Data.cell v:=q;cases q'⟩
   ·exact⟨_,a1,fun v q=>by have q':Data.fields _=Data.cell v:=q;cases q'⟩
  ·exact⟨_,a2,fun v q=>by have q':Data.seq _ _=Data.cell v:=q;cases q'⟩
  ·exact⟨_,a3,fun v q=>by have q':Data.seq _ _=Data.cell v:=q;cases q'⟩
  ·exact o1 i h a4
  ·exact o2 i h a5
 keep:=fun i h h' st kk=>by
  obtain⟨a1,a2,⟨a,b,a3⟩,a4,a5⟩:=st
  exact⟨a1.imp (fun q=>kk z (by simp) _ q) fun⟨T,f,q⟩=>⟨T,f,kk z (by simp) _ q⟩,kk TI (by simp) _ a2,⟨a,b,kk TO (by simp) _ a3⟩,k1 i h h' a4 fun o q=>kk i1 (by simp) o q,k2 i h h' a5 fun o q=>kk i2 (by simp) o q⟩
 item:=by
  intro X hP hw hK hc i pins s σ H E I hf st hg
  subst hP hw hK
  obtain⟨a1,a2,⟨a,b,a3⟩,a4,a5⟩:=st
  obtain⟨hok,hl1,hl2⟩:=hg
  obtain⟨f1,P1,T1,D1,m1,hf1,st1,r1,bk1⟩:=hD1 X rfl rfl rfl hc i pins s σ H I hok (hf i1 (by simp)).1 a4
  obtain⟨f2,P2,T2,D2,m2,hf2,st2,r2,bk2⟩:=hD2 X rfl rfl rfl hc i pins s σ H I hok (hf i2 (by simp)).1 a5
  have out1:∀ c∈[z,TI,TO,i1,i2],c≠i1->c∉f1:=fun c hc hn q=>by
   rcases hf1 c q with e | e
   ·exact hn e
   ·exact e (hf c hc).1
  have out2:∀ c∈[z,TI,TO,i1,i2],c≠i2->c∉f2:=fun c hc hn q=>by
   rcases hf2 c q with e | e
   ·exact hn e
   ·exact e (hf c hc).1
  have Z:ZA z TI TO i1 i2 f1 f2:=⟨n1,n2,n3,n4,n5,n6,n7,n8,n9,n10,out1 z (by simp) n3.symm,out2 z (by simp) n4.symm,out1 TO (by simp) n8,out2 TO (by simp) n9,out2 i1 (by simp) n10,out1 i2 (by simp) n10.symm⟩
  have hTy:s.TypeIs (.ref z) "zip":=by
   rcases a1 with a1 | ⟨T,f,a1⟩
   ·exact⟨_,a1,rfl⟩
   ·exact⟨_,a1,rfl⟩
  have hzlt:z < s.heap.objs.size:=by
   rcases a1 with a1 | ⟨T,f,a1⟩
   ·exact pm_ a1
   ·exact pm_ a1
  unfold pyNext
  refine wpAny_bind (wpAny_attempt (wpAny_callSpecial?_slot (name:=qz_ "__next__") hTy to_ (wpAny_call_entry to_ hTy F.entry_zip_next
   (jly_ D1 D2 Z a1 a2 a3 st1 st2 (by omega) (by omega) fun x y h2 tk hx hy c1 c2 c3 c4 c5 hk=>wpAny_pure ?_) (F.args_zip_next_1 _))))
  obtain⟨u,hu,ru⟩:=r1 _ _ hx
  obtain⟨v,hv,rv⟩:=r2 _ _ hy
  refine⟨.ref s.heap.objs.size,rfl,?_⟩
  show wpAny _ _ (pure ()) _ _ _
  have kk:∀ c u,c∉[z,TI,TO,i1,i2]->s.heap.get? c=some u->h2.get? c=some u:=fun c u hc q=>hk c u (fun e=>hc (by simp[e])) (fun e=>hc (by simp[e])) (fun e=>hc (by simp[e])) (fun e=>hc (by simp[e])) q
  have tup2:IsTup h2 s.heap.objs.size #[x,y]:=⟨_,c5,rfl,_,rfl⟩
  refine wpAny_pure ⟨.ref s.heap.objs.size,upd H s.heap.objs.size (.tup [u,v]),I.turnedNew (t':=tk) (pg_ _) kk hf ?_,rfl,⟨s.heap.objs.size,u,v,I.hok.fresh (pg_ _),hu,hv,rfl,rfl⟩,?_,?_⟩
  ·exact⟨by show 2<=sizeLine;decide,[x,y],.cons ru (.cons rv .nil),tup2⟩
  ·exact⟨.inr c1,hk _ _ Z.TIz Z.TITO Z.TIi1 Z.TIi2 a2,c2,bk1 _ _ c3,bk2 _ _ c4⟩
  ·intro c hc
   have hlt:c < s.heap.objs.size:=by
    simp only[pt_,r5_,or_false] at hc
    rcases hc with q | q | q | q | q <;> rw[q]
    ·exact hzlt
    ·exact pm_ a2
    ·exact pm_ a3
    ·obtain⟨o,ho,_⟩:=o1 i _ a4;exact pm_ ho
    ·obtain⟨o,ho,_⟩:=o2 i _ a5;exact pm_ ho
   rw[je_ (p7_ hlt)]
   exact(hf c hc).1
 done:=by
  intro X hP hw hK hc i pins s σ H E I hf st hg
  subst hP hw hK
  obtain⟨a1,a2,⟨a,b,a3⟩,a4,a5⟩:=st
  obtain⟨hok,rfl⟩:=hg
  obtain⟨f1,P1,T1,D1,m1,hf1,st1,r1,bk1⟩:=hD1 X rfl rfl rfl hc _ pins s σ H I hok (hf i1 (by simp)).1 a4
  obtain⟨f2,P2,T2,D2,m2,hf2,st2,r2,bk2⟩:=hD2 X rfl rfl rfl hc _ pins s σ H I hok (hf i2 (by simp)).1 a5
  have out1:∀ c∈[z,TI,TO,i1,i2],c≠i1->c∉f1:=fun c hc hn q=>by
   rcases hf1 c q with e | e
   ·exact hn e
   ·exact e (hf c hc).1
  have out2:∀ c∈[z,TI,TO,i1,i2],c≠i2->c∉f2:=fun c hc hn q=>by
   rcases hf2 c q with e | e
   ·exact hn e
   ·exact e (hf c hc).1
  have Z:ZA z TI TO i1 i2 f1 f2:=⟨n1,n2,n3,n4,n5,n6,n7,n8,n9,n10,out1 z (by simp) n3.symm,out2 z (by simp) n4.symm,out1 TO (by simp) n8,out2 TO (by simp) n9,out2 i1 (by simp) n10,out1 i2 (by simp) n10.symm⟩
  have sub:∀ c,c∉[z,TI,TO,i1,i2]->c∉[z,TO,i1,i2]:=fun c hc q=>hc (by simp only[pt_,r5_,or_false] at q ⊢;rcases q with q | q | q | q <;> simp[q])
  have hTy:s.TypeIs (.ref z) "zip":=by
   rcases a1 with a1 | ⟨T,f,a1⟩
   ·exact⟨_,a1,rfl⟩
   ·exact⟨_,a1,rfl⟩
  unfold pyNext
  refine wpAny_bind (wpAny_attempt (wpAny_callSpecial?_slot (name:=qz_ "__next__") hTy to_ (wpAny_call_entry to_ hTy F.entry_zip_next
   (jne_ D1 D2 Z a1 a2 a3 st1 st2 rfl fun h' e tk hk he=>?_) (F.args_zip_next_1 _))))
  obtain⟨o,ho,hc⟩:=he
  refine wpAny_bind (wpAny_isInstance (T:="StopIteration") (b:=true) ⟨o,ho,hc⟩ isSubtype_stop ?_)
  exact wpAny_pure ⟨rfl,I.turnedL (fun c u hc q=>hk c u (fun e=>hc (by simp[e])) (fun e=>hc (by simp[e])) (fun e=>hc (by simp[e])) (fun e=>hc (by simp[e])) q) hf⟩
 self:=fun A i s Q E st q=>by
  rcases st.1 with a1 | ⟨T,f,a1⟩
  ·exact wpAny_pyIter_zip a1 q
  ·have hTy:s.TypeIs (.ref z) "zip":=⟨_,a1,rfl⟩
   refine wpAny_pyIter_slot hTy F.slot_zip_iter (wpAny_call_entry F.slot_zip_iter hTy F.entry_zip_iter ?_ (F.args_zip_iter_1 _))
   show wpAny _ _ (ret (.ref z)) _ _ s
   exact wpAny_pure ⟨_,rfl,"zip",_,hTy,to_.lookup,q⟩
end L2
namespace L2
open PySem PySem.Spec
theorem jlk_:typeLookup (.type "list_reverseiterator") "__len__"=pure none:=by rw[typeLookup_type,builtinLookup_eq_fast];kernel_rfl
theorem jmt_:typeLookup (.type "list_reverseiterator") "__length_hint__"=pure (some (.builtin "list_reverseiterator.__length_hint__")):=by rw[typeLookup_type,builtinLookup_eq_fast];kernel_rfl
section
variable {prog:Program} {w:World} {A:Around} {E:Value->Shared->Prop} {s:Shared}
theorem jho_ {R:Result->Shared->Prop} {I:Addr} {fp wr:List Addr} {G:Array GenState->Array GenState->Prop} {n:Nat} {P:Nat->Value->Prop} {St:Nat->Shared->Prop} (W:WalksS prog w A.in1 I fp wr G n P St)
  (hT:∀ i s,St i s->s.TypeIs (.ref I) "list_reverseiterator") (S:Addr) (res:Value) (c0:Nat) (hst:St 0 s) (hSf:S∉fp) (hI:I∈fp) (hS:s.heap.get? S=some { cls:=.type "list",data:=.seq #[] c0 })
  (hR:∀ s' acc' c',Moved (S::wr) G s s'->s'.heap.get? S=some { cls:=.type "list",dict:=none,data:=.seq acc' c',slots:=#[] }->ItemsOf P acc' n->R (.ok (.ret res)) s') (hn:n<=sizeLine) :
  wpAny (model prog w) A.in1 (r0_ (.ref S) (.ref I) res)
   (fun fin s'=>match fin with | .done f=>R (.ok f) s' | .again c'=>c'.quiet=true/\codeAny (model prog w) A c' R s') (fun e s'=>R (.error e) s') s:=by
 have hSI:S≠I:=fun e=>hSf (e▸hI)
 have h1:wv_ (.ref S) (.ref I)=false:=by simp[wv_,hSI]
 unfold r0_
 refine wpAny_bind (wpAny_typeOf (hT 0 _ hst) ?_)
 rw[if_neg (by rw[h1];decide)]
 refine wpAny_bind (W.self 0 _ _ _ hst ?_)
 refine wpAny_bind (wpAny_holding ?_)
 unfold Builtin.List.listLengthHint
 refine wpAny_bind (wpAny_specialOf (hT 0 _ hst) jlk_ ?_)
 show wpAny _ A.in1 (specialOf (Value.ref I) (qz_ "__length_hint__") >>= _) _ _ _
 refine wpAny_bind (wpAny_specialOf (hT 0 _ hst) jmt_ ?_)
 (generalize hid:("list_reverseiterator.__length_hint__":String)=id0;(fail_if_success (clear hid id0));wp_delta;rw[show splitId id0=some ("list_reverseiterator","__length_hint__") from by subst hid;decide +kernel];subst hid)
 refine wpAny_bind (wpAny_isInstance (b:=true) (hT 0 _ hst) (by rw[isSubtype_type];kernel_rfl) ?_)
 refine wpAny_pure ?_
 rw[if_neg (by decide)]
 exact wpAny_pure ⟨plainId_quiet F.plain_extend_loop _,codeAny_extend_loopS W hn _ hSf _ n 0 _ _ _ rfl (ri_ _) hst hS (ItemsOf.nil P) fun s' acc' c' hm hS' hacc=>hR s' acc' c' hm hS' hacc⟩
theorem jpj_ {R:Result->Shared->Prop} {I:Addr} {fp wr:List Addr} {G:Array GenState->Array GenState->Prop} {n:Nat} {P:Nat->Value->Prop} {St:Nat->Shared->Prop} (W:WalksS prog w A.in1 I fp wr G n P St)
  (hT:∀ i s,St i s->s.TypeIs (.ref I) "list_reverseiterator") (S:Addr) (hst:St 0 s) (hSf:S∉fp) (hI:I∈fp) (hS:s.heap.get? S=some { cls:=.type "list",data:=.seq #[] })
  (hR:∀ s' acc' c',Moved (S::wr) G s s'->s'.heap.get? S=some { cls:=.type "list",dict:=none,data:=.seq acc' c',slots:=#[] }->ItemsOf P acc' n->R (.ok (.ret .none)) s') (hn:n<=sizeLine) :
  wpAny (model prog w) A.in1 (Builtin.«list.__init__» ⟨[.ref S,.ref I],[]⟩)
   (fun fin s'=>match fin with | .done f=>R (.ok f) s' | .again c'=>c'.quiet=true/\codeAny (model prog w) A c' R s') (fun e s'=>R (.error e) s') s:=by
 show wpAny _ A.in1 (do let old <- r2_ (.ref S);Builtin.List.listUpdate (.ref S) (fun _=>#[]);letGo old.toList.reverse;r0_ (.ref S) (.ref I) .none) _ _ s
 refine wpAny_bind ?_
 unfold r2_
 refine wpAny_bind (wpAny_seqItems hS rfl (wpAny_pure ?_))
 show wpAny _ A.in1 (updateSeq S (fun _=>#[]) >>= fun _=>letGo (#[]:Array Value).toList.reverse >>= fun _=>r0_ (.ref S) (.ref I) .none) _ _ s
 refine wpAny_bind (wpAny_updateSeq hS rfl ?_)
 have hS2:=tw_ (s2_ (fun _=>(#[]:Array Value))) hS rfl
 have oth:∀ b o,b≠S->s.heap.get? b=some o->(s.heap.update S (s2_ (fun _=>(#[]:Array Value)))).get? b=some o :=
  fun b o hb e=>(r1_ _ _ (wx_ hb)).trans e
 refine wpAny_bind (wpAny_letGo ?_)
 refine jho_ W hT S .none _ (W.frame 0 s _ s.toks hst (pg_ _) fun b hb o e=>oth b o (fun h=>hSf (h▸hb)) e) hSf hI hS2 (fun s' acc' c' hm hS' hacc=>?_) hn
 exact hR s' acc' c' (Moved.trans W.gtrans ((Moved.refl W.grefl).then_heap (pg_ _) fun b o hb e=>oth b o (fun h=>hb (h▸po_)) e) hm) hS' hacc
theorem jbs_ {Q:Value->Shared->Prop} {I l:Addr} {items:Array Value} (hh:A.handled=none) (hne:l≠I) (hi:s.heap.IsRevIter I l ((items.size:Int) - 1)) (hl:s.heap.IsList l items) (hn:items.size<=sizeLine)
  (hQ:∀ h' tk c',(∀ b o,b≠I->s.heap.get? b=some o->h'.get? b=some o)->h'.get? s.heap.objs.size=some { cls:=.type "list",dict:=none,data:=.seq items.toList.reverse.toArray c',slots:=#[] }->Q (.ref s.heap.objs.size) { s with heap:=h',toks:=tk }) :
  wpAny (model prog w) A (call (.type "list") [.ref I]) Q E s:=by
 have hIlt:I < s.heap.objs.size:=by obtain⟨o,ho,_⟩:=hi;exact pm_ ho
 have hllt:l < s.heap.objs.size:=by obtain⟨o,ho,_⟩:=hl;exact pm_ ho
 have hfp:∀ b∈[I,l],b < s.heap.objs.size:=fun b hb=>by
  simp only[pt_,r5_,or_false] at hb
  rcases hb with rfl | rfl
  ·exact hIlt
  ·exact hllt
 have hSf:s.heap.objs.size∉[I,l]:=fun hm=>sj_ _ (hfp _ hm)
 have W:=(Walks.listRev (prog:=prog) (w:=w) (A:=A.in1.in1) (by simpa using hh) I l hne items).toS
 have st0:0<=items.size/\s.heap.IsRevIter I l ((items.size:Int) - 1 - ((0:Nat):Int))/\s.heap.IsList l items:=⟨ri_ _,by rw[show (items.size:Int) - 1 - ((0:Nat):Int)=(items.size:Int) - 1 by omega];exact hi,hl⟩
 refine callType_codes (Q₁:=fun obj s₁=>obj=.ref s.heap.objs.size/\s₁={ s with heap:=s.heap.push { cls:=.type "list",data:=.seq #[] } }) F.called_list (F.typeCall_list_1 _) F.entry_list_init
  (code_list_new _ ⟨rfl,rfl⟩) fun obj s₁ h₁=>?_
 obtain⟨rfl,rfl⟩:=h₁
 have hS:(s.heap.push { cls:=.type "list",data:=.seq #[] }).get? s.heap.objs.size=some { cls:=.type "list",data:=.seq #[] }:=pk_ _ rfl
 refine⟨⟨_,hS,rfl⟩,F.args_list_init_2 _ _,jpj_ W (fun i s st=>st.2.1.typeIs) _ (W.frame 0 s _ s.toks st0 (pg_ _) fun b _ o e=>pa_ _ e) hSf (by simp) hS (fun s' acc' c' hm hS' hacc=>?_) hn⟩
 refine⟨rfl,?_⟩
 have ea:acc'=items.toList.reverse.toArray:=by
  obtain⟨h1,h2⟩:=hacc
  apply Array.ext
  ·simp[h1]
  ·intro i hi1 hi2
   have this:items[items.size - 1 - i]?=some acc'[i]:=h2 i _ (qw_ hi1)
   have hi3:items.size - 1 - i < items.size:=by omega
   rw[qw_ hi3] at this
   injection this with this
   rw[<- this]
   simp
 rw[ea] at hS'
 have hm2:=Moved.eq_with (wr:=s.heap.objs.size::[I]) hm
 rw[hm2]
 refine hQ s'.heap s'.toks c' (fun b o hb e=>hm.heap b o ?_ (pa_ _ e)) hS'
 simp only[pt_,r5_,or_false,not_or]
 exact⟨p7_ (pm_ e),hb⟩
end
end L2
namespace L2
open PySem PySem.Spec PyProof.Rows
section
variable {prog:Program} {w:World} {A:Around} {E:Value->Shared->Prop} {s:Shared} {z TI TO i1 i2 l1 l2 S:Addr} {xs ys:Array Value} {R:Result->Shared->Prop}
end
end L2
namespace L2
open PySem PySem.Spec PyProof.Rows
section
variable {X:Cx} {pins:List (Addr×Obj)} {σ:St} {H H':Hp} {s:Shared} {h':Heap}
theorem Inv.laidAll {t':Nat} (I:Inv X pins σ H s) (k:∀ b u,s.heap.get? b=some u->h'.get? b=some u) (old:∀ b o,H b=some o->H' b=some o) (none_:∀ b,b < s.heap.objs.size->H b=none->H' b=none)
  (new:∀ b o,H' b=some o->H b=none->ObjOk X.prog X.w H' h' b o):Inv X pins σ H' { s with heap:=h',toks:=t' }:=by
 refine I.un ⟨fun b o q _ _ _=>k b o q,fun b o q _ _ _=>⟨o.slots,k b o q⟩,fun b o q n _=>none_ b (pm_ q) n,fun b o q _=>⟨o,k b o q⟩,fun b xs e=>old b _ e,fun b o u e=>old b _ e,fun b ps e=>⟨#[],by simpa using old b _ e⟩⟩ fun b o e=>?_
 cases q:H b with
 | none=>exact new b o e q
 | some o' =>
  have e':o'=o:=by rw[old b o' q] at e;injection e
  subst e'
  exact(I.hok b o' q).stay (fun c u _ q=>k c u q) (fun c q=>old c _ q) fun c xs q=>old c _ q
end
theorem jev_ {u v:V} {x:Value} (a:RelV u x) (b:RelV v x):u=v:=by
 cases u <;> cases v <;> simp only[RelV] at a b <;> first
  | (subst a;cases b;done)
  | (obtain⟨t,rfl⟩:=a;obtain⟨t',b⟩:=b;cases b;rfl)
  | (obtain⟨t,rfl⟩:=a;cases b;done)
  | (obtain⟨t,rfl⟩:=a;obtain⟨t',b⟩:=b;cases b;done)
  | (subst a;obtain⟨t',b⟩:=b;cases b;done)
  | (subst a;cases b;rfl)
  | rfl
section
variable {X:Cx}
end
end L2
namespace L2
open PySem PySem.Spec PyProof.Rows
def VW (v d:Addr):HO:=.ext fun h=>h.IsItemsView v d
theorem jwh_ {P:Program} {w:World} {H:Hp} {h:Heap} {v d:Addr} (x:h.IsItemsView v d):ObjOk P w H h v (VW v d) :=
 ⟨x,(let ⟨o,ho,_⟩:=x;⟨o,ho⟩),fun _ _ ⟨o,a,b⟩ k=>⟨o,k _ a,b⟩⟩
def jhg_:V->List V->Hp->VK->Prop:=fun x vs H Q=>match x,vs with
 | .ref d,[]=>∃ kvs,H d=some (.dK kvs)/\∀ v,H v=none->Q (.ref v) (upd H v (VW v d))
 | _,_=>False
section
variable {X:Cx}
theorem jqy_:MtR X "dict.items" jhg_:=fun pins s σ H x vs v us Q I rx rs h=>by
 unfold jhg_ at h
 split at h
 ·rename_i d
  obtain⟨kvs,e,q⟩:=h
  cases rx
  cases rs
  obtain⟨z,hd,vs,rel,dd⟩:=jgm_ I.hok e
  refine call_meetsIn w5_ dd.typeIs PySem.F.entry_dict_items (PySem.F.args_dict_items_1 _) (meets_dict_items (jx_ X.prog X.w) d hd) ⟨⟨vs,dd⟩,?_⟩
  have I2:Inv X pins σ (upd H s.heap.objs.size (VW s.heap.objs.size d)) { s with heap:=s.heap.push { cls:=.type "dict_items",data:=.fields #[.ref d] } } :=
   I.laid (a:=s.heap.objs.size) (o:=VW s.heap.objs.size d) (t':=s.toks) (fun b u q=>pa_ _ q) (pg_ _) (jwh_ ⟨_,pk_ _ rfl,rfl,rfl⟩)
  exact⟨.ref s.heap.objs.size,_,I2,rfl,q _ (I.hok.fresh (pg_ _))⟩
 ·exact h.elim
theorem KV.valD {κ:Type}:∀{kvs:List (κ×V)} {vs:List (κ×Value)},KV kvs vs->∀{j:Nat} {p:κ×Value},vs[j]?=some p->∃ q,kvs[j]?=some q/\q.1=p.1/\RelV q.2 p.2:=by
 intro kvs vs r
 unfold KV at r
 induction r with
 | nil=>intro j p h;cases h
 | cons r t ih =>
  intro j p h
  cases j with
  | zero=>cases h;exact⟨_,rfl,r.1,r.2⟩
  | succ j=>exact ih (j:=j) h
end
end L2
namespace L2
open PySem PySem.Spec PyProof.Rows
section
variable {X:Cx}
def jmq_:List V->Hp->VK->Prop:=fun xs H Q=>∃(a:Addr) (ss:List Str) (kvs:List (Key×V)),xs=[.ref a]/\H a=some (.dK kvs)/\kvs.map (·.1)=ss.map Sum.inr/\ss.length<=1000000/\∀(q:Addr) (ms:List Str),H q=none->ms.Perm ss->sortedS ms=true->Q (.ref q) (upd H q (.lst (ms.map V.str)))
theorem jrf_ {H:Hp} {Q:VK} {a:Addr} {ss:List Str} {kvs:List (Key×V)} (h1:H a=some (.dK kvs)) (h2:kvs.map (·.1)=ss.map Sum.inr) (h3:ss.length<=1000000) (h:∀(q:Addr) (ms:List Str),H q=none->ms.Perm ss->sortedS ms=true->Q (.ref q) (upd H q (.lst (ms.map V.str)))):jmq_ [.ref a] H Q:=⟨a,ss,kvs,rfl,h1,h2,h3,h⟩
theorem xh_ {h1:Heap} {out:Array Value} {acc:List Value} {b:Addr} {o:Obj} (eb:h1.get? b=some o):(sortedHeap (h1.push (seqObj "list" acc.toArray 0)) h1.objs.size acc out).get? b=some o:=by
 have hlt:=pm_ eb
 rw[sortedHeap_old (p7_ hlt) (by rw[q9_];exact wp_ hlt)]
 exact pa_ _ eb
theorem jlo_ {prog:Program} {w:World} {A:Around} {E:Value->Shared->Prop} {s:Shared} {a:Addr} {vs:List Value} {ss:List Str} {n:Nat} {P:PySem.Fin->Shared->Prop} (ho:s.heap.get? a=some (seqObj "list" vs.toArray n)) (hS:StrsAre vs ss) (hz:vs.length<=sizeLine)
  (h:∀(out:Array Value) (ss':List Str),StrsAre out.toList ss'->ss'.Perm ss->sortedS ss'=true->P (.done (.ret .none)) { s with heap:=sortedHeap s.heap a vs out }):wpAny (model prog w) A (Builtin.«list.sort» ⟨[.ref a],[]⟩) P E s:=by
 refine xa_ (κ:=kv_) (kd:=oneType') ho (fun v hv=>?_) (fun h2 Q q=>?_) (Cmp.ofOne strKind_oneLt) hz fun st' hp hs=>?_
 ·obtain⟨x,t,rfl⟩:=hS.all v hv
  exact⟨_,rfl⟩
 ·match vs,hS,h2,q with
  | v1::v2::rest,hS,_,q =>
   rw[keyKind_strs hS]
   exact wpAny_pure q
 ·have h1:=jeu_ hs
  rw[hp.size_eq] at h1
  obtain⟨ss',a1,a2,a3⟩:=sorted_out_str hS hp h1
  exact h _ ss' a1 a2 a3
theorem jqg_ (hc:X.calm=true):CallR X (.builtin "sorted") jmq_:=by
 intro pins s σ H xs us Q I r h
 obtain⟨a,ss,kvs,rfl,e,hk,hn,q⟩:=h
 obtain⟨u,rfl,ru⟩:=xc_ r
 cases ru
 refine sh_ kind_sorted plain_sorted entry_sorted (args_sorted1 _) ?_
 unfold Builtin.«sorted»
 refine wpAny_bind (m:=checkCount "sorted" 1 1 _) (wpAny_pure ?_)
 have hl:kvs.length=ss.length:=by rw[<- pb_ (f:=(·.1)),hk,pb_]
 refine wpAny_bind (jhx_ I (A:=X.A.in1) (show X.A.in1.handled=none from I.ok.hd hc) e fun h1 tk acc hkk hal hacc=>?_)
 have hint:∀(j:Nat) v,acc[j]?=some v->∃ n t,ss[j]?=some n/\v=.str n t:=fun j v hv=>by
  obtain⟨p,hp,hr⟩:=hacc j v hv
  have hj:(ss.map (Sum.inr:Str->Key))[j]?=some p.1:=by rw[<- hk,ph_,hp];rfl
  rw[ph_] at hj
  cases hn:ss[j]? with
  | none=>rw[hn] at hj;cases hj
  | some n =>
   rw[hn] at hj
   have hj:(Sum.inr n:Key)=p.1:=by injection hj
   rw[<- hj] at hr
   obtain⟨t,rfl⟩:=(show ∃ t,v=Value.str n t from hr)
   exact⟨n,t,rfl,rfl⟩
 have hSt:StrsAre acc ss:=by
  have h0:=strsAre_map acc fun v hv=>by
   obtain⟨j,hj⟩:=qv_.mp hv
   obtain⟨n,t,_,ev⟩:=hint j v hj
   exact⟨n,t,ev⟩
  have he:acc.map strOf=ss:=by
   apply wt_
   intro j
   rw[ph_]
   cases hv:acc[j]? with
   | none =>
    have:ss[j]?=none:=by
     rw[wl_] at hv ⊢
     omega
    rw[this];rfl
   | some v =>
    obtain⟨n,t,hn,ev⟩:=hint j v hv
    rw[hn,ev];rfl
  rw[he] at h0;exact h0
 have h1m:(1000000:Nat)<=sizeLine:=by decide
 have hszA:acc.length<=sizeLine:=by omega
 have hszB:acc.toArray.size<=sizeLine:=by rw[pi_];exact hszA
 refine wpAny_bind (wpAny_newList ?_ (by first | exact hszA | exact hszB))
 have hoL:(h1.push (seqObj "list" acc.toArray 0)).get? h1.objs.size=some (seqObj "list" acc.toArray 0):=pk_ _ rfl
 show wpAny _ _ _ _ _ { s with heap:=h1.push (seqObj "list" acc.toArray 0),toks:=tk }
 refine wpAny_bind (wpAny_holding (wpAny_call_entry slot_list_sort ⟨_,hoL,rfl⟩ entry_list_sort (jlo_ (s:={ s with heap:=h1.push (seqObj "list" acc.toArray 0),toks:=tk }) hoL hSt hszA fun out ss' a1 a2 a3=>⟨_,rfl,?_⟩) (args_list_sort _)))
 refine wpAny_pure ⟨_,rfl,?_⟩
 obtain⟨ep,he⟩:=sortedHeap_at (out:=out) hoL
 have I1:Inv X pins σ H { s with heap:=h1,toks:=tk }:=I.kept (t':=tk) hkk
 have hol:ss'.length=ss.length:=a2.length_eq
 refine⟨.ref h1.objs.size,_,I1.laid (t':=tk) (fun b o eb=>xh_ eb) (pg_ _) (show ObjOk X.prog X.w _ _ _ (.lst (ss'.map V.str)) from ⟨by rw[pb_];omega,out.toList,ep,u4_ a1,by rw[Array.toArray_toList];exact he⟩),rfl,q _ _ (I1.hok.fresh (pg_ _)) a2 a3⟩
end
@[reducible] def tabKind (ps:List (Addr×Str)):PyProof.Rows.KeyKind:={ kv_ with keyOf:=fun v=>match v with | .ref a=>(ps.lookup a).map (fun x=>x.cps.toList) | _=>none }
theorem jbr_ (f:Bool) (x y:Value):keyLt' (tuples' f) x y=(do
  let xs <- r2_ x
  let ys <- r2_ y
  for ((p,q),i) in (xs.toList.zip ys.toList).zipIdx do
   if !(<- eqBool p q) then return <- oneLt' (f&&i == 0) p q
  return xs.size < ys.size):=rfl
theorem ua_ (v:Value):firstOfTuple' v=(do
  if (<- typeOf v) != .type "tuple" then return none
  return (<- r2_ v)[0]?):=rfl
def vn_ (h:Heap) (ps:List (Addr×Str)):Prop:=∀ a x,(a,x)∈ps->∃(o:Obj) (t:Tok) (v:Value) (n:Nat),h.get? a=some o/\o.cls=.type "tuple"/\o.data=.seq #[.str x t,v] n
theorem va_:∀{ps:List (Addr×Str)} {a:Addr} {x:Str},ps.lookup a=some x->(a,x)∈ps
 | [],a,x,h=>by cases h
 | (b,y)::ps,a,x,h=>by
  rw[qn_] at h
  cases hb:a == b with
  | true =>
   rw[hb] at h
   cases h
   have:a=b:=by simpa using hb
   rw[this];exact po_
  | false =>
   rw[hb] at h
   exact pn_ _ (va_ h)
section
variable {prog:Program} {w:World} {A:Around} {E:Value->Shared->Prop} {s:Shared}
theorem Cmp.tab {ps:List (Addr×Str)} (hT:vn_ s.heap ps) (hn:∀ a b x,(a,x)∈ps->(b,x)∈ps->a=b):Cmp prog w A E s (tuples' true) (tabKind ps).toKeyOrd (okK (tabKind ps)) (keyK (tabKind ps)):=⟨fun{st x y Q} hk hx hy h=>by
 have get:∀ z:Keyed,okK (tabKind ps) z->∃ a u,z.1=.ref a/\(a,u)∈ps/\keyK (tabKind ps) z=(u.cps.toList:List Nat):=fun z ⟨k,hz⟩=>by
  obtain⟨z1,z2⟩:=z
  obtain⟨a,rfl⟩:∃ a,z1=.ref a:=by
   cases z1 <;> first | exact⟨_,rfl⟩ | (simp[tabKind] at hz)
  simp only[tabKind] at hz
  cases hl:ps.lookup a with
  | none=>rw[hl] at hz;cases hz
  | some u =>
   refine⟨a,u,rfl,va_ hl,?_⟩
   unfold keyK
   simp only[tabKind,hl,rr_,ta_]
 obtain⟨a,u,ea,ha,ka⟩:=get x hx
 obtain⟨b,v,eb,hb,kb⟩:=get y hy
 rw[ka,kb] at h
 change Q (some (decide (u.cps.toList < v.cps.toList))) st at h
 obtain⟨oa,ta,va,na,a1,a2,a3⟩:=hT a u ha
 obtain⟨ob,tb,vb,nb,b1,b2,b3⟩:=hT b v hb
 rw[lt'_eq]
 refine wpS_bind (wpS_get ?_)
 rw[hk,ea,eb,jbr_]
 refine wpS_bind (wpS_lift (wpAny_attempt ?_))
 refine wpAny_bind (listItems_at a1 a3 ?_)
 refine wpAny_bind (listItems_at b1 b3 ?_)
 show wpAny _ _ (forIn [((Value.str u ta,Value.str v tb),0),((va,vb),1)] _ _ >>= _) _ _ s
 rw[rd_]
 refine wpAny_bind (wpAny_bind (wpAny_bind (k8_.str_str u ta v tb _ _ _ _ ?_)))
 by_cases huv:u=v
 ·subst huv
  have hab:a=b:=hn a b u ha hb
  subst hab
  rw[a1] at b1
  cases b1
  rw[a3] at b3
  injection b3 with b3 _
  have hvv:va=vb:=by
   have:=congrArg (fun l:Array Value=>l[1]?) b3
   simpa using this
  subst hvv
  have e:(u == u)=true:=by simp
  rw[e]
  simp only[tn_,p0_,if_false]
  refine wpAny_pure ?_
  dsimp only
  rw[rd_]
  refine wpAny_bind (wpAny_bind (k8_.same va _ _ _ _ ?_))
  simp only[tn_,p0_,if_false]
  refine wpAny_pure ?_
  dsimp only
  rw[sq_]
  refine wpAny_pure ?_
  dsimp only
  refine wpAny_pure ⟨rfl,wpS_pure ?_⟩
  have:decide (u.cps.toList < u.cps.toList)=false:=by simpa using List.lt_irrefl u.cps.toList
  rw[this] at h
  exact h
 ·have e:(u == v)=false:=by simpa using huv
  rw[e]
  simp only[Bool.not_false,if_true]
  refine wpAny_bind ?_
  show wpAny _ _ (oneLt' true (.str u ta) (.str v tb)) _ _ s
  refine oneLt_str ?_
  refine wpAny_pure ?_
  dsimp only
  refine wpAny_pure ?_
  dsimp only
  exact wpAny_pure ⟨rfl,wpS_pure h⟩⟩
end
end L2
namespace L2
open PySem PySem.Spec PyProof.Rows
section
variable {prog:Program} {w:World} {A:Around} {E:Value->Shared->Prop} {s:Shared}
theorem xf_ {α β:Type} {M:Model} {f:α->Sem β} {R:α->β->Prop}:∀{l:List α} {Q:List β->Shared->Prop},(∀ x∈l,∀ Q':β->Shared->Prop,(∀ y,R x y->Q' y s)->wpAny M A (f x) Q' E s)->(∀ ys,Paired R l ys->Q ys s)->wpAny M A (l.mapM f) Q E s
 | [],Q,_,h=>by rw[List.mapM_nil];exact wpAny_pure (h [] .nil)
 | x::l,Q,hf,h=>by
  rw[List.mapM_cons]
  refine wpAny_bind (hf x po_ _ fun y hy=>?_)
  refine wpAny_bind (xf_ (fun z hz=>hf z (pn_ _ hz)) fun ys hys=>?_)
  exact wpAny_pure (h _ (.cons hy hys))
theorem jgy_ {ps:List (Addr×Str)} (hT:vn_ s.heap ps) (h1:ps≠[]) {Q:SortKind->Shared->Prop} (q:Q (tuples' true) s):wpAny (model prog w) A (keyKind' (ps.map fun p=>Value.ref p.1).toArray) Q E s:=by
 rw[keyKind'_eq,List.mapM_toArray]
 refine wpAny_bind ?_
 rw[map_eq_pure_bind]
 refine wpAny_bind (xf_ (R:=fun v f=>∃ x t,f=some (Value.str x t)) (fun v hv Q' q'=>?_) fun fs hfs=>wpAny_pure ?_)
 ·obtain⟨p,hp,rfl⟩:=qh_.mp hv
  obtain⟨o,t,v,n,e1,e2,e3⟩:=hT p.1 p.2 hp
  rw[ua_]
  refine wpAny_bind (wpAny_typeOf (T:="tuple") ⟨o,e1,e2⟩ ?_)
  rw[if_neg (by decide)]
  refine wpAny_bind (listItems_at e1 e3 ?_)
  exact wpAny_pure (q' _ ⟨p.2,t,rfl⟩)
 ·obtain⟨ss,hss,hal,hfm⟩:∃ ss:List Str,StrsAre (fs.filterMap id) ss/\(fs.all (·.isSome))=true/\(fs.filterMap id).length=fs.length:=by
   clear q
   have hl:fs.length=fs.length:=rfl
   generalize (ps.map fun p=>Value.ref p.1)=vs at hfs
   induction hfs with
   | nil=>exact⟨[],.nil,rfl,rfl⟩
   | @cons v f vs fs hr t ih =>
    obtain⟨ss,i1,i2,i3⟩:=ih rfl
    obtain⟨x,t,rfl⟩:=hr
    exact⟨x::ss,by rw[qj_];exact .cons x t i1,by rw[List.all_cons,i2];rfl,by rw[qj_];simp[i3]⟩
  have hlen:fs.length=ps.length:=by
   have:=t4_ hfs
   rw[pb_] at this;exact this.symm
  rw[if_pos (by rw[List.all_toArray];exact hal)]
  refine wpAny_bind (wpAny_rule ?_)
  have hft:(fs.toArray.filterMap id)=(fs.filterMap id).toArray:=by simp
  rw[hft,oneTypeOnly'_eq,List.mapM_toArray,mapM_typeOf_strs hss]
  simp only[map_pure,pure_bind]
  have hall:((List.map (fun _=>Value.type "str") (fs.filterMap id)).toArray.all fun x=>x == Value.type "str")=true:=by
   simp only[List.all_toArray,List.all_map,tx_]
   intro _ _
   rfl
  have hpos:0 < (fs.filterMap id).length:=by rw[hfm,hlen];exact ro_.mpr h1
  have h0:(List.map (fun _=>Value.type "str") (fs.filterMap id)).toArray[0]?=some (Value.type "str"):=by
   cases hfl:fs.filterMap id with
   | nil=>rw[hfl] at hpos;simp at hpos
   | cons a r=>simp
  rw[h0]
  simp only[hall,if_true,pure_bind]
  exact wpAny_pure q
theorem jrg_ {h:Heap} {ps:List (Addr×Str)} (hT:vn_ h ps) {a:Addr} {x y:Str} (hx:(a,x)∈ps) (hy:(a,y)∈ps):x=y:=by
 obtain⟨o,t,v,n,e1,_,e3⟩:=hT a x hx
 obtain⟨o',t',v',n',f1,_,f3⟩:=hT a y hy
 rw[e1] at f1
 cases f1
 rw[e3] at f3
 injection f3 with f3 _
 have:=congrArg (fun l:Array Value=>l[0]?) f3
 simp at this
 exact this.1
theorem jcw_:∀{ps:List (Addr×Str)} {a:Addr} {x:Str},(a,x)∈ps->∃ y,ps.lookup a=some y
 | [],_,_,h=>by cases h
 | (b,y)::ps,a,x,h=>by
  rw[qn_]
  cases hb:a == b with
  | true=>exact⟨y,rfl⟩
  | false =>
   rcases pt_.mp h with e | h'
   ·cases e;simp at hb
   ·exact jcw_ h'
theorem vs_ {h:Heap} {ps:List (Addr×Str)} (hT:vn_ h ps) {a:Addr} {x:Str} (hx:(a,x)∈ps):ps.lookup a=some x:=by
 obtain⟨y,hy⟩:=jcw_ hx
 rw[hy,jrg_ hT hx (va_ hy)]
theorem jfp_ {ps:List (Addr×Str)} (hx:(ps.map (·.2)).Nodup):∀ a b x,(a,x)∈ps->(b,x)∈ps->a=b:=by
 intro a b x ha hb
 obtain⟨i,hi,ei⟩:=qp_ ha
 obtain⟨j,hj,ej⟩:=qp_ hb
 have h1:(ps.map (·.2))[i]?=some x:=by rw[ph_,pc_ hi,ei];rfl
 have h2:(ps.map (·.2))[j]?=some x:=by rw[ph_,pc_ hj,ej];rfl
 have hij:i=j:=(List.getElem?_inj (by rw[pb_];exact hi) hx).mp (h1.trans h2.symm)
 subst hij
 rw[ei] at ej
 exact congrArg Prod.fst ej
theorem jgc_ {a:Addr} {ps:List (Addr×Str)} {n:Nat} {P:PySem.Fin->Shared->Prop} (ho:s.heap.get? a=some (seqObj "list" (ps.map fun p=>Value.ref p.1).toArray n)) (hT:vn_ s.heap ps) (hx:(ps.map (·.2)).Nodup) (hz:ps.length<=sizeLine)
  (h:∀ qs:List (Addr×Str),qs.Perm ps->sortedS (qs.map (·.2))=true->P (.done (.ret .none)) { s with heap:=sortedHeap s.heap a (ps.map fun p=>Value.ref p.1) (qs.map fun p=>Value.ref p.1).toArray }):wpAny (model prog w) A (Builtin.«list.sort» ⟨[.ref a],[]⟩) P E s:=by
 have hTs:vn_ (j6_ s.heap a (ps.map fun p=>Value.ref p.1)) ps:=fun b x hb=>by
  obtain⟨o,t,v,m,e1,e2,e3⟩:=hT b x hb
  have hne:b≠a:=fun z=>by
   rw[z,ho] at e1
   cases e1
   simp at e2
  refine⟨o,t,v,m,?_,e2,e3⟩
  unfold j6_
  exact pa_ _ (pa_ _ ((r1_ _ _ (wx_ hne)).trans e1))
 refine xa_ (κ:=tabKind ps) (kd:=tuples' true) ho (fun v hv=>?_) (fun h2 Q q=>?_) (Cmp.tab hTs (jfp_ hx)) (by rw[pb_];exact hz) fun st' hp hs=>?_
 ·obtain⟨p,hp,rfl⟩:=qh_.mp hv
  exact⟨p.2.cps.toList,by simp only[tabKind,vs_ hT hp,rr_]⟩
 ·exact jgy_ (s:={ s with heap:=j6_ s.heap a (ps.map fun p=>Value.ref p.1) }) hTs (fun z=>by rw[z] at h2;simp at h2) q
 ·have hl:(arrOf st').toList.Perm ((ps.map fun p=>Value.ref p.1).zip (ps.map fun p=>Value.ref p.1)):=by rw[<- pairsOf_toList];exact r4_.mp hp
  obtain⟨F,hF⟩:∃ F:Keyed->Addr×Str,F=fun z=>match z.1 with
   | .ref a=>(a,(ps.lookup a).getD ⟨#[]⟩)
   | _=>(0,⟨#[]⟩):=⟨_,rfl⟩
  have hFp:∀ p∈ps,F (.ref p.1,.ref p.1)=p:=fun p hp=>by rw[hF];simp only[vs_ hT hp,ta_]
  have hmem:∀ z∈(arrOf st').toList,∃ p∈ps,z=(.ref p.1,.ref p.1):=fun z hz=>by
   have h1:=mem_zip_self (hl.mem_iff.mp hz)
   obtain⟨p,hp,e⟩:=qh_.mp h1.2
   exact⟨p,hp,Prod.ext e.symm (h1.1▸e.symm)⟩
  have hperm:((arrOf st').toList.map F).Perm ps:=by
   have h1:=hl.map F
   have e:((ps.map fun p=>Value.ref p.1).zip (ps.map fun p=>Value.ref p.1)).map F=ps:=by
    rw[List.zip_map',qc_]
    conv=>rhs;rw[<- k3_ ps]
    exact qo_ fun p hp=>hFp p hp
   rw[e] at h1;exact h1
  have hout:(arrOf st').map (·.2)=(((arrOf st').toList.map F).map fun p=>Value.ref p.1).toArray:=by
   apply Array.toList_inj.mp
   rw[Array.toList_map,qc_]
   refine qo_ fun z hz=>?_
   obtain⟨p,hp,rfl⟩:=hmem z hz
   simp only[w6_,hFp p hp]
  rw[hout]
  refine h _ hperm (sortedS_of_pairwise _ ?_)
  rw[rp_,rp_]
  refine ww_ (fun{x y} hx hy hxy=>?_) hs
  obtain⟨p,hp,rfl⟩:=hmem x hx
  obtain⟨q,hq,rfl⟩:=hmem y hy
  rw[hFp p hp,hFp q hq,ltCps_eq]
  have e1:keyK (tabKind ps) (.ref p.1,.ref p.1)=(p.2.cps.toList:List Nat):=by unfold keyK;simp only[tabKind,vs_ hT hp,rr_,ta_]
  have e2:keyK (tabKind ps) (.ref q.1,.ref q.1)=(q.2.cps.toList:List Nat):=by unfold keyK;simp only[tabKind,vs_ hT hq,rr_,ta_]
  rw[e1,e2] at hxy
  exact hxy
end
section
variable {X:Cx}
def jmp_:List V->Hp->VK->Prop:=fun xs H Q=>∃(l:Addr) (ps:List (Addr×Str)),xs=[.ref l]/\H l=some (.lst (ps.map fun p=>V.ref p.1))/\(∀ p∈ps,∃ v,H p.1=some (.tup [.str p.2,v]))/\(ps.map (·.2)).Nodup/\ps.length<=1000000 /\
 ∀(q:Addr) (qs:List (Addr×Str)),H q=none->qs.Perm ps->sortedS (qs.map (·.2))=true->Q (.ref q) (upd H q (.lst (qs.map fun p=>V.ref p.1)))
theorem jrx_ {H:Hp} {Q:VK} {l:Addr} {ps:List (Addr×Str)} (h1:H l=some (.lst (ps.map fun p=>V.ref p.1))) (h2:∀ p∈ps,∃ v,H p.1=some (.tup [.str p.2,v])) (h3:(ps.map (·.2)).Nodup) (h4:ps.length<=1000000) (h:∀(q:Addr) (qs:List (Addr×Str)),H q=none->qs.Perm ps->sortedS (qs.map (·.2))=true->Q (.ref q) (upd H q (.lst (qs.map fun p=>V.ref p.1)))):jmp_ [.ref l] H Q:=⟨l,ps,rfl,h1,h2,h3,h4,h⟩
theorem jgn_ {P:Program} {w:World} {H:Hp} {h:Heap} (ok:HOk P w H h) {ps:List (Addr×Str)} (h2:∀ p∈ps,∃ v,H p.1=some (.tup [.str p.2,v])):vn_ h ps:=fun a x hx=>by
 obtain⟨v,e⟩:=h2 (a,x) hx
 obtain⟨_,its,rv,o,e1,e2,n,e3⟩:=ok a _ e
 cases rv with
 | cons r1 rr =>
  cases rr with
  | cons r2 rr =>
   cases rr
   obtain⟨t,rfl⟩:=r1
   exact⟨o,t,_,n,e1,e2,e3⟩
theorem v7_:∀(as:List (Addr×Str)),Vals (as.map fun p=>V.ref p.1) (as.map fun p=>Value.ref p.1)
 | []=>.nil
 | p::as=>.cons rfl (v7_ as)
theorem jrv_ (hc:X.calm=true):CallR X (.builtin "sorted") jmp_:=by
 intro pins s σ H xs us Q I r h
 obtain⟨l,ps,rfl,e,h2,h3,h4,q⟩:=h
 obtain⟨u,rfl,ru⟩:=xc_ r
 cases ru
 have hT:=jgn_ I.hok h2
 obtain⟨its,rv,pl,hz⟩:=I.list (SqL.of (K:=X.K) e)
 have hits:its=ps.map fun p=>Value.ref p.1:=by
  have:∀(l:List (Addr×Str)) (us:List Value),Vals (l.map fun p=>V.ref p.1) us->us=l.map fun p=>Value.ref p.1:=by
   intro l
   induction l with
   | nil=>intro us r;cases r;rfl
   | cons p l ih =>
    intro us r
    rw[pf_] at r
    cases r with
    | cons r1 rr=>rw[ih _ rr,pf_,show _=Value.ref p.1 from r1]
  exact this ps its rv
 subst hits
 refine sh_ kind_sorted plain_sorted entry_sorted (args_sorted1 _) ?_
 unfold Builtin.«sorted»
 refine wpAny_bind (m:=checkCount "sorted" 1 1 _) (wpAny_pure ?_)
 have h1m:(1000000:Nat)<=sizeLine:=by decide
 have hszA:(ps.map fun p=>Value.ref p.1).length<=sizeLine:=by rw[pb_];omega
 have hszB:(ps.map fun p=>Value.ref p.1).toArray.size<=sizeLine:=by rw[pi_];exact hszA
 refine wpAny_bind (collect_list pl.isList ?_ hszA)
 refine wpAny_bind (wpAny_newList ?_ (by first | exact hszA | exact hszB))
 obtain⟨h1,hh1⟩:∃ h1,h1=(s.heap.push (seqObj "list" #[] 0)).update s.heap.objs.size (s2_ (·++(ps.map fun p=>Value.ref p.1).toArray)):=⟨_,rfl⟩
 have hkk:∀ b o,s.heap.get? b=some o->h1.get? b=some o:=fun b o eb=>by
  rw[hh1]
  exact(r1_ _ _ (wx_ (p7_ (pm_ eb)))).trans (pa_ _ eb)
 have hoL:(h1.push (seqObj "list" (ps.map fun p=>Value.ref p.1).toArray 0)).get? h1.objs.size=some (seqObj "list" (ps.map fun p=>Value.ref p.1).toArray 0):=pk_ _ rfl
 rw[<- hh1]
 show wpAny _ _ _ _ _ { s with heap:=h1.push (seqObj "list" (ps.map fun p=>Value.ref p.1).toArray 0) }
 have hT1:vn_ (h1.push (seqObj "list" (ps.map fun p=>Value.ref p.1).toArray 0)) ps:=fun b x hb=>by
  obtain⟨o,t,v,m,e1,e2,e3⟩:=hT b x hb
  exact⟨o,t,v,m,pa_ _ (hkk _ _ e1),e2,e3⟩
 refine wpAny_bind (wpAny_holding (wpAny_call_entry slot_list_sort ⟨_,hoL,rfl⟩ entry_list_sort (jgc_ (s:={ s with heap:=h1.push (seqObj "list" (ps.map fun p=>Value.ref p.1).toArray 0) }) hoL hT1 h3 (by omega) fun qs a1 a2=>⟨_,rfl,?_⟩) (args_list_sort _)))
 refine wpAny_pure ⟨_,rfl,?_⟩
 obtain⟨ep,he⟩:=sortedHeap_at (out:=(qs.map fun p=>Value.ref p.1).toArray) hoL
 have I1:Inv X pins σ H { s with heap:=h1,toks:=s.toks }:=I.kept (t':=s.toks) hkk
 have hol:qs.length=ps.length:=a1.length_eq
 refine⟨.ref h1.objs.size,_,I1.laid (t':=s.toks) (fun b o eb=>xh_ eb) (pg_ _) (show ObjOk X.prog X.w _ _ _ (.lst (qs.map fun p=>V.ref p.1)) from ⟨by rw[pb_];omega,qs.map fun p=>Value.ref p.1,ep,v7_ qs,he⟩),rfl,q _ _ (I1.hok.fresh (pg_ _)) a1 a2⟩
end
end L2
namespace L2
open PySem PySem.Spec PyProof.Rows
section
variable {X:Cx}
theorem Inv.tups {pins:List (Addr×Obj)} {σ:St} {H2:Hp} {s2:Shared} {h3:Heap} {tk:Nat} {Ts:List Addr} {xs ys:List V} (I2:Inv X pins σ H2 s2) (kk:∀ b o,s2.heap.get? b=some o->h3.get? b=some o)
  (hTj:∀(j:Nat) T,Ts[j]?=some T->∃ u v x y,xs[j]?=some u/\ys[j]?=some v/\RelV u x/\RelV v y/\IsPair h3 T x y/\s2.heap.objs.size<=T) :
  ∃ H3:Hp,Inv X pins σ H3 { s2 with heap:=h3,toks:=tk }/\(∀(j:Nat) T,Ts[j]?=some T->∃ u v,xs[j]?=some u/\ys[j]?=some v/\H3 T=some (.tup [u,v]))/\Same H2 H3:=by
 have hTn:∀ T∈Ts,H2 T=none:=fun T hm=>by
  obtain⟨j,hj⟩:=qv_.mp hm
  obtain⟨_,_,_,_,_,_,_,_,_,g⟩:=hTj j T hj
  exact I2.hok.fresh g
 obtain⟨H3,hH⟩:∃ H3:Hp,H3=fun b=>match (p3_ Ts.length).find? (fun j=>decide (Ts[j]?=some b)) with
   | some j=>some (.tup [xs.getD j .non,ys.getD j .non])
   | none=>H2 b:=⟨_,rfl⟩
 have h3o:∀ b,b∉Ts->H3 b=H2 b:=fun b hm=>by
  rw[hH]
  have:(p3_ Ts.length).find? (fun j=>decide (Ts[j]?=some b))=none:=by
   rw[sv_]
   intro j _ hc
   exact hm (rb_ (of_decide_eq_true hc))
  simp only[this]
 have h3T:∀ T∈Ts,∃ j,Ts[j]?=some T/\H3 T=some (.tup [xs.getD j .non,ys.getD j .non]):=fun T hm=>by
  cases hf:(p3_ Ts.length).find? (fun j=>decide (Ts[j]?=some T)) with
  | none =>
   obtain⟨j,hj,hjT⟩:=kt_.mp hm
   have:=sv_.mp hf j (p4_.mpr hj)
   exact absurd (decide_eq_true (by rw[pc_ hj,hjT])) this
  | some j =>
   have hd:=tm_ hf
   refine⟨j,of_decide_eq_true hd,?_⟩
   rw[hH]
   simp only[hf]
 have same:Same H2 H3:=fun b o e=>by
  rw[h3o b (fun m=>by rw[hTn b m] at e;cases e)]
  exact e
 have I3:Inv X pins σ H3 { s2 with heap:=h3,toks:=tk }:=by
  refine I2.laidAll kk same (fun b hb hn=>?_) fun b o e hn=>?_
  ·rw[h3o b (fun m=>?_)]
   ·exact hn
   ·obtain⟨j,hj⟩:=qv_.mp m
    obtain⟨_,_,_,_,_,_,_,_,_,g⟩:=hTj j b hj
    exact absurd hb (Nat.not_lt_of_le g)
  ·by_cases hm:b∈Ts
   ·obtain⟨j,hj,e'⟩:=h3T b hm
    rw[e'] at e
    cases e
    obtain⟨u,v,x,y,g1,g2,r1,r2,g3,_⟩:=hTj j b hj
    have d1:xs.getD j .non=u:=by rw[pe_,g1];rfl
    have d2:ys.getD j .non=v:=by rw[pe_,g2];rfl
    rw[d1,d2]
    exact⟨by show 2<=sizeLine;decide,[x,y],.cons r1 (.cons r2 .nil),⟨_,g3,rfl,_,rfl⟩⟩
   ·rw[h3o b hm,hn] at e
    cases e
 refine⟨H3,I3,fun j T e=>?_,same⟩
 obtain⟨j',hj',e'⟩:=h3T T (rb_ e)
 obtain⟨u,v,x,y,g1,g2,r1,r2,g3,_⟩:=hTj j T e
 obtain⟨u',v',x',y',g1',g2',r1',r2',g3',_⟩:=hTj j' T hj'
 have hxy:x=x'/\y=y':=by
  have e3:some _=some _:=g3.symm.trans g3'
  have e4:=congrArg (fun o:Option Obj=>o.map fun o=>o.data) e3
  simp only[rr_,lc_,Data.seq.injEq] at e4
  have e5:=congrArg le_ e4.1
  simp only[wb_,and_true] at e5
  exact e5
 obtain⟨rfl,rfl⟩:=hxy
 have hu:=jev_ r1 r1'
 have hv:=jev_ r2 r2'
 subst hu hv
 refine⟨u,v,g1,g2,?_⟩
 rw[e',pe_,g1',pe_,g2']
 rfl
def joa_:List V->Hp->VK->Prop:=fun xs H Q=>∃(v d:Addr) (kvs:List (Key×V)) (ss:List Str),xs=[.ref v]/\H v=some (VW v d)/\H d=some (.dK kvs)/\kvs.map (·.1)=ss.map Sum.inr/\ss.Nodup/\kvs.length<=1000000 /\
 ∀(q:Addr) (ts:List Addr) (qs:List (Addr×Str)) (H':Hp),Same H H'->H' q=none->ts.length=kvs.length->(∀(j:Nat) (t:Addr),ts[j]?=some t->∃ kv:Key×V,kvs[j]?=some kv/\H' t=some (.tup [kV kv.1,kv.2]))->qs.Perm (ts.zip ss)->sortedS (qs.map (·.2))=true->Q (.ref q) (upd H' q (.lst (qs.map fun p=>V.ref p.1)))
theorem jrz_ {H:Hp} {Q:VK} {v d:Addr} {kvs:List (Key×V)} {ss:List Str} (h1:H v=some (VW v d)) (h2:H d=some (.dK kvs)) (h3:kvs.map (·.1)=ss.map Sum.inr) (h4:ss.Nodup) (h5:kvs.length<=1000000)
  (h:∀(q:Addr) (ts:List Addr) (qs:List (Addr×Str)) (H':Hp),Same H H'->H' q=none->ts.length=kvs.length->(∀(j:Nat) (t:Addr),ts[j]?=some t->∃ kv:Key×V,kvs[j]?=some kv/\H' t=some (.tup [kV kv.1,kv.2]))->qs.Perm (ts.zip ss)->sortedS (qs.map (·.2))=true->Q (.ref q) (upd H' q (.lst (qs.map fun p=>V.ref p.1)))):joa_ [.ref v] H Q:=⟨v,d,kvs,ss,rfl,h1,h2,h3,h4,h5,h⟩
theorem jqp_ (hc:X.calm=true):CallR X (.builtin "sorted") joa_:=by
 intro pins s σ H xs us Q I r h
 obtain⟨v,d,kvs,ss,rfl,ev,e,hks,hnd,h4,q⟩:=h
 obtain⟨u,rfl,ru⟩:=xc_ r
 cases ru
 have vw:s.heap.IsItemsView v d:=(I.hok v _ ev).1
 obtain⟨z,hd,vs,rel,dd⟩:=jgm_ I.hok e
 obtain⟨ep0,hat⟩:=dd.dictAt
 have hk:=KV.key rel
 have hl:vs.length=kvs.length:=by rw[<- pb_ (f:=(·.1)),hk,pb_]
 have hsl:ss.length=kvs.length:=by have:=congrArg k0_ hks;rw[pb_,pb_] at this;exact this.symm
 refine sh_ kind_sorted plain_sorted entry_sorted (args_sorted1 _) ?_
 unfold Builtin.«sorted»
 refine wpAny_bind (m:=checkCount "sorted" 1 1 _) (wpAny_pure ?_)
 have h1m:(1000000:Nat)<=sizeLine:=by decide
 refine wpAny_bind (PySem.W.kdx_collect (knd:=jx_ X.prog X.w) (I.ok.hd hc) vw hat (by rw[hl];exact z) fun h1 tk as hkk hal hG=>?_)
 have hall:as.length=kvs.length:=by rw[hal,hl]
 obtain⟨H1,I1,hT1,sH⟩:=I.tups (tk:=tk) (Ts:=as) (xs:=kvs.map fun kv=>kV kv.1) (ys:=kvs.map fun kv=>kv.2) hkk fun j T hT=>by
  obtain⟨key,k,x,e1,e2,e3⟩:=hG.pairs j T hT
  obtain⟨kv,b1,b2,b3⟩:=KV.valD rel e1
  refine⟨kV kv.1,kv.2,key,x,by rw[ph_,b1];rfl,by rw[ph_,b1];rfl,?_,b3,e3,si_ (hG.above T (rb_ hT))⟩
  rw[b2]
  rcases j4_ (show ug_ k key=true from e2) with ⟨i,t,rfl,rfl⟩ | ⟨y,t,rfl,rfl⟩
  ·exact⟨t,rfl⟩
  ·exact⟨t,rfl⟩
 have hT1':∀(j:Nat) (t:Addr),as[j]?=some t->∃ kv:Key×V,kvs[j]?=some kv/\H1 t=some (.tup [kV kv.1,kv.2]):=fun j t ht=>by
  obtain⟨u,v',c1,c2,c3⟩:=hT1 j t ht
  rw[ph_] at c1 c2
  cases hkv:kvs[j]? with
  | none=>rw[hkv] at c1;cases c1
  | some kv =>
   rw[hkv] at c1 c2
   cases c1;cases c2
   exact⟨kv,rfl,c3⟩
 obtain⟨ps,hps⟩:∃ ps:List (Addr×Str),ps=as.zip ss:=⟨_,rfl⟩
 have hp1:ps.map (·.1)=as:=by rw[hps,List.map_fst_zip (by omega)]
 have hp2:ps.map (·.2)=ss:=by rw[hps,List.map_snd_zip (by omega)]
 have hpl:ps.length=kvs.length:=by rw[<- hall,<- hp1,pb_]
 have has:as.map Value.ref=ps.map fun p=>Value.ref p.1:=by rw[<- hp1,qc_];rfl
 rw[has]
 have h2:∀ p∈ps,∃ v,H1 p.1=some (.tup [.str p.2,v]):=fun p hp=>by
  obtain⟨j,hj⟩:=qv_.mp hp
  have ha:as[j]?=some p.1:=by rw[<- hp1,ph_,hj];rfl
  have hs:ss[j]?=some p.2:=by rw[<- hp2,ph_,hj];rfl
  obtain⟨kv,c1,c2⟩:=hT1' j p.1 ha
  have:kv.1=Sum.inr p.2:=by
   have h0:(kvs.map (·.1))[j]?=(ss.map Sum.inr)[j]?:=by rw[hks]
   rw[ph_,ph_,c1,hs] at h0
   simpa using h0
  rw[this] at c2
  exact⟨_,c2⟩
 have hT:=jgn_ I1.hok h2
 have hszA:(ps.map fun p=>Value.ref p.1).length<=sizeLine:=by rw[pb_];omega
 have hszB:(ps.map fun p=>Value.ref p.1).toArray.size<=sizeLine:=by rw[pi_];exact hszA
 refine wpAny_bind (wpAny_newList ?_ (by first | exact hszA | exact hszB))
 have hoL:(h1.push (seqObj "list" (ps.map fun p=>Value.ref p.1).toArray 0)).get? h1.objs.size=some (seqObj "list" (ps.map fun p=>Value.ref p.1).toArray 0):=pk_ _ rfl
 show wpAny _ _ _ _ _ { s with heap:=h1.push (seqObj "list" (ps.map fun p=>Value.ref p.1).toArray 0),toks:=tk }
 have hT1:vn_ (h1.push (seqObj "list" (ps.map fun p=>Value.ref p.1).toArray 0)) ps:=fun b x hb=>by
  obtain⟨o,t,v,m,e1,e2,e3⟩:=hT b x hb
  exact⟨o,t,v,m,pa_ _ e1,e2,e3⟩
 refine wpAny_bind (wpAny_holding (wpAny_call_entry slot_list_sort ⟨_,hoL,rfl⟩ entry_list_sort (jgc_ (s:={ s with heap:=h1.push (seqObj "list" (ps.map fun p=>Value.ref p.1).toArray 0),toks:=tk }) hoL hT1 (by rw[hp2];exact hnd) (by omega) fun qs a1 a2=>⟨_,rfl,?_⟩) (args_list_sort _)))
 refine wpAny_pure ⟨_,rfl,?_⟩
 obtain⟨ep,he⟩:=sortedHeap_at (out:=(qs.map fun p=>Value.ref p.1).toArray) hoL
 have hol:qs.length=ps.length:=a1.length_eq
 refine⟨.ref h1.objs.size,_,I1.laid (t':=tk) (fun b o eb=>xh_ eb) (pg_ _) (show ObjOk X.prog X.w _ _ _ (.lst (qs.map fun p=>V.ref p.1)) from ⟨by rw[pb_];omega,qs.map fun p=>Value.ref p.1,ep,v7_ qs,he⟩),rfl,q _ as _ H1 sH (I1.hok.fresh (pg_ _)) hall hT1' (by rw[<- hps];exact a1) a2⟩
end
end L2
namespace L2
open PySem PySem.Spec PyProof.Rows
theorem jfy_ {α:Type} {le:α->α->Prop} (anti:∀ a b,le a b->le b a->a=b):∀{l1 l2:List α},l1.Perm l2->l1.Pairwise le->l2.Pairwise le->l1=l2
 | [],l2,hp,_,_=>(q7_.nil_eq hp)
 | a::r,[],hp,_,_=>by have:=hp.length_eq;simp at this
 | a::r,b::t,hp,h1,h2=>by
  have ha:a∈b::t:=hp.subset po_
  have hb:b∈a::r:=hp.symm.subset po_
  have e:a=b:=by
   rcases pt_.mp ha with e | ha
   ·exact e
   ·rcases pt_.mp hb with e | hb
    ·exact e.symm
    ·exact anti a b (s9_ h1 hb) (s9_ h2 ha)
  subst e
  rw[jfy_ anti (q7_.cons_inv hp) (wi_.mp h1).2 (wi_.mp h2).2]
theorem jau_:∀ a:List Nat,ltCps a a=false
 | []=>rfl
 | a::r=>by simp[ltCps,jau_ r]
def leC (a b:List Nat):Prop:=ltCps b a=false
theorem jdh_:∀{a b c:List Nat},leC a b->leC b c->leC a c
 | [],_,c,_,_=>by unfold leC;cases c <;> rfl
 | x::a,[],c,h,_=>by unfold leC at h;simp[ltCps] at h
 | x::a,y::b,[],_,h=>by unfold leC at h;simp[ltCps] at h
 | x::a,y::b,z::c,h1,h2=>by
  unfold leC at h1 h2 ⊢
  simp only[ltCps,t3_,decide_eq_false_iff_not,ko_,beq_eq_false_iff_ne,ne_eq] at h1 h2 ⊢
  obtain⟨a1,a2⟩:=h1
  obtain⟨b1,b2⟩:=h2
  refine⟨by omega,?_⟩
  by_cases e:z=x
  ·right
   have e1:y=x:=by omega
   have e2:z=y:=by omega
   exact jdh_ (a2.resolve_left (by simpa using e1)) (b2.resolve_left (by simpa using e2))
  ·exact .inl e
theorem jew_:∀{a b:List Nat},leC a b->leC b a->a=b
 | [],[],_,_=>rfl
 | [],y::b,_,h=>by unfold leC at h;simp[ltCps] at h
 | x::a,[],h,_=>by unfold leC at h;simp[ltCps] at h
 | x::a,y::b,h1,h2=>by
  unfold leC at h1 h2
  simp only[ltCps,t3_,decide_eq_false_iff_not,ko_,beq_eq_false_iff_ne,ne_eq] at h1 h2
  obtain⟨a1,a2⟩:=h1
  obtain⟨b1,b2⟩:=h2
  have e:x=y:=by omega
  subst e
  rw[jew_ (a2.resolve_left (by simp)) (b2.resolve_left (by simp))]
theorem jda_:∀{p:Str} {l:List Str},risingS p l=true->(p::l).Pairwise fun a b=>leC a.cps.toList b.cps.toList
 | p,[],_=>by simp
 | p,x::r,h=>by
  simp only[risingS,qr_,wq_] at h
  have ih:=jda_ h.2
  refine wi_.mpr ⟨fun y hy=>?_,ih⟩
  rcases pt_.mp hy with rfl | hy
  ·exact h.1
  ·exact jdh_ (show leC p.cps.toList x.cps.toList from h.1) (s9_ ih hy)
theorem x3_ {l:List Str} (h:sortedS l=true):l.Pairwise fun a b=>leC a.cps.toList b.cps.toList:=by
 cases l with
 | nil=>exact rx_.nil
 | cons x r=>exact jda_ h
theorem jgg_ {a b c:List Str} (h1:a.Perm c) (h2:b.Perm c) (s1:sortedS a=true) (s2:sortedS b=true):a=b :=
 jfy_ (fun x y p q=>by
  have:=jew_ p q
  obtain⟨⟨x⟩⟩:=x
  obtain⟨⟨y⟩⟩:=y
  simp only at this
  rw[this]) (h1.trans h2.symm) (x3_ s1) (x3_ s2)
end L2
namespace L2
open PySem
open Sem (wp)
abbrev zt1 (h:Heap) (l1:Addr):Heap:=h.push { cls:=.type "tuple_iterator",data:=.fields #[.ref l1,.int 0 0] }
abbrev zt2 (h:Heap) (l1 l:Addr):Heap:=(zt1 h l1).push { cls:=.type "tuple_iterator",data:=.fields #[.ref l,.int 0 0] }
abbrev zt3 (h:Heap) (l1 l:Addr):Heap:=(zt2 h l1 l).push { cls:=.type "tuple",data:=.seq #[.ref h.objs.size,.ref (zt1 h l1).objs.size] }
abbrev zt4 (h:Heap) (l1 l:Addr):Heap:=(zt3 h l1 l).push { cls:=.type "tuple",data:=.seq #[.none,.none] }
abbrev zt5 (h:Heap) (l1 l:Addr):Heap:=(zt4 h l1 l).push { cls:=.type "zip",data:=.fields #[.none,.bool false,.bool false,.ref (zt2 h l1 l).objs.size,.ref (zt3 h l1 l).objs.size] }
set_option maxHeartbeats 4000000 in
theorem jlv_ (l1 l:Addr) (xs ys:Array Value) :
  Meets (Builtin.«zip.__new__» ⟨[.type "zip",.ref l1,.ref l],[]⟩) (fun _ R s=>s.heap.IsTuple l1 xs/\s.heap.IsTuple l ys /\
   R (.ok (.ret (.ref (zt4 s.heap l1 l).objs.size))) { s with heap:=zt5 s.heap l1 l }) :=
 .of_wp fun prog w A R s h=>by
  obtain⟨hp,g,d,tk,os⟩:=s;obtain⟨hl1,hl,h⟩:=h
  have hsub:=sub_zip
  have hL:lh_ (w1_ ⟨hp.push { cls:=.type "tuple_iterator",data:=.fields #[.ref l1,.int 0 0] },g,d,tk,os⟩) l ys:=jek_ hl _
  wp_walk using wpAny_pyIter_tuple hl1,wpAny_pyIter_tuple hL
  exact⟨_,rfl,h⟩
section
variable {prog:Program} {w:World} {A:Around} {E:Value->Shared->Prop} {s:Shared}
theorem jhr_ {l1 l:Addr} {xs ys:Array Value} {Q:Value->Shared->Prop} (hl1:s.heap.IsTuple l1 xs) (hl:s.heap.IsTuple l ys)
  (h:∀ h',IsZip h' (s.heap.objs.size+4) (s.heap.objs.size+2) (s.heap.objs.size+3) .none->IsPair h' (s.heap.objs.size+2) (.ref s.heap.objs.size) (.ref (s.heap.objs.size+1)) ->
   IsPair h' (s.heap.objs.size+3) .none .none->h'.IsTupleIter s.heap.objs.size l1 0->h'.IsTupleIter (s.heap.objs.size+1) l 0 ->
   (∀ c o,s.heap.get? c=some o->h'.get? c=some o)->Q (.ref (s.heap.objs.size+4)) { s with heap:=h' }) :
  wpAny (model prog w) A (call (.type "zip") [.ref l1,.ref l]) Q E s:=by
 refine callType_new F.called_zip (by decide) (F.typeCall_zip_2 _ _) (F.newCall_zip_2 _ _) (fun obj=>F.args_object_init_3 obj _ _) F.entry_zip_new (jlv_ l1 l xs ys) ⟨hl1,hl,?_⟩
 have z1:(zt1 s.heap l1).objs.size=s.heap.objs.size+1:=q9_ ..
 have z2:(zt2 s.heap l1 l).objs.size=s.heap.objs.size+2:=by rw[q9_,z1]
 have z3:(zt3 s.heap l1 l).objs.size=s.heap.objs.size+3:=by rw[q9_,z2]
 have z4:(zt4 s.heap l1 l).objs.size=s.heap.objs.size+4:=by rw[q9_,z3]
 have p5:(zt5 s.heap l1 l).get? (zt4 s.heap l1 l).objs.size=some _:=pk_ _ rfl
 have p4:(zt5 s.heap l1 l).get? (zt3 s.heap l1 l).objs.size=some _:=pa_ _ (pk_ _ rfl)
 have p3:(zt5 s.heap l1 l).get? (zt2 s.heap l1 l).objs.size=some _:=pa_ _ (pa_ _ (pk_ _ rfl))
 have p2:(zt5 s.heap l1 l).get? (zt1 s.heap l1).objs.size=some _:=pa_ _ (pa_ _ (pa_ _ (pk_ _ rfl)))
 have p1:(zt5 s.heap l1 l).get? s.heap.objs.size=some _:=pa_ _ (pa_ _ (pa_ _ (pa_ _ (pk_ _ rfl))))
 show _/\_
 rw[z2,z3,z4] at p5
 rw[z1,z2] at p3
 rw[z3] at p4
 rw[z1] at p2
 rw[z4]
 exact⟨⟨_,p5,rfl⟩,h _ p5 p3 p4 ⟨_,p1,rfl,rfl⟩ ⟨_,p2,rfl,rfl⟩ fun c o e=>pa_ _ (pa_ _ (pa_ _ (pa_ _ (pa_ _ e))))⟩
end
open PySem.Spec PyProof.Rows
section
variable {X:Cx}
def jff_ (R:It->Hp->Prop):V->V->Hp->Prop:=fun x y H1=>match x,y with
 | .ref b,.ref a=>∃ xs ys,H1 b=some (.tup xs)/\H1 a=some (.tup ys)/\R (Izp xs ys fun H=>H b=some (.tup xs)/\H a=some (.tup ys)) H1
 | _,_=>False
def jsp_ (ta tb:TE):TI:=fun σ H R=>ta σ H fun x H1=>tb σ H1 fun y H2=>jff_ R x y H2
theorem jqq_ {nm:Str} {tpos:Pos} {a b:Expr} {ta tb:TE} {p pos:Pos} (hg:Gl X "zip") (hm:X.mg "zip"=none) (ha:PE X a ta) (hb:PE X b tb) (hs:starEach [a,b] X.env=(false,eval a X.env)::starEach [b] X.env:=by rfl) (hs2:starEach [b] X.env=[(false,eval b X.env)]:=by rfl) :
  PI X (.Name nm tpos) (.Call (.Name "zip" p) [a,b] [] pos) (jsp_ ta tb):=by
 intro pins s σ H R I h
 refine Call_ (yw_ I hg hm (by decide +kernel:bootBuiltins "zip"=some (.type "zip")) (qx_ ?_ hs (by rw[hs2];rfl)))
 rw[hs,hs2]
 show wpAny _ _ (spliced ((false,eval a X.env)::backTo pos [(false,eval b X.env)])) _ _ s
 refine q2_ (thn (ha pins s σ H _ I h) fun u s1 ⟨x,H1,I1,ru,q1⟩=>?_)
 show wpAny _ _ (spliced ((false,eval b X.env)::[])) _ _ s1
 refine q2_ (thn (hb pins s1 σ H1 _ I1 q1) fun u2 s2 ⟨y,H2,I2,ru2,q2⟩=>rm_ ?_)
 have q2:jff_ R x y H2:=q2
 obtain⟨l0,l,rfl,rfl⟩:∃ l0 l,x=.ref l0/\y=.ref l:=by
  unfold jff_ at q2
  split at q2
  ·exact⟨_,_,rfl,rfl⟩
  ·exact q2.elim
 cases ru
 cases ru2
 obtain⟨xs,ys,hl0,hl,q2⟩:=q2
 obtain⟨its0,rv0,pl0,hz0⟩:=I2.tuple (SqT.of hl0)
 obtain⟨its,rv,pl,hz⟩:=I2.tuple (SqT.of hl)
 refine jhr_ pl0 pl fun h1 c1 c2 c3 c4 c5 hk=>?_
 refine wpAny_pyIter_zip c1 ?_
 refine⟨_,[_,_,_,_,_],_,_,H2,rfl,I2.kept (t':=s2.toks) hk,jmj_ (z:=s2.heap.objs.size+4) (TI:=s2.heap.objs.size+2) (TO:=s2.heap.objs.size+3) (i1:=s2.heap.objs.size) (i2:=s2.heap.objs.size+1) (ok:=fun H=>H l0=some (.tup xs)/\H l=some (.tup ys)) (xs:=xs) (ys:=ys)
  (S1:=fun i h=>h.IsTupleIter s2.heap.objs.size l0 i) (S2:=fun i h=>h.IsTupleIter (s2.heap.objs.size+1) l i) (zn1 (by decide)) (zn1 (by decide)) (zn2 (by decide)) (zn1 (by decide)) (zn1 (by decide)) (zn3 (by decide)) (zn1 (by decide)) (zn3 (by decide)) (zn1 (by decide)) (zn2 (by decide)) ?_ ?_ ?_ ?_ ?_ ?_,⟨.inl c1,c2,⟨_,_,c3⟩,c4,c5⟩,?_,q2⟩
 ·intro X' h1 h2 h3 hc i pins s σ H I ok hn st
  exact h1▸h2▸u3_ hc I (SqT.of ok.1) hn (by rw[ok.1];exact fun z=>nomatch z) st
 ·intro X' h1 h2 h3 hc i pins s σ H I ok hn st
  exact h1▸h2▸u3_ hc I (SqT.of ok.2) hn (by rw[ok.2];exact fun z=>nomatch z) st
 ·intro i h st
  obtain⟨o,ho,hc,hd⟩:=st
  exact⟨o,ho,fun v q=>by rw[hd] at q;cases q⟩
 ·intro i h st
  obtain⟨o,ho,hc,hd⟩:=st
  exact⟨o,ho,fun v q=>by rw[hd] at q;cases q⟩
 ·intro i h h' st kk
  exact st.at kk
 ·intro i h h' st kk
  exact st.at kk
 ·intro c hc
  have hle:s2.heap.objs.size<=c:=by
   simp only[pt_,r5_,or_false] at hc
   rcases hc with q | q | q | q | q <;> rw[q] <;> first | exact Nat.le_add_right _ _ | exact pg_ _
  exact I2.fpOk hle (I2.hok.fresh hle)
end
end L2
namespace L2
open PySem PySem.Spec PyProof.Rows
theorem jgu_:∀{y:List Nat},y≠[]->ltCps y.dropLast y=true
 | [],h=>absurd rfl h
 | [c],_=>rfl
 | c::d::r,_=>by
  have ih:=jgu_ (y:=d::r) (by simp)
  rw[List.dropLast_cons₂]
  simp only[ltCps,ih,Bool.and_true,beq_self_eq_true,Bool.or_true]
theorem jop_ {z:List Nat} {c d:Nat}:ltCps (z++[c]) (z++[d])=decide (c < d):=by
 induction z with
 | nil=>simp[ltCps]
 | cons x z ih=>simp[ltCps,ih]
structure Nms (ns:List (List Nat)):Prop where
 nd:ns.Nodup
 so:ns.Pairwise leC
 root:[]∈ns
 par:∀ y∈ns,y≠[]->y.dropLast∈ns
def kid (z y:List Nat):Bool:=decide (y≠[]/\y.dropLast=z)
def zo_ (ns:List (List Nat)) (z:List Nat) (n:Nat):List (Nat×Nat):=(p3_ n).filterMap fun j=>if kid z (ns.getD j [])=true then some ((ns.getD j []).getLastD 0,j) else none
theorem y7_ (ns:List (List Nat)) (z:List Nat) (n:Nat):zo_ ns z (n+1)=zo_ ns z n++(if kid z (ns.getD n [])=true then [((ns.getD n []).getLastD 0,n)] else []):=by
 unfold zo_
 rw[rt_,s0_]
 congr 1
 by_cases h:kid z (ns.getD n [])=true
 ·rw[if_pos h];simp only[qj_,r8_,if_pos h]
 ·rw[if_neg h];simp only[qj_,r8_,if_neg h]
theorem jdi_ (ns:List (List Nat)) (z:List Nat) (n:Nat):(zo_ ns z n).length<=n:=by
 have:=tf_ (fun j=>if kid z (ns.getD j [])=true then some ((ns.getD j []).getLastD 0,j) else none) (p3_ n)
 rw[q0_] at this
 exact this
theorem mem_ways {ns:List (List Nat)} {z:List Nat} {n:Nat} {p:Nat×Nat}:p∈zo_ ns z n↔p.2 < n/\kid z (ns.getD p.2 [])=true/\p.1=(ns.getD p.2 []).getLastD 0:=by
 unfold zo_
 rw[r6_]
 constructor
 ·rintro⟨j,hj,h⟩
  rw[p4_] at hj
  by_cases hk:kid z (ns.getD j [])=true
  ·rw[if_pos hk] at h
   cases h
   exact⟨hj,hk,rfl⟩
  ·rw[if_neg hk] at h;cases h
 ·rintro⟨h1,h2,h3⟩
  refine⟨p.2,p4_.mpr h1,?_⟩
  rw[if_pos h2,<- h3]
theorem jjc_ {z y:List Nat} (h:kid z y=true):y=z++[y.getLastD 0]:=by
 unfold kid at h
 obtain⟨h1,h2⟩:=of_decide_eq_true h
 have:=t6_ h1
 rw[h2] at this
 rw[wm_,List.getLast?_eq_getLast h1]
 exact this.symm
theorem zf_ {ns:List (List Nat)} {i:Nat} (h:i < ns.length):ns.getD i []=ns[i]:=by
 rw[pe_,pc_ h];rfl
theorem Nms.lt {ns:List (List Nat)} (h:Nms ns) {i j:Nat} (hij:i < j) (hj:j < ns.length):leC ns[i] ns[j]/\ns[i]≠ns[j] :=
 ⟨rf_.mp h.so i j (by omega) hj hij,rf_.mp h.nd i j (by omega) hj hij⟩
theorem Nms.up {ns:List (List Nat)} (h:Nms ns) {i:Nat} (hi:i < ns.length) (hne:ns[i]≠[]):∃ p,∃ hp:p < i,ns[p]=ns[i].dropLast:=by
 obtain⟨p,hp,e⟩:=qp_ (h.par _ (py_ hi) hne)
 have hlt:=jgu_ hne
 rcases Nat.lt_trichotomy p i with h1 | h1 | h1
 ·exact⟨p,h1,e⟩
 ·subst h1
  rw[<- e,jau_] at hlt;cases hlt
 ·have:=(h.lt h1 hp).1
  unfold leC at this
  rw[e,hlt] at this;cases this
theorem Nms.zero {ns:List (List Nat)} (h:Nms ns):∃ h0:0 < ns.length,ns[0]=[]:=by
 obtain⟨p,hp,e⟩:=qp_ h.root
 rcases wj_ p with h1 | h1
 ·subst h1;exact⟨hp,e⟩
 ·exfalso
  obtain⟨a,b⟩:=h.lt h1 hp
  rw[e] at a b
  unfold leC at a
  cases e2:ns[0] with
  | nil=>exact b e2
  | cons x r=>rw[e2] at a;simp[ltCps] at a
theorem jcv_ {ns:List (List Nat)} (h:Nms ns) (z:List Nat):∀ n,n<=ns.length->(zo_ ns z n).Pairwise fun a b=>a.1 < b.1/\a.2 < b.2
 | 0,_=>by simp[zo_]
 | n+1,hn=>by
  rw[y7_]
  have hn':n < ns.length:=hn
  rw[rc_]
  refine⟨jcv_ h z n (by omega),?_,fun a ha b hb=>?_⟩
  ·split <;> simp
  ·obtain⟨a1,a2,a3⟩:=mem_ways.mp ha
   by_cases hk:kid z (ns.getD n [])=true
   ·rw[if_pos hk] at hb
    have hb:b=((ns.getD n []).getLastD 0,n):=by simpa using hb
    rw[hb]
    refine⟨?_,a1⟩
    have e1:=jjc_ a2
    have e2:=jjc_ hk
    rw[<- a3] at e1
    show a.1 < (ns.getD n []).getLastD 0
    generalize (ns.getD n []).getLastD 0=d at e2
    rw[zf_ (show a.2 < ns.length by omega)] at e1
    rw[zf_ hn'] at e2
    obtain⟨l1,l2⟩:=h.lt a1 hn'
    rw[e1,e2] at l1 l2
    unfold leC at l1
    rw[jop_] at l1
    have:=of_decide_eq_false l1
    have:a.1≠d:=fun e=>l2 (by rw[e])
    omega
   ·rw[if_neg hk] at hb;cases hb
theorem jcp_ {ns:List (List Nat)} (h:Nms ns) {i:Nat} (hi:i < ns.length):∀{n:Nat},n<=i+1->zo_ ns ns[i] n=[]
 | 0,_=>rfl
 | n+1,hn=>by
  rw[y7_,jcp_ h hi (by omega),kh_]
  have hn':n < ns.length:=by omega
  rw[zf_ hn']
  by_cases hk:kid ns[i] ns[n]=true
  ·exfalso
   unfold kid at hk
   obtain⟨h1,h2⟩:=of_decide_eq_true hk
   obtain⟨p,hp,e⟩:=h.up hn' h1
   rw[h2] at e
   exact(h.lt (show p < i by omega) hi).2 e
  ·rw[if_neg hk]
theorem jrh_ {ns:List (List Nat)} (h:Nms ns) {i k p:Nat} (hi:i < ns.length) (hk:k < ns.length) (hp:p < ns.length) (hne:ns[i]≠[]) (e:ns[p]=ns[i].dropLast):kid ns[k] ns[i]=decide (k=p):=by
 unfold kid
 by_cases q:k=p
 ·subst q
  rw[decide_eq_true ⟨hne,e.symm⟩,decide_eq_true rfl]
 ·rw[decide_eq_false q,decide_eq_false fun z=>?_]
  rw[z.2] at e
  rcases Nat.lt_or_gt_of_ne q with l | l
  ·exact(h.lt l hp).2 e.symm
  ·exact(h.lt l hk).2 e
theorem jpm_ {xs:List Pat} {ns:List (List Nat)} (hp:ns.Perm (begs xs)) (hs:sortedS (ns.map S)=true):Nms ns:=by
 refine⟨hp.nodup_iff.mpr (jhp_ xs),?_,hp.mem_iff.mpr (mem_begs.mpr (.inl rfl)),fun y hy hne=>?_⟩
 ·have:=x3_ hs
  rw[rp_] at this
  exact this.imp fun{a b} h=>by simpa [jnx_] using h
 ·rw[hp.mem_iff,mem_begs] at hy ⊢
  rcases hy with rfl | ⟨x,hx,e,h1,h2,rfl⟩
  ·exact absurd rfl hne
  ·rw[kp_,sc_,pr_,q8_ h2,q8_ (Nat.sub_le _ _)]
   rcases wh_ h1 with h | h
   ·left;rw[<- h];simp
   ·refine .inr ⟨x,hx,e - 1,by omega,by omega,?_⟩
    rfl
theorem jor_ {l:List (List Nat)} {ms:List Str} (h:ms.Perm (l.map S)):∃ ns:List (List Nat),ms=ns.map S/\ns.Perm l:=by
 refine⟨ms.map fun z=>z.cps.toList,?_,?_⟩
 ·rw[qc_]
  conv=>lhs;rw[<- k3_ ms]
  refine qo_ fun z _=>?_
  obtain⟨⟨z⟩⟩:=z
  rfl
 ·have:=h.map fun z=>z.cps.toList
  rw[qc_] at this
  have e:(l.map ((fun z:Str=>z.cps.toList)∘S))=l:=by
   conv=>rhs;rw[<- k3_ l]
   exact qo_ fun z _=>by simp[jnx_]
  rw[e] at this
  exact this
end L2
namespace L2
open PySem PySem.Spec PyProof.Rows
abbrev Kt:=List (Nat×Nat)×Option (List Int)
structure GoodW (xs:List Pat) (ks:List Kt) (nm:Nat->List Nat):Prop where
 z:nm 0=[]
 pos:0 < ks.length
 way:∀ i (h:i < ks.length) c p,ks[i].1.find? (fun q=>decide (q.1=c))=some p->p.2 < ks.length/\nm p.2=nm i++[c]
 no:∀ i (h:i < ks.length) c,ks[i].1.find? (fun q=>decide (q.1=c))=none->nm i++[c]∉begs xs
 num:∀ i (h:i < ks.length),ks[i].2=(jk_ (grt xs) (nm i)).map (·.2)
def yc_ (gs:List Pat) (f:List Nat) (b n:Nat):List Fit:=(p3_ n).filterMap fun e=>(jk_ gs ((f.drop b).take (e+1))).map fun g=>(b,g.2)
theorem x4_ (gs:List Pat) (f:List Nat) (b n:Nat):yc_ gs f b (n+1)=yc_ gs f b n++(match (jk_ gs ((f.drop b).take (n+1))).map (·.2) with | none=>[] | some g=>[(b,g)]):=by
 unfold yc_
 rw[rt_,s0_]
 congr 1
 cases e:jk_ gs ((f.drop b).take (n+1)) with
 | none=>simp only[qj_,r8_,e,kq_]
 | some g=>simp only[qj_,r8_,e,rr_]
theorem jce_ (gs:List Pat) (f:List Nat) (b n:Nat):(yc_ gs f b n).length<=n:=by
 have:=tf_ (fun e=>(jk_ gs ((f.drop b).take (e+1))).map fun g=>(b,g.2)) (p3_ n)
 rw[q0_] at this
 exact this
theorem v9_:∀{xs gs:List Pat} {g:Pat},g∈xs.foldl grtS gs->g∈gs∨∃ x∈xs,g.1=x.1
 | [],gs,g,h=>.inl h
 | x::xs,gs,g,h=>by
  rcases v9_ (xs:=xs) h with h | ⟨y,hy,e⟩
  ·rcases jgs_ h with h | h
   ·exact .inl h
   ·exact .inr ⟨x,po_,by rw[h]⟩
  ·exact .inr ⟨y,pn_ _ hy,e⟩
theorem jdc_ {xs:List Pat} {z:List Nat} {g:Pat} (h:jk_ (grt xs) z=some g):z∈begs xs:=by
 obtain⟨h1,h2⟩:=jch_ h
 rcases v9_ h1 with h | ⟨x,hx,e⟩
 ·cases h
 ·rw[<- h2,e];exact jll_ hx
theorem jmb_ {xs:List Pat} {z:List Nat} (h:z∈begs xs) (k:Nat):z.take k∈begs xs:=by
 rcases mem_begs.mp h with rfl | ⟨x,hx,e,h1,h2,rfl⟩
 ·rw[List.take_nil];exact h
 ·rw[sc_]
  rcases wj_ (min k e) with q | q
  ·rw[q];exact jap_ xs
  ·exact mem_begs.mpr (.inr ⟨x,hx,min k e,q,by omega,rfl⟩)
theorem jam_ {xs:List Pat} {f:List Nat} {b e:Nat} (h:(f.drop b).take (e+1)∉begs xs):∀ n,e<=n->yc_ (grt xs) f b n=yc_ (grt xs) f b e
 | 0,hn=>by (have:e=0:=by omega);rw[this]
 | n+1,hn=>by
  rcases wh_ hn with q | q
  ·rw[q]
  ·have ih:=jam_ h n (by omega)
   rw[x4_,ih]
   have:jk_ (grt xs) ((f.drop b).take (n+1))=none:=by
    cases e2:jk_ (grt xs) ((f.drop b).take (n+1)) with
    | none=>rfl
    | some g =>
     exfalso
     have:=jmb_ (jdc_ e2) (e+1)
     rw[sc_,q8_ (by omega)] at this
     exact h this
   rw[this]
   simp
def yq_ (gs:List Pat) (f:List Nat) (n:Nat):List Fit:=(p3_ n).flatMap fun b=>yc_ gs f b (f.length - b)
theorem jhz_ (gs:List Pat) (f:List Nat) (n:Nat):yq_ gs f (n+1)=yq_ gs f n++yc_ gs f n (f.length - n):=by
 unfold yq_
 rw[rt_,List.flatMap_append]
 simp
theorem mem_fitsB {gs:List Pat} {f:List Nat} {b n:Nat} {x:Fit}:x∈yc_ gs f b n↔∃ e,e < n/\∃ g,jk_ gs ((f.drop b).take (e+1))=some g/\x=(b,g.2):=by
 unfold yc_
 rw[r6_]
 constructor
 ·rintro⟨e,he,h⟩
  rw[p4_] at he
  cases e2:jk_ gs ((f.drop b).take (e+1)) with
  | none=>rw[e2] at h;cases h
  | some g=>rw[e2] at h;cases h;exact⟨e,he,g,e2,rfl⟩
 ·rintro⟨e,he,g,h,rfl⟩
  exact⟨e,p4_.mpr he,by rw[h];rfl⟩
theorem mem_fitsW {gs:List Pat} {f:List Nat} {n:Nat} {x:Fit}:x∈yq_ gs f n↔∃ b,b < n/\∃ e,e < f.length - b/\∃ g,jk_ gs ((f.drop b).take (e+1))=some g/\x=(b,g.2):=by
 unfold yq_
 rw[List.mem_flatMap]
 constructor
 ·rintro⟨b,hb,h⟩
  exact⟨b,p4_.mp hb,mem_fitsB.mp h⟩
 ·rintro⟨b,hb,h⟩
  exact⟨b,p4_.mpr hb,mem_fitsB.mpr h⟩
theorem jjp_ (q:Nat) (c:Int):∀(fs:List Fit) (t:List Int),q < t.length->((layF t fs).getD q 0<=c↔t.getD q 0<=c/\∀ x∈fs,x.1<=q->q < x.1+x.2.length->x.2.getD (q - x.1) 0<=c)
 | [],t,_=>⟨fun h=>⟨h,fun x hx=>nomatch hx⟩,fun h=>h.1⟩
 | x::fs,t,hq=>by
  have ih:=jjp_ q c fs (laid t x.1 x.2) (by rw[z6_];exact hq)
  show (layF (laid t x.1 x.2) fs).getD q 0<=c↔_
  rw[ih,jaj_ _ _ _ _ hq,jaf_]
  constructor
  ·rintro⟨h1,h2⟩
   by_cases hc:x.1<=q/\q < x.1+x.2.length
   ·rw[if_pos hc,mx_le] at h1
    refine⟨h1.1,fun y hy=>?_⟩
    rcases pt_.mp hy with rfl | hy
    ·exact fun _ _=>h1.2
    ·exact h2 y hy
   ·rw[if_neg hc] at h1
    refine⟨h1,fun y hy=>?_⟩
    rcases pt_.mp hy with rfl | hy
    ·exact fun a b=>absurd ⟨a,b⟩ hc
    ·exact h2 y hy
  ·rintro⟨h1,h2⟩
   refine⟨?_,fun y hy=>h2 y (pn_ _ hy)⟩
   by_cases hc:x.1<=q/\q < x.1+x.2.length
   ·rw[if_pos hc,mx_le]
    exact⟨h1,h2 x po_ hc.1 hc.2⟩
   ·rw[if_neg hc];exact h1
theorem jgl_ {a b:Int} (h:∀ c,a<=c↔b<=c):a=b:=by
 have h1:=(h b).mpr (sn_ _)
 have h2:=(h a).mp (sn_ _)
 omega
theorem uc_ {xs:List Pat} (hx:∀ x∈xs,1<=x.1.length/\x.2.length=x.1.length+1) (w:List Nat) (hw:1<=w.length):cutA (layF (pv_ (w.length+3) 0) (yq_ (grt xs) (frame w) (frame w).length)) (some 2) (some (-2))=vals xs w:=by
 rw[<- vq_ xs w hw]
 have hg:=fun z=>z5_ (xs:=xs) (fun x h=>(hx x h).2) xs.length (pg_ _) z
 rw[p5_] at hg
 congr 1
 rw[za_]
 obtain⟨t1,t2⟩:=v4_ (frame w) xs (pv_ (w.length+2+1) 0)
 rw[rg_] at t1 t2
 apply jga_
 ·rw[yp_,t1,rg_]
 ·intro q hq
  rw[yp_,rg_] at hq
  rw[t2 q (by omega),jeo_]
  refine jgl_ fun c=>?_
  rw[jjp_ q c _ _ (by rw[rg_];exact hq),jeo_,jje_]
  refine and_congr_right fun _=>?_
  constructor
  ·rintro h v ⟨x,hxm,b,hb,h1,h2,rfl⟩
   obtain⟨p1,p2,p3⟩:=mem_places.mp hb
   obtain⟨hl,hl2⟩:=hx x hxm
   cases e:jk_ (grt xs) x.1 with
   | none=>exact absurd rfl ((hg x.1).1 e x hxm)
   | some g =>
    obtain⟨g1,g2⟩:=(hg x.1).2 g e
    have hm:(b,g.2)∈yq_ (grt xs) (frame w) (w.length+2):=by
     refine mem_fitsW.mpr ⟨b,by rw[za_] at p1;exact p1,x.1.length - 1,by omega,g,?_,rfl⟩
     rw[show x.1.length - 1+1=x.1.length by omega,p3];exact e
    have:=h _ hm h1 (by show q < b+g.2.length;rw[g1];omega)
    exact(g2 (q - b) c (by omega)).mp this x hxm rfl
  ·rintro h y hy h1 h2
   obtain⟨b,hb,e,he,g,hlk,rfl⟩:=mem_fitsW.mp hy
   obtain⟨g1,g2⟩:=(hg _).2 g hlk
   have hl:((frame w).drop b |>.take (e+1)).length=e+1:=by rw[pr_,qb_];omega
   have h1:b<=q:=h1
   have h2:q < b+g.2.length:=h2
   rw[g1,hl] at h2
   refine(g2 (q - b) c (by rw[hl];omega)).mpr fun x hxm hxe=>h _ ⟨x,hxm,b,?_,h1,?_,rfl⟩
   ·refine mem_places.mpr ⟨by rw[za_];exact hb,?_,?_⟩
    ·rw[hxe,hl];omega
    ·rw[hxe,hl]
   ·rw[(hx x hxm).2,hxe,hl];omega
theorem jpp_ {xs:List Pat} (hx:∀ x∈xs,x.2.length=x.1.length+1) {f:List Nat} {n:Nat}:∀ x∈yq_ (grt xs) f n,x.1+x.2.length<=f.length+1:=fun x h=>by
 obtain⟨b,hb,e,he,g,hlk,rfl⟩:=mem_fitsW.mp h
 have hg:=z5_ (xs:=xs) hx xs.length (pg_ _) ((f.drop b).take (e+1))
 rw[p5_] at hg
 have:=(hg.2 g hlk).1
 rw[pr_,qb_] at this
 show b+g.2.length<=_
 omega
def yk_ (ns:List (List Nat)) (gs:List Pat):List Kt:=(p3_ ns.length).map fun i=>(zo_ ns (ns.getD i []) ns.length,(jk_ gs (ns.getD i [])).map (·.2))
theorem find_ways {ns:List (List Nat)} {z:List Nat} {n c:Nat}:(∀ p,(zo_ ns z n).find? (fun q=>decide (q.1=c))=some p->p.2 < n/\ns.getD p.2 []=z++[c])/\((zo_ ns z n).find? (fun q=>decide (q.1=c))=none->∀ j,j < n->ns.getD j []≠z++[c]):=by
 constructor
 ·intro p hp
  obtain⟨b1,b2,b3⟩:=mem_ways.mp (sb_ hp)
  have hc:p.1=c:=by have:=tm_ hp;simpa using this
  have:=jjc_ b2
  rw[<- b3,hc] at this
  exact⟨b1,this⟩
 ·intro hn j hj e
  have hk:kid z (ns.getD j [])=true:=by
   unfold kid
   rw[e]
   exact decide_eq_true ⟨by simp,by simp⟩
  have hm:(c,j)∈zo_ ns z n:=mem_ways.mpr ⟨hj,hk,by rw[e];simp⟩
  have:=sv_.mp hn _ hm
  simp at this
theorem jht_ {xs:List Pat} {ns:List (List Nat)} (hN:Nms ns) (hp:ns.Perm (begs xs)):GoodW xs (yk_ ns (grt xs)) (fun i=>ns.getD i []):=by
 obtain⟨h0,e0⟩:=hN.zero
 have hl:(yk_ ns (grt xs)).length=ns.length:=by unfold yk_;rw[pb_,q0_]
 have hi:∀ i (h:i < (yk_ ns (grt xs)).length),(yk_ ns (grt xs))[i]=(zo_ ns (ns.getD i []) ns.length,(jk_ (grt xs) (ns.getD i [])).map (·.2)):=fun i h=>by
  simp only[yk_,t1_,List.getElem_range]
 refine⟨by rw[zf_ h0,e0],by omega,fun i h c p hf=>?_,fun i h c hf hm=>?_,fun i h=>by rw[hi i h]⟩
 ·rw[hi i h] at hf
  rw[hl]
  exact find_ways.1 p hf
 ·rw[hi i h] at hf
  obtain⟨j,hj,e⟩:=qp_ (hp.mem_iff.mpr hm)
  exact find_ways.2 hf j hj (by rw[zf_ hj];exact e)
end L2
namespace L2
open PySem PySem.Spec PyProof.Rows
def kAt (ks:List Kt) (m:Nat):Kt:=ks.getD m ([],none)
def zw_ (ord:List Nat) (ks:List Kt):List Kt:=ord.map fun m=>((kAt ks m).1.map fun p=>(p.1,ord.idxOf p.2),(kAt ks m).2)
theorem jak_ {ks:List Kt} {m:Nat} (h:m < ks.length):kAt ks m=ks[m]:=by
 unfold kAt;rw[pe_,pc_ h];rfl
theorem jlm_ {xs:List Pat} {ks:List Kt} {nm:Nat->List Nat} (h:GoodW xs ks nm) {ord:List Nat} (hp:ord.Perm (p3_ ks.length)) (h0:ord[0]?=some 0):GoodW xs (zw_ ord ks) (fun k=>nm (ord.getD k 0)):=by
 have hl:ord.length=ks.length:=by rw[hp.length_eq,q0_]
 have hlt:∀ m∈ord,m < ks.length:=fun m hm=>p4_.mp (hp.mem_iff.mp hm)
 have hnd:ord.Nodup:=hp.nodup_iff.mpr w8_
 have htl:(zw_ ord ks).length=ord.length:=by unfold zw_;rw[pb_]
 have hi:∀ i (h:i < (zw_ ord ks).length),∃(hio:i < ord.length) (hm:ord[i] < ks.length),(zw_ ord ks)[i]=(ks[ord[i]].1.map fun p=>(p.1,ord.idxOf p.2),ks[ord[i]].2)/\ord.getD i 0=ord[i]:=fun i hh=>by
  have hio:i < ord.length:=by omega
  have hm:=hlt _ (py_ hio)
  refine⟨hio,hm,?_,by rw[pe_,pc_ hio];rfl⟩
  simp only[zw_,t1_,jak_ hm]
 refine⟨?_,by rw[htl,hl];exact h.pos,fun i hh c p hf=>?_,fun i hh c hf=>?_,fun i hh=>?_⟩
 ·show nm (ord.getD 0 0)=[]
  rw[pe_,h0];exact h.z
 ·obtain⟨hio,hm,e,eo⟩:=hi i hh
  rw[e] at hf
  simp only[kz_] at hf
  cases e2:ks[ord[i]].1.find? (fun q=>decide (q.1=c)) with
  | none =>
   have:ks[ord[i]].1.find? ((fun q:Nat×Nat=>decide (q.1=c))∘fun p=>(p.1,ord.idxOf p.2))=none:=e2
   rw[this] at hf;cases hf
  | some q =>
   have:ks[ord[i]].1.find? ((fun q:Nat×Nat=>decide (q.1=c))∘fun p=>(p.1,ord.idxOf p.2))=some q:=e2
   rw[this] at hf
   cases hf
   obtain⟨w1,w2⟩:=h.way ord[i] hm c q e2
   have hq:q.2∈ord:=hp.mem_iff.mpr (p4_.mpr w1)
   have hqi:=List.idxOf_lt_length_iff.mpr hq
   refine⟨by rw[htl];exact hqi,?_⟩
   show nm (ord.getD (ord.idxOf q.2) 0)=nm (ord.getD i 0)++[c]
   rw[eo,<- w2,pe_,pc_ hqi]
   show nm ord[ord.idxOf q.2]=nm q.2
   rw[List.getElem_idxOf hqi]
 ·obtain⟨hio,hm,e,eo⟩:=hi i hh
  rw[e] at hf
  simp only[kz_] at hf
  have e2:ks[ord[i]].1.find? (fun q=>decide (q.1=c))=none:=by
   cases e2:ks[ord[i]].1.find? (fun q=>decide (q.1=c)) with
   | none=>rfl
   | some q =>
    have:ks[ord[i]].1.find? ((fun q:Nat×Nat=>decide (q.1=c))∘fun p=>(p.1,ord.idxOf p.2))=some q:=e2
    rw[this] at hf;cases hf
  show nm (ord.getD i 0)++[c]∉begs xs
  rw[eo]
  exact h.no ord[i] hm c e2
 ·obtain⟨hio,hm,e,eo⟩:=hi i hh
  rw[e]
  show ks[ord[i]].2=(jk_ (grt xs) (nm (ord.getD i 0))).map (·.2)
  rw[eo]
  exact h.num ord[i] hm
end L2
namespace L2
open PySem PySem.Spec PyProof.Rows
section
variable {X:Cx} {tg:Expr}
end
section
variable {X:Cx}
end
end L2
namespace L2
open PySem PySem.Spec PyProof.Rows
section
variable {X:Cx} {pins:List (Addr×Obj)} {σ:St} {H:Hp} {s:Shared} {a:Addr} {u r:Value} {A:Around} {E:Value->Shared->Prop}
end
section
variable {X:Cx} {o e f:Expr} {apos cpos:Pos} {td ty tx:TE}
end
theorem jwj_ {X:Cx}:MtR X "list.pop" rPop:=fun pins s σ H x xs v us Q I rx rs h=>jvd_ pins s σ H x xs v us Q I rx rs h
theorem jun_ {l:Addr} {xs:List V} {y:V} {H:Hp} {Q:VK} (h1:H l=some (.lst (xs++[y]))) (h:Q y (upd H l (.lst xs))):rPop (.ref l) [] H Q:=⟨l,_,y,rfl,rfl,h1,by simp,by rw[List.dropLast_concat];exact h⟩
end L2
namespace L2
open PySem PySem.Spec PyProof.Rows
section
variable {X:Cx}
def jgp_ (K:pd_) (ta:TE):TE:=fun σ H Q=>ta σ H fun x H1=>∃ l ys,x=.ref l/\SqL K H1 l ys/\∀ q,H1 q=none->Q (.ref q) (upd H1 q (.lst ys.reverse))
theorem u6_ {K:pd_} (hK:X.K=K) {a:Expr} {ta:TE} {p p2 pos pos2:Pos} (hc:X.calm=true) (hgl:Gl X "list") (hml:X.mg "list"=none) (hgr:Gl X "reversed") (hmr:X.mg "reversed"=none) (ha:PE X a ta)
  (hs:starEach [Expr.Call (.Name "reversed" p2) [a] [] pos2] X.env=[(false,eval (.Call (.Name "reversed" p2) [a] [] pos2) X.env)]:=by rfl) (hs2:starEach [a] X.env=[(false,eval a X.env)]:=by rfl) :
  PE X (.Call (.Name "list" p) [.Call (.Name "reversed" p2) [a] [] pos2] [] pos) (jgp_ K ta):=by
 subst hK
 intro pins s σ H Q I h
 refine Call_ (yw_ I hgl hml (by decide +kernel:bootBuiltins "list"=some (.type "list")) (qx_ ?_ hs rfl))
 rw[hs]
 show wpAny _ _ (spliced ((false,eval (.Call (.Name "reversed" p2) [a] [] pos2) X.env)::[])) _ _ s
 refine q2_ ?_
 refine Call_ (yw_ I hgr hmr (by decide +kernel:bootBuiltins "reversed"=some (.type "reversed")) (qx_ ?_ hs2 rfl))
 rw[hs2]
 show wpAny _ _ (spliced ((false,eval a X.env)::[])) _ _ s
 refine q2_ (thn (ha pins s σ H _ I h) fun u s1 ⟨x,H1,I1,ru,q1⟩=>rm_ ?_)
 obtain⟨l,ys,rfl,hl,q⟩:=q1
 cases ru
 obtain⟨its,rv,pl,hz⟩:=I1.list hl
 have hlen:=rv.length
 refine call_reversed_list pl.isList (rm_ ?_)
 have hne:l≠s1.heap.objs.size:=fun e=>by
  obtain⟨o,ho,_⟩:=pl.isList
  exact absurd (pm_ ho) (by rw[e];exact sj_ _)
 refine jbs_ (s:={ s1 with heap:=s1.heap.push (revObj l ((its.toArray.size:Int) - 1)) }) (I1.ok.hd hc) hne ⟨_,pk_ _ rfl,rfl,rfl⟩ (pl.isList.push _) (by simp only[pi_];omega) fun h' tk c' hk hq=>?_
 have hkk:∀ b o,s1.heap.get? b=some o->h'.get? b=some o:=fun b o e=>hk b o (p7_ (pm_ e)) (pa_ _ e)
 have hsz:s1.heap.objs.size<=(s1.heap.push (revObj l ((its.toArray.size:Int) - 1))).objs.size:=by rw[q9_];omega
 refine⟨.ref (s1.heap.push (revObj l ((its.toArray.size:Int) - 1))).objs.size,_,I1.laid (t':=tk) hkk hsz (show ObjOk X.prog X.w _ _ _ (.lst ys.reverse) from ⟨by rw[te_];exact hz,its.reverse,c',Vals.reverse rv,?_⟩),rfl,q _ (I1.hok.fresh hsz)⟩
 have e:its.toArray.toList.reverse.toArray=its.reverse.toArray:=by simp
 rw[e] at hq
 exact hq
end
end L2
namespace L2
open PySem PySem.Spec PyProof.Rows
section
variable {prog:Program} {w:World} {A:Around} {E:Value->Shared->Prop} {s:Shared}
end
section
variable {X:Cx} {tg:Expr}
end
end L2
namespace L2
open PySem PySem.Spec PyProof.Rows
section
variable {X:Cx} {tg:Expr}
end
section
variable {X:Cx}
end
end L2
namespace L2
open PySem PySem.Spec PyProof.Rows
theorem ys_ {α:Type} [DecidableEq α]:∀{l1 l2:List α},l1.Nodup->l2.Nodup->(∀ a,a∈l1↔a∈l2)->l1.Perm l2
 | [],l2,_,_,h=>by
  cases l2 with
  | nil=>exact ky_ _
  | cons b l=>exact absurd ((h b).mpr po_) (by simp)
 | a::l1,l2,h1,h2,h=>by
  have h1':=q6_.mp h1
  have ha:a∈l2:=(h a).mp po_
  have hp:l2.Perm (a::l2.erase a):=List.perm_cons_erase ha
  have hn2:(a::l2.erase a).Nodup:=hp.nodup_iff.mp h2
  have hn2':=q6_.mp hn2
  refine q7_.trans (q7_.cons a (ys_ h1'.2 hn2'.2 fun b=>?_)) hp.symm
  constructor
  ·intro hb
   have:b∈a::l2.erase a:=hp.mem_iff.mp ((h b).mp (pn_ _ hb))
   rcases pt_.mp this with e | e
   ·rw[e] at hb;exact absurd hb h1'.1
   ·exact e
  ·intro hb
   have:b∈a::l1:=(h b).mpr (hp.mem_iff.mpr (pn_ _ hb))
   rcases pt_.mp this with e | e
   ·rw[e] at hb;exact absurd hb hn2'.1
   ·exact e
theorem y5_ {α β:Type} {f:α->β} {l:List α} (h:(l.map f).Nodup):l.Nodup:=rx_.imp (fun h e=>h (by rw[e])) (rp_.mp h)
theorem ub_ {α:Type} [DecidableEq α]:∀{l B:List α},l.Nodup->(∀ a∈l,a∈B)->l.length<=B.length
 | [],B,_,_=>ri_ _
 | a::l,B,hn,h=>by
  have hn:=q6_.mp hn
  have ha:=h a po_
  have ih:=ub_ (B:=B.erase a) hn.2 fun b hb=>(List.mem_erase_of_ne (fun z:b=a=>hn.1 (by rw[<- z];exact hb))).mpr (h b (pn_ _ hb))
  have hl:=List.length_erase_of_mem ha
  have:=List.length_pos_of_mem ha
  rw[pz_];omega
theorem jz_ {gs:List Pat} {z:List Nat} {g:Pat} (h:jk_ gs z=some g):g∈gs/\g.1=z:=by
 unfold jk_ at h
 exact⟨sb_ h,by have:=tm_ h;simpa using this⟩
theorem jfg_:∀{gs:List Pat},(gs.map (·.1)).Nodup->∀{g:Pat},g∈gs->jk_ gs g.1=some g
 | [],_,g,h=>nomatch h
 | x::gs,hn,g,h=>by
  rw[pf_,q6_] at hn
  unfold jk_
  rw[qk_]
  rcases pt_.mp h with e | h'
  ·subst e;simp
  ·have hne:¬ x.1=g.1:=fun z=>hn.1 (by rw[z];exact List.mem_map_of_mem h')
   rw[decide_eq_false hne]
   exact jfg_ hn.2 h'
theorem jhn_ (gs:List Pat) (s:List Nat) (ns:List Int):(putG gs s ns).map (·.1)=if s∈gs.map (·.1) then gs.map (·.1) else gs.map (·.1)++[s]:=by
 unfold putG
 have e:(gs.any fun g=>decide (g.1=s))=true↔s∈gs.map (·.1):=by
  rw[t0_,qh_]
  exact⟨fun⟨g,h1,h2⟩=>⟨g,h1,of_decide_eq_true h2⟩,fun⟨g,h1,h2⟩=>⟨g,h1,decide_eq_true h2⟩⟩
 by_cases h:(gs.any fun g=>decide (g.1=s))=true
 ·rw[if_pos h,if_pos (e.mp h),qc_]
  refine qo_ fun g _=>?_
  simp only[w6_]
  split <;> rfl
 ·rw[if_neg h,if_neg (fun q=>h (e.mpr q)),pw_];rfl
theorem yv_ (xs:List Pat):((grt xs).map (·.1)).Nodup:=by
 have:∀(xs gs:List Pat),(gs.map (·.1)).Nodup->((xs.foldl grtS gs).map (·.1)).Nodup:=by
  intro xs
  induction xs with
  | nil=>intro gs h;exact h
  | cons x xs ih =>
   intro gs h
   rw[sf_]
   refine ih _ ?_
   unfold grtS
   rw[jhn_]
   split
   ·exact h
   ·rename_i hx
    exact ts_.mpr ⟨h,by simp,fun a ha b hb z=>hx ((show b=x.1 by simpa using hb)▸z▸ha)⟩
 exact this xs [] (by simp)
theorem xd_ {xs:List Pat} {g:Pat} (h:g∈grt xs):∃ x∈xs,g.1=x.1:=by
 rcases v9_ (gs:=[]) h with h | h
 ·cases h
 ·exact h
theorem jmv_ {xs ys:List Pat} (hx:∀ x∈xs,x.2.length=x.1.length+1) (hy:∀ x∈ys,x.2.length=x.1.length+1) (hn:∀ z,(∃ x∈xs,x.1=z)↔∃ y∈ys,y.1=z)
  (hd:∀(z:List Nat) (j:Nat) (c:Int),j < z.length+1->((∀ x∈xs,x.1=z->x.2.getD j 0<=c)↔∀ y∈ys,y.1=z->y.2.getD j 0<=c)) (z:List Nat):jk_ (grt xs) z=jk_ (grt ys) z:=by
 have h1:=z5_ hx xs.length (pg_ _) z
 have h2:=z5_ hy ys.length (pg_ _) z
 rw[p5_] at h1 h2
 cases e1:jk_ (grt xs) z with
 | none =>
  cases e2:jk_ (grt ys) z with
  | none=>rfl
  | some g =>
   obtain⟨m,hz⟩:=jz_ e2
   obtain⟨y,hy1,hy2⟩:=xd_ m
   obtain⟨x,hx1,hx2⟩:=(hn z).mpr ⟨y,hy1,by rw[<- hy2,hz]⟩
   exact absurd hx2 (h1.1 e1 x hx1)
 | some g =>
  cases e2:jk_ (grt ys) z with
  | none =>
   obtain⟨m,hz⟩:=jz_ e1
   obtain⟨x,hx1,hx2⟩:=xd_ m
   obtain⟨y,hy1,hy2⟩:=(hn z).mp ⟨x,hx1,by rw[<- hx2,hz]⟩
   exact absurd hy2 (h2.1 e2 y hy1)
  | some g' =>
   obtain⟨l1,c1⟩:=h1.2 g e1
   obtain⟨l2,c2⟩:=h2.2 g' e2
   congr 1
   refine Prod.ext ((jz_ e1).2.trans (jz_ e2).2.symm) ?_
   apply tz_
   ·rw[l1,l2]
   ·intro j hj1 hj2
    have:=jgl_ (a:=g.2.getD j 0) (b:=g'.2.getD j 0) fun c=>by rw[c1 j c (by omega),c2 j c (by omega)];exact hd z j c (by omega)
    rw[pe_,pe_,pc_ hj1,pc_ hj2] at this
    exact this
theorem jir_ {xs ys:List Pat} (hx:∀ x∈xs,x.2.length=x.1.length+1) (h:∀ x,x∈xs↔x∈ys) (z:List Nat):jk_ (grt xs) z=jk_ (grt ys) z :=
 jmv_ hx (fun y hy=>hx y ((h y).mpr hy)) (fun z=>⟨fun⟨x,h1,h2⟩=>⟨x,(h x).mp h1,h2⟩,fun⟨x,h1,h2⟩=>⟨x,(h x).mpr h1,h2⟩⟩) (fun z j c _=>⟨fun q y hy=>q y ((h y).mpr hy),fun q y hy=>q y ((h y).mp hy)⟩) z
def SrtG (gs ps:List Pat):Prop:=ps.Perm gs/\sortedS (ps.map fun p=>S p.1)=true
theorem SrtG.look {xs ps:List Pat} (h:SrtG (grt xs) ps) {p:Pat} (hp:p∈ps):jk_ (grt xs) p.1=some p:=jfg_ (yv_ xs) (h.1.mem_iff.mp hp)
theorem SrtG.one {xs ys ps qs:List Pat} (h:SrtG (grt xs) ps) (k:SrtG (grt ys) qs) (e:∀ z,jk_ (grt xs) z=jk_ (grt ys) z):ps=qs:=by
 have hp:(grt xs).Perm (grt ys):=ys_ (y5_ (yv_ xs)) (y5_ (yv_ ys)) fun g=>by
  constructor
  ·intro hg
   have:=jfg_ (yv_ xs) hg
   rw[e] at this
   exact(jz_ this).1
  ·intro hg
   have:=jfg_ (yv_ ys) hg
   rw[<- e] at this
   exact(jz_ this).1
 have hpq:ps.Perm qs:=h.1.trans (hp.trans k.1.symm)
 have hn:ps.map (fun p=>S p.1)=qs.map (fun p=>S p.1):=jgg_ (hpq.map _) (ky_ _) h.2 k.2
 apply tz_
 ·exact hpq.length_eq
 ·intro i h1 h2
  have hs:(ps.map fun p=>S p.1)[i]?=(qs.map fun p=>S p.1)[i]?:=by rw[hn]
  rw[ph_,ph_,pc_ h1,pc_ h2] at hs
  have hs:S ps[i].1=S qs[i].1:=by simpa using hs
  have a:=h.look (py_ h1)
  have b:=k.look (py_ h2)
  rw[e,jgx_ hs,b] at a
  exact(Option.some.inj a).symm
theorem SrtG.same {xs ps:List Pat} (hx:∀ x∈xs,x.2.length=x.1.length+1) (h:SrtG (grt xs) ps) (z:List Nat):(∀ p∈ps,p.2.length=p.1.length+1)/\jk_ (grt xs) z=jk_ (grt ps) z:=by
 have hl:∀ p∈ps,p.2.length=p.1.length+1:=fun p hp=>by
  have:=z5_ hx xs.length (pg_ _) p.1
  rw[p5_] at this
  exact(this.2 p (h.look hp)).1
 refine⟨hl,jmv_ hx hl (fun z=>⟨fun⟨x,h1,h2⟩=>?_,fun⟨p,h1,h2⟩=>?_⟩) (fun z j c hj=>?_) z⟩
 ·have hk:=z5_ hx xs.length (pg_ _) z
  rw[p5_] at hk
  cases e:jk_ (grt xs) z with
  | none=>exact absurd h2 (hk.1 e x h1)
  | some g=>exact⟨g,h.1.mem_iff.mpr (jz_ e).1,(jz_ e).2⟩
 ·obtain⟨x,hx1,hx2⟩:=xd_ (h.1.mem_iff.mp h1)
  exact⟨x,hx1,by rw[<- hx2,h2]⟩
 ·have hk:=z5_ hx xs.length (pg_ _) z
  rw[p5_] at hk
  cases e:jk_ (grt xs) z with
  | none =>
   refine⟨fun _ p hp hz=>?_,fun _ x hx1 hx2=>absurd hx2 (hk.1 e x hx1)⟩
   have:=h.look hp
   rw[hz,e] at this;cases this
  | some g =>
   rw[<- (hk.2 g e).2 j c hj]
   refine⟨fun q p hp hz=>?_,fun q=>q g (h.1.mem_iff.mpr (jz_ e).1) (jz_ e).2⟩
   have:=h.look hp
   rw[hz,e] at this
   cases this
   exact q
theorem jms_ {gs gs':List Pat} (e:∀ z,jk_ gs z=jk_ gs' z) (f:List Nat) (n:Nat):yq_ gs f n=yq_ gs' f n:=by
 unfold yq_ yc_
 congr 1
 funext b
 congr 1
 funext i
 rw[e]
theorem jrq_ {xs ys:List Pat} (hx:∀ x∈xs,1<=x.1.length/\x.2.length=x.1.length+1) (hy:∀ x∈ys,1<=x.1.length/\x.2.length=x.1.length+1) (e:∀ z,jk_ (grt xs) z=jk_ (grt ys) z) (w:List Nat) (hw:1<=w.length):vals xs w=vals ys w:=by
 rw[<- uc_ hx w hw,<- uc_ hy w hw,jms_ e]
structure DN (B done wt:List (List Nat)):Prop where
 nd:(done++wt).Nodup
 inB:∀ z∈done++wt,z∈B
 z:[]∈done++wt
 shut:∀ z∈done,∀ c,z++[c]∈B->z++[c]∈done++wt
 par:∀ z c,z++[c]∈done++wt->z∈done
theorem DN.start {B:List (List Nat)} (h:[]∈B):DN B [] [[]] :=
 ⟨by simp,fun z hz=>by (have:z=[]:=by simpa using hz);rw[this];exact h,by simp,fun z hz=>(nomatch hz),fun z c hz=>by simp at hz⟩
theorem DN.step {B done w:List (List Nat)} {z:List Nat} (h:DN B done (w++[z])) {cs:List Nat} (hn:cs.Nodup) (h1:∀ c∈cs,z++[c]∈B) (h2:∀ c,z++[c]∈B->c∈cs):DN B (done++[z]) (w++cs.map fun c=>z++[c]):=by
 have hp:(done++[z]++(w++cs.map fun c=>z++[c])).Perm ((done++(w++[z]))++cs.map fun c=>z++[c]):=by
  simp only[pu_]
  refine ru_ _ ?_
  rw[<- pu_,<- pu_]
  exact rl_ _ r7_
 have hzd:z∉done:=fun q=>by
  have:=(ts_.mp h.nd).2.2 z q z (by simp)
  exact this rfl
 have hmem:∀ y,y∈done++[z]++(w++cs.map fun c=>z++[c])↔y∈done++(w++[z])∨y∈cs.map fun c=>z++[c]:=fun y=>by rw[hp.mem_iff,pq_]
 refine⟨hp.nodup_iff.mpr (ts_.mpr ⟨h.nd,?_,fun a ha b hb e=>?_⟩),fun y hy=>?_,?_,fun y hy c hc=>?_,fun y c hy=>?_⟩
 ·exact rp_.mpr (rx_.imp (fun h e=>h (by simpa using e)) hn)
 ·obtain⟨c,_,rfl⟩:=qh_.mp hb
  rw[e] at ha
  exact hzd (h.par z c ha)
 ·rcases (hmem y).mp hy with q | q
  ·exact h.inB y q
  ·obtain⟨c,hc,rfl⟩:=qh_.mp q
   exact h1 c hc
 ·exact(hmem []).mpr (.inl h.z)
 ·rw[hmem]
  rcases pq_.mp hy with q | q
  ·exact .inl (h.shut y q c hc)
  ·have:y=z:=by simpa using q
   subst this
   exact .inr (qh_.mpr ⟨c,h2 c hc,rfl⟩)
 ·rw[hmem] at hy
  rcases hy with q | q
  ·exact rw_ _ (h.par y c q)
  ·obtain⟨c',_,e⟩:=qh_.mp q
   have:=(List.append_inj' e rfl).1
   rw[<- this];simp
theorem DN.all {B done:List (List Nat)} (h:DN B done []) (hB:∀ s d,s++[d]∈B->s∈B):∀ b,b∈B->b∈done:=by
 have go:∀ n (b:List Nat),b.length=n->b∈B->b∈done:=by
  intro n
  induction n with
  | zero =>
   intro b hb _
   have:b=[]:=so_ hb
   subst this
   have:=h.z
   rwa [qt_] at this
  | succ n ih =>
   intro b hb hm
   rcases jin_ b with e | ⟨s,d,e⟩
   ·rw[e] at hb;simp at hb
   ·subst e
    have:=h.shut s (ih s (by simpa using hb) (hB s d hm)) d hm
    rwa [qt_] at this
 intro b hb
 exact go _ b rfl hb
theorem DN.len {B done wt:List (List Nat)} (h:DN B done wt):done.length+wt.length<=B.length:=by
 have:=ub_ h.nd h.inB
 rwa [pj_] at this
def fnd (gs:List Pat) (done:List (List Nat)):List Pat:=done.filterMap (jk_ gs)
theorem jpz_ {xs:List Pat} {done:List (List Nat)} (h:DN (begs xs) done []):(fnd (grt xs) done).Perm (grt xs):=by
 have hnd:done.Nodup:=by have:=h.nd;rwa [qt_] at this
 have hm:∀ g,g∈fnd (grt xs) done↔g∈grt xs:=fun g=>by
  unfold fnd
  rw[r6_]
  constructor
  ·rintro⟨z,_,hz⟩
   exact(jz_ hz).1
  ·intro hg
   have hl:=jfg_ (yv_ xs) hg
   exact⟨g.1,h.all (jpy_ xs) _ (jdc_ hl),hl⟩
 refine ys_ ?_ (y5_ (yv_ xs)) hm
 unfold fnd
 have:∀ l:List (List Nat),l.Nodup->(l.filterMap (jk_ (grt xs))).Nodup:=by
  intro l
  induction l with
  | nil=>intro _;simp
  | cons z l ih =>
   intro hl
   have hl:=q6_.mp hl
   rw[qj_]
   cases e:jk_ (grt xs) z with
   | none=>exact ih hl.2
   | some g =>
    refine q6_.mpr ⟨fun q=>?_,ih hl.2⟩
    obtain⟨y,hy,e2⟩:=r6_.mp q
    have:y=z:=(jz_ e2).2.symm.trans (jz_ e).2
    rw[this] at hy
    exact hl.1 hy
 exact this done hnd
structure GoodT (xs:List Pat) (ks:List Kt) (nm:Nat->List Nat):Prop extends GoodW xs ks nm where
 uni:∀ i (h:i < ks.length),(ks[i].1.map (·.1)).Nodup
 inb:∀ i,i < ks.length->nm i∈begs xs
theorem GoodT.ways {xs:List Pat} {ks:List Kt} {nm:Nat->List Nat} (h:GoodT xs ks nm) {i:Nat} (hi:i < ks.length) {p:Nat×Nat} (hp:p∈ks[i].1):p.2 < ks.length/\nm p.2=nm i++[p.1]:=by
 refine h.way i hi p.1 p ?_
 have hu:=h.uni i hi
 have:∀ l:List (Nat×Nat),(l.map (·.1)).Nodup->p∈l->l.find? (fun q=>decide (q.1=p.1))=some p:=by
  intro l
  induction l with
  | nil=>intro _ hp;cases hp
  | cons q l ih =>
   intro hn hp
   rw[pf_,q6_] at hn
   rw[qk_]
   rcases pt_.mp hp with e | hp'
   ·subst e;simp
   ·have hne:¬ q.1=p.1:=fun z=>hn.1 (by rw[z];exact List.mem_map_of_mem hp')
    rw[decide_eq_false hne]
    exact ih hn.2 hp'
 exact this _ hu hp
theorem GoodT.kids {xs:List Pat} {ks:List Kt} {nm:Nat->List Nat} (h:GoodT xs ks nm) {i:Nat} (hi:i < ks.length):(∀ c∈ks[i].1.map (·.1),nm i++[c]∈begs xs)/\∀ c,nm i++[c]∈begs xs->c∈ks[i].1.map (·.1):=by
 refine⟨fun c hc=>?_,fun c hc=>?_⟩
 ·obtain⟨p,hp,rfl⟩:=qh_.mp hc
  obtain⟨h1,h2⟩:=h.ways hi hp
  rw[<- h2]
  exact h.inb _ h1
 ·cases e:ks[i].1.find? (fun q=>decide (q.1=c)) with
  | none=>exact absurd hc (h.no i hi c e)
  | some p =>
   have h1:=sb_ e
   have h2:=tm_ e
   exact qh_.mpr ⟨p,h1,by simpa using h2⟩
theorem jfa_ {xs:List Pat} {ns:List (List Nat)} (hN:Nms ns) (hp:ns.Perm (begs xs)):GoodT xs (yk_ ns (grt xs)) (fun i=>ns.getD i []):=by
 refine⟨jht_ hN hp,fun i hi=>?_,fun i hi=>?_⟩
 ·have hi':i < ns.length:=by unfold yk_ at hi;simpa using hi
  have e:(yk_ ns (grt xs))[i].1=zo_ ns (ns.getD i []) ns.length:=by unfold yk_;simp
  rw[e]
  have:=jcv_ hN (ns.getD i []) ns.length (pg_ _)
  rw[ld_,rp_]
  exact this.imp fun h=>p7_ h.1
 ·have hi':i < ns.length:=by unfold yk_ at hi;simpa using hi
  rw[zf_ hi']
  exact hp.mem_iff.mp (py_ hi')
theorem jip_ {xs:List Pat} {ks:List Kt} {nm:Nat->List Nat} (h:GoodT xs ks nm) {ord:List Nat} (hp:ord.Perm (p3_ ks.length)) (h0:ord[0]?=some 0):GoodT xs (zw_ ord ks) (fun k=>nm (ord.getD k 0)):=by
 have hlen:(zw_ ord ks).length=ks.length:=by unfold zw_;rw[pb_,hp.length_eq,q0_]
 have hord:∀ i,(hi:i < ord.length)->ord[i] < ks.length:=fun i hi=>p4_.mp (hp.mem_iff.mp (py_ hi))
 have hol:ord.length=ks.length:=by rw[hp.length_eq,q0_]
 refine⟨jlm_ h.toGoodW hp h0,fun i hi=>?_,fun i hi=>?_⟩
 ·rw[hlen] at hi
  have hio:i < ord.length:=by omega
  have e:(zw_ ord ks)[i].1.map (·.1)=(ks[ord[i]'hio]'(hord i hio)).1.map (·.1):=by
   have e0:(zw_ ord ks)[i]?=some ((kAt ks ord[i]).1.map fun p=>(p.1,ord.idxOf p.2),(kAt ks ord[i]).2):=by
    unfold zw_
    rw[ph_,pc_ hio];rfl
   rw[pc_ (by omega)] at e0
   rw[Option.some.inj e0,jak_ (hord i hio),qc_]
   rfl
  rw[e]
  exact h.uni _ (hord i hio)
 ·rw[hlen] at hi
  have hio:i < ord.length:=by omega
  have:ord.getD i 0=ord[i]:=by rw[pe_,pc_ hio];rfl
  show nm (ord.getD i 0)∈begs xs
  rw[this]
  exact h.inb _ (hord i hio)
theorem jqu_ (xs:List Pat):(begs xs).length<=1+(xs.map fun x=>x.1.length).sum:=by
 have h1:∀(ns:List (List Nat)) (s:List Nat) (k:Nat),(begS ns s k).length<=ns.length+k:=by
  intro ns s k
  unfold begS
  induction k with
  | zero=>simp
  | succ k ih =>
   rw[rt_,s4_,sf_,List.foldl_nil]
   generalize (p3_ k).foldl (fun ns j=>addN ns (s.take (j+1))) ns=m at ih ⊢
   unfold addN
   split
   ·omega
   ·rw[pj_,sy_];omega
 have h2:∀(xs:List Pat) (ns:List (List Nat)),(begA ns xs).length<=ns.length+(xs.map fun x=>x.1.length).sum:=by
  intro xs
  induction xs with
  | nil=>intro ns;simp[begA]
  | cons x xs ih =>
   intro ns
   unfold begA at ih ⊢
   rw[sf_,pf_,k7_]
   have:=ih (begS ns x.1 x.1.length)
   have:=h1 ns x.1 x.1.length
   omega
 exact h2 xs [[]]
end L2
namespace L2
open PySem PySem.Spec PyProof.Rows
def ordR (n:Nat):List Nat:=0::(p3_ (n - 1)).map fun k=>n - 1 - k
theorem vo_ {n:Nat} (h:0 < n):(ordR n).length=n:=by unfold ordR;rw[pz_,pb_,q0_];omega
theorem jku_ (n:Nat):(ordR n).Nodup:=by
 unfold ordR
 refine q6_.mpr ⟨fun h=>?_,?_⟩
 ·obtain⟨k,hk,e⟩:=qh_.mp h
  have:=p4_.mp hk
  omega
 ·rw[ld_,rp_]
  refine ww_ (fun{a b} ha hb h=>?_) (w8_ (n:=n - 1))
  have:=p4_.mp ha
  have:=p4_.mp hb
  omega
theorem v5_ {n:Nat} (h:0 < n):(ordR n).Perm (p3_ n):=ys_ (jku_ n) w8_ fun m=>by
 rw[p4_]
 unfold ordR
 rw[pt_,qh_]
 constructor
 ·rintro(rfl | ⟨k,hk,rfl⟩)
  ·exact h
  ·have:=p4_.mp hk
   omega
 ·intro hm
  by_cases h0:m=0
  ·exact .inl h0
  ·exact .inr ⟨n - 1 - m,p4_.mpr (by omega),by omega⟩
theorem jft_ {n i:Nat} (h:i < (ordR n).length):(ordR n)[i]=if i=0 then 0 else n - i:=by
 unfold ordR at h ⊢
 cases i with
 | zero=>rfl
 | succ i =>
  rw[pz_,pb_,q0_] at h
  simp only[su_,t1_,List.getElem_range]
  rw[if_neg (by omega)]
  omega
theorem jno_ {n m:Nat} (h1:1<=m) (h2:m < n):(ordR n).idxOf m=n - m:=by
 have hl:n - m < (ordR n).length:=by rw[vo_ (by omega)];omega
 have:=ld_.idxOf_getElem (jku_ n) (n - m) hl
 rw[jft_ hl,if_neg (by omega),show n - (n - m)=m by omega] at this
 exact this
theorem jmw_ {α:Type} (f:Nat->α) (l:List α) (k0:α) (h:∀ i (hi:i < (k0::l).length),f i=(k0::l)[i]):(ordR (k0::l).length).map f=k0::l.reverse:=by
 apply tz_
 ·rw[pb_,vo_ (by simp)];simp
 ·intro i h1 h2
  rw[t1_,jft_]
  rw[pb_,vo_ (by simp)] at h1
  by_cases h0:i=0
  ·subst h0
   rw[if_pos rfl,h 0 (by simp)];rfl
  ·rw[if_neg h0]
   have hl:i - 1 < l.length:=by rw[pz_] at h1;omega
   obtain⟨j,rfl⟩:∃ j,i=j+1:=⟨i - 1,by omega⟩
   rw[pz_]
   simp only[su_,List.getElem_reverse]
   have e1:l.length+1 - (j+1)=(l.length - 1 - j)+1:=by omega
   rw[h _ (by rw[pz_];omega)]
   simp only[e1,su_]
theorem joh_ {xs:List Pat} {k0:Kt} {kt:List Kt} {nm:Nat->List Nat} (h:GoodT xs (k0::kt) nm):zw_ (ordR (k0::kt).length) (k0::kt)=(k0::kt.reverse).map fun k=>(k.1.map fun p=>(p.1,(k0::kt).length - p.2),k.2):=by
 have e:=jmw_ (kAt (k0::kt)) kt k0 fun i hi=>jak_ hi
 rw[<- e,qc_]
 unfold zw_
 refine qo_ fun m hm=>?_
 have hm':m < (k0::kt).length:=p4_.mp ((v5_ (by simp)).mem_iff.mp hm)
 simp only[w6_]
 congr 1
 refine qo_ fun p hp=>?_
 rw[jak_ hm'] at hp
 obtain⟨h1,h2⟩:=h.ways hm' hp
 have h3:1<=p.2:=by
  rcases wj_ p.2 with z | z
  ·rw[z,h.z] at h2
   simp at h2
  ·exact z
 rw[jno_ h3 h1]
theorem jii_ {xs:List Pat} {ks:List Kt} {nm:Nat->List Nat} (h:GoodT xs ks nm):GoodT xs (zw_ (ordR ks.length) ks) (fun k=>nm ((ordR ks.length).getD k 0)):=jip_ h (v5_ h.pos) rfl
end L2
set_option maxHeartbeats 4000000
namespace K22
theorem _root_.L2.Room.mo_{k l:Nat} {A:PySem.Around} (h:L2.Room k A) (e:l<=k:=by first | decide | omega):L2.Room l A:=h.mono e
open PySem L2
local macro_rules | `(tactic| walk_at "f") => `(tactic| exact ⟨rfl,rfl,rfl,by decide +kernel,rfl,by decide +kernel,by decide +kernel⟩)
local macro_rules | `(tactic| walk_at "sc")=>`(tactic| first | assumption | omega | exact rfl | decide | exact szn (by omega) | (simp only[pz_,rj_,pb_,j1_] <;> omega) | trivial)
local macro_rules | `(tactic| walk_at "sq")=>`(tactic| first | assumption | exact jnv_ | exact jld_ | (exact jt_ (by assumption)) | (exact yx_ (by assumption)))
local macro_rules | `(tactic| walk_at "sl")=>`(tactic| first | assumption | exact SqL.of jb_ | exact SqL.of (by assumption))
local macro_rules | `(tactic| walk_at "st")=>`(tactic| first | assumption | exact SqT.of jb_ | exact SqT.of (by assumption))
local macro_rules | `(tactic| walk_at "lq")=>`(tactic| first | assumption | exact jpx_ | (exact xu_ (by assumption)))
local macro_rules | `(tactic| walk_at "at")=>`(tactic| first | exact jwr_ _ _ | exact jxj_ _ _ _ | exact jwc_ _ _ _ _ | exact jwn_ _ _ _ _ _ | assumption)
local macro_rules | `(tactic| walk_at "mu")=>`(tactic| first | (exact CMul.l (by omega) (by omega)) | (exact CMul.r (by omega) (by omega)) | (exact CMul.l (by decide) (by decide)) | (exact CMul.r (by decide) (by decide)))
local macro_rules | `(tactic| walk_at "sd")=>`(tactic| first | omega | (simp only[pj_,pz_,rj_,pb_,za_] <;> omega))
local macro_rules | `(tactic| walk_at "g1")=>`(tactic| first
 | (with_reducible refine jvw_ ?_) | (with_reducible refine jwv_ ?_) | (with_reducible refine jxd_ ?_) | (with_reducible refine i_op ?_) | ((with_reducible refine' jwb_ ?k1 ?_);(case k1=>exact rfl)) | (with_reducible refine i_c ?_)
 | (with_reducible refine jwg_ ?_) | (with_reducible refine jvl_ ?_) | (with_reducible refine jub_ ?_) | (with_reducible refine z1_ ?_) | (with_reducible refine jty_ ?_) | (with_reducible refine jug_ ?_) | (with_reducible refine i_bl ?_)
 | (with_reducible refine jxa_ ?_) | (with_reducible refine juu_ ?_) | ((with_reducible refine' i_fI ?k1 ?_);(case k1=>walk_at "sc")) | ((with_reducible refine' jvk_ ?k1 ?_);(case k1=>walk_at "mu"))
 | ((with_reducible refine' yd_ ?k1 ?k2 ?_);(case k1=>walk_at "sq");(case k2=>walk_at "at")) | (with_reducible refine jva_ ?_) | (with_reducible refine jwm_ ?_) | (with_reducible refine i_cb ?_) | (with_reducible refine jvp_ ?_)
 | (with_reducible refine jxk_ ?_) | (with_reducible refine i_or ?_) | (with_reducible refine jwz_ ?_) | (with_reducible refine juh_ ?_) | (with_reducible refine i_orV ?_) | (with_reducible refine i_notV ?_) | (with_reducible refine i_ifE ?_) | (with_reducible refine i_chain ?_)
 | (with_reducible refine i_un ?_) | (with_reducible refine jvu_ ?_) | (with_reducible refine i_sl ?_) | (with_reducible refine jnf_ ?_) | (with_reducible refine jvf_ ?_) | (with_reducible refine jxe_ ?_)
 | ((with_reducible refine' i_eq ?k1 ?_);(case k1=>exact rfl)) | ((with_reducible refine' i_ne ?k1 ?_);(case k1=>exact rfl)) | (with_reducible refine i_is ?_) | (with_reducible refine jrc_ ?_) | (with_reducible refine i_inS ?_)
 | ((with_reducible refine' juj_ ?k1 ?_);(case k1=>walk_at "sd")) | ((with_reducible refine' jnt_ ?k1 ?_);(case k1=>walk_at "sc")) | ((with_reducible refine' juw_ ?k1 ?_);(case k1=>walk_at "sq")) | (with_reducible refine i_1I ?_) | (with_reducible refine i_2I ?_) | (with_reducible refine i_intB ?_) | (with_reducible refine i_intI ?_)
 | ((with_reducible refine' jtx_ ?k1 ?_);(case k1=>walk_at "sd")) | ((with_reducible refine' jxh_ ?k1 ?_);(case k1=>walk_at "sd")) | ((with_reducible refine' joy_ ?k1 ?_);(case k1=>walk_at "sc")) | ((with_reducible refine' jtc_ ?k1 ?_);(case k1=>walk_at "sc")) | (with_reducible refine jtp_ ?_) | (with_reducible refine i_truI ?_) | (with_reducible refine i_SS ?_) | (with_reducible refine jxi_ ?_)
 | ((with_reducible refine' jtm_ ?k1 ?k2 ?_);(case k1=>first | assumption | exact jb_);(case k2=>walk_at "sc")) | (with_reducible refine jum_ ?_) | (with_reducible refine jts_ ?_) | ((with_reducible refine' i_r1 ?k1 ?_);(case k1=>omega)) | (with_reducible refine jvh_ ?_) | (with_reducible refine jtt_ ?_)
 | (with_reducible refine jud_ ?_) | (with_reducible refine i_bm ?_) | (with_reducible refine jvz_ ?_) | (with_reducible refine jxf_ ?_) | ((with_reducible refine' jwp_ ?k1 ?_);(case k1=>walk_at "sl")) | (with_reducible refine jxc_ ?_) | (with_reducible refine jvy_ ?_) | (with_reducible refine jtv_ ?_) | ((with_reducible refine' u9_ ?k1 ?_);(case k1=>walk_at "sl")) | ((with_reducible refine' jus_ ?k1 ?_);(case k1=>walk_at "st")) | (with_reducible refine jro_ ?_) | (with_reducible refine i_enum ?_) | (with_reducible refine i_enS ?_)
 | ((with_reducible refine' jup_ ?k1 ?_);(case k1=>assumption)) | ((with_reducible refine' jtf_ ?k1 ?k2 ?_);(case k1=>assumption);(case k2=>walk_at "at"))
 | (with_reducible refine jvv_ ?_) | (with_reducible refine jxl_ ?_) | (with_reducible refine i_retN ?_) | ((with_reducible refine' jkt_ ?k1 ?_);(case k1=>first | exact rfl | decide)) | ((with_reducible refine' jdf_ ?k1 ?_);(case k1=>first | exact rfl | decide)) | ((with_reducible refine' jww_ ?k1 ?_);(case k1=>intro z;cases z)) | ((with_reducible refine' jwk_ ?k1 ?_);(case k1=>exact rfl)) | ((with_reducible refine' i_sz ?k1 ?_);(case k1=>exact szc rfl)) | ((with_reducible refine' jvr_ ?k1 ?k2 ?_);(case k1=>first | exact rfl | (exact jjn_ (by assumption)) | (exact jks_ (by assumption)));(case k2=>exact rfl)) | ((with_reducible refine' i_r2 ?k1 ?_);(case k1=>omega)) | ((with_reducible show Ends.nx _ _ _);dsimp only) | ((with_reducible show Ends.rt _ _ _);dsimp only) | ((with_reducible refine' jtb_ ?k1 ?k2 ?_);(case k1=>first | assumption | exact jb_);(case k2=>first | exact rfl | (exact jox_ (by omega) (by omega)))))
local macro_rules | `(tactic| walk_at "go")=>`(tactic| repeat (walk_at "g1"))
seal L2.PSs L2.PS L2.PE L2.PT L2.PA L2.PI L2.PG L2.PTs L2.PGs L2.PO L2.PW
def top (i:Nat):Stmt:=PySem.Challenge.pw_breakwords_k22_whole_patterns_out_of_a_w.main.body.getD i (.Pass ⟨0,0,0,0⟩)
structure Txt (mg:Str->Option Value) (tk:Nat->Tok):Prop where
 z_len:mg "len"=none
 z_abs:mg "abs"=none
 z_all:mg "all"=none
 z_range:mg "range"=none
 z_enumerate:mg "enumerate"=none
 z_isinstance:mg "isinstance"=none
 z_tuple:mg "tuple"=none
 z_list:mg "list"=none
 z_bool:mg "bool"=none
 z_str:mg "str"=none
 z_int:mg "int"=none
 z_min:mg "min"=none
 z_max:mg "max"=none
 z_sorted:mg "sorted"=none
 z_zip:mg "zip"=none
 z_reversed:mg "reversed"=none
abbrev s_law_feed:Stmt:=top 13
theorem sc_law_feed:FnScope ["_law_script","_law_k","_law_cell","_law_left"] ["_law_script","_law_k"] (jl_ s_law_feed):=by walk_at "f"
abbrev s_law_next:Stmt:=top 14
theorem sc_law_next:FnScope ["_law_feed_here","_law_many","_law_digit","_law_mixed"] ["_law_feed_here","_law_many"] (jl_ s_law_next):=by walk_at "f"
abbrev s_law_alike:Stmt:=top 15
theorem sc_law_alike:FnScope ["_law_found","_law_due"] ["_law_found","_law_due"] (jl_ s_law_alike):=by walk_at "f"
section
variable {P:Program} {w:World} {K:pd_} {mg:Str->Option Value} {base:Heap} {f:Addr} {fd:FuncData} {tk:Nat->Tok}
theorem jet_ (T:Txt mg tk) (F:Fun K "_law_feed" "_law_feed" s_law_feed f fd):FnOk P w K mg base CX0 1 f fd ["_law_script","_law_k"] (jhy_ K):=by
 refine F.ok sc_law_feed (fun vs H Q E h=>?_) (fun cdv A outer s H vs Q E hr h=>?_)
 ·obtain⟨a,ns,k,rfl,_⟩:=h
  rfl
 obtain⟨a,ns,k,rfl,hl,hk0,hk1,q⟩:=h
 have nd:=sc_law_feed.nd
 refine⟨_,(jc_ (jj_ (i:=2) nd rfl (Or.inl rfl) pe_int)
  (jc_ (zg_ (jv_ o_gt (ji_ (zr_ (K:=K)) rfl T.z_len (by decide +kernel) (ja_ (pv 0) pa_nil)) pe_int (j0_ _))
   (jh_ (jj_ (i:=2) nd rfl (Or.inl rfl) (jr_ (jm_ (K:=K)) (pv 0) (jo_ uo_ (pv 1) (ji_ (zr_ (K:=K)) rfl T.z_len (by decide +kernel) (ja_ (pv 0) pa_nil))) (fun _ _=>rfl))))
   jy_)
  (jc_ (jj_ (i:=3) nd rfl (Or.inl rfl) (ji_ jwo_ rfl T.z_abs (by decide +kernel) (ja_ (pv 2) pa_nil)))
  (jc_ (zg_ (jv_ o_lt (pv 3) (jo_ jvs_ pe_int pe_int) (j0_ _))
   (jh_ (jj_ (i:=3) nd rfl (Or.inl rfl) pe_int))
   jy_)
  (jh_ (jq_ (zl_ (ja_ (pv 3) (ja_ (jo_ uo_ (jo_ j7_ (jo_ j7_ (pv 2) (jo_ jbg_ pe_int (pv 1))) pe_int) pe_int) (ja_ pe_int pa_nil)))))))))),?_⟩
 rw[show L2.start ["_law_script","_law_k","_law_cell","_law_left"] [.ref a,.int k]=[some (.ref a),some (.int k),none,none] from rfl]
 have fin:∀(cell left:Int),0<=left->∀ p,H p=none->Q (.ref p) (upd H p (.lst [.int left,.int ((cell+7919 * k+13) % 2147483399),.int 0])):=fun cell left h0 p hp =>
  q p _ hp ⟨left,_,0,jb_,h0,tp_ _ (by decide),tq_ _ (by decide),sn_ 0,sn_ 0⟩ ((Off.refl p H).upd _)
 have hlen:(ns.map V.int).length=ns.length:=pb_ _
 walk_at "go"
 refine iteD (fun c=>?_) (fun c=>?_)
 ·rw[hlen] at c
  walk_at "go"
  have hix:(k % (ns.length:Int)).toNat < ns.length:=by
   have h1:=tq_ k c
   have h2:=tp_ k (show (ns.length:Int)≠0 by omega)
   omega
  refine jtf_ (v:=.int ns[(k % (ns.length:Int)).toNat]) hl ?_ ?_
  ·rw[hlen]
   exact j8_ (tp_ k (by omega)) (by rw[ph_,pc_ hix];rfl)
  walk_at "go"
  refine iteD (fun c=>?_) (fun c=>?_)
  ·walk_at "go"
   exact(fun p hp=>fin _ 0 (sn_ 0) p hp)
  ·walk_at "go"
   refine(fun p hp=>fin _ _ ?_ p hp)
   split <;> omega
 ·walk_at "go"
  exact fun p hp=>fin 0 0 (sn_ 0) p hp
theorem jgv_ (F:Fun K "_law_next" "_law_next" s_law_next f fd):FnOk P w K mg base CX0 1 f fd ["_law_feed_here","_law_many"] xe_:=by
 refine F.ok sc_law_next (fun vs H Q E h=>?_) (fun cdv A outer s H vs Q E hr h=>?_)
 ·obtain⟨p,m,n,rfl,_⟩:=h
  rfl
 obtain⟨p,m,n,rfl,⟨a,b,c,h1,ha,hb0,hb1,hc0,hc1⟩,hn,hm0,hm1,q⟩:=h
 have nd:=sc_law_next.nd
 refine⟨_,(jc_ (zg_ (jv_ o_gt (jr_ (jm_ (K:=K)) (pv 0) pe_int (fun _ _=>rfl)) pe_int (j0_ _))
   (jc_ (jj_ (i:=2) nd rfl (Or.inl rfl) (jo_ uo_ (jr_ (jm_ (K:=K)) (pv 0) pe_int (fun _ _=>rfl)) (pv 1)))
  (jc_ (jiw_ (jo_ jnj_ (jr_ (jm_ (K:=K)) (pv 0) pe_int (fun _ _=>rfl)) (pv 1)) (jid_ (pv 0) pe_int jnp_))
  (jh_ (jq_ (pv 2)))))
   jy_)
  (jc_ (jiw_ (jo_ j7_ (jr_ (jm_ (K:=K)) (pv 0) pe_int (fun _ _=>rfl)) pe_int) (jid_ (pv 0) pe_int jnp_))
  (jc_ (jj_ (i:=3) nd rfl (Or.inl rfl) (jo_ uo_ (jo_ jbg_ (jo_ uo_ (jo_ j7_ (jo_ j7_ (jr_ (jm_ (K:=K)) (pv 0) pe_int (fun _ _=>rfl)) (jo_ jbg_ pe_int (jr_ (jm_ (K:=K)) (pv 0) pe_int (fun _ _=>rfl)))) pe_int) pe_int) pe_int) pe_int))
  (jc_ (jj_ (i:=3) nd rfl (Or.inl rfl) (jo_ uo_ (jo_ jbg_ (jo_ uo_ (jo_ j7_ (jo_ jbg_ (pv 3) pe_int) (jo_ jbg_ (jr_ (jm_ (K:=K)) (pv 0) pe_int (fun _ _=>rfl)) (jr_ (jm_ (K:=K)) (pv 0) pe_int (fun _ _=>rfl)))) pe_int) pe_int) pe_int))
  (jh_ (jq_ (jo_ uo_ (jo_ jnj_ (pv 3) pe_int) (pv 1)))))))),?_⟩
 rw[show L2.start ["_law_feed_here","_law_many","_law_digit","_law_mixed"] [.ref p,.int m]=[some (.ref p),some (.int m),none,none] from rfl]
 unfold y6_ at hn
 walk_at "go"
 refine iteD (fun c0=>?_) (fun c0=>?_)
 ·walk_at "go"
  exact q _ _ (tp_ _ (by omega)) (tq_ _ hm0) ⟨a / m,b,c,jb_,Int.ediv_nonneg ha (by omega),hb0,hb1,hc0,by omega⟩ ((Off.refl p H).upd _)
 ·walk_at "go"
  exact q _ _ (tp_ _ (by omega)) (tq_ _ hm0) ⟨a,b,c+1,jb_,ha,hb0,hb1,by omega,by omega⟩ ((Off.refl p H).upd _)
theorem vp_ (T:Txt mg tk) (F:Fun K "_law_alike" "_law_alike" s_law_alike f fd) (bF:Binds K fd ["_law_found","_law_due"] []) (mF:mg "_law_alike"=some (.ref f)) :
  ∀ n,FnOk P w K mg base CX0 n f fd ["_law_found","_law_due"] (vf_ n)
 | 0=>by
  have no:∀ vs H Q E,¬ vf_ 0 vs H Q E:=fun vs H Q E h=>by
   obtain⟨u,v,d,_,_,_,h0,_⟩:=h
   omega
  exact⟨fun vs H Q E h=>absurd h (no vs H Q E),fun A outer s H args us vs Q E _ _ _ _ h=>absurd h (no vs H Q E)⟩
 | n+1=>by
  have D_law_alike:Dn P w K mg base "_law_alike" n ["_law_found","_law_due"] (vf_ n):=⟨f,fd,mF,F.kp,bF,vp_ T F bF mF n⟩
  refine F.ok sc_law_alike (fun vs H Q E h=>?_) (fun cdv A outer s H vs Q E hr h=>?_)
  ·obtain⟨u,v,d,rfl,_⟩:=h
   rfl
  obtain⟨u,v,d,rfl,hu,hv,hd,hw,q⟩:=h
  have nd:=sc_law_alike.nd
  refine⟨_,(jc_ (zg_ (xb_ (ji_ ju_ rfl T.z_isinstance (by decide +kernel) (ja_ (pv 1) (ja_ (zy_ (ja_ (zj_ (v:=.ty "tuple") rfl T.z_tuple (by decide +kernel) rfl) (ja_ (zj_ (v:=.ty "list") rfl T.z_list (by decide +kernel) rfl) pa_nil))) pa_nil))) (fun _=>rfl))
   (jc_ (zg_ (PW.pt (jko_ (jv_ (o_ne hr.units) (ji_ ju_ rfl T.z_isinstance (by decide +kernel) (ja_ (pv 1) (ja_ (zj_ (v:=.ty "tuple") rfl T.z_tuple (by decide +kernel) rfl) pa_nil))) (ji_ ju_ rfl T.z_isinstance (by decide +kernel) (ja_ (pv 0) (ja_ (zj_ (v:=.ty "tuple") rfl T.z_tuple (by decide +kernel) rfl) pa_nil))) (j0_ _)) (jem_ (jv_ (o_ne hr.units) (ji_ ju_ rfl T.z_isinstance (by decide +kernel) (ja_ (pv 1) (ja_ (zj_ (v:=.ty "list") rfl T.z_list (by decide +kernel) rfl) pa_nil))) (ji_ ju_ rfl T.z_isinstance (by decide +kernel) (ja_ (pv 0) (ja_ (zj_ (v:=.ty "list") rfl T.z_list (by decide +kernel) rfl) pa_nil))) (j0_ _)))))
   (jh_ (jq_ pe_bl))
   jy_)
  (jc_ (zg_ (jv_ (o_ne hr.units) (ji_ (zr_ (K:=K)) rfl T.z_len (by decide +kernel) (ja_ (pv 0) pa_nil)) (ji_ (zr_ (K:=K)) rfl T.z_len (by decide +kernel) (ja_ (pv 1) pa_nil)) (j0_ _))
   (jh_ (jq_ pe_bl))
   jy_)
  (jh_ (jq_ (ji_ (jvx_ rfl) rfl T.z_all (by decide +kernel) (ja_ (z3_ ["_law_found","_law_due","_law_k"] [some 0,some 1,none] rfl (by kernel_rfl) rfl (zd_ rfl T.z_range (ja_ (ji_ (zr_ (K:=K)) rfl T.z_len (by decide +kernel) (ja_ (pv 1) pa_nil)) pa_nil)) (fun _ _ _ _=>(jn_ (i:=2) (show (["_law_found","_law_due","_law_k"]:List Str).Nodup by decide +kernel) rfl (Or.inl rfl) (Or.inr rfl))) (fun _ _ _ _=>z4_) (fun _ _ _ _=>(jg_ D_law_alike hr.mo_ rfl (ja_ (jr_ (jm_ (K:=K)) (pv 0) (pv 2) (fun _ _=>rfl)) (ja_ (jr_ (jm_ (K:=K)) (pv 1) (pv 2) (fun _ _=>rfl)) pa_nil))))) pa_nil))))))
   jy_)
  (jc_ (zg_ (PW.pt (jko_ (jv_ o_is (pv 1) xj_ (j0_ _)) (jem_ (jv_ o_is (pv 0) xj_ (j0_ _)))))
   (jh_ (jq_ (jax_ (vg_ o_is (pv 1) xj_ (j0_ _)) (jeg_ (vg_ o_is (pv 0) xj_ (j0_ _))))))
   jy_)
  (jc_ (zg_ (PW.pt (jko_ (xb_ (ji_ ju_ rfl T.z_isinstance (by decide +kernel) (ja_ (pv 1) (ja_ (zj_ (v:=.ty "bool") rfl T.z_bool (by decide +kernel) rfl) pa_nil))) (fun _=>rfl)) (jem_ (xb_ (ji_ ju_ rfl T.z_isinstance (by decide +kernel) (ja_ (pv 0) (ja_ (zj_ (v:=.ty "bool") rfl T.z_bool (by decide +kernel) rfl) pa_nil))) (fun _=>rfl)))))
   (jh_ (jq_ (jax_ (ji_ ju_ rfl T.z_isinstance (by decide +kernel) (ja_ (pv 1) (ja_ (zj_ (v:=.ty "bool") rfl T.z_bool (by decide +kernel) rfl) pa_nil))) (jax_ (ji_ ju_ rfl T.z_isinstance (by decide +kernel) (ja_ (pv 0) (ja_ (zj_ (v:=.ty "bool") rfl T.z_bool (by decide +kernel) rfl) pa_nil))) (jeg_ (vg_ (o_eq hr.units) (pv 0) (pv 1) (j0_ _)))))))
   jy_)
  (jc_ (zg_ (xb_ (ji_ ju_ rfl T.z_isinstance (by decide +kernel) (ja_ (pv 1) (ja_ (zj_ (v:=.ty "str") rfl T.z_str (by decide +kernel) rfl) pa_nil))) (fun _=>rfl))
   (jh_ (jq_ (jax_ (ji_ ju_ rfl T.z_isinstance (by decide +kernel) (ja_ (pv 0) (ja_ (zj_ (v:=.ty "str") rfl T.z_str (by decide +kernel) rfl) pa_nil))) (jeg_ (vg_ (o_eq hr.units) (pv 0) (pv 1) (j0_ _))))))
   jy_)
  (jh_ (jq_ (jax_ (ji_ ju_ rfl T.z_isinstance (by decide +kernel) (ja_ (pv 0) (ja_ (zj_ (v:=.ty "int") rfl T.z_int (by decide +kernel) rfl) pa_nil))) (jeg_ (vg_ (o_eq hr.units) (pv 0) (pv 1) (j0_ _)))))))))),?_⟩
  rw[show L2.start ["_law_found","_law_due"] [u,v]=[some (u),some (v)] from rfl]
  walk_at "go"
  intro p hp
  walk_at "go"
  have s1:Same H (upd H p (.tup [.ty "tuple",.ty "list"])):=jd_ hp _
  have hu1:=Is.same s1 hu
  have hv1:=Is.same s1 hv
  cases d with
  | non =>
   simp only[Is] at hu hv
   subst hu hv
   refine vw_ (t:="NoneType") (T:="tuple") (T':="list") rfl jb_ ⟨rfl,rfl⟩ ?_
   walk_at "go"
   exact q _ s1
  | bl b =>
   simp only[Is] at hu hv
   subst hu hv
   refine vw_ (t:="bool") (T:="tuple") (T':="list") rfl jb_ ⟨rfl,rfl⟩ ?_
   walk_at "go"
   rw[decide_eq_true rfl]
   exact q _ s1
  | int i =>
   simp only[Is] at hu hv
   subst hu hv
   refine vw_ (t:="int") (T:="tuple") (T':="list") rfl jb_ ⟨rfl,rfl⟩ ?_
   walk_at "go"
   rw[decide_eq_true rfl]
   exact q _ s1
  | str x =>
   simp only[Is] at hu hv
   subst hu hv
   refine vw_ (t:="str") (T:="tuple") (T':="list") rfl jb_ ⟨rfl,rfl⟩ ?_
   walk_at "go"
   rw[decide_eq_true rfl]
   exact q _ s1
  | tup ds =>
   simp only[Is] at hu1 hv1
   obtain⟨a,xs,rfl,ha,hxs⟩:=hu1
   obtain⟨b,ys,rfl,hb,hys⟩:=hv1
   have l1:=hxs.length
   have l2:=hys.length
   simp only[wid,dep] at hw hd
   refine vw_ (t:="tuple") (T:="tuple") (T':="list") (jjn_ hb) jb_ ⟨rfl,rfl⟩ ?_
   walk_at "go"
   refine jdf_ (by rw[l1,l2,decide_eq_true rfl];rfl) ?_
   have hl3:(ys.length:Int)<=100000:=by omega
   walk_at "go"
   intro r hr0
   have s2:Same (upd H p (.tup [.ty "tuple",.ty "list"])) (upd (upd H p (.tup [.ty "tuple",.ty "list"])) r (.lst [])):=jd_ hr0 _
   refine z0_ (fun i acc σ H'=>∃ v,σ=[some (.ref a),some (.ref b),v]/\acc=(pv_ i true).map V.bl/\Same (upd H p (.tup [.ty "tuple",.ty "list"])) H'/\H' r=some (.lst acc))
    ⟨none,rfl,rfl,s2,jb_⟩ (fun i acc σ H' ⟨_,_,e,_,e2⟩=>⟨e2,by rw[e];simp⟩) (szn (by omega)) ?_ ?_
   ·rintro i acc σ H' hi ⟨v,rfl,rfl,s3,e3⟩
    have hi':i < ds.length:=by omega
    obtain⟨x,d,hx,hd1,hI⟩:=IsL.get (IsL.same s3 hxs) hi'
    obtain⟨y,d',hy,hd2,hJ⟩:=IsL.get (IsL.same s3 hys) hi'
    rw[hd1] at hd2
    cases hd2
    have hax:=s3 _ _ ha
    have hby:=s3 _ _ hb
    walk_at "go"
    refine yd_ (yx_ hax) (j8_ (by omega) (by simpa using hx)) ?_
    walk_at "go"
    refine yd_ (yx_ hby) (j8_ (by omega) (by simpa using hy)) ?_
    walk_at "go"
    have hdd:=jjg_ hd1
    have hww:=jkr_ hd1
    refine⟨x,y,d,rfl,hI,hJ,by omega,by omega,fun H4 s4=>⟨s4 _ _ e3,?_⟩⟩
    refine⟨_,rfl,?_,fun c o e=>?_,jb_⟩
    ·rw[kw_,pw_];rfl
    ·have hcr:c≠r:=fun z=>by rw[z,hr0] at e;cases e
     rw[je_ hcr]
     exact s4 _ _ (s3 _ _ e)
   ·rintro acc σ H' ⟨v,rfl,rfl,s3,e3⟩
    walk_at "go"
    refine jpo_ (xu_ e3) ?_
    walk_at "go"
    have e:(pv_ (0+(ys.length:Int) - 0).toNat true).all id=true:=by simp
    simp only[List.all_replicate]
    have e5:∀ k:Nat,(if k=0 then true else id true)=true:=fun k=>by split <;> rfl
    rw[e5]
    exact q _ fun c o k=>s3 _ _ (s1 _ _ k)
  | lst ds =>
   simp only[Is] at hu1 hv1
   obtain⟨a,xs,rfl,ha,hxs⟩:=hu1
   obtain⟨b,ys,rfl,hb,hys⟩:=hv1
   have l1:=hxs.length
   have l2:=hys.length
   simp only[wid,dep] at hw hd
   refine vw_ (t:="list") (T:="tuple") (T':="list") (jks_ hb) jb_ ⟨rfl,rfl⟩ ?_
   walk_at "go"
   refine jdf_ (by rw[l1,l2,decide_eq_true rfl];rfl) ?_
   have hl3:(ys.length:Int)<=100000:=by omega
   walk_at "go"
   intro r hr0
   have s2:Same (upd H p (.tup [.ty "tuple",.ty "list"])) (upd (upd H p (.tup [.ty "tuple",.ty "list"])) r (.lst [])):=jd_ hr0 _
   refine z0_ (fun i acc σ H'=>∃ v,σ=[some (.ref a),some (.ref b),v]/\acc=(pv_ i true).map V.bl/\Same (upd H p (.tup [.ty "tuple",.ty "list"])) H'/\H' r=some (.lst acc))
    ⟨none,rfl,rfl,s2,jb_⟩ (fun i acc σ H' ⟨_,_,e,_,e2⟩=>⟨e2,by rw[e];simp⟩) (szn (by omega)) ?_ ?_
   ·rintro i acc σ H' hi ⟨v,rfl,rfl,s3,e3⟩
    have hi':i < ds.length:=by omega
    obtain⟨x,d,hx,hd1,hI⟩:=IsL.get (IsL.same s3 hxs) hi'
    obtain⟨y,d',hy,hd2,hJ⟩:=IsL.get (IsL.same s3 hys) hi'
    rw[hd1] at hd2
    cases hd2
    have hax:=s3 _ _ ha
    have hby:=s3 _ _ hb
    walk_at "go"
    refine yd_ (jt_ hax) (j8_ (by omega) (by simpa using hx)) ?_
    walk_at "go"
    refine yd_ (jt_ hby) (j8_ (by omega) (by simpa using hy)) ?_
    walk_at "go"
    have hdd:=jjg_ hd1
    have hww:=jkr_ hd1
    refine⟨x,y,d,rfl,hI,hJ,by omega,by omega,fun H4 s4=>⟨s4 _ _ e3,?_⟩⟩
    refine⟨_,rfl,?_,fun c o e=>?_,jb_⟩
    ·rw[kw_,pw_];rfl
    ·have hcr:c≠r:=fun z=>by rw[z,hr0] at e;cases e
     rw[je_ hcr]
     exact s4 _ _ (s3 _ _ e)
   ·rintro acc σ H' ⟨v,rfl,rfl,s3,e3⟩
    walk_at "go"
    refine jpo_ (xu_ e3) ?_
    walk_at "go"
    have e:(pv_ (0+(ys.length:Int) - 0).toNat true).all id=true:=by simp
    simp only[List.all_replicate]
    have e5:∀ k:Nat,(if k=0 then true else id true)=true:=fun k=>by split <;> rfl
    rw[e5]
    exact q _ fun c o k=>s3 _ _ (s1 _ _ k)
end
abbrev s_law_letters:Stmt:=top 16
theorem sc_law_letters:FnScope ["_law_feed_here","_law_every","_law_at"] ["_law_feed_here"] (jl_ s_law_letters):=by walk_at "f"
abbrev s_law_word:Stmt:=top 17
theorem sc_law_word:FnScope ["_law_feed_here","_law_letters_here","_law_most"] ["_law_feed_here","_law_letters_here","_law_most"] (jl_ s_law_word):=by walk_at "f"
section
variable {P:Program} {w:World} {K:pd_} {mg:Str->Option Value} {base:Heap} {f:Addr} {fd:FuncData} {tk:Nat->Tok}
theorem jbn_ (T:Txt mg tk) (F:Fun K "_law_letters" "_law_letters" s_law_letters f fd) (D_law_next:Dn P w K mg base "_law_next" 1 ["_law_feed_here","_law_many"] xe_):FnOk P w K mg base CX0 2 f fd ["_law_feed_here"] ud_:=by
 refine F.ok sc_law_letters (fun vs H Q E h=>?_) (fun cdv A outer s H vs Q E hr h=>?_)
 ·obtain⟨p,n,rfl,_⟩:=h
  rfl
 obtain⟨p,n,rfl,hf,hn,q⟩:=h
 have nd:=sc_law_letters.nd
 refine⟨_,(jc_ (jj_ (i:=1) nd rfl (Or.inl rfl) pe_str)
  (jc_ (zg_ (jv_ (o_eq hr.units) (jg_ D_law_next hr.mo_ rfl (ja_ (pv 0) (ja_ pe_int pa_nil))) pe_int (j0_ _))
   (jh_ (jq_ (pv 1)))
   jy_)
  (jc_ (jj_ (i:=2) nd rfl (Or.inl rfl) (jg_ D_law_next hr.mo_ rfl (ja_ (pv 0) (ja_ pe_int pa_nil))))
  (jh_ (jq_ (zc_ (yb_ (K:=K)) (pv 1) (j9_ (pv 2)) (j9_ (jo_ j7_ (jo_ j7_ (pv 2) pe_int) (jg_ D_law_next hr.mo_ rfl (ja_ (pv 0) (ja_ pe_int pa_nil))))))))))),?_⟩
 rw[show L2.start ["_law_feed_here","_law_every","_law_at"] [.ref p]=[some (.ref p),none,none] from rfl]
 rw[jwl_]
 walk_at "go"
 refine⟨p,8,n,rfl,hf,by omega,by decide,by decide,fun d H1 hd0 hd1 hf1 o1=>?_⟩
 walk_at "go"
 refine iteD (fun c=>?_) (fun c=>?_)
 ·walk_at "go"
  exact q LETL H1 jfs_ (by decide) (by decide) (hf1.mono (by omega)) o1
 ·walk_at "go"
  refine⟨p,23,n+1,rfl,hf1,by omega,by decide,by decide,fun at_ H2 ha0 ha1 hf2 o2=>?_⟩
  walk_at "go"
  refine⟨p,3,n+1+1,rfl,hf2,by omega,by decide,by decide,fun d3 H3 hb0 hb1 hf3 o3=>?_⟩
  walk_at "go"
  rw[jjf_]
  have hl:LETL.length=26:=rfl
  have hc:=x9_ LETL (some at_) (some (at_+2+d3))
  rw[hl] at hc
  have e1:sx 26 0 (some at_)=at_.toNat:=by simp only[sx];rw[if_neg (by omega)];omega
  have e2:sx 26 26 (some (at_+2+d3))=min (at_+2+d3).toNat 26:=by simp only[sx];rw[if_neg (by omega)]
  rw[e1,e2] at hc
  exact q _ H3 (jrs_ jfs_ _ _) (by omega) (by omega) (hf3.mono (by omega)) ((o1.trans o2).trans o3)
theorem jfc_ (T:Txt mg tk) (F:Fun K "_law_word" "_law_word" s_law_word f fd) (D_law_next:Dn P w K mg base "_law_next" 1 ["_law_feed_here","_law_many"] xe_):FnOk P w K mg base CX0 2 f fd ["_law_feed_here","_law_letters_here","_law_most"] jej_:=by
 refine F.ok sc_law_word (fun vs H Q E h=>?_) (fun cdv A outer s H vs Q E hr h=>?_)
 ·obtain⟨p,n,l,m,rfl,_⟩:=h
  rfl
 obtain⟨p,n,l,m,rfl,hf,hn,hl,hl1,hl2,hm1,hm2,q⟩:=h
 have nd:=sc_law_word.nd
 refine⟨_,(jh_ (jq_ (ya_ (K:=K) kf_ PySem.F.slot_str_join PySem.F.type_str_join jrr_ pe_str (ja_ (z3_ ["_law_letters_here","_law_feed_here","_law_k"] [some 1,some 0,none] rfl (by kernel_rfl) rfl (zd_ rfl T.z_range (ja_ (jo_ j7_ pe_int (jg_ D_law_next hr.mo_ rfl (ja_ (pv 0) (ja_ (pv 2) pa_nil)))) pa_nil)) (fun _ _ _ _=>(jn_ (i:=2) (show (["_law_letters_here","_law_feed_here","_law_k"]:List Str).Nodup by decide +kernel) rfl (Or.inl rfl) (Or.inr rfl))) (fun _ _ _ _=>z4_) (fun _ _ _ _=>(jr_ (jm_ (K:=K)) (pv 0) (jg_ D_law_next hr.mo_ rfl (ja_ (pv 1) (ja_ (ji_ (zr_ (K:=K)) rfl T.z_len (by decide +kernel) (ja_ (pv 0) pa_nil)) pa_nil))) (fun _ _=>rfl)))) pa_nil)))),?_⟩
 rw[show L2.start ["_law_feed_here","_law_letters_here","_law_most"] [.ref p,.str (S l),.int (m:Int)]=[some (.ref p),some (.str (S l)),some (.int (m:Int))] from rfl]
 rw[u0_]
 walk_at "go"
 refine⟨p,m,n,rfl,hf,by omega,by omega,by omega,fun d H1 hd0 hd1 hf1 o1=>?_⟩
 walk_at "go"
 intro r hr0
 have k1:Kept p H (upd H1 r (.lst [])):=o1.kept.new hr0 _
 have pr:p≠r:=by
  obtain⟨o,e⟩:=hf1.some
  exact jf_ e hr0
 refine z0_ (fun i acc σ H'=>∃(v:Option V) (ws:List Nat),σ=[some (.str (S l)),some (.ref p),v]/\acc=(ws.map fun c=>V.str (S [c]))/\ws.length=i/\Low ws/\FeedAt H' p (n+1+i)/\Kept p H H'/\H' r=some (.lst acc))
  ⟨none,[],rfl,rfl,rfl,(fun c hc=>nomatch hc),hf1.new hr0,k1,jb_⟩ (fun i acc σ H' ⟨_,ws,_,e,e1,_,_,_,e2⟩=>⟨e2,by rw[e,pb_];omega⟩) (szn (by omega)) ?_ ?_
 ·rintro i acc σ H' hi ⟨v,ws,rfl,rfl,hw1,hw2,hf2,k2,e2⟩
  have hll:(S l).length<=sizeLine:=szn (by rw[j1_];omega)
  walk_at "go"
  refine⟨p,_,n+1+i,rfl,hf2,by omega,by omega,by omega,fun c H3 hc0 hc1 hf3 o3=>?_⟩
  have hcl:c.toNat < l.length:=by omega
  refine jsg_ (c:=l[c.toNat]) hll (j8_ hc0 (by rw[jnx_];simp[hcl])) ?_
  have e3:H3 r=some (.lst (ws.map fun c=>V.str (S [c]))):=(o3 r pr.symm).trans e2
  refine⟨e3,_,ws++[l[c.toNat]],rfl,by rw[pw_];rfl,by rw[pj_,hw1];rfl,jiq_ hw2 (fun x hx=>?_),?_,?_,jb_⟩
  ·have:x=l[c.toNat]:=by simpa using hx
   rw[this]
   exact hl _ (py_ _)
  ·obtain⟨a1,b1,c1,g1,g2⟩:=hf3
   exact⟨a1,b1,c1,by rw[je_ pr];exact g1,g2⟩
  ·intro b o hb e
   have hbr:b≠r:=fun z=>by
    subst z
    have:=k1
    by_cases hz:H b=none
    ·rw[hz] at e;cases e
    ·have e4:=o1 b hb
     rw[hr0] at e4
     exact hz e4.symm
   rw[je_ hbr]
   exact(o3 b hb).trans (k2 b o hb e)
 ·rintro acc σ H' ⟨v,ws,rfl,rfl,hw1,hw2,hf2,k2,e2⟩
  walk_at "go"
  have hs:=jrm_ ws
  refine jtu_ (ys:=ws.map fun c=>S [c]) (by rw[<- jrd_];exact xu_ e2) ?_ ?_
  ·rw[hs,pb_,j1_]
   simp only[rj_,Nat.mul_zero]
   omega
  ·rw[jie_]
   walk_at "go"
   exact q ws H' hw2 (by omega) (by omega) (hf2.mono (by omega)) k2
end
abbrev s_law_numbers:Stmt:=top 18
theorem sc_law_numbers:FnScope ["_law_feed_here","_law_signs","_law_few","_law_numbers_here","_law_place","_law_number"] ["_law_feed_here","_law_signs","_law_few"] (jl_ s_law_numbers):=by walk_at "f"
abbrev s_law_pattern:Stmt:=top 19
theorem sc_law_pattern:FnScope ["_law_feed_here","_law_letters_here","_law_word_here","_law_most","_law_text","_law_at","_law_signs"] ["_law_feed_here","_law_letters_here","_law_word_here","_law_most"] (jl_ s_law_pattern):=by walk_at "f"
abbrev s_law_patterns:Stmt:=top 20
theorem sc_law_patterns:FnScope ["_law_feed_here","_law_letters_here","_law_words","_law_most","_law_found","_law_k","_law_word_here"] ["_law_feed_here","_law_letters_here","_law_words","_law_most"] (jl_ s_law_patterns):=by walk_at "f"
def xm_:Sp:=fun vs H Q _=>∃(p:Addr) (n:Nat) (s:List Nat) (few:Int),vs=[.ref p,.str (S s),.int few]/\FeedAt H p n/\n+100 < y6_/\s.length<=30/\0 < few/\few < 1000 /\
 ∀(t:Addr) (ns:List Int) (H':Hp),H' t=some (.tup (ns.map V.int))->ns.length=s.length+1->(∀(j:Nat) v,ns[j]?=some v->0<=v/\v<=9/\(j=0->s.head?=some 46->v=0)/\(j=s.length->s.getLast?=some 46->v=0))->FeedAt H' p (n+100)->Kept p H H'->Q (.ref t) H'
def xq_:Sp:=fun vs H Q _=>∃(p:Addr) (n:Nat) (l w:List Nat) (m:Nat),vs=[.ref p,.str (S l),.str (S w),.int (m:Int)]/\FeedAt H p n/\n+200 < y6_/\Low l/\1<=l.length/\l.length<=26/\Low w/\1<=w.length/\w.length<=20/\1<=m/\m<=22 /\
 ∀(v:V) (x:Pat) (H':Hp),Is H' v (patD x)->GP x->FeedAt H' p (n+200)->Kept p H H'->Q v H'
def GW (w:List Nat):Prop:=Low w/\1<=w.length/\w.length<=20
def jhd_:Sp:=fun vs H Q _=>∃(p:Addr) (n:Nat) (l:List Nat) (a:Addr) (ws:List (List Nat)) (m:Nat),vs=[.ref p,.str (S l),.ref a,.int (m:Int)]/\FeedAt H p n/\n+300 * m+300 < y6_/\Low l/\1<=l.length/\l.length<=26 /\
 H a=some (.lst (ws.map fun w=>V.str (S w)))/\1<=ws.length/\ws.length<=100/\(∀ w∈ws,GW w)/\m<=100/\a≠p /\
 ∀(r:Addr) (ys:List V) (xs:List Pat) (H':Hp),H' r=some (.lst ys)->L2.IsL H' ys (xs.map patD)->(∀ x∈xs,GP x)->xs.length<=m->FeedAt H' p (n+300 * m+300)->Kept p H H'->H r=none->Q (.ref r) H'
section
variable {P:Program} {w:World} {K:pd_} {mg:Str->Option Value} {base:Heap} {f:Addr} {fd:FuncData} {tk:Nat->Tok}
theorem u5_ (T:Txt mg tk) (F:Fun K "_law_numbers" "_law_numbers" s_law_numbers f fd) (D_law_next:Dn P w K mg base "_law_next" 1 ["_law_feed_here","_law_many"] xe_):FnOk P w K mg base CX0 2 f fd ["_law_feed_here","_law_signs","_law_few"] xm_:=by
 refine F.ok sc_law_numbers (fun vs H Q E h=>?_) (fun cdv A outer s H vs Q E hr h=>?_)
 ·obtain⟨p,n,s,few,rfl,_⟩:=h
  rfl
 obtain⟨p,n,sg,few,rfl,hf,hn,hs,hfew,hfew2,q⟩:=h
 have nd:=sc_law_numbers.nd
 refine⟨_,(jc_ (jj_ (i:=3) nd rfl (Or.inl rfl) (zl_ pa_nil))
  (jc_ (zh_ qi_ rfl (zd_ rfl T.z_range (ja_ (jo_ j7_ (ji_ (zr_ (K:=K)) rfl T.z_len (by decide +kernel) (ja_ (pv 1) pa_nil)) pe_int) pa_nil)) (jn_ (i:=4) nd rfl (Or.inl rfl))
   (jc_ (jj_ (i:=5) nd rfl (Or.inl rfl) pe_int)
  (jc_ (zg_ (jv_ (o_eq hr.units) (jg_ D_law_next hr.mo_ rfl (ja_ (pv 0) (ja_ (pv 2) pa_nil))) pe_int (j0_ _))
   (jh_ (jj_ (i:=5) nd rfl (Or.inl rfl) (jo_ j7_ pe_int (jg_ D_law_next hr.mo_ rfl (ja_ (pv 0) (ja_ pe_int pa_nil))))))
   jy_)
  (jc_ (zg_ (PW.pt (jko_ (PW.pt (jhf_ (jv_ (o_eq hr.units) (pv 4) pe_int (j0_ _)) (jdo_ (jv_ (o_eq hr.units) (zc_ (yb_ (K:=K)) (pv 1) ye_ (j9_ pe_int)) pe_str (j0_ _))))) (jem_ (PW.pt (jhf_ (jv_ (o_eq hr.units) (pv 4) (ji_ (zr_ (K:=K)) rfl T.z_len (by decide +kernel) (ja_ (pv 1) pa_nil)) (j0_ _)) (jdo_ (jv_ (o_eq hr.units) (zc_ (yb_ (K:=K)) (pv 1) (j9_ (jjv_ jkv_ pe_int)) ye_) pe_str (j0_ _))))))))
   (jh_ (jj_ (i:=5) nd rfl (Or.inl rfl) pe_int))
   jy_)
  (jh_ (z2_ (ya_ (K:=K) qg_ q4_ q5_ zz_ (pv 3) (ja_ (pv 5) pa_nil))))))))
  (jh_ (jq_ (zq_ vk_ rfl T.z_tuple (by decide +kernel) (ja_ (pv 3) pa_nil)))))),?_⟩
 rw[show L2.start ["_law_feed_here","_law_signs","_law_few","_law_numbers_here","_law_place","_law_number"] [.ref p,.str (S sg),.int few]=[some (.ref p),some (.str (S sg)),some (.int few),none,none,none] from rfl]
 rw[jky_]
 walk_at "go"
 intro a ha
 have pa:p≠a:=by obtain⟨o,e⟩:=hf.some;exact jf_ e ha
 walk_at "go"
 refine yh_ (fun i σ H'=>∃(v4 v5:Option V) (ns:List Int),σ=[some (.ref p),some (.str (S sg)),some (.int few),some (.ref a),v4,v5]/\ns.length=i/\(∀(j:Nat) v,ns[j]?=some v->0<=v/\v<=9/\(j=0->sg.head?=some 46->v=0)/\(j=sg.length->sg.getLast?=some 46->v=0))/\FeedAt H' p (n+2 * i)/\Kept p H H'/\H' a=some (.lst (ns.map V.int)))
  ⟨none,none,[],rfl,rfl,(fun j v e=>by simp at e),hf.new ha,(Kept.refl p H).new ha _,jb_⟩ ?_ ?_
 ·rintro i σ H1 hi ⟨v4,v5,ns,rfl,hl,hns,hf1,k1,e1⟩
  walk_at "go"
  refine⟨p,few,n+2 * i,rfl,hf1,by omega,hfew,by omega,fun d H2 hd0 hd1 hf2 o2=>?_⟩
  have key:∀(num:Int) (H3:Hp),0<=num->num<=9->FeedAt H3 p (n+2 * i+2)->Kept p H H3->H3 a=some (.lst (ns.map V.int)) ->
    ∀(b:Bool),(b=false->(i=0->sg.head?=some 46->num=0)/\(i=sg.length->sg.getLast?=some 46->num=0)) ->
    ∃(v4 v5:Option V) (ns':List Int),[some (V.ref p),some (.str (S sg)),some (.int few),some (.ref a),some (.int (0+(i:Int))),some (.int (if b then 0 else num))]=[some (.ref p),some (.str (S sg)),some (.int few),some (.ref a),v4,v5]/\ns'.length=i+1/\(∀(j:Nat) v,ns'[j]?=some v->0<=v/\v<=9/\(j=0->sg.head?=some 46->v=0)/\(j=sg.length->sg.getLast?=some 46->v=0)) /\
     FeedAt (upd H3 a (.lst (ns.map V.int++[.int (if b then 0 else num)]))) p (n+2 * (i+1))/\Kept p H (upd H3 a (.lst (ns.map V.int++[.int (if b then 0 else num)])))/\(upd H3 a (.lst (ns.map V.int++[.int (if b then 0 else num)]))) a=some (.lst (ns'.map V.int)):=by
   intro num H3 h0 h9 hf3 k3 e3 b hb
   refine⟨_,_,ns++[if b then 0 else num],rfl,by simp[hl],fun j v e=>?_,?_,fun c o hc e=>?_,by rw[jb_,pw_];rfl⟩
   ·by_cases hj:j < ns.length
    ·rw[s7_ hj] at e
     exact hns j v e
    ·have hj2:j=ns.length:=by
      have:=(pl_.mp e).1
      simp at this;omega
     subst hj2
     rw[s5_ (pg_ _),Nat.sub_self] at e
     simp only[List.getElem?_cons_zero,lc_] at e
     subst e
     cases b with
     | true=>exact⟨sn_ 0,(by show (0:Int)<=9;decide),fun _ _=>rfl,fun _ _=>rfl⟩
     | false=>exact⟨h0,h9,fun z=>(hb rfl).1 (by omega),fun z=>(hb rfl).2 (by omega)⟩
   ·obtain⟨a1,b1,c1,g1,g2⟩:=hf3
    exact⟨a1,b1,c1,by rw[je_ pa];exact g1,by omega⟩
   ·have hca:c≠a:=fun z=>by rw[z,ha] at e;cases e
    rw[je_ hca];exact k3 c o hc e
  have e2:H2 a=some (.lst (ns.map V.int)):=(o2 a pa.symm).trans e1
  have hlen2:(ns.map V.int).length < 1000000:=by rw[pb_];omega
  have hz:∀(num:Int) (H3:Hp),0<=num->num<=9->FeedAt H3 p (n+2 * i+2)->Kept p H H3->H3 a=some (.lst (ns.map V.int))->True:=fun _ _ _ _ _ _ _=>trivial
  walk_at "go"
  refine iteD (fun c=>?_) (fun c=>?_)
  ·walk_at "go"
   refine⟨p,9,n+2 * i+1,rfl,hf2,by omega,by decide,by decide,fun d2 H3 hg0 hg1 hf3 o3=>?_⟩
   have e3:H3 a=some (.lst (ns.map V.int)):=(o3 a pa.symm).trans e2
   have kk:=key (1+d2) H3 (by omega) (by omega) hf3 ((k1.off o2).off o3) e3
   walk_at "go"
   refine iteD (fun c1=>?_) (fun c1=>?_)
   ·walk_at "go"
    refine iteD (fun c2=>?_) (fun c2=>?_)
    ·walk_at "go"
     exact kk true (fun z=>nomatch z)
    ·walk_at "go"
     refine iteD (fun c3=>?_) (fun c3=>?_)
     ·walk_at "go"
      refine iteD (fun c4=>?_) (fun c4=>?_)
      ·walk_at "go"
       exact kk true (fun z=>nomatch z)
      ·walk_at "go"
       refine kk false (fun _=>⟨fun _ z=>absurd (congrArg (fun l=>V.str (S l)) (head_dot.mpr z)) c2,fun _ z=>absurd (congrArg (fun l=>V.str (S l)) (last_dot.mpr z)) c4⟩)
     ·walk_at "go"
      refine kk false (fun _=>⟨fun _ z=>absurd (congrArg (fun l=>V.str (S l)) (head_dot.mpr z)) c2,fun z _=>absurd (by rw[z];simp) c3⟩)
   ·walk_at "go"
    refine iteD (fun c3=>?_) (fun c3=>?_)
    ·walk_at "go"
     refine iteD (fun c4=>?_) (fun c4=>?_)
     ·walk_at "go"
      exact kk true (fun z=>nomatch z)
     ·walk_at "go"
      refine kk false (fun _=>⟨fun z _=>absurd (by rw[z];rfl) c1,fun _ z=>absurd (congrArg (fun l=>V.str (S l)) (last_dot.mpr z)) c4⟩)
    ·walk_at "go"
     refine kk false (fun _=>⟨fun z _=>absurd (by rw[z];rfl) c1,fun z _=>absurd (by rw[z];simp) c3⟩)
  ·have kk:=key 0 H2 (by omega) (by omega) (hf2.mono (by omega)) (k1.off o2) e2 false (fun _=>⟨fun _ _=>rfl,fun _ _=>rfl⟩)
   walk_at "go"
   refine iteD (fun c1=>?_) (fun c1=>?_)
   ·walk_at "go"
    refine iteD (fun c2=>?_) (fun c2=>?_)
    ·walk_at "go"
     exact kk
    ·walk_at "go"
     refine iteD (fun c3=>?_) (fun c3=>?_)
     ·walk_at "go"
      refine iteD (fun c4=>?_) (fun c4=>?_)
      ·walk_at "go"
       exact kk
      ·walk_at "go"
       exact kk
     ·walk_at "go"
      exact kk
   ·walk_at "go"
    refine iteD (fun c3=>?_) (fun c3=>?_)
    ·walk_at "go"
     refine iteD (fun c4=>?_) (fun c4=>?_)
     ·walk_at "go"
      exact kk
     ·walk_at "go"
      exact kk
    ·walk_at "go"
     exact kk
 ·rintro σ H1 ⟨v4,v5,ns,rfl,hl,hns,hf1,k1,e1⟩
  walk_at "go"
  refine xg_ (jt_ e1) fun t H2 ht k2=>?_
  walk_at "go"
  exact q t ns H2 ht (by omega) hns ((FeedAt.same hf1 k2).mono (by omega)) (k1.same k2)
end
theorem jer_ {α:Type} {l:List α} {lo hi:Option Int} {c:α} (h:c∈cutA l lo hi):c∈l:=ql_ (p8_ h)
theorem jol_ {l:List Nat} (h:Low l):∀ c∈l,c < 128:=fun c hc=>by
 have:=h c hc
 unfold jst_ at this
 simp at this
 omega
section
variable {P:Program} {w:World} {K:pd_} {mg:Str->Option Value} {base:Heap} {f:Addr} {fd:FuncData} {tk:Nat->Tok}
theorem u7_ (T:Txt mg tk) (F:Fun K "_law_pattern" "_law_pattern" s_law_pattern f fd) (D_law_next:Dn P w K mg base "_law_next" 1 ["_law_feed_here","_law_many"] xe_) (D_law_word:Dn P w K mg base "_law_word" 2 ["_law_feed_here","_law_letters_here","_law_most"] jej_) (D_law_numbers:Dn P w K mg base "_law_numbers" 2 ["_law_feed_here","_law_signs","_law_few"] xm_):FnOk P w K mg base CX0 3 f fd ["_law_feed_here","_law_letters_here","_law_word_here","_law_most"] xq_:=by
 refine F.ok sc_law_pattern (fun vs H Q E h=>?_) (fun cdv A outer s H vs Q E hr h=>?_)
 ·obtain⟨p,n,l,w',m,rfl,_⟩:=h
  rfl
 obtain⟨p,n,l,w',m,rfl,hf,hn,hl,hl1,hl2,hw,hw1,hw2,hm1,hm2,q⟩:=h
 have nd:=sc_law_pattern.nd
 refine⟨_,(jc_ (jj_ (i:=4) nd rfl (Or.inl rfl) (jo_ j7_ (jo_ j7_ pe_str (pv 2)) pe_str))
  (jc_ (jj_ (i:=5) nd rfl (Or.inl rfl) (jg_ D_law_next hr.mo_ rfl (ja_ (pv 0) (ja_ (jo_ jsi_ (ji_ (zr_ (K:=K)) rfl T.z_len (by decide +kernel) (ja_ (pv 4) pa_nil)) pe_int) pa_nil))))
  (jc_ (jj_ (i:=6) nd rfl (Or.inl rfl) (zc_ (yb_ (K:=K)) (pv 4) (j9_ (pv 5)) (j9_ (jo_ j7_ (jo_ j7_ (pv 5) pe_int) (jg_ D_law_next hr.mo_ rfl (ja_ (pv 0) (ja_ (pv 3) pa_nil)))))))
  (jc_ (zg_ (jv_ (o_eq hr.units) (jg_ D_law_next hr.mo_ rfl (ja_ (pv 0) (ja_ pe_int pa_nil))) pe_int (j0_ _))
   (jh_ (jj_ (i:=6) nd rfl (Or.inl rfl) (jg_ D_law_word hr.mo_ rfl (ja_ (pv 0) (ja_ (pv 1) (ja_ (pv 3) pa_nil))))))
   jy_)
  (jc_ (zg_ (jv_ (o_eq hr.units) (pv 6) pe_str (j0_ _))
   (jh_ (jj_ (i:=6) nd rfl (Or.inl rfl) (zc_ (yb_ (K:=K)) (pv 4) ye_ (j9_ pe_int))))
   jy_)
  (jh_ (jq_ (zy_ (ja_ (pv 6) (ja_ (jg_ D_law_numbers hr.mo_ rfl (ja_ (pv 0) (ja_ (pv 6) (ja_ pe_int pa_nil)))) pa_nil)))))))))),?_⟩
 rw[show L2.start ["_law_feed_here","_law_letters_here","_law_word_here","_law_most","_law_text","_law_at","_law_signs"] [.ref p,.str (S l),.str (S w'),.int (m:Int)]=[some (.ref p),some (.str (S l)),some (.str (S w')),some (.int (m:Int)),none,none,none] from rfl]
 rw[jky_]
 walk_at "go"
 have htl:([46]++w'++[46]).length=w'.length+2:=by simp
 have htc:∀ c∈[46]++w'++[46],c < 128:=fun c hc=>by
  simp only[pq_,wg_] at hc
  rcases hc with (h | h) | h
  ·omega
  ·exact jol_ hw c h
  ·omega
 generalize [46]++w'++[46]=tx at htl htc ⊢
 refine⟨p,_,n,rfl,hf,by omega,by omega,by omega,fun at_ H1 ha0 ha1 hf1 o1=>?_⟩
 walk_at "go"
 refine⟨p,_,n+1,rfl,hf1,by omega,by omega,by omega,fun d H2 hd0 hd1 hf2 o2=>?_⟩
 have hc1:=x9_ tx (some at_) (some (at_+1+d))
 have e1:sx tx.length 0 (some at_)=at_.toNat:=by simp only[sx];rw[if_neg (by omega)];omega
 have e2:sx tx.length tx.length (some (at_+1+d))=min (at_+1+d).toNat tx.length:=by simp only[sx];rw[if_neg (by omega)]
 rw[e1,e2] at hc1
 have hcc:∀ c∈cutA tx (some at_) (some (at_+1+d)),c < 128:=fun c hc=>htc c (jer_ hc)
 walk_at "go"
 refine⟨p,_,n+1+1,rfl,hf2,by omega,by omega,by omega,fun d4 H3 hd40 hd41 hf3 o3=>?_⟩
 have k3:=((o1.kept).off o2).off o3
 walk_at "go"
 have hcut2:=x9_ tx none (some 2)
 have e3:sx tx.length tx.length (some 2)=2:=by simp only[sx];rw[if_neg (by decide)];show min 2 tx.length=2;omega
 rw[e3] at hcut2
 have hcut2':(cutA tx none (some 2)).length=2:=by rw[hcut2];rfl
 refine iteD (fun c=>?_) (fun c=>?_)
 ·walk_at "go"
  refine⟨p,n+3,l,m,rfl,hf3,by omega,hl,hl1,hl2,hm1,by omega,fun w2 H4 hw20 hw21 hw22 hf4 k4=>?_⟩
  have hsg1:1<=w2.length:=hw21
  have hsg2:w2.length<=22:=by omega
  have hsg3:=jol_ hw20
  have k5:=k3.trans k4
  walk_at "go"
  refine iteD (fun c2=>?_) (fun c2=>?_)
  ·walk_at "go"
   refine⟨p,n+33,_,2,rfl,hf4,by omega,by omega,by decide,by decide,fun t ns H5 ht hns hnz hf5 k6=>?_⟩
   walk_at "go"
   intro r hr0
   walk_at "go"
   have tr:t≠r:=jf_ ht hr0
   refine q (.ref r) (cutA tx none (some 2),ns) _ (zu_ jb_ (by rw[je_ tr];exact ht)) ⟨by show 1<=(cutA tx none (some 2)).length;omega,by show (cutA tx none (some 2)).length<=22;omega,hns,fun v hv=>?_,fun c hc=>htc c (jer_ hc)⟩ ((hf5.new hr0).mono (by omega)) ((k5.trans k6).new hr0 _)
   obtain⟨j,hj⟩:=qv_.mp hv
   exact⟨(hnz j v hj).1,(hnz j v hj).2.1⟩
  ·walk_at "go"
   refine⟨p,n+33,_,2,rfl,hf4,by omega,by omega,by decide,by decide,fun t ns H5 ht hns hnz hf5 k6=>?_⟩
   walk_at "go"
   intro r hr0
   walk_at "go"
   have tr:t≠r:=jf_ ht hr0
   refine q (.ref r) (w2,ns) _ (zu_ jb_ (by rw[je_ tr];exact ht)) ⟨hsg1,hsg2,hns,fun v hv=>?_,hsg3⟩ ((hf5.new hr0).mono (by omega)) ((k5.trans k6).new hr0 _)
   obtain⟨j,hj⟩:=qv_.mp hv
   exact⟨(hnz j v hj).1,(hnz j v hj).2.1⟩
 ·walk_at "go"
  refine iteD (fun c2=>?_) (fun c2=>?_)
  ·walk_at "go"
   refine⟨p,n+3,_,2,rfl,hf3,by omega,by omega,by decide,by decide,fun t ns H5 ht hns hnz hf5 k6=>?_⟩
   walk_at "go"
   intro r hr0
   walk_at "go"
   have tr:t≠r:=jf_ ht hr0
   refine q (.ref r) (cutA tx none (some 2),ns) _ (zu_ jb_ (by rw[je_ tr];exact ht)) ⟨by show 1<=(cutA tx none (some 2)).length;omega,by show (cutA tx none (some 2)).length<=22;omega,hns,fun v hv=>?_,fun c hc=>htc c (jer_ hc)⟩ ((hf5.new hr0).mono (by omega)) ((k3.trans k6).new hr0 _)
   obtain⟨j,hj⟩:=qv_.mp hv
   exact⟨(hnz j v hj).1,(hnz j v hj).2.1⟩
  ·walk_at "go"
   refine⟨p,n+3,_,2,rfl,hf3,by omega,by omega,by decide,by decide,fun t ns H5 ht hns hnz hf5 k6=>?_⟩
   walk_at "go"
   intro r hr0
   walk_at "go"
   have tr:t≠r:=jf_ ht hr0
   refine q (.ref r) (cutA tx (some at_) (some (at_+1+d)),ns) _ (zu_ jb_ (by rw[je_ tr];exact ht)) ⟨by show 1<=(cutA tx (some at_) (some (at_+1+d))).length;omega,by show (cutA tx (some at_) (some (at_+1+d))).length<=22;omega,hns,fun v hv=>?_,hcc⟩ ((hf5.new hr0).mono (by omega)) ((k3.trans k6).new hr0 _)
   obtain⟨j,hj⟩:=qv_.mp hv
   exact⟨(hnz j v hj).1,(hnz j v hj).2.1⟩
theorem xi_ {p:Addr} {H H':Hp} (hn:∀ b o,H b=some o->b≠p->H' b=some o) (hp:∃ a b c:Int,H p=some (.lst [.int a,.int b,.int c])):∀{xs:List Pat} {ys:List V},L2.IsL H ys (xs.map patD)->L2.IsL H' ys (xs.map patD)
 | [],[],_=>by simp only[p2_,L2.IsL]
 | [],_::_,h=>by simp only[p2_,L2.IsL] at h
 | _::_,[],h=>by simp only[pf_,L2.IsL] at h
 | x::xs,y::ys,h=>by
  simp only[pf_,L2.IsL] at h ⊢
  refine⟨?_,xi_ hn hp h.2⟩
  obtain⟨a,t,rfl,h1,h2⟩:=vi_ h.1
  obtain⟨a0,b0,c0,h3⟩:=hp
  exact zu_ (hn a _ h1 (jcu_ h1 h3 (by intro z;cases z))) (hn t _ h2 (jcu_ h2 h3 (by intro z;cases z)))
theorem xk_ {H H':Hp} {r:Addr} {zs:List V} (hn:∀ b o,H b=some o->b≠r->H' b=some o) (hr:H r=some (.lst zs)):∀{xs:List Pat} {ys:List V},L2.IsL H ys (xs.map patD)->L2.IsL H' ys (xs.map patD)
 | [],[],_=>by simp only[p2_,L2.IsL]
 | [],_::_,h=>by simp only[p2_,L2.IsL] at h
 | _::_,[],h=>by simp only[pf_,L2.IsL] at h
 | x::xs,y::ys,h=>by
  simp only[pf_,L2.IsL] at h ⊢
  refine⟨?_,xk_ hn hr h.2⟩
  obtain⟨a,t,rfl,h1,h2⟩:=vi_ h.1
  exact zu_ (hn a _ h1 (jcu_ h1 hr (by intro z;cases z))) (hn t _ h2 (jcu_ h2 hr (by intro z;cases z)))
theorem FeedAt.ex {H:Hp} {p:Addr} {n:Nat} (h:FeedAt H p n):∃ a b c:Int,H p=Option.some (.lst [.int a,.int b,.int c]):=by
 obtain⟨a,b,c,h1,_⟩:=h
 exact⟨a,b,c,h1⟩
theorem jmo_ (T:Txt mg tk) (F:Fun K "_law_patterns" "_law_patterns" s_law_patterns f fd) (D_law_next:Dn P w K mg base "_law_next" 1 ["_law_feed_here","_law_many"] xe_) (D_law_pattern:Dn P w K mg base "_law_pattern" 3 ["_law_feed_here","_law_letters_here","_law_word_here","_law_most"] xq_):FnOk P w K mg base CX0 4 f fd ["_law_feed_here","_law_letters_here","_law_words","_law_most"] jhd_:=by
 refine F.ok sc_law_patterns (fun vs H Q E h=>?_) (fun cdv A outer s H vs Q E hr h=>?_)
 ·obtain⟨p,n,l,a,ws,m,rfl,_⟩:=h
  rfl
 obtain⟨p,n,l,a,ws,m,rfl,hf,hn,hl,hl1,hl2,ha,hws1,hws2,hws3,hm,hap,q⟩:=h
 have nd:=sc_law_patterns.nd
 refine⟨_,(jc_ (jj_ (i:=4) nd rfl (Or.inl rfl) (zl_ pa_nil))
  (jc_ (zh_ qi_ rfl (zd_ rfl T.z_range (ja_ (jg_ D_law_next hr.mo_ rfl (ja_ (pv 0) (ja_ (jo_ j7_ (pv 3) pe_int) pa_nil))) pa_nil)) (jn_ (i:=5) nd rfl (Or.inl rfl))
   (jc_ (jj_ (i:=6) nd rfl (Or.inl rfl) (jr_ (jm_ (K:=K)) (pv 2) (jg_ D_law_next hr.mo_ rfl (ja_ (pv 0) (ja_ (ji_ (zr_ (K:=K)) rfl T.z_len (by decide +kernel) (ja_ (pv 2) pa_nil)) pa_nil))) (fun _ _=>rfl)))
  (jh_ (z2_ (ya_ (K:=K) qg_ q4_ q5_ zz_ (pv 4) (ja_ (jg_ D_law_pattern hr.mo_ rfl (ja_ (pv 0) (ja_ (pv 1) (ja_ (pv 6) (ja_ pe_int pa_nil))))) pa_nil))))))
  (jh_ (jq_ (pv 4))))),?_⟩
 rw[show L2.start ["_law_feed_here","_law_letters_here","_law_words","_law_most","_law_found","_law_k","_law_word_here"] [.ref p,.str (S l),.ref a,.int (m:Int)]=[some (.ref p),some (.str (S l)),some (.ref a),some (.int (m:Int)),none,none,none] from rfl]
 walk_at "go"
 intro r hr0
 have pr:p≠r:=by obtain⟨o,e⟩:=hf.some;exact jf_ e hr0
 have ar:a≠r:=jf_ ha hr0
 walk_at "go"
 refine⟨p,_,n,rfl,hf.new hr0,by omega,by omega,by omega,fun d H1 hd0 hd1 hf1 o1=>?_⟩
 have e1:H1 r=some (.lst []):=(o1 r pr.symm).trans jb_
 have k1:Kept p H H1:=((Kept.refl p H).new hr0 _).off o1
 walk_at "go"
 refine yh_ (fun i σ H'=>∃(v5 v6:Option V) (ys:List V) (xs:List Pat),σ=[some (.ref p),some (.str (S l)),some (.ref a),some (.int (m:Int)),some (.ref r),v5,v6]/\xs.length=i/\H' r=some (.lst ys)/\L2.IsL H' ys (xs.map patD)/\(∀ x∈xs,GP x)/\FeedAt H' p (n+1+300 * i)/\Kept p H H')
  ⟨none,none,[],[],rfl,rfl,e1,(by simp only[p2_,L2.IsL]),(fun x hx=>nomatch hx),hf1,k1⟩ ?_ ?_
 ·rintro i σ H2 hi ⟨v5,v6,ys,xs,rfl,hxl,e2,hys,hgp,hf2,k2⟩
  have ha2:=k2 a _ hap ha
  have hyl:=hys.length
  rw[pb_] at hyl
  walk_at "go"
  rw[pb_]
  refine⟨p,_,n+1+300 * i,rfl,hf2,by omega,by omega,by omega,fun c H3 hc0 hc1 hf3 o3=>?_⟩
  have ha3:H3 a=_:=(o3 a hap).trans ha2
  have hcl:c.toNat < ws.length:=by omega
  refine yd_ (v:=.str (S ws[c.toNat])) (jt_ ha3) (j8_ hc0 (by rw[ph_,pc_ hcl];rfl)) ?_
  have hg:=hws3 _ (py_ hcl)
  have e3:H3 r=some (.lst ys):=(o3 r pr.symm).trans e2
  have hys3:L2.IsL H3 ys (xs.map patD):=xi_ (fun b o e hb=>(o3 b hb).trans e) (FeedAt.ex hf2) hys
  walk_at "go"
  refine⟨p,n+2+300 * i,l,ws[c.toNat],4,rfl,hf3.mono (by omega),by omega,hl,hl1,hl2,hg.1,hg.2.1,hg.2.2,by decide,by decide,fun v x H4 hv hx hf4 k4=>?_⟩
  have e4:H4 r=some (.lst ys):=k4 r _ pr.symm e3
  have hys4:L2.IsL H4 ys (xs.map patD):=xi_ (fun b o e hb=>k4 b o hb e) (FeedAt.ex hf3) hys3
  have hsz:ys.length < sizeLine:=szn (by omega)
  walk_at "go"
  have up:∀ b o,H4 b=some o->b≠r->(upd H4 r (.lst (ys++[v]))) b=some o:=fun b o e hb=>by rw[je_ hb];exact e
  refine⟨_,_,ys++[v],xs++[x],rfl,by simp[hxl],jb_,?_,?_,?_,fun b o hb e=>?_⟩
  ·rw[pw_]
   refine IsL.append (xk_ up e4 hys4) ?_
   have h1:L2.IsL H4 [v] ([x].map patD):=by simp only[pf_,p2_,L2.IsL];exact⟨hv,trivial⟩
   exact xk_ up e4 h1
  ·intro z hz
   rcases pq_.mp hz with h | h
   ·exact hgp z h
   ·have:z=x:=by simpa using h
    rw[this];exact hx
  ·obtain⟨a1,b1,c1,g1,g2⟩:=hf4
   exact⟨a1,b1,c1,by rw[je_ pr];exact g1,by omega⟩
  ·have hbr:b≠r:=fun z=>by rw[z,hr0] at e;cases e
   rw[je_ hbr]
   exact k4 b o hb ((o3 b hb).trans (k2 b o hb e))
 ·rintro σ H2 ⟨v5,v6,ys,xs,rfl,hxl,e2,hys,hgp,hf2,k2⟩
  walk_at "go"
  exact q r ys xs H2 e2 hys hgp (by omega) (hf2.mono (by omega)) k2 hr0
end
abbrev s_fitting_places:Stmt:=top 1
theorem sc_fitting_places:FnScope ["signs","framed"] ["signs","framed"] (jl_ s_fitting_places):=by walk_at "f"
abbrev s_values_by_fits:Stmt:=top 2
theorem sc_values_by_fits:FnScope ["fits","word","told","begin","numbers","place","number"] ["fits","word"] (jl_ s_values_by_fits):=by walk_at "f"
abbrev s_values:Stmt:=top 3
theorem sc_values:FnScope ["patterns","word","framed","fits","pattern"] ["patterns","word"] (jl_ s_values):=by walk_at "f"
def jpq_:Sp:=fun vs H Q _=>∃(p f:List Nat),vs=[.str (S p),.str (S f)]/\p.length<=1000/\f.length<=1000/\∀(r:Addr) (H':Hp),H r=none->H' r=some (.lst ((j2_ p f).map fun k:Nat=>V.int (k:Int)))->Same H H'->Q (.ref r) H'
def jba_:Sp:=fun vs H Q _=>∃(v:V) (xs:List Pat) (w:List Nat),vs=[v,.str (S w)]/\Is H v (zv_ xs)/\(∀ x∈xs,1<=x.1.length/\x.1.length<=1000/\x.2.length<=x.1.length+1)/\xs.length<=1000/\1<=w.length/\w.length<=100 /\
 ∀(r:Addr) (H':Hp),H r=none->H' r=some (.lst ((vals xs w).map V.int))->Same H H'->Q (.ref r) H'
theorem jfk_ {p f:List Nat} {b:Nat} (h:b∈j2_ p f):b+p.length<=f.length:=by
 unfold j2_ at h
 have:=(t8_.mp h).2
 unfold fits at this
 simp only[qr_,decide_eq_true_eq] at this
 exact this.1
theorem jfz_ (w:List Nat):[46]++w++[46]=frame w:=by simp[frame]
theorem jqt_ (t:List Int) (p:Nat) (v:Int) (h:p < t.length):(t.map V.int).set p (.int (if v > t[p] then v else t[p]))=(put t p v).map V.int:=by
 unfold put mx
 rw[List.map_set]
 have:t.getD p 0=t[p]:=by simp[pe_,h]
 rw[this]
def vm_:Sp:=fun vs H Q _=>∃(v:V) (xs:List Fit) (w:List Nat),vs=[v,.str (S w)]/\Is H v (jfw_ xs)/\(∀ x∈xs,x.1+x.2.length<=w.length+3)/\w.length<=100 /\
 ∀(r:Addr) (H':Hp),H r=none->H' r=some (.lst ((cutA (layF (pv_ (w.length+3) 0) xs) (some 2) (some (-2))).map V.int))->Same H H'->Q (.ref r) H'
section
variable {P:Program} {w:World} {K:pd_} {mg:Str->Option Value} {base:Heap} {f:Addr} {fd:FuncData} {tk:Nat->Tok}
theorem vv_ (T:Txt mg tk) (F:Fun K "fitting_places" "fitting_places" s_fitting_places f fd):FnOk P w K mg base CX0 1 f fd ["signs","framed"] jpq_:=by
 refine F.ok sc_fitting_places (fun vs H Q E h=>?_) (fun cdv A outer s H vs Q E hr h=>?_)
 ·obtain⟨p,f,rfl,_⟩:=h
  rfl
 obtain⟨p,fr,rfl,hp,hf,q⟩:=h
 have nd:=sc_fitting_places.nd
 refine⟨_,(jh_ (jq_ (z3_ ["framed","signs","place"] [some 1,some 0,none] rfl (by kernel_rfl) rfl (zd_ rfl T.z_range (ja_ (ji_ (zr_ (K:=K)) rfl T.z_len (by decide +kernel) (ja_ (pv 1) pa_nil)) pa_nil)) (fun _ _ _ _=>(jn_ (i:=2) (show (["framed","signs","place"]:List Str).Nodup by decide +kernel) rfl (Or.inl rfl) (Or.inr rfl))) (fun _ _ _ _=>(jqw_ (xb_ (ya_ (K:=K) kf_ PySem.F.slot_str_startswith PySem.F.type_str_startswith jbw_ (pv 0) (ja_ (pv 1) (ja_ (pv 2) pa_nil))) (fun _=>rfl)))) (fun _ _ _ _=>(pv 2))))),?_⟩
 rw[show L2.start ["signs","framed"] [.str (S p),.str (S fr)]=[some (.str (S p)),some (.str (S fr))] from rfl]
 walk_at "go"
 intro r hr0
 refine z0_ (fun i acc σ H'=>∃ v,σ=[some (.str (S fr)),some (.str (S p)),v]/\acc=(((p3_ i).filter (fits p fr)).map fun k:Nat=>V.int (k:Int))/\Same H H'/\H' r=some (.lst acc))
  ⟨none,rfl,rfl,jd_ hr0 _,jb_⟩ (fun i acc σ H' ⟨_,_,e,_,e2⟩=>⟨e2,by rw[e,pb_];exact qq_ (kk_ _ _) (by simp)⟩) (szn (by omega)) ?_ ?_
 ·rintro i acc σ H' hi ⟨v,rfl,rfl,s1,e1⟩
  walk_at "go"
  rw[Int.zero_add,jmg_]
  refine iteB (fun c=>?_) (fun c=>?_)
  ·walk_at "go"
   refine⟨e1,_,rfl,?_,fun b o e=>?_,jb_⟩
   ·rw[rt_,List.filter_append,pw_,List.filter_cons,c,if_pos rfl];rfl
   ·have hb:b≠r:=fun z=>by rw[z,hr0] at e;cases e
    rw[je_ hb];exact s1 b o e
  ·refine⟨_,rfl,?_,s1,?_⟩
   ·rw[rt_,List.filter_append,pw_,List.filter_cons,c,if_neg pp_];simp
   ·exact e1
 ·rintro acc σ H' ⟨v,rfl,rfl,s1,e1⟩
  refine q r H' hr0 ?_ s1
  rw[e1]
  show _=some (HO.lst (((p3_ fr.length).filter (fits p fr)).map _))
  simp
theorem vt_ (T:Txt mg tk) (F:Fun K "values_by_fits" "values_by_fits" s_values_by_fits f fd):FnOk P w K mg base CX0 1 f fd ["fits","word"] vm_:=by
 refine F.ok sc_values_by_fits (fun vs H Q E h=>?_) (fun cdv A outer s H vs Q E hr h=>?_)
 ·obtain⟨v,xs,w,rfl,_⟩:=h
  rfl
 obtain⟨v,xs,w',rfl,hv,hxs,hw2,q⟩:=h
 obtain⟨a,ys,rfl,ha,hys⟩:=juc_ hv
 have nd:=sc_values_by_fits.nd
 refine⟨_,(jc_ (jj_ (i:=2) nd rfl (Or.inl rfl) (jo_ jbg_ (zl_ (ja_ pe_int pa_nil)) (jo_ j7_ (ji_ (zr_ (K:=K)) rfl T.z_len (by decide +kernel) (ja_ (pv 1) pa_nil)) pe_int)))
  (jc_ (zh_ qi_ rfl (zt_ (K:=K) (pv 0)) (u8_ rfl (zb_ (jn_ (i:=3) nd rfl (Or.inl rfl)) (zb_ (jn_ (i:=4) nd rfl (Or.inl rfl)) xl_)))
   (jh_ (zh_ qi_ rfl (jpr_ rfl T.z_enumerate (pv 4) (pv 3)) (u8_ rfl (zb_ (jn_ (i:=5) nd rfl (Or.inl rfl)) (zb_ (jn_ (i:=6) nd rfl (Or.inl rfl)) xl_)))
   (jh_ (jiw_ (ji_ (jss_ rfl) rfl T.z_max (by decide +kernel) (ja_ (jr_ (jm_ (K:=K)) (pv 2) (pv 5) (fun _ _=>rfl)) (ja_ (pv 6) pa_nil))) (jid_ (pv 2) (pv 5) jnp_))))))
  (jh_ (jq_ (zc_ (yb_ (K:=K)) (pv 2) (j9_ pe_int) (j9_ (jjv_ jkv_ pe_int))))))),?_⟩
 rw[show L2.start ["fits","word","told","begin","numbers","place","number"] [.ref a,.str (S w')]=[some (.ref a),some (.str (S w')),none,none,none,none,none] from rfl]
 walk_at "go"
 intro b0 hb0
 walk_at "go"
 refine jut_ jb_ (by omega) fun t ht0=>?_
 have hrep:(pv_ (((w'.length:Nat):Int)+3).toNat (V.int 0))=(pv_ (w'.length+3) (0:Int)).map V.int:=by
  rw[List.map_replicate];congr 1
 rw[hrep]
 have s0:Same H (upd (upd H b0 (.lst [.int 0])) t (.lst ((pv_ (w'.length+3) (0:Int)).map V.int))):=(jd_ hb0 _).trans (jd_ ht0 _)
 have htH:H t=none:=(jd_ hb0 _).free ht0
 have ha0:=s0 _ _ ha
 walk_at "go"
 refine yj_ (K:=K) (xs:=ys) (fun i σ H'=>∃(v3 v4 v5 v6:Option V),σ=[some (.ref a),some (.str (S w')),some (.ref t),v3,v4,v5,v6]/\H' t=some (.lst ((layF (pv_ (w'.length+3) 0) (xs.take i)).map V.int))/\Same H H')
  ⟨none,none,none,none,rfl,jb_,s0⟩ (fun i σ H' _ ⟨_,_,_,_,_,_,s1⟩=>SqL.of (s1 _ _ ha)) ?_ ?_
 ·rintro i x σ H1 hx ⟨v3,v4,v5,v6,rfl,e1,s1⟩
  have hil:i < xs.length:=by
   have h1:=(pl_.mp hx).1
   have h2:=hys.length
   rw[pb_] at h2;omega
  obtain⟨x',d,hx1,hx2,hx3⟩:=IsL.get hys (i:=i) (by rw[pb_];exact hil)
  rw[hx] at hx1
  cases hx1
  rw[ph_,pc_ hil] at hx2
  cases hx2
  obtain⟨pa,nt,rfl,hpa,hnt⟩:=jwy_ hx3
  have hg:=hxs _ (py_ hil)
  have hpa1:=s1 _ _ hpa
  have hnt1:=s1 _ _ hnt
  have hT1:=yp_ (xs.take i) (pv_ (w'.length+3) 0)
  rw[rg_] at hT1
  rw[jlf_ hil]
  generalize layF (pv_ (w'.length+3) 0) (xs.take i)=T1 at e1 hT1 ⊢
  generalize xs[i]=xi at hg hpa1 hnt1 hnt ⊢
  obtain⟨b,ns⟩:=xi
  refine v1_ hpa1 rfl (zn_ (z1_ (zn_ (z1_ (ue_ ?_)))))
  have hg:b+ns.length<=w'.length+3:=hg
  have hnt1:H1 nt=some (.tup (ns.map V.int)):=hnt1
  have hnt:H nt=some (.tup (ns.map V.int)):=hnt
  walk_at "go"
  refine⟨b,rfl,by omega,juy_ hnt1 ?_⟩
  refine jnk_ (b:=b) (xs:=ns.map V.int) (fun k σ H'=>∃(v5 v6:Option V),σ=[some (.ref a),some (.str (S w')),some (.ref t),some (.int (b:Int)),some (.ref nt),v5,v6]/\H' t=some (.lst ((laid T1 b (ns.take k)).map V.int))/\Same H H')
   ⟨_,_,rfl,e1,s1⟩ (fun k σ H' _ ⟨_,_,_,_,s4⟩=>s4 _ _ hnt) ?_ ?_
  ·rintro k z σ H4 T4 hz ⟨v5,v6,rfl,e4,s4⟩ hT4
   have hkl:k < ns.length:=by
    have:=(pl_.mp hz).1
    simpa using this
   rw[ph_,pc_ hkl] at hz
   cases hz
   have htT:t≠T4:=jf_ e4 hT4
   have hL2:=z6_ (ns.take k) T1 b
   have htk2:ns.take (k+1)=ns.take k++[ns[k]]:=by rw[ra_,pc_ hkl];rfl
   have hsn:=jct_ b ns[k] (ns.take k) T1 b
   rw[<- htk2,pr_,q8_ (si_ hkl)] at hsn
   rw[hsn]
   generalize laid T1 b (ns.take k)=T2 at e4 hL2 ⊢
   have e5:(upd H4 T4 (.tup [.int ((b:Int)+(k:Int)),.int ns[k]])) t=some (.lst (T2.map V.int)):=by rw[je_ htT];exact e4
   have hbk:b+k < T2.length:=by omega
   refine v1_ jb_ rfl (zn_ (z1_ (zn_ (z1_ (ue_ ?_)))))
   walk_at "go"
   refine yd_ (v:=.int T2[b+k]) (jt_ e5) (j8_ (by omega) (by rw[show ((b:Int)+(k:Int)).toNat=b+k by omega,ph_,pc_ hbk];rfl)) ?_
   walk_at "go"
   refine jtb_ (j:=b+k) e5 (by rw[pb_];rw[jox_ (by omega) (by omega)];rfl) ?_
   rw[jqt_ T2 (b+k) ns[k] hbk]
   walk_at "go"
   refine⟨_,_,rfl,jb_,fun c o e=>?_⟩
   have hct:c≠t:=fun z=>by rw[z,htH] at e;cases e
   rw[je_ hct]
   exact(jd_ hT4 _) c o (s4 c o e)
  ·rintro σ H4 ⟨v5,v6,rfl,e4,s4⟩
   rw[pb_,p5_] at e4
   walk_at "go"
   exact⟨_,_,_,_,rfl,e4,s4⟩
 ·rintro σ H1 ⟨v3,v4,v5,v6,rfl,e1,s1⟩
  have h2:=hys.length
  rw[pb_] at h2
  rw[h2,p5_] at e1
  walk_at "go"
  refine jke_ (SqL.of e1) fun r hr1=>?_
  rw[uw_,jom_]
  walk_at "go"
  exact q r _ (s1.free hr1) jb_ (s1.trans (jd_ hr1 _))
theorem jmf_ (T:Txt mg tk) (F:Fun K "values" "values" s_values f fd) (D_fitting_places:Dn P w K mg base "fitting_places" 1 ["signs","framed"] jpq_) (D_values_by_fits:Dn P w K mg base "values_by_fits" 1 ["fits","word"] vm_):FnOk P w K mg base CX0 2 f fd ["patterns","word"] jba_:=by
 refine F.ok sc_values (fun vs H Q E h=>?_) (fun cdv A outer s H vs Q E hr h=>?_)
 ·obtain⟨v,xs,w,rfl,_⟩:=h
  rfl
 obtain⟨v,xs,w',rfl,hv,hxs,hxl,hw1,hw2,q⟩:=h
 obtain⟨a,ys,rfl,ha,hys⟩:=jdm_ hv
 have nd:=sc_values.nd
 refine⟨_,(jc_ (jj_ (i:=2) nd rfl (Or.inl rfl) (jo_ j7_ (jo_ j7_ pe_str (pv 1)) pe_str))
  (jc_ (jj_ (i:=3) nd rfl (Or.inl rfl) (zl_ pa_nil))
  (jc_ (zh_ qi_ rfl (zt_ (K:=K) (pv 0)) (jn_ (i:=4) nd rfl (Or.inr rfl))
   (jh_ (z2_ (ya_ (K:=K) qg_ tg_ th_ v8_ (pv 3) (ja_ (z3_ ["pattern","begin"] [some 4,none] rfl (by kernel_rfl) rfl (zt_ (K:=K) (jg_ D_fitting_places hr.mo_ rfl (ja_ (jr_ (jm_ (K:=K)) (pv 4) pe_int (fun _ _=>rfl)) (ja_ (pv 2) pa_nil)))) (fun _ _ _ _=>(jn_ (i:=1) (show (["pattern","begin"]:List Str).Nodup by decide +kernel) rfl (Or.inl rfl) (Or.inr rfl))) (fun _ _ _ _=>z4_) (fun _ _ _ _=>(zy_ (ja_ (pv 1) (ja_ (jr_ (jm_ (K:=K)) (pv 0) pe_int (fun _ _=>rfl)) pa_nil))))) pa_nil)))))
  (jh_ (jq_ (jg_ D_values_by_fits hr.mo_ rfl (ja_ (pv 3) (ja_ (pv 1) pa_nil)))))))),?_⟩
 rw[show L2.start ["patterns","word","framed","fits","pattern"] [.ref a,.str (S w')]=[some (.ref a),some (.str (S w')),none,none,none] from rfl]
 rw[jky_]
 have hfl:=za_ w'
 walk_at "go"
 rw[jfz_]
 intro r hr0
 have ra:(upd H r (.lst [])) a=some (.lst ys):=(jd_ hr0 _) _ _ ha
 walk_at "go"
 refine yj_ (K:=K) (xs:=ys) (fun i σ H'=>∃(v4:Option V) (zs:List V),σ=[some (.ref a),some (.str (S w')),some (.str (S (frame w'))),some (.ref r),v4]/\H' r=some (.lst zs)/\IsL H' zs ((z9_ (frame w') (xs.take i)).map fitD)/\Same H H')
  ⟨none,[],rfl,jb_,(by simp[z9_,L2.IsL]),jd_ hr0 _⟩ (fun i σ H' _ ⟨_,_,_,_,_,s1⟩=>SqL.of (s1 _ _ ha)) ?_ ?_
 ·rintro i x σ H1 hx ⟨v4,zs,rfl,e1,hz1,s1⟩
  have hil:i < xs.length:=by
   have h1:=(pl_.mp hx).1
   have h2:=hys.length
   rw[pb_] at h2;omega
  obtain⟨x',d,hx1,hx2,hx3⟩:=IsL.get hys (i:=i) (by rw[pb_];exact hil)
  rw[hx] at hx1
  cases hx1
  rw[ph_,pc_ hil] at hx2
  cases hx2
  obtain⟨pa,nt,rfl,hpa,hnt⟩:=vi_ hx3
  obtain⟨hg1,hg2,hg3⟩:=hxs _ (py_ hil)
  have hpa1:=s1 _ _ hpa
  have hnt1:=s1 _ _ hnt
  have hzl:zs.length<=1000 * 102:=by
   have h1:=hz1.length
   rw[pb_] at h1
   have h2:=jbi_ (frame w') (xs.take i)
   have h3:(xs.take i).length<=1000:=by rw[pr_];omega
   have h4:(xs.take i).length * (frame w').length<=1000 * 102:=Nat.mul_le_mul h3 (by omega)
   omega
  rw[jfn_ hil]
  generalize xs[i]=xi at hpa hnt hpa1 hnt1 hg1 hg2 hg3 ⊢
  walk_at "go"
  refine⟨xi.1,frame w',rfl,hg2,by omega,fun p H2 hp2 e2 s2=>?_⟩
  have hpa2:=s2 _ _ hpa1
  have hpl:=jde_ xi.1 (frame w')
  walk_at "go"
  intro c hc0
  have rc:r≠c:=jf_ (s2 _ _ e1) hc0
  refine vz_ (K:=K) (xs:=(j2_ xi.1 (frame w')).map fun k:Nat=>V.int (k:Int)) (fun j acc σ H'=>∃ v,σ=[some (.ref pa),v]/\acc.length=j/\H' c=some (.lst acc)/\IsL H' acc ((((j2_ xi.1 (frame w')).take j).map fun b=>(b,xi.2)).map fitD)/\Same H2 H')
   (fun j acc σ H' _ ⟨_,_,_,_,_,s3⟩=>SqL.of (s3 _ _ e2)) ⟨none,rfl,rfl,jb_,(by simp[L2.IsL]),jd_ hc0 _⟩ (fun j acc σ H' ⟨_,_,e,e3,_⟩=>⟨e3,lg_ e⟩) (szn (by rw[pb_];omega)) ?_ ?_
  ·rintro j acc σ H3 hj ⟨v,rfl,hal,e3,hz3,s3⟩
   have hj':j < (j2_ xi.1 (frame w')).length:=by simpa using hj
   have hpa3:=s3 _ _ hpa2
   have hgd:((j2_ xi.1 (frame w')).map fun k:Nat=>V.int (k:Int)).getD j .non=V.int ((j2_ xi.1 (frame w'))[j]:Int):=by
    rw[pe_,ph_,pc_ hj'];rfl
   rw[hgd]
   walk_at "go"
   intro t ht0
   have tc:c≠t:=jf_ e3 ht0
   have e4:(upd H3 t (.tup [.int ((j2_ xi.1 (frame w'))[j]:Int),.ref nt])) c=some (.lst acc):=by rw[je_ tc];exact e3
   have k4:Tk H3 (upd (upd H3 t (.tup [.int ((j2_ xi.1 (frame w'))[j]:Int),.ref nt])) c (.lst (acc++[.ref t]))):=(Tk.new ht0 _).trans (Tk.lst e4 _)
   refine⟨e4,_,rfl,by simp[hal],jb_,?_,fun b o e=>?_⟩
   ·have htk:(j2_ xi.1 (frame w')).take (j+1)=(j2_ xi.1 (frame w')).take j++[(j2_ xi.1 (frame w'))[j]]:=by rw[ra_,pc_ hj'];rfl
    rw[htk,pw_,pw_]
    refine IsL.snoc (IsL.tk k4 (x6_ _) hz3) (joo_ (x:=((j2_ xi.1 (frame w'))[j],xi.2)) ?_ (k4 _ _ (s3 _ _ (s2 _ _ hnt1))))
    rw[je_ tc.symm];exact jb_
   ·have hbc:b≠c:=fun z=>by rw[z,hc0] at e;cases e
    rw[je_ hbc];exact(jd_ ht0 _) _ _ (s3 _ _ e)
  ·rintro acc σ H3 ⟨v,rfl,hal,e3,hz3,s3⟩
   rw[pb_] at hal hz3
   rw[p5_] at hz3
   have e3r:H3 r=some (.lst zs):=s3 _ _ (s2 _ _ e1)
   walk_at "go"
   refine jij_ e3r e3 (szn (by omega)) ?_
   walk_at "go"
   have k5:Tk H3 (upd H3 r (.lst (zs++acc))):=Tk.lst e3r _
   refine⟨_,zs++acc,rfl,jb_,?_,fun b o e=>?_⟩
   ·rw[pw_]
    exact IsL.append (IsL.tk k5 (x6_ _) (IsL.same (s2.trans s3) hz1)) (IsL.tk k5 (x6_ _) hz3)
   ·have hbr:b≠r:=fun z=>by rw[z,hr0] at e;cases e
    rw[je_ hbr];exact s3 _ _ (s2 _ _ (s1 _ _ e))
 ·rintro σ H1 ⟨v4,zs,rfl,e1,hz1,s1⟩
  have h2:=hys.length
  rw[pb_] at h2
  rw[h2,p5_] at hz1
  walk_at "go"
  refine⟨.ref r,z9_ (frame w') xs,w',rfl,?_,fun y hy=>?_,hw2,fun r2 H2 hr2 e2 s2=>?_⟩
  ·simp only[Is,jfw_];exact⟨r,zs,rfl,e1,hz1⟩
  ·obtain⟨x,hx,hp,he⟩:=jhm_ hy
   have h3:=jfk_ hp
   have h4:=(hxs x hx).2.2
   rw[he];omega
  ·rw[uk_,show w'.length+3=(frame w').length+1 by omega,vq_ xs w' hw1] at e2
   exact q r2 H2 (s1.free hr2) e2 (s1.trans s2)
end
abbrev s_beginnings:Stmt:=top 5
theorem sc_beginnings:FnScope ["patterns","met","pattern","signs","end"] ["patterns"] (jl_ s_beginnings):=by walk_at "f"
theorem jue_ {trs:List (TE×TE)} {σ:St} {H:Hp} {Q:VK} (h:∀ p,H p=none->jbl_ trs σ (upd H p (.dK [])) fun ps H2=>H2 p=some (.dK [])/\∃ kvs:List (Key×V),ps=kvs.map (fun kv=>(kV kv.1,kv.2))/\kvs.length<=15/\Q (.ref p) (upd H2 p (.dK (x5_ [] kvs)))):jso_ trs σ H Q:=h
theorem jdr_ {td ty tv:TE} {D:Ends} {σ:St} {H:Hp} (h:tv σ H fun v H1=>td σ H1 fun x H2=>ty σ H2 fun y H3=>∃ a H4,x=.ref a/\DPut H3 a y v H4/\D.nx σ H4):jtd_ td ty tv D σ H:=h
def jja_:Sp:=fun vs H Q _=>∃(v:V) (xs:List Pat),vs=[v]/\Is H v (zv_ xs)/\(∀ x∈xs,x.1.length<=100)/\xs.length<=1000/\∀(a:Addr) (H':Hp),H a=none->H' a=some (.dK (bT (begs xs)))->Same H H'->Q (.ref a) H'
section
variable {P:Program} {w:World} {K:pd_} {mg:Str->Option Value} {base:Heap} {f:Addr} {fd:FuncData} {tk:Nat->Tok}
theorem jbo_ (T:Txt mg tk) (F:Fun K "beginnings" "beginnings" s_beginnings f fd):FnOk P w K mg base CX0 1 f fd ["patterns"] jja_:=by
 refine F.ok sc_beginnings (fun vs H Q E h=>?_) (fun cdv A outer s H vs Q E hr h=>?_)
 ·obtain⟨v,xs,rfl,_⟩:=h
  rfl
 obtain⟨v,xs,rfl,hv,hxs,hxl,q⟩:=h
 have nd:=sc_beginnings.nd
 obtain⟨b,ys,rfl,hb,hys⟩:=jdm_ hv
 have hyl:ys.length=xs.length:=by have:=hys.length;simpa using this
 refine⟨_,(jc_ (jj_ (i:=1) nd rfl (Or.inl rfl) (jrk_ (jot_ pe_str pe_bl jre_) rfl rfl (by simp) (by decide)))
  (jc_ (zh_ qi_ rfl (zt_ (K:=K) (pv 0)) (jn_ (i:=2) nd rfl (Or.inl rfl))
   (jc_ (jj_ (i:=3) nd rfl (Or.inl rfl) (jr_ (jm_ (K:=K)) (pv 2) pe_int (fun _ _=>rfl)))
  (jh_ (zh_ qi_ rfl (jmh_ rfl T.z_range (ja_ pe_int (ja_ (jo_ j7_ (ji_ (zr_ (K:=K)) rfl T.z_len (by decide +kernel) (ja_ (pv 3) pa_nil)) pe_int) pa_nil))) (jn_ (i:=4) nd rfl (Or.inl rfl))
   (jh_ (uy_ (ve_ hr) (pv 1) (zc_ (yb_ (K:=K)) (pv 3) ye_ (j9_ (pv 4))) pe_bl rfl))))))
  (jh_ (jq_ (pv 1))))),?_⟩
 rw[show L2.start ["patterns","met","pattern","signs","end"] [.ref b]=[some (.ref b),none,none,none,none] from rfl]
 rw[u0_]
 walk_at "go"
 refine jue_ fun a ha=>?_
 simp only[jbl_]
 walk_at "go"
 refine⟨jb_,[(Sum.inr (S []),.bl true)],rfl,by decide,?_⟩
 rw[jqo_]
 have hm:x5_ [] [((Sum.inr (S []):Key),V.bl true)]=bT [[]]:=rfl
 rw[hm]
 have s1:=jd_ ha (.dK (bT [[]]))
 have e1:(upd H a (.dK (bT [[]]))) a=some (.dK (bT [[]])):=jb_
 have hb1:=s1 _ _ hb
 have hys1:=IsL.same s1 hys
 have put:∀{H2:Hp} {ns:List (List Nat)} {z:List Nat} {kvs},H2 a=some (.dK kvs)->Same H H2->Same H (upd H2 a (.dK (bT ns))):=fun{H2 ns z kvs} e s c o ec=>by
  have hc:c≠a:=fun q=>by rw[q,ha] at ec;cases ec
  rw[je_ hc];exact s c o ec
 walk_at "go"
 refine yj_ (K:=K) (xs:=ys) (fun i σ H'=>∃(v2 v3 v4:Option V),σ=[some (.ref b),some (.ref a),v2,v3,v4]/\H' a=some (.dK (bT (begA [[]] (xs.take i))))/\Same H H')
  ⟨none,none,none,rfl,e1,s1⟩ (fun i σ H' _ ⟨_,_,_,_,_,s⟩=>SqL.of (s _ _ hb)) ?_ ?_
 ·rintro i y σ H2 hy ⟨v2,v3,v4,rfl,e2,s2⟩
  have hi:i < xs.length:=by
   have:=(pl_.mp hy).1
   omega
  obtain⟨y',d,hy',hd1,hI⟩:=IsL.get (IsL.same s2 hys) (show i < (xs.map patD).length by simpa using hi)
  rw[hy] at hy'
  cases hy'
  rw[ph_,pc_ hi] at hd1
  cases hd1
  obtain⟨a2,t2,rfl,ea2,et2⟩:=vi_ hI
  have hxi:=hxs xs[i] (py_ hi)
  have hbl:=jfv_ (c:=100) (xs.take i) [[]] fun x hx=>hxs x (p8_ hx)
  have htl:(xs.take i).length<=1000:=by rw[pr_];omega
  have hm2:(xs.take i).length * 100<=1000 * 100:=Nat.mul_le_mul_right _ htl
  walk_at "go"
  refine yh_ (fun j σ H'=>∃(v4:Option V),σ=[some (.ref b),some (.ref a),some (.ref a2),some (.str (S xs[i].1)),v4]/\H' a=some (.dK (bT (begS (begA [[]] (xs.take i)) xs[i].1 j)))/\Same H H') ⟨_,rfl,e2,s2⟩ ?_ ?_
  ·rintro j σ H3 hj ⟨v4',rfl,e3,s3⟩
   have hj:j < xs[i].1.length:=by omega
   refine jdr_ ?_
   walk_at "go"
   have hcut:cutA xs[i].1 none (some (1+(j:Int)))=xs[i].1.take (j+1):=by
    have:=jcb_ xs[i].1 0 (j+1) (by omega) (by omega)
    rw[show (1+(j:Int))=((j+1:Nat):Int) by omega]
    have e0:cutA xs[i].1 none (some ((j+1:Nat):Int))=cutA xs[i].1 (some ((0:Nat):Int)) (some ((j+1:Nat):Int)):=by
     unfold cutA
     simp[sx]
    rw[e0,this,ry_,li_]
   rw[hcut]
   have hbs:=jal_ (begA [[]] (xs.take i)) xs[i].1 j
   refine⟨a,_,rfl,DPut.k (k:=Sum.inr (S (xs[i].1.take (j+1)))) e3 ?_,?_⟩
   ·have hle:(bT (begS (begA [[]] (xs.take i)) xs[i].1 j)).length<=200000:=by
     unfold bT
     rw[pb_]
     simp only[pz_,rj_] at hbl
     omega
    exact ti_ hle (by decide)
   ·walk_at "go"
    rw[jtr_,<- xy_]
    exact⟨_,rfl,jb_,put (z:=[]) e3 s3⟩
  ·rintro σ H3 ⟨v4',rfl,e3,s3⟩
   have hz:(((xs[i].1.length:Nat):Int)+1 - 1).toNat=xs[i].1.length:=by omega
   refine⟨_,_,_,rfl,?_,s3⟩
   rw[e3,ra_,pc_ hi]
   show some (HO.dK (bT _))=some (HO.dK (bT (begA [[]] (xs.take i++[xs[i]]))))
   rw[jlr_]
   congr 4
 ·rintro σ H2 ⟨v2,v3,v4,rfl,e2,s2⟩
  rw[hyl,p5_] at e2
  walk_at "go"
  exact q a H2 ha e2 s2
end
abbrev s_greatest_numbers:Stmt:=top 6
theorem sc_greatest_numbers:FnScope ["patterns","greatest","pattern","signs","earlier"] ["patterns"] (jl_ s_greatest_numbers):=by walk_at "f"
theorem jkq_ {td ty tx:TE} {σ:St} {H:Hp} {Q:VK} (h:td σ H fun x H1=>∃ a,x=.ref a/\IsD H1 a/\ty σ H1 fun y H2=>tx σ H2 fun z H3=>∃ o,DGet H3 a y o/\Q (o.getD z) H3):jpt_ td ty tx σ H Q:=h
theorem jdu_ {σ:St} {H:Hp} {Q:VK} (h:∀ p,H p=none->Q (.ref p) (upd H p (.dK []))):jpi_ σ H Q:=h
theorem jur_ {σ:St} {H:Hp} {R:It->Hp->Prop} {ta tb:TE} (h:ta σ H fun x H1=>tb σ H1 fun y H2=>jff_ R x y H2):jsp_ ta tb σ H R:=h
def jps_:Sp:=fun vs H Q _=>∃(v:V) (xs:List Pat),vs=[v]/\Is H v (zv_ xs)/\(∀ x∈xs,x.1.length<=100/\x.2.length=x.1.length+1)/\xs.length<=1000/\∀(a:Addr) (kvs:List (Key×V)) (H':Hp),H a=none->H' a=some (.dK kvs)->NT H' kvs (grt xs)->Same H H'->Q (.ref a) H'
theorem NT.length {H:Hp}:∀{kvs:List (Key×V)} {gs:List Pat},NT H kvs gs->kvs.length=gs.length
 | [],[],_=>rfl
 | [],_::_,h=>h.elim
 | _::_,[],h=>h.elim
 | kv::kvs,g::gs,h=>by rw[pz_,pz_,NT.length h.2.2]
theorem jwa_ {R:It->Hp->Prop} {H:Hp} {b a:Addr} {xs ys:List V} (h1:H b=some (.tup xs)) (h2:H a=some (.tup ys)) (h:R (Izp xs ys fun H=>H b=some (.tup xs)/\H a=some (.tup ys)) H):jff_ R (.ref b) (.ref a) H:=⟨xs,ys,h1,h2,h⟩
theorem jrn_ {a b m:Int} (h1:m∈[a,b]) (h2:∀ n∈[a,b],n<=m):m=mx a b:=by
 have q1:=h2 a (by simp)
 have q2:=h2 b (by simp)
 simp at h1
 unfold mx
 split <;> rcases h1 with h | h <;> omega
section
variable {P:Program} {w:World} {K:pd_} {mg:Str->Option Value} {base:Heap} {f:Addr} {fd:FuncData} {tk:Nat->Tok}
theorem x0_ (T:Txt mg tk) (F:Fun K "greatest_numbers" "greatest_numbers" s_greatest_numbers f fd):FnOk P w K mg base CX0 1 f fd ["patterns"] jps_:=by
 refine F.ok sc_greatest_numbers (fun vs H Q E h=>?_) (fun cdv A outer s H vs Q E hr h=>?_)
 ·obtain⟨v,xs,rfl,_⟩:=h
  rfl
 obtain⟨v,xs,rfl,hv,hxs,hxl,q⟩:=h
 have nd:=sc_greatest_numbers.nd
 obtain⟨b,ys,rfl,hb,hys⟩:=jdm_ hv
 have hyl:ys.length=xs.length:=by have:=hys.length;simpa using this
 refine⟨_,(jc_ (jj_ (i:=1) nd rfl (Or.inl rfl) jaa_)
  (jc_ (zh_ qi_ rfl (zt_ (K:=K) (pv 0)) (jn_ (i:=2) nd rfl (Or.inl rfl))
   (jc_ (jj_ (i:=3) nd rfl (Or.inl rfl) (jr_ (jm_ (K:=K)) (pv 2) pe_int (fun _ _=>rfl)))
  (jc_ (jj_ (i:=4) nd rfl (Or.inl rfl) (jfu_ (ve_ hr) (pv 1) (pv 3) (jr_ (jm_ (K:=K)) (pv 2) pe_int (fun _ _=>rfl)) ⟨rfl,rfl,rfl,rfl⟩))
  (jh_ (uy_ (ve_ hr) (pv 1) (pv 3) (zq_ vk_ rfl T.z_tuple (by decide +kernel) (ja_ (z3_ ["both"] [none] rfl (by kernel_rfl) rfl (jqq_ rfl T.z_zip (pv 4) (jr_ (jm_ (K:=K)) (pv 2) pe_int (fun _ _=>rfl))) (fun _ _ _ _=>(jn_ (i:=0) (show (["both"]:List Str).Nodup by decide +kernel) rfl (Or.inl rfl) (Or.inr rfl))) (fun _ _ _ _=>z4_) (fun _ _ _ _=>(ji_ (juo_ rfl) rfl T.z_max (by decide +kernel) (ja_ (pv 0) pa_nil)))) pa_nil)) rfl)))))
  (jh_ (jq_ (pv 1))))),?_⟩
 rw[show L2.start ["patterns","greatest","pattern","signs","earlier"] [.ref b]=[some (.ref b),none,none,none,none] from rfl]
 walk_at "go"
 refine jdu_ fun a ha=>?_
 have s1:=jd_ ha (.dK [])
 walk_at "go"
 refine u9_ (SqL.of (s1 _ _ hb)) ?_
 refine yj_ (K:=K) (xs:=ys) (fun i σ H'=>∃(v2 v3 v4:Option V) (kvs:List (Key×V)),σ=[some (.ref b),some (.ref a),v2,v3,v4]/\H' a=some (.dK kvs)/\NT H' kvs (grt (xs.take i))/\kvs.length<=i/\Same H H')
  ⟨none,none,none,[],rfl,jb_,trivial,pg_ _,s1⟩ (fun i σ H' _ ⟨_,_,_,_,_,_,_,_,s⟩=>SqL.of (s _ _ hb)) ?_ ?_
 ·rintro i y σ H2 hy ⟨v2,v3,v4,kvs,rfl,e2,hN,hkl,s2⟩
  have hi:i < xs.length:=by
   have:=(pl_.mp hy).1
   omega
  obtain⟨y',d,hy',hd1,hI⟩:=IsL.get (IsL.same s2 hys) (show i < (xs.map patD).length by simpa using hi)
  rw[hy] at hy'
  cases hy'
  rw[ph_,pc_ hi] at hd1
  cases hd1
  obtain⟨a2,t2,rfl,ea2,et2⟩:=vi_ hI
  obtain⟨hx1,hx2⟩:=hxs xs[i] (py_ hi)
  walk_at "go"
  refine jkq_ ?_
  walk_at "go"
  refine⟨a,rfl,.inl ⟨kvs,.inl e2⟩,?_⟩
  walk_at "go"
  have hgl:=jik_ (xs:=xs.take i) (gs:=[]) (fun g hg=>nomatch hg) fun x hx=>(hxs x (p8_ hx)).2
  obtain⟨te,es,hte,hes,heq,hel⟩:∃ te es,(valV kvs (Sum.inr (S xs[i].1))).getD (.ref t2)=.ref te/\H2 te=some (.tup (es.map V.int))/\es=((jk_ (grt (xs.take i)) xs[i].1).map (·.2)).getD xs[i].2/\es.length=xs[i].2.length:=by
   rcases hN.val (z:=xs[i].1) with ⟨q1,q2⟩ | ⟨g,t,q1,hgm,hgz,q2,q3⟩
   ·exact⟨t2,xs[i].2,by rw[q2];rfl,et2,by rw[q1];rfl,rfl⟩
   ·refine⟨t,g.2,by rw[q2];rfl,q3,by rw[q1];rfl,?_⟩
    rw[hgl g hgm,hgz,hx2]
  refine⟨_,DGet.k (k:=Sum.inr (S xs[i].1)) e2,?_⟩
  rw[hte]
  walk_at "go"
  refine jdr_ ?_
  walk_at "go"
  refine jur_ ?_
  walk_at "go"
  refine jwa_ hes et2 ?_
  intro r hr0
  have ra:a≠r:=jf_ e2 hr0
  refine jnh_ xs[i].2.length (by rw[pb_,pb_];omega) (fun j acc σ H'=>∃ v1,σ=[v1]/\acc=((zs_ es xs[i].2).take j).map V.int/\Same H2 H'/\H' r=some (.lst acc))
   (fun j acc σ H' _ ⟨_,_,_,s3,_⟩=>⟨s3 _ _ hes,s3 _ _ et2⟩) ⟨none,rfl,rfl,jd_ hr0 _,jb_⟩ (fun j acc σ H' ⟨_,_,e,_,e3⟩=>⟨e3,by rw[e,pb_,pr_];omega⟩) (szn (by omega)) ?_ ?_
  ·rintro j u v acc σ H3 T2 hu hv' ⟨v1,rfl,rfl,s3,e3⟩ hT
   have hj:j < xs[i].2.length:=by
    have:=(pl_.mp hv').1
    simpa using this
   have hj2:j < es.length:=by omega
   rw[ph_,pc_ hj2] at hu
   cases hu
   rw[ph_,pc_ hj] at hv'
   cases hv'
   have s4:=jd_ hT (.tup [.int es[j],.int xs[i].2[j]])
   have e4:=s4 _ _ e3
   walk_at "go"
   refine jul_ (ns:=[es[j],xs[i].2[j]]) jb_ (by simp) fun m hm1 hm2=>?_
   rw[jrn_ hm1 hm2]
   refine⟨e4,_,rfl,?_,fun c o e=>?_,jb_⟩
   ·rw[jai_ hj2 hj,pw_];rfl
   ·have hc:c≠r:=fun z=>by rw[z,hr0] at e;cases e
    rw[je_ hc];exact s4 _ _ (s3 c o e)
  ·rintro acc σ H3 ⟨v1,rfl,rfl,s3,e3⟩
   rw[<- hel,<- yg_ hel,p5_] at e3
   walk_at "go"
   refine xg_ (jt_ e3) fun t H4 ht k4=>?_
   walk_at "go"
   have s4:Same H2 H4:=fun c o e=>k4 c o (s3 c o e)
   have e4:=s4 _ _ e2
   have hN4:=(hN.same s4).put (s:=xs[i].1) ht
   refine⟨a,_,rfl,DPut.k (k:=Sum.inr (S xs[i].1)) e4 (ti_ (show kvs.length<=1000 by omega) (by decide)),?_⟩
   refine⟨_,_,_,_,rfl,jb_,?_,?_,fun c o e=>?_⟩
   ·rw[ra_,pc_ hi]
    show NT _ _ (grt (xs.take i++[xs[i]]))
    rw[jbm_]
    have hg:grtS (grt (xs.take i)) xs[i]=putG (grt (xs.take i)) xs[i].1 (zs_ es xs[i].2):=by unfold grtS;rw[<- heq]
    rw[hg]
    exact hN4.tups fun b' zs e=>by
     have hb':b'≠a:=fun z=>by rw[z,e4] at e;cases e
     rw[je_ hb'];exact e
   ·have:=z8_ kvs (Sum.inr (S xs[i].1):Key) (V.ref t)
    omega
   ·have hc:c≠a:=fun z=>by rw[z,ha] at e;cases e
    rw[je_ hc];exact s4 _ _ (s2 c o e)
 ·rintro σ H2 ⟨v2,v3,v4,kvs,rfl,e2,hN,hkl,s2⟩
  rw[hyl,p5_] at hN
  walk_at "go"
  exact q a kvs H2 ha e2 hN s2
end
abbrev s_wood_of:Stmt:=top 7
theorem sc_wood_of:FnScope ["patterns","greatest","names","ways","number","name"] ["patterns"] (jl_ s_wood_of):=by walk_at "f"
def wayD (p:Nat×Nat):Dt:=.tup [.str (S [p.1]),.int (p.2:Int)]
def numD:Option (List Int)->Dt
 | none=>.non
 | some g=>.tup (g.map Dt.int)
def knD (ns:List (List Nat)) (gs:List Pat) (i:Nat):Dt:=.tup [.tup ((zo_ ns (ns.getD i []) ns.length).map wayD),numD ((jk_ gs (ns.getD i [])).map (·.2))]
def jjy_ (ns:List (List Nat)) (gs:List Pat):List Dt:=(p3_ ns.length).map (knD ns gs)
theorem zp_:∀ l:List (Nat×Nat),jw_ (l.map wayD)=true
 | []=>rfl
 | x::l=>by simp only[pf_,jw_,zp_ l,wayD,z7_];rfl
theorem yy_:∀ l:List Int,jw_ (l.map Dt.int)=true
 | []=>rfl
 | x::l=>by simp only[pf_,jw_,yy_ l,z7_];rfl
theorem jgq_ (ns:List (List Nat)) (gs:List Pat) (i:Nat):z7_ (knD ns gs i)=true:=by
 unfold knD
 cases (jk_ gs (ns.getD i [])).map (·.2) with
 | none=>simp only[z7_,jw_,zp_,numD];rfl
 | some g=>simp only[z7_,jw_,zp_,numD,yy_];rfl
theorem jha_ (ns:List (List Nat)) (gs:List Pat):∀ l:List Nat,jw_ (l.map (knD ns gs))=true
 | []=>rfl
 | x::l=>by simp only[pf_,jw_,jha_ ns gs l,jgq_];rfl
def jhs_:Sp:=fun vs H Q _=>∃(v:V) (xs:List Pat),vs=[v]/\Is H v (zv_ xs)/\(∀ x∈xs,x.1.length<=100/\x.2.length=x.1.length+1)/\xs.length<=1000/\(begs xs).length<=5000 /\
 ∀(r:Addr) (ys:List V) (ns:List (List Nat)) (H':Hp),H r=none->H' r=some (.lst ys)->L2.IsL H' ys (jjy_ ns (grt xs))->ns.Perm (begs xs)->Nms ns->Same H H'->Q (.ref r) H'
structure WL (H0 H:Hp) (wd:Addr) (ns:List (List Nat)) (ad:Nat->Addr) (i m:Nat):Prop where
 d:H wd=some (.dK ((p3_ i).map fun k=>((Sum.inr (S (ns.getD k [])):Key),V.ref (ad k))))
 l:∀ k,k < i->∃ vs,H (ad k)=some (.lst vs)/\L2.IsL H vs ((zo_ ns (ns.getD k []) m).map wayD)
 n:∀ k,k < i->H0 (ad k)=none
 a:∀ j k,j < i->k < i->ad j=ad k->j=k
theorem WL.same {H0 H H':Hp} {wd:Addr} {ns:List (List Nat)} {ad:Nat->Addr} {i m:Nat} (s:Same H H') (h:WL H0 H wd ns ad i m):WL H0 H' wd ns ad i m :=
 ⟨s _ _ h.d,fun k hk=>by obtain⟨vs,a,b⟩:=h.l k hk;exact⟨vs,s _ _ a,IsL.same s b⟩,h.n,h.a⟩
theorem WL.put {H0 H H':Hp} {wd ai:Addr} {ns:List (List Nat)} {ad:Nat->Addr} {i m:Nat} (h:WL H0 H wd ns ad i m) (hk:∀ b o,b≠wd->H b=some o->H' b=some o) (hd:H' wd=some (.dK ((p3_ (i+1)).map fun k=>((Sum.inr (S (ns.getD k [])):Key),V.ref (if k=i then ai else ad k)))))
  (hn:H0 ai=none) (hf:H ai=none) (ha:H' ai=some (.lst [])) (hw:zo_ ns (ns.getD i []) m=[]):WL H0 H' wd ns (fun k=>if k=i then ai else ad k) (i+1) m:=by
 have tk:Tk H H':=fun b zs e=>hk b _ (fun z=>by rw[z,h.d] at e;cases e) e
 have hne:∀ k,k < i->ad k≠ai:=fun k hk' z=>by
  obtain⟨vs,e,_⟩:=h.l k hk'
  rw[z,hf] at e;cases e
 refine⟨hd,fun k hk'=>?_,fun k hk'=>?_,fun j k hj hk' e=>?_⟩
 ·by_cases q:k=i
  ·subst q
   refine⟨[],?_,?_⟩
   ·show H' (if k=k then ai else ad k)=_
    rw[if_pos rfl];exact ha
   ·rw[hw];simp only[p2_,L2.IsL]
  ·obtain⟨vs,e,hv⟩:=h.l k (by omega)
   refine⟨vs,?_,IsL.tk tk (zp_ _) hv⟩
   show H' (if k=i then ai else ad k)=_
   rw[if_neg q]
   exact hk _ _ (fun z=>by rw[z,h.d] at e;cases e) e
 ·by_cases q:k=i
  ·show H0 (if k=i then ai else ad k)=_
   rw[if_pos q];exact hn
  ·show H0 (if k=i then ai else ad k)=_
   rw[if_neg q];exact h.n k (by omega)
 ·have e:(if j=i then ai else ad j)=(if k=i then ai else ad k):=e
  by_cases q:j=i
  ·by_cases q2:k=i
   ·omega
   ·rw[if_pos q,if_neg q2] at e
    exact absurd e.symm (hne k (by omega))
  ·by_cases q2:k=i
   ·rw[if_neg q,if_pos q2] at e
    exact absurd e (hne j (by omega))
   ·rw[if_neg q,if_neg q2] at e
    exact h.a j k (by omega) (by omega) e
theorem WL.app {H0 H H':Hp} {wd t:Addr} {ns:List (List Nat)} {ad:Nat->Addr} {i m p:Nat} {vs:List V} (h:WL H0 H wd ns ad i m) (hp:p < i) (hkid:∀ k,k < i->kid (ns.getD k []) (ns.getD m [])=decide (k=p)) (e:H (ad p)=some (.lst vs))
  (ht:H t=some (.tup [.str (S [(ns.getD m []).getLastD 0]),.int (m:Int)])) (hH:H'=upd H (ad p) (.lst (vs++[.ref t]))):WL H0 H' wd ns ad i (m+1):=by
 subst hH
 have tk:Tk H (upd H (ad p) (.lst (vs++[.ref t]))):=fun b zs eb=>by
  rw[je_ fun z=>by rw[z,e] at eb;cases eb];exact eb
 refine⟨?_,fun k hk=>?_,h.n,h.a⟩
 ·rw[je_ fun z=>by have:=h.d;rw[z,e] at this;cases this];exact h.d
 ·obtain⟨us,eu,hu⟩:=h.l k hk
  rw[y7_,hkid k hk]
  by_cases q:k=p
  ·subst q
   rw[e] at eu
   cases eu
   refine⟨vs++[.ref t],jb_,?_⟩
   rw[decide_eq_true rfl,if_pos rfl,pw_]
   refine IsL.append (IsL.tk tk (zp_ _) hu) ?_
   simp only[pf_,p2_,L2.IsL,wayD,Is]
   exact⟨⟨t,_,rfl,tk _ _ ht,rfl,rfl,trivial⟩,trivial⟩
  ·rw[decide_eq_false q,if_neg pp_,qt_]
   refine⟨us,?_,IsL.tk tk (zp_ _) hu⟩
   rw[je_ fun z=>q (h.a k p hk hp z)];exact eu
theorem WL.skip {H0 H:Hp} {wd:Addr} {ns:List (List Nat)} {ad:Nat->Addr} {i m:Nat} (h:WL H0 H wd ns ad i m) (hm:ns.getD m []=[]):WL H0 H wd ns ad i (m+1):=by
 refine⟨h.d,fun k hk=>?_,h.n,h.a⟩
 rw[y7_,hm,show kid (ns.getD k []) []=false by unfold kid;exact decide_eq_false fun z=>z.1 rfl,if_neg pp_,qt_]
 exact h.l k hk
theorem jcg_ {ns:List (List Nat)} (hn:ns.Nodup) {ad:Nat->Addr}:∀{i p:Nat},i<=ns.length->p < i->valV ((p3_ i).map fun k=>((Sum.inr (S (ns.getD k [])):Key),V.ref (ad k))) (Sum.inr (S (ns.getD p [])))=some (.ref (ad p)):=by
 intro i p hi hp
 unfold valV
 have hf:((p3_ i).map fun k=>((Sum.inr (S (ns.getD k [])):Key),V.ref (ad k))).find? (fun kv=>decide (kv.1=(Sum.inr (S (ns.getD p [])):Key)))=some ((Sum.inr (S (ns.getD p [])):Key),V.ref (ad p)):=by
  rw[kz_]
  have:(p3_ i).find? ((fun kv:Key×V=>decide (kv.1=(Sum.inr (S (ns.getD p [])):Key)))∘fun k=>((Sum.inr (S (ns.getD k [])):Key),V.ref (ad k)))=some p:=by
   rw[List.find?_range_eq_some]
   refine⟨by simp,p4_.mpr hp,fun j hj=>?_⟩
   simp only[w6_,wq_,decide_eq_false_iff_not]
   intro e
   have e:=vx_ e
   rw[zf_ (by omega),zf_ (by omega)] at e
   exact rf_.mp hn j p (by omega) (by omega) hj e
  rw[this];rfl
 rw[hf];rfl
theorem jbe_ {ns:List (List Nat)} (hn:ns.Nodup) {ad:Nat->Addr} {i:Nat} (hi:i < ns.length):valV ((p3_ i).map fun k=>((Sum.inr (S (ns.getD k [])):Key),V.ref (ad k))) (Sum.inr (S (ns.getD i [])))=none:=by
 unfold valV
 have hf:((p3_ i).map fun k=>((Sum.inr (S (ns.getD k [])):Key),V.ref (ad k))).find? (fun kv=>decide (kv.1=(Sum.inr (S (ns.getD i [])):Key)))=none:=by
  rw[sv_]
  intro kv hkv
  obtain⟨j,hj,rfl⟩:=qh_.mp hkv
  have hj:=p4_.mp hj
  simp only[decide_eq_true_eq]
  intro e
  have e:=vx_ e
  rw[zf_ (by omega),zf_ (by omega)] at e
  exact rf_.mp hn j i (by omega) (by omega) hj e
 rw[hf];rfl
theorem jqc_ {te:TE} {σ:St} {H:Hp} {R:It->Hp->Prop} (h:te σ H (ul_ 0 R)):jpa_ te σ H R:=h
theorem jjx_ {td ty:TE} {σ:St} {H:Hp} {Q:VK} (h:td σ H fun x H1=>ty σ H1 fun y H2=>∃ a v,x=.ref a/\DGet H2 a y (some v)/\Q v H2):jsx_ td ty σ H Q:=h
theorem jri_ {td ty:TE} {σ:St} {H:Hp} {Q:VK} (h:td σ H fun x H1=>∃ a,x=.ref a/\IsD H1 a/\ty σ H1 fun y H2=>∃ o,DGet H2 a y o/\Q (o.getD .non) H2):jnz_ td ty σ H Q:=h
theorem jmd_ {ns:List (List Nat)} (hn:ns.Nodup) {ad:Nat->Addr} {i:Nat} {ai:Addr} (hi:i < ns.length):putK ((p3_ i).map fun k=>((Sum.inr (S (ns.getD k [])):Key),V.ref (ad k))) (Sum.inr (S (ns.getD i []))) (.ref ai)=(p3_ (i+1)).map fun k=>((Sum.inr (S (ns.getD k [])):Key),V.ref (if k=i then ai else ad k)):=by
 rw[jpw_ _ (jbe_ hn hi),rt_,pw_]
 congr 1
 ·refine qo_ fun k hk=>?_
  have:=p4_.mp hk
  rw[if_neg (by omega)]
 ·simp
section
variable {P:Program} {w:World} {K:pd_} {mg:Str->Option Value} {base:Heap} {f:Addr} {fd:FuncData} {tk:Nat->Tok}
theorem jiu_ (T:Txt mg tk) (F:Fun K "wood_of" "wood_of" s_wood_of f fd) (D_beginnings:Dn P w K mg base "beginnings" 1 ["patterns"] jja_) (D_greatest_numbers:Dn P w K mg base "greatest_numbers" 1 ["patterns"] jps_):FnOk P w K mg base CX0 2 f fd ["patterns"] jhs_:=by
 refine F.ok sc_wood_of (fun vs H Q E h=>?_) (fun cdv A outer s H vs Q E hr h=>?_)
 ·obtain⟨v,xs,rfl,_⟩:=h
  rfl
 obtain⟨v,xs,rfl,hv,hxx,hxl,hbl,q⟩:=h
 have nd:=sc_wood_of.nd
 refine⟨_,(jc_ (jj_ (i:=1) nd rfl (Or.inr rfl) (jg_ D_greatest_numbers hr.mo_ rfl (ja_ (pv 0) pa_nil)))
  (jc_ (jj_ (i:=2) nd rfl (Or.inl rfl) (ji_ (jqg_ rfl) rfl T.z_sorted (by decide +kernel) (ja_ (jg_ D_beginnings hr.mo_ rfl (ja_ (pv 0) pa_nil)) pa_nil)))
  (jc_ (jj_ (i:=3) nd rfl (Or.inr rfl) jaa_)
  (jc_ (zh_ qi_ rfl (jpb_ rfl T.z_enumerate (pv 2)) (u8_ rfl (zb_ (jn_ (i:=4) nd rfl (Or.inl rfl)) (zb_ (jn_ (i:=5) nd rfl (Or.inl rfl)) xl_)))
   (jc_ (uy_ (ve_ hr) (pv 3) (pv 5) (zl_ pa_nil) rfl)
  (jh_ (zg_ (jv_ (o_ne hr.units) (pv 5) pe_str (j0_ _))
   (jh_ (z2_ (ya_ (K:=K) qg_ q4_ q5_ zz_ (jju_ (ve_ hr) (pv 3) (zc_ (yb_ (K:=K)) (pv 5) ye_ (j9_ (jjv_ jkv_ pe_int))) (fun _ _=>rfl)) (ja_ (zy_ (ja_ (jr_ (jm_ (K:=K)) (pv 5) (jjv_ jkv_ pe_int) (fun _ _=>rfl)) (ja_ (pv 4) pa_nil))) pa_nil))))
   jy_))))
  (jh_ (jq_ (z3_ ["ways","greatest","name"] [some 3,some 1,none] rfl (by kernel_rfl) rfl (zt_ (K:=K) (pv 2)) (fun _ _ _ _=>(jn_ (i:=2) (show (["ways","greatest","name"]:List Str).Nodup by decide +kernel) rfl (Or.inl rfl) (Or.inr rfl))) (fun _ _ _ _=>z4_) (fun _ _ _ _=>(zy_ (ja_ (zq_ vk_ rfl T.z_tuple (by decide +kernel) (ja_ (jju_ (ve_ hr) (pv 0) (pv 2) (fun _ _=>rfl)) pa_nil)) (ja_ (joi_ (ve_ hr) (pv 1) (pv 2) ⟨rfl,rfl,rfl,rfl⟩) pa_nil))))))))))),?_⟩
 rw[show L2.start ["patterns","greatest","names","ways","number","name"] [v]=[some (v),none,none,none,none,none] from rfl]
 rw[u0_]
 walk_at "go"
 refine⟨v,xs,rfl,hv,hxx,hxl,fun g gkvs H1 hg eg hNT s1=>?_⟩
 walk_at "go"
 refine⟨v,xs,rfl,Is.same s1 hv,fun x hx'=>(hxx x hx').1,hxl,fun b H2 hb eb s2=>?_⟩
 walk_at "go"
 refine jrf_ (ss:=(begs xs).map S) eb ?_ (by rw[pb_];omega) fun nl mm hnl hp hs=>?_
 ·unfold bT;rw[qc_,qc_];rfl
 obtain⟨ns,rfl,hpn⟩:=jor_ hp
 have hN:=jpm_ hpn hs
 have hnl64:ns.length<=5000:=by rw[hpn.length_eq];exact hbl
 have enl:=jb_ (H:=H2) (a:=nl) (o:=.lst ((ns.map S).map V.str))
 have s3:=jd_ hnl (.lst ((ns.map S).map V.str))
 generalize upd H2 nl (.lst ((ns.map S).map V.str))=H3 at enl s3 ⊢
 have s03:=(s1.trans s2).trans s3
 have hg3:=(s2.trans s3) _ _ eg
 have hNT3:=hNT.same (s2.trans s3)
 rw[qc_] at enl
 walk_at "go"
 refine jdu_ fun wd hwd=>?_
 have s4:=jd_ hwd (.dK [])
 have ewd:=jb_ (H:=H3) (a:=wd) (o:=.dK [])
 generalize upd H3 wd (.dK [])=H4 at s4 ewd ⊢
 walk_at "go"
 refine jqc_ ?_
 walk_at "go"
 refine juz_ (s4 _ _ enl) ?_
 have s04:=s03.trans s4
 refine jnk_ (fun i σ H'=>∃(v4 v5:Option V) (ad:Nat->Addr),σ=[some v,some (.ref g),some (.ref nl),some (.ref wd),v4,v5]/\WL H4 H' wd ns ad i i/\∀ b o,b≠wd->H4 b=some o->H' b=some o)
  ⟨none,none,fun _=>0,rfl,⟨ewd,(fun k hk=>by omega),(fun k hk=>by omega),(fun j k hj=>by omega)⟩,fun b o _ e=>e⟩ (fun _ _ H' _ ⟨_,_,_,_,_,k⟩=>k _ _ (fun z=>by rw[z,hwd] at enl;cases enl) (s4 _ _ enl)) ?_ ?_
 ·rintro i x σ H5 T5 hx ⟨v4,v5,ad,rfl,wl,k5⟩ hT5
  rw[ph_] at hx
  obtain⟨hi,rfl⟩:∃ hi:i < ns.length,x=V.str (S ns[i]):=by
   cases e:ns[i]? with
   | none=>rw[e] at hx;cases hx
   | some y =>
    rw[e] at hx;cases hx
    obtain⟨h1,h2⟩:=pl_.mp e
    exact⟨h1,by rw[h2];rfl⟩
  refine v1_ jb_ rfl (zn_ (z1_ (zn_ (z1_ (ue_ ?_)))))
  have hii:V.int (((0:Nat):Int)+(i:Int))=V.int (i:Int):=by congr 1;omega
  rw[hii]
  have sT:=jd_ hT5 (.tup [.int (i:Int),.str (S ns[i])])
  generalize upd H5 T5 (.tup [.int (i:Int),.str (S ns[i])])=H6 at sT ⊢
  have wl6:=wl.same sT
  have k6:∀ b o,b≠wd->H4 b=some o->H6 b=some o:=fun b o hb e=>sT _ _ (k5 b o hb e)
  have hgi:=zf_ hi
  walk_at "go"
  refine jdr_ ?_
  walk_at "go"
  intro ai hai
  have s7:=jd_ hai (.lst [])
  have eai:=jb_ (H:=H6) (a:=ai) (o:=.lst [])
  generalize upd H6 ai (.lst [])=H7 at s7 eai ⊢
  have wl7:=wl6.same s7
  walk_at "go"
  refine⟨wd,_,rfl,DPut.k (k:=Sum.inr (S ns[i])) wl7.d (szn (by rw[pb_,q0_];omega)),?_⟩
  rw[<- hgi,jmd_ hN.nd hi]
  have hai4:H4 ai=none:=by
   cases e:H4 ai with
   | none=>rfl
   | some o =>
    by_cases hb:ai=wd
    ·rw[hb,wl6.d] at hai;cases hai
    ·have:=k6 ai o hb e
     rw[hai] at this;cases this
  have haiw:ai≠wd:=fun z=>by rw[z,wl6.d] at hai;cases hai
  generalize hkv:(p3_ (i+1)).map (fun k=>((Sum.inr (S (ns.getD k [])):Key),V.ref (if k=i then ai else ad k)))=kvs8
  have ewd8:=jb_ (H:=H7) (a:=wd) (o:=.dK kvs8)
  have up8:∀ b o,b≠wd->H7 b=some o->(upd H7 wd (.dK kvs8)) b=some o:=fun b o hb e=>by rw[je_ hb];exact e
  generalize upd H7 wd (.dK kvs8)=H8 at ewd8 up8 ⊢
  rw[<- hkv] at ewd8
  have wl8:WL H4 H8 wd ns (fun k=>if k=i then ai else ad k) (i+1) i:=wl6.put (fun b o hb e=>up8 b o hb (s7 _ _ e)) ewd8 hai4 hai (up8 _ _ haiw eai) (by rw[hgi];exact jcp_ hN hi (by omega))
  have k8:∀ b o,b≠wd->H4 b=some o->H8 b=some o:=fun b o hb e=>up8 b o hb (s7 _ _ (k6 b o hb e))
  clear hkv wl wl6 wl7 up8 k6 k5 s7 sT
  generalize (fun k=>if k=i then ai else ad k)=ad' at wl8
  walk_at "go"
  by_cases hne:ns[i]=[]
  ·refine jdf_ (by rw[hgi,hne];simp) ?_
   walk_at "go"
   exact⟨_,_,ad',rfl,wl8.skip (by rw[hgi,hne]),k8⟩
  ·refine jkt_ (by rw[hgi,decide_eq_false fun z=>hne (jgx_ (by injection z))];rfl) ?_
   obtain⟨p,hp,ep⟩:=hN.up hi hne
   obtain⟨vs,evs,hvs⟩:=wl8.l p (by omega)
   have hvl:=hvs.length
   rw[pb_] at hvl
   have hwn:=jdi_ ns (ns.getD p []) i
   have hsz:vs.length < sizeLine:=szn (by omega)
   have hcut:cutA ns[i] none (some (-1))=ns[p]:=by
    rw[ep]
    have e1:sx ns[i].length 0 none=0:=rfl
    have e2:sx ns[i].length ns[i].length (some (-1))=ns[i].length - 1:=by simp only[sx];rw[if_pos (by decide)];omega
    unfold cutA
    rw[e1,e2,ry_,li_,kp_]
   have hlast:atI ns[i] (-1)=some (ns[i].getLastD 0):=by
    have h1:ixN ns[i].length (-1)=some (ns[i].length - 1):=by
     have:1<=ns[i].length:=by
      cases e:ns[i] with
      | nil=>exact absurd e hne
      | cons x r=>simp
     unfold ixN
     simp
     omega
    unfold atI
    rw[h1,wm_,List.getLast?_eq_getElem?]
    cases e:ns[i][ns[i].length - 1]? with
    | none =>
     rw[wl_] at e
     exact absurd (w2_.mp (by omega)) hne
    | some c=>simp[e]
   have hbnd:ns[i].length<=100:=by
    have:=(hpn.mem_iff (a:=ns[i])).mp (py_ hi)
    rcases mem_begs.mp this with h | ⟨x,hx',e,h1,h2,h3⟩
    ·rw[h];decide
    ·rw[h3,pr_]
     have:=(hxx x hx').1
     omega
   rw[hgi]
   walk_at "go"
   refine jjx_ ?_
   walk_at "go"
   rw[hcut]
   have hgp:ns.getD p []=ns[p]:=zf_ (by omega)
   have hval:=jcg_ (ad:=ad') hN.nd (i:=i+1) (p:=p) (by omega) (by omega)
   rw[hgp] at hval
   refine⟨wd,_,rfl,hval▸DGet.k (k:=Sum.inr (S ns[p])) wl8.d,?_⟩
   walk_at "go"
   refine jxg_ (by omega) hlast ?_
   walk_at "go"
   intro t ht
   have s9:=jd_ ht (.tup [.str (S [ns[i].getLastD 0]),.int (i:Int)])
   have et:=jb_ (H:=H8) (a:=t) (o:=.tup [.str (S [ns[i].getLastD 0]),.int (i:Int)])
   generalize upd H8 t (.tup [.str (S [ns[i].getLastD 0]),.int (i:Int)])=H9 at s9 et ⊢
   have evs9:=s9 _ _ evs
   walk_at "go"
   refine⟨_,_,ad',rfl,(wl8.same s9).app (p:=p) (by omega) (fun k hk=>?_) evs9 (by rw[hgi];exact et) rfl,fun b o hb e=>?_⟩
   ·rw[zf_ (show k < ns.length by omega),hgi]
    exact jrh_ hN hi (by omega) (by omega) hne ep
   ·have:b≠ad' p:=fun z=>by
     have:=wl8.n p (by omega)
     rw[<- z,e] at this;cases this
    rw[je_ this]
    exact s9 _ _ (k8 b o hb e)
 ·rintro σ H5 ⟨v4,v5,ad,rfl,wl,k5⟩
  rw[pb_] at wl
  have hgw:g≠wd:=fun z=>by rw[z,hwd] at hg3;cases hg3
  have hnw:nl≠wd:=fun z=>by rw[z,hwd] at enl;cases enl
  have eg5:=k5 _ _ hgw (s4 _ _ hg3)
  have hNT5:NT H5 gkvs (grt xs):=(hNT3.same s4).tups fun b zs e=>k5 b _ (fun z=>by rw[z,ewd] at e;cases e) e
  have enl5:=k5 _ _ hnw (s4 _ _ enl)
  have hwdH:H wd=none:=by
   cases e:H wd with
   | none=>rfl
   | some o=>have:=s03 _ _ e;rw[hwd] at this;cases this
  have s05:Same H H5:=fun b o e=>k5 b o (fun z=>by rw[z,hwdH] at e;cases e) (s04 _ _ e)
  walk_at "go"
  intro r hr0
  have hrH:H r=none:=s05.free hr0
  refine vz_ (K:=K) (xs:=ns.map (V.str∘S)) (fun j acc σ H'=>∃(v:Option V),σ=[some (.ref wd),some (.ref g),v]/\acc.length=j/\L2.IsL H' acc ((p3_ j).map (knD ns (grt xs)))/\H' r=some (.lst acc)/\Same H5 H')
   (fun i acc σ H' _ ⟨_,_,_,_,_,s⟩=>SqL.of (s _ _ enl5)) ⟨none,rfl,rfl,(by simp only[kr_,p2_,L2.IsL]),jb_,jd_ hr0 _⟩ (fun i acc σ H' ⟨_,_,e,_,e2,_⟩=>⟨e2,by omega⟩) (szn (by rw[pb_];omega)) ?_ ?_
  ·rintro j acc σ Ha hj ⟨v0,rfl,hal,hacc,er,sa⟩
   rw[pb_] at hj
   have hgj:(ns.map (V.str∘S)).getD j .non=.str (S ns[j]):=by
    rw[pe_,ph_,pc_ hj];rfl
   rw[hgj]
   have hgi:=zf_ hj
   have wla:=wl.same sa
   obtain⟨vs,evs,hvs⟩:=wla.l j hj
   have hval:=jcg_ (ad:=ad) hN.nd (i:=ns.length) (p:=j) (pg_ _) hj
   rw[hgi] at hval hvs
   walk_at "go"
   refine jjx_ ?_
   walk_at "go"
   refine⟨wd,_,rfl,hval▸DGet.k (k:=Sum.inr (S ns[j])) wla.d,?_⟩
   walk_at "go"
   refine xg_ (jt_ evs) fun t1 Hb et1 sb=>?_
   walk_at "go"
   refine jri_ ?_
   have egb:=sb _ _ (sa _ _ eg5)
   walk_at "go"
   refine⟨g,rfl,.inl ⟨gkvs,.inl egb⟩,?_⟩
   walk_at "go"
   refine⟨_,DGet.k (k:=Sum.inr (S ns[j])) egb,?_⟩
   have hrange:(p3_ (j+1)).map (knD ns (grt xs))=(p3_ j).map (knD ns (grt xs))++[knD ns (grt xs) j]:=by rw[rt_,pw_];rfl
   have erb:=sb _ _ er
   have haccb:=IsL.same sb hacc
   have hvsb:=IsL.same sb hvs
   have fin:∀(nv:V),Is Hb nv (numD ((jk_ (grt xs) ns[j]).map (·.2)))->∀(p:Addr),Hb p=none->(upd Hb p (.tup [.ref t1,nv])) r=some (.lst acc)/\∃ v,[some (V.ref wd),some (V.ref g),v0].set 2 (some (V.str (S ns[j])))=[some (V.ref wd),some (V.ref g),v]/\(acc++[V.ref p]).length=j+1/\L2.IsL (upd (upd Hb p (.tup [.ref t1,nv])) r (.lst (acc++[V.ref p]))) (acc++[V.ref p]) ((p3_ (j+1)).map (knD ns (grt xs)))/\(upd (upd Hb p (.tup [.ref t1,nv])) r (.lst (acc++[V.ref p]))) r=some (.lst (acc++[V.ref p]))/\Same H5 (upd (upd Hb p (.tup [.ref t1,nv])) r (.lst (acc++[V.ref p]))):=fun nv hnv p hp=>by
    have sp:=jd_ hp (.tup [.ref t1,nv])
    have ep:=jb_ (H:=Hb) (a:=p) (o:=.tup [.ref t1,nv])
    generalize upd Hb p (.tup [.ref t1,nv])=Hc at sp ep ⊢
    have erc:=sp _ _ erb
    have tk:Tk Hc (upd Hc r (.lst (acc++[V.ref p]))):=fun b zs e=>by
     rw[je_ fun z=>by rw[z,erc] at e;cases e];exact e
    refine⟨erc,_,rfl,by rw[pj_,hal];rfl,?_,jb_,fun b o e=>?_⟩
    ·rw[hrange]
     refine IsL.append (IsL.tk tk (jha_ _ _ _) (IsL.same sp haccb)) ?_
     have hk:Is Hc (.ref p) (knD ns (grt xs) j):=by
      unfold knD
      rw[hgi]
      have h1:Is Hc (.ref t1) (.tup ((zo_ ns ns[j] ns.length).map wayD)):=by
       rw[L2.Is.eq_def]
       exact⟨t1,vs,rfl,sp _ _ et1,IsL.same sp hvsb⟩
      have h2:=Is.same sp hnv
      rw[L2.Is.eq_def]
      refine⟨p,_,rfl,ep,?_⟩
      simp only[L2.IsL]
      exact⟨h1,h2,trivial⟩
     simp only[L2.IsL]
     exact⟨Is.tk tk (jgq_ _ _ _) hk,trivial⟩
    ·have hbr:b≠r:=fun z=>by rw[z,hr0] at e;cases e
     rw[je_ hbr]
     exact sp _ _ (sb _ _ (sa _ _ e))
   rcases (hNT5.same (Same.trans sa sb)).val (z:=ns[j]) with ⟨h1,h2⟩ | ⟨g',t',h1,h2,h3,h4,h5⟩
   ·rw[h2]
    walk_at "go"
    exact fin .non (by rw[h1];simp only[kq_,numD,Is])
   ·rw[h4]
    walk_at "go"
    refine fin (.ref t') ?_
    rw[h1]
    simp only[rr_,numD,Is]
    refine⟨t',_,rfl,h5,L2.IsL.ints _ _⟩
  ·rintro acc σ Ha ⟨v0,rfl,hal,hacc,er,sa⟩
   rw[pb_] at hal hacc
   walk_at "go"
   exact q r acc ns Ha hrH er hacc hpn hN (s05.trans sa)
end
abbrev s_number_by_way:Stmt:=top 8
theorem sc_number_by_way:FnScope ["knot","sign","way"] ["knot","sign"] (jl_ s_number_by_way):=by walk_at "f"
abbrev s_fits_from:Stmt:=top 9
theorem sc_fits_from:FnScope ["wood","framed","begin","fits","knot","sign","number"] ["wood","framed","begin"] (jl_ s_fits_from):=by walk_at "f"
abbrev s_wood_values:Stmt:=top 10
theorem sc_wood_values:FnScope ["wood","word","framed","fits","begin"] ["wood","word"] (jl_ s_wood_values):=by walk_at "f"
def kD (k:Kt):Dt:=.tup [.tup (k.1.map wayD),numD k.2]
theorem joc_ (ns:List (List Nat)) (gs:List Pat):jjy_ ns gs=(yk_ ns gs).map kD:=by
 unfold jjy_ yk_
 rw[qc_]
 rfl
theorem jec_ {H:Hp}:∀{l:List (Nat×Nat)} {vs:List V},L2.IsL H vs (l.map wayD)->∀(i:Nat) (h:i < l.length),∃ t,vs[i]?=some (.ref t)/\H t=some (.tup [.str (S [l[i].1]),.int (l[i].2:Int)])
 | [],vs,_,i,h=>by simp at h
 | x::l,[],h,_,_=>by simp[L2.IsL] at h
 | x::l,v::vs,h,i,hi=>by
  simp only[pf_,L2.IsL] at h
  cases i with
  | zero =>
   have h1:=h.1
   unfold wayD at h1
   have h1:∃ a zs,v=.ref a/\H a=some (.tup zs)/\L2.IsL H zs [.str (S [x.1]),.int (x.2:Int)]:=by
    rw[L2.Is.eq_def] at h1
    exact h1
   obtain⟨t,zs,rfl,e,hz⟩:=h1
   refine⟨t,rfl,?_⟩
   match zs,hz with
   | [a,b],hz =>
    simp only[L2.IsL,Is] at hz
    rw[e,hz.1,hz.2.1];rfl
   | [],hz=>simp[L2.IsL] at hz
   | [_],hz=>simp[L2.IsL] at hz
   | _::_::_::_,hz=>simp[L2.IsL] at hz
  | succ i=>simpa using jec_ h.2 i (by simpa using hi)
theorem joz_ {H:Hp} {v:V} {ns:List Int} (h:Is H v (.tup (ns.map Dt.int))):∃ t,v=.ref t/\H t=some (.tup (ns.map V.int)):=by
 simp only[Is] at h
 obtain⟨t,vs,rfl,e,h⟩:=h
 refine⟨t,rfl,?_⟩
 rw[e]
 congr 2
 clear e
 induction ns generalizing vs with
 | nil =>
  cases vs with
  | nil=>rfl
  | cons x r=>simp[L2.IsL] at h
 | cons n ns ih =>
  cases vs with
  | nil=>simp[L2.IsL] at h
  | cons x r =>
   simp only[pf_,L2.IsL,Is] at h
   rw[h.1,ih r h.2];rfl
theorem isK {H:Hp} {v:V} {k:Kt} (h:Is H v (kD k)):∃(a t:Addr) (vs:List V) (nv:V),v=.ref a/\H a=some (.tup [.ref t,nv])/\H t=some (.tup vs)/\L2.IsL H vs (k.1.map wayD)/\Is H nv (numD k.2):=by
 unfold kD at h
 have h:∃ a zs,v=.ref a/\H a=some (.tup zs)/\L2.IsL H zs [.tup (k.1.map wayD),numD k.2]:=by
  rw[L2.Is.eq_def] at h
  exact h
 obtain⟨a,zs,rfl,e,hz⟩:=h
 match zs,hz with
 | [x,b],hz =>
  simp only[L2.IsL] at hz
  obtain⟨h1,h2,_⟩:=hz
  have h1:∃ t vs,x=.ref t/\H t=some (.tup vs)/\L2.IsL H vs (k.1.map wayD):=by
   rw[L2.Is.eq_def] at h1
   exact h1
  obtain⟨t,vs,rfl,et,hv⟩:=h1
  exact⟨a,t,vs,b,rfl,e,et,hv,h2⟩
 | [],hz=>simp[L2.IsL] at hz
 | [_],hz=>simp[L2.IsL] at hz
 | _::_::_::_,hz=>simp[L2.IsL] at hz
def jon_:Sp:=fun vs H Q _=>∃(v:V) (k:Kt) (c:Nat),vs=[v,.str (S [c])]/\Is H v (kD k)/\k.1.length<=5000/\Q (match k.1.find? (fun q=>decide (q.1=c)) with | some p=>.int (p.2:Int) | none=>.non) H
def jhc_:Sp:=fun vs H Q _=>∃(wl:Addr) (ys:List V) (xs:List Pat) (ks:List Kt) (nm:Nat->List Nat) (f:List Nat) (b:Nat),vs=[.ref wl,.str (S f),.int (b:Int)]/\H wl=some (.lst ys)/\L2.IsL H ys (ks.map kD)/\GoodW xs ks nm/\(∀ k∈ks,k.1.length<=5000)/\f.length<=200/\b<=f.length /\
 ∀(r:Addr) (zs:List V) (H':Hp),H r=none->H' r=some (.lst zs)->L2.IsL H' zs ((yc_ (grt xs) f b (f.length - b)).map fitD)->Same H H'->Q (.ref r) H'
def spWV:Sp:=fun vs H Q _=>∃(wl:Addr) (ys:List V) (xs:List Pat) (ks:List Kt) (nm:Nat->List Nat) (w:List Nat),vs=[.ref wl,.str (S w)]/\H wl=some (.lst ys)/\L2.IsL H ys (ks.map kD)/\GoodW xs ks nm/\(∀ k∈ks,k.1.length<=5000)/\(∀ x∈xs,1<=x.1.length/\x.2.length=x.1.length+1)/\1<=w.length/\w.length<=100 /\
 ∀(r:Addr) (H':Hp),H r=none->H' r=some (.lst ((vals xs w).map V.int))->Same H H'->Q (.ref r) H'
theorem xn_:∀ l:List Fit,jw_ (l.map fitD)=true
 | []=>rfl
 | x::l=>by simp only[pf_,jw_,xn_ l,fitD,z7_,jw_,yy_];rfl
section
variable {P:Program} {w:World} {K:pd_} {mg:Str->Option Value} {base:Heap} {f:Addr} {fd:FuncData} {tk:Nat->Tok}
theorem v0_ (T:Txt mg tk) (F:Fun K "number_by_way" "number_by_way" s_number_by_way f fd):FnOk P w K mg base CX0 1 f fd ["knot","sign"] jon_:=by
 refine F.ok sc_number_by_way (fun vs H Q E h=>?_) (fun cdv A outer s H vs Q E hr h=>?_)
 ·obtain⟨v,k,c,rfl,_⟩:=h
  rfl
 obtain⟨v,k,c,rfl,hv,hkl,q⟩:=h
 have nd:=sc_number_by_way.nd
 obtain⟨a,t,vs,nv,rfl,ea,et,hvs,_⟩:=isK hv
 have hvl:=hvs.length
 rw[pb_] at hvl
 refine⟨_,(jc_ (zh_ qi_ rfl (zt_ (K:=K) (jr_ (jm_ (K:=K)) (pv 0) pe_int (fun _ _=>rfl))) (jn_ (i:=2) nd rfl (Or.inl rfl))
   (jh_ (zg_ (jv_ (o_eq hr.units) (jr_ (jm_ (K:=K)) (pv 2) pe_int (fun _ _=>rfl)) (pv 1) (j0_ _))
   (jh_ (jq_ (jr_ (jm_ (K:=K)) (pv 2) pe_int (fun _ _=>rfl))))
   jy_)))
  (jh_ (jq_ xj_))),?_⟩
 rw[show L2.start ["knot","sign","way"] [.ref a,.str (S [c])]=[some (.ref a),some (.str (S [c])),none] from rfl]
 walk_at "go"
 refine jqh_ (K:=K) (xs:=vs) (fun j σ H'=>∃(v2:Option V),σ=[some (.ref a),some (.str (S [c])),v2]/\H'=H/\k.1.find? (fun q=>decide (q.1=c))=(k.1.drop j).find? (fun q=>decide (q.1=c)))
  ⟨none,rfl,rfl,rfl⟩ (fun j σ H' _ ⟨_,_,e,_⟩=>by rw[e];exact SqT.of et) ?_ ?_
 ·rintro j x σ H2 hx ⟨v2,rfl,rfl,hfd⟩
  have hj:j < k.1.length:=by have:=(pl_.mp hx).1;omega
  obtain⟨tw,h1,h2⟩:=jec_ hvs j hj
  rw[hx] at h1
  cases h1
  rw[sa_ hj,qk_] at hfd
  generalize k.1[j]=p at h2 hfd
  walk_at "go"
  by_cases hc:p.1=c
  ·rw[decide_eq_true hc] at hfd
   refine jkt_ (by rw[hc];exact decide_eq_true rfl) ?_
   walk_at "go"
   rw[hfd] at q
   exact q
  ·rw[decide_eq_false hc] at hfd
   refine jdf_ (decide_eq_false fun z=>hc (by have:=jgx_ (by injection z);injection this)) ?_
   walk_at "go"
   exact⟨_,rfl,rfl,hfd⟩
 ·rintro σ H2 ⟨v2,rfl,rfl,hfd⟩
  rw[hvl,List.drop_length] at hfd
  have hfd:k.1.find? (fun q=>decide (q.1=c))=none:=hfd
  walk_at "go"
  rw[hfd] at q
  exact q
theorem jen_ (T:Txt mg tk) (F:Fun K "fits_from" "fits_from" s_fits_from f fd) (D_number_by_way:Dn P w K mg base "number_by_way" 1 ["knot","sign"] jon_):FnOk P w K mg base CX0 2 f fd ["wood","framed","begin"] jhc_:=by
 refine F.ok sc_fits_from (fun vs H Q E h=>?_) (fun cdv A outer s H vs Q E hr h=>?_)
 ·obtain⟨wl,ys,xs,ks,nm,fr,b,rfl,_⟩:=h
  rfl
 obtain⟨wl,ys,xs,ks,nm,fr,b,rfl,hwl,hys,hG,hkl,hfl,hb,q⟩:=h
 have nd:=sc_fits_from.nd
 have hyl:=hys.length
 rw[pb_] at hyl
 have knot:∀(H':Hp),Same H H'->∀ m (h:m < ks.length),∃ v,ys[m]?=some v/\Is H' v (kD ks[m]):=fun H' s m hm=>by
  obtain⟨v,d,h1,h2,h3⟩:=IsL.get (IsL.same s hys) (i:=m) (by rw[pb_];exact hm)
  rw[ph_,pc_ hm] at h2
  cases h2
  exact⟨v,h1,h3⟩
 refine⟨_,(jc_ (jj_ (i:=3) nd rfl (Or.inl rfl) (zl_ pa_nil))
  (jc_ (jj_ (i:=4) nd rfl (Or.inl rfl) (jr_ (jm_ (K:=K)) (pv 0) pe_int (fun _ _=>rfl)))
  (jc_ (zh_ qi_ rfl (zt_ (K:=K) (zc_ (yb_ (K:=K)) (pv 1) (j9_ (pv 2)) ye_)) (jn_ (i:=5) nd rfl (Or.inl rfl))
   (jc_ (jj_ (i:=6) nd rfl (Or.inl rfl) (jg_ D_number_by_way hr.mo_ rfl (ja_ (pv 4) (ja_ (pv 5) pa_nil))))
  (jc_ (zg_ (jv_ o_is (pv 6) xj_ (j0_ _))
   (jh_ (jq_ (pv 3)))
   jy_)
  (jc_ (jj_ (i:=4) nd rfl (Or.inl rfl) (jr_ (jm_ (K:=K)) (pv 0) (pv 6) (fun _ _=>rfl)))
  (jh_ (zg_ (jv_ jjr_ (jr_ (jm_ (K:=K)) (pv 4) pe_int (fun _ _=>rfl)) xj_ (j0_ _))
   (jh_ (z2_ (ya_ (K:=K) qg_ q4_ q5_ zz_ (pv 3) (ja_ (zy_ (ja_ (pv 2) (ja_ (jr_ (jm_ (K:=K)) (pv 4) pe_int (fun _ _=>rfl)) pa_nil))) pa_nil))))
   jy_))))))
  (jh_ (jq_ (pv 3)))))),?_⟩
 rw[show L2.start ["wood","framed","begin","fits","knot","sign","number"] [.ref wl,.str (S fr),.int (b:Int)]=[some (.ref wl),some (.str (S fr)),some (.int (b:Int)),none,none,none,none] from rfl]
 walk_at "go"
 intro r hr0
 have s1:=jd_ hr0 (.lst [])
 have er:=jb_ (H:=H) (a:=r) (o:=.lst [])
 generalize upd H r (.lst [])=H1 at s1 er ⊢
 have hwl1:=s1 _ _ hwl
 obtain⟨k0,hk0,hkd0⟩:=knot H1 s1 0 hG.pos
 walk_at "go"
 refine yd_ (v:=k0) (jt_ hwl1) (j8_ (sn_ 0) hk0) ?_
 walk_at "go"
 rw[jbc_ fr b hb]
 have hgl:(fr.drop b).length=fr.length - b:=by rw[qb_]
 have hfB:∀ e,yc_ (grt xs) fr b e=yc_ (grt xs) fr b e:=fun _=>rfl
 refine jqi_ (xs:=chs (S (fr.drop b))) (fun e σ H'=>∃(i:Nat) (kv:V) (v5 v6:Option V) (zs:List V),σ=[some (.ref wl),some (.str (S fr)),some (.int (b:Int)),some (.ref r),some kv,v5,v6]/\i < ks.length/\nm i=(fr.drop b).take e/\ys[i]?=some kv/\H' r=some (.lst zs)/\L2.IsL H' zs ((yc_ (grt xs) fr b e).map fitD)/\Same H H')
  ⟨0,k0,none,none,[],rfl,hG.pos,(by rw[hG.z,sr_]),hk0,er,(by simp only[yc_,kr_,r8_,p2_,L2.IsL]),s1⟩ ?_ ?_
 ·rintro e x σ Ha hx ⟨i,kv,v5,v6,zs,rfl,hi,hnm,hkv,era,hzs,sa⟩
  have he:e < (fr.drop b).length:=by
   have:=(pl_.mp hx).1
   rw[jbf_,j1_] at this
   exact this
  have hxe:x=V.str (S [(fr.drop b)[e]]):=by
   have:=jqs_ he
   rw[pe_,hx] at this
   exact this
  subst hxe
  have htk:(fr.drop b).take (e+1)=nm i++[(fr.drop b)[e]]:=by rw[ra_,pc_ he,hnm];rfl
  obtain⟨kv',hkv',hkd⟩:=knot Ha sa i hi
  rw[hkv] at hkv'
  cases hkv'
  have hway:=hG.way i hi (fr.drop b)[e]
  have hno:=hG.no i hi (fr.drop b)[e]
  rw[<- htk] at hway hno
  generalize (fr.drop b)[e]=c at hway hno ⊢
  have hzl:=hzs.length
  rw[pb_] at hzl
  have hzl2:=jce_ (grt xs) fr b e
  walk_at "go"
  refine⟨kv,ks[i],c,rfl,hkd,hkl _ (py_ hi),?_⟩
  cases hfd:ks[i].1.find? (fun q=>decide (q.1=c)) with
  | none =>
   walk_at "go"
   refine q r zs Ha hr0 era ?_ sa
   rw[jam_ (hno hfd) (fr.length - b) (by omega)]
   exact hzs
  | some p =>
   obtain⟨hp,hnp⟩:=hway p hfd
   obtain⟨kp,hkp,hkdp⟩:=knot Ha sa p.2 hp
   obtain⟨a2,t2,vs2,nv,rfl,ea2,et2,_,hnv⟩:=isK hkdp
   have hwla:=sa _ _ hwl
   have hnum:=hG.num p.2 hp
   rw[hnp] at hnum
   rw[hnum] at hnv
   have hsz:zs.length < sizeLine:=szn (by omega)
   walk_at "go"
   refine yd_ (v:=.ref a2) (jt_ hwla) (j8_ (by omega) (by rw[rn_];exact hkp)) ?_
   walk_at "go"
   cases hlk:(jk_ (grt xs) ((fr.drop b).take (e+1))).map (·.2) with
   | none =>
    rw[hlk] at hnv
    have:nv=.non:=by simpa only [numD,Is] using hnv
    subst this
    walk_at "go"
    refine⟨p.2,_,_,_,zs,rfl,hp,hnp,hkp,era,?_,sa⟩
    rw[x4_,hlk]
    simp only[qt_]
    exact hzs
   | some g =>
    rw[hlk] at hnv
    obtain⟨tg,rfl,etg⟩:=joz_ hnv
    walk_at "go"
    intro tn htn
    have sb:=jd_ htn (.tup [.int (b:Int),.ref tg])
    have etn:=jb_ (H:=Ha) (a:=tn) (o:=.tup [.int (b:Int),.ref tg])
    generalize upd Ha tn (.tup [.int (b:Int),.ref tg])=Hb at sb etn ⊢
    have erb:=sb _ _ era
    walk_at "go"
    have tkc:Tk Hb (upd Hb r (.lst (zs++[.ref tn]))):=fun y zs' ey=>by
     rw[je_ fun z=>by rw[z,erb] at ey;cases ey];exact ey
    refine⟨p.2,_,_,_,zs++[.ref tn],rfl,hp,hnp,hkp,jb_,?_,fun y o ey=>?_⟩
    ·rw[x4_,hlk]
     simp only[pw_]
     refine IsL.append (IsL.tk tkc (xn_ _) (IsL.same sb hzs)) ?_
     simp only[pf_,p2_,L2.IsL,fitD,Is]
     exact⟨⟨tn,_,rfl,tkc _ _ etn,rfl,⟨tg,_,rfl,tkc _ _ (sb _ _ etg),L2.IsL.ints _ _⟩,trivial⟩,trivial⟩
    ·have hyr:y≠r:=fun z=>by rw[z,hr0] at ey;cases ey
     rw[je_ hyr];exact sb _ _ (sa _ _ ey)
 ·rintro σ Ha ⟨i,kv,v5,v6,zs,rfl,hi,hnm,hkv,era,hzs,sa⟩
  rw[jbf_,j1_,hgl] at hzs
  walk_at "go"
  exact q r zs Ha hr0 era hzs sa
theorem jae_ (T:Txt mg tk) (F:Fun K "wood_values" "wood_values" s_wood_values f fd) (D_fits_from:Dn P w K mg base "fits_from" 2 ["wood","framed","begin"] jhc_) (D_values_by_fits:Dn P w K mg base "values_by_fits" 1 ["fits","word"] vm_):FnOk P w K mg base CX0 3 f fd ["wood","word"] spWV:=by
 refine F.ok sc_wood_values (fun vs H Q E h=>?_) (fun cdv A outer s H vs Q E hr h=>?_)
 ·obtain⟨wl,ys,xs,ks,nm,w',rfl,_⟩:=h
  rfl
 obtain⟨wl,ys,xs,ks,nm,w',rfl,hwl,hys,hG,hkl,hx,hw1,hw2,q⟩:=h
 have nd:=sc_wood_values.nd
 refine⟨_,(jc_ (jj_ (i:=2) nd rfl (Or.inl rfl) (jo_ j7_ (jo_ j7_ pe_str (pv 1)) pe_str))
  (jc_ (jj_ (i:=3) nd rfl (Or.inl rfl) (zl_ pa_nil))
  (jc_ (zh_ qi_ rfl (zd_ rfl T.z_range (ja_ (ji_ (zr_ (K:=K)) rfl T.z_len (by decide +kernel) (ja_ (pv 2) pa_nil)) pa_nil)) (jn_ (i:=4) nd rfl (Or.inl rfl))
   (jh_ (z2_ (ya_ (K:=K) qg_ tg_ th_ v8_ (pv 3) (ja_ (jg_ D_fits_from hr.mo_ rfl (ja_ (pv 0) (ja_ (pv 2) (ja_ (pv 4) pa_nil)))) pa_nil)))))
  (jh_ (jq_ (jg_ D_values_by_fits hr.mo_ rfl (ja_ (pv 3) (ja_ (pv 1) pa_nil)))))))),?_⟩
 rw[show L2.start ["wood","word","framed","fits","begin"] [.ref wl,.str (S w')]=[some (.ref wl),some (.str (S w')),none,none,none] from rfl]
 rw[jky_]
 walk_at "go"
 rw[jfz_]
 have hfl:=za_ w'
 walk_at "go"
 intro r hr0
 have s1:=jd_ hr0 (.lst [])
 have er:=jb_ (H:=H) (a:=r) (o:=.lst [])
 generalize upd H r (.lst [])=H1 at s1 er ⊢
 walk_at "go"
 refine yh_ (fun j σ H'=>∃(v4:Option V) (zs:List V),σ=[some (.ref wl),some (.str (S w')),some (.str (S (frame w'))),some (.ref r),v4]/\H' r=some (.lst zs)/\L2.IsL H' zs ((yq_ (grt xs) (frame w') j).map fitD)/\zs.length<=200 * j/\Same H H')
  ⟨none,[],rfl,er,(by simp only[yq_,kr_,List.flatMap_nil,p2_,L2.IsL]),pg_ _,s1⟩ ?_ ?_
 ·rintro j σ Ha hj ⟨v4,zs,rfl,era,hzs,hzl,sa⟩
  have hj:j < (frame w').length:=by omega
  have hz0:(0:Int)+(j:Int)=(j:Int):=by omega
  walk_at "go"
  rw[hz0]
  refine⟨wl,ys,xs,ks,nm,frame w',j,rfl,sa _ _ hwl,IsL.same sa hys,hG,hkl,by omega,by omega,fun r2 us Hb hr2 er2 hus sb=>?_⟩
  have erb:=sb _ _ era
  have hul:=hus.length
  rw[pb_] at hul
  have hul2:=jce_ (grt xs) (frame w') j ((frame w').length - j)
  have hsz:zs.length+us.length<=sizeLine:=szn (by omega)
  walk_at "go"
  refine jij_ erb er2 hsz ?_
  have tkc:Tk Hb (upd Hb r (.lst (zs++us))):=fun y zs' ey=>by
   rw[je_ fun z=>by rw[z,erb] at ey;cases ey];exact ey
  walk_at "go"
  refine⟨_,zs++us,rfl,jb_,?_,by rw[pj_];omega,fun y o ey=>?_⟩
  ·rw[jhz_,pw_]
   exact IsL.append (IsL.tk tkc (xn_ _) (IsL.same sb hzs)) (IsL.tk tkc (xn_ _) hus)
  ·have hyr:y≠r:=fun z=>by rw[z,hr0] at ey;cases ey
   rw[je_ hyr];exact sb _ _ (sa _ _ ey)
 ·rintro σ Ha ⟨v4,zs,rfl,era,hzs,hzl,sa⟩
  walk_at "go"
  have hin:=jpp_ (fun x h=>(hx x h).2) (f:=frame w') (n:=(frame w').length)
  have hv:=uc_ hx w' hw1
  try rw[rn_] at hzs
  refine⟨.ref r,yq_ (grt xs) (frame w') (frame w').length,w',rfl,?_,fun x h=>?_,hw2,fun r2 Hb hr2 er2 sb=>?_⟩
  ·simp only[Is,jfw_]
   exact⟨r,zs,rfl,era,hzs⟩
  ·have:=hin x h
   rw[hfl] at this
   exact this
  ·rw[hv] at er2
   walk_at "go"
   exact q r2 Hb (sa.free hr2) er2 (sa.trans sb)
end
abbrev s_patterns_in:Stmt:=top 11
theorem sc_patterns_in:FnScope ["wood","found","waiting","reached","name","knot"] ["wood"] (jl_ s_patterns_in):=by walk_at "f"
theorem jgb_ {K:pd_} {a:Addr} {xs:List V} {p:Addr} {g:TG} {tc:TT} {te:TE} {Q:VK} {σ0:St} {H0:Hp} (Pv:Nat->List V->St->Hp->Prop)
  (hl:∀ i acc σ H,i<=xs.length->Pv i acc σ H->SqT K H a xs)
  (h0:Pv 0 [] σ0 H0) (hp:∀ i acc σ H,Pv i acc σ H->H p=some (.lst acc)/\acc.length<=i) (hz:xs.length<=sizeLine)
  (hs:∀ i acc σ H,i < xs.length->Pv i acc σ H->g (xs.getD i .non) σ H fun σ3 H3=>tc σ3 H3 fun b H4 =>
   if b=true then te σ3 H4 fun v H5=>H5 p=some (.lst acc)/\Pv (i+1) (acc++[v]) σ3 (upd H5 p (.lst (acc++[v]))) else Pv (i+1) acc σ3 H4)
  (hd:∀ acc σ H,Pv xs.length acc σ H->Q (.ref p) H):yo_ (Itt K a) p g tc te Q σ0 H0 :=
 jdy_ (J:=Itt K a) (n:=xs.length) (val:=fun i=>xs.getD i .non) Pv
  (fun i acc σ H hi q=>⟨xs,xs[i],(hl i acc σ H (si_ hi) q),by simp[hi]⟩) (fun acc σ H q=>⟨xs,(hl _ acc σ H (pg_ _) q),pg_ _⟩)
  (fun i acc σ H x _ hi q y=>⟨y.1,by have:=y.2 xs (hl i acc σ H (si_ hi) q);rw[pe_,this];rfl⟩) h0 hp hz hs hd
theorem jqd_ {σ:St} {H:Hp} {D:Ends} {c:TT} {tb:TS} (h:∃ W:Nat->St->Hp->Prop,(∃ m,W m σ H)/\∀ m σ H,W m σ H ->
 c σ H fun b H1=>if b=true then ∃ N:St->Hp->Prop,(∀ σ' H',N σ' H'->∃ m',m' < m/\W m' σ' H')/\tb { D with nx:=N,ct:=N,bk:=D.nx } σ H1 else D.nx σ H1):jov_ c tb D σ H:=h
theorem IsL.split {H:Hp}:∀{d1 d2:List Dt} {vs:List V},L2.IsL H vs (d1++d2)->∃ v1 v2,vs=v1++v2/\L2.IsL H v1 d1/\L2.IsL H v2 d2
 | [],d2,vs,h=>⟨[],vs,rfl,by simp only[L2.IsL],h⟩
 | d::d1,d2,[],h=>by simp[L2.IsL] at h
 | d::d1,d2,v::vs,h=>by
  simp only[w7_,L2.IsL] at h
  obtain⟨v1,v2,e,h1,h2⟩:=IsL.split h.2
  exact⟨v::v1,v2,by rw[e];rfl,by simp only[L2.IsL];exact⟨h.1,h1⟩,h2⟩
theorem job_ {α β:Type} {f:α->β} {m0 m:List β} (h:m0.Perm m):∀{l:List α},m0=l.map f->∃ l':List α,m=l'.map f/\l'.Perm l:=by
 induction h with
 | nil =>
  intro l e
  have:l=[]:=by cases l with
   | nil=>rfl
   | cons a l=>simp at e
  exact⟨[],rfl,by rw[this]⟩
 | cons x _ ih =>
  intro l e
  cases l with
  | nil=>simp at e
  | cons a l =>
   rw[pf_,wb_] at e
   obtain⟨l',e1,e2⟩:=ih e.2
   exact⟨a::l',by rw[pf_,<- e1,e.1],e2.cons a⟩
 | swap x y r =>
  intro l e
  match l,e with
  | a::b::l,e =>
   simp only[pf_,wb_] at e
   exact⟨b::a::l,by rw[pf_,pf_,e.1,e.2.1,e.2.2],q7_.swap a b l⟩
  | [],e=>simp at e
  | [_],e=>simp at e
 | trans _ _ ih1 ih2 =>
  intro l e
  obtain⟨l1,e1,p1⟩:=ih1 e
  obtain⟨l2,e2,p2⟩:=ih2 e1
  exact⟨l2,e2,p2.trans p1⟩
theorem jbd_ {H:Hp}:∀{fs:List Pat} {zs:List V},L2.IsL H zs (fs.map patD)->∃ l:List (Addr×Pat),zs=l.map (fun p=>V.ref p.1)/\l.map (·.2)=fs/\∀ p∈l,Is H (.ref p.1) (patD p.2)
 | [],[],_=>⟨[],rfl,rfl,fun p h=>nomatch h⟩
 | [],_::_,h=>by simp[L2.IsL] at h
 | f::fs,[],h=>by simp[L2.IsL] at h
 | f::fs,z::zs,h=>by
  simp only[pf_,L2.IsL] at h
  obtain⟨l,e1,e2,e3⟩:=jbd_ h.2
  obtain⟨a,t,rfl,_,_⟩:=vi_ h.1
  refine⟨(a,f)::l,by rw[e1];rfl,by rw[pf_,e2],fun p hp=>?_⟩
  rcases pt_.mp hp with e | hp
  ·rw[e];exact h.1
  ·exact e3 p hp
theorem jci_ {H:Hp}:∀{l:List (Addr×Pat)},(∀ p∈l,Is H (.ref p.1) (patD p.2))->L2.IsL H (l.map fun p=>V.ref p.1) ((l.map (·.2)).map patD)
 | [],_=>by simp only[p2_,L2.IsL]
 | p::l,h=>by
  simp only[pf_,L2.IsL]
  exact⟨h p po_,jci_ fun q hq=>h q (pn_ _ hq)⟩
theorem jcm_ {H:Hp} {l:List (Addr×Pat)} (h:∀ p∈l,Is H (.ref p.1) (patD p.2)) {qs:List (Addr×Str)} (hp:qs.Perm (l.map fun p=>(p.1,S p.2.1))) (hs:kx_ (qs.map (·.2))=true) :
  ∃ ps:List Pat,ps.Perm (l.map (·.2))/\kx_ (ps.map fun p=>S p.1)=true/\L2.IsL H (qs.map fun p=>V.ref p.1) (ps.map patD):=by
 obtain⟨l',e1,e2⟩:=job_ hp.symm rfl
 refine⟨l'.map (·.2),e2.map _,?_,?_⟩
 ·rw[e1,qc_] at hs
  rw[qc_]
  exact hs
 ·rw[e1,qc_]
  exact jci_ fun p hp=>h p (e2.mem_iff.mp hp)
theorem jji_ {fs:List Pat} (h:(fs.map (·.1)).Nodup):(fs.map fun p=>S p.1).Nodup:=by
 rw[ld_,rp_] at h ⊢
 exact h.imp fun q e=>q (jgx_ e)
def wqD (nm:Nat->List Nat) (m:Nat):Dt:=.tup [.str (S (nm m)),.int (m:Int)]
theorem yz_ (nm:Nat->List Nat):∀ l:List Nat,jw_ (l.map (wqD nm))=true
 | []=>rfl
 | x::l=>by simp only[pf_,jw_,yz_ nm l,wqD,z7_];rfl
theorem isWq {H:Hp} {v:V} {nm:Nat->List Nat} {m:Nat} (h:Is H v (wqD nm m)):∃ t,v=.ref t/\H t=some (.tup [.str (S (nm m)),.int (m:Int)]):=by
 unfold wqD at h
 have h1:∃ a zs,v=.ref a/\H a=some (.tup zs)/\L2.IsL H zs [.str (S (nm m)),.int (m:Int)]:=by
  rw[L2.Is.eq_def] at h
  exact h
 obtain⟨t,zs,rfl,e,hz⟩:=h1
 refine⟨t,rfl,?_⟩
 match zs,hz with
 | [a,b],hz =>
  simp only[L2.IsL,Is] at hz
  rw[e,hz.1,hz.2.1]
 | [],hz=>simp[L2.IsL] at hz
 | [_],hz=>simp[L2.IsL] at hz
 | _::_::_::_,hz=>simp[L2.IsL] at hz
theorem xr_:∀ l:List Pat,jw_ (l.map patD)=true
 | []=>rfl
 | x::l=>by simp only[pf_,jw_,xr_ l,patD,z7_,yy_];rfl
theorem jao_:∀ l:List (Nat×Nat),jw_ (l.map wayD)=true
 | []=>rfl
 | x::l=>by simp only[pf_,jw_,jao_ l,wayD,z7_];rfl
theorem jok_ (nm:Nat->List Nat) (l:List (Nat×Nat)):jw_ (l.map fun p=>wqD nm p.2)=true:=by
 have:=yz_ nm (l.map (·.2))
 rw[qc_] at this;exact this
def jns_:Sp:=fun vs H Q _=>∃(wl:Addr) (ys:List V) (xs:List Pat) (ks:List Kt) (nm:Nat->List Nat),vs=[.ref wl]/\H wl=some (.lst ys)/\L2.IsL H ys (ks.map kD)/\GoodT xs ks nm/\(∀ k∈ks,k.1.length<=5000)/\(begs xs).length<=5000/\(∀ x∈xs,x.1.length<=100) /\
 ∀(r:Addr) (zs:List V) (ps:List Pat) (H':Hp),H r=none->H' r=some (.lst zs)->L2.IsL H' zs (ps.map patD)->SrtG (grt xs) ps->Same H H'->Q (.ref r) H'
section
variable {P:Program} {w:World} {K:pd_} {mg:Str->Option Value} {base:Heap} {f:Addr} {fd:FuncData} {tk:Nat->Tok}
theorem jaz_ (T:Txt mg tk) (F:Fun K "patterns_in" "patterns_in" s_patterns_in f fd):FnOk P w K mg base CX0 1 f fd ["wood"] jns_:=by
 refine F.ok sc_patterns_in (fun vs H Q E h=>?_) (fun cdv A outer s H vs Q E hr h=>?_)
 ·obtain⟨wl,ys,xs,ks,nm,rfl,_⟩:=h
  rfl
 obtain⟨wl,ys,xs,ks,nm,rfl,hwl,hys,hG,hkl,hbl,hxl,q⟩:=h
 have nd:=sc_patterns_in.nd
 have hyl:=hys.length
 rw[pb_] at hyl
 have knot:∀(H':Hp),Same H H'->∀ m (h:m < ks.length),∃ v,ys[m]?=some v/\Is H' v (kD ks[m]):=fun H' s m hm=>by
  obtain⟨v,d,h1,h2,h3⟩:=IsL.get (IsL.same s hys) (i:=m) (by rw[pb_];exact hm)
  rw[ph_,pc_ hm] at h2
  cases h2
  exact⟨v,h1,h3⟩
 have hB:∀ z∈begs xs,z.length<=100:=fun z hz=>by
  rcases mem_begs.mp hz with h | ⟨x,hx,e,_,_,h⟩
  ·rw[h];exact ri_ _
  ·rw[h,pr_];have:=hxl x hx;omega
 refine⟨_,(jc_ (jj_ (i:=1) nd rfl (Or.inl rfl) (zl_ pa_nil))
  (jc_ (jj_ (i:=2) nd rfl (Or.inl rfl) (zl_ (ja_ (zy_ (ja_ pe_str (ja_ pe_int pa_nil))) pa_nil)))
  (jc_ (jnd_ qi_ (jv_ o_gt (ji_ (zr_ (K:=K)) rfl T.z_len (by decide +kernel) (ja_ (pv 2) pa_nil)) pe_int (j0_ _))
   (jc_ (jj_ (i:=3) nd rfl (Or.inl rfl) (jkl_ (K:=K) qg_ PySem.F.slot_list_pop PySem.F.type_list_pop jwj_ (pv 2)))
  (jc_ (jj_ (i:=4) nd rfl (Or.inr rfl) (jr_ (jm_ (K:=K)) (pv 3) pe_int (fun _ _=>rfl)))
  (jc_ (jj_ (i:=5) nd rfl (Or.inl rfl) (jr_ (jm_ (K:=K)) (pv 0) (jr_ (jm_ (K:=K)) (pv 3) pe_int (fun _ _=>rfl)) (fun _ _=>rfl)))
  (jc_ (zg_ (jv_ jjr_ (jr_ (jm_ (K:=K)) (pv 5) pe_int (fun _ _=>rfl)) xj_ (j0_ _))
   (jh_ (z2_ (ya_ (K:=K) qg_ q4_ q5_ zz_ (pv 1) (ja_ (zy_ (ja_ (pv 4) (ja_ (jr_ (jm_ (K:=K)) (pv 5) pe_int (fun _ _=>rfl)) pa_nil))) pa_nil))))
   jy_)
  (jh_ (z2_ (ya_ (K:=K) qg_ tg_ th_ v8_ (pv 2) (ja_ (z3_ ["name","way"] [some 4,none] rfl (by kernel_rfl) rfl (zt_ (K:=K) (jr_ (jm_ (K:=K)) (pv 5) pe_int (fun _ _=>rfl))) (fun _ _ _ _=>(jn_ (i:=1) (show (["name","way"]:List Str).Nodup by decide +kernel) rfl (Or.inl rfl) (Or.inr rfl))) (fun _ _ _ _=>z4_) (fun _ _ _ _=>(zy_ (ja_ (jo_ j7_ (pv 0) (jr_ (jm_ (K:=K)) (pv 1) pe_int (fun _ _=>rfl))) (ja_ (jr_ (jm_ (K:=K)) (pv 1) pe_int (fun _ _=>rfl)) pa_nil))))) pa_nil)))))))))
  (jh_ (jq_ (ji_ (jrv_ rfl) rfl T.z_sorted (by decide +kernel) (ja_ (pv 1) pa_nil))))))),?_⟩
 rw[show L2.start ["wood","found","waiting","reached","name","knot"] [.ref wl]=[some (.ref wl),none,none,none,none,none] from rfl]
 rw[u0_]
 walk_at "go"
 intro fo hfo
 have s1:=jd_ hfo (.lst [])
 have efo:=jb_ (H:=H) (a:=fo) (o:=.lst [])
 generalize upd H fo (.lst [])=H1 at s1 efo ⊢
 walk_at "go"
 intro tw htw
 have s2:=jd_ htw (.tup [.str (S []),.int 0])
 have etw:=jb_ (H:=H1) (a:=tw) (o:=.tup [.str (S []),.int 0])
 generalize upd H1 tw (.tup [.str (S []),.int 0])=H2 at s2 etw ⊢
 walk_at "go"
 intro wq hwq
 have hwqH:H wq=none:=(s1.trans s2).free hwq
 have fowq:fo≠wq:=fun z=>by have:=s2 _ _ efo;rw[z,hwq] at this;cases this
 have s3:=jd_ hwq (.lst [.ref tw])
 have ewq:=jb_ (H:=H2) (a:=wq) (o:=.lst [.ref tw])
 generalize upd H2 wq (.lst [.ref tw])=H3 at s3 ewq ⊢
 have s03:=(s1.trans s2).trans s3
 have efo3:=s3 _ _ (s2 _ _ efo)
 have hw3:L2.IsL H3 [.ref tw] ([0].map (wqD nm)):=by
  simp only[pf_,p2_,L2.IsL,wqD,hG.z,Is]
  exact⟨⟨tw,_,rfl,s3 _ _ etw,rfl,rfl,trivial⟩,trivial⟩
 have hdn0:DN (begs xs) [] ([0].map nm):=by rw[pf_,p2_,hG.z];exact DN.start (by have:=hG.inb 0 hG.pos;rwa [hG.z] at this)
 have hwt0:∀ m∈[0],m < ks.length:=fun m hm=>by
  have:m=0:=by simpa using hm
  rw[this];exact hG.pos
 walk_at "go"
 refine jqd_ ⟨fun μ σ H'=>∃(v3 v4 v5:Option V) (dn:List (List Nat)) (wt:List Nat) (zs vsw:List V),σ=[some (.ref wl),some (.ref fo),some (.ref wq),v3,v4,v5]/\H' fo=some (.lst zs)/\L2.IsL H' zs ((fnd (grt xs) dn).map patD)/\H' wq=some (.lst vsw)/\L2.IsL H' vsw (wt.map (wqD nm))/\DN (begs xs) dn (wt.map nm)/\(∀ m∈wt,m < ks.length)/\μ=(begs xs).length - dn.length/\Same H H',
  ⟨_,none,none,none,[],[0],[],[.ref tw],rfl,efo3,(by simp only[fnd,r8_,p2_,L2.IsL]),ewq,hw3,hdn0,hwt0,rfl,s03⟩,?_⟩
 clear s03 s3 s2 s1 efo3 ewq hw3 hdn0 efo etw
 rintro μ σ Hc ⟨v3,v4,v5,dn,wt,zs,vsw,rfl,efo,hzs,ewq,hvw,hdn,hwt,hμ,sc⟩
 have hdl:=hdn.len
 rw[pb_] at hdl
 have hvl:=hvw.length
 rw[pb_] at hvl
 have hzl:=hzs.length
 rw[pb_] at hzl
 have hfl:(fnd (grt xs) dn).length<=dn.length:=tf_ _ _
 walk_at "go"
 rcases List.eq_nil_or_concat wt with h0 | ⟨w',m,h0⟩
 ·subst h0
  refine jdf_ (by rw[hvl];rfl) ?_
  walk_at "go"
  have hpm:=jpz_ hdn
  obtain⟨l,rfl,e2,e3⟩:=jbd_ hzs
  rw[pb_] at hzl
  refine jrx_ (l:=fo) (ps:=l.map fun p=>(p.1,S p.2.1)) (by rw[qc_];exact efo) (fun p hp=>?_) ?_ (by rw[pb_];omega) fun r qs hr0 hp hs=>?_
  ·obtain⟨p,hpl,rfl⟩:=qh_.mp hp
   obtain⟨a,t,e,h1,_⟩:=vi_ (e3 p hpl)
   cases e
   exact⟨_,h1⟩
  ·have h1:(l.map fun p=>(p.1,S p.2.1)).map (·.2)=(fnd (grt xs) dn).map fun p=>S p.1:=by rw[<- e2,qc_,qc_];rfl
   rw[h1]
   exact jji_ ((hpm.map _).nodup_iff.mpr (yv_ xs))
  ·obtain⟨ps,p1,p2,p3⟩:=jcm_ e3 hp hs
   rw[e2] at p1
   walk_at "go"
   have sr:=jd_ hr0 (.lst (qs.map fun p=>V.ref p.1))
   exact q r _ ps _ (sc.free hr0) jb_ (IsL.same sr p3) ⟨p1.trans hpm,p2⟩ (sc.trans sr)
 ·rw[List.concat_eq_append] at h0
  subst h0
  have hwl1:(w'++[m]).length=w'.length+1:=by simp
  refine jkt_ (decide_eq_true (by omega)) ?_
  have hm:=hwt m (by simp)
  obtain⟨vw,vm,rfl,hvw1,hvm⟩:∃ vw vm,vsw=vw++[vm]/\L2.IsL Hc vw (w'.map (wqD nm))/\Is Hc vm (wqD nm m):=by
   rw[pw_] at hvw
   obtain⟨v1,v2,h1,h2,h3⟩:=IsL.split hvw
   match v2,h3 with
   | [x],h3 =>
    simp only[pf_,p2_,L2.IsL] at h3
    exact⟨v1,x,h1,h2,h3.1⟩
   | [],h3=>simp[L2.IsL] at h3
   | _::_::_,h3=>simp[L2.IsL] at h3
  obtain⟨tm,rfl,etm⟩:=isWq hvm
  refine⟨fun σ H'=>∃ m',m' < μ/\∃(v3 v4 v5:Option V) (dn:List (List Nat)) (wt:List Nat) (zs vsw:List V),σ=[some (.ref wl),some (.ref fo),some (.ref wq),v3,v4,v5]/\H' fo=some (.lst zs)/\L2.IsL H' zs ((fnd (grt xs) dn).map patD)/\H' wq=some (.lst vsw)/\L2.IsL H' vsw (wt.map (wqD nm))/\DN (begs xs) dn (wt.map nm)/\(∀ m∈wt,m < ks.length)/\m'=(begs xs).length - dn.length/\Same H H',fun _ _ h=>h,?_⟩
  walk_at "go"
  refine jun_ ewq ?_
  have tk6:Tk Hc (upd Hc wq (.lst vw)):=fun b zs e=>by
   rw[je_ fun z=>by rw[z,ewq] at e;cases e];exact e
  have ewq6:=jb_ (H:=Hc) (a:=wq) (o:=.lst vw)
  have efo6:(upd Hc wq (.lst vw)) fo=_:=(je_ fowq).trans efo
  have s6:Same H (upd Hc wq (.lst vw)):=fun b o e=>by
   rw[je_ (jf_ e hwqH)];exact sc _ _ e
  have etm6:=tk6 _ _ etm
  have hvw6:=IsL.tk tk6 (yz_ nm w') hvw1
  have hzs6:=IsL.tk tk6 (xr_ _) hzs
  generalize upd Hc wq (.lst vw)=H6 at ewq6 efo6 s6 etm6 hvw6 hzs6 ⊢
  clear tk6 hvw hvw1 hvm etm ewq efo hzs sc
  obtain⟨km,hkm,hkd⟩:=knot H6 s6 m hm
  obtain⟨a2,t2,vs2,nv,rfl,ea2,et2,hvs2,hnv⟩:=isK hkd
  have hwl6:=s6 _ _ hwl
  walk_at "go"
  refine yd_ (v:=.ref a2) (jt_ hwl6) (j8_ (by omega) (by rw[rn_];exact hkm)) ?_
  walk_at "go"
  rw[hG.num m hm] at hnv
  have hkid:=hG.kids hm
  have huni:=hG.uni m hm
  have hway:∀ p∈ks[m].1,p.2 < ks.length/\nm p.2=nm m++[p.1]:=fun p hp=>hG.ways hm hp
  have hnin:=hG.inb m hm
  have hnml:=hB _ hnin
  have hkl2:=hkl _ (py_ hm)
  generalize ks[m].1=ws at hvs2 hkid huni hway hkl2
  rw[pw_,pf_,p2_] at hdn
  have hdn2:=hdn.step huni hkid.1 hkid.2
  have hdl2:=hdn2.len
  have hmap:w'.map nm++(ws.map (·.1)).map (fun c=>nm m++[c])=(w'++ws.map (·.2)).map nm:=by
   rw[pw_,qc_,qc_]
   congr 1
   exact qo_ fun p hp=>(hway p hp).2.symm
  rw[hmap] at hdn2 hdl2
  rw[pj_,sy_,pb_,pj_,pb_] at hdl2
  have hvl2:=hvs2.length
  rw[pb_] at hvl2
  have hvwl:vw.length=w'.length:=by have:=hvw6.length;rw[pb_] at this;exact this
  have hfn:∀ g,jk_ (grt xs) (nm m)=some g->fnd (grt xs) (dn++[nm m])=fnd (grt xs) dn++[g]:=fun g h=>by
   unfold fnd
   rw[s0_,qj_,h]
   rfl
  rcases hlk:jk_ (grt xs) (nm m) with _ | g
  case' none =>
   rw[hlk] at hnv
   have:nv=.non:=by simpa only [kq_,numD,Is] using hnv
   subst this
   walk_at "go"
   have hzs7:L2.IsL H6 zs ((fnd (grt xs) (dn++[nm m])).map patD):=by
    have:fnd (grt xs) (dn++[nm m])=fnd (grt xs) dn:=by
     unfold fnd
     rw[s0_,qj_,hlk]
     simp
    rw[this];exact hzs6
   clear hzs6 etm6 hkd hzl hnv
   generalize zs=zs7 at hzs7 efo6
   have hH:∃ H9:Hp,H9=H6:=⟨_,rfl⟩
  case' some =>
   rw[hlk] at hnv
   obtain⟨tg,rfl,etg⟩:=joz_ (show Is H6 nv (.tup (g.2.map Dt.int)) from hnv)
   walk_at "go"
   intro tn htn
   have sb:=jd_ htn (.tup [.str (S (nm m)),.ref tg])
   have etn:=jb_ (H:=H6) (a:=tn) (o:=.tup [.str (S (nm m)),.ref tg])
   generalize upd H6 tn (.tup [.str (S (nm m)),.ref tg])=Hb at sb etn ⊢
   have efob:=sb _ _ efo6
   have hszz:zs.length < sizeLine:=szn (by omega)
   walk_at "go"
   have tkc:Tk Hb (upd Hb fo (.lst (zs++[.ref tn]))):=fun y zs' ey=>by
    rw[je_ fun z=>by rw[z,efob] at ey;cases ey];exact ey
   have hzs7:L2.IsL (upd Hb fo (.lst (zs++[.ref tn]))) (zs++[.ref tn]) ((fnd (grt xs) (dn++[nm m])).map patD):=by
    rw[hfn g hlk,pw_]
    refine IsL.append (IsL.tk tkc (xr_ _) (IsL.same sb hzs6)) ?_
    have hgz:=(jz_ hlk).2
    simp only[pf_,p2_,L2.IsL]
    exact⟨zu_ (by rw[hgz];exact tkc _ _ etn) (tkc _ _ (sb _ _ etg)),trivial⟩
   have efo7:=jb_ (H:=Hb) (a:=fo) (o:=.lst (zs++[.ref tn]))
   have ewq7:(upd Hb fo (.lst (zs++[.ref tn]))) wq=some (.lst vw):=(je_ fowq.symm).trans (sb _ _ ewq6)
   have hvw7:=IsL.tk tkc (yz_ nm w') (IsL.same sb hvw6)
   have s7:Same H (upd Hb fo (.lst (zs++[.ref tn]))):=fun b o e=>by
    rw[je_ (jf_ e hfo)];exact sb _ _ (s6 _ _ e)
   have ea7:=tkc _ _ (sb _ _ ea2)
   have et7:=tkc _ _ (sb _ _ et2)
   have hvs7:=IsL.tk tkc (jao_ ws) (IsL.same sb hvs2)
   generalize upd Hb fo (.lst (zs++[.ref tn]))=H7 at hzs7 efo7 ewq7 hvw7 s7 ea7 et7 hvs7 ⊢
   clear hzs6 efo6 ewq6 hvw6 s6 ea2 et2 hvs2 tkc efob etn sb etg hnv etm6 hwl6 hkd hzl
   generalize zs++[V.ref tn]=zs7 at hzs7 efo7
   have efo6:=efo7
   have ewq6:=ewq7
   have hvw6:=hvw7
   have s6:=s7
   have ea2:=ea7
   have et2:=et7
   have hvs2:=hvs7
   clear efo7 ewq7 hvw7 s7 ea7 et7 hvs7
   have hH:∃ H9:Hp,H9=H7:=⟨_,rfl⟩
  all_goals
   obtain⟨H9,hH⟩:=hH
   rw[<- hH] at efo6 ewq6 hvw6 s6 ea2 et2 hvs2 hzs7 ⊢
   clear hH
   walk_at "go"
   intro r hr0
   refine jgb_ (K:=K) (xs:=vs2) (fun j acc σ H'=>∃(v:Option V),σ=[some (.str (S (nm m))),v]/\acc.length=j/\L2.IsL H' acc ((ws.take j).map fun p=>wqD nm p.2)/\H' r=some (.lst acc)/\Same H9 H')
    (fun i acc σ H' _ ⟨_,_,_,_,_,s⟩=>SqT.of (s _ _ et2)) ⟨none,rfl,rfl,(by simp only[sr_,p2_,L2.IsL]),jb_,jd_ hr0 _⟩ (fun i acc σ H' ⟨_,_,e,_,e2,_⟩=>⟨e2,by omega⟩) (szn (by omega)) ?_ ?_
   ·rintro j acc σ Ha hj ⟨v0,rfl,hal,hacc,er,sa⟩
    have hj2:j < ws.length:=by omega
    obtain⟨tj,h1,h2⟩:=jec_ hvs2 j hj2
    have hgj:vs2.getD j .non=.ref tj:=by rw[pe_,h1];rfl
    rw[hgj]
    have h2a:=sa _ _ h2
    obtain⟨w1,w2⟩:=hway _ (py_ hj2)
    have htk:(ws.take (j+1)).map (fun p=>wqD nm p.2)=(ws.take j).map (fun p=>wqD nm p.2)++[wqD nm ws[j].2]:=by rw[ra_,pc_ hj2,pw_];rfl
    rw[htk]
    generalize ws[j]=p at h2a w1 w2 ⊢
    walk_at "go"
    intro tn htn
    have sb:=jd_ htn (.tup [.str (S (nm m++[p.1])),.int (p.2:Int)])
    have etn:=jb_ (H:=Ha) (a:=tn) (o:=.tup [.str (S (nm m++[p.1])),.int (p.2:Int)])
    generalize upd Ha tn (.tup [.str (S (nm m++[p.1])),.int (p.2:Int)])=Hb at sb etn ⊢
    have erb:=sb _ _ er
    have tkc:Tk Hb (upd Hb r (.lst (acc++[V.ref tn]))):=fun b zs e=>by
     rw[je_ fun z=>by rw[z,erb] at e;cases e];exact e
    refine⟨erb,_,rfl,by rw[pj_,hal];rfl,?_,jb_,fun b o e=>?_⟩
    ·refine IsL.append (IsL.tk tkc (jok_ nm _) (IsL.same sb hacc)) ?_
     simp only[L2.IsL,wqD,Is,w2]
     exact⟨⟨tn,_,rfl,tkc _ _ etn,rfl,rfl,trivial⟩,trivial⟩
    ·rw[je_ (jf_ e hr0)];exact sb _ _ (sa _ _ e)
   ·rintro acc σ Ha ⟨v0,rfl,hal,hacc,er,sa⟩
    rw[hvl2,p5_] at hacc
    walk_at "go"
    refine jij_ (sa _ _ ewq6) er (szn (by omega)) ?_
    have ewqa:=sa _ _ ewq6
    have tkd:Tk Ha (upd Ha wq (.lst (vw++acc))):=fun b zs e=>by
     rw[je_ fun z=>by rw[z,ewqa] at e;cases e];exact e
    walk_at "go"
    refine⟨_,?_,_,_,_,dn++[nm m],w'++ws.map (·.2),zs7,vw++acc,rfl,(je_ fowq).trans (sa _ _ efo6),IsL.tk tkd (xr_ _) (IsL.same sa hzs7),jb_,?_,hdn2,fun i hi=>?_,rfl,fun b o e=>?_⟩
    ·rw[hμ,pj_,sy_];omega
    ·rw[pw_]
     refine IsL.append (IsL.tk tkd (yz_ nm w') (IsL.same sa hvw6)) (IsL.tk tkd (yz_ nm _) ?_)
     rw[qc_];exact hacc
    ·rcases pq_.mp hi with hi | hi
     ·exact hwt i (rw_ _ hi)
     ·obtain⟨p,hp,rfl⟩:=qh_.mp hi
      exact(hway p hp).1
    ·rw[je_ (jf_ e hwqH)];exact sa _ _ (s6 _ _ e)
end
abbrev s_law_greatest:Stmt:=top 21
theorem sc_law_greatest:FnScope ["_law_patterns_here","_law_names","_law_signs","_law_numbers_here","_law_last"] ["_law_patterns_here"] (jl_ s_law_greatest):=by walk_at "f"
theorem NT.keys {H:Hp}:∀{kvs:List (Key×V)} {gs:List Pat},NT H kvs gs->kvs.map (·.1)=(gs.map fun g=>S g.1).map Sum.inr
 | [],[],_=>rfl
 | [],_::_,h=>h.elim
 | _::_,[],h=>h.elim
 | kv::kvs,g::gs,h=>by rw[pf_,pf_,pf_,NT.keys h.2.2,h.1]
theorem NT.at {H:Hp}:∀{kvs:List (Key×V)} {gs:List Pat},NT H kvs gs->∀{j:Nat} {kv:Key×V} {g:Pat},kvs[j]?=some kv->gs[j]?=some g->kv.1=Sum.inr (S g.1)/\∃ t,kv.2=.ref t/\H t=some (.tup (g.2.map V.int))
 | [],[],_,j,kv,g,h1,_=>by simp at h1
 | [],_::_,h,_,_,_,_,_=>h.elim
 | _::_,[],h,_,_,_,_,_=>h.elim
 | kv::kvs,g::gs,h,0,kv',g',h1,h2=>by
  simp at h1 h2
  subst h1 h2
  exact⟨h.1,h.2.1⟩
 | kv::kvs,g::gs,h,j+1,kv',g',h1,h2=>NT.at h.2.2 (j:=j) (by simpa using h1) (by simpa using h2)
def spGr:Sp:=fun vs H Q _=>∃(v:V) (xs:List Pat),vs=[v]/\Is H v (zv_ xs)/\(∀ x∈xs,x.1.length<=100/\x.2.length=x.1.length+1)/\xs.length<=1000 /\
 ∀(r:Addr) (zs:List V) (ps:List Pat) (H':Hp),H r=none->H' r=some (.lst zs)->L2.IsL H' zs (ps.map patD)->SrtG (grt xs) ps->Same H H'->Q (.ref r) H'
section
variable {P:Program} {w:World} {K:pd_} {mg:Str->Option Value} {base:Heap} {f:Addr} {fd:FuncData} {tk:Nat->Tok}
theorem ur_ (T:Txt mg tk) (F:Fun K "_law_greatest" "_law_greatest" s_law_greatest f fd):FnOk P w K mg base CX0 1 f fd ["_law_patterns_here"] spGr:=by
 refine F.ok sc_law_greatest (fun vs H Q E h=>?_) (fun cdv A outer s H vs Q E hr h=>?_)
 ·obtain⟨v,xs,rfl,_⟩:=h
  rfl
 obtain⟨v,xs,rfl,hv,hxs,hxl,q⟩:=h
 have nd:=sc_law_greatest.nd
 obtain⟨b,ys,rfl,hb,hys⟩:=jdm_ hv
 have hyl:ys.length=xs.length:=by have:=hys.length;simpa using this
 refine⟨_,(jc_ (jj_ (i:=1) nd rfl (Or.inl rfl) jaa_)
  (jc_ (zh_ qi_ rfl (zt_ (K:=K) (pv 0)) (u8_ rfl (zb_ (jn_ (i:=2) nd rfl (Or.inl rfl)) (zb_ (jn_ (i:=3) nd rfl (Or.inr rfl)) xl_)))
   (jc_ (jj_ (i:=4) nd rfl (Or.inr rfl) (jfu_ (ve_ hr) (pv 1) (pv 2) (pv 3) ⟨rfl,rfl,rfl,rfl⟩))
  (jh_ (uy_ (ve_ hr) (pv 1) (pv 2) (zq_ vk_ rfl T.z_tuple (by decide +kernel) (ja_ (z3_ ["_law_last","_law_numbers_here","_law_k"] [some 4,some 3,none] rfl (by kernel_rfl) rfl (zd_ rfl T.z_range (ja_ (ji_ (zr_ (K:=K)) rfl T.z_len (by decide +kernel) (ja_ (pv 3) pa_nil)) pa_nil)) (fun _ _ _ _=>(jn_ (i:=2) (show (["_law_last","_law_numbers_here","_law_k"]:List Str).Nodup by decide +kernel) rfl (Or.inl rfl) (Or.inr rfl))) (fun _ _ _ _=>z4_) (fun _ _ _ _=>(ji_ (jss_ rfl) rfl T.z_max (by decide +kernel) (ja_ (jr_ (jm_ (K:=K)) (pv 0) (pv 2) (fun _ _=>rfl)) (ja_ (jr_ (jm_ (K:=K)) (pv 1) (pv 2) (fun _ _=>rfl)) pa_nil))))) pa_nil)) rfl))))
  (jh_ (jq_ (ji_ (jqp_ rfl) rfl T.z_sorted (by decide +kernel) (ja_ (jkl_ (K:=K) tk_ w5_ PySem.F.type_dict_items jqy_ (pv 1)) pa_nil)))))),?_⟩
 rw[show L2.start ["_law_patterns_here","_law_names","_law_signs","_law_numbers_here","_law_last"] [.ref b]=[some (.ref b),none,none,none,none] from rfl]
 walk_at "go"
 refine jdu_ fun a ha=>?_
 have s1:=jd_ ha (.dK [])
 walk_at "go"
 refine u9_ (SqL.of (s1 _ _ hb)) ?_
 refine yj_ (K:=K) (xs:=ys) (fun i σ H'=>∃(v2 v3 v4:Option V) (kvs:List (Key×V)),σ=[some (.ref b),some (.ref a),v2,v3,v4]/\H' a=some (.dK kvs)/\NT H' kvs (grt (xs.take i))/\kvs.length<=i/\Same H H')
  ⟨none,none,none,[],rfl,jb_,trivial,pg_ _,s1⟩ (fun i σ H' _ ⟨_,_,_,_,_,_,_,_,s⟩=>SqL.of (s _ _ hb)) ?_ ?_
 ·rintro i y σ H2 hy ⟨v2,v3,v4,kvs,rfl,e2,hN,hkl,s2⟩
  have hi:i < xs.length:=by
   have:=(pl_.mp hy).1
   omega
  obtain⟨y',d,hy',hd1,hI⟩:=IsL.get (IsL.same s2 hys) (show i < (xs.map patD).length by simpa using hi)
  rw[hy] at hy'
  cases hy'
  rw[ph_,pc_ hi] at hd1
  cases hd1
  obtain⟨a2,t2,rfl,ea2,et2⟩:=vi_ hI
  obtain⟨hx1,hx2⟩:=hxs xs[i] (py_ hi)
  refine v1_ ea2 rfl (zn_ (z1_ (zn_ (z1_ (ue_ ?_)))))
  walk_at "go"
  refine jkq_ ?_
  walk_at "go"
  refine⟨a,rfl,.inl ⟨kvs,.inl e2⟩,?_⟩
  walk_at "go"
  have hgl:=jik_ (xs:=xs.take i) (gs:=[]) (fun g hg=>nomatch hg) fun x hx=>(hxs x (p8_ hx)).2
  obtain⟨te,es,hte,hes,heq,hel⟩:∃ te es,(valV kvs (Sum.inr (S xs[i].1))).getD (.ref t2)=.ref te/\H2 te=some (.tup (es.map V.int))/\es=((jk_ (grt (xs.take i)) xs[i].1).map (·.2)).getD xs[i].2/\es.length=xs[i].2.length:=by
   rcases hN.val (z:=xs[i].1) with ⟨q1,q2⟩ | ⟨g,t,q1,hgm,hgz,q2,q3⟩
   ·exact⟨t2,xs[i].2,by rw[q2];rfl,et2,by rw[q1];rfl,rfl⟩
   ·refine⟨t,g.2,by rw[q2];rfl,q3,by rw[q1];rfl,?_⟩
    rw[hgl g hgm,hgz,hx2]
  refine⟨_,DGet.k (k:=Sum.inr (S xs[i].1)) e2,?_⟩
  rw[hte]
  walk_at "go"
  refine jdr_ ?_
  walk_at "go"
  rw[pb_]
  walk_at "go"
  intro r hr0
  have ra:a≠r:=jf_ e2 hr0
  refine z0_ (fun j acc σ H'=>∃ v1,σ=[some (.ref te),some (.ref t2),v1]/\acc=((zs_ es xs[i].2).take j).map V.int/\Same H2 H'/\H' r=some (.lst acc))
   ⟨none,rfl,rfl,jd_ hr0 _,jb_⟩ (fun j acc σ H' ⟨_,_,e,_,e3⟩=>⟨e3,by rw[e,pb_,pr_];omega⟩) (szn (by first | omega | (rw[pb_];omega))) ?_ ?_
  ·rintro j acc σ H3 hj ⟨v1,rfl,rfl,s3,e3⟩
   have hj:j < xs[i].2.length:=by first | omega | (rw[pb_] at hj;omega)
   have hj2:j < es.length:=by omega
   have hes3:=s3 _ _ hes
   have et3:=s3 _ _ et2
   walk_at "go"
   refine yd_ (v:=.int es[j]) (yx_ hes3) (j8_ (by omega) (by rw[show (0+(j:Int)).toNat=j by omega,ph_,pc_ hj2];rfl)) ?_
   walk_at "go"
   refine yd_ (v:=.int xs[i].2[j]) (yx_ et3) (j8_ (by omega) (by rw[show (0+(j:Int)).toNat=j by omega,ph_,pc_ hj];rfl)) ?_
   walk_at "go"
   refine⟨e3,_,rfl,?_,fun c o e=>?_,jb_⟩
   ·rw[jai_ hj2 hj,pw_];rfl
   ·have hc:c≠r:=fun z=>by rw[z,hr0] at e;cases e
    rw[je_ hc];exact s3 c o e
  ·rintro acc σ H3 ⟨v1,rfl,rfl,s3,e3⟩
   first | rw[pb_] at e3 | skip
   rw[<- hel,<- yg_ hel,rn_,p5_] at e3
   walk_at "go"
   refine xg_ (jt_ e3) fun t H4 ht k4=>?_
   walk_at "go"
   have s4:Same H2 H4:=fun c o e=>k4 c o (s3 c o e)
   have e4:=s4 _ _ e2
   have hN4:=(hN.same s4).put (s:=xs[i].1) ht
   refine⟨a,_,rfl,DPut.k (k:=Sum.inr (S xs[i].1)) e4 (ti_ (show kvs.length<=1000 by omega) (by decide)),?_⟩
   refine⟨_,_,_,_,rfl,jb_,?_,?_,fun c o e=>?_⟩
   ·rw[ra_,pc_ hi]
    show NT _ _ (grt (xs.take i++[xs[i]]))
    rw[jbm_]
    have hg:grtS (grt (xs.take i)) xs[i]=putG (grt (xs.take i)) xs[i].1 (zs_ es xs[i].2):=by unfold grtS;rw[<- heq]
    rw[hg]
    exact hN4.tups fun b' zs e=>by
     have hb':b'≠a:=fun z=>by rw[z,e4] at e;cases e
     rw[je_ hb'];exact e
   ·have:=z8_ kvs (Sum.inr (S xs[i].1):Key) (V.ref t)
    omega
   ·have hc:c≠a:=fun z=>by rw[z,ha] at e;cases e
    rw[je_ hc];exact s4 _ _ (s2 c o e)
 ·rintro σ H2 ⟨v2,v3,v4,kvs,rfl,e2,hN,hkl,s2⟩
  rw[hyl,p5_] at hN
  walk_at "go"
  refine⟨Or.inr (Or.inr (Or.inl ⟨rfl,Or.inl ⟨_,e2⟩⟩)),(show jhg_ (.ref a) [] H2 _ from ⟨kvs,e2,fun v hv0=>?_⟩)⟩
  have s3:=jd_ hv0 (VW v a)
  have ev:=jb_ (H:=H2) (a:=v) (o:=VW v a)
  generalize upd H2 v (VW v a)=H3 at s3 ev ⊢
  walk_at "go"
  refine jrz_ (ss:=(grt xs).map fun g=>S g.1) ev (s3 _ _ e2) (NT.keys hN) (jji_ (yv_ xs)) (by omega) fun r ts qs H4 s4 hr0 htl hts hqp hqs=>?_
  have hN4:=hN.same (s3.trans s4)
  have hll:=NT.length hN
  have hal:∀ p∈ts.zip (grt xs),Is H4 (.ref p.1) (patD p.2):=fun p hp=>by
   obtain⟨j,hj⟩:=qv_.mp hp
   rw[List.getElem?_zip_eq_some] at hj
   obtain⟨kv,c1,c2⟩:=hts j _ hj.1
   obtain⟨d1,t,d2,d3⟩:=NT.at hN4 c1 hj.2
   rw[d1,d2] at c2
   exact zu_ c2 d3
  have hz:ts.zip ((grt xs).map fun g=>S g.1)=(ts.zip (grt xs)).map fun p=>(p.1,S p.2.1):=by rw[List.zip_map_right];rfl
  rw[hz] at hqp
  obtain⟨ps,p1,p2,p3⟩:=jcm_ hal hqp hqs
  rw[List.map_snd_zip (by omega)] at p1
  walk_at "go"
  have s24:=s3.trans s4
  have sr:=jd_ hr0 (.lst (qs.map fun p=>V.ref p.1))
  exact q r _ ps _ ((s2.trans s24).free hr0) jb_ (IsL.same sr p3) ⟨p1,p2⟩ ((s2.trans s24).trans sr)
end
abbrev s_law_turned:Stmt:=top 22
theorem sc_law_turned:FnScope ["_law_wood","_law_last","_law_fresh"] ["_law_wood"] (jl_ s_law_turned):=by walk_at "f"
theorem jkg_ {X:Cx} {es:List Expr} {k:Nat} {pos:Pos} {t:TGs} {n:Nat} {K:pd_} (hK:X.K=K) (hc:X.calm=true) (h:PGs X es t)
  (hn:(assignEach es X.env).length=n:=by rfl) (hst:(assignEach es X.env).findIdx? (·.1)=none:=by rfl):PG X (.Tuple es k pos) (gTup K n t):=hK▸u8_ hc h hn hst
theorem jep_:∀ l:List Kt,jw_ (l.map kD)=true
 | []=>rfl
 | x::l=>by
  simp only[pf_,jw_,jep_ l,kD,z7_,jw_,zp_]
  cases x.2 with
  | none=>rfl
  | some g=>simp only[numD,z7_,yy_];rfl
theorem IsL.rev {H:Hp}:∀{ds:List Dt} {vs:List V},L2.IsL H vs ds->L2.IsL H vs.reverse ds.reverse
 | [],[],_=>by simp only[List.reverse_nil,L2.IsL]
 | [],_::_,h=>by simp[L2.IsL] at h
 | _::_,[],h=>by simp[L2.IsL] at h
 | d::ds,v::vs,h=>by
  simp only[L2.IsL] at h
  rw[tr_,tr_]
  exact IsL.append (IsL.rev h.2) (by simp only[L2.IsL];exact⟨h.1,trivial⟩)
theorem jpk_ {K:pd_} {ta:TE} {σ:St} {H:Hp} {Q:VK} (h:ta σ H fun x H1=>∃ l ys,x=.ref l/\SqL K H1 l ys/\∀ q,H1 q=none->Q (.ref q) (upd H1 q (.lst ys.reverse))):jgp_ K ta σ H Q:=h
def jad_:Sp:=fun vs H Q _=>∃(wl:Addr) (ys:List V) (xs:List Pat) (ks:List Kt) (nm:Nat->List Nat),vs=[.ref wl]/\H wl=some (.lst ys)/\L2.IsL H ys (ks.map kD)/\GoodT xs ks nm/\ks.length<=5000/\(∀ k∈ks,k.1.length<=5000) /\
 ∀(r:Addr) (ys':List V) (H':Hp),H r=none->H' r=some (.lst ys')->L2.IsL H' ys' ((zw_ (ordR ks.length) ks).map kD)->Same H H'->Q (.ref r) H'
section
variable {P:Program} {w:World} {K:pd_} {mg:Str->Option Value} {base:Heap} {f:Addr} {fd:FuncData} {tk:Nat->Tok}
theorem jbp_ (T:Txt mg tk) (F:Fun K "_law_turned" "_law_turned" s_law_turned f fd):FnOk P w K mg base CX0 1 f fd ["_law_wood"] jad_:=by
 refine F.ok sc_law_turned (fun vs H Q E h=>?_) (fun cdv A outer s H vs Q E hr h=>?_)
 ·obtain⟨wl,ys,xs,ks,nm,rfl,_⟩:=h
  rfl
 obtain⟨wl,ys,xs,ks,nm,rfl,hwl,hys,hG,hkl,hkk,q⟩:=h
 have nd:=sc_law_turned.nd
 obtain⟨k0,kt,rfl⟩:∃ k0 kt,ks=k0::kt:=by
  cases ks with
  | nil=>exact absurd hG.pos (by simp)
  | cons k0 kt=>exact⟨k0,kt,rfl⟩
 rw[joh_ hG] at q
 obtain⟨y0,yt,rfl⟩:∃ y0 yt,ys=y0::yt:=by
  cases ys with
  | nil=>simp[L2.IsL] at hys
  | cons y0 yt=>exact⟨y0,yt,rfl⟩
 have hyl:=hys.length
 rw[pb_] at hyl
 have hys2:=hys
 simp only[pf_,L2.IsL] at hys2
 have hto:∀ k∈k0::kt,∀ p∈k.1,p.2<=5000:=fun k hk p hp=>by
  obtain⟨i,hi,rfl⟩:=qp_ hk
  have:=(hG.ways hi hp).1
  omega
 have hto2:∀ k∈k0::kt,∀ p∈k.1,p.2 < (k0::kt).length:=fun k hk p hp=>by
  obtain⟨i,hi,rfl⟩:=qp_ hk
  exact(hG.ways hi hp).1
 refine⟨_,(jc_ (jj_ (i:=1) nd rfl (Or.inr rfl) (ji_ (zr_ (K:=K)) rfl T.z_len (by decide +kernel) (ja_ (pv 0) pa_nil)))
  (jc_ (jj_ (i:=2) nd rfl (Or.inl rfl) (jo_ j7_ (zl_ (ja_ (jr_ (jm_ (K:=K)) (pv 0) pe_int (fun _ _=>rfl)) pa_nil)) (u6_ (K:=K) rfl rfl rfl T.z_list rfl T.z_reversed (zc_ (yb_ (K:=K)) (pv 0) (j9_ pe_int) ye_))))
  (jh_ (jq_ (z3_ ["_law_last","_law_ways","_law_numbers_here"] [some 1,none,none] rfl (by kernel_rfl) rfl (zt_ (K:=K) (pv 2)) (fun _ _ _ _=>(jkg_ (K:=K) (n:=2) rfl rfl (zb_ (jn_ (i:=1) (show (["_law_last","_law_ways","_law_numbers_here"]:List Str).Nodup by decide +kernel) rfl (Or.inl rfl) (Or.inr rfl)) (zb_ (jn_ (i:=2) (show (["_law_last","_law_ways","_law_numbers_here"]:List Str).Nodup by decide +kernel) rfl (Or.inl rfl) (Or.inr rfl)) xl_)))) (fun _ _ _ _=>z4_) (fun _ _ _ _=>(zy_ (ja_ (zq_ vk_ rfl T.z_tuple (by decide +kernel) (ja_ (z3_ ["_law_last","_law_sign","_law_to"] [some 0,none,none] rfl (by kernel_rfl) rfl (zt_ (K:=K) (pv 1)) (fun _ _ _ _=>(jkg_ (K:=K) (n:=2) rfl rfl (zb_ (jn_ (i:=1) (show (["_law_last","_law_sign","_law_to"]:List Str).Nodup by decide +kernel) rfl (Or.inl rfl) (Or.inr rfl)) (zb_ (jn_ (i:=2) (show (["_law_last","_law_sign","_law_to"]:List Str).Nodup by decide +kernel) rfl (Or.inl rfl) (Or.inr rfl)) xl_)))) (fun _ _ _ _=>z4_) (fun _ _ _ _=>(zy_ (ja_ (pv 1) (ja_ (jo_ jsi_ (pv 0) (pv 2)) pa_nil))))) pa_nil)) (ja_ (pv 2) pa_nil))))))))),?_⟩
 rw[show L2.start ["_law_wood","_law_last","_law_fresh"] [.ref wl]=[some (.ref wl),none,none] from rfl]
 walk_at "go"
 intro l0 hl0
 have s1:=jd_ hl0 (.lst [y0])
 have el0:=jb_ (H:=H) (a:=l0) (o:=.lst [y0])
 generalize upd H l0 (.lst [y0])=H1 at s1 el0 ⊢
 refine jpk_ ?_
 walk_at "go"
 refine jke_ (SqL.of (s1 _ _ hwl)) fun l1 hl1=>?_
 have hcut:cutV (y0::yt) (some 1) none=yt:=by
  rw[uw_]
  exact jbc_ (y0::yt) 1 (by simp)
 rw[hcut]
 have s2:=jd_ hl1 (.lst yt)
 have el1:=jb_ (H:=H1) (a:=l1) (o:=.lst yt)
 generalize upd H1 l1 (.lst yt)=H2 at s2 el1 ⊢
 refine⟨l1,yt,rfl,SqL.of el1,fun l2 hl2=>?_⟩
 have s3:=jd_ hl2 (.lst yt.reverse)
 have el2:=jb_ (H:=H2) (a:=l2) (o:=.lst yt.reverse)
 generalize upd H2 l2 (.lst yt.reverse)=H3 at s3 el2 ⊢
 walk_at "go"
 refine jpv_ (s3 _ _ (s2 _ _ el0)) el2 (szn (by rw[te_];simp only[pz_,rj_] at hyl hkl ⊢;omega)) fun fr hfr=>?_
 have s4:=jd_ hfr (.lst ([y0]++yt.reverse))
 have efr:=jb_ (H:=H3) (a:=fr) (o:=.lst ([y0]++yt.reverse))
 generalize upd H3 fr (.lst ([y0]++yt.reverse))=H4 at s4 efr ⊢
 have s04:=((s1.trans s2).trans s3).trans s4
 have hfs:L2.IsL H4 ([y0]++yt.reverse) ((k0::kt.reverse).map kD):=by
  have h1:=IsL.rev hys2.2
  rw[<- List.map_reverse] at h1
  refine IsL.same s04 ?_
  simp only[pf_,List.singleton_append,L2.IsL]
  exact⟨hys2.1,h1⟩
 have hmem:∀ k∈k0::kt.reverse,k∈k0::kt:=fun k hk=>by
  rcases pt_.mp hk with h | h
  ·rw[h];exact po_
  ·exact pn_ _ (w9_.mp h)
 have hfl:(k0::kt.reverse).length=(k0::kt).length:=by simp
 have hto3:∀ k∈k0::kt.reverse,(∀ p∈k.1,p.2 < (k0::kt).length)/\k.1.length<=5000:=fun k hk=>⟨hto2 k (hmem k hk),hkk k (hmem k hk)⟩
 have hN:(y0::yt).length=(k0::kt).length:=hyl
 rw[hN]
 clear s1 s2 s3 s4 el0 el1 el2 hto hto2 hmem hys hys2 hG hkk
 generalize (k0::kt).length=n at *
 generalize [y0]++yt.reverse=fv at *
 generalize k0::kt.reverse=fs at *
 have hfv:=hfs.length
 rw[pb_] at hfv
 walk_at "go"
 intro r hr0
 have hrH:H r=none:=s04.free hr0
 refine vz_ (K:=K) (xs:=fv) (fun j acc σ H'=>∃(v1 v2:Option V),σ=[some (.int (n:Int)),v1,v2]/\acc.length=j/\L2.IsL H' acc (((fs.map fun k=>(k.1.map fun p=>(p.1,n - p.2),k.2)).take j).map kD)/\H' r=some (.lst acc)/\Same H4 H')
  (fun j acc σ H' _ ⟨_,_,_,_,_,_,s⟩=>SqL.of (s _ _ efr)) ⟨none,none,rfl,rfl,(by simp only[sr_,p2_,L2.IsL]),jb_,jd_ hr0 _⟩ (fun j acc σ H' ⟨_,_,_,e,_,e2,_⟩=>⟨e2,by omega⟩) (szn (by omega)) ?_ ?_
 ·rintro j acc σ Hd hj ⟨v1,v2,rfl,hal,hacc,er,sd⟩
  have hj2:j < fs.length:=by omega
  obtain⟨kv,hkv,hkd⟩:∃ v,fv[j]?=some v/\Is Hd v (kD fs[j]):=by
   obtain⟨v,d,h1,h2,h3⟩:=IsL.get (IsL.same sd hfs) (i:=j) (by rw[pb_];exact hj2)
   rw[ph_,pc_ hj2] at h2
   cases h2
   exact⟨v,h1,h3⟩
  obtain⟨ka',kt',kvs,nv,rfl,eka,ekt,hkvs,hnv⟩:=isK hkd
  have hkvl:=hkvs.length
  rw[pb_] at hkvl
  obtain⟨hkl2,hkl1⟩:=hto3 _ (py_ hj2)
  have hgj:fv.getD j .non=.ref ka':=by rw[pe_,hkv];rfl
  rw[hgj]
  have hjt:(fs.map fun k=>(k.1.map fun p=>(p.1,n - p.2),k.2)).take (j+1)=(fs.map fun k=>(k.1.map fun p=>(p.1,n - p.2),k.2)).take j++[(fs[j].1.map fun p=>(p.1,n - p.2),fs[j].2)]:=by
   rw[ra_,ph_,pc_ hj2];rfl
  rw[hjt]
  clear hjt hkd
  generalize fs[j]=k at *
  refine v1_ eka rfl (zn_ (z1_ (zn_ (z1_ (ue_ ?_)))))
  walk_at "go"
  intro r3 hr3
  refine jgb_ (K:=K) (xs:=kvs) (fun e bcc σ H'=>∃(v1 v2:Option V),σ=[some (.int (n:Int)),v1,v2]/\bcc.length=e/\L2.IsL H' bcc (((k.1.take e).map fun p=>(p.1,n - p.2)).map wayD)/\H' r3=some (.lst bcc)/\Same Hd H')
   (fun e bcc σ H' _ ⟨_,_,_,_,_,_,s⟩=>SqT.of (s _ _ ekt)) ⟨none,none,rfl,rfl,(by simp only[sr_,p2_,L2.IsL]),jb_,jd_ hr3 _⟩ (fun e bcc σ H' ⟨_,_,_,e1,_,e2,_⟩=>⟨e2,by omega⟩) (szn (by omega)) ?_ ?_
  ·rintro e bcc σ He hee ⟨v1,v2,rfl,hbl,hbcc,er3,se⟩
   have he2:e < k.1.length:=by omega
   obtain⟨tw,h1,h2⟩:=jec_ hkvs e he2
   have hge:kvs.getD e .non=.ref tw:=by rw[pe_,h1];rfl
   rw[hge]
   have hto:=hkl2 _ (py_ he2)
   have htk:((k.1.take (e+1)).map fun p=>(p.1,n - p.2)).map wayD=((k.1.take e).map fun p=>(p.1,n - p.2)).map wayD++[wayD (k.1[e].1,n - k.1[e].2)]:=by
    rw[ra_,pc_ he2,pw_,pw_];rfl
   rw[htk]
   generalize k.1[e]=pw at h2 hto ⊢
   have h2e:=se _ _ h2
   have hsub:(n:Int) - (pw.2:Int)=((n - pw.2:Nat):Int):=by omega
   refine v1_ h2e rfl (zn_ (z1_ (zn_ (z1_ (ue_ ?_)))))
   walk_at "go"
   rw[hsub]
   intro tn htn
   have sf:=jd_ htn (.tup [.str (S [pw.1]),.int ((n - pw.2:Nat):Int)])
   have etn:=jb_ (H:=He) (a:=tn) (o:=.tup [.str (S [pw.1]),.int ((n - pw.2:Nat):Int)])
   generalize upd He tn (.tup [.str (S [pw.1]),.int ((n - pw.2:Nat):Int)])=Hf at sf etn ⊢
   have er3f:=sf _ _ er3
   have tkc:Tk Hf (upd Hf r3 (.lst (bcc++[.ref tn]))):=fun y zs' ey=>by
    rw[je_ fun z=>by rw[z,er3f] at ey;cases ey];exact ey
   refine⟨er3f,_,_,rfl,by rw[pj_,hbl];rfl,?_,jb_,fun c o ec=>?_⟩
   ·refine IsL.append (IsL.tk tkc (zp_ _) (IsL.same sf hbcc)) ?_
    simp only[L2.IsL,wayD,Is]
    exact⟨⟨tn,_,rfl,tkc _ _ etn,rfl,rfl,trivial⟩,trivial⟩
   ·have hcr:c≠r3:=fun z=>by rw[z,hr3] at ec;cases ec
    rw[je_ hcr];exact sf _ _ (se _ _ ec)
  ·rintro bcc σ He ⟨v1,v2,rfl,hbl,hbcc,er3,se⟩
   rw[hkvl,p5_] at hbcc
   walk_at "go"
   refine xg_ (jt_ er3) fun t4 Hf et4 sf=>?_
   have sdf:=se.trans sf
   walk_at "go"
   intro t5 ht5
   have sg:=jd_ ht5 (.tup [.ref t4,nv])
   have et5:=jb_ (H:=Hf) (a:=t5) (o:=.tup [.ref t4,nv])
   generalize upd Hf t5 (.tup [.ref t4,nv])=Hg at sg et5 ⊢
   have sdg:=sdf.trans sg
   have erg:=sdg _ _ er
   have tkc:Tk Hg (upd Hg r (.lst (acc++[.ref t5]))):=fun y zs' ey=>by
    rw[je_ fun z=>by rw[z,erg] at ey;cases ey];exact ey
   refine⟨erg,_,_,rfl,by rw[pj_,hal];rfl,?_,jb_,fun c o ec=>?_⟩
   ·rw[pw_]
    refine IsL.append (IsL.tk tkc (jep_ _) (IsL.same sdg hacc)) ?_
    have hk5:Is Hg (.ref t5) (kD (k.1.map fun p=>(p.1,n - p.2),k.2)):=by
     unfold kD
     have h1:Is Hg (.ref t4) (.tup ((k.1.map fun p=>(p.1,n - p.2)).map wayD)):=by
      rw[L2.Is.eq_def]
      exact⟨t4,bcc,rfl,sg _ _ et4,IsL.same (Same.trans sf sg) hbcc⟩
     have h2:=Is.same sdg hnv
     rw[L2.Is.eq_def]
     refine⟨t5,_,rfl,et5,?_⟩
     simp only[L2.IsL]
     exact⟨h1,h2,trivial⟩
    have h1o:=jep_ [(k.1.map fun p=>(p.1,n - p.2),k.2)]
    refine IsL.tk tkc h1o ?_
    simp only[pf_,p2_,L2.IsL]
    exact⟨hk5,trivial⟩
   ·have hcr:c≠r:=fun z=>by rw[z,hr0] at ec;cases ec
    rw[je_ hcr];exact sdg _ _ (sd _ _ ec)
 ·rintro acc σ Hd ⟨v1,v2,rfl,hal,hacc,er,sd⟩
  rw[show fv.length=(fs.map fun k=>(k.1.map fun p=>(p.1,n - p.2),k.2)).length by rw[pb_];exact hfv,p5_] at hacc
  walk_at "go"
  exact q r acc Hd hrH er hacc (s04.trans sd)
end
abbrev s_law:Stmt:=top 23
theorem sc_law:FnScope ["_law_script","_law_feed_here","_law_letters_here","_law_words","_law_many","_law_patterns_here","_law_k","_law_own","_law_pattern_here","_law_signs","_law_due","_law_wood","_law_some","_law_word_here","_law_at","_law_left","_law_found"] ["_law_script"] (jl_ s_law):=by walk_at "f"
def Wd (H:Hp) (so:Addr) (xs:List Pat):Prop:=∃(ys:List V) (ks:List Kt) (nm:Nat->List Nat) (zs:List Pat),H so=some (.lst ys)/\L2.IsL H ys (ks.map kD)/\GoodT zs ks nm/\(∀ k∈ks,k.1.length<=5000)/\ks.length<=5000/\(begs zs).length<=5000/\(∀ z∈zs,1<=z.1.length/\z.1.length<=100/\z.2.length=z.1.length+1)/\∀ z,jk_ (grt zs) z=jk_ (grt xs) z
theorem Wd.same {H H':Hp} {so:Addr} {xs:List Pat} (s:Same H H') (h:Wd H so xs):Wd H' so xs:=by
 obtain⟨ys,ks,nm,zs,h1,h2,h3⟩:=h
 exact⟨ys,ks,nm,zs,s _ _ h1,IsL.same s h2,h3⟩
structure Few (xs:List Pat):Prop where
 n:xs.length<=60
 x:∀ x∈xs,1<=x.1.length/\x.1.length<=22/\x.2.length=x.1.length+1
 s:(begs xs).length<=5000
theorem jdw_ {xs:List Pat} (h1:xs.length<=60) (h2:∀ x∈xs,1<=x.1.length/\x.1.length<=22/\x.2.length=x.1.length+1):Few xs:=by
 refine⟨h1,h2,?_⟩
 have:=jqu_ xs
 have hs:∀ l:List Pat,(∀ x∈l,x.1.length<=22)->(l.map fun x=>x.1.length).sum<=22 * l.length:=by
  intro l
  induction l with
  | nil=>intro _;simp
  | cons a l ih =>
   intro h
   rw[pf_,k7_,pz_]
   have:=ih fun x hx=>h x (pn_ _ hx)
   have:=h a po_
   omega
 have:=hs xs fun x hx=>(h2 x hx).2.1
 omega
theorem jkn_ {xs ps:List Pat} (h:Few xs) (hs:SrtG (grt xs) ps):Few ps:=by
 have hm:∀ p∈ps,p∈grt xs:=fun p hp=>hs.1.mem_iff.mp hp
 refine jdw_ ?_ fun p hp=>?_
 ·rw[hs.1.length_eq]
  have h1:((grt xs).map (·.1)).length<=(xs.map (·.1)).length:=ub_ (yv_ xs) fun z hz=>by
   obtain⟨g,hg,rfl⟩:=qh_.mp hz
   obtain⟨x,hx,e⟩:=xd_ hg
   exact qh_.mpr ⟨x,hx,e.symm⟩
  rw[pb_,pb_] at h1
  exact qq_ h1 h.n
 ·obtain⟨x,hx,e⟩:=xd_ (hm p hp)
  have h2:=(hs.same (fun x hx=>(h.x x hx).2.2) []).1 p hp
  have:=h.x x hx
  rw[e] at h2 ⊢
  exact⟨this.1,this.2.1,h2⟩
theorem jdt_ {xs:List Pat} (h:Few xs):Few xs.reverse:=jdw_ (by rw[te_];exact h.n) fun x hx=>h.x x (w9_.mp hx)
theorem jph_ {xs:List Pat} (h:Few xs) (i:Nat):Few (xs.take i++xs.drop (i+1)):=jdw_ (by have:=h.n;rw[pj_,pr_,qb_];omega) fun x hx=>by
 rcases pq_.mp hx with q | q
 ·exact h.x x (p8_ q)
 ·exact h.x x (ql_ q)
theorem xw_ {H:Hp}:∀{n:Nat} {ds:List Dt} {xs:List V},L2.IsL H xs ds->L2.IsL H (xs.take n) (ds.take n)/\L2.IsL H (xs.drop n) (ds.drop n)
 | 0,ds,xs,h=>by simp only[sr_,ry_,L2.IsL];exact⟨trivial,h⟩
 | n+1,[],[],h=>by simp only[List.take_nil,List.drop_nil,L2.IsL];exact⟨trivial,trivial⟩
 | n+1,[],_::_,h=>by simp[L2.IsL] at h
 | n+1,_::_,[],h=>by simp[L2.IsL] at h
 | n+1,d::ds,x::xs,h=>by
  simp only[L2.IsL] at h
  simp only[List.take_succ_cons,List.drop_succ_cons,L2.IsL]
  exact⟨⟨h.1,(xw_ h.2).1⟩,(xw_ h.2).2⟩
theorem j5_ {H:Hp} {b:Addr} {ys:List V} {xs:List Pat} (e:H b=some (.lst ys)) (h:L2.IsL H ys (xs.map patD)):Is H (.ref b) (zv_ xs):=by
 simp only[Is,zv_];exact⟨b,ys,rfl,e,h⟩
theorem uz_ {H:Hp} {r:Addr} {ys:List V} {zs xs:List Pat} {ns:List (List Nat)} (e:H r=some (.lst ys)) (h:L2.IsL H ys (jjy_ ns (grt zs))) (hp:ns.Perm (begs zs)) (hN:Nms ns) (hF:Few zs) (hl:∀ z,jk_ (grt zs) z=jk_ (grt xs) z):Wd H r xs:=by
 rw[joc_] at h
 have hn:ns.length<=5000:=by rw[hp.length_eq];exact hF.s
 refine⟨ys,_,_,zs,e,h,jfa_ hN hp,fun k hk=>?_,by unfold yk_;rw[pb_,q0_];exact hn,hF.s,fun z hz=>⟨(hF.x z hz).1,by have:=(hF.x z hz).2.1;omega,(hF.x z hz).2.2⟩,hl⟩
 unfold yk_ at hk
 obtain⟨i,_,rfl⟩:=qh_.mp hk
 have:=jdi_ ns (ns.getD i []) ns.length
 show (zo_ ns (ns.getD i []) ns.length).length<=5000
 omega
theorem v6_:∀ ns:List Int,depL (ns.map Dt.int)=0
 | []=>rfl
 | x::l=>by simp only[pf_,depL,v6_ l,dep];rfl
theorem vy_:∀ ns:List Int,widL (ns.map Dt.int)=0
 | []=>rfl
 | x::l=>by simp only[pf_,widL,vy_ l,wid];rfl
theorem jef_:∀{ps:List Pat},(∀ p∈ps,p.2.length<=1000)->depL (ps.map patD)<=2/\widL (ps.map patD)<=1000
 | [],_=>by simp only[p2_,depL,widL];omega
 | p::l,h=>by
  have ih:=jef_ fun q hq=>h q (pn_ _ hq)
  have hp:=h p po_
  simp only[pf_,depL,widL,patD,dep,wid,v6_,vy_,pb_,pz_,rj_]
  omega
def jki_ (K:pd_):Sp:=fun vs H Q _=>∃(a:Addr) (ns:List Int),vs=[.ref a]/\SqL K H a (ns.map V.int)/\ns.length<=63/\∀ H',Q (.bl true) H'
theorem Kept.free {p:Addr} {H H':Hp} (k:Kept p H H') (hp:H p=none):Same H H':=fun b o e=>k b o (fun z=>by rw[z,hp] at e;cases e) e
structure Dr (H6 H:Hp) (pl:Addr) (ys:List V) (xs:List Pat):Prop where
 e:H pl=some (.lst ys)
 l:L2.IsL H ys (xs.map patD)
 s:Same H6 H
theorem Dr.new {H6 H H':Hp} {pl:Addr} {ys:List V} {xs:List Pat} (d:Dr H6 H pl ys xs) (s:Same H H'):Dr H6 H' pl ys xs:=⟨s _ _ d.e,IsL.same s d.l,d.s.trans s⟩
theorem Dr.kept {H6 H H':Hp} {pl po:Addr} {ys:List V} {xs:List Pat} {n:Nat} (d:Dr H6 H pl ys xs) (hf:FeedAt H po n) (hn:po≠pl) (h6:H6 po=none) (k:Kept po H H'):Dr H6 H' pl ys xs :=
 ⟨k _ _ hn.symm d.e,xi_ (fun b o e hb=>k b o hb e) (FeedAt.ex hf) d.l,fun b o e=>k b o (jf_ e h6) (d.s b o e)⟩
section
variable {P:Program} {w:World} {K:pd_} {mg:Str->Option Value} {base:Heap} {f:Addr} {fd:FuncData} {tk:Nat->Tok}
theorem jtl_ (T:Txt mg tk) (F:Fun K "law" "law" s_law f fd) (D_law_feed:Dn P w K mg base "_law_feed" 1 ["_law_script","_law_k"] (jhy_ K)) (D_law_letters:Dn P w K mg base "_law_letters" 2 ["_law_feed_here"] ud_) (D_law_word:Dn P w K mg base "_law_word" 2 ["_law_feed_here","_law_letters_here","_law_most"] jej_) (D_law_next:Dn P w K mg base "_law_next" 1 ["_law_feed_here","_law_many"] xe_) (D_law_pattern:Dn P w K mg base "_law_pattern" 3 ["_law_feed_here","_law_letters_here","_law_word_here","_law_most"] xq_) (D_law_numbers:Dn P w K mg base "_law_numbers" 2 ["_law_feed_here","_law_signs","_law_few"] xm_) (D_law_greatest:Dn P w K mg base "_law_greatest" 1 ["_law_patterns_here"] spGr) (D_wood_of:Dn P w K mg base "wood_of" 2 ["patterns"] jhs_) (D_law_turned:Dn P w K mg base "_law_turned" 1 ["_law_wood"] jad_) (D_patterns_in:Dn P w K mg base "patterns_in" 1 ["wood"] jns_) (D_law_alike:Dn P w K mg base "_law_alike" 6 ["_law_found","_law_due"] (vf_ 6)) (D_wood_values:Dn P w K mg base "wood_values" 3 ["wood","word"] spWV) (D_values:Dn P w K mg base "values" 2 ["patterns","word"] jba_):FnOk P w K mg base CX0 7 f fd ["_law_script"] (jki_ K):=by
 refine F.ok sc_law (fun vs H Q E h=>?_) (fun cdv A outer s H vs Q E hr h=>?_)
 ·obtain⟨a,ns,rfl,_⟩:=h
  rfl
 obtain⟨a,ns,rfl,hS,hlen,q⟩:=h
 have nd:=sc_law.nd
 refine⟨_,(jc_ (jj_ (i:=1) nd rfl (Or.inr rfl) (jg_ D_law_feed hr.mo_ rfl (ja_ (pv 0) (ja_ pe_int pa_nil))))
  (jc_ (jj_ (i:=2) nd rfl (Or.inr rfl) (jg_ D_law_letters hr.mo_ rfl (ja_ (pv 1) pa_nil)))
  (jc_ (jry_ (i:=3) ["_law_feed_here","_law_letters_here","_law_k"] [some 1,some 2,none] rfl (by kernel_rfl) rfl nd rfl rfl (zd_ rfl T.z_range (ja_ pe_int pa_nil)) (fun _ _ _ _=>(jn_ (i:=2) (show (["_law_feed_here","_law_letters_here","_law_k"]:List Str).Nodup by decide +kernel) rfl (Or.inl rfl) (Or.inr rfl))) (fun _ _ _ _=>z4_) (fun _ _ _ _=>(jg_ D_law_word hr.mo_ rfl (ja_ (pv 0) (ja_ (pv 1) (ja_ pe_int pa_nil))))))
  (jc_ (jj_ (i:=4) nd rfl (Or.inl rfl) (jr_ (jm_ (K:=K)) (zl_ (ja_ (ji_ (jsd_ rfl) rfl T.z_min (by decide +kernel) (ja_ pe_int (ja_ (ji_ (zr_ (K:=K)) rfl T.z_len (by decide +kernel) (ja_ (pv 0) pa_nil)) pa_nil))) (ja_ (jg_ D_law_next hr.mo_ rfl (ja_ (pv 1) (ja_ pe_int pa_nil))) pa_nil))) (jg_ D_law_next hr.mo_ rfl (ja_ (pv 1) (ja_ pe_int pa_nil))) (fun _ _=>rfl)))
  (jc_ (jj_ (i:=5) nd rfl (Or.inl rfl) (zl_ pa_nil))
  (jc_ (zh_ qi_ rfl (zd_ rfl T.z_range (ja_ (pv 4) pa_nil)) (jn_ (i:=6) nd rfl (Or.inl rfl))
   (jc_ (jj_ (i:=7) nd rfl (Or.inl rfl) (jg_ D_law_feed hr.mo_ rfl (ja_ (pv 0) (ja_ (jo_ j7_ (pv 6) pe_int) pa_nil))))
  (jc_ (jj_ (i:=8) nd rfl (Or.inl rfl) (jg_ D_law_pattern hr.mo_ rfl (ja_ (pv 7) (ja_ (pv 2) (ja_ (jr_ (jm_ (K:=K)) (pv 3) (jg_ D_law_next hr.mo_ rfl (ja_ (pv 7) (ja_ pe_int pa_nil))) (fun _ _=>rfl)) (ja_ (jr_ (jm_ (K:=K)) (zl_ (ja_ pe_int (ja_ pe_int (ja_ pe_int pa_nil)))) (jg_ D_law_next hr.mo_ rfl (ja_ (pv 7) (ja_ pe_int pa_nil))) (fun _ _=>rfl)) pa_nil))))))
  (jc_ (zg_ (PW.pt (jhf_ (jv_ o_gt (ji_ (zr_ (K:=K)) rfl T.z_len (by decide +kernel) (ja_ (pv 5) pa_nil)) pe_int (j0_ _)) (jdo_ (jv_ (o_eq hr.units) (jg_ D_law_next hr.mo_ rfl (ja_ (pv 7) (ja_ pe_int pa_nil))) pe_int (j0_ _)))))
   (jc_ (jj_ (i:=9) nd rfl (Or.inl rfl) (jr_ (jm_ (K:=K)) (jr_ (jm_ (K:=K)) (pv 5) (jg_ D_law_next hr.mo_ rfl (ja_ (pv 7) (ja_ (ji_ (zr_ (K:=K)) rfl T.z_len (by decide +kernel) (ja_ (pv 5) pa_nil)) pa_nil))) (fun _ _=>rfl)) pe_int (fun _ _=>rfl)))
  (jh_ (jj_ (i:=8) nd rfl (Or.inl rfl) (zy_ (ja_ (pv 9) (ja_ (jg_ D_law_numbers hr.mo_ rfl (ja_ (pv 7) (ja_ (pv 9) (ja_ pe_int pa_nil)))) pa_nil))))))
   jy_)
  (jh_ (z2_ (ya_ (K:=K) qg_ q4_ q5_ zz_ (pv 5) (ja_ (pv 8) pa_nil))))))))
  (jc_ (jj_ (i:=10) nd rfl (Or.inl rfl) (jg_ D_law_greatest hr.mo_ rfl (ja_ (pv 5) pa_nil)))
  (jc_ (jj_ (i:=11) nd rfl (Or.inl rfl) (jg_ D_wood_of hr.mo_ rfl (ja_ (zq_ jhh_ rfl T.z_list (by decide +kernel) (ja_ (pv 5) pa_nil)) pa_nil)))
  (jc_ (zh_ qi_ rfl (zt_ (K:=K) (zl_ (ja_ (pv 11) (ja_ (jg_ D_wood_of hr.mo_ rfl (ja_ (u6_ (K:=K) rfl rfl rfl T.z_list rfl T.z_reversed (pv 5)) pa_nil)) (ja_ (jg_ D_law_turned hr.mo_ rfl (ja_ (pv 11) pa_nil)) (ja_ (jg_ D_wood_of hr.mo_ rfl (ja_ (zq_ jhh_ rfl T.z_list (by decide +kernel) (ja_ (pv 10) pa_nil)) pa_nil)) pa_nil)))))) (jn_ (i:=12) nd rfl (Or.inl rfl))
   (jc_ (zg_ (jim_ (xb_ (jg_ D_law_alike hr.mo_ rfl (ja_ (jg_ D_patterns_in hr.mo_ rfl (ja_ (zq_ jhh_ rfl T.z_list (by decide +kernel) (ja_ (pv 12) pa_nil)) pa_nil)) (ja_ (pv 10) pa_nil))) (fun _=>rfl)))
   (jh_ (jq_ pe_bl))
   jy_)
  (jh_ (zh_ qi_ rfl (zt_ (K:=K) (pv 3)) (jn_ (i:=13) nd rfl (Or.inl rfl))
   (jh_ (zg_ (jim_ (xb_ (jg_ D_law_alike hr.mo_ rfl (ja_ (jg_ D_wood_values hr.mo_ rfl (ja_ (pv 12) (ja_ (pv 13) pa_nil))) (ja_ (jg_ D_values hr.mo_ rfl (ja_ (pv 5) (ja_ (pv 13) pa_nil))) pa_nil))) (fun _=>rfl)))
   (jh_ (jq_ pe_bl))
   jy_))))))
  (jc_ (zh_ qi_ rfl (zd_ rfl T.z_range (ja_ (ji_ (jsd_ rfl) rfl T.z_min (by decide +kernel) (ja_ pe_int (ja_ (pv 4) pa_nil))) pa_nil)) (jn_ (i:=14) nd rfl (Or.inl rfl))
   (jc_ (jj_ (i:=15) nd rfl (Or.inl rfl) (jo_ j7_ (zc_ (yb_ (K:=K)) (pv 5) ye_ (j9_ (pv 14))) (zc_ (yb_ (K:=K)) (pv 5) (j9_ (jo_ j7_ (pv 14) pe_int)) ye_)))
  (jh_ (zg_ (jim_ (xb_ (jg_ D_law_alike hr.mo_ rfl (ja_ (jg_ D_patterns_in hr.mo_ rfl (ja_ (jg_ D_wood_of hr.mo_ rfl (ja_ (pv 15) pa_nil)) pa_nil)) (ja_ (jg_ D_law_greatest hr.mo_ rfl (ja_ (pv 15) pa_nil)) pa_nil))) (fun _=>rfl)))
   (jh_ (jq_ pe_bl))
   jy_))))
  (jc_ (jj_ (i:=16) nd rfl (Or.inl rfl) (jg_ D_patterns_in hr.mo_ rfl (ja_ (pv 11) pa_nil)))
  (jc_ (z2_ (ya_ (K:=K) qg_ q4_ q5_ zz_ (pv 16) (ja_ (jod_ (.tup [.str "zz",.tup [.int 1,.int 1,.int 1]]) (by kernel_rfl)) pa_nil)))
  (jh_ (jq_ (jg_ D_law_alike hr.mo_ rfl (ja_ (jg_ D_patterns_in hr.mo_ rfl (ja_ (pv 11) pa_nil)) (ja_ (pv 10) pa_nil))))))))))))))))),?_⟩
 rw[show L2.start ["_law_script","_law_feed_here","_law_letters_here","_law_words","_law_many","_law_patterns_here","_law_k","_law_own","_law_pattern_here","_law_signs","_law_due","_law_wood","_law_some","_law_word_here","_law_at","_law_left","_law_found"] [.ref a]=[some (.ref a),none,none,none,none,none,none,none,none,none,none,none,none,none,none,none,none] from rfl]
 walk_at "go"
 refine⟨a,ns,0,rfl,hS,by decide,by decide,fun p H1 hp hf1 o1=>?_⟩
 have k1:Kept p H H1:=o1.kept
 walk_at "go"
 refine⟨p,0,rfl,hf1,by decide,fun l H2 hl hl1 hl2 hf2 o2=>?_⟩
 have k2:=k1.off o2
 walk_at "go"
 intro wl hwl
 have pwl:p≠wl:=by obtain⟨o,e⟩:=hf2.some;exact jf_ e hwl
 refine z0_ (fun i acc σ H'=>∃(v:Option V) (ws:List (List Nat)),σ=[some (.ref p),some (.str (S l)),v]/\ws.length=i/\acc=ws.map (fun w=>V.str (S w))/\(∀ w∈ws,GW w)/\FeedAt H' p (3+30 * i)/\Kept p H H'/\H' wl=some (.lst acc))
  ⟨none,[],rfl,rfl,rfl,(fun w hw=>nomatch hw),hf2.new hwl,k2.new hwl _,jb_⟩ (fun i acc σ H' ⟨_,ws,_,e,e1,_,_,_,e2⟩=>⟨e2,by rw[e1,pb_];omega⟩) (szn (by decide)) ?_ ?_
 ·rintro i acc σ H3 hi ⟨v,ws,rfl,hwi,rfl,hws,hf3,k3,e3⟩
  walk_at "go"
  refine⟨p,3+30 * i,l,20,rfl,hf3,by show 3+30 * i+30 < 1000000;omega,hl,by omega,hl2,by decide,by decide,fun w1 H4 hw10 hw11 hw12 hf4 k4=>?_⟩
  have e4:=k4 _ _ pwl.symm e3
  refine⟨e4,_,ws++[w1],rfl,by rw[pj_,hwi];rfl,by rw[pw_];rfl,fun w hw=>?_,?_,fun b o hb e=>?_,jb_⟩
  ·rcases pq_.mp hw with h | h
   ·exact hws w h
   ·have:w=w1:=by simpa using h
    rw[this];exact⟨hw10,hw11,hw12⟩
  ·obtain⟨a1,b1,c1,g1,g2⟩:=hf4
   exact⟨a1,b1,c1,by rw[je_ pwl];exact g1,by omega⟩
  ·have hbw:b≠wl:=fun z=>by
    have:=k2 b o hb e
    rw[z,hwl] at this;cases this
   rw[je_ hbw]
   exact k4 b o hb (k3 b o hb e)
 rintro acc σ H3 ⟨v,ws,rfl,hwi,rfl,hws,hf3,k3,e3⟩
 have s3:=Kept.free k3 hp
 have hS3:=s3.seq hS
 have hf3:FeedAt H3 p 93:=hf3
 have hwi:ws.length=3:=hwi
 walk_at "go"
 rw[pb_]
 refine⟨p,11,_,rfl,hf3,by decide,by decide,by decide,fun d1 H4 hd10 hd11 hf4 o4=>?_⟩
 have e4:H4 wl=_:=(o4 wl pwl.symm).trans e3
 have k4:=k3.off o4
 obtain⟨m1,hm1,hm10,hm11⟩:∃ m:Int,(if ((ns.length:Nat):Int) < 60 then ((ns.length:Nat):Int) else 60)=m/\0<=m/\m<=60:=⟨_,rfl,by split <;> omega,by split <;> omega⟩
 rw[hm1]
 walk_at "go"
 intro l2 hl2a
 have p2:p≠l2:=by obtain⟨o,e⟩:=hf4.some;exact jf_ e hl2a
 have s5:=jd_ hl2a (.lst [.int m1,.int d1])
 have el2:=jb_ (H:=H4) (a:=l2) (o:=.lst [.int m1,.int d1])
 have hf5:FeedAt (upd H4 l2 (.lst [.int m1,.int d1])) p _:=hf4.new hl2a
 generalize upd H4 l2 (.lst [.int m1,.int d1])=H5 at s5 el2 hf5 ⊢
 have e5:=s5 _ _ e4
 have k5:=k4.same s5
 walk_at "go"
 refine⟨p,2,_,rfl,hf5,by decide,by decide,by decide,fun d2 H6 hd20 hd21 hf6 o6=>?_⟩
 have e6:H6 wl=_:=(o6 wl pwl.symm).trans e5
 have el26:H6 l2=_:=(o6 l2 p2.symm).trans el2
 have s6:=Kept.free (k5.off o6) hp
 obtain⟨m,hm,hmn⟩:∃ m:Nat,atI [V.int m1,V.int d1] d2=some (.int (m:Int))/\m<=60:=by
  have:d2=0∨d2=1:=by omega
  rcases this with rfl | rfl
  ·exact⟨m1.toNat,by rw[Int.toNat_of_nonneg hm10];exact j8_ (sn_ 0) rfl,by omega⟩
  ·exact⟨d1.toNat,by rw[Int.toNat_of_nonneg hd10];exact j8_ (by decide) rfl,by omega⟩
 refine yd_ (v:=.int (m:Int)) (jt_ el26) hm ?_
 clear hm1 hm hm10 hm11 hd10 hd11 hd20 hd21 o4 o6 s5 el2 el26 k3 k4 k5 hf1 hf2 hf3 hf4 hf5 k1 k2 o1 o2 s3 hS3 e3 e4 e5
 walk_at "go"
 intro pl hpl
 have hplH:H pl=none:=s6.free hpl
 have wlpl:wl≠pl:=jf_ e6 hpl
 have d7:Dr H6 (upd H6 pl (.lst [])) pl [] []:=⟨jb_,by simp only[p2_,L2.IsL],jd_ hpl _⟩
 generalize upd H6 pl (.lst [])=H7 at d7 ⊢
 walk_at "go"
 refine yh_ (fun i σ H'=>∃(v6 v7 v8 v9:Option V) (ys:List V) (xs:List Pat),σ=[some (.ref a),some (.ref p),some (.str (S l)),some (.ref wl),some (.int (m:Int)),some (.ref pl),v6,v7,v8,v9,none,none,none,none,none,none,none]/\xs.length=i/\(∀ x∈xs,GP x)/\Dr H6 H' pl ys xs)
  ⟨none,none,none,none,[],[],rfl,rfl,(fun x hx=>nomatch hx),d7⟩ ?_ ?_
 ·rintro i σ Ha hi ⟨v6,v7,v8,v9,ys,xs,rfl,hxi,hgp,da⟩
  have hi:i < m:=by omega
  have hyl:=da.l.length
  rw[pb_] at hyl
  walk_at "go"
  refine⟨a,ns,_,rfl,(s6.trans da.s).seq hS,by omega,by omega,fun po Hb hpo hfb ob=>?_⟩
  have hpo6:H6 po=none:=da.s.free hpo
  have popl:po≠pl:=fun z=>by have:=da.e;rw[<- z,hpo] at this;cases this
  have db:Dr H6 Hb pl ys xs:=da.new fun b o e=>(ob b (jf_ e hpo)).trans e
  walk_at "go"
  refine⟨po,3,0,rfl,hfb,by decide,by decide,by decide,fun dw Hc hdw0 hdw1 hfc oc=>?_⟩
  have dc:=db.kept hfb popl hpo6 oc.kept
  have hdl:dw.toNat < ws.length:=by omega
  refine yd_ (v:=.str (S ws[dw.toNat])) (jt_ (dc.s _ _ e6)) (j8_ hdw0 (by rw[ph_,pc_ hdl];rfl)) ?_
  have hgw:=hws _ (py_ hdl)
  generalize ws[dw.toNat]=wd at hgw ⊢
  walk_at "go"
  intro lc hlc
  have sd:=jd_ hlc (.lst [.int 4,.int 2,.int 22])
  have elc:=jb_ (H:=Hc) (a:=lc) (o:=.lst [.int 4,.int 2,.int 22])
  have hfd:FeedAt (upd Hc lc (.lst [.int 4,.int 2,.int 22])) po _:=hfc.new hlc
  have polc:po≠lc:=by obtain⟨o,e⟩:=hfc.some;exact jf_ e hlc
  generalize upd Hc lc (.lst [.int 4,.int 2,.int 22])=Hd at sd elc hfd ⊢
  have dd:=dc.new sd
  walk_at "go"
  refine⟨po,3,_,rfl,hfd,by decide,by decide,by decide,fun dx He hdx0 hdx1 hfe oe=>?_⟩
  have de:=dd.kept hfd popl hpo6 oe.kept
  have elce:He lc=_:=(oe lc polc.symm).trans elc
  obtain⟨mm,hmm,hmm1,hmm2⟩:∃ mm:Nat,atI [V.int 4,V.int 2,V.int 22] dx=some (.int (mm:Int))/\1<=mm/\mm<=22:=by
   have:dx=0∨dx=1∨dx=2:=by omega
   rcases this with rfl | rfl | rfl
   ·exact⟨4,j8_ (sn_ 0) rfl,by decide,by decide⟩
   ·exact⟨2,j8_ (by decide) rfl,by decide,by decide⟩
   ·exact⟨22,j8_ (by decide) rfl,by decide,by decide⟩
  refine yd_ (v:=.int (mm:Int)) (jt_ elce) hmm ?_
  walk_at "go"
  refine⟨po,_,l,wd,mm,rfl,hfe,by decide,hl,by omega,hl2,hgw.1,hgw.2.1,hgw.2.2,hmm1,hmm2,fun v x Hf hv hx hff kf=>?_⟩
  have df:=de.kept hfe popl hpo6 kf
  clear hfb hfc hfd hfe da db dc dd de elce elc sd ob oc oe hmm hmm1 hmm2 hdw0 hdw1 hdx0 hdx1 hdl hgw kf
  have fin:∀(v:V) (x:Pat) (H':Hp) (v9:Option V),Is H' v (patD x)->GP x->Dr H6 H' pl ys xs->∃(v6 v7 v8 v9':Option V) (ys':List V) (xs':List Pat),[some (.ref a),some (.ref p),some (.str (S l)),some (.ref wl),some (.int (m:Int)),some (.ref pl),some (.int (0+(i:Int))),some (.ref po),some v,v9,none,none,none,none,none,none,none]=[some (.ref a),some (.ref p),some (.str (S l)),some (.ref wl),some (.int (m:Int)),some (.ref pl),v6,v7,v8,v9',none,none,none,none,none,none,none]/\xs'.length=i+1/\(∀ x∈xs',GP x)/\Dr H6 (upd H' pl (.lst (ys++[v]))) pl ys' xs':=fun v x H' v9 hv hx d=>by
   refine⟨_,_,_,_,ys++[v],xs++[x],rfl,by rw[pj_,hxi];rfl,fun z hz=>?_,jb_,?_,fun b o e=>?_⟩
   ·rcases pq_.mp hz with h | h
    ·exact hgp z h
    ·have:z=x:=by simpa using h
     rw[this];exact hx
   ·rw[pw_]
    have up:∀ b o,H' b=some o->b≠pl->(upd H' pl (.lst (ys++[v]))) b=some o:=fun b o e hb=>by rw[je_ hb];exact e
    refine IsL.append (xk_ up d.e d.l) (xk_ up d.e ?_)
    simp only[pf_,p2_,L2.IsL]
    exact⟨hv,trivial⟩
   ·rw[je_ (jf_ e hpl)];exact d.s b o e
  have hszy:ys.length < sizeLine:=szn (by omega)
  have efp:=df.e
  walk_at "go"
  refine iteD (fun c=>?_) (fun c=>?_)
  ·walk_at "go"
   refine⟨po,5,_,rfl,hff,by decide,by decide,by decide,fun d5 Hg hd50 hd51 hfg og=>?_⟩
   have dg:=df.kept hff popl hpo6 og.kept
   have efg:=dg.e
   have hvg:Is Hg v (patD x):=by
    have h1:L2.IsL Hf [v] ([x].map patD):=by simp only[pf_,p2_,L2.IsL];exact⟨hv,trivial⟩
    have h2:=xi_ (fun b o e hb=>(og b hb).trans e) (FeedAt.ex hff) h1
    simp only[pf_,p2_,L2.IsL] at h2
    exact h2.1
   walk_at "go"
   refine iteD (fun c5=>?_) (fun c5=>?_)
   ·walk_at "go"
    refine⟨po,_,_,rfl,hfg,by decide,by omega,by omega,fun dn Hh hdn0 hdn1 hfh oh=>?_⟩
    have dh:=dg.kept hfg popl hpo6 oh.kept
    have hdn:dn.toNat < xs.length:=by omega
    obtain⟨y',dd,hy',hd1,hI⟩:=IsL.get dh.l (show dn.toNat < (xs.map patD).length by rw[pb_];exact hdn)
    rw[ph_,pc_ hdn] at hd1
    cases hd1
    obtain⟨a2,t2,rfl,ea2,et2⟩:=vi_ hI
    refine yd_ (v:=.ref a2) (jt_ dh.e) (j8_ hdn0 hy') ?_
    have hg2:=hgp _ (py_ hdn)
    generalize xs[dn.toNat]=x2 at hg2 ea2 et2 hI
    walk_at "go"
    have hx2l:=hg2.le
    refine⟨po,_,x2.1,2,rfl,hfh,by decide,by omega,by decide,by decide,fun t ms Hi ht hms hmz hfi ki=>?_⟩
    have di:=dh.kept hfh popl hpo6 ki
    walk_at "go"
    intro r hr0
    have sr:=jd_ hr0 (.tup [.str (S x2.1),.ref t])
    have er:=jb_ (H:=Hi) (a:=r) (o:=.tup [.str (S x2.1),.ref t])
    generalize upd Hi r (.tup [.str (S x2.1),.ref t])=Hj at sr er ⊢
    have dj:=di.new sr
    have efj:=dj.e
    walk_at "go"
    refine fin (.ref r) (x2.1,ms) Hj _ (zu_ er (sr _ _ ht)) ⟨hg2.ne,hg2.le,hms,fun v hv=>?_,hg2.cs⟩ dj
    obtain⟨j,hj⟩:=qv_.mp hv
    exact⟨(hmz j v hj).1,(hmz j v hj).2.1⟩
   ·walk_at "go"
    exact fin v x Hg _ hvg hx dg
  ·walk_at "go"
   exact fin v x Hf _ hv hx df
 rintro σ Ha ⟨v6,v7,v8,v9,ys,xs,rfl,hxi,hgp,da⟩
 have hxl:xs.length<=60:=by omega
 have hF:=jdw_ hxl fun x hx=>⟨(hgp x hx).ne,(hgp x hx).le,(hgp x hx).len⟩
 have epl:=da.e
 have hyp:=da.l
 have ewl:=da.s _ _ e6
 have hwi3:=hwi
 clear d7 hpl wlpl hplH e6 s6 da
 have hb100:∀{zs:List Pat},Few zs->∀ x∈zs,x.1.length<=100/\x.2.length=x.1.length+1:=fun h x hx=>⟨by have:=(h.x x hx).2.1;omega,(h.x x hx).2.2⟩
 have hxl2:∀ x∈xs,x.2.length=x.1.length+1:=fun x hx=>(hF.x x hx).2.2
 walk_at "go"
 refine⟨.ref pl,xs,rfl,j5_ epl hyp,hb100 hF,by omega,fun du zd ps Hb hdu edu hzd hps sb=>?_⟩
 have hD:=jkn_ hF hps
 have hDn:=hD.n
 have hdue:=hps.same hxl2
 have dwp:dep (zv_ ps) < 6/\wid (zv_ ps)<=100000:=by
  have:=jef_ (ps:=ps) fun p hp=>by have:=hD.x p hp;omega
  simp only[zv_,dep,wid,pb_]
  omega
 have eplb:=sb _ _ epl
 walk_at "go"
 refine jeb_ (jt_ eplb) fun c1 hc1=>?_
 have s1:=jd_ hc1 (.lst ys)
 have ec1:=jb_ (H:=Hb) (a:=c1) (o:=.lst ys)
 generalize upd Hb c1 (.lst ys)=Hc at s1 ec1 ⊢
 walk_at "go"
 refine⟨.ref c1,xs,rfl,j5_ ec1 (IsL.same (sb.trans s1) hyp),hb100 hF,by omega,hF.s,fun wo yw nw Hd hwo ewo hyw hpw hnw s2=>?_⟩
 have wd1:Wd Hd wo xs:=uz_ ewo hyw hpw hnw hF fun _=>rfl
 have sad:=(sb.trans s1).trans s2
 have epld:=sad _ _ epl
 walk_at "go"
 refine jpk_ ?_
 walk_at "go"
 refine⟨pl,ys,rfl,SqL.of epld,fun c2 hc2=>?_⟩
 have s3:=jd_ hc2 (.lst ys.reverse)
 have ec2:=jb_ (H:=Hd) (a:=c2) (o:=.lst ys.reverse)
 generalize upd Hd c2 (.lst ys.reverse)=He at s3 ec2 ⊢
 have hyr:L2.IsL He ys.reverse (xs.reverse.map patD):=by
  rw[List.map_reverse]
  exact IsL.rev (IsL.same (sad.trans s3) hyp)
 walk_at "go"
 refine⟨.ref c2,xs.reverse,rfl,j5_ ec2 hyr,hb100 (jdt_ hF),by rw[te_];omega,(jdt_ hF).s,fun w2 y2 n2 Hf hw2 ew2 hy2 hp2 hn2 s4=>?_⟩
 have wd2:Wd Hf w2 xs:=uz_ ew2 hy2 hp2 hn2 (jdt_ hF) fun z=>(jir_ hxl2 (fun x=>w9_.symm) z).symm
 have wd1f:=wd1.same (s3.trans s4)
 obtain⟨yk,kk,nk,zk,q1,q2,q3,q4,q5,q6,q7,q8⟩:=wd1f
 walk_at "go"
 refine⟨wo,yk,zk,kk,nk,rfl,q1,q2,q3,q5,q4,fun w3 y3 Hg hw3 ew3 hy3 s5=>?_⟩
 have wd3:Wd Hg w3 xs:=by
  refine⟨y3,_,_,zk,ew3,hy3,jii_ q3,fun k hk=>?_,?_,q6,q7,q8⟩
  ·unfold zw_ at hk
   obtain⟨i,hi,rfl⟩:=qh_.mp hk
   have hi2:i < kk.length:=p4_.mp ((v5_ q3.pos).mem_iff.mp hi)
   show ((kAt kk i).1.map _).length<=5000
   rw[pb_,jak_ hi2]
   exact q4 _ (py_ hi2)
  ·unfold zw_
   rw[pb_,vo_ q3.pos];exact q5
 have sbg:=(((s1.trans s2).trans s3).trans s4).trans s5
 have edug:=sbg _ _ edu
 walk_at "go"
 refine jeb_ (jt_ edug) fun c4 hc4=>?_
 have s6:=jd_ hc4 (.lst zd)
 have ec4:=jb_ (H:=Hg) (a:=c4) (o:=.lst zd)
 generalize upd Hg c4 (.lst zd)=Hh at s6 ec4 ⊢
 walk_at "go"
 refine⟨.ref c4,ps,rfl,j5_ ec4 (IsL.same (sbg.trans s6) hzd),hb100 hD,by omega,hD.s,fun w4 y4 n4 Hi hw4 ew4 hy4 hp4 hn4 s7=>?_⟩
 have wd4:Wd Hi w4 xs:=uz_ ew4 hy4 hp4 hn4 hD fun z=>((hdue z).2).symm
 walk_at "go"
 intro l4 hl4
 have s8:=jd_ hl4 (.lst [.ref wo,.ref w2,.ref w3,.ref w4])
 have el4:=jb_ (H:=Hi) (a:=l4) (o:=.lst [.ref wo,.ref w2,.ref w3,.ref w4])
 generalize upd Hi l4 (.lst [.ref wo,.ref w2,.ref w3,.ref w4])=Hj at s8 el4 ⊢
 have sbj:=((sbg.trans s6).trans s7).trans s8
 have hall:∀ x∈[V.ref wo,V.ref w2,V.ref w3,V.ref w4],∃ so,x=.ref so/\Wd Hj so xs:=fun x hx=>by
  have s57:=(s6.trans s7).trans s8
  simp only[pt_,r5_,or_false] at hx
  rcases hx with rfl | rfl | rfl | rfl
  ·exact⟨wo,rfl,wd1.same (((s3.trans s4).trans s5).trans s57)⟩
  ·exact⟨w2,rfl,wd2.same (s5.trans s57)⟩
  ·exact⟨w3,rfl,wd3.same s57⟩
  ·exact⟨w4,rfl,wd4.same s8⟩
 have wdj:=hall (.ref wo) (by simp)
 obtain⟨_,e0,wdj⟩:=wdj
 cases e0
 have eplj:=(sb.trans sbj) _ _ epl
 have hypj:=IsL.same (sb.trans sbj) hyp
 have eduj:=sbj _ _ edu
 have hzdj:=IsL.same sbj hzd
 have ewlj:=(sb.trans sbj) _ _ ewl
 clear wd1 wd2 wd3 wd4 s1 s2 s3 s4 s5 s6 s7 s8 sbg edug sad epld eplb ec1 ec2 ec4 hyr ewo ew2 ew3 ew4 hyw hy2 hy3 hy4 q1 q2 q3 q4 q5 q6 q7 q8 edu hzd epl hyp ewl hpw hnw hp2 hn2 hp4 hn4
 -- what a wood's patterns are,and that they are the due
 have pin:∀{H':Hp} {so:Addr},Wd H' so xs->∃(ys:List V) (ks:List Kt) (nm:Nat->List Nat) (zs:List Pat),H' so=some (.lst ys)/\L2.IsL H' ys (ks.map kD)/\GoodT zs ks nm/\(∀ k∈ks,k.1.length<=5000)/\(begs zs).length<=5000/\(∀ x∈zs,x.1.length<=100)/\(∀ qs,SrtG (grt zs) qs->qs=ps)/\(∀ x∈zs,1<=x.1.length/\x.2.length=x.1.length+1)/\∀ wx:List Nat,1<=wx.length->vals zs wx=vals xs wx:=fun h=>by
  obtain⟨yk,kk,nk,zk,q1,q2,q3,q4,q5,q6,q7,q8⟩:=h
  exact⟨yk,kk,nk,zk,q1,q2,q3,q4,q6,fun x hx=>(q7 x hx).2.1,fun qs hq=>hq.one hps q8,fun x hx=>⟨(q7 x hx).1,(q7 x hx).2.2⟩,fun wx hw=>jrq_ (fun x hx=>⟨(q7 x hx).1,(q7 x hx).2.2⟩) (fun x hx=>⟨(hF.x x hx).1,(hF.x x hx).2.2⟩) q8 wx hw⟩
 walk_at "go"
 try refine u9_ (SqL.of el4) ?_
 refine yj_ (K:=K) (xs:=[V.ref wo,V.ref w2,V.ref w3,V.ref w4]) (fun j σ H'=>∃(v12 v13:Option V),σ=[some (.ref a),some (.ref p),some (.str (S l)),some (.ref wl),some (.int (m:Int)),some (.ref pl),v6,v7,v8,v9,some (.ref du),some (.ref wo),v12,v13,none,none,none]/\Same Hj H')
  ⟨none,none,rfl,Same.refl _⟩ (fun j σ H' _ ⟨_,_,_,s⟩=>SqL.of (s _ _ el4)) ?_ ?_
 ·rintro j x σ Hk hx ⟨v12,v13,rfl,sk⟩
  obtain⟨so,rfl,hwd⟩:=hall x (rb_ hx)
  obtain⟨yk,kk,nk,zk,q1,q2,q3,q4,q5,q6,q7,q8,q9⟩:=pin (hwd.same sk)
  walk_at "go"
  refine jeb_ (jt_ q1) fun c hc=>?_
  have sl:=jd_ hc (.lst yk)
  have ec:=jb_ (H:=Hk) (a:=c) (o:=.lst yk)
  generalize upd Hk c (.lst yk)=Hl at sl ec ⊢
  walk_at "go"
  refine⟨c,yk,zk,kk,nk,rfl,ec,IsL.same sl q2,q3,q4,q5,q6,fun fo zf qs Hm hfo efo hzf hqs sm=>?_⟩
  rw[q7 qs hqs] at hzf
  have skm:=(sk.trans sl).trans sm
  walk_at "go"
  refine⟨.ref fo,.ref du,zv_ ps,rfl,j5_ efo hzf,j5_ (skm _ _ eduj) (IsL.same skm hzdj),dwp.1,dwp.2,fun Hn sn=>?_⟩
  have skn:=skm.trans sn
  have hson:=((sl.trans sm).trans sn) _ _ q1
  have hysn:=IsL.same ((sl.trans sm).trans sn) q2
  have ewln:=skn _ _ ewlj
  walk_at "go"
  try refine u9_ (SqL.of ewln) ?_
  refine yj_ (K:=K) (xs:=ws.map fun w=>V.str (S w)) (fun j σ H'=>∃(v13:Option V),σ=[some (.ref a),some (.ref p),some (.str (S l)),some (.ref wl),some (.int (m:Int)),some (.ref pl),v6,v7,v8,v9,some (.ref du),some (.ref wo),some (.ref so),v13,none,none,none]/\Same Hn H')
   ⟨v13,rfl,Same.refl _⟩ (fun j σ H' _ ⟨_,_,s⟩=>SqL.of (s _ _ ewln)) ?_ ?_
  ·rintro j2 x2 σ Ho hx2 ⟨v13,rfl,so2⟩
   obtain⟨wx,hwx,rfl⟩:=qh_.mp (rb_ hx2)
   obtain⟨hwx0,hwx1,hwx2⟩:=hws wx hwx
   walk_at "go"
   refine⟨so,yk,zk,kk,nk,wx,rfl,so2 _ _ hson,IsL.same so2 hysn,q3.toGoodW,q4,q8,hwx1,by omega,fun fv Hp2 hfv efv sp2=>?_⟩
   rw[q9 wx hwx1] at efv
   have sjp:=(skn.trans so2).trans sp2
   walk_at "go"
   refine⟨.ref pl,xs,wx,rfl,j5_ (sjp _ _ eplj) (IsL.same sjp hypj),fun x hx=>⟨(hF.x x hx).1,by have:=(hF.x x hx).2.1;omega,by have:=(hF.x x hx).2.2;omega⟩,by omega,hwx1,by omega,fun dv Hq hdv edv sq=>?_⟩
   have efvq:=sq _ _ efv
   have hvl:(vals xs wx).length<=100:=by rw[up_];omega
   have isv:∀{b:Addr},Hq b=some (.lst ((vals xs wx).map V.int))->Is Hq (.ref b) (.lst ((vals xs wx).map Dt.int)):=fun{b} e=>by
    simp only[Is];exact⟨b,_,rfl,e,L2.IsL.ints _ _⟩
   walk_at "go"
   refine⟨.ref fv,.ref dv,.lst ((vals xs wx).map Dt.int),rfl,isv efvq,isv edv,?_,?_,fun Hr sr=>?_⟩
   ·simp only[dep];rw[v6_];decide
   ·simp only[wid];rw[vy_,pb_];omega
   walk_at "go"
   exact⟨_,rfl,((so2.trans sp2).trans sq).trans sr⟩
  ·rintro σ Ho ⟨v13,rfl,so2⟩
   walk_at "go"
   exact⟨_,_,rfl,skn.trans so2⟩
 rintro σ Hk ⟨v12,v13,rfl,sk⟩
 obtain⟨m4,hm4,hm40,hm41,hm42⟩:∃ m4:Int,(if ((m:Nat):Int) < 4 then ((m:Nat):Int) else 4)=m4/\0<=m4/\m4<=4/\m4<=(m:Int):=⟨_,rfl,by split <;> omega,by split <;> omega,by split <;> omega⟩
 walk_at "go"
 rw[hm4]
 walk_at "go"
 have hxm:xs.length=m:=by omega
 have hyl:ys.length=xs.length:=by have:=hypj.length;rwa [pb_] at this
 refine yh_ (fun i σ H'=>∃(v14 v15:Option V),σ=[some (.ref a),some (.ref p),some (.str (S l)),some (.ref wl),some (.int (m:Int)),some (.ref pl),v6,v7,v8,v9,some (.ref du),some (.ref wo),v12,v13,v14,v15,none]/\Same Hj H')
  ⟨none,none,rfl,sk⟩ ?_ ?_
 ·rintro i σ Hl hi ⟨v14,v15,rfl,sl⟩
  have hi:i < xs.length:=by omega
  have hz0:(0:Int)+(i:Int)=(i:Int):=by omega
  have epll:=sl _ _ eplj
  have hypl:=IsL.same sl hypj
  walk_at "go"
  rw[hz0]
  refine jke_ (SqL.of epll) fun c1 hc1=>?_
  have hcut1:cutV ys none (some (i:Int))=ys.take i:=by
   rw[uw_]
   have:=jcb_ ys 0 i (by omega) (by omega)
   have e0:cutA ys none (some (i:Int))=cutA ys (some ((0:Nat):Int)) (some (i:Int)):=by
    unfold cutA
    simp[sx]
   rw[e0,this,ry_,li_]
  rw[hcut1]
  have s1:=jd_ hc1 (.lst (ys.take i))
  have ec1:=jb_ (H:=Hl) (a:=c1) (o:=.lst (ys.take i))
  generalize upd Hl c1 (.lst (ys.take i))=Hm at s1 ec1 ⊢
  have eplm:=s1 _ _ epll
  walk_at "go"
  refine jke_ (SqL.of eplm) fun c2 hc2=>?_
  have hcut2:cutV ys (some ((i:Int)+1)) none=ys.drop (i+1):=by
   rw[uw_,show ((i:Int)+1)=((i+1:Nat):Int) by omega]
   exact jbc_ ys (i+1) (by omega)
  rw[hcut2]
  have s2:=jd_ hc2 (.lst (ys.drop (i+1)))
  have ec2:=jb_ (H:=Hm) (a:=c2) (o:=.lst (ys.drop (i+1)))
  generalize upd Hm c2 (.lst (ys.drop (i+1)))=Hn at s2 ec2 ⊢
  have ec1n:=s2 _ _ ec1
  walk_at "go"
  refine jpv_ ec1n ec2 (szn (by rw[pr_,qb_];omega)) fun lf hlf=>?_
  have s3:=jd_ hlf (.lst (ys.take i++ys.drop (i+1)))
  have elf:=jb_ (H:=Hn) (a:=lf) (o:=.lst (ys.take i++ys.drop (i+1)))
  generalize upd Hn lf (.lst (ys.take i++ys.drop (i+1)))=Ho at s3 elf ⊢
  have slo:=(s1.trans s2).trans s3
  have hyL:L2.IsL Ho (ys.take i++ys.drop (i+1)) ((xs.take i++xs.drop (i+1)).map patD):=by
   rw[pw_,List.map_take,List.map_drop]
   have h1:=IsL.same slo hypl
   exact IsL.append (xw_ h1).1 (xw_ h1).2
  have hL:=jph_ hF i
  have hLn:=hL.n
  generalize ys.take i++ys.drop (i+1)=yl at elf hyL
  generalize xs.take i++xs.drop (i+1)=xl at hyL hL hLn
  walk_at "go"
  refine⟨.ref lf,xl,rfl,j5_ elf hyL,hb100 hL,by omega,hL.s,fun wo2 yw nw Hp2 hwo ewo hyw hpw hnw s4=>?_⟩
  obtain⟨yk,kk,nk,zk,q1,q2,q3,q4,q5,q6,q7,q8⟩:Wd Hp2 wo2 xl:=uz_ ewo hyw hpw hnw hL fun _=>rfl
  walk_at "go"
  refine⟨wo2,yk,zk,kk,nk,rfl,q1,q2,q3,q4,q6,fun x hx=>(q7 x hx).2.1,fun fo zf qs Hq hfo efo hzf hqs s5=>?_⟩
  have s45:=s4.trans s5
  walk_at "go"
  refine⟨.ref lf,xl,rfl,j5_ (s45 _ _ elf) (IsL.same s45 hyL),hb100 hL,by omega,fun du2 zd2 ps2 Hr hdu2 edu2 hzd2 hps2 s6=>?_⟩
  have hqe:qs=ps2:=hqs.one hps2 q8
  rw[hqe] at hzf
  have hD2:=jkn_ hL hps2
  have hD2n:=hD2.n
  have dwp2:dep (zv_ ps2) < 6/\wid (zv_ ps2)<=100000:=by
   have:=jef_ (ps:=ps2) fun p hp=>by have:=hD2.x p hp;omega
   simp only[zv_,dep,wid,pb_]
   omega
  walk_at "go"
  refine⟨.ref fo,.ref du2,zv_ ps2,rfl,j5_ (s6 _ _ efo) (IsL.same s6 hzf),j5_ edu2 hzd2,dwp2.1,dwp2.2,fun Ht st=>?_⟩
  walk_at "go"
  exact⟨_,_,rfl,(((sl.trans slo).trans s45).trans s6).trans st⟩
 ·rintro σ Hl ⟨v14,v15,rfl,sl⟩
  obtain⟨yk,kk,nk,zk,q1,q2,q3,q4,q5,q6,q7,q8,q9⟩:=pin (wdj.same sl)
  walk_at "go"
  refine⟨wo,yk,zk,kk,nk,rfl,q1,q2,q3,q4,q5,q6,fun fo zf qs Hm hfo efo hzf hqs sm=>?_⟩
  rw[q7 qs hqs] at hzf
  have hzl:=hzf.length
  rw[pb_] at hzl
  have hsz:zf.length < sizeLine:=szn (by omega)
  walk_at "go"
  intro vz Hn hvz sn
  have efon:=sn _ _ efo
  have hfoj:Hj fo=none:=sl.free hfo
  walk_at "go"
  have so:Same Hj (upd Hn fo (.lst (zf++[vz]))):=fun b o e=>by
   rw[je_ (jf_ e hfoj)];exact sn _ _ (sm _ _ (sl _ _ e))
  generalize upd Hn fo (.lst (zf++[vz]))=Ho at so ⊢
  obtain⟨yk,kk,nk,zk,q1,q2,q3,q4,q5,q6,q7,q8,q9⟩:=pin (wdj.same so)
  walk_at "go"
  refine⟨wo,yk,zk,kk,nk,rfl,q1,q2,q3,q4,q5,q6,fun fo2 zf2 qs2 Hp2 hfo2 efo2 hzf2 hqs2 sp2=>?_⟩
  rw[q7 qs2 hqs2] at hzf2
  have sjp:=so.trans sp2
  walk_at "go"
  exact⟨.ref fo2,.ref du,zv_ ps,rfl,j5_ efo2 hzf2,j5_ (sjp _ _ eduj) (IsL.same sjp hzdj),dwp.1,dwp.2,fun Hq _=>q Hq⟩
end
def FuE (K:pd_) (x qual:Str) (st:Stmt) (f:Addr):Prop:=∃ fd,Fun K x qual st f fd
theorem bn1 {α:Type} {P:List α->Prop} (h:∀ a,P [a]):∀ us:List α,us.length=1->P us
 | [a],_=>h a
theorem bn2 {α:Type} {P:List α->Prop} (h:∀ a b,P [a,b]):∀ us:List α,us.length=2->P us
 | [a,b],_=>h a b
theorem bn3 {α:Type} {P:List α->Prop} (h:∀ a b c,P [a,b,c]):∀ us:List α,us.length=3->P us
 | [a,b,c],_=>h a b c
theorem bn4 {α:Type} {P:List α->Prop} (h:∀ a b c d,P [a,b,c,d]):∀ us:List α,us.length=4->P us
 | [a,b,c,d],_=>h a b c d
theorem all_mk {l:ki_} {w:World} {K:pd_} {h:Heap} {mg:Str->Option Value} {fa f0 f1 f2 f3 f4 f5 f6 f7 f8 f9 f10 f11 f12 f13 f14 f15 f16 f17 f18 f19:Addr} (X:K.In h) (G:h.Ns mainGlobals mg) (hfa:mg "law"=some (.ref fa))
  (a0:p1_ K mainGlobals "fitting_places"=some (some (.ref f0))) (F0:FuE K "fitting_places" "fitting_places" s_fitting_places f0)
  (a1:p1_ K mainGlobals "values_by_fits"=some (some (.ref f1))) (F1:FuE K "values_by_fits" "values_by_fits" s_values_by_fits f1)
  (a2:p1_ K mainGlobals "values"=some (some (.ref f2))) (F2:FuE K "values" "values" s_values f2)
  (a3:p1_ K mainGlobals "beginnings"=some (some (.ref f3))) (F3:FuE K "beginnings" "beginnings" s_beginnings f3)
  (a4:p1_ K mainGlobals "greatest_numbers"=some (some (.ref f4))) (F4:FuE K "greatest_numbers" "greatest_numbers" s_greatest_numbers f4)
  (a5:p1_ K mainGlobals "wood_of"=some (some (.ref f5))) (F5:FuE K "wood_of" "wood_of" s_wood_of f5)
  (a6:p1_ K mainGlobals "number_by_way"=some (some (.ref f6))) (F6:FuE K "number_by_way" "number_by_way" s_number_by_way f6)
  (a7:p1_ K mainGlobals "fits_from"=some (some (.ref f7))) (F7:FuE K "fits_from" "fits_from" s_fits_from f7)
  (a8:p1_ K mainGlobals "wood_values"=some (some (.ref f8))) (F8:FuE K "wood_values" "wood_values" s_wood_values f8)
  (a9:p1_ K mainGlobals "patterns_in"=some (some (.ref f9))) (F9:FuE K "patterns_in" "patterns_in" s_patterns_in f9)
  (a10:p1_ K mainGlobals "_law_feed"=some (some (.ref f10))) (F10:FuE K "_law_feed" "_law_feed" s_law_feed f10)
  (a11:p1_ K mainGlobals "_law_next"=some (some (.ref f11))) (F11:FuE K "_law_next" "_law_next" s_law_next f11)
  (a12:p1_ K mainGlobals "_law_alike"=some (some (.ref f12))) (F12:FuE K "_law_alike" "_law_alike" s_law_alike f12)
  (a13:p1_ K mainGlobals "_law_letters"=some (some (.ref f13))) (F13:FuE K "_law_letters" "_law_letters" s_law_letters f13)
  (a14:p1_ K mainGlobals "_law_word"=some (some (.ref f14))) (F14:FuE K "_law_word" "_law_word" s_law_word f14)
  (a15:p1_ K mainGlobals "_law_numbers"=some (some (.ref f15))) (F15:FuE K "_law_numbers" "_law_numbers" s_law_numbers f15)
  (a16:p1_ K mainGlobals "_law_pattern"=some (some (.ref f16))) (F16:FuE K "_law_pattern" "_law_pattern" s_law_pattern f16)
  (a17:p1_ K mainGlobals "_law_greatest"=some (some (.ref f17))) (F17:FuE K "_law_greatest" "_law_greatest" s_law_greatest f17)
  (a18:p1_ K mainGlobals "_law_turned"=some (some (.ref f18))) (F18:FuE K "_law_turned" "_law_turned" s_law_turned f18)
  {od19 an19:Option Addr} {sl19:Array (Option Value)} {oc19 kV19 dc19 pm19 cd19 ct19:Value}
  (a19:p1_ K mainGlobals "law"=some (some (.ref f19))) (l19:K.lookup f19=some ⟨oc19,od19,.func (sx_ "law" "law" (xz_ s_law) (y3_ s_law) (jl_ s_law) .none kV19 dc19 pm19 an19 cd19 ct19),sl19⟩) (c_19:wk_ K cd19 "law"=true) (k19:sp_ K (.ref f19)=true)
  (z_len:p1_ K mainGlobals "len"=some none)
  (z_abs:p1_ K mainGlobals "abs"=some none)
  (z_all:p1_ K mainGlobals "all"=some none)
  (z_range:p1_ K mainGlobals "range"=some none)
  (z_enumerate:p1_ K mainGlobals "enumerate"=some none)
  (z_isinstance:p1_ K mainGlobals "isinstance"=some none)
  (z_tuple:p1_ K mainGlobals "tuple"=some none)
  (z_list:p1_ K mainGlobals "list"=some none)
  (z_bool:p1_ K mainGlobals "bool"=some none)
  (z_str:p1_ K mainGlobals "str"=some none)
  (z_int:p1_ K mainGlobals "int"=some none)
  (z_min:p1_ K mainGlobals "min"=some none)
  (z_max:p1_ K mainGlobals "max"=some none)
  (z_sorted:p1_ K mainGlobals "sorted"=some none)
  (z_zip:p1_ K mainGlobals "zip"=some none)
  (z_reversed:p1_ K mainGlobals "reversed"=some none)
  : ∃ fd:FuncData,(∀(s:Shared) (v:Value),BindsTo s fd ⟨[v],[]⟩ [("_law_script",v)])/\∀ base:Heap,K.In base->base.Ns mainGlobals mg->FnOk l.prog w K mg base CX0 7 fa fd ["_law_script"] (jki_ K):=by
 have e:=hfa.symm.trans (qf_ X G a19)
 cases e
 have T:Txt mg (fun i=>([]:List Tok).getD i 0):=⟨qd_ X G z_len,qd_ X G z_abs,qd_ X G z_all,qd_ X G z_range,qd_ X G z_enumerate,qd_ X G z_isinstance,qd_ X G z_tuple,qd_ X G z_list,qd_ X G z_bool,qd_ X G z_str,qd_ X G z_int,qd_ X G z_min,qd_ X G z_max,qd_ X G z_sorted,qd_ X G z_zip,qd_ X G z_reversed⟩
 obtain⟨fd0,F_fitting_places⟩:=F0
 have b_fitting_places:=F_fitting_places.binds (ps:=["signs","framed"]) fun _ _ _ _ _ _=>bn2 fun _ _=>rfl
 have m_fitting_places:=qf_ X G a0
 obtain⟨fd1,F_values_by_fits⟩:=F1
 have b_values_by_fits:=F_values_by_fits.binds (ps:=["fits","word"]) fun _ _ _ _ _ _=>bn2 fun _ _=>rfl
 have m_values_by_fits:=qf_ X G a1
 obtain⟨fd2,F_values⟩:=F2
 have b_values:=F_values.binds (ps:=["patterns","word"]) fun _ _ _ _ _ _=>bn2 fun _ _=>rfl
 have m_values:=qf_ X G a2
 obtain⟨fd3,F_beginnings⟩:=F3
 have b_beginnings:=F_beginnings.binds (ps:=["patterns"]) fun _ _ _ _ _ _=>bn1 fun _=>rfl
 have m_beginnings:=qf_ X G a3
 obtain⟨fd4,F_greatest_numbers⟩:=F4
 have b_greatest_numbers:=F_greatest_numbers.binds (ps:=["patterns"]) fun _ _ _ _ _ _=>bn1 fun _=>rfl
 have m_greatest_numbers:=qf_ X G a4
 obtain⟨fd5,F_wood_of⟩:=F5
 have b_wood_of:=F_wood_of.binds (ps:=["patterns"]) fun _ _ _ _ _ _=>bn1 fun _=>rfl
 have m_wood_of:=qf_ X G a5
 obtain⟨fd6,F_number_by_way⟩:=F6
 have b_number_by_way:=F_number_by_way.binds (ps:=["knot","sign"]) fun _ _ _ _ _ _=>bn2 fun _ _=>rfl
 have m_number_by_way:=qf_ X G a6
 obtain⟨fd7,F_fits_from⟩:=F7
 have b_fits_from:=F_fits_from.binds (ps:=["wood","framed","begin"]) fun _ _ _ _ _ _=>bn3 fun _ _ _=>rfl
 have m_fits_from:=qf_ X G a7
 obtain⟨fd8,F_wood_values⟩:=F8
 have b_wood_values:=F_wood_values.binds (ps:=["wood","word"]) fun _ _ _ _ _ _=>bn2 fun _ _=>rfl
 have m_wood_values:=qf_ X G a8
 obtain⟨fd9,F_patterns_in⟩:=F9
 have b_patterns_in:=F_patterns_in.binds (ps:=["wood"]) fun _ _ _ _ _ _=>bn1 fun _=>rfl
 have m_patterns_in:=qf_ X G a9
 obtain⟨fd10,F_law_feed⟩:=F10
 have b_law_feed:=F_law_feed.binds (ps:=["_law_script","_law_k"]) fun _ _ _ _ _ _=>bn2 fun _ _=>rfl
 have m_law_feed:=qf_ X G a10
 obtain⟨fd11,F_law_next⟩:=F11
 have b_law_next:=F_law_next.binds (ps:=["_law_feed_here","_law_many"]) fun _ _ _ _ _ _=>bn2 fun _ _=>rfl
 have m_law_next:=qf_ X G a11
 obtain⟨fd12,F_law_alike⟩:=F12
 have b_law_alike:=F_law_alike.binds (ps:=["_law_found","_law_due"]) fun _ _ _ _ _ _=>bn2 fun _ _=>rfl
 have m_law_alike:=qf_ X G a12
 obtain⟨fd13,F_law_letters⟩:=F13
 have b_law_letters:=F_law_letters.binds (ps:=["_law_feed_here"]) fun _ _ _ _ _ _=>bn1 fun _=>rfl
 have m_law_letters:=qf_ X G a13
 obtain⟨fd14,F_law_word⟩:=F14
 have b_law_word:=F_law_word.binds (ps:=["_law_feed_here","_law_letters_here","_law_most"]) fun _ _ _ _ _ _=>bn3 fun _ _ _=>rfl
 have m_law_word:=qf_ X G a14
 obtain⟨fd15,F_law_numbers⟩:=F15
 have b_law_numbers:=F_law_numbers.binds (ps:=["_law_feed_here","_law_signs","_law_few"]) fun _ _ _ _ _ _=>bn3 fun _ _ _=>rfl
 have m_law_numbers:=qf_ X G a15
 obtain⟨fd16,F_law_pattern⟩:=F16
 have b_law_pattern:=F_law_pattern.binds (ps:=["_law_feed_here","_law_letters_here","_law_word_here","_law_most"]) fun _ _ _ _ _ _=>bn4 fun _ _ _ _=>rfl
 have m_law_pattern:=qf_ X G a16
 obtain⟨fd17,F_law_greatest⟩:=F17
 have b_law_greatest:=F_law_greatest.binds (ps:=["_law_patterns_here"]) fun _ _ _ _ _ _=>bn1 fun _=>rfl
 have m_law_greatest:=qf_ X G a17
 obtain⟨fd18,F_law_turned⟩:=F18
 have b_law_turned:=F_law_turned.binds (ps:=["_law_wood"]) fun _ _ _ _ _ _=>bn1 fun _=>rfl
 have m_law_turned:=qf_ X G a18
 have F_law:=jpu_ (st:=s_law) l19 c_19 k19
 have b_law:=F_law.binds (ps:=["_law_script"]) fun _ _ _ _ _ _=>bn1 fun _=>rfl
 have m_law:=qf_ X G a19
 refine⟨sx_ "law" "law" (xz_ s_law) (y3_ s_law) (jl_ s_law) .none kV19 dc19 pm19 an19 cd19 ct19,fun s v=>.of_eq rfl,fun base _ _=>?_⟩
 have D_fitting_places:Dn l.prog w K mg base "fitting_places" 1 ["signs","framed"] jpq_:=⟨_,_,m_fitting_places,F_fitting_places.kp,b_fitting_places,vv_ T F_fitting_places⟩
 have D_values_by_fits:Dn l.prog w K mg base "values_by_fits" 1 ["fits","word"] vm_:=⟨_,_,m_values_by_fits,F_values_by_fits.kp,b_values_by_fits,vt_ T F_values_by_fits⟩
 have D_values:Dn l.prog w K mg base "values" 2 ["patterns","word"] jba_:=⟨_,_,m_values,F_values.kp,b_values,jmf_ T F_values D_fitting_places D_values_by_fits⟩
 have D_beginnings:Dn l.prog w K mg base "beginnings" 1 ["patterns"] jja_:=⟨_,_,m_beginnings,F_beginnings.kp,b_beginnings,jbo_ T F_beginnings⟩
 have D_greatest_numbers:Dn l.prog w K mg base "greatest_numbers" 1 ["patterns"] jps_:=⟨_,_,m_greatest_numbers,F_greatest_numbers.kp,b_greatest_numbers,x0_ T F_greatest_numbers⟩
 have D_wood_of:Dn l.prog w K mg base "wood_of" 2 ["patterns"] jhs_:=⟨_,_,m_wood_of,F_wood_of.kp,b_wood_of,jiu_ T F_wood_of D_beginnings D_greatest_numbers⟩
 have D_number_by_way:Dn l.prog w K mg base "number_by_way" 1 ["knot","sign"] jon_:=⟨_,_,m_number_by_way,F_number_by_way.kp,b_number_by_way,v0_ T F_number_by_way⟩
 have D_fits_from:Dn l.prog w K mg base "fits_from" 2 ["wood","framed","begin"] jhc_:=⟨_,_,m_fits_from,F_fits_from.kp,b_fits_from,jen_ T F_fits_from D_number_by_way⟩
 have D_wood_values:Dn l.prog w K mg base "wood_values" 3 ["wood","word"] spWV:=⟨_,_,m_wood_values,F_wood_values.kp,b_wood_values,jae_ T F_wood_values D_fits_from D_values_by_fits⟩
 have D_patterns_in:Dn l.prog w K mg base "patterns_in" 1 ["wood"] jns_:=⟨_,_,m_patterns_in,F_patterns_in.kp,b_patterns_in,jaz_ T F_patterns_in⟩
 have D_law_feed:Dn l.prog w K mg base "_law_feed" 1 ["_law_script","_law_k"] (jhy_ K):=⟨_,_,m_law_feed,F_law_feed.kp,b_law_feed,jet_ T F_law_feed⟩
 have D_law_next:Dn l.prog w K mg base "_law_next" 1 ["_law_feed_here","_law_many"] xe_:=⟨_,_,m_law_next,F_law_next.kp,b_law_next,jgv_ F_law_next⟩
 have D_law_alike:Dn l.prog w K mg base "_law_alike" 6 ["_law_found","_law_due"] (vf_ 6):=⟨_,_,m_law_alike,F_law_alike.kp,b_law_alike,vp_ T F_law_alike b_law_alike m_law_alike 6⟩
 have D_law_letters:Dn l.prog w K mg base "_law_letters" 2 ["_law_feed_here"] ud_:=⟨_,_,m_law_letters,F_law_letters.kp,b_law_letters,jbn_ T F_law_letters D_law_next⟩
 have D_law_word:Dn l.prog w K mg base "_law_word" 2 ["_law_feed_here","_law_letters_here","_law_most"] jej_:=⟨_,_,m_law_word,F_law_word.kp,b_law_word,jfc_ T F_law_word D_law_next⟩
 have D_law_numbers:Dn l.prog w K mg base "_law_numbers" 2 ["_law_feed_here","_law_signs","_law_few"] xm_:=⟨_,_,m_law_numbers,F_law_numbers.kp,b_law_numbers,u5_ T F_law_numbers D_law_next⟩
 have D_law_pattern:Dn l.prog w K mg base "_law_pattern" 3 ["_law_feed_here","_law_letters_here","_law_word_here","_law_most"] xq_:=⟨_,_,m_law_pattern,F_law_pattern.kp,b_law_pattern,u7_ T F_law_pattern D_law_next D_law_word D_law_numbers⟩
 have D_law_greatest:Dn l.prog w K mg base "_law_greatest" 1 ["_law_patterns_here"] spGr:=⟨_,_,m_law_greatest,F_law_greatest.kp,b_law_greatest,ur_ T F_law_greatest⟩
 have D_law_turned:Dn l.prog w K mg base "_law_turned" 1 ["_law_wood"] jad_:=⟨_,_,m_law_turned,F_law_turned.kp,b_law_turned,jbp_ T F_law_turned⟩
 exact jtl_ T F_law D_law_feed D_law_letters D_law_word D_law_next D_law_pattern D_law_numbers D_law_greatest D_wood_of D_law_turned D_patterns_in D_law_alike D_wood_values D_values
theorem walk {l:ki_} {q:Program} {loose:List Str} {XP:(Str->Option Value)->Heap->Prop} {YP:World->Heap->Prop} {d:DefRec} {K:Params->pd_} (hn:l.most=some 63) (hdf:d.params.defaults=[])
  (hY:∀(w:World) (h:Heap),YP w h->(K w.params).In h)
  (F:∀(w:World) (mg:Str->Option Value) (fa:Addr) (h:Heap),(K w.params).In h->h.Ns mainGlobals mg->mg d.name=some (.ref fa) ->
   ∃ fd:FuncData,(∀(s:Shared) (u:Value),BindsTo s fd ⟨[u],[]⟩ [("_law_script",u)])/\∀ base:Heap,(K w.params).In base->base.Ns mainGlobals mg->FnOk l.prog w (K w.params) mg base CX0 7 fa fd ["_law_script"] (jki_ (K w.params))) :
  PySem.W.WalkO q loose XP YP l.row.toRowW d [] (fun f vs=>PySem.call f vs) :=
 L2.jkh_ (n:=63) (k:=7) (x:="_law_script") (CX:=fun _=>CX0) (sp:=fun w=>jki_ (K w.params)) hn (by decide) hdf ⟨rfl,by decide,by decide⟩ hY F (fun _ _ a ns hl _ hS=>⟨a,ns,rfl,hS,hl,fun _=>rfl⟩) fun _ _ _ _ _ z=>z
end K22
local macro_rules | `(tactic| walk_at "w")=>`(tactic| (refine' ⟨_,L2.jpu_ ?l ?c ?k⟩;(case l=>k_is);(case c=>k_is);(case k=>k_is)))
open PySem PySem.W PyProof.Rows
set_option maxRecDepth 100000 in
set_option maxHeartbeats 0 in
theorem PySem.Challenge.cw_breakwords_k22_whole_patterns_out_of_a_w_holds : PySem.Challenge.rw_breakwords_k22_whole_patterns_out_of_a_w.Holds := by
 w_on;o_law;k_head;(case hw=>w_witness2)
 k_fill
 refine K22.walk (l:=PySem.Challenge.rw_breakwords_k22_whole_patterns_out_of_a_w) rfl rfl (fun w h Y=>PySem.W.kIn_of Y) ?F
 case F =>
  intro w mg fa h KX G hmg
  refine' K22.all_mk KX G hmg ?a0 ?F0 ?a1 ?F1 ?a2 ?F2 ?a3 ?F3 ?a4 ?F4 ?a5 ?F5 ?a6 ?F6 ?a7 ?F7 ?a8 ?F8 ?a9 ?F9 ?a10 ?F10 ?a11 ?F11 ?a12 ?F12 ?a13 ?F13 ?a14 ?F14 ?a15 ?F15 ?a16 ?F16 ?a17 ?F17 ?a18 ?F18 ?a19 ?l19 ?c_19 ?k19 ?z_len ?z_abs ?z_all ?z_range ?z_enumerate ?z_isinstance ?z_tuple ?z_list ?z_bool ?z_str ?z_int ?z_min ?z_max ?z_sorted ?z_zip ?z_reversed
  case a0=>k_is
  case F0=>walk_at "w"
  case a1=>k_is
  case F1=>walk_at "w"
  case a2=>k_is
  case F2=>walk_at "w"
  case a3=>k_is
  case F3=>walk_at "w"
  case a4=>k_is
  case F4=>walk_at "w"
  case a5=>k_is
  case F5=>walk_at "w"
  case a6=>k_is
  case F6=>walk_at "w"
  case a7=>k_is
  case F7=>walk_at "w"
  case a8=>k_is
  case F8=>walk_at "w"
  case a9=>k_is
  case F9=>walk_at "w"
  case a10=>k_is
  case F10=>walk_at "w"
  case a11=>k_is
  case F11=>walk_at "w"
  case a12=>k_is
  case F12=>walk_at "w"
  case a13=>k_is
  case F13=>walk_at "w"
  case a14=>k_is
  case F14=>walk_at "w"
  case a15=>k_is
  case F15=>walk_at "w"
  case a16=>k_is
  case F16=>walk_at "w"
  case a17=>k_is
  case F17=>walk_at "w"
  case a18=>k_is
  case F18=>walk_at "w"
  case a19 | l19 | c_19 | k19 | z_len | z_abs | z_all | z_range | z_enumerate | z_isinstance | z_tuple | z_list | z_bool | z_str | z_int | z_min | z_max | z_sorted | z_zip | z_reversed=>k_is
#print axioms PySem.Challenge.cw_breakwords_k22_whole_patterns_out_of_a_w_holds
namespace K22
end K22
