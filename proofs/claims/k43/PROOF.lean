import PyProof.Rows.All
import Wide.All
import OpenK.AllK
import Wide.FinOn
import Lean
import PyProof.EqAt
import PyProof.EqKinds
import PyProof.TupleCall
import PyProof.CompFree
import PyProof.P3Eq
import PyProof.Draws
import PyProof.EnumMake
import PyProof.WalksMore
import PyProof.StrLawsIn
import PyProof.ZipIter
import PyProof.Rows.SortShellK
import PyProof.Rows.SortStr
import KE.KDictOf
import KE.KDictSum
import PyProof.CollectIter
import PyProof.TupleOfGen
import PyProof.ListRange
import KE.KRevIter
import PyProof.CollectWalk
import PyProof.ListNew
import KE.KItemsList
import KE.KDictList
import PyProof.DictTruth
import PyProof.DictWalks
import KE.KDictLaws
import PyProof.WalkInts
import PyProof.SeqI3
import KE.KIntText
import PyProof.Rows.TupDisplay
import PySem.Challenge.RW_breakwords_k43_taught_level_by_level
local macro_rules | `(tactic| omega)=>`(tactic| lia)
namespace PySem.W.Fast
def tw9867544321740693847:=0
def tw11480928526180360806:=0
def tw6016695556829198034:=0
def tw18171305628306988680:=0
def tw8429868218377273306:=0
def tw5845755399066875670:=0
def tw13185446293664583089:=0
def tw18279123693767094927:=0
def tw15143900473680035642:=0
def tw3081387713145650177:=0
def tw1857529790697596081:=0
def tw16804328913596765192:=0
def tw12995955237487042777:=0
def tw8375341204745031130:=0
def tw16441985818764487603:=0
def tw15451465710679229967:=0
def tw13445587749512704140:=0
def tw16861484952642770972:=0
def tw10090960023295393774:=0
def tw408036161972904106:=0
def tw17056131781332500584:=0
def tw15089280252950049168:=0
def tw2680343955620302490:=0
def tw2160362206233008546:=0
def tw17023207418765698632:=0
def tw12356158521102478401:=0
def tw4532198390529749895:=0
def tw1195713794912350801:=0
def tw10529943480223459803:=0
def tw9767971523288270812:=0
def tw13223541619195634308:=0
def tw9853462318602004939:=0
def tw5221815180968932389:=0
def tw17310858573495868382:=0
def tw716886930377924669:=0
def tw10351449883266083815:=0
def tw7999082629242821420:=0
def tw15924013599367360866:=0
def tw1830748472243747600:=0
def tw6261886144311309739:=0
def tw1311889903529129962:=0
def tw6664030276718885530:=0
def tw16130909360521175347:=0
def tw7872017947804907203:=0
def tw11099501738875913967:=0
def tw17940345322761796306:=0
def tw4861171174990783787:=0
def tw13601837903451165039:=0
def tw7108142308800647329:=0
def tw11397764884647935732:=0
def tw4137164127575228236:=0
def tw2969883024317236117:=0
def tw3478904934022113049:=0
def tw9218844269929755685:=0
def tw15899094501241616730:=0
def tw13400286247399554263:=0
def tw4142720017876524641:=0
def tw3117303943178346993:=0
def tw402426467118221551:=0
def tw6784141006766186908:=0
def tw16050408890419659287:=0
def tw4861982879529587631:=0
def tw2105839384740372933:=0
def tw16081354062677002065:=0
def tw12327488103852606354:=0
def tw12473392501980171266:=0
def tw5540395253767639779:=0
def tw4771068740447915100:=0
def tw15414598359906700607:=0
def tw11585814957863926375:=0
def tw15260346412450725830:=0
def tw15725605676860823778:=0
def tw8742266052443453418:=0
def tw16451884055481635731:=0
def tw3455156205562179362:=0
def tw11870247448973801666:=0
def tw5300229285771827643:=0
def tw160581380593127026:=0
def tw3668700314381641972:=0
def tw17667887839957424768:=0
def tw6700444636586338755:=0
end PySem.W.Fast
set_option Elab.async false
set_option linter.all false
set_option maxRecDepth 100000
open List renaming getElem?_eq_getElem→pa_,length_map→pb_,length_append→pd_,replicate→pe_,getElem?_eq_some_iff→ph_,size_toArray→pj_,getElem?_map→pl_,mem_cons_of_mem→pm_,map_append→pn_,mem_cons_self→po_,append_assoc→pp_,length_take→pq_,mem_append→pr_,map_cons→ps_,range→pt_,mem_map→pu_,getD_eq_getElem?_getD→pw_,mem_of_mem_take→pz_,take_append_drop→p1_,length_cons→p3_,mem_cons→p7_,append_nil→p8_,length_drop→p9_,take_length→qa_,mem_filter→qd_,getElem_mem→qf_,mem_of_mem_drop→qg_,flatten_cons→qj_,length_range→qk_,flatMap_cons→ql_,lookup_cons→qm_,mem_append_right→qo_,map_congr_left→qp_,mem_append_left→qq_,filter_cons→qr_,filter_append→qt_,map_map→qu_,mem_flatMap→qw_,take_succ→qx_,length_filter_le→q1_,range_succ→q2_,getElem?_append_right→q3_,take_of_length_le→q4_,length_replicate→q7_,cons_lt_cons_iff→q9_,pairwise_append→re_,map_nil→rf_,length_pos_iff→rg_,getElem?_append_left→rh_,Perm→ri_,getElem?_take_of_lt→rj_,mem_singleton→rk_,mem_of_getElem?→rn_,mem_range→ro_,filterMap_cons→rq_,replicate_succ→rr_,flatMap_append→rt_,cons_append→ry_,getElem?_eq_none→r1_,nodup_cons→r5_,find?_cons→sa_,length_nil→sb_,Pairwise→sg_,mem_map_of_mem→si_,perm_append_comm→sq_,sum_cons→ss_,pairwise_map→st_,nodup_append→su_,drop_eq_getElem_cons→sz_,all_eq_true→s1_,getElem_of_mem→s3_,filter_sublist→s5_,getElem?_replicate→s9_,nil_append→ta_,forIn_cons→tb_,length→th_,not_lt→tl_,drop_drop→to_,drop_zero→tp_,take_take→tq_,length_singleton→tt_,eq_nil_of_length_eq_zero→tv_,any_eq_true→tw_,any_cons→ty_,getElem?_drop→wb_,find?_eq_none→wc_,map_replicate→we_,pairwise_iff_getElem→wi_,take_zero→wj_,lt_irrefl→wk_,foldl_append→wo_,getElem_take→wp_,getElem_drop→wq_,ext_getElem?→wr_,Nodup→wt_,all_cons→ww_,eraseIdx_cons_succ→wx_,getElem?_cons_succ→wz_,getElem?_cons_zero→w0_,le_antisymm→w1_,getElem?_set_self→w2_,drop_eq_nil_of_le→w5_,of_mem_zip→w7_,foldl_cons→w8_,filter_nil→ki_,getElem?_set_ne→kj_,reverse_reverse→kl_,all_map→k3_
open PySem.W renaming Frag→pc_,nsIn→px_,mg_of→qb_,mg_none_of→qe_,keepIn→sk_,fnOf→so_,findIn→tm_,codeIn→wg_,methodObj→wl_,cellsFrom_some→w3_,OpenLaw→ka_,specialIn→ky_,kitx_list→kz_
open Bool renaming false_ne_true→pf_,false_eq_true→pi_,and_eq_true→p2_,not_true→qv_,not_false→s0_,and_true→t0_,eq_iff_iff→t3_,true_and→wy_
open PySem.Heap renaming get?_push_of_some→pg_,lt_size→pv_,get?_push_size→py_,SameBut→q6_,get?_update_other→sl_,size_push→tn_,get?_update_self→ts_
open Nat renaming le_refl→pk_,lt_of_lt_of_le→p0_,le_trans→p5_,ne_of_lt→qc_,zero_le→qz_,min_eq_left→rc_,succ_mul→rp_,mul_le_mul_left→rs_,add_sub_cancel_left→sh_,le_of_lt→sm_,mul_le_mul_right→sx_,lt_irrefl→s6_,mul_le_mul→tr_,add_assoc→t1_,pos_iff_ne_zero→t7_,le_of_eq→w9_,zero_add→ke_,add_comm→k1_
open PySem.PassesOwn renaming never→p4_
open PyProof.Rows.KeyOrd renaming kle_trans→p6_,kle_of_klt→qs_,kle_refl→rb_,kle_antisymm→kr_
open PySem.F renaming plainAttrs_list→qh_,slot_dict_keyiterator_next→ra_,slot_list_append→rl_,type_list_append→rm_,slot_tuple_iterator_next→rw_,called_enumerate→rz_,slot_list_extend→sc_,type_list_extend→sd_,slot_NoneType_hash→sw_,slot_tuple_hash→tk_,args_dict_keyiterator_next_1→tu_,entry_dict_keyiterator_next→tx_,args_tuple_iterator_next_1→tz_,entry_tuple_iterator_next→t4_,slot_tuple_eq→t6_,args_tuple_add_2→wn_,entry_tuple_add→wv_,slot_tuple_add→w4_,plainAttrs_str→w6_,slot_dict_get→kf_
open Array renaming getElem?_toList→qi_,toList_push→q8_,perm_iff_toList_perm→rx_,getElem?_eq_getElem→r4_,length_toList→se_,toList_setIfInBounds→sv_,toList_append→s4_,toList_eraseIdxIfInBounds→tj_,forIn_toList→wd_
open PySem.SeqAt renaming EqAt→qn_
open PySem.Str renaming ofString→qy_
open PySem.Builtin.SmallTypes renaming fitsIndex→q0_,nextOf→r3_
open PySem.Builtin.Tuple renaming tupleHashOf→q5_,tupleExact→r7_,tupleItemsOf→wa_
open Int renaming emod_lt_of_pos→rd_,emod_nonneg→ru_,toNat_natCast→r9_,natCast_add→kd_,zero_add→kh_,add_comm→k5_
open List.Perm renaming append_right→rv_,append_left→r0_
open PySem.Builtin.Slice renaming slicePlaces→r2_,sliceAdjust→sy_,sliceApplied→t9_
open PyProof.Rows renaming slot_tuple_getitem→r6_,callWith_type1→sn_,KeyKind→km_
open PySem.Builtin.List renaming listTooLong→r8_,listItems→tg_
open PySem renaming mem_of_lookup→sf_,KeyKind→ks_
open Option renaming getD_some→sj_,map_some→sp_
open False renaming elim→sr_
open PySem.Heap.SameBut renaming update→s2_
open PySem.Builtin.Str renaming occurrences→s7_
open PySem.Calls renaming spliced_cons→s8_,callWith_builtin→tf_,Name_function_global→t8_,spliced_nil→wm_,evalArgs_plain→kk_
open PySem.Obj renaming data_mapFields→tc_,mapSeq→ti_,isFreed_of_fields→kc_
open PySem.StrLaws renaming occBody→td_
open List.Nodup renaming sublist→te_
open PySem.Builtin.Dict_items renaming ownsTuple→t2_
open List.cons renaming injEq→t5_
open Ne renaming symm→wf_
open PySem.PyData renaming canLay0→wh_,depth→k4_
open List.Pairwise renaming imp_of_mem→ws_
open PySem.Paired renaming length→wu_
open PySem.Txt renaming startswith3→kb_,slice→kw_,contains→k2_,join→k6_
open PySem.Builtin.Dict renaming showsAll→kg_
open PySem.SeqAt.EqAt renaming none_int→kn_,none_str→ko_,int_none→kp_,str_none→kq_,int_str→kt_,str_int→ku_,str_str→kv_
open Function renaming comp→kx_
open Option.some renaming injEq→k0_
namespace L2
open PySem PySem.Spec PyProof.Rows
abbrev Key:=Sum Int Str
def xi_:Key->Value->Bool
 | .inl k,v=>Value.isInt k v
 | .inr x,v=>Value.isStrOf x v
def keyH (w:World):Key->Int
 | .inl k=>hashInt k
 | .inr x=>hashStr w x
theorem jx_:∀{k:Key} {v:Value},xi_ k v=true->(∃ i t,k=Sum.inl i/\v=Value.int i t)∨(∃ x t,k=Sum.inr x/\v=Value.str x t)
 | .inl i,v,h=>by
  obtain⟨t,e⟩:=Value.isInt_shape (k:=i) (v:=v) h
  exact .inl ⟨i,t,rfl,e⟩
 | .inr x,v,h=>by
  obtain⟨t,e⟩:=Value.isStrOf_shape (x:=x) (v:=v) h
  exact .inr ⟨x,t,rfl,e⟩
theorem jjv_ (i:Int) (t:Tok):xi_ (.inl i) (.int i t)=true:=by simp[xi_,Value.isInt]
theorem jjy_ (x:Str) (t:Tok):xi_ (.inr x) (.str x t)=true:=by simp[xi_,Value.isStrOf]
theorem jrc_ (a b:Int):decide ((Sum.inl a:Key)=Sum.inl b)=(a == b):=by
 by_cases e:a=b
 ·subst e;simp
 ·have h:¬ (Sum.inl a:Key)=Sum.inl b:=fun q=>e (Sum.inl.inj q)
  rw[decide_eq_false h]
  exact(beq_eq_false_iff_ne.mpr e).symm
theorem jso_ (a b:Str):decide ((Sum.inr a:Key)=Sum.inr b)=decide (a=b):=by
 by_cases e:a=b
 ·subst e;simp
 ·have h:¬ (Sum.inr a:Key)=Sum.inr b:=fun q=>e (Sum.inr.inj q)
  rw[decide_eq_false h,decide_eq_false e]
theorem jsl_ (a:Int) (b:Str):decide ((Sum.inl a:Key)=Sum.inr b)=false:=decide_eq_false (fun q=>nomatch q)
theorem jqy_ (a:Str) (b:Int):decide ((Sum.inr a:Key)=Sum.inl b)=false:=decide_eq_false (fun q=>nomatch q)
def jw_ (prog:Program) (w:World):ks_ prog w Key where
 is:=xi_
 hash:=keyH w
 inj:=fun v a b ha hb=>by
  rcases jx_ ha with ⟨i,t,rfl,rfl⟩ | ⟨x,t,rfl,rfl⟩
  ·rcases jx_ hb with ⟨j,u,rfl,e⟩ | ⟨y,u,rfl,e⟩
   ·injection e with e1 _;rw[e1]
   ·exact nomatch e
  ·rcases jx_ hb with ⟨j,u,rfl,e⟩ | ⟨y,u,rfl,e⟩
   ·exact nomatch e
   ·injection e with e1 _;rw[e1]
 byValue:=fun k v h=>by
  rcases jx_ h with ⟨i,t,rfl,rfl⟩ | ⟨x,t,rfl,rfl⟩ <;> rfl
 pyHash:=fun hv h=>by
  rcases jx_ hv with ⟨i,t,rfl,rfl⟩ | ⟨x,t,rfl,rfl⟩
  ·exact wpAny_pyHash_int h
  ·exact wpAny_pyHash_str h
 eqBool:=fun hu hv h=>by
  rcases jx_ hu with ⟨i,t,rfl,rfl⟩ | ⟨x,t,rfl,rfl⟩
  ·rcases jx_ hv with ⟨j,u,rfl,rfl⟩ | ⟨y,u,rfl,rfl⟩
   ·rw[jrc_] at h;exact wpAny_eqBool_int h
   ·rw[jsl_] at h;exact kt_ i t y u _ _ _ _ h
  ·rcases jx_ hv with ⟨j,u,rfl,rfl⟩ | ⟨y,u,rfl,rfl⟩
   ·rw[jqy_] at h;exact ku_ x t j u _ _ _ _ h
   ·rw[jso_] at h;exact wpAny_eqBool_str h
 «strs»:=fun k x t v h=>by
  rcases jx_ h with ⟨i,u,rfl,e⟩ | ⟨y,u,rfl,e⟩
  ·exact nomatch e
  ·injection e with e1 _
   subst e1
   cases v <;> rfl
theorem jeg_ (prog:Program) (w:World) (i:Int) (t:Tok):(jw_ prog w).is (.inl i) (.int i t)=true:=jjv_ i t
theorem yp_ (prog:Program) (w:World) (x:Str) (t:Tok):(jw_ prog w).is (.inr x) (.str x t)=true:=jjy_ x t
end L2
namespace L2
open PySem PySem.Spec PyProof.Rows
inductive V where
 | non | bl (b:Bool) | int (i:Int) | str (x:Str) | byt (b:Array UInt8) | flt (b:UInt64) | ref (a:Addr) | ty (n:String)
 deriving DecidableEq
def RelV:V->Value->Prop
 | .non,u=>u=Value.none
 | .bl b,u=>u=Value.bool b
 | .int i,u=>∃ t,u=Value.int i t
 | .str x,u=>∃ t,u=Value.str x t
 | .byt b,u=>∃ t,u=Value.bytes b t
 | .flt b,u=>∃ t,u=Value.float b t
 | .ref a,u=>u=Value.ref a
 | .ty n,u=>u=Value.type n
abbrev Vals:List V->List Value->Prop:=Paired RelV
theorem Vals.length {xs:List V} {us:List Value} (r:Vals xs us):xs.length=us.length:=wu_ r
theorem Vals.get:∀{xs:List V} {us:List Value} {i:Nat} {x:V},Vals xs us->xs[i]?=some x->∃ u,us[i]?=some u/\RelV x u
 | _,_,_,_,.nil,e=>by simp at e
 | _,_,0,_,.cons r _,e=>by simp at e;subst e;exact⟨_,rfl,r⟩
 | _,_,i+1,x,.cons _ t,e=>by
  obtain⟨u,h1,h2⟩:=Vals.get (i:=i) (x:=x) t (by simpa using e)
  exact⟨u,by simpa using h1,h2⟩
theorem Vals.set {x:V} {u:Value} (r:RelV x u):∀{xs:List V} {us:List Value} (i:Nat),Vals xs us->Vals (xs.set i x) (us.set i u)
 | _,_,_,.nil=>.nil
 | _,_,0,.cons _ t=>.cons r t
 | _,_,i+1,.cons q t=>.cons q (Vals.set r i t)
theorem Vals.append:∀{xs ys:List V} {us ws:List Value},Vals xs us->Vals ys ws->Vals (xs++ys) (us++ws)
 | _,_,_,_,.nil,s=>s
 | _,_,_,_,.cons r t,s=>.cons r (Vals.append t s)
theorem Vals.take:∀{xs:List V} {us:List Value} (n:Nat),Vals xs us->Vals (xs.take n) (us.take n)
 | _,_,0,_=>.nil
 | _,_,_+1,.nil=>.nil
 | _,_,n+1,.cons r t=>.cons r (Vals.take n t)
theorem Vals.drop:∀{xs:List V} {us:List Value} (n:Nat),Vals xs us->Vals (xs.drop n) (us.drop n)
 | _,_,0,r=>r
 | _,_,_+1,.nil=>.nil
 | _,_,n+1,.cons _ t=>Vals.drop n t
def RelO:Option V->Option Value->Prop
 | some v,some u=>RelV v u
 | none,none=>True
 | _,_=>False
def KV {κ:Type}:List (κ×V)->List (κ×Value)->Prop:=Paired fun(p:κ×V) (q:κ×Value)=>p.1=q.1/\RelV p.2 q.2
def kV:Key->V
 | .inl i=>.int i
 | .inr x=>.str x
inductive HO where
 | lst (xs:List V)
 | tup (xs:List V)
 | dK (kvs:List (Key×V)) | dT (kvs:List (List Key×V))
 | set (S:Int->Bool) (n:Nat)
 | ins (C dx:Addr) (fs:List (Str×V))
 | own (x:Addr)
 | xd (fs:List (Str×V))
 | met (f x:Addr)
 | rng (lo hi:Int)
 | frz (o:Obj) (u:HO)
 | tbl (ps:Array Value)
 | ext (φ:Heap->Prop)
abbrev Hp:=Addr->Option HO
def upd (H:Hp) (a:Addr) (o:HO):Hp:=fun b=>if b=a then some o else H b
theorem jb_ {H:Hp} {a:Addr} {o:HO}:upd H a o a=some o:=by unfold upd;rw[if_pos rfl]
theorem jg_ {H:Hp} {a b:Addr} {o:HO} (h:b≠a):upd H a o b=H b:=by unfold upd;rw[if_neg h]
theorem jef_ {H:Hp} {a b:Addr} {o u:HO} (h:H a=some o) (h':H b=some u) (d:o≠u):a≠b:=by
 intro e;subst e;rw[h] at h';exact d (Option.some.inj h')
theorem jh_ {H:Hp} {a b:Addr} {o:HO} (h:H a=some o) (h':H b=none):a≠b:=by
 intro e;subst e;rw[h] at h';cases h'
section
variable (P:Program) (w:World)
def ObjOk (H:Hp) (h:Heap) (a:Addr):HO->Prop
 | .lst xs=>xs.length<=sizeLine/\∃(its:List Value) (n:Nat),Vals xs its/\h.get? a=some { cls:=.type "list",data:=.seq its.toArray n }
 | .tup xs=>xs.length<=sizeLine/\∃ its:List Value,Vals xs its/\IsTup h a its.toArray
 | .dK kvs=>kvs.length<=sizeLine/\(a == sysModules)=false/\∃ vs,KV kvs vs/\h.DictOf (jw_ P w) a vs
 | .dT kvs=>kvs.length<=sizeLine/\(a == sysModules)=false/\∃ xs:List (List Key×Addr×Value),
   Paired (fun(p:List Key×V) (q:List Key×Addr×Value)=>p.1=q.1/\H q.2.1=some (.tup (p.1.map kV))/\RelV p.2 q.2.2) kvs xs /\
   ∃ o es ep,h.get? a=some o/\o.ExactDict/\o.data=.dict es ep/\es.toList=xs.map (entryOfKey (tupleKind (jw_ P w)))/\(xs.map (·.1)).Nodup
 | .set S n=>h.SetOf (intKind P w) a S n
 | .ins C dx fs=>H dx=some (.own a)/\fs.length<=1000/\dx≠a/\h.get? a=some (PySem.W.instObj C dx) /\
   ∃ mA,h.Ns1 dx mA/\(∀ f,RelO (fs.lookup f) (mA f))/\PySem.Within mA (fs.map (·.1))
 | .own _=>∃ o,h.get? a=some o
 | .xd fs=>∃ mA,h.Ns1 a mA/\∀ f,RelO (fs.lookup f) (mA f)
 | .rng lo hi=>∃ t u v,h.get? a=some { cls:=.type "range",data:=.fields #[.int lo t,.int hi u,.int 1 v] }
 | .frz o u=>h.get? a=some o/\ObjOk H h a u
 | .tbl ps=>h.get? a=some { cls:=.none,data:=.fields ps }
 | .met f x=>h.get? a=some (wl_ (.ref f) (.ref x))
 | .ext φ=>φ h/\(∃ o,h.get? a=some o)/\∀ h1 h2:Heap,φ h1->(∀ o,h1.get? a=some o->h2.get? a=some o)->φ h2
def HOk (H:Hp) (h:Heap):Prop:=∀ a o,H a=some o->ObjOk P w H h a o
end
section
variable {P:Program} {w:World} {H H':Hp} {h h':Heap} {a:Addr} {o:HO}
theorem ObjOk.lt (x:ObjOk P w H h a o):a < h.objs.size:=by
 cases o with
 | lst xs=>obtain⟨_,_,_,_,e⟩:=x;exact pv_ e
 | tup xs=>obtain⟨_,_,_,p⟩:=x;exact p.lt
 | dK kvs=>obtain⟨_,_,_,_,o,_,_,e,_⟩:=x;exact pv_ e
 | dT kvs=>obtain⟨_,_,_,_,o,_,_,e,_⟩:=x;exact pv_ e
 | set S n=>obtain⟨o,_,_,_,e,_⟩:=x;exact pv_ e
 | ins C dx fs=>obtain⟨_,_,_,e,_⟩:=x;exact pv_ e
 | own y=>obtain⟨_,e⟩:=x;exact pv_ e
 | xd fs=>obtain⟨_,⟨_,_,_,e,_⟩,_⟩:=x;exact pv_ e
 | rng lo hi=>obtain⟨_,_,_,e⟩:=x;exact pv_ e
 | frz ob u=>obtain⟨e,_⟩:=x;exact pv_ e
 | tbl ps=>exact pv_ (show h.get? a=some _ from x)
 | met f y=>exact pv_ (show h.get? a=some _ from x)
 | ext φ=>obtain⟨_,⟨_,e⟩,_⟩:=x;exact pv_ e
theorem Paired.mapP {α β:Type} {F G:α->β->Prop}:∀{l₁:List α} {l₂:List β},Paired F l₁ l₂->(∀ a b,F a b->G a b)->Paired G l₁ l₂
 | _,_,.nil,_=>.nil
 | _,_,.cons r t,f=>.cons (f _ _ r) (Paired.mapP t f)
theorem ObjOk.stay (x:ObjOk P w H h a o) (k:∀ b u,(b=a∨H b=some (.own a))->h.get? b=some u->h'.get? b=some u)
  (ho:∀ b,H b=some (.own a)->H' b=some (.own a)) (ht:∀ b xs,H b=some (.tup xs)->H' b=some (.tup xs)):ObjOk P w H' h' a o:=by
 induction o with
 | lst xs=>obtain⟨z,its,n,r,e⟩:=x;exact⟨z,its,n,r,k _ _ (.inl rfl) e⟩
 | tup xs=>obtain⟨z,its,r,ob,e,c⟩:=x;exact⟨z,its,r,ob,k _ _ (.inl rfl) e,c⟩
 | dK kvs=>obtain⟨z,y,vs,r,ob,es,ep,e,c⟩:=x;exact⟨z,y,vs,r,ob,es,ep,k _ _ (.inl rfl) e,c⟩
 | dT kvs =>
  obtain⟨z,y,xs,r,ob,es,ep,e,c⟩:=x
  exact⟨z,y,xs,Paired.mapP r fun p q z=>⟨z.1,ht _ _ z.2.1,z.2.2⟩,ob,es,ep,k _ _ (.inl rfl) e,c⟩
 | set S n=>obtain⟨ob,es,ep,t,e,c⟩:=x;exact⟨ob,es,ep,t,k _ _ (.inl rfl) e,c⟩
 | ins C dx fs =>
  obtain⟨d,z,ne,e,mA,⟨od,es,ep,e2,c⟩,r⟩:=x
  exact⟨ho _ d,z,ne,k _ _ (.inl rfl) e,mA,⟨od,es,ep,k _ _ (.inr d) e2,c⟩,r⟩
 | own y=>obtain⟨ob,e⟩:=x;exact⟨ob,k _ _ (.inl rfl) e⟩
 | xd fs=>obtain⟨mA,⟨od,es,ep,e,c⟩,r⟩:=x;exact⟨mA,⟨od,es,ep,k _ _ (.inl rfl) e,c⟩,r⟩
 | rng lo hi=>obtain⟨t,u,v,e⟩:=x;exact⟨t,u,v,k _ _ (.inl rfl) e⟩
 | frz ob u ih=>obtain⟨e,q⟩:=x;exact⟨k _ _ (.inl rfl) e,ih q⟩
 | tbl ps =>
  have e:h.get? a=some { cls:=.none,data:=.fields ps }:=x
  show h'.get? a=some { cls:=.none,data:=.fields ps }
  exact k a _ (.inl rfl) e
 | met f y =>
  have e:h.get? a=some (wl_ (.ref f) (.ref y)):=x
  show h'.get? a=some (wl_ (.ref f) (.ref y))
  exact k a _ (.inl rfl) e
 | ext φ=>obtain⟨p,⟨o,e⟩,st⟩:=x;exact⟨st _ _ p fun o q=>k _ _ (.inl rfl) q,⟨o,k _ _ (.inl rfl) e⟩,st⟩
theorem HOk.lt (x:HOk P w H h) (e:H a=some o):a < h.objs.size:=(x a o e).lt
theorem HOk.fresh (x:HOk P w H h) (e:h.objs.size<=a):H a=none:=by
 cases q:H a with
 | none=>rfl
 | some u=>exact absurd (p0_ (x.lt q) e) (s6_ _)
theorem HOk.kept (x:HOk P w H h) (k:∀ b u,h.get? b=some u->h'.get? b=some u):HOk P w H h':=fun a o e =>
 (x a o e).stay (fun b u _ q=>k b u q) (fun _ q=>q) fun _ _ q=>q
theorem HOk.laid (x:HOk P w H h) (k:∀ b u,h.get? b=some u->h'.get? b=some u) (hp:h.objs.size<=a) (new:ObjOk P w (upd H a o) h' a o):HOk P w (upd H a o) h':=fun b u e=>by
 have hn:=x.fresh hp
 by_cases hb:b=a
 ·subst hb;rw[jb_] at e;cases e;exact new
 ·rw[jg_ hb] at e
  exact(x b u e).stay (fun c v _ q=>k c v q) (fun c q=>by rw[jg_ (jh_ q hn)];exact q) fun c xs q=>by rw[jg_ (jh_ q hn)];exact q
end
def Rd (H:Hp) (a:Addr) (u:HO):Prop:=H a=some u∨∃ o,H a=some (.frz o u)
theorem Rd.ok {P:Program} {w:World} {H:Hp} {h:Heap} {a:Addr} {u:HO} (r:Rd H a u) (x:HOk P w H h):ObjOk P w H h a u:=by
 rcases r with r | ⟨o,r⟩
 ·exact x a u r
 ·obtain⟨_,q⟩:=x a _ r
  exact q
def Mut:Option HO->Prop
 | some (.lst _)=>True
 | some (.dK _)=>True
 | some (.dT _)=>True
 | some (.set _ _)=>True
 | some (.ins _ _ _)=>True
 | some (.ext _)=>True
 | _=>False
section
variable {P:Program} {w:World} {H:Hp} {h h':Heap} {x e:Addr} {o':HO}
theorem HOk.write (ok:HOk P w H h) (mu:Mut (H x)) (he:e=x∨H e=some (.own x)) (k:∀ b u,b≠e->h.get? b=some u->h'.get? b=some u) (heo:∃ u,h'.get? e=some u)
  (new:ObjOk P w (upd H x o') h' x o'):HOk P w (upd H x o') h':=fun b u q=>by
 have nown:∀ c y,H c=some (.own y)->c≠x:=fun c y r z=>by subst z;rw[r] at mu;exact mu
 have ntup:∀ c xs,H c=some (.tup xs)->c≠x:=fun c xs r z=>by subst z;rw[r] at mu;exact mu
 by_cases hb:b=x
 ·subst hb;rw[jb_] at q;cases q;exact new
 ·rw[jg_ hb] at q
  by_cases hbe:b=e
  ·have q':H b=some (.own x):=by
    rcases he with z | z
    ·exact absurd (hbe.trans z) hb
    ·rw[hbe];exact z
   rw[q] at q';cases q'
   obtain⟨v,hv⟩:=heo
   exact⟨v,by rw[hbe];exact hv⟩
  ·refine(ok b u q).stay (fun c v hc r=>k c v ?_ r) (fun c r=>by rw[jg_ (nown c b r)];exact r) fun c xs r=>by rw[jg_ (ntup c xs r)];exact r
   rcases hc with rfl | hc
   ·exact hbe
   ·rintro rfl
    rcases he with z | z
    ·exact nown c b hc z
    ·rw[hc] at z;cases z;exact hb rfl
end
structure Un (fs ex:List Addr) (H H':Hp) (h h':Heap):Prop where
 keep:∀ b o,h.get? b=some o->H b=none->b∉fs->b∉ex->h'.get? b=some o
 slot:∀ b o,h.get? b=some o->H b=none->b∈fs->b∉ex->∃ sl,h'.get? b=some { o with slots:=sl }
 free:∀ b o,h.get? b=some o->H b=none->b∉ex->H' b=none
 there:∀ b o,h.get? b=some o->b∉ex->∃ o',h'.get? b=some o'
 tups:∀ b xs,H b=some (.tup xs)->H' b=some (.tup xs)
 frzs:∀ b o u,H b=some (.frz o u)->H' b=some (.frz o u)
 tbls:∀ b ps,H b=some (.tbl ps)->∃ more,H' b=some (.tbl (ps++more))
section
variable {fs fs' ex ex':List Addr} {H H1 H2:Hp} {h h1 h2 h':Heap} {a x e:Addr} {o:HO}
theorem Un.any (u:Un fs ex H H1 h h1) {b:Addr} {ob:Obj} (q:h.get? b=some ob) (n:H b=none) (hx:b∉ex):∃ sl,h1.get? b=some { ob with slots:=sl }:=by
 by_cases hb:b∈fs
 ·exact u.slot b ob q n hb hx
 ·exact⟨ob.slots,u.keep b ob q n hb hx⟩
theorem Un.kept (k:∀ b u,h.get? b=some u->h'.get? b=some u):Un fs ex H H h h' :=
 ⟨fun b ob q _ _ _=>k b ob q,fun b ob q _ _ _=>⟨ob.slots,k b ob q⟩,fun _ _ _ n _=>n,fun b ob q _=>⟨ob,k b ob q⟩,fun _ _ q=>q,fun _ _ _ q=>q,fun _ ps q=>⟨#[],by rw[q];simp⟩⟩
theorem Un.refl:Un fs ex H H h h:=Un.kept fun _ _ q=>q
theorem Un.laid (k:∀ b u,h.get? b=some u->h'.get? b=some u) (hp:h.objs.size<=a) (hn:H a=none):Un fs ex H (upd H a o) h h' where
 keep:=fun b u q _ _ _=>k b u q
 slot:=fun b u q _ _ _=>⟨u.slots,k b u q⟩
 free:=fun b u q n _=>by rw[jg_ (qc_ (p0_ (pv_ q) hp))];exact n
 there:=fun b u q _=>⟨u,k b u q⟩
 tups:=fun b xs q=>by rw[jg_ (jh_ q hn)];exact q
 frzs:=fun b u xs q=>by rw[jg_ (jh_ q hn)];exact q
 tbls:=fun b ps q=>⟨#[],by rw[jg_ (jh_ q hn),q];simp⟩
theorem Un.write (mu:Mut (H x)) (he:e=x∨H e=some (.own x)) (k:∀ b u,b≠e->h.get? b=some u->h'.get? b=some u) (heo:∃ u,h'.get? e=some u):Un fs ex H (upd H x o) h h':=by
 have hx:∀ b,H b=none->b≠x:=fun b n z=>by subst z;rw[n] at mu;exact mu
 have hb:∀ b,H b=none->b≠e:=fun b n z=>by
  subst z
  rcases he with r | r
  ·exact hx b n r
  ·rw[n] at r;cases r
 have hm:∀ b u,H b=some u->¬ Mut (some u)->b≠x:=fun b u q nm z=>by subst z;rw[q] at mu;exact nm mu
 refine⟨fun b u q n _ _=>k b u (hb b n) q,fun b u q n _ _=>⟨u.slots,k b u (hb b n) q⟩,fun b u q n _=>by rw[jg_ (hx b n)];exact n,fun b u q _=>?_,
  fun b xs q=>by rw[jg_ (hm b _ q fun z=>z)];exact q,fun b u xs q=>by rw[jg_ (hm b _ q fun z=>z)];exact q,fun b ps q=>⟨#[],by rw[jg_ (hm b _ q fun z=>z),q];simp⟩⟩
 by_cases hbe:b=e
 ·subst hbe;exact heo
 ·exact⟨u,k b u hbe q⟩
end
def trk (h:Heap) (H:Hp):List Addr:=(pt_ h.objs.size).filter fun a=>(H a).isSome
def hidT (h:Heap) (H:Hp):Heap:=PySem.W.hideAll h (trk h H)
theorem jiy_ (h:Heap) (H:Hp):(hidT h H).objs.size=h.objs.size:=PySem.W.hideAll_size _ _
theorem jlf_ {h:Heap} {H:Hp} {b:Addr} {o:Obj} (e:h.get? b=some o) (n:H b=none):(hidT h H).get? b=some o :=
 PySem.W.hideAll_get _ e fun hm=>by
  have q:(H b).isSome=true:=(qd_.mp hm).2
  rw[n] at q;simp at q
theorem jpp_ {h:Heap} {H:Hp} {b:Addr} {o:Obj} (e:(hidT h H).get? b=some o):h.get? b=some o/\H b=none:=by
 have e':h.get? b=some o:=PySem.W.of_hideAll (trk h H) e
 refine⟨e',?_⟩
 cases q:H b with
 | none=>rfl
 | some x =>
  have hm:b∈trk h H:=qd_.mpr ⟨ro_.mpr (pv_ e'),by simp[q]⟩
  have z:(hidT h H).get? b=none:=PySem.W.hideAll_none (trk h H) hm
  rw[z] at e;cases e
end L2
namespace L2
open PySem PySem.Spec PyProof.Rows
structure Mod (K:pc_) (mg:Str->Option Value) (base:Heap):Prop where
 kin:K.In base
 glob:base.Ns mainGlobals mg
 blt:∃ mb,base.Ns builtinsNs mb/\∀ x:Str,x≠"__name__"->mb x=bootBuiltins x
 nolimit:base.NoLimit
structure Cx where
 prog:Program
 w:World
 K:pc_
 mg:Str->Option Value
 base:Heap
 A:Around
 N:List Str
 s₀:Shared
 H₀:Hp
 env:Env
 outer:List Env
 stack:List Env
 ex:List Addr
 fn:Str->Bool
 calm:Bool
 pn:List (Addr×Obj)
 xe:Value->Shared->Prop
def frs (l:List Env):List Addr:=l.filterMap (·.frame)
abbrev Cx.fs (X:Cx):List Addr:=frs X.outer
def Vis (sc:Scope) (x:Str):Prop:=sc.names.lookup x=some .local∨sc.names.lookup x=some .cell∨sc.names.lookup x=some .free
def Loc (sc:Scope) (x:Str):Prop:=sc.names.lookup x=some .local∨sc.names.lookup x=some .cell
def Look (env:Env) (h:Heap) (m:Str->Option Value) (x:Str) (u:Value):Prop :=
 (env.kindOf x=some .local/\m x=some u)∨((env.kindOf x=some .cell∨env.kindOf x=some .free)/\∃ c,env.cells.lookup x=some c/\h.IsCell c (some u))
structure Cx.Ok (X:Cx):Prop where
 mod:Mod X.K X.mg X.base
 kind:X.env.scope.kind=.function
 glob:X.env.globals=mainGlobals
 blt:X.env.builtins=builtinsNs
 above:X.s₀.heap.objs.size<=X.env.locals
 inj:∀ x y c,X.env.cells.lookup x=some c->X.env.cells.lookup y=some c->x=y
 has:∀ x,(X.env.kindOf x=some .cell∨X.env.kindOf x=some .free)->∃ c,X.env.cells.lookup x=some c
 cab:∀ x c,X.fn x=true->X.env.cells.lookup x=some c->X.s₀.heap.objs.size<=c
 hd:X.calm=true->X.A.handled=none
 frames:X.A.frames=some X.stack
 stk:X.stack=X.outer∨(X.stack=X.env::X.outer/\X.env.frame=some X.env.locals)
 exf:∀ b∈X.ex,b≠X.env.locals/\∀ x c,X.env.cells.lookup x=some c->c≠b
 bs:∀ b o,X.base.get? b=some o->X.s₀.heap.get? b=some o/\X.H₀ b=none
 bsz:X.base.objs.size<=X.s₀.heap.objs.size
 noex:∀ b o,X.base.get? b=some o->b∉X.ex
 exfs:∀ b∈X.ex,b∉X.fs
 funs:X.s₀.heap.FunFrames X.base X.outer
 frf:∀ b∈X.fs,X.H₀ b=none
structure Inv (X:Cx) (pins:List (Addr×Obj)) (σ:List (Option V)) (H:Hp) (s:Shared):Prop where
 ok:X.Ok
 os:s.os=X.s₀.os
 bare:AllBare s.gens
 base:Un X.fs X.ex X.H₀ H X.s₀.heap s.heap
 loc:∃ m,s.heap.Ns X.env.locals m/\∀(i:Nat) (x:Str) (v:V),X.N[i]?=some x->σ[i]?=some (some v)->Vis X.env.scope x->∃ u,RelV v u/\Look X.env s.heap m x u
 cell:∀ x c,X.env.cells.lookup x=some c->∃ v,s.heap.IsCell c v
 free:H X.env.locals=none
 freeC:∀ x c,X.env.cells.lookup x=some c->H c=none
 pin:∀ p∈X.pn++pins,s.heap.get? p.1=some p.2/\H p.1=none/\p.1≠X.env.locals/\p.1∉X.fs/\∀ v,p.2.data≠.cell v
 hok:HOk X.prog X.w H s.heap
 len:σ.length=X.N.length
section
variable {X:Cx} {pins:List (Addr×Obj)} {σ:List (Option V)} {H H':Hp} {s:Shared} {h':Heap}
theorem Cx.Ok.nofr (ok:X.Ok) {b:Addr} {o:Obj} (e:X.base.get? b=some o):b∉X.fs:=fun hb=>by
 have:=(ok.funs.mem hb).1
 rw[e] at this;cases this
theorem Inv.bs (I:Inv X pins σ H s):∀ b o,X.base.get? b=some o->s.heap.get? b=some o/\H b=none:=fun b o e =>
 ⟨I.base.keep b o (I.ok.bs b o e).1 (I.ok.bs b o e).2 (I.ok.nofr e) (I.ok.noex b o e),I.base.free b o (I.ok.bs b o e).1 (I.ok.bs b o e).2 (I.ok.noex b o e)⟩
theorem Inv.bk (I:Inv X pins σ H s):∀ b o,X.base.get? b=some o->s.heap.get? b=some o:=fun b o e=>(I.bs b o e).1
theorem Inv.mod (I:Inv X pins σ H s):Mod X.K X.mg X.base:=I.ok.mod
theorem Inv.kIn (I:Inv X pins σ H s):X.K.In s.heap:=I.ok.mod.kin.keeps I.bk
theorem Inv.lt (I:Inv X pins σ H s):X.env.locals < s.heap.objs.size:=let ⟨_,hn,_⟩:=I.loc;hn.lt
theorem Inv.sz (I:Inv X pins σ H s):X.s₀.heap.objs.size<=s.heap.objs.size:=p5_ I.ok.above (sm_ I.lt)
theorem Inv.nofs (I:Inv X pins σ H s) {a:Addr} (h:s.heap.objs.size<=a):a∉X.fs:=fun hb=>by
 obtain⟨_,o,ho,_⟩:=I.ok.funs.mem hb
 exact absurd (p0_ (pv_ ho) (p5_ I.sz h)) (s6_ _)
theorem Inv.cne (I:Inv X pins σ H s):∀ x c,X.env.cells.lookup x=some c->c≠X.env.locals:=fun x c e z=>by
 obtain⟨v,o,ho,hd⟩:=I.cell x c e
 obtain⟨m,⟨o',es,ep,ho',hd',_⟩,_⟩:=I.loc
 rw[z,ho'] at ho;cases ho;rw[hd'] at hd;cases hd
theorem Inv.funs (I:Inv X pins σ H s):s.heap.FunFrames X.base X.outer:=by
 have all:∀(l:List Env),(∀ b∈frs l,b∈X.fs)->X.s₀.heap.FunFrames X.base l->s.heap.FunFrames X.base l:=by
  intro l
  induction l with
  | nil=>intro _ _;trivial
  | cons env r ih =>
   intro hs hl
   obtain⟨hk,⟨L,o,hf,hn,ho,hd⟩,hr⟩:=hl
   have hL:L∈X.fs:=hs L (by unfold frs;rw[rq_,hf];exact po_)
   obtain⟨sl,e⟩:=I.base.slot L o ho (I.ok.frf L hL) hL fun z=>I.ok.exfs L z hL
   exact⟨hk,⟨L,_,hf,hn,e,hd⟩,ih (fun b hb=>hs b (by unfold frs;rw[rq_,hf];exact pm_ _ hb)) hr⟩
 exact all X.outer (fun _ hb=>hb) I.ok.funs
theorem Inv.stack (I:Inv X pins σ H s):s.heap.FunFrames X.base X.stack:=by
 rcases I.ok.stk with e | ⟨e,hf⟩
 ·rw[e];exact I.funs
 ·rw[e]
  obtain⟨m,hn,_⟩:=I.loc
  refine .cons (by rw[I.ok.kind];decide) hf hn ?_ I.funs
  exact Heap.get?_none_of_le (p5_ I.ok.bsz I.ok.above)
theorem Inv.stkSub (I:Inv X pins σ H s):∀ b∈frs X.stack,b∈X.env.locals::X.fs:=fun b hb=>by
 rcases I.ok.stk with e | ⟨e,hf⟩
 ·rw[e] at hb;exact pm_ _ hb
 ·rw[e] at hb
  unfold frs at hb
  rw[rq_,hf] at hb
  exact hb
theorem Inv.stkFree (I:Inv X pins σ H s):∀ b∈frs X.stack,H b=none:=fun b hb=>by
 rcases p7_.mp (I.stkSub b hb) with e | hb
 ·rw[e];exact I.free
 ·obtain⟨_,o,ho,_⟩:=I.ok.funs.mem hb
  exact I.base.free b o ho (I.ok.frf b hb) fun z=>I.ok.exfs b z hb
theorem Inv.step {g':Array GenState} {t':Nat} {d':Drawn} {ch:List Addr} (I:Inv X pins σ H s)
  (hch:∀ b∈ch,(b∈X.ex∨X.s₀.heap.objs.size<=b)/\b≠X.env.locals/\(∀ x c,X.env.cells.lookup x=some c->c≠b)/\∀ p∈X.pn++pins,p.1≠b)
  (keep:∀ b o,b≠X.env.locals->b∉X.fs->b∉ch->s.heap.get? b=some o->H b=none->h'.get? b=some o)
  (slot:∀ b o,b≠X.env.locals->b∈X.fs->b∉ch->s.heap.get? b=some o->H b=none->∃ sl,h'.get? b=some { o with slots:=sl }) (free:∀ b o,b∉ch->s.heap.get? b=some o->H b=none->H' b=none)
  (there:∀ b o,b∉ch->s.heap.get? b=some o->∃ o',h'.get? b=some o')
  (tups:∀ b xs,H b=some (.tup xs)->H' b=some (.tup xs)) (frzs:∀ b o u,H b=some (.frz o u)->H' b=some (.frz o u)) (tbls:∀ b ps,H b=some (.tbl ps)->∃ more,H' b=some (.tbl (ps++more)))
  (ns:∀ m,s.heap.Ns X.env.locals m->h'.Ns X.env.locals m) (hok:HOk X.prog X.w H' h') (hg:AllBare g') :
  Inv X pins σ H' { s with heap:=h',gens:=g',drawn:=d',toks:=t' }:=by
 have neL:∀ b o,X.s₀.heap.get? b=some o->b≠X.env.locals:=fun b o e=>qc_ (p0_ (pv_ e) I.ok.above)
 have neC:∀ b o,X.s₀.heap.get? b=some o->b∉X.ex->b∉ch:=fun b o e hx hb=>by
  rcases (hch b hb).1 with z | z
  ·exact hx z
  ·exact absurd (p0_ (pv_ e) z) (s6_ _)
 have cellK:∀ x c,X.env.cells.lookup x=some c->∀ v,s.heap.IsCell c v->h'.IsCell c v:=fun x c e v ⟨o,ho,hd⟩=>by
  have nch:c∉ch:=fun z=>(hch c z).2.2.1 x c e rfl
  by_cases hc:c∈X.fs
  ·obtain⟨sl,q⟩:=slot c o (I.cne x c e) hc nch ho (I.freeC x c e)
   exact⟨_,q,hd⟩
  ·exact⟨o,keep c o (I.cne x c e) hc nch ho (I.freeC x c e),hd⟩
 refine⟨I.ok,I.os,hg,⟨fun b o e n hb hx=>?_,fun b o e n hb hx=>?_,fun b o e n hx=>?_,fun b o e hx=>?_,fun b xs e=>tups b xs (I.base.tups b xs e),fun b o xs e=>frzs b o xs (I.base.frzs b o xs e),fun b ps e=>?_⟩,?_,fun x c e=>?_,?_,fun x c e=>?_,fun p hp=>?_,hok,I.len⟩
 ·exact keep b o (neL b o e) hb (neC b o e hx) (I.base.keep b o e n hb hx) (I.base.free b o e n hx)
 ·obtain⟨sl,e1⟩:=I.base.slot b o e n hb hx
  obtain⟨sl',e2⟩:=slot b _ (neL b o e) hb (neC b o e hx) e1 (I.base.free b o e n hx)
  exact⟨sl',e2⟩
 ·obtain⟨o',e1⟩:=I.base.there b o e hx
  exact free b o' (neC b o e hx) e1 (I.base.free b o e n hx)
 ·obtain⟨o',e1⟩:=I.base.there b o e hx
  exact there b o' (neC b o e hx) e1
 ·obtain⟨m1,e1⟩:=I.base.tbls b ps e
  obtain⟨m2,e2⟩:=tbls b _ e1
  exact⟨m1++m2,by rw[e2,Array.append_assoc]⟩
 ·obtain⟨m,hn,hl⟩:=I.loc
  refine⟨m,ns m hn,fun i x v e1 e2 e3=>?_⟩
  obtain⟨u,r,l⟩:=hl i x v e1 e2 e3
  refine⟨u,r,?_⟩
  rcases l with l | ⟨k,c,e,z⟩
  ·exact .inl l
  ·exact .inr ⟨k,c,e,cellK x c e _ z⟩
 ·obtain⟨v,z⟩:=I.cell x c e
  exact⟨v,cellK x c e v z⟩
 ·obtain⟨m,⟨o,_,_,ho,_⟩,_⟩:=I.loc
  exact free _ o (fun z=>(hch _ z).2.1 rfl) ho I.free
 ·obtain⟨v,o,ho,hd⟩:=I.cell x c e
  exact free c o (fun z=>(hch c z).2.2.1 x c e rfl) ho (I.freeC x c e)
 ·obtain⟨e,n,ne,nf,d⟩:=I.pin p hp
  have nch:p.1∉ch:=fun z=>(hch p.1 z).2.2.2 p hp rfl
  exact⟨keep p.1 p.2 ne nf nch e n,free p.1 p.2 nch e n,ne,nf,d⟩
theorem Inv.un {t':Nat} (I:Inv X pins σ H s) (u:Un X.fs [] H H' s.heap h') (hok:HOk X.prog X.w H' h'):Inv X pins σ H' { s with heap:=h',toks:=t' }:=by
 obtain⟨m,⟨o,es,ep,ho,r⟩,_⟩:=id I.loc
 obtain⟨sl,hL⟩:=u.any ho I.free (by simp)
 exact I.step (g':=s.gens) (d':=s.drawn) (ch:=[]) (fun _ z=>nomatch z) (fun b o _ hb _ e n=>u.keep b o e n hb (by simp)) (fun b o _ hb _ e n=>u.slot b o e n hb (by simp)) (fun b o _ e n=>u.free b o e n (by simp)) (fun b o _ e=>u.there b o e (by simp)) u.tups u.frzs u.tbls (fun m' hm=>by
  obtain⟨o',es',ep',ho',r'⟩:=hm
  rw[ho] at ho';cases ho'
  exact⟨_,es',ep',hL,r'⟩) hok I.bare
theorem Inv.call {g':Array GenState} {t':Nat} {d':Drawn} {ch:List Addr} (I:Inv X pins σ H s) (u:Un (frs X.stack) ch H H' s.heap h') (hok:HOk X.prog X.w H' h') (hg:AllBare g')
  (hch:∀ b∈ch,(b∈X.ex∨X.s₀.heap.objs.size<=b)/\b≠X.env.locals/\(∀ x c,X.env.cells.lookup x=some c->c≠b)/\∀ p∈X.pn++pins,p.1≠b) :
  Inv X pins σ H' { s with heap:=h',gens:=g',drawn:=d',toks:=t' }:=by
 obtain⟨m,⟨o,es,ep,ho,r⟩,_⟩:=id I.loc
 obtain⟨sl,hL⟩:=u.any ho I.free fun z=>(hch _ z).2.1 rfl
 exact I.step (ch:=ch) hch (fun b o hL hb hc e n=>u.keep b o e n (fun z=>(p7_.mp (I.stkSub b z)).elim hL hb) hc) (fun b o _ _ hc e n=>u.any e n hc) (fun b o hc e n=>u.free b o e n hc) (fun b o hc e=>u.there b o e hc) u.tups u.frzs u.tbls (fun m' hm=>by
  obtain⟨o',es',ep',ho',r'⟩:=hm
  rw[ho] at ho';cases ho'
  exact⟨_,es',ep',hL,r'⟩) hok hg
theorem Inv.turned {t':Nat} {it:Addr} (I:Inv X pins σ H s) (k:∀ b o,b≠it->s.heap.get? b=some o->h'.get? b=some o) (hn:H it=none) (hL:it≠X.env.locals)
  (h1:it∈X.ex∨X.s₀.heap.objs.size<=it) (h2:∀ x c,X.env.cells.lookup x=some c->c≠it) (h3:∀ p∈X.pn++pins,p.1≠it):Inv X pins σ H { s with heap:=h',toks:=t' }:=by
 have nit:∀ b u,H b=some u->b≠it:=fun b u e z=>by rw[z,hn] at e;cases e
 refine I.step (g':=s.gens) (d':=s.drawn) (ch:=[it]) (fun b hb=>?_) (fun b o _ _ hc e _=>k b o (fun z=>hc (by simp[z])) e) (fun b o _ _ hc e _=>⟨o.slots,k b o (fun z=>hc (by simp[z])) e⟩) (fun _ _ _ _ n=>n)
  (fun b o hc e=>⟨o,k b o (fun z=>hc (by simp[z])) e⟩) (fun _ _ e=>e) (fun _ _ _ e=>e) (fun b ps e=>⟨#[],by rw[e];simp⟩) (fun m hm=>?_) (fun b u e=>?_) I.bare
 ·have e:b=it:=by simpa using hb
  subst e
  exact⟨h1,hL,h2,h3⟩
 ·obtain⟨o,es,ep,ho,r⟩:=hm
  exact⟨o,es,ep,k _ o (wf_ hL) ho,r⟩
 ·refine(I.hok b u e).stay (fun c v hc q=>k c v ?_ q) (fun _ q=>q) fun _ _ q=>q
  rcases hc with z | z
  ·rw[z];exact nit b u e
  ·exact nit c _ z
theorem Inv.tok (I:Inv X pins σ H s) (t:Nat):Inv X pins σ H { s with toks:=t }:=I.un (h':=s.heap) (t':=t) Un.refl I.hok
theorem Inv.kept {t':Nat} (I:Inv X pins σ H s) (k:∀ b u,s.heap.get? b=some u->h'.get? b=some u):Inv X pins σ H { s with heap:=h',toks:=t' }:=I.un (Un.kept k) (I.hok.kept k)
theorem Inv.laid {a:Addr} {o:HO} {t':Nat} (I:Inv X pins σ H s) (k:∀ b u,s.heap.get? b=some u->h'.get? b=some u) (hp:s.heap.objs.size<=a) (new:ObjOk X.prog X.w (upd H a o) h' a o) :
  Inv X pins σ (upd H a o) { s with heap:=h',toks:=t' }:=I.un (Un.laid k hp (I.hok.fresh hp)) (I.hok.laid k hp new)
theorem Inv.write {x e:Addr} {o:HO} {t':Nat} (I:Inv X pins σ H s) (mu:Mut (H x)) (he:e=x∨H e=some (.own x)) (k:∀ b u,b≠e->s.heap.get? b=some u->h'.get? b=some u) (heo:∃ u,h'.get? e=some u)
  (new:ObjOk X.prog X.w (upd H x o) h' x o):Inv X pins σ (upd H x o) { s with heap:=h',toks:=t' }:=I.un (Un.write mu he k heo) (I.hok.write mu he k heo new)
theorem Inv.pins_of {pins':List (Addr×Obj)} (I:Inv X pins σ H s) (h:∀ p∈pins',s.heap.get? p.1=some p.2/\H p.1=none/\p.1≠X.env.locals/\p.1∉X.fs/\∀ v,p.2.data≠.cell v):Inv X pins' σ H s :=
 ⟨I.ok,I.os,I.bare,I.base,I.loc,I.cell,I.free,I.freeC,fun p hp=>(pr_.mp hp).elim (fun z=>I.pin p (qq_ _ z)) (h p),I.hok,I.len⟩
theorem jds_ {N:List Str} (hN:N.Nodup) {i j:Nat} {x:Str} (a:N[i]?=some x) (b:N[j]?=some x):i=j:=by
 obtain⟨h1,e1⟩:=ph_.mp a
 obtain⟨h2,e2⟩:=ph_.mp b
 exact(List.getElem_inj hN).mp (e1.trans e2.symm)
theorem jim_ {M:Model} {A:Around} {E:Value->Shared->Prop} {i:Nat} {x:Str} {v:V} {u:Value} {Q:Unit->Shared->Prop} (I:Inv X pins σ H s) (hN:X.N.Nodup) (hi:X.N[i]?=some x) (hx:Loc X.env.scope x) (r:RelV v u)
  (h:∀ s',Inv X pins (σ.set i (some v)) H s'->(∃ a,q6_ a s.heap s'.heap/\(a=X.env.locals∨X.env.cells.lookup x=some a))->Q () s') (hf:X.fn x=true∨X.env.scope.names.lookup x=some .local:=by first | exact .inl rfl | exact .inr rfl | assumption):wpAny M A (storeName X.env x u) Q E s:=by
 obtain⟨m,hn,hl⟩:=id I.loc
 have hcls:(X.env.scope.kind == .class || (X.env.scope.kind == .module&&X.env.locals != X.env.globals))=false:=by rw[I.ok.kind];rfl
 have hiσ:i < σ.length:=by rw[I.len];exact(ph_.mp hi).1
 have cne:=I.cne
 have tracked:∀{a:Addr} {h':Heap},(∃ o,s.heap.get? a=some o/\H a=none)->q6_ a s.heap h'->HOk X.prog X.w H h':=fun{a h'} ha hs b ob e=>by
  obtain⟨_,_,hfree⟩:=ha
  refine(I.hok b ob e).stay (fun c w' hc q=>(hs.2 c ?_).trans q) (fun _ q=>q) fun _ _ q=>q
  rintro rfl
  rcases hc with rfl | hc
  ·rw[hfree] at e;cases e
  ·rw[hfree] at hc;cases hc
 rcases hx with hk | hk
 ·refine wpAny_storeName_local hk hn (fun h' hn' hs=>?_) hcls
  obtain⟨oL,_,_,hoL,_⟩:=id hn
  refine h _ ⟨I.ok,I.os,I.bare,⟨fun b o e n hb hx=>?_,fun b o e n hb hx=>?_,I.base.free,fun b o e hx=>?_,I.base.tups,I.base.frzs,I.base.tbls⟩,⟨_,hn',fun j y v' e1 e2 e3=>?_⟩,fun y c e=>?_,I.free,I.freeC,fun p hp=>?_,tracked ⟨oL,hoL,I.free⟩ hs,by simpa using I.len⟩ ⟨_,hs,.inl rfl⟩
  ·exact(hs.2 b (qc_ (p0_ (pv_ e) I.ok.above))).trans (I.base.keep b o e n hb hx)
  ·obtain⟨sl,e1⟩:=I.base.slot b o e n hb hx
   exact⟨sl,(hs.2 b (qc_ (p0_ (pv_ e) I.ok.above))).trans e1⟩
  ·obtain⟨o',e1⟩:=I.base.there b o e hx
   exact⟨o',(hs.2 b (qc_ (p0_ (pv_ e) I.ok.above))).trans e1⟩
  ·by_cases hj:j=i
   ·subst hj
    rw[hi] at e1;cases e1
    rw[w2_ hiσ] at e2
    cases e2
    exact⟨u,r,.inl ⟨hk,by simp⟩⟩
   ·rw[kj_ (wf_ hj)] at e2
    obtain⟨u',r',q⟩:=hl j y v' e1 e2 e3
    refine⟨u',r',?_⟩
    rcases q with ⟨k,e⟩ | ⟨k,c,e,z⟩
    ·refine .inl ⟨k,?_⟩
     have:y≠x:=fun e=>hj (jds_ hN e1 (e▸hi))
     simp[this,e]
    ·exact .inr ⟨k,c,e,z.sameBut hs (cne y c e)⟩
  ·obtain⟨w',z⟩:=I.cell y c e
   exact⟨w',z.sameBut hs (cne y c e)⟩
  ·obtain⟨e,n,ne,nf,d⟩:=I.pin p hp
   exact⟨(hs.2 p.1 ne).trans e,n,ne,nf,d⟩
 ·have hfn:X.fn x=true:=by
   rcases hf with z | z
   ·exact z
   ·rw[z] at hk;cases hk
  obtain⟨c,hc⟩:=I.ok.has x (.inl hk)
  obtain⟨w',z⟩:=I.cell x c hc
  refine wpAny_storeName_cell I.ok.kind hk hc z (fun h' hc' hs=>?_)
  obtain⟨oc,hoc,hocd⟩:=id z
  refine h { s with heap:=h' } ⟨I.ok,I.os,I.bare,⟨fun b o e n hb hx=>?_,fun b o e n hb hx=>?_,I.base.free,fun b o e hx=>?_,I.base.tups,I.base.frzs,I.base.tbls⟩,⟨m,hn.sameBut hs (wf_ (cne x c hc)),fun j y v' e1 e2 e3=>?_⟩,fun y c' e=>?_,I.free,I.freeC,fun p hp=>?_,tracked ⟨oc,hoc,I.freeC x c hc⟩ hs,by simpa using I.len⟩ ⟨c,hs,.inr hc⟩
  ·exact(hs.2 b (qc_ (p0_ (pv_ e) (I.ok.cab x c hfn hc)))).trans (I.base.keep b o e n hb hx)
  ·obtain⟨sl,e1⟩:=I.base.slot b o e n hb hx
   exact⟨sl,(hs.2 b (qc_ (p0_ (pv_ e) (I.ok.cab x c hfn hc)))).trans e1⟩
  ·obtain⟨o',e1⟩:=I.base.there b o e hx
   exact⟨o',(hs.2 b (qc_ (p0_ (pv_ e) (I.ok.cab x c hfn hc)))).trans e1⟩
  ·by_cases hj:j=i
   ·subst hj
    rw[hi] at e1;cases e1
    rw[w2_ hiσ] at e2
    cases e2
    exact⟨u,r,.inr ⟨.inl hk,c,hc,hc'⟩⟩
   ·rw[kj_ (wf_ hj)] at e2
    obtain⟨u',r',q⟩:=hl j y v' e1 e2 e3
    refine⟨u',r',?_⟩
    rcases q with q | ⟨k,c',e,z'⟩
    ·exact .inl q
    ·refine .inr ⟨k,c',e,z'.sameBut hs ?_⟩
     rintro rfl
     exact hj (jds_ hN e1 (I.ok.inj _ _ _ e hc▸hi))
  ·by_cases hcc:c'=c
   ·subst hcc;exact⟨_,hc'⟩
   ·obtain⟨w2,z2⟩:=I.cell y c' e
    exact⟨w2,z2.sameBut hs hcc⟩
  ·obtain⟨e,n,ne,nf,d⟩:=I.pin p hp
   refine⟨(hs.2 p.1 ?_).trans e,n,ne,nf,d⟩
   intro q
   rw[q,hoc] at e
   have q':oc=p.2:=Option.some.inj e
   exact d w' (by rw[<- q'];exact hocd)
theorem jel_ {M:Model} {A:Around} {E:Value->Shared->Prop} {i:Nat} {x:Str} {v:V} {u:Value} {Q:Unit->Shared->Prop} (I:Inv X pins σ H s) (hN:X.N.Nodup) (hi:X.N[i]?=some x) (hx:Loc X.env.scope x) (r:RelV v u)
  (h:∀ s',Inv X pins (σ.set i (some v)) H s'->Q () s') (hf:X.fn x=true∨X.env.scope.names.lookup x=some .local:=by first | exact .inl rfl | exact .inr rfl | assumption):wpAny M A (storeName X.env x u) Q E s :=
 jim_ I hN hi hx r (fun s' I' _=>h s' I') hf
theorem Inv.call' {s':Shared} {ch:List Addr} (I:Inv X pins σ H s) (ho:s'.os=s.os) (u:Un (frs X.stack) ch H H' s.heap s'.heap) (hok:HOk X.prog X.w H' s'.heap) (hg:AllBare s'.gens)
  (hch:∀ b∈ch,(b∈X.ex∨X.s₀.heap.objs.size<=b)/\b≠X.env.locals/\(∀ x c,X.env.cells.lookup x=some c->c≠b)/\∀ p∈X.pn++pins,p.1≠b):Inv X pins σ H' s':=by
 obtain⟨h',g',d',t',o'⟩:=s'
 have e:o'=s.os:=ho
 subst e
 exact I.call (g':=g') (t':=t') (d':=d') u hok hg hch
end
abbrev XK:=Value->Option Addr->Hp->Prop
abbrev St:=List (Option V)
abbrev VK:=V->Hp->Prop
abbrev TE:=St->Hp->VK->Prop
abbrev TT:=St->Hp->(Bool->Hp->Prop)->Prop
abbrev TA:=St->Hp->(List V->Hp->Prop)->Prop
structure Ends where
 nx:St->Hp->Prop
 rt:VK
 bk:St->Hp->Prop:=fun _ _=>False
 ct:St->Hp->Prop:=fun _ _=>False
abbrev TS:=Ends->St->Hp->Prop
def EP (X:Cx) (pins:List (Addr×Obj)) (σ:St) (Q:VK) (u:Value) (s':Shared):Prop:=∃ v H',Inv X pins σ H' s'/\RelV v u/\Q v H'
def TP (X:Cx) (pins:List (Addr×Obj)) (σ:St) (Q:Bool->Hp->Prop) (b:Bool) (s':Shared):Prop:=∃ H',Inv X pins σ H' s'/\Q b H'
def AP (X:Cx) (pins:List (Addr×Obj)) (σ:St) (Q:List V->Hp->Prop) (us:List Value) (s':Shared):Prop:=∃ vs H',Inv X pins σ H' s'/\Vals vs us/\Q vs H'
def SP (X:Cx) (pins:List (Addr×Obj)) (D:Ends) (f:Flow) (s':Shared):Prop :=
 match f with
 | .next=>∃ σ' H',Inv X pins σ' H' s'/\D.nx σ' H'
 | .brk=>∃ σ' H',Inv X pins σ' H' s'/\D.bk σ' H'
 | .cont=>∃ σ' H',Inv X pins σ' H' s'/\D.ct σ' H'
 | .ret u=>∃ v σ' H',Inv X pins σ' H' s'/\RelV v u/\D.rt v H'
def PE (X:Cx) (e:Expr) (t:TE):Prop :=
 ∀(pins:List (Addr×Obj)) (s:Shared) (σ:St) (H:Hp) (Q:VK),Inv X pins σ H s->t σ H Q->wpAny (model X.prog X.w) X.A (eval e X.env) (EP X pins σ Q) X.xe s
def PT (X:Cx) (e:Expr) (t:TT):Prop :=
 ∀(pins:List (Addr×Obj)) (s:Shared) (σ:St) (H:Hp) (Q:Bool->Hp->Prop),Inv X pins σ H s->t σ H Q->wpAny (model X.prog X.w) X.A (isTrue e X.env (eval e X.env)) (TP X pins σ Q) X.xe s
def PW (X:Cx) (e:Expr) (t:TT):Prop :=
 ∀(whole:Sem Value) (pins:List (Addr×Obj)) (s:Shared) (σ:St) (H:Hp) (Q:Bool->Hp->Prop),Inv X pins σ H s->t σ H Q->wpAny (model X.prog X.w) X.A (isTrue e X.env whole) (TP X pins σ Q) X.xe s
theorem PW.pt {X:Cx} {e:Expr} {t:TT} (h:PW X e t):PT X e t:=h _
def PA (X:Cx) (es:List Expr) (t:TA):Prop :=
 ∀(pos:Pos) (pins:List (Addr×Obj)) (s:Shared) (σ:St) (H:Hp) (Q:List V->Hp->Prop),Inv X pins σ H s->t σ H Q->wpAny (model X.prog X.w) X.A (spliced (backTo pos (starEach es X.env))) (AP X pins σ Q) X.xe s
def PS (X:Cx) (st:Stmt) (t:TS):Prop :=
 ∀(pins:List (Addr×Obj)) (s:Shared) (σ:St) (H:Hp) (D:Ends),Inv X pins σ H s->t D σ H->wpAny (model X.prog X.w) X.A (exec st X.env) (SP X pins D) X.xe s
def PSs (X:Cx) (st:List Stmt) (t:TS):Prop :=
 ∀(pins:List (Addr×Obj)) (s:Shared) (σ:St) (H:Hp) (D:Ends),Inv X pins σ H s->t D σ H->wpAny (model X.prog X.w) X.A (execs st X.env) (SP X pins D) X.xe s
theorem thn {α:Type} {t:Sem α} {Q Q':α->Shared->Prop} {M:Model} {A:Around} {E:Value->Shared->Prop} {s:Shared} (h:wpAny M A t Q E s) (hQ:∀ a s,Q a s->Q' a s):wpAny M A t Q' E s:=wpAny_mono h hQ fun _ _ x=>x
end L2
namespace L2
open PySem PySem.Spec PyProof.Rows
section
variable {X:Cx}
theorem bin {a b:Expr} {ta tb:TE} (ha:PE X a ta) (hb:PE X b tb) {pins:List (Addr×Obj)} {s:Shared} {σ:St} {H:Hp} {R:V->V->Hp->Prop} (I:Inv X pins σ H s) (h:ta σ H fun x H1=>tb σ H1 fun y H2=>R x y H2)
  {α:Type} {Q:α->Shared->Prop} {f:Value->Value->Sem α}
  (hf:∀ v u s2 x y H2,Inv X pins σ H2 s2->RelV x v->RelV y u->R x y H2->wpAny (model X.prog X.w) X.A (f v u) Q X.xe s2) :
  wpAny (model X.prog X.w) X.A (eval a X.env) (fun v s₁=>wpAny (model X.prog X.w) X.A (eval b X.env) (fun u s₂=>wpAny (model X.prog X.w) X.A (f v u) Q X.xe s₂) X.xe s₁) X.xe s:=by
 refine thn (ha pins s σ H _ I h) fun v s1 ⟨x,H1,I1,r1,q1⟩=>?_
 refine thn (hb pins s1 σ H1 _ I1 q1) fun u s2 ⟨y,H2,I2,r2,q2⟩=>?_
 exact hf v u s2 x y H2 I2 r1 r2 q2
def tVar (i:Nat):TE:=fun σ H Q=>∃ v,σ[i]?=some (some v)/\Q v H
def tC (v:V):TE:=fun _ H Q=>Q v H
theorem jro_ {i:Nat} {x:Str} {pos:Pos} (hN:X.N[i]?=some x) (hv:Vis X.env.scope x) (hd:(x == ("__debug__":Str))=false:=by decide) (hcd:(x == ("__classdict__":Str))=false:=by decide):PE X (.Name x pos) (tVar i):=by
 intro pins s σ H Q I h
 obtain⟨v,e,h⟩:=h
 obtain⟨m,hn,hl⟩:=I.loc
 obtain⟨u,r,l⟩:=hl i x v hN e hv
 have fin:EP X pins σ Q u s:=⟨v,H,I,r,h⟩
 rcases l with ⟨hk,hm⟩ | ⟨hk,c,hc,hcell⟩
 ·exact wpAny_Name (wpAny_loadName_local I.ok.kind hk hn hm fin) hd
 ·rcases hk with hk | hk
  ·exact wpAny_Name (wpAny_loadName_cell I.ok.kind hk hc hcell fin) hd
  ·exact wpAny_Name (wpAny_loadName_free I.ok.kind hk hc hcell fin hcd) hd
theorem jc_ {i j pos}:PE X (.Constant (.int i) j pos) (tC (.int i)):=fun _ _ _ H _ I h=>wpAny_Constant_int ⟨.int i,H,I.tok _,⟨_,rfl⟩,h⟩
theorem jqa_ {b j pos}:PE X (.Constant (.bool b) j pos) (tC (.bl b)):=fun _ _ _ H _ I h=>Constant_bool ⟨.bl b,H,I,rfl,h⟩
theorem jfp_ {j pos}:PE X (.Constant .none j pos) (tC .non):=fun _ _ _ H _ I h=>Constant_none ⟨.non,H,I,rfl,h⟩
theorem yr_ {x j pos}:PE X (.Constant (.str x) j pos) (tC (.str x)):=fun _ _ _ H _ I h=>Calls.Constant_str ⟨.str x,H,I.tok _,⟨_,rfl⟩,h⟩
def Gl (X:Cx) (x:Str):Prop:=X.env.kindOf x=some .globalImplicit
theorem jpn_ {E:Value->Shared->Prop} {pins:List (Addr×Obj)} {s:Shared} {σ:St} {H:Hp} {x:Str} {u:Value} {pos:Pos} {Q:Value->Shared->Prop} (I:Inv X pins σ H s) (hg:Gl X x) (hm:X.mg x=some u) (h:Q u s)
  (hd:(x == ("__debug__":Str))=false:=by decide):wpAny (model X.prog X.w) X.A (eval (.Name x pos) X.env) Q E s :=
 t8_ I.ok.kind hg (Calls.loadGlobal_global (by rw[I.ok.glob];exact I.mod.glob.keeps I.bk) hm h) hd
theorem v3_ {E:Value->Shared->Prop} {pins:List (Addr×Obj)} {s:Shared} {σ:St} {H:Hp} {x:Str} {u:Value} {pos:Pos} {Q:Value->Shared->Prop} (I:Inv X pins σ H s) (hg:Gl X x) (hm:X.mg x=none) (hv:bootBuiltins x=some u) (h:Q u s)
  (hn:x≠"__name__":=by decide) (hd:(x == ("__debug__":Str))=false:=by decide):wpAny (model X.prog X.w) X.A (eval (.Name x pos) X.env) Q E s:=by
 obtain⟨mb,h1,h2⟩:=I.mod.blt
 exact t8_ I.ok.kind hg (Calls.loadGlobal_builtin (by rw[I.ok.glob];exact I.mod.glob.keeps I.bk) hm (by rw[I.ok.blt];exact h1.keeps I.bk) ((h2 x hn).trans hv) h) hd
theorem jou_ {x:Str} {v:V} {u:Value} {pos:Pos} (hg:Gl X x) (hm:X.mg x=none) (hv:bootBuiltins x=some u) (r:RelV v u) (hn:x≠"__name__":=by decide) (hd:(x == ("__debug__":Str))=false:=by decide):PE X (.Name x pos) (tC v) :=
 fun _ _ _ H _ I h=>v3_ I hg hm hv ⟨v,H,I,r,h⟩ hn hd
variable {a b:Expr} {ta tb:TE} {pos:Pos}
variable {tA tB':TT} {rest:List Expr}
def tAnd (t u:TT):TT:=fun σ H Q=>t σ H fun c H1=>if c=true then u σ H1 Q else Q false H1
def tOr (t u:TT):TT:=fun σ H Q=>t σ H fun c H1=>if c=true then Q true H1 else u σ H1 Q
def tNot (t:TT):TT:=fun σ H Q=>t σ H fun c H1=>Q (!c) H1
theorem jid_ (ha:PT X a tA):PW X (.BoolOp .And [a] pos) tA:=by
 intro wh pins s σ H Q I h
 refine isTrue_and (thn (ha pins s σ H Q I h) fun c s1 e=>?_)
 cases c with
 | true=>exact isTrue_and_nil e
 | false=>exact e
theorem jsd_ (ha:PT X a tA):PW X (.BoolOp .Or [a] pos) tA:=by
 intro wh pins s σ H Q I h
 refine isTrue_or (thn (ha pins s σ H Q I h) fun c s1 e=>?_)
 cases c with
 | false=>exact isTrue_or_nil e
 | true=>exact e
theorem jml_ (ha:PT X a tA) (hb:PW X (.BoolOp .And (b::rest) pos) tB'):PW X (.BoolOp .And (a::b::rest) pos) (tAnd tA tB'):=by
 intro wh pins s σ H Q I h
 refine isTrue_and (thn (ha pins s σ H _ I h) fun c s1 ⟨H1,I1,q1⟩=>?_)
 cases c with
 | true=>exact hb wh pins s1 σ H1 Q I1 q1
 | false=>exact⟨H1,I1,q1⟩
theorem jqc_ (ha:PT X a tA) (hb:PW X (.BoolOp .Or (b::rest) pos) tB'):PW X (.BoolOp .Or (a::b::rest) pos) (tOr tA tB'):=by
 intro wh pins s σ H Q I h
 refine isTrue_or (thn (ha pins s σ H _ I h) fun c s1 ⟨H1,I1,q1⟩=>?_)
 cases c with
 | true=>exact⟨H1,I1,q1⟩
 | false=>exact hb wh pins s1 σ H1 Q I1 q1
theorem jlt_ (ha:PT X a tA):PT X (.UnaryOp .Not a pos) (tNot tA):=by
 intro pins s σ H Q I h
 exact isTrue_not (ha pins s σ H (fun c H1=>Q (!c) H1) I h)
def tIf (t:TT) (ta tb:TE):TE:=fun σ H Q=>t σ H fun c H1=>if c=true then ta σ H1 Q else tb σ H1 Q
theorem jls_ {c:Expr} (hc:PT X c tA) (ha:PE X a ta) (hb:PE X b tb):PE X (.IfExp c a b pos) (tIf tA ta tb):=by
 intro pins s σ H Q I h
 refine wpAny_IfExp (thn (hc pins s σ H _ I h) fun d s1 ⟨H1,I1,q1⟩=>?_)
 cases d with
 | true=>exact ha pins s1 σ H1 Q I1 q1
 | false=>exact hb pins s1 σ H1 Q I1 q1
end
end L2
namespace L2
open PySem PySem.Spec PyProof.Rows
def SqL (K:pc_) (H:Hp) (a:Addr) (xs:List V):Prop :=
 Rd H a (.lst xs) ∨
  ∃(o:Obj) (its:Array Value) (n:Nat),K.lookup a=some o/\o.cls=.type "list"/\o.dict=none/\o.data=.seq its n/\its.size<=sizeLine/\Vals xs its.toList
def SqT (K:pc_) (H:Hp) (a:Addr) (xs:List V):Prop :=
 Rd H a (.tup xs) ∨
  ∃(o:Obj) (its:Array Value) (n:Nat),K.lookup a=some o/\o.cls=.type "tuple"/\o.data=.seq its n/\its.size<=sizeLine/\Vals xs its.toList
def absV:Value->Option V
 | .none=>some .non
 | .bool b=>some (.bl b)
 | .int i _=>some (.int i)
 | .str x _=>some (.str x)
 | .bytes b _=>some (.byt b)
 | .float b _=>some (.flt b)
 | .ref a=>some (.ref a)
 | .type n=>some (.ty n)
 | _=>none
theorem RelV.abs {x:V} {u:Value} (r:RelV x u):absV u=some x:=by
 cases x with
 | non=>cases r;rfl
 | bl _=>cases r;rfl
 | int _=>obtain⟨t,rfl⟩:=r;rfl
 | str _=>obtain⟨t,rfl⟩:=r;rfl
 | byt _=>obtain⟨t,rfl⟩:=r;rfl
 | flt _=>obtain⟨t,rfl⟩:=r;rfl
 | ref _=>cases r;rfl
 | ty _=>cases r;rfl
theorem RelV.inj {x y:V} {u:Value} (r:RelV x u) (q:RelV y u):x=y:=Option.some.inj (r.abs.symm.trans q.abs)
theorem Vals.inj:∀{xs ys:List V} {us:List Value},Vals xs us->Vals ys us->xs=ys
 | _,_,_,.nil,.nil=>rfl
 | _,_,_,.cons r t,.cons r' t'=>by rw[r.inj r',Vals.inj t t']
section
variable {X:Cx} {pins:List (Addr×Obj)} {σ:St} {H:Hp} {s:Shared} {a:Addr} {xs ys:List V}
theorem SqL.of {K:pc_} (h:H a=some (.lst xs)):SqL K H a xs:=.inl (.inl h)
theorem SqT.of {K:pc_} (h:H a=some (.tup xs)):SqT K H a xs:=.inl (.inl h)
theorem Inv.list (I:Inv X pins σ H s) (h:SqL X.K H a xs):∃ its:List Value,Vals xs its/\PlainL s.heap a its.toArray/\xs.length<=sizeLine:=by
 rcases h with h | ⟨o,its,n,hk,hc,hd,hs,hz,r⟩
 ·obtain⟨z,its,n,r,e⟩:=h.ok I.hok
  exact⟨its,r,⟨_,n,e,rfl,rfl,rfl⟩,z⟩
 ·refine⟨its.toList,r,⟨o,n,I.kIn a o hk,hc,hd,by simpa using hs⟩,?_⟩
  have e:=r.length
  simp only[se_] at e
  omega
theorem Inv.tuple (I:Inv X pins σ H s) (h:SqT X.K H a xs):∃ its:List Value,Vals xs its/\IsTup s.heap a its.toArray/\xs.length<=sizeLine:=by
 rcases h with h | ⟨o,its,n,hk,hc,hs,hz,r⟩
 ·obtain⟨z,its,r,p⟩:=h.ok I.hok
  exact⟨its,r,p,z⟩
 ·refine⟨its.toList,r,⟨o,I.kIn a o hk,hc,n,by simpa using hs⟩,?_⟩
  have e:=r.length
  simp only[se_] at e
  omega
theorem Inv.list_inj (I:Inv X pins σ H s) (h:SqL X.K H a xs) (h':SqL X.K H a ys):xs=ys:=by
 obtain⟨its,r,⟨o,n,e,_,_,d⟩,_⟩:=I.list h
 obtain⟨its',r',⟨o',n',e',_,_,d'⟩,_⟩:=I.list h'
 rw[e] at e';cases e'
 rw[d] at d'
 injection d' with d1 _
 have:its=its':=by simpa using congrArg Array.toList d1
 subst this
 exact r.inj r'
theorem Inv.tuple_inj (I:Inv X pins σ H s) (h:SqT X.K H a xs) (h':SqT X.K H a ys):xs=ys:=by
 obtain⟨its,r,⟨o,e,_,n,d⟩,_⟩:=I.tuple h
 obtain⟨its',r',⟨o',e',_,n',d'⟩,_⟩:=I.tuple h'
 rw[e] at e';cases e'
 rw[d] at d'
 injection d' with d1 _
 have:its=its':=by simpa using congrArg Array.toList d1
 subst this
 exact r.inj r'
end
abbrev Cx.wish (X:Cx) (E:Value->Shared->Prop):Cx:={ X with xe:=E }
abbrev Cx.nox (X:Cx):Cx:=X.wish fun _ _=>False
theorem Cx.Ok.wish {X:Cx} (ok:X.Ok) (E:Value->Shared->Prop):(X.wish E).Ok :=
 ⟨ok.mod,ok.kind,ok.glob,ok.blt,ok.above,ok.inj,ok.has,ok.cab,ok.hd,ok.frames,ok.stk,ok.exf,ok.bs,ok.bsz,ok.noex,ok.exfs,ok.funs,ok.frf⟩
theorem Cx.Ok.unwish {X:Cx} {E:Value->Shared->Prop} (ok:(X.wish E).Ok):X.Ok :=
 ⟨ok.mod,ok.kind,ok.glob,ok.blt,ok.above,ok.inj,ok.has,ok.cab,ok.hd,ok.frames,ok.stk,ok.exf,ok.bs,ok.bsz,ok.noex,ok.exfs,ok.funs,ok.frf⟩
section
variable {X:Cx} {pins:List (Addr×Obj)} {σ:St} {H:Hp} {s:Shared} {E:Value->Shared->Prop}
theorem Inv.wish (I:Inv X pins σ H s) (E:Value->Shared->Prop):Inv (X.wish E) pins σ H s:=⟨I.ok.wish E,I.os,I.bare,I.base,I.loc,I.cell,I.free,I.freeC,I.pin,I.hok,I.len⟩
theorem Inv.unwish (I:Inv (X.wish E) pins σ H s):Inv X pins σ H s:=⟨I.ok.unwish,I.os,I.bare,I.base,I.loc,I.cell,I.free,I.freeC,I.pin,I.hok,I.len⟩
theorem SP.unwish {D:Ends} {f:Flow} {s':Shared} (h:SP (X.wish E) pins D f s'):SP X pins D f s':=by
 cases f with
 | next=>obtain⟨σ',H',I,q⟩:=h;exact⟨σ',H',I.unwish,q⟩
 | brk=>obtain⟨σ',H',I,q⟩:=h;exact⟨σ',H',I.unwish,q⟩
 | cont=>obtain⟨σ',H',I,q⟩:=h;exact⟨σ',H',I.unwish,q⟩
 | ret u=>obtain⟨v,σ',H',I,r,q⟩:=h;exact⟨v,σ',H',I.unwish,r,q⟩
theorem PSs.nox {st:List Stmt} {t:TS} (h:PSs X.nox st t):PSs X st t:=fun pins s σ H D I hw =>
 wpAny_mono (h pins s σ H D (I.wish _) hw) (fun _ _ q=>q.unwish) fun _ _ z=>sr_ z
end
section
variable {X:Cx} {st:Stmt} {rest:List Stmt} {t u:TS} {e:Expr} {te:TE} {pos:Pos}
def jqk_:TS:=fun D σ H=>D.nx σ H
def tSeq (t u:TS):TS:=fun D σ H=>t { D with nx:=u D } σ H
theorem z6_:PSs X [] jqk_:=fun _ _ σ H _ I h=>wpAny_execs_nil ⟨σ,H,I,h⟩
theorem jf_ (h1:PS X st t) (h2:PSs X rest u):PSs X (st::rest) (tSeq t u):=by
 intro pins s σ H D I h
 refine wpAny_execs_cons (thn (h1 pins s σ H { D with nx:=u D } I h) fun f s1 q=>?_)
 cases f with
 | next =>
  obtain⟨σ',H',I',q⟩:=q
  exact h2 pins s1 σ' H' D I' q
 | ret v=>exact q
 | brk=>exact q
 | cont=>exact q
theorem jj_ (h1:PS X st t):PSs X [st] t:=by
 intro pins s σ H D I h
 refine wpAny_execs_cons (thn (h1 pins s σ H D I h) fun f s1 q=>?_)
 cases f with
 | next=>exact wpAny_execs_nil q
 | ret v=>exact q
 | brk=>exact q
 | cont=>exact q
theorem Inv.quiet {pins:List (Addr×Obj)} {σ:St} {H:Hp} {s:Shared} (I:Inv X pins σ H s):interactive X.env=false:=by simp[interactive,I.ok.kind]
def jps_ (te:TE):TS:=fun D σ H=>te σ H fun _ H1=>D.nx σ H1
theorem zy_ (he:PE X e te) (hs:swapsWith e none pos.line X.env=pure false:=by rfl):PS X (.Expr e pos) (jps_ te):=by
 intro pins s σ H D I h
 exact wpAny_Expr_any (thn (he pins s σ H _ I h) fun v s1 ⟨x,H1,I1,r1,q1⟩=>⟨σ,H1,I1,q1⟩) I.quiet hs
def tRet (te:TE):TS:=fun D σ H=>te σ H D.rt
theorem j8_ (he:PE X e te):PS X (.Return (some e) pos) (tRet te):=by
 intro pins s σ H D I h
 exact wpAny_Return_some (thn (he pins s σ H _ I h) fun v s1 ⟨x,H1,I1,r1,q1⟩=>⟨x,σ,H1,I1,r1,q1⟩)
def tIfS (c:TT) (t u:TS):TS:=fun D σ H=>c σ H fun b H1=>if b=true then t D σ H1 else u D σ H1
theorem x0_ {c:Expr} {a b:List Stmt} {tc:TT} (hc:PT X c tc) (ha:PSs X a t) (hb:PSs X b u):PS X (.If c a b pos) (tIfS tc t u):=by
 intro pins s σ H D I h
 refine wpAny_If (thn (hc pins s σ H _ I h) fun d s1 ⟨H1,I1,q1⟩=>?_)
 cases d with
 | true=>exact ha pins s1 σ H1 D I1 q1
 | false=>exact hb pins s1 σ H1 D I1 q1
end
abbrev TG:=V->St->Hp->(St->Hp->Prop)->Prop
abbrev TGs:=List V->St->Hp->(St->Hp->Prop)->Prop
def PG (X:Cx) (target:Expr) (t:TG):Prop :=
 ∀(pins:List (Addr×Obj)) (s:Shared) (σ:St) (H:Hp) (v:V) (u:Value) (Q:St->Hp->Prop),Inv X pins σ H s->RelV v u->t v σ H Q ->
  wpAny (model X.prog X.w) X.A (assign target X.env u) (fun _ s'=>∃ σ' H',Inv X pins σ' H' s'/\Q σ' H') X.xe s
def PGs (X:Cx) (ts:List Expr) (t:TGs):Prop :=
 ∀(pins:List (Addr×Obj)) (s:Shared) (σ:St) (H:Hp) (vs:List V) (us:List Value) (Q:St->Hp->Prop),Inv X pins σ H s->Vals vs us->t vs σ H Q ->
  wpAny (model X.prog X.w) X.A (assignInOrder ((assignEach ts X.env).map (·.2)) us) (fun _ s'=>∃ σ' H',Inv X pins σ' H' s'/\Q σ' H') X.xe s
abbrev TSet:=V->V->V->Hp->(Hp->Prop)->Prop
def PSet (X:Cx) (t:TSet):Prop :=
 ∀(pins:List (Addr×Obj)) (s:Shared) (σ:St) (H:Hp) (o i v:V) (ov iv u:Value) (Q:Hp->Prop),Inv X pins σ H s->RelV o ov->RelV i iv->RelV v u->t o i v H Q ->
  wpAny (model X.prog X.w) X.A (setItem ov iv u) (fun _ s'=>∃ H',Inv X pins σ H' s'/\Q H') X.xe s
section
variable {X:Cx} {pos:Pos}
def jkt_ (i:Nat):TG:=fun v σ H Q=>Q (σ.set i (some v)) H
theorem jk_ {i:Nat} {x:Str} (hN:X.N.Nodup) (hi:X.N[i]?=some x) (hx:Loc X.env.scope x) (hf:X.fn x=true∨X.env.scope.names.lookup x=some .local:=by first | exact .inl rfl | exact .inr rfl | assumption):PG X (.Name x pos) (jkt_ i):=by
 intro pins s σ H v u Q I r h
 exact wpAny_assign_Name (jel_ I hN hi hx r (fun s' I'=>⟨_,H,I',h⟩) hf)
def gNil:TGs:=fun vs σ H Q=>vs=[]/\Q σ H
def jqf_ (t:TG) (u:TGs):TGs:=fun vs σ H Q=>∃ v r,vs=v::r/\t v σ H fun σ' H'=>u r σ' H' Q
theorem zu_:PGs X [] gNil:=by
 intro pins s σ H vs us Q I r h
 obtain⟨e,h⟩:=h
 subst e
 cases r
 exact assignInOrder_nil ⟨σ,H,I,h⟩
theorem jr_ {e:Expr} {es:List Expr} {t:TG} {u:TGs} (h1:PG X e t) (h2:PGs X es u)
  (hs:(assignEach (e::es) X.env).map (·.2)=assign e X.env::(assignEach es X.env).map (·.2):=by rfl):PGs X (e::es) (jqf_ t u):=by
 intro pins s σ H vs us Q I r h
 obtain⟨v,vr,e1,h⟩:=h
 subst e1
 cases r with
 | cons r rr =>
  rw[hs]
  refine assignInOrder_cons (thn (h1 pins s σ H _ _ _ I r h) fun _ s1 ⟨σ1,H1,I1,q1⟩=>?_)
  exact h2 pins s1 σ1 H1 _ _ Q I1 rr q1
def gTup (K:pc_) (n:Nat) (t:TGs):TG:=fun v σ H Q=>∃ a xs,v=.ref a/\SqT K H a xs/\xs.length=n/\t xs σ H Q
theorem yg_ {es:List Expr} {k:Nat} {t:TGs} {n:Nat} (hc:X.calm=true) (h:PGs X es t)
  (hn:(assignEach es X.env).length=n:=by rfl) (hst:(assignEach es X.env).findIdx? (·.1)=none:=by rfl):PG X (.Tuple es k pos) (gTup X.K n t):=by
 intro pins s σ H v u Q I r hw
 obtain⟨a,xs,e1,hq,hl,hw⟩:=hw
 subst e1
 cases r
 obtain⟨its,rv,ht,hz⟩:=I.tuple hq
 refine assign_Tuple_tuple (I.ok.hd hc) ht (by simp[hn,<- hl,rv.length]) hst fun h' hx=>?_
 have I1:Inv X pins σ H { s with heap:=h' }:=I.kept (t':=s.toks) fun b o e=>hx b o (qc_ (pv_ e)) e
 exact h pins _ σ H xs _ Q I1 (by simpa using rv) hw
def gSub (to ti:TE) (t:TSet):TG:=fun v σ H Q=>to σ H fun o H1=>ti σ H1 fun i H2=>t o i v H2 fun H3=>Q σ H3
theorem jmz_ {o i:Expr} {to ti:TE} {t:TSet} (ho:PE X o to) (hi:PE X i ti) (hs:PSet X t)
  (ha:∀ v,assign (.Subscript o i pos) X.env v=(do
   let ov <- holding [v] (eval o X.env)
   let iv <- holding [v,ov] (eval i X.env)
   standAt pos
   holding [v,ov,iv] (setItem ov iv v)
   release [v,ov,iv] []):=by intro _;rfl):PG X (.Subscript o i pos) (gSub to ti t):=by
 intro pins s σ H v u Q I r h
 rw[ha]
 refine wpAny_bind (wpAny_holding (thn (ho pins s σ H _ I h) fun ov s1 ⟨x,H1,I1,r1,q1⟩=>?_))
 refine wpAny_bind (wpAny_holding (thn (hi pins s1 σ H1 _ I1 q1) fun iv s2 ⟨y,H2,I2,r2,q2⟩=>?_))
 refine wpAny_bind (wpAny_standAt (wpAny_bind (wpAny_holding (thn (hs pins s2 σ H2 x y v ov iv u _ I2 r1 r2 r q2) fun _ s3 ⟨H3,I3,q3⟩=>?_))))
 exact wpAny_release ⟨σ,H3,I3,q3⟩
def tAsg (te:TE) (g:TG):TS:=fun D σ H=>te σ H fun x H1=>g x σ H1 D.nx
theorem jcq_ {tg e:Expr} {te:TE} {g:TG} (he:PE X e te) (hg:PG X tg g) (hs:swapsWithSole [tg] e pos.line X.env=pure false:=by rfl) (hw:swappedStores [tg] e X.env=pure none:=by rfl)
  (h1:(assignEach [tg] X.env).map (·.2)=[assign tg X.env]:=by rfl):PS X (.Assign [tg] e pos) (tAsg te g):=by
 intro pins s σ H D I h
 refine wpAny_Assign_stores (thn (he pins s σ H _ I h) fun v s1 ⟨x,H1,I1,r1,q1⟩=>?_) hs hw
 rw[h1]
 exact thn (hg pins s1 σ H1 x v _ I1 r1 q1) fun _ s2 q=>q
theorem jl_ {i:Nat} {x:Str} {e:Expr} {te:TE} {pos':Pos} (hN:X.N.Nodup) (hi:X.N[i]?=some x) (hx:Loc X.env.scope x) (he:PE X e te) (hs:swapsWith e (some (.Name x pos')) pos.line X.env=pure false:=by rfl) (hf:X.fn x=true∨X.env.scope.names.lookup x=some .local:=by first | exact .inl rfl | exact .inr rfl | assumption) :
  PS X (.Assign [.Name x pos'] e pos) (tAsg te (jkt_ i)):=by
 intro pins s σ H D I h
 refine wpAny_Assign_Name (thn (he pins s σ H _ I h) fun v s1 ⟨y,H1,I1,r1,q1⟩=>?_) hs
 exact jel_ I1 hN hi hx r1 (fun s2 I2=>⟨_,H1,I2,q1⟩) hf
end
section
variable {X:Cx} {pos:Pos}
end
structure It where
 go:Nat->Hp->Prop
 yld:Nat->Hp->V->Hp->Prop
 stop:Nat->Hp->Prop
def FpOk (X:Cx) (pins:List (Addr×Obj)) (H:Hp) (b:Addr):Prop :=
 H b=none/\b≠X.env.locals/\b∉X.fs/\(b∈X.ex∨X.s₀.heap.objs.size<=b)/\(∀ x c,X.env.cells.lookup x=some c->c≠b)/\∀ p∈X.pn++pins,p.1≠b
theorem Inv.fpOk {X:Cx} {pins:List (Addr×Obj)} {σ:St} {H H':Hp} {s:Shared} {b:Addr} (I:Inv X pins σ H s) (hb:s.heap.objs.size<=b) (hn:H' b=none):FpOk X pins H' b:=by
 refine⟨hn,Nat.ne_of_gt (p0_ I.lt hb),I.nofs hb,.inr (p5_ I.sz hb),fun x c e z=>?_,fun p hp z=>?_⟩
 ·obtain⟨v,q⟩:=I.cell x c e
  exact absurd (p0_ q.lt (by rw[z];exact hb)) (s6_ _)
 ·exact absurd (p0_ (pv_ (I.pin p hp).1) (by rw[z];exact hb)) (s6_ _)
structure Turn (P:Program) (w:World) (K:pc_) (tg:Expr) (J:It) (fp:List Addr) (it:Addr) (tn:Nat->Heap->Prop):Prop where
 mem:it∈fp
 obj:∀ i h,tn i h->∀ b∈fp,∃ o,h.get? b=some o/\∀ v,o.data≠.cell v
 keep:∀ i h h',tn i h->(∀ b∈fp,∀ o,h.get? b=some o->h'.get? b=some o)->tn i h'
 item:∀(X:Cx),X.prog=P->X.w=w->X.K=K->X.calm=true->∀(i:Nat) (pins:List (Addr×Obj)) (s:Shared) (σ:St) (H:Hp) (E:Value->Shared->Prop),Inv X pins σ H s->(∀ b∈fp,FpOk X pins H b)->tn i s.heap->J.go i H ->
  wpAny (model P w) X.A (pyNext (.ref it)) (fun r s1=>∃ u,r=some u /\
   wpAny (model P w) X.A (letOwnedTupleGo tg (.ref it) u) (fun _ s2=>∃ x H',Inv X pins σ H' s2/\RelV x u/\J.yld i H x H'/\tn (i+1) s2.heap/\∀ b∈fp,H' b=none) E s1) E s
 done:∀(X:Cx),X.prog=P->X.w=w->X.K=K->X.calm=true->∀(i:Nat) (pins:List (Addr×Obj)) (s:Shared) (σ:St) (H:Hp) (E:Value->Shared->Prop),Inv X pins σ H s->(∀ b∈fp,FpOk X pins H b)->tn i s.heap->J.stop i H ->
  wpAny (model P w) X.A (pyNext (.ref it)) (fun r s1=>r=none/\Inv X pins σ H s1) E s
 self:∀(A:Around) (i:Nat) (s:Shared) (Q:Value->Shared->Prop) (E:Value->Shared->Prop),tn i s.heap->Q (.ref it) s->wpAny (model P w) A (pyIter (.ref it)) Q E s
abbrev TI:=St->Hp->(It->Hp->Prop)->Prop
def PIE (X:Cx) (pins:List (Addr×Obj)) (σ:St) (tg:Expr) (R:It->Hp->Prop) (itv:Value) (s2:Shared):Prop :=
 ∃(it:Addr) (fp:List Addr) (tn:Nat->Heap->Prop) (J:It) (H':Hp),itv=.ref it/\Inv X pins σ H' s2/\Turn X.prog X.w X.K tg J fp it tn/\tn 0 s2.heap/\(∀ b∈fp,FpOk X pins H' b)/\R J H'
def PI (X:Cx) (tg iter:Expr) (wi:TI):Prop :=
 ∀(pins:List (Addr×Obj)) (s:Shared) (σ:St) (H:Hp) (R:It->Hp->Prop),Inv X pins σ H s->wi σ H R ->
  wpAny (model X.prog X.w) X.A (eval iter X.env) (fun v s1=>wpAny (model X.prog X.w) X.A (pyIter v) (PIE X pins σ tg R) X.xe s1) X.xe s
theorem jea_ {M:Model} {A:Around} {E:Value->Shared->Prop} {s:Shared} {tg:Expr} {it:Addr} {u:Value} {o:Obj} {n:String} {vs:Array Value} {Q:Unit->Shared->Prop} (ho:s.heap.get? it=some o) (hc:o.cls=.type n) (hd:o.data=.fields vs)
  (hn:["enumerate","zip","dict_itemiterator","dict_reverseitemiterator","odict_iterator","itertools.zip_longest","itertools.pairwise"].contains n=false) (hQ:Q () s):wpAny M A (letOwnedTupleGo tg (.ref it) u) Q E s:=by
 unfold letOwnedTupleGo
 cases tg <;> first
  | exact wpAny_pure hQ
  | (cases u <;> first
    | exact wpAny_pure hQ
    | (refine wpAny_bind (wpAny_load ho ?_)
       rw[hc,hd]
       show wpAny M A (if (["enumerate","zip","dict_itemiterator","dict_reverseitemiterator","odict_iterator","itertools.zip_longest","itertools.pairwise"].contains n&&vs[0]? == some (rawInt _))=true then _ else _) Q E s
       rw[if_neg (by intro h;rw[hn,Bool.false_and] at h;cases h)]
       exact wpAny_pure hQ))
def Itl (K:pc_) (a:Addr):It :=
 ⟨fun i H=>∃ xs x,SqL K H a xs/\xs[i]?=some x,fun i H x H'=>H'=H/\∀ xs,SqL K H a xs->xs[i]?=some x,fun i H=>∃ xs,SqL K H a xs/\xs.length<=i⟩
def Itt (K:pc_) (a:Addr):It :=
 ⟨fun i H=>∃ xs x,SqT K H a xs/\xs[i]?=some x,fun i H x H'=>H'=H/\∀ xs,SqT K H a xs->xs[i]?=some x,fun i H=>∃ xs,SqT K H a xs/\xs.length<=i⟩
def Itr (lo:Int) (n:Nat):It:=⟨fun i _=>i < n,fun i H x H'=>H'=H/\x=.int (lo+i),fun i _=>n<=i⟩
theorem jiw_ {P:Program} {w:World} {K:pc_} {tg:Expr} (a it:Addr):Turn P w K tg (Itl K a) [it] it (fun i h=>h.IsListIter it a i) where
 mem:=by simp
 obj:=fun i h st b hb=>by
  have e:b=it:=by simpa using hb
  subst e
  obtain⟨o,e,c,d⟩:=st
  exact⟨o,e,fun v z=>by rw[d] at z;cases z⟩
 keep:=fun i h h' st k=>st.at fun o e=>k it (by simp) o e
 item:=by
  intro X hP hw hK hc i pins s σ H E I hf st hg
  subst hP hw hK
  obtain⟨xs,x,hq,hx⟩:=hg
  obtain⟨its,rv,p,hz⟩:=I.list hq
  obtain⟨u,hu,ru⟩:=rv.get hx
  obtain⟨f0,f1,f2,f3,f4,f5⟩:=hf it (by simp)
  refine wpAny_pyNext_list_item st p.isList (x:=u) (by simpa using hu) fun h' st' sb=>?_
  have I1:Inv X pins σ H { s with heap:=h' }:=I.turned (t':=s.toks) (fun b o hb e=>(sb.2 b hb).trans e) f0 f1 f3 f4 f5
  obtain⟨o,e,c,d⟩:=id st'
  exact⟨u,rfl,jea_ (s:={ s with heap:=h' }) e c d (by decide) ⟨x,H,I1,ru,⟨rfl,fun ys hy=>by rw[I.list_inj hy hq];exact hx⟩,st',fun b hb=>(hf b hb).1⟩⟩
 done:=by
  intro X hP hw hK hc i pins s σ H E I hf st hg
  subst hP hw hK
  obtain⟨xs,hq,hx⟩:=hg
  obtain⟨its,rv,p,hz⟩:=I.list hq
  obtain⟨f0,f1,f2,f3,f4,f5⟩:=hf it (by simp)
  have hl:=rv.length
  exact wpAny_pyNext_list_end (I.ok.hd hc) st p.isList (by simp;omega) fun h' eb=>⟨rfl,I.turned (t':=s.toks) (fun b o hb e=>eb b o hb e) f0 f1 f3 f4 f5⟩
 self:=fun _ _ _ _ _ st h=>wpAny_pyIter_listiter st h
theorem jfd_ {P:Program} {w:World} {K:pc_} {tg:Expr} (a it:Addr):Turn P w K tg (Itt K a) [it] it (fun i h=>h.IsTupleIter it a i) where
 mem:=by simp
 obj:=fun i h st b hb=>by
  have e:b=it:=by simpa using hb
  subst e
  obtain⟨o,e,c,d⟩:=st
  exact⟨o,e,fun v z=>by rw[d] at z;cases z⟩
 keep:=fun i h h' st k=>st.at fun o e=>k it (by simp) o e
 item:=by
  intro X hP hw hK hc i pins s σ H E I hf st hg
  subst hP hw hK
  obtain⟨xs,x,hq,hx⟩:=hg
  obtain⟨its,rv,p,hz⟩:=I.tuple hq
  obtain⟨u,hu,ru⟩:=rv.get hx
  obtain⟨f0,f1,f2,f3,f4,f5⟩:=hf it (by simp)
  refine wpAny_pyNext_tuple_item st (show s.heap.IsTuple a its.toArray from p) (x:=u) (by simpa using hu) fun h' st' sb=>?_
  have I1:Inv X pins σ H { s with heap:=h' }:=I.turned (t':=s.toks) (fun b o hb e=>(sb.2 b hb).trans e) f0 f1 f3 f4 f5
  obtain⟨o,e,c,d⟩:=id st'
  exact⟨u,rfl,jea_ (s:={ s with heap:=h' }) e c d (by decide) ⟨x,H,I1,ru,⟨rfl,fun ys hy=>by rw[I.tuple_inj hy hq];exact hx⟩,st',fun b hb=>(hf b hb).1⟩⟩
 done:=by
  intro X hP hw hK hc i pins s σ H E I hf st hg
  subst hP hw hK
  obtain⟨xs,hq,hx⟩:=hg
  obtain⟨its,rv,p,hz⟩:=I.tuple hq
  obtain⟨f0,f1,f2,f3,f4,f5⟩:=hf it (by simp)
  have hl:=rv.length
  exact wpAny_pyNext_tuple_end (I.ok.hd hc) st (show s.heap.IsTuple a its.toArray from p) (by simp;omega) fun h' eb=>⟨rfl,I.turned (t':=s.toks) (fun b o hb e=>eb b o hb e) f0 f1 f3 f4 f5⟩
 self:=fun _ _ _ _ _ st h=>wpAny_pyIter_tupleiter st h
theorem jfw_ {P:Program} {w:World} {K:pc_} {tg:Expr} (it:Addr) (lo:Int) (n:Nat):Turn P w K tg (Itr lo n) [it] it (fun i h=>IsRangeIter h it (lo+(i:Nat) * 1) ((n:Int) - (i:Nat)) 1) where
 mem:=by simp
 obj:=fun i h st b hb=>by
  have e:b=it:=by simpa using hb
  subst e
  exact⟨_,st,fun v z=>by
   have z':Data.fields _=Data.cell v:=z
   cases z'⟩
 keep:=fun i h h' st k=>k it (by simp) _ st
 item:=by
  intro X hP hw hK hc i pins s σ H E I hf st hg
  subst hP hw hK
  obtain⟨f0,f1,f2,f3,f4,f5⟩:=hf it (by simp)
  have W:=Walks.range (prog:=X.prog) (w:=X.w) (I.ok.hd hc) it lo 1 n
  refine W.item i s _ _ hg st fun v h' tk hv st' kk=>?_
  obtain⟨t,rfl⟩:=hv
  have I1:Inv X pins σ H { s with heap:=h',toks:=tk }:=I.turned (fun b o hb e=>kk b o (by simpa using hb) e) f0 f1 f3 f4 f5
  refine⟨_,rfl,jea_ (s:={ s with heap:=h',toks:=tk }) (n:="range_iterator") st' rfl rfl (by decide) ⟨.int (lo+i),H,I1,⟨t,?_⟩,⟨rfl,rfl⟩,st',fun b hb=>(hf b hb).1⟩⟩
  rw[Int.mul_one]
 done:=by
  intro X hP hw hK hc i pins s σ H E I hf st hg
  subst hP hw hK
  obtain⟨f0,f1,f2,f3,f4,f5⟩:=hf it (by simp)
  exact wpAny_pyNext_range_end (I.ok.hd hc) st (by have:n<=i:=hg;omega) fun h' eb=>⟨rfl,I.turned (t':=s.toks) (fun b o hb e=>eb b o hb e) f0 f1 f3 f4 f5⟩
 self:=fun _ _ _ _ _ st h=>wpAny_pyIter_rangeiter st h
end L2
namespace L2
open PySem PySem.Spec PyProof.Rows
section
variable {X:Cx} {tg:Expr}
theorem jex_ {pins:List (Addr×Obj)} {σ:St} {H:Hp} {s:Shared} {R:It->Hp->Prop} {E:Value->Shared->Prop} {lo hi:Int} {t u v:Tok} {tk:Nat} (I:Inv X pins σ H s) (h1:-(2 ^ 62)<=lo) (h2:lo < 2 ^ 62) (h3:-(2 ^ 62)<=hi) (h4:hi < 2 ^ 62)
  (q:R (Itr lo (hi - lo).toNat) H):wpAny (model X.prog X.w) X.A (pyIter (.ref s.heap.objs.size)) (PIE X pins σ tg R) E { s with heap:=s.heap.push { cls:=.type "range",data:=.fields #[.int lo t,.int hi u,.int 1 v] },toks:=tk }:=by
 refine wpAny_pyIter_range (IsRange.new ..) (small_one h1 h2 h3 h4) ?_
 have I1:Inv X pins σ H { s with heap:=s.heap.push { cls:=.type "range",data:=.fields #[.int lo t,.int hi u,.int 1 v] },toks:=tk }:=I.kept fun b o e=>pg_ _ e
 refine⟨(s.heap.push { cls:=.type "range",data:=.fields #[.int lo t,.int hi u,.int 1 v] }).objs.size,[(s.heap.push { cls:=.type "range",data:=.fields #[.int lo t,.int hi u,.int 1 v] }).objs.size],_,_,H,rfl,
  I1.kept (t':=tk) fun b o e=>pg_ _ e,jfw_ _ lo (hi - lo).toNat,?_,fun b hb=>?_,q⟩
 ·have e1:lo+((0:Nat):Int) * 1=lo:=by simp
  have e2:(((hi - lo).toNat:Nat):Int) - ((0:Nat):Int)=Builtin.Range.rangeSize lo hi 1:=by rw[rangeSize_one];split <;> omega
  show IsRangeIter _ _ (lo+((0:Nat):Int) * 1) ((((hi - lo).toNat:Nat):Int) - ((0:Nat):Int)) 1
  rw[e1,e2]
  exact py_ _ rfl
 ·have e:b=(s.heap.push { cls:=.type "range",data:=.fields #[.int lo t,.int hi u,.int 1 v] }).objs.size:=by simpa using hb
  subst e
  exact I1.fpOk (pk_ _) (I1.hok.fresh (pk_ _))
def jqq_ (ta:TA):TI:=fun σ H R=>ta σ H fun vs H1=>∃ j:Int,vs=[.int j]/\-(2 ^ 62)<=j/\j < 2 ^ 62/\R (Itr 0 j.toNat) H1
def jpr_ (ta:TA):TI:=fun σ H R=>ta σ H fun vs H1=>∃ i j:Int,vs=[.int i,.int j]/\(-(2 ^ 62)<=i/\i < 2 ^ 62/\-(2 ^ 62)<=j/\j < 2 ^ 62)/\R (Itr i (j - i).toNat) H1
theorem zb_ {a:Expr} {ta:TA} {p pos:Pos} (hg:Gl X "range") (hm:X.mg "range"=none) (ha:PA X [a] ta) (hs:starEach [a] X.env=[(false,eval a X.env)]:=by rfl):PI X tg (.Call (.Name "range" p) [a] [] pos) (jqq_ ta):=by
 intro pins s σ H R I h
 refine Call_ (v3_ I hg hm boot_range (sn_ (thn (ha pos pins s σ H _ I h) fun us s1 ⟨vs,H1,I1,r1,q1⟩=>?_) hs rfl))
 obtain⟨j,e,q1,q2,q⟩:=q1
 subst e
 cases r1 with
 | cons r rr =>
  cases rr
  obtain⟨t,rfl⟩:=r
  exact call_range_1 (jex_ I1 (by omega) (by omega) q1 q2 (by simpa using q))
theorem yx_ {a b:Expr} {ta:TA} {p pos:Pos} (hg:Gl X "range") (hm:X.mg "range"=none) (ha:PA X [a,b] ta) (hs:starEach [a,b] X.env=[(false,eval a X.env),(false,eval b X.env)]:=by rfl) (hs2:starEach [b] X.env=[(false,eval b X.env)]:=by rfl) :
  PI X tg (.Call (.Name "range" p) [a,b] [] pos) (jpr_ ta):=by
 intro pins s σ H R I h
 refine Call_ (v3_ I hg hm boot_range (sn_ (thn (ha pos pins s σ H _ I h) fun us s1 ⟨vs,H1,I1,r1,q1⟩=>?_) (by rw[hs,hs2]) (by rw[hs2];rfl)))
 obtain⟨i,j,e,⟨q1,q2,q3,q4⟩,q⟩:=q1
 subst e
 cases r1 with
 | cons r rr =>
  cases rr with
  | cons r' rr =>
   cases rr
   obtain⟨t,rfl⟩:=r
   obtain⟨t',rfl⟩:=r'
   exact call_range_2 (jex_ I1 q1 q2 q3 q4 q)
def tFor (wi:TI) (g:TG) (tb:TS):TS:=fun D σ H=>wi σ H fun J H1=>∃ W:Nat->Nat->St->Hp->Prop,(∃ m,W 0 m σ H1)/\∀ i m σ H,W i m σ H ->
 (J.stop i H/\D.nx σ H)∨(J.go i H/\∃ N:St->Hp->Prop,(∀ σ' H',N σ' H'->∃ m',m' < m/\W (i+1) m' σ' H')/\∀ x H',J.yld i H x H'->g x σ H' fun σ2 H2=>tb { D with nx:=N,ct:=N,bk:=D.nx } σ2 H2)
def jad_ (fp:List Addr) (h:Heap):List (Addr×Obj):=fp.filterMap fun b=>(h.get? b).map fun o=>(b,o)
theorem y4_ {fp:List Addr} {h:Heap} {b:Addr} {o:Obj} (hb:b∈fp) (e:h.get? b=some o):(b,o)∈jad_ fp h:=List.mem_filterMap.mpr ⟨b,hb,by rw[e];rfl⟩
theorem jip_ {fp:List Addr} {h:Heap} {p:Addr×Obj} (hp:p∈jad_ fp h):p.1∈fp/\h.get? p.1=some p.2:=by
 obtain⟨b,hb,e⟩:=List.mem_filterMap.mp hp
 cases q:h.get? b with
 | none=>rw[q] at e;cases e
 | some o =>
  rw[q] at e
  have e':(b,o)=p:=Option.some.inj e
  subst e'
  exact⟨hb,q⟩
theorem Inv.pinned {pins:List (Addr×Obj)} {σ:St} {H:Hp} {s:Shared} {fp:List Addr} (I:Inv X pins σ H s) (hf:∀ b∈fp,FpOk X pins H b) (ho:∀ b∈fp,∃ o,s.heap.get? b=some o/\∀ v,o.data≠.cell v):Inv X (pins++jad_ fp s.heap) σ H s :=
 I.pins_of fun p hp=>(pr_.mp hp).elim (fun z=>I.pin p (qo_ _ z)) fun z=>by
  obtain⟨hb,e⟩:=jip_ z
  obtain⟨f0,f1,f2,_⟩:=hf p.1 hb
  obtain⟨o,e',d⟩:=ho p.1 hb
  rw[e] at e';cases e'
  exact⟨e,f0,f1,f2,d⟩
theorem Inv.unpinned {pins pl:List (Addr×Obj)} {σ:St} {H:Hp} {s:Shared} (I:Inv X (pins++pl) σ H s):Inv X pins σ H s:=I.pins_of fun p hp=>I.pin p (qo_ _ (qq_ _ hp))
theorem zd_ {iter:Expr} {body:List Stmt} {wi:TI} {g:TG} {tb:TS} {pos:Pos} (hp:PassesOwn (model X.prog X.w) X.A X.env X.xe) (hc:X.calm=true) (hi:PI X tg iter wi) (hg:PG X tg g) (hb:PSs X body tb)
  (hs:∀ x,foldedSetIterable iter X.env x=pure x:=by intro _;rfl):PS X (.For tg iter body [] pos) (tFor wi g tb):=by
 intro pins s σ H D I h
 refine wpAny_For (thn (hi pins s σ H _ I h) fun v s1 h1=>thn h1 fun itv s2 h2=>?_) hs
 obtain⟨it,fp,tn,J,H2,e,I2,T,st2,f2,W,⟨m0,w0⟩,turn⟩:=h2
 subst e
 -- what stays true of the iterator's objects through the loop
 have stat:∀{H':Hp},(∀ b∈fp,H' b=none)->∀ b∈fp,FpOk X pins H' b:=fun hn b hb=>⟨hn b hb,(f2 b hb).2⟩
 refine codeAny_forLoop_any (fun n s'=>∃ i σ' H',Inv X pins σ' H' s'/\tn i s'.heap/\(∀ b∈fp,H' b=none)/\W i n σ' H') ?_ m0 ⟨0,σ,H2,I2,st2,fun b hb=>(f2 b hb).1,w0⟩
 rintro n s3 ⟨i,σ3,H3,I3,st3,fr3,w3⟩
 rcases turn i n σ3 H3 w3 with ⟨stop,qn⟩ | ⟨go,N,hN,step⟩
 ·refine wpAny_passesOwn hp (thn (T.done X rfl rfl rfl hc i pins s3 σ3 H3 X.xe I3 (stat fr3) st3 stop) fun r s4 ⟨hr,I4⟩=>?_)
  subst hr
  exact wpAny_execs_nil ⟨σ3,H3,I4,qn⟩
 ·refine wpAny_passesOwn hp (thn (T.item X rfl rfl rfl hc i pins s3 σ3 H3 X.xe I3 (stat fr3) st3 go) fun r s4 ⟨u,hr,h4⟩=>?_)
  subst hr
  refine wpAny_passesOwn hp (thn h4 fun _ s5 ⟨x,H5,I5,r5,y5,st5,fr5⟩=>?_)
  have I5':=I5.pinned (stat fr5) (T.obj _ _ st5)
  refine wpAny_passesOwn hp (thn (hg _ s5 σ3 H5 x u _ I5' r5 (step x H5 y5)) fun _ s6 ⟨σ6,H6,I6,q6⟩=>?_)
  refine wpAny_passesOwn hp (thn (hb _ s6 σ6 H6 _ I6 q6) fun f s7 q7=>?_)
  have again:∀{σ7:St} {H7:Hp},Inv X (pins++jad_ fp s5.heap) σ7 H7 s7->N σ7 H7->∃ m,m < n/\∃ i σ' H',Inv X pins σ' H' s7/\tn i s7.heap/\(∀ b∈fp,H' b=none)/\W i m σ' H':=fun{σ7 H7} I7 n7=>by
   obtain⟨m',hm,w7⟩:=hN σ7 H7 n7
   refine⟨m',hm,i+1,σ7,H7,I7.unpinned,T.keep _ _ _ st5 fun b hb o e=>(I7.pin (b,o) (qo_ _ (qo_ _ (y4_ hb e)))).1,fun b hb=>?_,w7⟩
   obtain⟨o,e,d⟩:=T.obj _ _ st5 b hb
   exact(I7.pin (b,o) (qo_ _ (qo_ _ (y4_ hb e)))).2.1
  cases f with
  | next=>obtain⟨σ7,H7,I7,n7⟩:=q7;exact again I7 n7
  | cont=>obtain⟨σ7,H7,I7,n7⟩:=q7;exact again I7 n7
  | brk=>obtain⟨σ7,H7,I7,q7⟩:=q7;exact⟨σ7,H7,I7.unpinned,q7⟩
  | ret v=>obtain⟨x7,σ7,H7,I7,r7,q7⟩:=q7;exact⟨x7,σ7,H7,I7.unpinned,r7,q7⟩
end
theorem zz_ {K:pc_} {a:Addr} {xs:List V} {g:TG} {tb:TS} {D:Ends} {σ:St} {H:Hp} (Pv:Nat->St->Hp->Prop) (h0:Pv 0 σ H) (hl:∀ i σ H,i<=xs.length->Pv i σ H->SqL K H a xs)
  (hs:∀ i x σ H,xs[i]?=some x->Pv i σ H->g x σ H fun σ2 H2=>tb { D with nx:=Pv (i+1),ct:=Pv (i+1),bk:=D.nx } σ2 H2) (hd:∀ σ H,Pv xs.length σ H->D.nx σ H) :
  ∃ W:Nat->Nat->St->Hp->Prop,(∃ m,W 0 m σ H)/\∀ i m σ H,W i m σ H ->
   ((Itl K a).stop i H/\D.nx σ H)∨((Itl K a).go i H/\∃ N:St->Hp->Prop,(∀ σ' H',N σ' H'->∃ m',m' < m/\W (i+1) m' σ' H')/\∀ x H',(Itl K a).yld i H x H'->g x σ H' fun σ2 H2=>tb { D with nx:=N,ct:=N,bk:=D.nx } σ2 H2):=by
 refine⟨fun i m σ H=>m=xs.length - i/\i<=xs.length/\Pv i σ H,⟨xs.length,by simp,qz_ _,h0⟩,?_⟩
 rintro i m σ H ⟨rfl,hi,p⟩
 have q:=hl i σ H hi p
 by_cases hlt:i < xs.length
 ·refine .inr ⟨⟨xs,xs[i],q,by simp[hlt]⟩,Pv (i+1),fun σ' H' p'=>⟨xs.length - (i+1),by omega,rfl,hlt,p'⟩,fun x H' y=>?_⟩
  obtain⟨e,y⟩:=y
  subst e
  exact hs i x σ _ (y xs q) p
 ·have e:i=xs.length:=by omega
  subst e
  exact .inl ⟨⟨xs,q,pk_ _⟩,hd σ H p⟩
theorem za_ {lo:Int} {n:Nat} {g:TG} {tb:TS} {D:Ends} {σ:St} {H:Hp} (Pv:Nat->St->Hp->Prop) (h0:Pv 0 σ H)
  (hs:∀ i σ H,i < n->Pv i σ H->g (.int (lo+i)) σ H fun σ2 H2=>tb { D with nx:=Pv (i+1),ct:=Pv (i+1),bk:=D.nx } σ2 H2) (hd:∀ σ H,Pv n σ H->D.nx σ H) :
  ∃ W:Nat->Nat->St->Hp->Prop,(∃ m,W 0 m σ H)/\∀ i m σ H,W i m σ H ->
   ((Itr lo n).stop i H/\D.nx σ H)∨((Itr lo n).go i H/\∃ N:St->Hp->Prop,(∀ σ' H',N σ' H'->∃ m',m' < m/\W (i+1) m' σ' H')/\∀ x H',(Itr lo n).yld i H x H'->g x σ H' fun σ2 H2=>tb { D with nx:=N,ct:=N,bk:=D.nx } σ2 H2):=by
 refine⟨fun i m σ H=>m=n - i/\i<=n/\Pv i σ H,⟨n,by simp,qz_ _,h0⟩,?_⟩
 rintro i m σ H ⟨rfl,hi,p⟩
 by_cases hlt:i < n
 ·refine .inr ⟨hlt,Pv (i+1),fun σ' H' p'=>⟨n - (i+1),by omega,rfl,hlt,p'⟩,fun x H' y=>?_⟩
  obtain⟨e,y⟩:=y
  subst e y
  exact hs i σ _ hlt p
 ·have e:i=n:=by omega
  subst e
  exact .inl ⟨pk_ _,hd σ H p⟩
end L2
namespace L2
open PySem PySem.Spec PyProof.Rows
abbrev R2:=V->V->Hp->VK->Prop
def OpR (X:Cx) (f:Value->Value->Sem Value) (r:R2):Prop :=
 ∀(pins:List (Addr×Obj)) (s:Shared) (σ:St) (H:Hp) (x y:V) (v u:Value) (Q:VK),Inv X pins σ H s->RelV x v->RelV y u->r x y H Q ->
  wpAny (model X.prog X.w) X.A (f v u) (EP X pins σ Q) X.xe s
def UnR (X:Cx) (f:Value->Sem Value) (r:V->Hp->VK->Prop):Prop :=
 ∀(pins:List (Addr×Obj)) (s:Shared) (σ:St) (H:Hp) (x:V) (v:Value) (Q:VK),Inv X pins σ H s->RelV x v->r x H Q ->
  wpAny (model X.prog X.w) X.A (f v) (EP X pins σ Q) X.xe s
def CallR (X:Cx) (f:Value) (r:List V->Hp->VK->Prop):Prop :=
 ∀(pins:List (Addr×Obj)) (s:Shared) (σ:St) (H:Hp) (xs:List V) (us:List Value) (Q:VK),Inv X pins σ H s->Vals xs us->r xs H Q ->
  wpAny (model X.prog X.w) X.A (call f us) (EP X pins σ Q) X.xe s
def TruR (X:Cx) (r:V->Hp->(Bool->Hp->Prop)->Prop):Prop :=
 ∀(pins:List (Addr×Obj)) (s:Shared) (σ:St) (H:Hp) (x:V) (v:Value) (Q:Bool->Hp->Prop),Inv X pins σ H s->RelV x v->r x H Q ->
  wpAny (model X.prog X.w) X.A (truthy v) (TP X pins σ Q) X.xe s
def tOp (r:R2) (ta tb:TE):TE:=fun σ H Q=>ta σ H fun x H1=>tb σ H1 fun y H2=>r x y H2 Q
def tUn (r:V->Hp->VK->Prop) (ta:TE):TE:=fun σ H Q=>ta σ H fun x H1=>r x H1 Q
def rI (C:Int->Int->Prop) (g:Int->Int->V):R2:=fun x y H Q=>∃ i j,x=.int i/\y=.int j/\C i j/\Q (g i j) H
def rI0 (g:Int->Int->V):R2:=fun x y H Q=>∃ i j,x=.int i/\y=.int j/\Q (g i j) H
def rU (g:Int->V):V->Hp->VK->Prop:=fun x H Q=>∃ i,x=.int i/\Q (g i) H
section
variable {X:Cx} {a b c:Expr} {ta tb tc:TE} {pos:Pos}
theorem binT (ha:PE X a ta) (hb:PE X b tb) {pins:List (Addr×Obj)} {s:Shared} {σ:St} {H:Hp} {R:V->V->Hp->Prop} (I:Inv X pins σ H s)
  (h:ta σ H fun x H1=>tb σ H1 fun y H2=>R x y H2) {Q:Value->Shared->Prop} {f:Value->Value->Sem Value}
  (hf:∀ v u s2 x y H2,Inv X pins σ H2 s2->RelV x v->RelV y u->R x y H2->wpAny (model X.prog X.w) X.A (f v u) Q X.xe s2) :
  wpAny (model X.prog X.w) X.A (eval a X.env) (fun v s₁=>wpAny (model X.prog X.w) X.A (eval b X.env) (fun u s₂=>wpAny (model X.prog X.w) X.A (f v u) Q X.xe s₂) X.xe s₁) X.xe s:=by
 refine thn (ha pins s σ H _ I h) fun v s1 ⟨x,H1,I1,r1,q1⟩=>?_
 refine thn (hb pins s1 σ H1 _ I1 q1) fun u s2 ⟨y,H2,I2,r2,q2⟩=>?_
 exact hf v u s2 x y H2 I2 r1 r2 q2
theorem ji_ {op:Operator} {r:R2} (ho:OpR X (binaryOp op) r) (ha:PE X a ta) (hb:PE X b tb):PE X (.BinOp a op b pos) (tOp r ta tb):=by
 intro pins s σ H Q I h
 exact wpAny_BinOp (binT ha hb I h fun v u s2 x y H2 I2 rx ry q=>ho pins s2 σ H2 x y v u Q I2 rx ry q)
theorem jpu_ {op:UnaryOp} {r:V->Hp->VK->Prop} (ho:UnR X (unaryOp op) r) (ha:PE X a ta):PE X (.UnaryOp op a pos) (tUn r ta):=by
 intro pins s σ H Q I h
 exact UnaryOp_ (thn (ha pins s σ H _ I h) fun v s1 ⟨x,H1,I1,r1,q1⟩=>ho pins s1 σ H1 x v Q I1 r1 q1)
theorem opI {f:Value->Value->Sem Value} {C:Int->Int->Prop} {g:Int->Int->Int}
  (rule:∀(i j:Int) (t u:Tok) (s:Shared) (Q:Value->Shared->Prop) (E:Value->Shared->Prop),C i j->Q (.int (g i j) s.toks) { s with toks:=s.toks+1 }->wpAny (model X.prog X.w) X.A (f (.int i t) (.int j u)) Q E s) :
  OpR X f (rI C fun i j=>.int (g i j)):=by
 intro pins s σ H x y v u Q I rx ry h
 obtain⟨i,j,rfl,rfl,hc,q⟩:=h
 obtain⟨t,rfl⟩:=rx
 obtain⟨t',rfl⟩:=ry
 exact rule i j t t' s _ _ hc ⟨.int (g i j),H,I.tok _,⟨_,rfl⟩,q⟩
theorem opI0 {f:Value->Value->Sem Value} {g:Int->Int->Int}
  (rule:∀(i j:Int) (t u:Tok) (s:Shared) (Q:Value->Shared->Prop) (E:Value->Shared->Prop),Q (.int (g i j) s.toks) { s with toks:=s.toks+1 }->wpAny (model X.prog X.w) X.A (f (.int i t) (.int j u)) Q E s) :
  OpR X f (rI0 fun i j=>.int (g i j)):=by
 intro pins s σ H x y v u Q I rx ry h
 obtain⟨i,j,rfl,rfl,q⟩:=h
 obtain⟨t,rfl⟩:=rx
 obtain⟨t',rfl⟩:=ry
 exact rule i j t t' s _ _ ⟨.int (g i j),H,I.tok _,⟨_,rfl⟩,q⟩
theorem opB0 {f:Value->Value->Sem Value} {g:Int->Int->Bool}
  (rule:∀(i j:Int) (t u:Tok) (s:Shared) (Q:Value->Shared->Prop) (E:Value->Shared->Prop),Q (.bool (g i j)) s->wpAny (model X.prog X.w) X.A (f (.int i t) (.int j u)) Q E s) :
  OpR X f (rI0 fun i j=>.bl (g i j)):=by
 intro pins s σ H x y v u Q I rx ry h
 obtain⟨i,j,rfl,rfl,q⟩:=h
 obtain⟨t,rfl⟩:=rx
 obtain⟨t',rfl⟩:=ry
 exact rule i j t t' s _ _ ⟨.bl (g i j),H,I,rfl,q⟩
def CDiv (i j:Int):Prop:=0 < j/\j < 1073741824
def CPow (i j:Int):Prop:=0<=j/\j<=1000000/\i.natAbs < 2 ^ 64
def CMul (i j:Int):Prop:=(-(2 ^ 64) < i/\i < 2 ^ 64)∨(-(2 ^ 64) < j/\j < 2 ^ 64)
theorem CMul.ok {i j:Int} (h:CMul i j):IntMulOk i j:=by
 rcases h with ⟨h1,h2⟩ | ⟨h1,h2⟩
 ·exact .of_left (intBits_le_64 h1 h2)
 ·exact .of_right (intBits_le_64 h1 h2)
theorem jqx_:OpR X (binaryOp .Add) (rI0 fun i j=>.int (i+j)):=opI0 fun _ _ _ _ _ _ _ q=>add_int q
theorem op_sub:OpR X (binaryOp .Sub) (rI0 fun i j=>.int (i - j)):=opI0 fun _ _ _ _ _ _ _ q=>sub_int q
theorem jsm_:OpR X (binaryOp .Mult) (rI CMul fun i j=>.int (i * j)):=opI fun _ _ _ _ _ _ _ hc q=>mul_int q hc.ok
theorem op_fdiv:OpR X (binaryOp .FloorDiv) (rI CDiv fun i j=>.int (i / j)):=opI fun i j _ _ _ _ _ hc q=>by
 have h1:(0:Int) < j:=hc.1
 have h2:j < 1073741824:=hc.2
 exact floordiv_int (by omega) (by rw[Int.fdiv_eq_ediv_of_nonneg i (by omega)];exact q) (.inl (PyProof.noPylong_small (by omega)))
theorem op_mod:OpR X (binaryOp .Mod) (rI (fun _ j=>0 < j) fun i j=>.int (i % j)):=opI fun i j _ _ _ _ _ hc q=>by
 have h1:(0:Int) < j:=hc
 exact mod_int' (by omega) (by rw[Int.fmod_eq_emod_of_nonneg i (by omega)];exact q)
theorem op_pow:OpR X (binaryOp .Pow) (rI CPow fun i j=>.int (i ^ j.toNat)):=opI fun _ _ _ _ _ _ _ hc q=>pow_int_small hc.1 hc.2.1 hc.2.2 q
theorem unI {f:Value->Sem Value} {g:Int->Int}
  (rule:∀(i:Int) (t:Tok) (s:Shared) (Q:Value->Shared->Prop) (E:Value->Shared->Prop),Q (.int (g i) s.toks) { s with toks:=s.toks+1 }->wpAny (model X.prog X.w) X.A (f (.int i t)) Q E s) :
  UnR X f (rU fun i=>.int (g i)):=by
 intro pins s σ H x v Q I rx h
 obtain⟨i,rfl,q⟩:=h
 obtain⟨t,rfl⟩:=rx
 exact rule i t s _ _ ⟨.int (g i),H,I.tok _,⟨_,rfl⟩,q⟩
theorem jsv_:UnR X (unaryOp .USub) (rU fun i=>.int (-i)):=unI fun _ _ _ _ _ q=>neg_int q
end
def scal:V->V->Bool
 | .non,.non=>true | .non,.int _=>true | .int _,.non=>true | .non,.bl _=>true | .bl _,.non=>true | .non,.str _=>true | .str _,.non=>true
 | .int _,.int _=>true | .bl _,.bl _=>true | .str _,.str _=>true | .byt _,.byt _=>true
 | .int _,.str _=>true | .str _,.int _=>true | .bl _,.str _=>true | .str _,.bl _=>true
 | _,_=>false
def rEq:R2:=fun x y H Q=>scal x y=true/\Q (.bl (decide (x=y))) H
def rNe:R2:=fun x y H Q=>scal x y=true/\Q (.bl (!decide (x=y))) H
theorem jii_ {i j:Int}:decide (V.int i=V.int j)=(i == j):=by
 rw[t3_]
 simp
theorem jmq_ {i j:Bool}:decide (V.bl i=V.bl j)=(i == j):=by
 rw[t3_]
 simp
theorem jhn_ {i j:Str}:decide (V.str i=V.str j)=(i == j):=by
 rw[t3_]
 simp
theorem jhq_ {i j:Array UInt8}:decide (V.byt i=V.byt j)=(i.toList == j.toList):=by
 rw[t3_]
 cases i
 cases j
 simp
section
variable {X:Cx} {a b c:Expr} {ta tb tc:TE} {pos:Pos}
theorem jt_ {pins:List (Addr×Obj)} {σ:St} {H:Hp} {s:Shared} {Q:VK} {k k':Bool} (I:Inv X pins σ H s) (q:Q (.bl k) H) (e:k=k'):EP X pins σ Q (.bool k') s:=by
 subst e
 exact⟨.bl k,H,I,rfl,q⟩
theorem jtp_:OpR X (compareOp .Eq) rEq:=by
 intro pins s σ H x y v u Q I rx ry h
 obtain⟨hs,q⟩:=h
 cases x with
 | non =>
  cases rx
  cases y with
  | non=>cases ry;exact PySem.EqNone.eq_none_none (jt_ I q (by simp))
  | bl j=>cases ry;exact PySem.EqNone.eq_none_bool (jt_ I q (by simp))
  | int j=>obtain⟨t',rfl⟩:=ry;exact PySem.EqNone.eq_none_int (jt_ I q (by simp))
  | str j=>obtain⟨t',rfl⟩:=ry;exact PySem.EqNone.eq_none_str (jt_ I q (by simp))
  | _=>exact absurd (show false=true from hs) pf_
 | bl i =>
  cases rx
  cases y with
  | non=>cases ry;exact PySem.EqNone.eq_bool_none (jt_ I q (by simp))
  | bl j=>cases ry;exact eq_bool (jt_ I q jmq_)
  | str j=>obtain⟨t',rfl⟩:=ry;exact PySem.EqMixed.eq_bool_str (jt_ I q (by simp))
  | _=>exact absurd (show false=true from hs) pf_
 | int i =>
  obtain⟨t,rfl⟩:=rx
  cases y with
  | non=>cases ry;exact PySem.EqNone.eq_int_none (jt_ I q (by simp))
  | int j=>obtain⟨t',rfl⟩:=ry;exact eq_int (jt_ I q jii_)
  | str j=>obtain⟨t',rfl⟩:=ry;exact PySem.EqMixed.eq_int_str (jt_ I q (by simp))
  | _=>exact absurd (show false=true from hs) pf_
 | str i =>
  obtain⟨t,rfl⟩:=rx
  cases y with
  | non=>cases ry;exact PySem.EqNone.eq_str_none (jt_ I q (by simp))
  | bl j=>cases ry;exact PySem.EqMixed.eq_str_bool (jt_ I q (by simp))
  | int j=>obtain⟨t',rfl⟩:=ry;exact PySem.EqMixed.eq_str_int (jt_ I q (by simp))
  | str j=>obtain⟨t',rfl⟩:=ry;exact eq_str (jt_ I q jhn_)
  | _=>exact absurd (show false=true from hs) pf_
 | byt i =>
  obtain⟨t,rfl⟩:=rx
  cases y with
  | byt j=>obtain⟨t',rfl⟩:=ry;exact PySem.W.eq_bytes (jt_ I q jhq_)
  | _=>exact absurd (show false=true from hs) pf_
 | _=>cases y <;> exact absurd (show false=true from hs) pf_
theorem jtw_:OpR X (compareOp .NotEq) rNe:=by
 intro pins s σ H x y v u Q I rx ry h
 obtain⟨hs,q⟩:=h
 cases x with
 | non =>
  cases rx
  cases y with
  | non=>cases ry;exact PySem.EqNone.ne_none_none (jt_ I q (by simp))
  | bl j=>cases ry;exact PySem.EqNone.ne_none_bool (jt_ I q (by simp))
  | int j=>obtain⟨t',rfl⟩:=ry;exact PySem.EqNone.ne_none_int (jt_ I q (by simp))
  | str j=>obtain⟨t',rfl⟩:=ry;exact PySem.EqNone.ne_none_str (jt_ I q (by simp))
  | _=>exact absurd (show false=true from hs) pf_
 | bl i =>
  cases rx
  cases y with
  | non=>cases ry;exact PySem.EqNone.ne_bool_none (jt_ I q (by simp))
  | bl j=>cases ry;exact ne_bool (jt_ I q (congrArg not jmq_))
  | str j=>obtain⟨t',rfl⟩:=ry;exact PySem.EqMixed.ne_bool_str (jt_ I q (by simp))
  | _=>exact absurd (show false=true from hs) pf_
 | int i =>
  obtain⟨t,rfl⟩:=rx
  cases y with
  | non=>cases ry;exact PySem.EqNone.ne_int_none (jt_ I q (by simp))
  | int j=>obtain⟨t',rfl⟩:=ry;exact ne_int (jt_ I q (congrArg not jii_))
  | str j=>obtain⟨t',rfl⟩:=ry;exact PySem.EqMixed.ne_int_str (jt_ I q (by simp))
  | _=>exact absurd (show false=true from hs) pf_
 | str i =>
  obtain⟨t,rfl⟩:=rx
  cases y with
  | non=>cases ry;exact PySem.EqNone.ne_str_none (jt_ I q (by simp))
  | bl j=>cases ry;exact PySem.EqMixed.ne_str_bool (jt_ I q (by simp))
  | int j=>obtain⟨t',rfl⟩:=ry;exact PySem.EqMixed.ne_str_int (jt_ I q (by simp))
  | str j=>obtain⟨t',rfl⟩:=ry;exact ne_str (jt_ I q (congrArg not jhn_))
  | _=>exact absurd (show false=true from hs) pf_
 | byt i =>
  obtain⟨t,rfl⟩:=rx
  cases y with
  | byt j=>obtain⟨t',rfl⟩:=ry;exact PySem.W.ne_bytes (jt_ I q (congrArg not jhq_))
  | _=>exact absurd (show false=true from hs) pf_
 | _=>cases y <;> exact absurd (show false=true from hs) pf_
theorem op_lt:OpR X (compareOp .Lt) (rI0 fun i j=>.bl (decide (i < j))):=opB0 fun _ _ _ _ _ _ _ q=>lt_int q
theorem op_le:OpR X (compareOp .LtE) (rI0 fun i j=>.bl (decide (i<=j))):=opB0 fun _ _ _ _ _ _ _ q=>le_int q
theorem op_gt:OpR X (compareOp .Gt) (rI0 fun i j=>.bl (decide (j < i))):=opB0 fun _ _ _ _ _ _ _ q=>gt_int q
theorem op_ge:OpR X (compareOp .GtE) (rI0 fun i j=>.bl (decide (j<=i))):=opB0 fun _ _ _ _ _ _ _ q=>ge_int q
theorem jit_:OpR X (compareOp .In) (fun x y H Q=>∃ i j,x=.str i/\y=.str j/\Q (.bl (!(s7_ j i 0 j.length 1).isEmpty)) H):=by
 intro pins s σ H x y v u Q I rx ry h
 obtain⟨i,j,rfl,rfl,q⟩:=h
 obtain⟨t,rfl⟩:=rx
 obtain⟨t',rfl⟩:=ry
 exact in_str (jt_ I q rfl)
theorem jrn_:OpR X (compareOp .Is) (fun x y H Q=>y=.non/\Q (.bl (decide (x=.non))) H):=by
 intro pins s σ H x y v u Q I rx ry h
 obtain⟨rfl,q⟩:=h
 cases ry
 refine is_none_gen (jt_ I q ?_)
 cases x <;> first
  | (cases rx;rfl)
  | (obtain⟨t,rfl⟩:=rx;rfl)
theorem jpq_:OpR X (compareOp .IsNot) (fun x y H Q=>y=.non/\Q (.bl (!decide (x=.non))) H):=by
 intro pins s σ H x y v u Q I rx ry h
 obtain⟨rfl,q⟩:=h
 cases ry
 refine isnot_none_gen (jt_ I q ?_)
 cases x <;> first
  | (cases rx;rfl)
  | (obtain⟨t,rfl⟩:=rx;rfl)
theorem jcj_:OpR X (compareOp .NotIn) (fun x y H Q=>∃ i j,x=.str i/\y=.str j/\Q (.bl (!(!(s7_ j i 0 j.length 1).isEmpty))) H):=by
 intro pins s σ H x y v u Q I rx ry h
 obtain⟨i,j,rfl,rfl,q⟩:=h
 obtain⟨t,rfl⟩:=rx
 obtain⟨t',rfl⟩:=ry
 exact notIn_str (jt_ I q rfl)
theorem j3_ (b:Expr) {op:CmpOp} (h:op≠.In:=by decide) (h2:op≠.NotIn:=by decide):behindInMarks op b=false:=by
 have e1:(op == CmpOp.In)=false:=by cases op <;> first | rfl | exact absurd rfl h
 have e2:(op == CmpOp.NotIn)=false:=by cases op <;> first | rfl | exact absurd rfl h2
 cases b <;> simp[behindInMarks,e1,e2]
theorem zh_ {op:CmpOp} {r:R2} (ho:OpR X (compareOp op) r) (ha:PE X a ta) (hb:PE X b tb) (hm:behindInMarks op b=false):PE X (.Compare a [op] [b] pos) (tOp r ta tb):=by
 intro pins s σ H Q I h
 exact wpAny_Compare1 (binT ha hb I h fun v u s2 x y H2 I2 rx ry q=>ho pins s2 σ H2 x y v u Q I2 rx ry q) hm
def jnd_ (t:TE):TT:=fun σ H Q=>t σ H fun x H'=>∃ k,x=.bl k/\Q k H'
theorem zi_ {op:CmpOp} {r:R2} (ho:OpR X (compareOp op) r) (ha:PE X a ta) (hb:PE X b tb) (hm:behindInMarks op b=false):PT X (.Compare a [op] [b] pos) (jnd_ (tOp r ta tb)):=by
 intro pins s σ H Q I h
 refine wpAny_isTrue_Compare1 (thn (ha pins s σ H _ I h) fun v s1 ⟨x,H1,I1,r1,q1⟩=>thn (hb pins s1 σ H1 _ I1 q1) fun u s2 ⟨y,H2,I2,r2,q2⟩ =>
  thn (ho pins s2 σ H2 x y v u _ I2 r1 r2 q2) fun c s3 ⟨z,H3,I3,r3,k,e,q3⟩=>?_) hm
 subst e
 cases r3
 exact wpAny_truthy_bool ⟨H3,I3,q3⟩
def jkk_ (r r':R2) (ta tb tc:TE):TE:=fun σ H Q=>ta σ H fun x H1=>tb σ H1 fun y H2=>r x y H2 fun z H3=>∃ k,z=.bl k /\
 (if k=true then tc σ H3 fun w' H4=>r' y w' H4 Q else Q (.bl false) H3)
theorem jmi_ {op op':CmpOp} {r r':R2} (ho:OpR X (compareOp op) r) (ho':OpR X (compareOp op') r') (ha:PE X a ta) (hb:PE X b tb) (hc:PE X c tc)
  (hm:lastMarks [op,op'] [b,c]=false:=by with_unfolding_all rfl):PT X (.Compare a [op,op'] [b,c] pos) (jnd_ (jkk_ r r' ta tb tc)):=by
 intro pins s σ H Q I h
 refine isTrue_chain (thn (ha pins s σ H _ I h) fun v s1 ⟨x,H1,I1,r1,q1⟩=>test_link (thn (hb pins s1 σ H1 _ I1 q1) fun u s2 ⟨y,H2,I2,r2,q2⟩ =>
  thn (ho pins s2 σ H2 x y v u _ I2 r1 r2 q2) fun d s3 ⟨z,H3,I3,r3,k,e,q3⟩=>?_)) hm
 subst e
 cases r3
 refine wpAny_truthy_bool ?_
 cases k with
 | false =>
  obtain⟨k',e',q'⟩:=q3
  cases e'
  exact ite_ff ⟨H3,I3,q'⟩
 | true =>
  refine ite_tt (test_last (thn (hc pins s3 σ H3 _ I3 q3) fun w' s4 ⟨z',H4,I4,r4,q4⟩=>thn (ho' pins s4 σ H4 y z' u w' _ I4 r2 r4 q4) fun d' s5 ⟨z2,H5,I5,r5,k2,e2,q5⟩=>?_))
  subst e2
  cases r5
  exact wpAny_truthy_bool ⟨H5,I5,q5⟩
def TruV (K:pc_) (x:V) (H:Hp) (k:Bool):Prop :=
 match x with
 | .non=>k=false
 | .bl b=>k=b
 | .int i=>k=(i != 0)
 | .str y=>y.length<=sizeLine/\k=((y.length:Int) != 0)
 | .byt y=>y.size<=sizeLine/\k=((y.size:Int) != 0)
 | .ref p=>(∃ xs,SqL K H p xs/\k=!xs.isEmpty)∨(∃ xs,SqT K H p xs/\k=!xs.isEmpty)∨∃ kvs,H p=some (.dK kvs)/\k=!kvs.isEmpty
 | _=>False
theorem jfl_ {κ:Type} {kvs:List (κ×V)} {vs:List (κ×Value)} (r:KV kvs vs):(!vs.isEmpty)=!kvs.isEmpty:=by
 cases r <;> rfl
theorem jan_ {xs:List V} {its:List Value} (r:Vals xs its):(!its.toArray.isEmpty)=!xs.isEmpty:=by
 cases r <;> simp
theorem x6_:(sizeLine:Nat) < 2 ^ 63:=by rw[sizeLine_eq];decide
theorem jsp_:TruR X (fun x H Q=>∃ k,TruV X.K x H k/\Q k H):=by
 intro pins s σ H x v Q I rx h
 obtain⟨k,e,q⟩:=h
 have hl:=x6_
 have hs:sizeLine=16777216:=sizeLine_eq
 cases x with
 | non =>
  cases rx
  have e':k=false:=e
  subst e'
  exact truthy_none ⟨H,I,q⟩
 | bl b =>
  cases rx
  have e':k=b:=e
  subst e'
  exact wpAny_truthy_bool ⟨H,I,q⟩
 | int i =>
  obtain⟨t,rfl⟩:=rx
  have e':k=(i != 0):=e
  subst e'
  exact PySem.P.truthy_int ⟨H,I,q⟩
 | str y =>
  obtain⟨t,rfl⟩:=rx
  obtain⟨hy,e'⟩:y.length<=sizeLine/\k=((y.length:Int) != 0):=e
  subst e'
  exact PySem.P.truthy_str (by omega) ⟨H,I.tok _,q⟩
 | byt y =>
  obtain⟨t,rfl⟩:=rx
  obtain⟨hy,e'⟩:y.size<=sizeLine/\k=((y.size:Int) != 0):=e
  subst e'
  exact PySem.W.truthy_bytes (by omega) ⟨H,I.tok _,q⟩
 | ref p =>
  cases rx
  have e':(∃ xs,SqL X.K H p xs/\k=!xs.isEmpty)∨(∃ xs,SqT X.K H p xs/\k=!xs.isEmpty)∨∃ kvs,H p=some (.dK kvs)/\k=!kvs.isEmpty:=e
  rcases e' with ⟨xs,hx,e'⟩ | ⟨xs,hx,e'⟩ | ⟨kvs,hx,e'⟩
  ·subst e'
   obtain⟨its,r,pl,hz⟩:=I.list hx
   have hlen:=r.length
   exact wpAny_truthy_list pl.isList (by simp only[pj_];omega) ⟨H,I.tok _,by rw[jan_ r];exact q⟩
  ·subst e'
   obtain⟨its,r,pl,hz⟩:=I.tuple hx
   have hlen:=r.length
   exact truthy_tuple pl (by simp only[pj_];omega) ⟨H,I.tok _,by rw[jan_ r];exact q⟩
  ·subst e'
   obtain⟨hz,hS,vs,r,m⟩:kvs.length<=sizeLine/\(p == sysModules)=false/\∃ vs,KV kvs vs/\s.heap.DictOf (jw_ X.prog X.w) p vs:=I.hok p _ hx
   have hlen:kvs.length=vs.length:=wu_ r
   exact wpAny_truthy_dict hS m (by omega) ⟨H,I.tok _,by rw[jfl_ r];exact q⟩
 | _=>exact(show False from e).elim
theorem jga_:OpR X (binaryOp .Add) (fun x y H Q=>∃ i j,x=.str i/\y=.str j/\i.length+j.length<=sizeLine/\Q (.str (i++j)) H):=by
 intro pins s σ H x y v u Q I rx ry h
 obtain⟨i,j,rfl,rfl,hz,q⟩:=h
 obtain⟨t,rfl⟩:=rx
 obtain⟨t',rfl⟩:=ry
 exact add_str (fun t' tk=>⟨.str (i++j),H,I.tok _,⟨_,rfl⟩,q⟩) hz
theorem ue_ {x:V} {us:List Value} (r:Vals [x] us):∃ u,us=[u]/\RelV x u:=by
 cases r with
 | cons r1 r2=>cases r2;exact⟨_,rfl,r1⟩
theorem jej_ {x y:V} {us:List Value} (r:Vals [x,y] us):∃ u w',us=[u,w']/\RelV x u/\RelV y w':=by
 cases r with
 | cons r1 r2 =>
  cases r2 with
  | cons r3 r4=>cases r4;exact⟨_,_,rfl,r1,r3⟩
theorem jjn_ (hc:X.calm=true):CallR X (.builtin "max") (fun xs H Q=>∃ i j,xs=[.int i,.int j]/\Q (.int (if j > i then j else i)) H):=by
 intro pins s σ H xs us Q I r h
 obtain⟨i,j,rfl,q⟩:=h
 obtain⟨u,w',rfl,⟨t,rfl⟩,⟨t',rfl⟩⟩:=jej_ r
 refine max_two_ints (I.ok.hd hc) fun h' tk k=>⟨_,H,I.kept k,?_,q⟩
 by_cases hj:j > i
 ·rw[if_pos hj,if_pos hj];exact⟨_,rfl⟩
 ·rw[if_neg hj,if_neg hj];exact⟨_,rfl⟩
theorem jjf_ (hc:X.calm=true):CallR X (.builtin "min") (fun xs H Q=>∃ i j,xs=[.int i,.int j]/\Q (.int (if j < i then j else i)) H):=by
 intro pins s σ H xs us Q I r h
 obtain⟨i,j,rfl,q⟩:=h
 obtain⟨u,w',rfl,⟨t,rfl⟩,⟨t',rfl⟩⟩:=jej_ r
 refine min_two_ints (I.ok.hd hc) fun h' tk k=>⟨_,H,I.kept k,?_,q⟩
 by_cases hj:j < i
 ·rw[if_pos hj,if_pos hj];exact⟨_,rfl⟩
 ·rw[if_neg hj,if_neg hj];exact⟨_,rfl⟩
theorem call_int1:CallR X (.type "int") (fun xs H Q=>(∃ i,xs=[.int i]/\Q (.int i) H)∨∃ k,xs=[.bl k]/\Q (.int (if k then 1 else 0)) H):=by
 intro pins s σ H xs us Q I r h
 rcases h with ⟨i,rfl,q⟩ | ⟨k,rfl,q⟩
 ·obtain⟨u,rfl,t,rfl⟩:=ue_ r
  exact call_int_int ⟨.int i,H,I,⟨_,rfl⟩,q⟩
 ·obtain⟨u,rfl,r1⟩:=ue_ r
  cases r1
  exact call_int_bool ⟨.int (if k then 1 else 0),H,I.tok _,⟨_,rfl⟩,q⟩
end
end L2
namespace L2
open PySem PySem.Spec PyProof.Rows
structure ObjM (h:Heap) (x dx C:Addr) (mA:Str->Option Value):Prop where
 obj:h.get? x=some (PySem.W.instObj C dx)
 ns:h.Ns1 dx mA
 ne:dx≠x
section
variable {prog:Program} {w:World} {A:Around} {E:Value->Shared->Prop} {s:Shared} {K:pc_} {x dx C f:Addr} {mA:Str->Option Value} {name:Str} {v:Value}
end
theorem RelO.some_of {v:V} {o:Option Value} (r:RelO (some v) o):∃ u,o=some u/\RelV v u:=by
 cases o with
 | none=>exact(show False from r).elim
 | some u=>exact⟨u,rfl,r⟩
section
variable {P:Program} {w:World} {H H':Hp} {h h':Heap} {a C dx:Addr} {fs fs':List (Str×V)}
end
structure Cls (K:pc_) (C:Addr):Prop where
 pg:PySem.W.plainGet K C Str.empty=true
 hd:PySem.W.hasDictIn K C=true
 po:PySem.W.plainOver K C=true
 sa:tm_ K (.ref C) "__setattr__"=some (some (.builtin "object.__setattr__"))
structure Con (K:pc_) (C:Addr) (f:Str) (v:V) (u:Value):Prop where
 at_:tm_ K (.ref C) f=some (some u)
 rel:RelV v u
 get:ky_ K u "__get__"=some none
 cp:PySem.W.copiedNames.contains f=false
structure Meth (K:pc_) (C:Addr) (m:Str) (f:Addr):Prop where
 at_:tm_ K (.ref C) m=some (some (.ref f))
 fn:PySem.W.isFn K (.ref f)=true
 kp:sk_ K (.ref f)=true
section
variable {X:Cx} {pins:List (Addr×Obj)} {σ:St} {H:Hp} {s:Shared} {a C dx:Addr} {fs:List (Str×V)} {f:Str} {v:V} {A:Around} {E:Value->Shared->Prop}
end
section
variable {X:Cx} {o e value:Expr} {f:Str} {pos pos' tpos:Pos} {ta tv:TE}
end
section
variable {X:Cx} {pins:List (Addr×Obj)} {σ:St} {H:Hp} {s:Shared} {A:Around} {E:Value->Shared->Prop} {Q:Value->Shared->Prop} {c:Value} {b:Bool}
inductive TyOf (K:pc_) (H:Hp):V->Value->Prop where
 | non:TyOf K H .non (.type "NoneType")
 | bl (x:Bool):TyOf K H (.bl x) (.type "bool")
 | int (i:Int):TyOf K H (.int i) (.type "int")
 | str (x:Str):TyOf K H (.str x) (.type "str")
 | flt (x:UInt64):TyOf K H (.flt x) (.type "float")
 | lst {a:Addr} {xs:List V} (e:H a=some (.lst xs)):TyOf K H (.ref a) (.type "list")
 | frz {a:Addr} {o:Obj} {xs:List V} (e:H a=some (.frz o (.lst xs))):TyOf K H (.ref a) (.type "list")
 | tup {a:Addr} {xs:List V} (e:H a=some (.tup xs)):TyOf K H (.ref a) (.type "tuple")
 | dK {a:Addr} {kvs:List (Key×V)} (e:H a=some (.dK kvs)):TyOf K H (.ref a) (.type "dict")
 | dT {a:Addr} {kvs:List (List Key×V)} (e:H a=some (.dT kvs)):TyOf K H (.ref a) (.type "dict")
 | ins {a C dx:Addr} {fs:List (Str×V)} (e:H a=some (.ins C dx fs)) (cl:Cls K C) (ha:tm_ K (.ref C) "__class__"=some (some (.builtin "object.__class__")))
   (hn:ky_ K (.builtin "object.__class__") "__get__"=some (some (.builtin "getset_descriptor.__get__"))) (htk:PySem.W.takesIn K (.builtin "object.__class__")=some true)
   (hm:PySem.W.mroIn K C (.type "object")=some true):TyOf K H (.ref a) (.ref C)
end
end L2
namespace L2
open PySem PySem.Spec PyProof.Rows
structure Room (k:Nat) (A:Around):Prop where
 hd:A.handled=none
 dp:A.depth+3 * k+5 < recursionLimit
 un:A.units+16 * k+200 < cLine
theorem Room.mono {j k:Nat} {A:Around} (r:Room k A) (h:j<=k):Room j A:=⟨r.hd,by have:=r.dp;omega,by have:=r.un;omega⟩
theorem Room.deeper {k:Nat} {A:Around} (r:Room (k+1) A) (env:Env):Room k (A.deeper env) :=
 ⟨r.hd,by have:=r.dp;show A.depth+1+3 * k+5 < _;omega,by have:=r.un;show A.units+3+16 * k+200 < _;omega⟩
theorem Room.depth {k:Nat} {A:Around} (r:Room k A):A.depth < recursionLimit:=by have:=r.dp;omega
theorem Room.units {k:Nat} {A:Around} (r:Room k A):A.units+64 < cLine:=by have:=r.un;omega
def tNil:TA:=fun _ H Q=>Q [] H
def jqm_ (ta:TE) (tr:TA):TA:=fun σ H Q=>ta σ H fun x H1=>tr σ H1 fun xs H2=>Q (x::xs) H2
section
variable {X:Cx} {e:Expr} {es:List Expr} {te:TE} {t:TA} {pos:Pos}
theorem je_:PA X [] tNil:=fun _ _ _ _ H Q I h=>wm_ ⟨[],H,I,.nil,h⟩
theorem ja_ (ha:PE X e te) (hr:PA X es t) (hs:starEach (e::es) X.env=(false,eval e X.env)::starEach es X.env:=by rfl):PA X (e::es) (jqm_ te t):=by
 intro pos pins s σ H Q I h
 rw[hs]
 show wpAny _ _ (spliced ((false,eval e X.env)::backTo pos (starEach es X.env))) _ _ s
 refine s8_ (thn (ha pins s σ H _ I h) fun u s1 ⟨x,H1,I1,r1,q1⟩=>?_)
 exact thn (hr pos pins s1 σ H1 _ I1 q1) fun us s2 ⟨xs,H2,I2,r2,q2⟩=>⟨x::xs,H2,I2,.cons r1 r2,q2⟩
def tTup (t:TA):TE:=fun σ H Q=>t σ H fun xs H1=>xs.length<=sizeLine/\∀ p,H1 p=none->Q (.ref p) (upd H1 p (.tup xs))
def tLst (t:TA):TE:=fun σ H Q=>t σ H fun xs H1=>xs.length<=sizeLine/\∀ p,H1 p=none->Q (.ref p) (upd H1 p (.lst xs))
theorem ye_ {x1} (h:PA X es t):PE X (.Tuple es x1 pos) (tTup t):=by
 intro pins s σ H Q I hq
 refine wpAny_Tuple_spliced (thn (h pos pins s σ H _ I hq) fun us s1 ⟨xs,H1,I1,r,z,q⟩=>⟨by rw[<- r.length];exact z,?_⟩)
 have hf:H1 s1.heap.objs.size=none:=I1.hok.fresh (pk_ _)
 refine⟨.ref s1.heap.objs.size,upd H1 s1.heap.objs.size (.tup xs),I1.laid (t':=s1.toks) (fun b u e=>pg_ _ e) (pk_ _) ?_,rfl,q _ hf⟩
 exact⟨z,us,r,⟨_,py_ _ rfl,rfl,_,rfl⟩⟩
theorem j1_ (h:PA X es t):PE X (.List es pos) (tLst t):=by
 intro pins s σ H Q I hq
 refine wpAny_List_spliced (thn (h pos pins s σ H _ I hq) fun us s1 ⟨xs,H1,I1,r,z,q⟩=>⟨by rw[<- r.length];exact z,?_⟩)
 have hf:H1 s1.heap.objs.size=none:=I1.hok.fresh (pk_ _)
 refine⟨.ref s1.heap.objs.size,upd H1 s1.heap.objs.size (.lst xs),I1.laid (t':=s1.toks) (fun b u e=>pg_ _ e) (pk_ _) ?_,rfl,q _ hf⟩
 exact⟨z,us,0,r,py_ _ rfl⟩
end
abbrev Sp:=List V->Hp->VK->XK->Prop
abbrev CXT:=List Env->Hp->Shared->XK->Value->Shared->Prop
structure Env0 (P:Program) (w:World) (K:pc_) (mg:Str->Option Value) (base:Heap) (A:Around) (outer:List Env) (s:Shared) (H:Hp):Prop where
 frames:A.frames=some outer
 mod:Mod K mg base
 bs:∀ b o,base.get? b=some o->s.heap.get? b=some o/\H b=none
 bsz:base.objs.size<=s.heap.objs.size
 funs:s.heap.FunFrames base outer
 frf:∀ b∈frs outer,H b=none
 hok:HOk P w H s.heap
 bare:AllBare s.gens
def CE (outer:List Env) (P:Program) (w:World) (H:Hp) (s:Shared) (Q:VK) (u:Value) (s':Shared):Prop :=
 ∃ v H',s'.os=s.os/\AllBare s'.gens/\Un (frs outer) [] H H' s.heap s'.heap/\HOk P w H' s'.heap/\RelV v u/\Q v H'
def CR (CX:CXT) (outer:List Env) (P:Program) (w:World) (H:Hp) (s:Shared) (Q:VK) (E:XK) (r:Result) (s':Shared):Prop :=
 match r with
 | .ok (.ret u)=>CE outer P w H s Q u s'
 | .ok _=>False
 | .error e=>CX outer H s E e s'
structure FnOk (P:Program) (w:World) (K:pc_) (mg:Str->Option Value) (base:Heap) (CX:CXT) (k:Nat) (f:Addr) (fd:FuncData) (ps:List Str) (sp:Sp):Prop where
 len:∀ vs H Q E,sp vs H Q E->vs.length=ps.length
 run:∀(A:Around) (outer:List Env) (s:Shared) (H:Hp) (args:Args) (us:List Value) (vs:List V) (Q:VK) (E:XK),Room k A->Env0 P w K mg base A outer s H->BindsTo s fd args (ps.zip us)->Vals vs us->sp vs H Q E ->
  codeAny (model P w) A (.call (.ref f) args) (CR CX outer P w H s Q E) s
section
variable {X:Cx} {pins:List (Addr×Obj)} {σ:St} {H:Hp} {s s':Shared}
theorem Inv.env0 (I:Inv X pins σ H s):Env0 X.prog X.w X.K X.mg X.base X.A X.stack s H :=
 ⟨I.ok.frames,I.ok.mod,I.bs,p5_ I.ok.bsz I.sz,I.stack,I.stkFree,I.hok,I.bare⟩
theorem Inv.after {Q:VK} {u:Value} (I:Inv X pins σ H s) (h:CE X.stack X.prog X.w H s Q u s'):EP X pins σ Q u s':=by
 obtain⟨v,H',os,bare,un,hok,r,q⟩:=h
 obtain⟨hh,g,d,t,os'⟩:=s'
 obtain rfl:os'=s.os:=os
 exact⟨v,H',I.call (h':=hh) (g':=g) (d':=d) (t':=t) (ch:=[]) un hok bare (fun b z=>absurd z (by simp)),r,q⟩
end
def jkw_ (sp:Sp) (dvs:List V) (E:XK) (t:TA):TE:=fun σ H Q=>t σ H fun vs H1=>sp (vs++dvs) H1 Q E
def Binds (K:pc_) (fd:FuncData) (ps:List Str) (ds:List Value):Prop :=
 ∀(s:Shared) (us:List Value),K.In s.heap->(us++ds).length=ps.length->BindsTo s fd ⟨us,[]⟩ (ps.zip (us++ds))
theorem Binds.all {K:pc_} {fd:FuncData} {ps:List Str} (h:∀ us:List Value,us.length=ps.length->bindArgs fd ⟨us,[]⟩=pure (ps.zip us)):Binds K fd ps []:=fun s us _ hl=>by
 rw[p8_] at hl ⊢
 exact .of_eq (h us hl)
def jfn_ (CX:CXT) (X:Cx) (E:XK):Prop:=∀(pins:List (Addr×Obj)) (σ:St) (H:Hp) (s:Shared) (e:Value) (s':Shared),Inv X pins σ H s->CX X.stack H s E e s'->X.xe e s'
section
variable {X:Cx} {CX:CXT} {k:Nat} {f C:Addr} {fd:FuncData} {ps:List Str} {sp:Sp} {dvs:List V} {ds:List Value} {E:XK} {x m:Str} {p pos apos:Pos} {e o:Expr} {es:List Expr} {ta:TE} {t:TA}
theorem jsw_ {pins:List (Addr×Obj)} {σ:St} {H:Hp} {s:Shared} {Q:VK} {us:List Value} {vs:List V} (F:FnOk X.prog X.w X.K X.mg X.base CX k f fd ps sp) (hr:Room k X.A) (hb:Binds X.K fd ps ds) (hd:Vals dvs ds) (hx:jfn_ CX X E)
  (I:Inv X pins σ H s) (r:Vals vs us) (h:sp (vs++dvs) H Q E):wpAny (model X.prog X.w) X.A (call (.ref f) us) (EP X pins σ Q) X.xe s:=by
 have r2:Vals (vs++dvs) (us++ds):=r.append hd
 have hl:(us++ds).length=ps.length:=by rw[<- r2.length];exact F.len _ _ _ _ h
 refine wpAny_call (codeAny_mono (F.run X.A X.stack s H ⟨us,[]⟩ (us++ds) (vs++dvs) Q E hr I.env0 (hb s us I.kIn hl) r2 h) fun r s' hq=>?_)
 cases r with
 | error e=>exact hx pins σ H s e s' I hq
 | ok fl =>
  cases fl with
  | ret u=>exact I.after hq
  | next=>exact sr_ hq
  | brk=>exact sr_ hq
  | cont=>exact sr_ hq
theorem joh_ (F:FnOk X.prog X.w X.K X.mg X.base CX k f fd ps sp) (hr:Room k X.A) (hg:Gl X x) (hm:X.mg x=some (.ref f)) (hk:sk_ X.K (.ref f)=true) (hb:Binds X.K fd ps ds) (hd:Vals dvs ds) (hx:jfn_ CX X E)
  (ha:PA X (e::es) t) (hdb:(x == ("__debug__":Str))=false:=by decide) (he:starEach (e::es) X.env=(false,eval e X.env)::starEach es X.env:=by rfl) (hpl:(backTo pos (starEach es X.env)).any (·.1)=false:=by rfl) :
  PE X (.Call (.Name x p) (e::es) [] pos) (jkw_ sp dvs E t):=by
 intro pins s σ H Q I h
 refine wpAny_Call_Name_kw (jpn_ I hg hm ?_ hdb)
 refine PySem.W.callWith_K (h₀:=X.base) I.ok.mod.kin hk (thn (ha pos pins s σ H _ I h) fun us s1 ⟨vs,H1,I1,r,q⟩=>⟨I1.kIn,?_⟩) he hpl
 exact jsw_ F hr hb hd hx I1 r q
structure Mk (K:pc_) (C f:Addr):Prop where
 makes:PySem.W.makesIn K C=true
 init:tm_ K (.ref C) "__init__"=some (some (.ref f))
 fn:PySem.W.isFn K (.ref f)=true
 kp:sk_ K (.ref C)=true
end
section
variable {X:Cx} {CX:CXT} {k:Nat} {f C:Addr} {fd:FuncData} {ps ks:List Str} {sp:Sp} {E:XK} {x m:Str} {p pos apos kpos:Pos} {e o:Expr} {es:List Expr} {kws:List Keyword} {te ta:TE} {t tk:TA} {nm:Option Str}
structure KBinds (K:pc_) (fd:FuncData) (ps ks:List Str) (g:List Value->List Value->List Value) (gV:List V->List V->List V):Prop where
 to:∀(s:Shared) (us ws:List Value),K.In s.heap->(g us ws).length=ps.length->BindsTo s fd ⟨us,ks.zip ws⟩ (ps.zip (g us ws))
 rel:∀{vs:List V} {us:List Value} {zs:List V} {ws:List Value},Vals vs us->Vals zs ws->Vals (gV vs zs) (g us ws)
variable {g:List Value->List Value->List Value} {gV:List V->List V->List V}
end
structure FnScope (N P:List Str) (sc:Scope):Prop where
 kind:sc.kind=.function
 co:sc.isCoroutine=false
 gen:sc.isGenerator=false
 nd:N.Nodup
 pre:N.take P.length=P
 par:∀ x∈P,sc.names.lookup x=some .local∨sc.names.lookup x=some .cell
 nofree:∀ y∈sc.names,y.2≠.free
theorem jcd_ {kindOf:Str->Option NameKind} {x:Str}:∀{binds:List (Str×Value)} {m:Str->Option Value},(∀ v,(x,v)∉binds)->bindL kindOf binds m x=m x
 | [],_,_=>rfl
 | (n,v)::r,m,h=>by
  unfold bindL
  rw[jcd_ fun w hw=>h w (pm_ _ hw)]
  split
  ·have:x≠n:=by rintro rfl;exact h v po_
   simp[this]
  ·rfl
theorem jbd_ {kindOf:Str->Option NameKind} {x:Str}:∀{binds:List (Str×Value)} {m:Str->Option Value},(∀ v,(x,v)∉binds)->bindC kindOf binds m x=m x
 | [],_,_=>rfl
 | (n,v)::r,m,h=>by
  unfold bindC
  rw[jbd_ fun w hw=>h w (pm_ _ hw)]
  split
  ·rfl
  ·have:x≠n:=by rintro rfl;exact h v po_
   simp[this]
theorem jbm_ {kindOf:Str->Option NameKind} {x:Str} {v:Value}:∀{P:List Str} {vs:List Value} {i:Nat} {m:Str->Option Value},P.Nodup->P[i]?=some x->vs[i]?=some v->kindOf x=some .local ->
  bindL kindOf (P.zip vs) m x=some v
 | [],_,_,_,_,h,_,_=>by simp at h
 | _::_,[],_,_,_,_,h,_=>by simp at h
 | p::P,w::vs,0,m,nd,h1,h2,hk=>by
  simp at h1 h2;subst h1;subst h2
  show bindL kindOf ((p,w)::P.zip vs) m p=_
  unfold bindL
  rw[jcd_ fun v hv=>(r5_.mp nd).1 (w7_ hv).1,if_pos hk]
  simp
 | p::P,w::vs,i+1,m,nd,h1,h2,hk=>by
  show bindL kindOf ((p,w)::P.zip vs) m x=_
  unfold bindL
  exact jbm_ (i:=i) (r5_.mp nd).2 (by simpa using h1) (by simpa using h2) hk
theorem jbi_ {kindOf:Str->Option NameKind} {x:Str} {v:Value}:∀{P:List Str} {vs:List Value} {i:Nat} {m:Str->Option Value},P.Nodup->P[i]?=some x->vs[i]?=some v->kindOf x≠some .local ->
  bindC kindOf (P.zip vs) m x=some v
 | [],_,_,_,_,h,_,_=>by simp at h
 | _::_,[],_,_,_,_,h,_=>by simp at h
 | p::P,w::vs,0,m,nd,h1,h2,hk=>by
  simp at h1 h2;subst h1;subst h2
  show bindC kindOf ((p,w)::P.zip vs) m p=_
  unfold bindC
  rw[jbd_ fun v hv=>(r5_.mp nd).1 (w7_ hv).1,if_neg hk]
  simp
 | p::P,w::vs,i+1,m,nd,h1,h2,hk=>by
  show bindC kindOf ((p,w)::P.zip vs) m x=_
  unfold bindC
  exact jbi_ (i:=i) (r5_.mp nd).2 (by simpa using h1) (by simpa using h2) hk
def ze_ (N:List Str) (vs:List V):St:=vs.map some++pe_ (N.length - vs.length) none
def cxOf (CX:CXT) (P:Program) (w:World) (K:pc_) (mg:Str->Option Value) (base:Heap) (N:List Str) (qual:Str) (scope:Scope) (f:Addr) (cd:Value) (A:Around) (outer:List Env) (s:Shared) (H:Hp) (E:XK):Cx where
 prog:=P
 w:=w
 K:=K
 mg:=mg
 base:=base
 A:=A.deeper (envOfC qual scope s.heap.objs.size f cd)
 N:=N
 s₀:=s
 H₀:=H
 env:=envOfC qual scope s.heap.objs.size f cd
 outer:=outer
 stack:=envOfC qual scope s.heap.objs.size f cd::outer
 ex:=[]
 calm:=true
 fn:=fun _=>true
 pn:=[]
 xe:=fun e s'=>wpAny (model P w) (A.deeper (envOfC qual scope s.heap.objs.size f cd)) (leaving (envOfC qual scope s.heap.objs.size f cd) e) (fun _ s''=>CX outer H s E e s'') (fun e' s''=>CX outer H s E e' s'') s'
theorem jem_ {sc:Scope} {n:Nat} {x:Str} (h:sc.names.lookup x=some .cell):∃ c,(cellsFrom n sc.names []).lookup x=some c:=by
 have q:=w3_ sc.names n [] (.inl h)
 exact Option.isSome_iff_exists.mp q
theorem jis_ {CX:CXT} {P:Program} {w:World} {K:pc_} {mg:Str->Option Value} {base:Heap} {N ps:List Str} {qual:Str} {scope:Scope} {f:Addr} {cd:Value} {A:Around} {outer:List Env} {s s1:Shared} {H:Hp} {E:XK} {us:List Value} {vs:List V}
  (S:FnScope N ps scope) (hd:A.handled=none) (e0:Env0 P w K mg base A outer s H) (hl:vs.length=ps.length) (r:Vals vs us)
  (x:InCallC s s.heap.objs.size (bindL (envOfC qual scope s.heap.objs.size f cd).kindOf (ps.zip us) fun _=>none) (cellsFrom (s.heap.objs.size+1) scope.names []) (bindC (envOfC qual scope s.heap.objs.size f cd).kindOf (ps.zip us) fun _=>none) s1) :
  Inv (cxOf CX P w K mg base N qual scope f cd A outer s H E) [] (ze_ N vs) H s1:=by
 have hpl:ps.length<=N.length:=by have:=congrArg th_ S.pre;rw[pq_] at this;omega
 obtain⟨h1,tk,rfl,hk⟩:=x.done
 have noA:∀ b:Addr,b∉(cxOf CX P w K mg base N qual scope f cd A outer s H E).ex:=fun b z=>absurd (show b∈([]:List Addr) from z) (by simp)
 refine⟨⟨e0.mod,S.kind,rfl,rfl,pk_ _,fun y z c h1 h2=>?_,fun y hy=>?_,fun y c _ h=>?_,fun _=>hd,Around.frames_deeper e0.frames,.inr ⟨rfl,rfl⟩,fun b z=>absurd z (noA b),e0.bs,e0.bsz,fun b _ _=>noA b,fun b z=>absurd z (noA b),e0.funs,e0.frf⟩,
  rfl,e0.bare,Un.kept hk,⟨_,x.toInCall.ns,fun i y v h1 h2 h3=>?_⟩,fun y c h=>⟨_,x.cell y c h⟩,e0.hok.fresh (pk_ _),fun y c h=>?_,fun p hp=>absurd (show p∈([]:List (Addr×Obj)) from hp) (by simp),e0.hok.kept hk,?_⟩
 ·exact name_of_addr x.apart (sf_ h1) (sf_ h2)
 ·have hy:scope.names.lookup y=some .cell∨scope.names.lookup y=some .free:=hy
  rcases hy with hy | hy
  ·exact jem_ hy
  ·exact absurd rfl (S.nofree _ (sf_ hy))
 ·exact sm_ (x.above y c (sf_ h))
 ·have hi:i < vs.length:=by
   unfold ze_ at h2
   by_cases hi:i < vs.length
   ·exact hi
   ·rw[q3_ (by simpa using hi)] at h2
    rw[s9_] at h2
    split at h2 <;> cases h2
  have ha:vs[i]?=some v:=by
   unfold ze_ at h2
   rw[rh_ (by simpa using hi),pl_] at h2
   cases e:vs[i]? with
   | none=>rw[e] at h2;cases h2
   | some a=>rw[e] at h2;cases h2;rfl
  obtain⟨u,hu,rv⟩:=r.get ha
  have hp:ps[i]?=some y:=by
   rw[<- S.pre,rj_ (by omega)];exact h1
  have ndP:ps.Nodup:=by rw[<- S.pre];exact S.nd.sublist (List.take_sublist _ _)
  refine⟨u,rv,?_⟩
  rcases S.par y (rn_ hp) with k | k
  ·exact .inl ⟨k,jbm_ ndP hp hu k⟩
  ·obtain⟨c,e⟩:=jem_ (n:=s.heap.objs.size+1) k
   refine .inr ⟨.inl k,c,e,?_⟩
   have q:=x.cell y c e
   rw[jbi_ ndP hp hu (by show scope.names.lookup y≠_;rw[k];decide)] at q
   exact q
 ·exact e0.hok.fresh (sm_ (x.above y c (sf_ h)))
 ·unfold ze_
  show _=N.length
  rw[pd_,pb_,q7_]
  omega
theorem juf_ {CX:CXT} {P:Program} {w:World} {K:pc_} {mg:Str->Option Value} {base:Heap} {k:Nat} {f:Addr} {name qual:Str} {params:Arguments} {body:List Stmt} {scope:Scope} {dV kV doc pm cdv ct oc:Value} {an od:Option Addr}
  {osl:Array (Option Value)} {N ps:List Str} {sp:Sp} (lk:K.lookup f=some ⟨oc,od,.func (so_ name qual params body scope dV kV doc pm an cdv ct),osl⟩) (hcd:wg_ K cdv qual=true) (S:FnScope N ps scope)
  (len:∀ vs H Q E,sp vs H Q E->vs.length=ps.length)
  (hbody:∀(A:Around) (outer:List Env) (s:Shared) (H:Hp) (vs:List V) (Q:VK) (E:XK),Room k (A.deeper (envOfC qual scope s.heap.objs.size f cdv))->sp vs H Q E ->
   ∃ t,PSs (cxOf CX P w K mg base N qual scope f cdv A outer s H E) body t/\t { nx:=fun _ H'=>Q .non H',rt:=Q } (ze_ N vs) H) :
  FnOk P w K mg base CX (k+1) f (so_ name qual params body scope dV kV doc pm an cdv ct) ps sp:=by
 refine⟨len,fun A outer s H args us vs Q E hr e0 hb r hsp=>?_⟩
 have hl:=len _ _ _ _ hsp
 have KX:K.In s.heap:=e0.mod.kin.keeps fun b o e=>(e0.bs b o e).1
 have lim:s.heap.NoLimit:=e0.mod.nolimit.keeps fun b o e=>(e0.bs b o e).1
 have hkind:∀ y∈ps.zip us,scope.names.lookup y.1=some .local∨(scope.names.lookup y.1=some .cell/\((cellsFrom (s.heap.objs.size+1) scope.names []).lookup y.1).isSome=true):=fun⟨n,v⟩ hy=>by
  rcases S.par n (w7_ hy).1 with q | q
  ·exact .inl q
  ·exact .inr ⟨q,w3_ _ _ _ (.inl q)⟩
 refine codeAny_call_function hr.depth (KX _ _ lk) rfl S.co S.gen rfl (PySem.W.codeRec_of KX hcd) (hb _ _ _ _ ?_)
 refine wpAny_newFunctionEnv_cells S.kind hkind fun env he s1 x=>?_
 subst he
 refine⟨lim.keeps x.toInCall.keep,codeAny_func ?_⟩
 obtain⟨t,ht,hq⟩:=hbody A outer s H vs Q E (hr.deeper _) hsp
 have I:Inv (cxOf CX P w K mg base N qual scope f cdv A outer s H E) [] (ze_ N vs) H s1:=jis_ S hr.hd e0 hl r x
 refine wpAny_mono (ht [] s1 (ze_ N vs) H _ I hq) (fun fl s' hs=>?_) fun e s' hs=>hs
 have fin:∀{σ':St} {H':Hp} {v:V} {u:Value},Inv (cxOf CX P w K mg base N qual scope f cdv A outer s H E) [] σ' H' s'->RelV v u->Q v H'->CE outer P w H s Q u s' :=
  fun{σ' H' v u} J rv q=>⟨v,H',J.os,J.bare,J.base,J.hok,rv,q⟩
 cases fl with
 | ret u =>
  obtain⟨v,σ',H',J,rv,q⟩:=hs
  exact fin J rv q
 | next =>
  obtain⟨σ',H',J,q⟩:=hs
  exact fin (v:=V.non) (u:=Value.none) J rfl q
 | brk =>
  obtain⟨_,_,_,q⟩:=hs
  exact sr_ q
 | cont =>
  obtain⟨_,_,_,q⟩:=hs
  exact sr_ q
end L2
namespace L2
open PySem PySem.Spec PyProof.Rows
section
variable {X:Cx} {x:Str} {p pos:Pos} {e:Expr} {es:List Expr} {t:TA} {id T:String} {r:List V->Hp->VK->Prop}
def tCB (r:List V->Hp->VK->Prop) (t:TA):TE:=fun σ H Q=>t σ H fun vs H1=>r vs H1 Q
theorem jq_ (hc:CallR X (.builtin id) r) (hg:Gl X x) (hm:X.mg x=none) (hv:bootBuiltins x=some (.builtin id)) (ha:PA X (e::es) t) (hn:x≠"__name__":=by decide) (hdb:(x == ("__debug__":Str))=false:=by decide)
  (he:starEach (e::es) X.env=(false,eval e X.env)::starEach es X.env:=by rfl) (hpl:(backTo pos (starEach es X.env)).any (·.1)=false:=by rfl):PE X (.Call (.Name x p) (e::es) [] pos) (tCB r t):=by
 intro pins s σ H Q I h
 refine wpAny_Call_Name_kw (v3_ I hg hm hv ?_ hn hdb)
 exact PyProof.Rows.callWith_builtin1 (thn (ha pos pins s σ H _ I h) fun us s1 ⟨vs,H1,I1,r1,q1⟩=>hc pins s1 σ H1 vs us Q I1 r1 q1) he hpl
theorem j9_ (hc:CallR X (.type T) r) (hg:Gl X x) (hm:X.mg x=none) (hv:bootBuiltins x=some (.type T)) (ha:PA X (e::es) t) (hn:x≠"__name__":=by decide) (hdb:(x == ("__debug__":Str))=false:=by decide)
  (he:starEach (e::es) X.env=(false,eval e X.env)::starEach es X.env:=by rfl) (hpl:(backTo pos (starEach es X.env)).any (·.1)=false:=by rfl):PE X (.Call (.Name x p) (e::es) [] pos) (tCB r t):=by
 intro pins s σ H Q I h
 refine wpAny_Call_Name_kw (v3_ I hg hm hv ?_ hn hdb)
 exact sn_ (thn (ha pos pins s σ H _ I h) fun us s1 ⟨vs,H1,I1,r1,q1⟩=>hc pins s1 σ H1 vs us Q I1 r1 q1) he hpl
end
end L2
namespace HT
open PySem PyProof.Rows
section
open PySem.SeqAt
open PySem.AutoSeq1 (wpAny_loadPart')
open PySem.MeetsSeq PySem.MeetsSeq2 PySem.MeetsSeq3
end
section
variable {prog:Program} {w:World} {A:Around} {E:Value->Shared->Prop} {s:Shared}
theorem cat_tup {t b:Addr} {vs ws:List Value} {Q:Value->Shared->Prop} (ht:IsTup s.heap t vs.toArray) (hb:IsTup s.heap b ws.toArray) (hv:vs≠[])
  (h1:ws=[]->Q (.ref t) s) (h2:ws≠[]->Q (.ref s.heap.objs.size) { s with heap:=s.heap.push { cls:=.type "tuple",data:=.seq (vs++ws).toArray } })
  (hsz:vs.length+ws.length<=sizeLine):wpAny (model prog w) A (binaryOp .Add (.ref t) (.ref b)) Q E s:=by
 obtain⟨⟨cls,dd,data,sl⟩,ho,hc,n,hd⟩:=id ht
 obtain⟨⟨cls2,dd2,data2,sl2⟩,ho2,hc2,n2,hd2⟩:=id hb
 simp only at hc hd hc2 hd2
 subst hc hd hc2 hd2
 have e:vs.toArray++ws.toArray=(vs++ws).toArray:=by simp
 by_cases hw:ws=[]
 ·exact concat_meets ⟨_,ho,rfl⟩ ⟨_,ho2,rfl⟩ noFill_tuple_add seq_tuple_add w4_ wv_ (wn_ _ _)
   (tuple_addW1 t b vs.toArray ws.toArray n n2 dd dd2 sl sl2 (by simpa using hv) (by simp[hw])) ⟨ho,ho2,h1 hw⟩
 ·refine concat_meets ⟨_,ho,rfl⟩ ⟨_,ho2,rfl⟩ noFill_tuple_add seq_tuple_add w4_ wv_ (wn_ _ _)
   (tuple_addW2 t b vs.toArray ws.toArray n n2 dd dd2 sl sl2 (by simpa using hv) (by simpa using hw) (by rw[pj_,pj_];exact hsz)) ⟨ho,ho2,?_⟩
  rw[e]
  exact h2 hw
def sIx (n d:Nat):Option Int->Nat
 | none=>d
 | some v=>if v < 0 then (v+(n:Int)).toNat else min v.toNat n
theorem jsq_ (n d:Nat) (hd:d<=n) (o:Option Int):sIx n d o<=n:=by
 cases o with
 | none=>exact hd
 | some v =>
  show (if v < 0 then (v+(n:Int)).toNat else min v.toNat n)<=n
  by_cases hv:v < 0
  ·rw[if_pos hv];omega
  ·rw[if_neg hv];exact Nat.min_le_right _ _
theorem jih_ (v:Int) (n d:Nat):(if v < 0 then max (v+(n:Int)) 0 else min v (n:Int))=((sIx n d (some v):Nat):Int):=by
 show (if v < 0 then max (v+(n:Int)) 0 else min v (n:Int))=(((if v < 0 then (v+(n:Int)).toNat else min v.toNat n):Nat):Int)
 by_cases hv:v < 0
 ·simp only[if_pos hv];omega
 ·simp only[if_neg hv];omega
theorem jfq_ (lo hi:Option Int) (n:Nat):sy_ lo hi 1 (n:Int)=(((sIx n 0 lo:Nat):Int),((sIx n n hi:Nat):Int)):=by
 have h1:¬ ((1:Int) < 0):=by omega
 unfold sy_
 simp only[h1,if_false]
 refine Prod.ext ?_ ?_
 ·cases lo with
  | none=>rfl
  | some v=>exact jih_ v n 0
 ·cases hi with
  | none=>rfl
  | some v=>exact jih_ v n n
theorem jft_ (i j:Nat):r2_ (i:Int) (j:Int) 1=j - i:=by
 unfold r2_
 have h1:(1:Int) > 0:=by omega
 simp only[h1,if_true,Int.ediv_one]
 split <;> omega
theorem jal_ {v:Value} {o:Option Int} {Q:Option Int->Shared->Prop} (p:IsPart v o) (h:Q o s):wpAny (model prog w) A (Builtin.Slice.slicePartIndex v) Q E s:=by
 cases p with
 | none=>exact slicePart_none h
 | int i t=>exact slicePart_int h
theorem vz_ {sl:Addr} {vl vu:Value} {lo hi:Option Int} {n:Nat} {Q:Int×Int×Nat->Shared->Prop} (hs:s.heap.IsSliceOf sl vl vu .none) (pl:IsPart vl lo) (pu:IsPart vu hi)
  (h:Q (((sIx n 0 lo:Nat):Int),1,sIx n n hi - sIx n 0 lo) s):wpAny (model prog w) A (t9_ (.ref sl) (pure (n:Int))) Q E s:=by
 obtain⟨os,hos,hcs,hds⟩:=id hs
 unfold t9_ Builtin.Slice.sliceFields
 refine wpAny_bind (wpAny_bind (wpAny_field hos hds (x:=vl) rfl (wpAny_bind (wpAny_field hos hds (x:=vu) rfl (wpAny_bind (wpAny_field hos hds (x:=.none) rfl (wpAny_pure ?_)))))))
 refine wpAny_bind (slicePart_none ?_)
 show wpAny _ _ (if ((1:Int) == 0)=true then _ else _) _ _ s
 rw[if_neg (by decide)]
 refine wpAny_bind (jal_ pl (wpAny_bind (jal_ pu (wpAny_bind (wpAny_pure ?_)))))
 show wpAny _ _ (match sy_ lo hi 1 (n:Int) with | (lo,hi)=>pure (lo,(1:Int),r2_ lo hi 1)) _ _ s
 rw[jfq_ lo hi n]
 show wpAny _ _ (pure (((sIx n 0 lo:Nat):Int),(1:Int),r2_ ((sIx n 0 lo:Nat):Int) ((sIx n n hi:Nat):Int) 1)) _ _ s
 rw[jft_]
 exact wpAny_pure h
theorem jku_ (xs:Array Value) (i k:Nat):((pt_ k).filterMap fun(m:Nat)=>xs[((i:Int)+(m:Int) * 1).toNat]?).toArray=((xs.toList.drop i).take k).toArray:=by
 have e:(fun(m:Nat)=>xs[((i:Int)+(m:Int) * 1).toNat]?)=fun m=>xs[i+m]?:=by
  funext m
  have:((i:Int)+(m:Int) * 1).toNat=i+m:=by omega
  rw[this]
 rw[e]
 have:=pick_run xs i k
 rw[List.filterMap_map] at this
 have e2:((fun x=>xs[x]?)∘fun x=>i+x)=fun m=>xs[i+m]?:=rfl
 rw[e2] at this
 rw[this]
theorem getItem_tuple_cut {t sl:Addr} {items:Array Value} {vl vu:Value} {lo hi:Option Int} {Q:Value->Shared->Prop} (ht:IsTup s.heap t items) (hs:s.heap.IsSliceOf sl vl vu .none) (pl:IsPart vl lo) (pu:IsPart vu hi)
  (hw:¬ (sIx items.size 0 lo=0/\sIx items.size items.size hi=items.size))
  (h:Q (.ref s.heap.objs.size) { s with heap:=s.heap.push { cls:=.type "tuple",data:=.seq ((items.toList.drop (sIx items.size 0 lo)).take (sIx items.size items.size hi - sIx items.size 0 lo)).toArray } })
  (hsz:items.size<=sizeLine):wpAny (model prog w) A (getItem (.ref t) (.ref sl)) Q E s:=by
 have htake:sizeOk (.seq ((items.toList.drop (sIx items.size 0 lo)).take (sIx items.size items.size hi - sIx items.size 0 lo)).toArray):=by
  show ((items.toList.drop (sIx items.size 0 lo)).take (sIx items.size items.size hi - sIx items.size 0 lo)).toArray.size<=sizeLine
  rw[pj_,pq_,p9_,se_]
  omega
 have hj:sIx items.size items.size hi<=items.size:=jsq_ _ _ (pk_ _) hi
 obtain⟨os,hos,hcs,hds⟩:=id hs
 have hTs:s.TypeIs (.ref sl) "slice":=⟨os,hos,hcs⟩
 unfold getItem
 try with_reducible refine wpAny_holding ?_
 first | refine wpAny_bind (wpAny_pure ?_) | skip
 refine wpAny_bind (wpAny_sequenceKey ht.typeIs (by decide) ?_)
 refine wpAny_bind (wpAny_callSpecial?_slot (name:=qy_ "__getitem__") ht.typeIs r6_
  (wpAny_call_entry r6_ ht.typeIs entry_tuple_getitem ?_ (args_tuple_getitem _ _)))
 show wpAny _ _ (wa_ (.ref t) >>= _) _ _ s
 refine wpAny_bind (tupleItemsOf_ ht ?_)
 refine wpAny_bind (wpAny_typeOf hTs ?_)
 rw[if_pos (by decide)]
 refine wpAny_bind (vz_ hs pl pu ?_)
 have hno:¬ ((((sIx items.size 0 lo:Nat):Int) == 0&&(1:Int) == 1&&(sIx items.size items.size hi - sIx items.size 0 lo) == items.size)=true):=by
  intro q
  rw[p2_,p2_] at q
  have q1:((sIx items.size 0 lo:Nat):Int)=0:=eq_of_beq q.1.1
  have q2:sIx items.size items.size hi - sIx items.size 0 lo=items.size:=eq_of_beq q.2
  exact hw ⟨by omega,by omega⟩
 show wpAny _ _ (if (((sIx items.size 0 lo:Nat):Int) == 0&&(1:Int) == 1&&(sIx items.size items.size hi - sIx items.size 0 lo) == items.size)=true then _ else _) _ _ s
 rw[if_neg hno,jku_]
 first
  | exact wpAny_bind (m:=r7_ _) (wpAny_newObj_type (wpAny_pure ⟨_,rfl,wpAny_pure h⟩) htake)
  | exact wpAny_bind (m:=r7_ _) (wpAny_newObj_type (wpAny_bind (wpAny_pure (wpAny_pure ⟨_,rfl,wpAny_pure h⟩))) htake)
  | exact wpAny_bind (wpAny_bind (m:=r7_ _) (wpAny_newObj_type (wpAny_pure (wpAny_pure ⟨_,rfl,wpAny_pure h⟩)) htake))
  | exact wpAny_bind (wpAny_bind (m:=r7_ _) (wpAny_newObj_type (wpAny_pure ⟨_,rfl,wpAny_pure h⟩) htake))
end
end HT
namespace L2
open PySem PySem.Spec PyProof.Rows
abbrev TO:=St->Hp->(Option Int->Hp->Prop)->Prop
def PO (X:Cx) (e:Option Expr) (t:TO):Prop :=
 ∀(pins:List (Addr×Obj)) (s:Shared) (σ:St) (H:Hp) (Q:Option Int->Hp->Prop),Inv X pins σ H s->t σ H Q ->
  wpAny (model X.prog X.w) X.A (evalPart e X.env) (fun u s'=>∃ o H',Inv X pins σ H' s'/\IsPart u o/\Q o H') X.xe s
def jhh_:TO:=fun _ H Q=>Q none H
def jqp_ (t:TE):TO:=fun σ H Q=>t σ H fun x H1=>∃ i,x=.int i/\Q (some i) H1
section
variable {X:Cx} {e:Expr} {te:TE} {lo hi:Option Expr} {tl th:TO} {pos p2:Pos}
theorem jnz_:PO X none jhh_:=by
 intro pins s σ H Q I h
 rw[evalPart_none]
 exact wpAny_pure ⟨none,H,I,.none,h⟩
theorem zn_ (h:PE X e te):PO X (some e) (jqp_ te):=by
 intro pins s σ H Q I hw
 rw[evalPart_some]
 refine thn (h pins s σ H _ I hw) fun u s1 ⟨x,H1,I1,r1,q1⟩=>?_
 obtain⟨i,rfl,q⟩:=q1
 obtain⟨t,rfl⟩:=r1
 exact⟨some i,H1,I1,.int i t,q⟩
def SlR (X:Cx) (r:V->Option Int->Option Int->Hp->VK->Prop):Prop :=
 ∀(pins:List (Addr×Obj)) (s:Shared) (σ:St) (H:Hp) (x:V) (v vl vu:Value) (lo hi:Option Int) (sl:Addr) (Q:VK),Inv X pins σ H s->RelV x v->s.heap.IsSliceOf sl vl vu .none->IsPart vl lo->IsPart vu hi->r x lo hi H Q ->
  ∃ T id,typeLookup (.type T) "__getitem__"=pure (some (.builtin id))/\s.TypeIs v T/\wpAny (model X.prog X.w) X.A (getItem v (.ref sl)) (EP X pins σ Q) X.xe s
def tSl (r:V->Option Int->Option Int->Hp->VK->Prop) (te:TE) (tl th:TO):TE:=fun σ H Q=>te σ H fun x H1=>tl σ H1 fun l H2=>th σ H2 fun u H3=>r x l u H3 Q
theorem ya_ {r:V->Option Int->Option Int->Hp->VK->Prop} (hr:SlR X r) (he:PE X e te) (hl:PO X lo tl) (hu:PO X hi th):PE X (.Subscript e (.Slice lo hi none p2) pos) (tSl r te tl th):=by
 intro pins s σ H Q I h
 refine Subscript_ (thn (he pins s σ H _ I h) fun v s1 ⟨x,H1,I1,r1,q1⟩=>?_)
 refine wpAny_Slice (thn (hl pins s1 σ H1 _ I1 q1) fun vl s2 ⟨l,H2,I2,pl,q2⟩=>thn (hu pins s2 σ H2 _ I2 q2) fun vu s3 ⟨u,H3,I3,pu,q3⟩=>?_)
 rw[evalPart_none]
 refine wpAny_pure ?_
 have I4:Inv X pins σ H3 { s3 with heap:=s3.heap.push { cls:=.type "slice",data:=.fields #[vl,vu,.none] } }:=I3.kept (t':=s3.toks) fun b ob q=>pg_ _ q
 obtain⟨T,id,hT,ht,hg⟩:=hr pins { s3 with heap:=s3.heap.push { cls:=.type "slice",data:=.fields #[vl,vu,.none] } } σ H3 x v vl vu l u s3.heap.objs.size Q I4 r1 (Heap.IsSliceOf.new ..) pl pu q3
 show wpAny (model X.prog X.w) X.A (subscriptTail e (.Slice lo hi none p2) v (.ref s3.heap.objs.size)) (EP X pins σ Q) X.xe { s3 with heap:=s3.heap.push { cls:=.type "slice",data:=.fields #[vl,vu,.none] } }
 exact tail_any (ops:=[.ref s3.heap.objs.size,v]) ht hT hg (by with_unfolding_all rfl)
def cutV (xs:List V) (lo hi:Option Int):List V:=(xs.drop (HT.sIx xs.length 0 lo)).take (HT.sIx xs.length xs.length hi - HT.sIx xs.length 0 lo)
theorem uc_ (xs:List V) (lo hi:Option Int):(cutV xs lo hi).length<=xs.length:=by
 unfold cutV
 rw[pq_,p9_]
 omega
def rSlT (K:pc_):V->Option Int->Option Int->Hp->VK->Prop:=fun x lo hi H Q=>∃ a xs,x=.ref a/\SqT K H a xs /\
 ¬ (HT.sIx xs.length 0 lo=0/\HT.sIx xs.length xs.length hi=xs.length)/\∀ p,H p=none->Q (.ref p) (upd H p (.tup (cutV xs lo hi)))
theorem jqv_:SlR X (rSlT X.K):=by
 intro pins s σ H x v vl vu lo hi sl Q I rx hs pl pu h
 obtain⟨a,xs,rfl,hx,hw,q⟩:=h
 cases rx
 obtain⟨its,r,ht,hz⟩:=I.tuple hx
 have hlen:its.toArray.size=xs.length:=by rw[pj_];exact r.length.symm
 refine⟨"tuple",_,r6_.lookup,ht.typeIs,?_⟩
 refine HT.getItem_tuple_cut ht hs pl pu (by rw[hlen];exact hw) ?_ (by rw[hlen];exact hz)
 rw[hlen]
 refine⟨.ref s.heap.objs.size,_,I.laid (t':=s.toks) (o:=.tup (cutV xs lo hi)) (fun b ob q=>pg_ _ q) (pk_ _) ?_,rfl,q _ (I.hok.fresh (pk_ _))⟩
 exact⟨p5_ (uc_ xs lo hi) hz,_,(r.drop (HT.sIx xs.length 0 lo)).take (HT.sIx xs.length xs.length hi - HT.sIx xs.length 0 lo),IsTup.new _ _⟩
def jte_ (K:pc_):R2:=fun x y H Q=>∃ a b xs ys,x=.ref a/\y=.ref b/\SqT K H a xs/\SqT K H b ys/\xs≠[]/\xs.length+ys.length<=sizeLine /\
 (ys=[]->Q (.ref a) H)/\(ys≠[]->∀ p,H p=none->Q (.ref p) (upd H p (.tup (xs++ys))))
theorem Vals.nil_iff {xs:List V} {us:List Value} (r:Vals xs us):us=[]↔xs=[]:=by
 cases r with
 | nil=>simp
 | cons _ _=>simp
theorem jon_:OpR X (binaryOp .Add) (jte_ X.K):=by
 intro pins s σ H x y v u Q I rx ry h
 obtain⟨a,b,xs,ys,rfl,rfl,ha,hb,hx,hz,q1,q2⟩:=h
 cases rx
 cases ry
 obtain⟨its,r1,p1,_⟩:=I.tuple ha
 obtain⟨its2,r2,p2,_⟩:=I.tuple hb
 refine HT.cat_tup p1 p2 (fun z=>hx (r1.nil_iff.mp z)) (fun z=>⟨.ref a,H,I,rfl,q1 (r2.nil_iff.mp z)⟩) (fun z=>?_) (by rw[<- r1.length,<- r2.length];exact hz)
 refine⟨.ref s.heap.objs.size,_,I.laid (t':=s.toks) (o:=.tup (xs++ys)) (fun b ob q=>pg_ _ q) (pk_ _) ?_,rfl,q2 (fun w=>z (r2.nil_iff.mpr w)) _ (I.hok.fresh (pk_ _))⟩
 exact⟨by rw[pd_];exact hz,_,r1.append r2,IsTup.new _ _⟩
end
end L2
namespace L2
open PySem PySem.Spec PyProof.Rows
def ixN (n:Nat) (i:Int):Option Nat:=if 0<=i then (if i < n then some i.toNat else none) else if -(n:Int)<=i then some (i+n).toNat else none
def atI {α:Type} (xs:List α) (i:Int):Option α:=(ixN xs.length i).bind fun j=>xs[j]?
theorem jhs_ {n:Nat} {i:Int} {j:Nat} (h:ixN n i=some j):seqIndex? i n=some j/\j < n/\-(n:Int)<=i/\i < n:=by
 unfold ixN at h
 by_cases h0:0<=i
 ·rw[if_pos h0] at h
  by_cases h1:i < n
  ·rw[if_pos h1] at h
   have e:i.toNat=j:=Option.some.inj h
   exact⟨by rw[seqIndex_of h0 h1,e],by omega,by omega,h1⟩
  ·rw[if_neg h1] at h;cases h
 ·rw[if_neg h0] at h
  by_cases h1:-(n:Int)<=i
  ·rw[if_pos h1] at h
   have e:(i+n).toNat=j:=Option.some.inj h
   exact⟨by rw[seqIndex_neg (by omega) h1,e],by omega,h1,by omega⟩
  ·rw[if_neg h1] at h;cases h
theorem jcf_ {α:Type} {xs:List α} {i:Int} {v:α} (h:atI xs i=some v):∃ j,seqIndex? i xs.length=some j/\xs[j]?=some v/\j < xs.length/\-(xs.length:Int)<=i/\i < xs.length:=by
 unfold atI at h
 cases e:ixN xs.length i with
 | none=>rw[e] at h;cases h
 | some j =>
  rw[e] at h
  obtain⟨h1,h2,h3,h4⟩:=jhs_ e
  exact⟨j,h1,h,h2,h3,h4⟩
theorem vm_ {α:Type} {xs:List α} {j:Nat} {v:α} (h:xs[j]?=some v):atI xs (j:Int)=some v:=by
 have hj:j < xs.length:=(ph_.mp h).1
 have e:ixN xs.length (j:Int)=some j:=by
  unfold ixN
  rw[if_pos (by omega),if_pos (by omega)];simp
 unfold atI;rw[e];exact h
def job_ (b:Expr):Prop:=∀ o i,subscripted b false o i=operate [o,i] (getItem o i)
def IxR (X:Cx) (r:R2):Prop :=
 ∀(value slice:Expr) (pins:List (Addr×Obj)) (s:Shared) (σ:St) (H:Hp) (x y:V) (v u:Value) (Q:VK),Inv X pins σ H s->RelV x v->RelV y u->r x y H Q ->
  subscripted slice false v u=operate [v,u] (getItem v u)->wpAny (model X.prog X.w) X.A (subscriptTail value slice v u) (EP X pins σ Q) X.xe s
def MtR (X:Cx) (id:String) (r:V->List V->Hp->VK->Prop):Prop :=
 ∀(pins:List (Addr×Obj)) (s:Shared) (σ:St) (H:Hp) (x:V) (xs:List V) (v:Value) (us:List Value) (Q:VK),Inv X pins σ H s->RelV x v->Vals xs us->r x xs H Q ->
  wpAny (model X.prog X.w) X.A (call (.builtin id) (v::us)) (EP X pins σ Q) X.xe s
section
variable {X:Cx} {a b:Expr} {ta tb:TE} {pos:Pos}
theorem jv_ {r:R2} (hr:IxR X r) (ha:PE X a ta) (hb:PE X b tb) (hs:job_ b):PE X (.Subscript a b pos) (tOp r ta tb):=by
 intro pins s σ H Q I h
 exact Subscript_ (binT ha hb I h fun v u s2 x y H2 I2 rx ry q=>hr a b pins s2 σ H2 x y v u Q I2 rx ry q (hs _ _))
def rIxL (K:pc_):R2:=fun x y H Q=>∃ p xs i v,x=.ref p/\y=.int i/\SqL K H p xs/\atI xs i=some v/\Q v H
def rIxT (K:pc_):R2:=fun x y H Q=>∃ p xs i v,x=.ref p/\y=.int i/\SqT K H p xs/\atI xs i=some v/\Q v H
def rIxS:R2:=fun x y H Q=>∃ z i c,x=.str z/\y=.int i/\z.length<=sizeLine/\atI z.cps.toList i=some c/\Q (.str ⟨#[c]⟩) H
theorem joi_:IxR X (rIxL X.K):=by
 intro value slice pins s σ H x y v u Q I rx ry h hs
 obtain⟨p,xs,i,z,rfl,rfl,hq,he,q⟩:=h
 cases rx
 obtain⟨t,rfl⟩:=ry
 obtain⟨its,r,pl,hz⟩:=I.list hq
 obtain⟨j,h1,h2,h3,h4,h5⟩:=jcf_ he
 obtain⟨w,ew,rw'⟩:=r.get h2
 have hl:=r.length
 have hn:=x6_
 have fin:EP X pins σ Q w s:=⟨z,H,I,rw',q⟩
 by_cases h0:0<=i
 ·have hj:i.toNat=j:=by
   rw[seqIndex_of h0 h5] at h1
   exact Option.some.inj h1
  exact item_listR pl.isList h0 (by omega) (by rw[hj];simpa using ew) fin hs
 ·have hj:(i+(its.toArray.size:Int)).toNat=j:=by
   rw[seqIndex_neg (by omega) h4] at h1
   rw[pj_,<- hl]
   exact Option.some.inj h1
  exact subscriptTail_builtinR (x:=w) pl.isList.typeIs slot_list_getitem.lookup
   (wpAny_getItem_list_neg (Q:=fun r s'=>r=w/\EP X pins σ Q r s') pl.isList (by omega) (by rw[pj_] <;> omega) (by omega) (by rw[hj];simpa using ew) ⟨rfl,fin⟩) hs
theorem jse_:IxR X (rIxT X.K):=by
 intro value slice pins s σ H x y v u Q I rx ry h hs
 obtain⟨p,xs,i,z,rfl,rfl,hq,he,q⟩:=h
 cases rx
 obtain⟨t,rfl⟩:=ry
 obtain⟨its,r,pl,hz⟩:=I.tuple hq
 obtain⟨j,h1,h2,h3,h4,h5⟩:=jcf_ he
 obtain⟨w,ew,rw'⟩:=r.get h2
 have hl:=r.length
 have hn:=x6_
 have fin:EP X pins σ Q w s:=⟨z,H,I,rw',q⟩
 exact subscriptTail_builtinR (x:=w) pl.typeIs slot_tuple_getitem.lookup
  (getItem_tuple (j:=j) (Q:=fun r s'=>r=w/\EP X pins σ Q r s') pl (by omega) (by omega) (by rw[pj_,<- hl];exact h1) (by simpa using ew) ⟨rfl,fin⟩) hs
theorem jre_:IxR X rIxS:=by
 intro value slice pins s σ H x y v u Q I rx ry h hs
 obtain⟨z,i,c,rfl,rfl,hz,he,q⟩:=h
 obtain⟨t,rfl⟩:=rx
 obtain⟨t',rfl⟩:=ry
 obtain⟨j,h1,h2,h3,h4,h5⟩:=jcf_ he
 have hl:z.cps.toList.length=z.length:=by simp[Str.length]
 rw[hl] at h1 h4 h5
 have hn:=x6_
 exact tail_any (typeIs_str s z t) slot_str_getitem.lookup (getItem_str (c:=c) (by
  have e1:decide (i < -(2 ^ 63:Int))=false:=decide_eq_false (by omega)
  have e2:decide (i≥2 ^ 63)=false:=decide_eq_false (by omega)
  rw[e1,e2,Bool.or_false]) (by rw[h1];simpa using h2) ⟨.str ⟨#[c]⟩,H,I.tok _,⟨_,rfl⟩,q⟩) hs
theorem jgc_ (its:List Value) (n j:Nat) (u:Value):ti_ (·.setIfInBounds j u) { cls:=.type "list",data:=.seq its.toArray n }={ cls:=.type "list",data:=.seq (its.set j u).toArray n }:=by
 simp[ti_]
theorem Inv.lst {pins:List (Addr×Obj)} {σ:St} {H:Hp} {s:Shared} {p:Addr} {xs:List V} (I:Inv X pins σ H s) (h:H p=some (.lst xs)) :
  ∃(its:List Value) (n:Nat),Vals xs its/\s.heap.get? p=some { cls:=.type "list",data:=.seq its.toArray n }/\xs.length<=sizeLine:=by
 obtain⟨z,its,n,r,e⟩:=I.hok p _ h
 exact⟨its,n,r,e,z⟩
theorem Inv.lstUpd {pins:List (Addr×Obj)} {σ:St} {H:Hp} {s:Shared} {p:Addr} {xs ys:List V} {its its':List Value} {n n':Nat} {f:Obj->Obj} (I:Inv X pins σ H s) (h:H p=some (.lst xs))
  (ho:s.heap.get? p=some { cls:=.type "list",data:=.seq its.toArray n }) (hf:f { cls:=.type "list",data:=.seq its.toArray n }={ cls:=.type "list",data:=.seq its'.toArray n' }) (r:Vals ys its') (hz:ys.length<=sizeLine) (t:Nat) :
  Inv X pins σ (upd H p (.lst ys)) { s with heap:=s.heap.update p f,toks:=t }:=by
 have e:(s.heap.update p f).get? p=some { cls:=.type "list",data:=.seq its'.toArray n' }:=by
  rw[ts_ f ho (by rw[hf] <;> rfl),hf]
 refine I.write (x:=p) (e:=p) (by rw[h];trivial) (.inl rfl) (fun b u hb q=>(sl_ _ _ (wf_ hb)).trans q) ⟨_,e⟩ ?_
 exact⟨hz,its',n',r,e⟩
def juq_:V->V->V->Hp->(Hp->Prop)->Prop:=fun o i v H Q=>∃ p xs k j,o=.ref p/\i=.int k/\H p=some (.lst xs)/\ixN xs.length k=some j/\Q (upd H p (.lst (xs.set j v)))
theorem jlk_:PSet X juq_:=by
 intro pins s σ H o i v ov iv u Q I ro ri rv h
 obtain⟨p,xs,k,j,rfl,rfl,hp,hj,q⟩:=h
 cases ro
 obtain⟨t,rfl⟩:=ri
 obtain⟨its,n,r,ho,hz⟩:=I.lst hp
 obtain⟨h1,h2,h3,h4⟩:=jhs_ hj
 have hl:=r.length
 have hn:=x6_
 have I':Inv X pins σ (upd H p (.lst (xs.set j v))) { s with heap:=s.heap.update p (ti_ (·.setIfInBounds j u)) } :=
  I.lstUpd hp ho (jgc_ its n j u) (r.set rv j) (by rw[List.length_set];exact hz) s.toks
 by_cases h0:0<=k
 ·have hk:k.toNat=j:=by
   rw[seqIndex_of h0 h4] at h1
   exact Option.some.inj h1
  exact PySem.W.ki_setAt ho h0 (by omega) (by rw[pj_,<- hl];exact h4) (by rw[hk];exact⟨_,I',q⟩)
 ·have hk:(k+(its.toArray.size:Int)).toNat=j:=by
   rw[seqIndex_neg (by omega) h3] at h1
   rw[pj_,<- hl]
   exact Option.some.inj h1
  exact PySem.W.ki_setBack ho (by omega) (by rw[pj_,<- hl];exact h3) (by omega) (by rw[hk];exact⟨_,I',q⟩)
theorem jch_ (lo hi:Option Int) (n:Nat):(sliceBounds lo hi none n).1=((HT.sIx n 0 lo:Nat):Int)/\(sliceBounds lo hi none n).2.1=((HT.sIx n n hi:Nat):Int)/\(sliceBounds lo hi none n).2.2=1:=by
 refine⟨?_,?_,rfl⟩
 ·cases lo with
  | none=>simp[sliceBounds,HT.sIx]
  | some i =>
   simp only[sliceBounds,HT.sIx,Option.getD_none,show (1:Int) > 0 by decide,if_true]
   by_cases h:i < 0
   ·simp only[h,if_true] <;> omega
   ·simp only[h,if_false] <;> omega
 ·cases hi with
  | none=>simp[sliceBounds,HT.sIx]
  | some i =>
   simp only[sliceBounds,HT.sIx,Option.getD_none,show (1:Int) > 0 by decide,if_true]
   by_cases h:i < 0
   ·simp only[h,if_true] <;> omega
   ·simp only[h,if_false] <;> omega
theorem jaz_ (its:List Value) (lo hi:Option Int):slicePick its.toArray lo hi none=((its.drop (HT.sIx its.length 0 lo)).take (HT.sIx its.length its.length hi - HT.sIx its.length 0 lo)).toArray:=by
 obtain⟨h1,h2,h3⟩:=jch_ lo hi its.toArray.size
 unfold slicePick
 rw[h1,h2,h3]
 simp only[sliceRange_one,pick_run,pj_] <;> rfl
def rSlL (K:pc_):V->Option Int->Option Int->Hp->VK->Prop:=fun x lo hi H Q=>∃ a xs,x=.ref a/\SqL K H a xs/\∀ p,H p=none->Q (.ref p) (upd H p (.lst (cutV xs lo hi)))
theorem jns_:SlR X (rSlL X.K):=by
 intro pins s σ H x v vl vu lo hi sl Q I rx hs pl pu h
 obtain⟨a,xs,rfl,hx,q⟩:=h
 cases rx
 obtain⟨its,r,ht,hz⟩:=I.list hx
 have hlen:=r.length
 refine⟨"list",_,slot_list_getitem.lookup,ht.isList.typeIs,?_⟩
 refine wpAny_getItem_list_slice ht.isList hs pl pu .none (by simp) ?_ (by rw[pj_] <;> omega)
 rw[jaz_,<- hlen]
 refine⟨.ref s.heap.objs.size,_,I.laid (t':=s.toks) (o:=.lst (cutV xs lo hi)) (fun b ob q=>pg_ _ q) (pk_ _) ?_,rfl,q _ (I.hok.fresh (pk_ _))⟩
 exact⟨p5_ (uc_ xs lo hi) hz,_,0,(r.drop (HT.sIx xs.length 0 lo)).take (HT.sIx xs.length xs.length hi - HT.sIx xs.length 0 lo),py_ _ rfl⟩
def yj_:V->Bool
 | .non=>true
 | .bl _=>true
 | .int _=>true
 | .str _=>true
 | _=>false
def eqV:V->V->Bool
 | .non,.non=>true
 | .bl a,.bl b=>a == b
 | .bl a,.int b=>(if a then 1 else 0) == b
 | .int a,.bl b=>a == (if b then 1 else 0)
 | .int a,.int b=>a == b
 | .str a,.str b=>a == b
 | _,_=>false
theorem jqz_ {A:Around} {s:Shared} {y x:V} {u v:Value} (ry:RelV y u) (rx:RelV x v) (fy:yj_ y=true) (fx:yj_ x=true):qn_ A s u v (eqV y x):=by
 cases y with
 | non =>
  cases ry
  cases x with
  | non=>cases rx;exact qn_.same _
  | bl b=>cases rx;exact qn_.none_bool b
  | int b=>obtain⟨t,rfl⟩:=rx;exact kn_ b t
  | str b=>obtain⟨t,rfl⟩:=rx;exact ko_ b t
  | _=>exact absurd (show false=true from fx) pf_
 | bl a =>
  cases ry
  cases x with
  | non=>cases rx;exact qn_.bool_none a
  | bl b=>cases rx;exact qn_.bool_bool a b
  | int b=>obtain⟨t,rfl⟩:=rx;exact qn_.bool_int a b t
  | str b=>obtain⟨t,rfl⟩:=rx;exact qn_.bool_str a b t
  | _=>exact absurd (show false=true from fx) pf_
 | int a =>
  obtain⟨t',rfl⟩:=ry
  cases x with
  | non=>cases rx;exact kp_ a t'
  | bl b=>cases rx;exact qn_.int_bool a t' b
  | int b=>obtain⟨t,rfl⟩:=rx;exact qn_.int_int a t' b t
  | str b=>obtain⟨t,rfl⟩:=rx;exact kt_ a t' b t
  | _=>exact absurd (show false=true from fx) pf_
 | str a =>
  obtain⟨t',rfl⟩:=ry
  cases x with
  | non=>cases rx;exact kq_ a t'
  | bl b=>cases rx;exact qn_.str_bool a t' b
  | int b=>obtain⟨t,rfl⟩:=rx;exact ku_ a t' b t
  | str b=>obtain⟨t,rfl⟩:=rx;exact kv_ a t' b t
  | _=>exact absurd (show false=true from fx) pf_
 | _=>exact absurd (show false=true from fy) pf_
def eqU (x:V) (u:Value):Bool:=match u with
 | .none=>eqV .non x
 | .bool b=>eqV (.bl b) x
 | .int i _=>eqV (.int i) x
 | .str z _=>eqV (.str z) x
 | _=>false
theorem jne_ {x y:V} {u:Value} (r:RelV y u) (f:yj_ y=true):eqU x u=eqV y x:=by
 cases y with
 | non=>cases r;rfl
 | bl b=>cases r;rfl
 | int i=>obtain⟨t,rfl⟩:=r;rfl
 | str z=>obtain⟨t,rfl⟩:=r;rfl
 | _=>exact absurd (show false=true from f) pf_
theorem vr_ {x:V}:∀{xs:List V} {us:List Value},Vals xs us->xs.all yj_=true->us.any (eqU x)=xs.any fun y=>eqV y x
 | _,_,.nil,_=>rfl
 | y::xs,u::us,.cons r t,f=>by
  rw[ww_,p2_] at f
  rw[ty_,ty_,jne_ r f.1,vr_ t f.2]
theorem xj_ {A:Around} {s:Shared} {x:V} {v:Value} (rx:RelV x v) (fx:yj_ x=true):∀{xs:List V} {us:List Value},Vals xs us->xs.all yj_=true->∀ u∈us,qn_ A s u v (eqU x u)
 | _,_,.nil,_=>fun u hu=>by cases hu
 | y::xs,u::us,.cons r t,f=>fun u' hu=>by
  rw[ww_,p2_] at f
  rcases p7_.mp hu with rfl | hu
  ·rw[jne_ r f.1];exact jqz_ r rx f.1 fx
  ·exact xj_ rx fx t f.2 u' hu
def inV (x:V) (xs:List V):Bool:=xs.any fun y=>eqV y x
def rIn (K:pc_) (neg:Bool):R2:=fun x y H Q=>∃ p xs,y=.ref p/\(SqL K H p xs∨SqT K H p xs)/\yj_ x=true/\xs.all yj_=true/\Q (.bl (if neg then !inV x xs else inV x xs)) H
theorem jka_:OpR X (compareOp .In) (rIn X.K false):=by
 intro pins s σ H x y v u Q I rx ry h
 obtain⟨p,xs,rfl,hq,fx,fs,q⟩:=h
 cases ry
 rcases hq with hq | hq
 ·obtain⟨its,r,pl,hz⟩:=I.list hq
  refine SeqAt.in_listAt (eqU x) pl.isList (fun w hw=>xj_ rx fx r fs w (by simpa using hw)) ⟨.bl _,H,I,rfl,?_⟩
  rw[show its.toArray.any (eqU x)=its.any (eqU x) by simp,vr_ r fs]
  exact q
 ·obtain⟨its,r,pl,hz⟩:=I.tuple hq
  refine SeqAt.in_tupleAt (eqU x) pl (fun w hw=>xj_ rx fx r fs w (by simpa using hw)) ⟨.bl _,H,I,rfl,?_⟩
  rw[show its.toArray.any (eqU x)=its.any (eqU x) by simp,vr_ r fs]
  exact q
theorem jcr_:OpR X (compareOp .NotIn) (rIn X.K true):=by
 intro pins s σ H x y v u Q I rx ry h
 obtain⟨p,xs,rfl,hq,fx,fs,q⟩:=h
 cases ry
 rcases hq with hq | hq
 ·obtain⟨its,r,pl,hz⟩:=I.list hq
  refine SeqAt.notIn_listAt (eqU x) pl.isList (fun w hw=>xj_ rx fx r fs w (by simpa using hw)) ⟨.bl _,H,I,rfl,?_⟩
  rw[show its.toArray.any (eqU x)=its.any (eqU x) by simp,vr_ r fs]
  exact q
 ·obtain⟨its,r,pl,hz⟩:=I.tuple hq
  refine SeqAt.notIn_tupleAt (eqU x) pl (fun w hw=>xj_ rx fx r fs w (by simpa using hw)) ⟨.bl _,H,I,rfl,?_⟩
  rw[show its.toArray.any (eqU x)=its.any (eqU x) by simp,vr_ r fs]
  exact q
theorem jcn_:CallR X (.builtin "len") (fun xs H Q=>∃ p ys,xs=[.ref p]/\(SqL X.K H p ys∨SqT X.K H p ys)/\Q (.int ys.length) H):=by
 intro pins s σ H xs us Q I r h
 obtain⟨p,ys,rfl,hq,q⟩:=h
 obtain⟨u,rfl,rx⟩:=ue_ r
 cases rx
 have hn:=x6_
 rcases hq with hq | hq
 ·obtain⟨its,r',pl,hz⟩:=I.list hq
  have hlen:=r'.length
  exact Calls.call_len_list pl.isList (by simp only[pj_] <;> omega) ⟨.int ys.length,H,I.tok _,⟨s.toks+1,by rw[pj_,hlen]⟩,q⟩
 ·obtain⟨its,r',pl,hz⟩:=I.tuple hq
  have hlen:=r'.length
  exact len_tuple pl (by simp only[pj_] <;> omega) ⟨.int ys.length,H,I.tok _,⟨s.toks+1,by rw[pj_,hlen]⟩,q⟩
theorem jco_:CallR X (.builtin "len") (fun xs H Q=>∃ z,xs=[.str z]/\z.length<=sizeLine/\Q (.int z.length) H):=by
 intro pins s σ H xs us Q I r h
 obtain⟨z,rfl,hz,q⟩:=h
 obtain⟨u,rfl,t,rfl⟩:=ue_ r
 have hn:=x6_
 exact len_str (by omega) ⟨.int z.length,H,I.tok _,⟨_,rfl⟩,q⟩
theorem call_list_of:CallR X (.type "list") (fun xs H Q=>∃ p ys,xs=[.ref p]/\(SqL X.K H p ys∨SqT X.K H p ys)/\∀ l,H l=none->Q (.ref l) (upd H l (.lst ys))):=by
 intro pins s σ H xs us Q I r h
 obtain⟨p,ys,rfl,hq,q⟩:=h
 obtain⟨u,rfl,rx⟩:=ue_ r
 cases rx
 have fin:∀(its:List Value),Vals ys its->ys.length<=sizeLine->∀(h':Heap) (c':Nat),(∀ b o',s.heap.get? b=some o'->h'.get? b=some o') ->
   h'.get? s.heap.objs.size=some { cls:=.type "list",dict:=none,data:=.seq its.toArray c',slots:=#[] }->EP X pins σ Q (.ref s.heap.objs.size) { s with heap:=h' }:=fun its r' hz h' c' kp e =>
  ⟨.ref s.heap.objs.size,_,I.laid (t':=s.toks) kp (pk_ _) (show ObjOk X.prog X.w _ h' _ (.lst ys) from ⟨hz,its,c',r',e⟩),rfl,q _ (I.hok.fresh (pk_ _))⟩
 rcases hq with hq | hq
 ·obtain⟨its,r',pl,hz⟩:=I.list hq
  have hlen:=r'.length
  obtain⟨o,ho,hc,n,hd⟩:=pl.isList
  exact call_list_seq p (.inl rfl) ho hc hd (fun h' c' kp e=>fin its r' hz h' c' kp e) (by simp only[pj_] <;> omega)
 ·obtain⟨its,r',pl,hz⟩:=I.tuple hq
  have hlen:=r'.length
  obtain⟨o,ho,hc,n,hd⟩:=pl
  exact call_list_seq p (.inr rfl) ho hc hd (fun h' c' kp e=>fin its r' hz h' c' kp e) (by simp only[pj_] <;> omega)
theorem call_tuple_of:CallR X (.type "tuple") (fun xs H Q=>∃ p ys,xs=[.ref p]/\((SqL X.K H p ys/\∀ l,H l=none->Q (.ref l) (upd H l (.tup ys)))∨(SqT X.K H p ys/\Q (.ref p) H))):=by
 intro pins s σ H xs us Q I r h
 obtain⟨p,ys,rfl,h⟩:=h
 obtain⟨u,rfl,rx⟩:=ue_ r
 cases rx
 rcases h with ⟨hq,q⟩ | ⟨hq,q⟩
 ·obtain⟨its,r',pl,hz⟩:=I.list hq
  have hlen:=r'.length
  refine call_tuple_list pl.isList (fun h' kp=>?_) (by simp only[pj_] <;> omega)
  have I1:Inv X pins σ H { s with heap:=h' }:=I.kept (t':=s.toks) kp
  have I2:Inv X pins σ (upd H h'.objs.size (.tup ys)) { s with heap:=h'.push { cls:=.type "tuple",data:=.seq its.toArray } } :=
   I1.laid (t':=s.toks) (fun b o e=>pg_ _ e) (pk_ _) (show ObjOk X.prog X.w _ _ _ (.tup ys) from ⟨hz,its,r',IsTup.new _ _⟩)
  exact⟨.ref h'.objs.size,_,I2,rfl,q _ (I1.hok.fresh (pk_ _))⟩
 ·obtain⟨its,r',pl,hz⟩:=I.tuple hq
  exact call_tuple_same pl ⟨.ref p,H,I,rfl,q⟩
def tyV (K:pc_) (T:String) (x:V) (H:Hp):Prop:=match x with
 | .str _=>T="str"
 | .int _=>T="int"
 | .ref p=>(T="list"/\∃ xs,SqL K H p xs)∨(T="tuple"/\∃ o,K.lookup p=some o/\o.cls=.type "tuple"/\o.dict=none) ∨
   (T="dict"/\((∃ kvs,H p=some (.dK kvs))∨∃ kvs,H p=some (.dT kvs)))∨(T="set"/\∃ S n,H p=some (.set S n))
 | _=>False
theorem jna_ {pins:List (Addr×Obj)} {σ:St} {H:Hp} {s:Shared} {T:String} {x:V} {v:Value} (I:Inv X pins σ H s) (r:RelV x v) (ty:tyV X.K T x H) :
  s.TypeIs v T/\∀ a,v=.ref a->∃ ob,s.heap.get? a=some ob/\ob.dict=none:=by
 cases x with
 | str z =>
  obtain⟨t,rfl⟩:=r
  cases (show T="str" from ty)
  exact⟨typeIs_str s z t,fun _ e=>nomatch e⟩
 | int i =>
  obtain⟨t,rfl⟩:=r
  cases (show T="int" from ty)
  exact⟨typeIs_int s i t,fun _ e=>nomatch e⟩
 | ref p =>
  cases r
  rcases ty with ⟨rfl,xs,hq⟩ | ⟨rfl,o,hk,hc,hd⟩ | ⟨rfl,hk⟩ | ⟨rfl,S,n,hk⟩
  ·obtain⟨its,_,pl,_⟩:=I.list hq
   refine⟨pl.isList.typeIs,fun a e=>?_⟩
   cases e
   obtain⟨o,n,e,c,hd,_⟩:=pl
   exact⟨o,e,hd⟩
  ·refine⟨⟨o,I.kIn p o hk,hc⟩,fun a e=>?_⟩
   cases e
   exact⟨o,I.kIn _ o hk,hd⟩
  ·have z:∃ o,s.heap.get? p=some o/\o.ExactDict:=by
    rcases hk with ⟨kvs,hk⟩ | ⟨kvs,hk⟩
    ·obtain⟨_,_,_,_,o,_,_,e,ex,_⟩:=I.hok p _ hk
     exact⟨o,e,ex⟩
    ·obtain⟨_,_,_,_,o,_,_,e,ex,_⟩:=I.hok p _ hk
     exact⟨o,e,ex⟩
   obtain⟨o,e,ex⟩:=z
   refine⟨⟨o,e,ex.1⟩,fun a e2=>?_⟩
   cases e2
   exact⟨o,e,ex.2.1⟩
  ·obtain⟨o,_,_,_,e,ex,_⟩:=I.hok p _ hk
   refine⟨⟨o,e,ex.1⟩,fun a e2=>?_⟩
   cases e2
   exact⟨o,e,ex.2.1⟩
 | _=>exact sr_ ty
def tBM0 (K:pc_) (T:String) (r:V->List V->Hp->VK->Prop) (to:TE):TE:=fun σ H Q=>to σ H fun x H1=>tyV K T x H1/\r x [] H1 Q
def tBM (K:pc_) (T:String) (r:V->List V->Hp->VK->Prop) (to:TE) (t:TA):TE:=fun σ H Q=>to σ H fun x H1=>tyV K T x H1/\t σ H1 fun xs H2=>r x xs H2 Q
variable {o e:Expr} {es:List Expr} {to:TE} {t:TA} {name:Str} {apos cpos:Pos} {T id:String} {r:V->List V->Hp->VK->Prop}
theorem jsb_ (pa:PlainAttrs T) (slot:Slot T name id) (hty:typeOf (.builtin id)=pure (.type "method_descriptor")) (hm:MtR X id r) (ho:PE X o to)
  (hbase:attributeBase o name X.env (eval o X.env)=eval o X.env:=by rfl) (hline:(apos.endLine == cpos.line)=true:=by rfl):PE X (.Call (.Attribute o name apos) [] [] cpos) (tBM0 X.K T r to):=by
 intro pins s σ H Q I h
 refine wpAny_Call_method0_late hbase hline (thn (ho pins s σ H _ I h) fun v s1 ⟨x,H1,I1,r1,ty,q1⟩=>?_)
 obtain⟨h1,h2⟩:=jna_ I1 r1 ty
 exact⟨T,id,pa,slot,hty,h1,h2,tf_ rfl (PySem.evalArgs_none (hm pins s1 σ H1 x [] v [] Q I1 r1 .nil q1))⟩
theorem jum_ (pa:PlainAttrs T) (slot:Slot T name id) (hty:typeOf (.builtin id)=pure (.type "method_descriptor")) (hm:MtR X id r) (ho:PE X o to) (ha:PA X (e::es) t)
  (hbase:attributeBase o name X.env (eval o X.env)=eval o X.env:=by rfl)
  (hfew:((backTo cpos (starEach (e::es) X.env)).all (fun x=>!x.1)&&(backToKw cpos (keywordEach [] X.env)).all (fun x=>x.1.isSome)
   && decide ((e::es).length+([]:List Keyword).length+(if ([]:List Keyword).isEmpty then 0 else 1) < 30))=true:=by rfl)
  (hline:(apos.endLine == cpos.line)=true:=by rfl) (hs:starEach (e::es) X.env=(false,eval e X.env)::starEach es X.env:=by rfl) (hplain:(backTo cpos (starEach es X.env)).any (·.1)=false:=by rfl) :
  PE X (.Call (.Attribute o name apos) (e::es) [] cpos) (tBM X.K T r to t):=by
 intro pins s σ H Q I h
 refine wpAny_Call_method_late hbase hfew hline rfl (thn (ho pins s σ H _ I h) fun v s1 ⟨x,H1,I1,r1,ty,q1⟩=>?_)
 obtain⟨h1,h2⟩:=jna_ I1 r1 ty
 refine⟨T,id,pa,slot,hty,h1,h2,?_⟩
 have hA:=ha cpos pins s1 σ H1 _ I1 q1
 rw[hs] at hA ⊢
 refine tf_ (by show (false || (backTo cpos (starEach es X.env)).any (·.1))=false;rw[hplain] <;> rfl) (kk_ ?_)
 exact thn hA fun us s2 ⟨vs,H2,I2,r2,q2⟩=>hm pins s2 σ H2 x vs v us Q I2 r1 r2 q2
/- xs.append(e),list.index on a module's tuple .. are MtR facts of 06m -/
end
end L2
namespace L2
open PySem PySem.Spec PyProof.Rows
def MtM (X:Cx) (id:String) (r:V->List V->Hp->VK->Prop):Prop :=
 ∀(pins:List (Addr×Obj)) (s:Shared) (σ:St) (H:Hp) (x:V) (xs:List V) (v:Value) (us:List Value) (Q:VK),Inv X pins σ H s->RelV x v->Vals xs us->r x xs H Q ->
  wpAny (model X.prog X.w) X.A (call (.builtin id) (v::us)) (EP X pins σ Q) X.xe s
theorem Vals.one:∀{x:V} {us:List Value},Vals [x] us->∃ u,us=[u]/\RelV x u
 | _,_,.cons r .nil=>⟨_,rfl,r⟩
theorem Vals.zero:∀{us:List Value},Vals [] us->us=[]
 | _,.nil=>rfl
theorem Vals.dropLast {xs:List V} {us:List Value} (h:Vals xs us):Vals xs.dropLast us.dropLast:=by
 induction h with
 | nil=>exact .nil
 | cons r t ih =>
  cases t with
  | nil=>exact .nil
  | cons q t'=>exact .cons r ih
theorem Vals.rep {xs:List V} {us:List Value} (h:Vals xs us):∀ k:Nat,Vals (pe_ k xs).flatten (pe_ k us).flatten
 | 0=>.nil
 | k+1=>by
  rw[rr_,rr_,qj_,qj_]
  exact Vals.append h (Vals.rep h k)
theorem jgt_ {α:Type} (l:List α):l.eraseIdx (l.length - 1)=l.dropLast:=by
 induction l with
 | nil=>rfl
 | cons a r ih =>
  cases r with
  | nil=>rfl
  | cons b r =>
   have e:(a::b::r).length - 1=((b::r).length - 1)+1:=by
    have h1:(a::b::r).length=r.length+2:=rfl
    have h2:(b::r).length=r.length+1:=rfl
    omega
   rw[e,wx_,ih]
   all_goals rfl
theorem jbp_ (its:List Value):∀(k:Nat) (acc:List Value),
  List.foldl (fun x1 x2=>x1++x2) acc.toArray (pe_ k its.toArray)=(acc++(pe_ k its).flatten).toArray
 | 0,acc=>by simp
 | k+1,acc=>by
  have e:acc.toArray++its.toArray=(acc++its).toArray:=by simp
  have e2:(acc++its)++(pe_ k its).flatten=acc++(pe_ (k+1) its).flatten:=by
   rw[rr_,qj_,pp_]
  rw[<- e2,<- jbp_ its k (acc++its),<- e,rr_,w8_]
section
variable {X:Cx} {pins:List (Addr×Obj)} {σ:St} {H:Hp} {s:Shared} {l b:Addr} {xs ys zs:List V}
theorem Inv.lset {its its':List Value} {n:Nat} {f:Array Value->Array Value} {t':Nat} (I:Inv X pins σ H s) (hH:H l=some (.lst xs))
  (e:s.heap.get? l=some { cls:=.type "list",data:=.seq its.toArray n }) (hf:f its.toArray=its'.toArray) (hv:Vals ys its') (hz:ys.length<=sizeLine) :
  Inv X pins σ (upd H l (.lst ys)) { s with heap:=s.heap.update l (ti_ f),toks:=t' }:=by
 have q:=PySem.IsL.update e f
 rw[hf] at q
 refine I.write (x:=l) (e:=l) (by rw[hH];exact trivial) (.inl rfl) (fun b' u hb hu=>(sl_ s.heap (ti_ f) (wf_ hb)).trans hu) ⟨_,q⟩ ?_
 exact⟨hz,its',_,hv,q⟩
theorem Inv.lnew {its:List Value} {t':Nat} (I:Inv X pins σ H s) (hv:Vals ys its) (hz:ys.length<=sizeLine) :
  Inv X pins σ (upd H s.heap.objs.size (.lst ys)) { s with heap:=s.heap.push { cls:=.type "list",data:=.seq its.toArray },toks:=t' } :=
 I.laid (fun _ _ q=>pg_ _ q) (pk_ _) ⟨hz,its,0,hv,py_ _ rfl⟩
theorem Inv.fresh (I:Inv X pins σ H s):H s.heap.objs.size=none:=I.hok.fresh (pk_ _)
theorem Inv.lstM (I:Inv X pins σ H s) (hH:H l=some (.lst xs)):xs.length<=sizeLine/\∃(its:List Value) (n:Nat),Vals xs its/\xs.length=its.length/\s.heap.get? l=some { cls:=.type "list",data:=.seq its.toArray n }:=by
 obtain⟨z,its,n,r,e⟩:=I.hok l _ hH
 exact⟨z,its,n,r,r.length,e⟩
theorem jee_ {n:Nat} (h:n<=sizeLine):r8_ n=false:=by
 unfold r8_
 exact decide_eq_false (by omega)
end
section
variable {X:Cx}
def jpi_:V->List V->Hp->VK->Prop:=fun x vs H Q=>∃ l xs y,x=.ref l/\vs=[y]/\H l=some (.lst xs)/\xs.length < sizeLine/\Q .non (upd H l (.lst (xs++[y])))
theorem jbu_:MtM X "list.append" jpi_:=by
 intro pins s σ H x vs v us Q I rx rv h
 obtain⟨l,xs,y,rfl,rfl,hH,hz,q⟩:=h
 cases rx
 obtain⟨u,rfl,ru⟩:=rv.one
 obtain⟨z,its,n,r,hl,e⟩:=I.lstM hH
 refine call_meets F.slot_list_append ⟨_,e,rfl⟩ F.entry_list_append (F.args_list_append_2 _ _) (PySem.list_append l its.toArray n u (by rw[pj_];omega)) ⟨e,?_⟩
 refine⟨.non,_,I.lset (its':=its++[u]) hH e (by simp) (r.append (.cons ru .nil)) ?_,rfl,q⟩
 rw[pd_,tt_]
 omega
def jor_:V->List V->Hp->VK->Prop:=fun x vs H Q=>∃ l b xs zs,x=.ref l/\vs=[.ref b]/\H l=some (.lst xs)/\H b=some (.lst zs)/\xs.length+zs.length<=sizeLine/\Q .non (upd H l (.lst (xs++zs)))
theorem jjd_:MtM X "list.extend" jor_:=by
 intro pins s σ H x vs v us Q I rx rv h
 obtain⟨l,b,xs,zs,rfl,rfl,hH,hB,hz,q⟩:=h
 cases rx
 obtain⟨u,rfl,ru⟩:=rv.one
 cases ru
 obtain⟨z,its,n,r,hl,e⟩:=I.lstM hH
 obtain⟨z2,its2,n2,r2,hl2,e2⟩:=I.lstM hB
 have hsz:its.toArray.size+its2.toArray.size<=sizeLine:=by rw[pj_,pj_];omega
 have hlong:¬ (!its.toArray.isEmpty&&r8_ (its.toArray.size+its2.toArray.size))=true:=by
  rw[jee_ hsz,Bool.and_false]
  exact pf_
 refine call_meets F.slot_list_extend ⟨_,e,rfl⟩ F.entry_list_extend (F.args_list_extend_2 _ _)
  (AutoSeq1.list_extend_list_list_0 l its.toArray n b its2.toArray n2 hlong (by rw[pj_];omega) (by omega)) ⟨e,e2,?_⟩
 refine⟨.non,_,I.lset (its':=its++its2) hH e (by simp) (r.append r2) ?_,rfl,q⟩
 rw[pd_]
 omega
def rPop:V->List V->Hp->VK->Prop:=fun x vs H Q=>∃ l xs y,x=.ref l/\vs=[]/\H l=some (.lst xs)/\xs[xs.length - 1]?=some y/\Q y (upd H l (.lst xs.dropLast))
theorem juu_:MtM X "list.pop" rPop:=by
 intro pins s σ H x vs v us Q I rx rv h
 obtain⟨l,xs,y,rfl,rfl,hH,hy,q⟩:=h
 cases rx
 have hus:=rv.zero
 subst hus
 obtain⟨z,its,n,r,hl,e⟩:=I.lstM hH
 obtain⟨u,hu,ru⟩:=r.get hy
 have hy':its.toArray[its.toArray.size - 1]?=some u:=by
  show its.toArray[its.length - 1]?=some u
  rw[<- qi_,<- hl]
  exact hu
 refine call_meets F.slot_list_pop ⟨_,e,rfl⟩ F.entry_list_pop (F.args_list_pop_1 _) (MeetsSeq.list_pop_last l its.toArray n u hy' (by rw[pj_];omega)) ⟨e,?_⟩
 refine⟨y,_,I.lset (its':=its.dropLast) hH e ?_ r.dropLast ?_,ru,q⟩
 ·show its.toArray.eraseIdxIfInBounds (its.toArray.size - 1)=its.dropLast.toArray
  rw[pj_,List.eraseIdxIfInBounds_toArray,jgt_]
 ·rw[List.length_dropLast]
  omega
def jrb_:V->List V->Hp->VK->Prop:=fun x vs H Q=>∃ l xs,x=.ref l/\vs=[]/\H l=some (.lst xs)/\Q .non (upd H l (.lst []))
theorem jng_:MtM X "list.clear" jrb_:=by
 intro pins s σ H x vs v us Q I rx rv h
 obtain⟨l,xs,rfl,rfl,hH,q⟩:=h
 cases rx
 have hus:=rv.zero
 subst hus
 obtain⟨z,its,n,r,hl,e⟩:=I.lstM hH
 refine call_meets F.slot_list_clear ⟨_,e,rfl⟩ F.entry_list_clear (F.args_list_clear_1 _) (AutoSeq1.list_clear_list_0 l its.toArray n (by rw[pj_];omega)) ⟨e,?_⟩
 exact⟨.non,_,I.lset (its':=[]) (ys:=[]) hH e rfl .nil (qz_ _),rfl,q⟩
def rCat:R2:=fun x y H Q=>∃ l b xs zs,x=.ref l/\y=.ref b/\H l=some (.lst xs)/\H b=some (.lst zs)/\xs.length+zs.length<=sizeLine/\∀ p,H p=none->Q (.ref p) (upd H p (.lst (xs++zs)))
theorem jrl_:OpR X (binaryOp .Add) rCat:=by
 intro pins s σ H x y v u Q I rx ry h
 obtain⟨l,b,xs,zs,rfl,rfl,hH,hB,hz,q⟩:=h
 cases rx
 cases ry
 obtain⟨z,its,n,r,hl,e⟩:=I.lstM hH
 obtain⟨z2,its2,n2,r2,hl2,e2⟩:=I.lstM hB
 refine PySem.P.add_list e e2 ?_ (by rw[pj_,pj_];omega)
 have ea:its.toArray++its2.toArray=(its++its2).toArray:=by simp
 rw[ea]
 exact⟨.ref _,_,I.lnew (t':=s.toks) (r.append r2) (by rw[pd_];omega),rfl,q _ I.fresh⟩
def rRep:R2:=fun x y H Q=>∃ l k xs,x=.ref l/\y=.int k/\H l=some (.lst xs)/\-(2 ^ 63)<=k/\k < 2 ^ 63/\xs.length * k.toNat<=sizeLine /\
 ∀ p,H p=none->Q (.ref p) (upd H p (.lst (pe_ k.toNat xs).flatten))
theorem joa_ {α:Type} (xs:List α) (k:Nat):(pe_ k xs).flatten.length=k * xs.length:=by
 induction k with
 | zero=>simp
 | succ k ih=>rw[rr_,qj_,pd_,ih,rp_,k1_]
theorem jqw_:OpR X (binaryOp .Mult) rRep:=by
 intro pins s σ H x y v u Q I rx ry h
 obtain⟨l,k,xs,rfl,rfl,hH,h1,h2,hz,q⟩:=h
 cases rx
 obtain⟨t,rfl⟩:=ry
 obtain⟨z,its,n,r,hl,e⟩:=I.lstM hH
 have hlen:its.toArray.size * k.toNat<=sizeLine:=by rw[pj_,<- hl];exact hz
 have hcap:¬ its.toArray.size * k.toNat > (2 ^ 63 - 1) / 8:=by
  have:(sizeLine:Nat)<=(2 ^ 63 - 1) / 8:=by decide
  omega
 have hfit:¬ (!Builtin.List.listFitsIndex k)=true:=by
  rw[fitsIndex_both h1 h2]
  exact pf_
 have hlong:¬ r8_ (its.toArray.size * k.toNat)=true:=by
  rw[jee_ hlen]
  exact pf_
 have hnew:List.foldl (fun x1 x2=>x1++x2) #[] (pe_ (if its.toArray.isEmpty=true then 0 else k.toNat) its.toArray)=(pe_ k.toNat its).flatten.toArray:=by
  have f0:∀ m:Nat,List.foldl (fun x1 x2=>x1++x2) #[] (pe_ m its.toArray)=(pe_ m its).flatten.toArray:=fun m=>by
   have:=jbp_ its m []
   rw[ta_] at this
   exact this
  rw[f0]
  cases its with
  | nil=>simp
  | cons a r'=>rw[if_neg (by simp)]
 refine wpAny_binaryOp_repeat_ref (T:="list") (U:="int") (by decide) ⟨_,e,rfl⟩ (fun s'=>typeIs_int s' k t) noFill_list_mul F.fills_int_mul F.slot_int_rmul repeat_list F.slot_int_index.lookup
  (call_meets F.slot_int_rmul (typeIs_int s k t) F.entry_int_rmul (F.args_int_rmul_2 _ _) (int___rmul___int_list k t l its.toArray n)
   ⟨e,rfl,⟨_,e,rfl⟩,call_meets F.slot_list_mul ⟨_,e,rfl⟩ F.entry_list_mul (F.args_list_mul_2 _ _) (AutoListH.list___mul___list_int_3 l its.toArray n k t hfit hcap hlong) ⟨e,?_⟩⟩)
 rw[hnew]
 exact⟨.ref _,_,I.lnew (t':=s.toks) (r.rep k.toNat) (by rw[joa_,Nat.mul_comm];exact hz),rfl,q _ I.fresh⟩
end
section
variable {prog:Program} {w:World} {A:Around} {E:Value->Shared->Prop} {s:Shared}
set_option maxRecDepth 100000 in
end
section
variable {X:Cx}
end
end L2
namespace Att
open PySem PySem.W PySem.Calls PyProof.Rows
theorem uo_ {P:Params} {h:Heap}:∀(ns:List Int) (vs:List Value),WellAll P h vs (ns.map WData.int)->IntsAre vs ns:=by
 intro ns
 induction ns with
 | nil =>
  intro vs w
  rw[rf_] at w
  cases w
  exact .nil
 | cons n ns ih =>
  intro vs w
  rw[ps_] at w
  cases w with
  | cons a b =>
   cases a
   exact .cons _ _ (ih _ b)
theorem jjp_ {l:OpenLaw} {n:Nat} (hn:l.most=some n) {P:Params} {h:Heap} {args:List WData} {vals:List Value}
  (hpre:l.row.toRowW.claim.pre args=true) (hwl:WellAll P h vals args) :
  ∃ a vs ns,vals=[Value.ref a]/\args=[WData.list (ns.map WData.int)]/\h.get? a=some { cls:=.type "list",data:=.seq vs.toArray }/\IntsAre vs ns/\ns.length<=n:=by
 have hsh:WShape.hasAll [] args [.list .int]=true:=(pre_splitW hpre).1
 have hc:l.pre.holds [] { args:=args }=true:=(pre_splitW hpre).2
 obtain⟨d,r,rfl,h1,h2⟩:=hasAllW_cons hsh
 obtain rfl:=hasAllW_nil h2
 obtain⟨xs,rfl,h3⟩:=hasW_list h1
 obtain⟨ns,rfl⟩:=items_int h3
 have hlen:ns.length<=n:=by
  unfold OpenLaw.pre at hc
  have h4:(WTm.not (.lt (.lit (.int (n:Int))) (.len (.arg 0)))).holds [] { args:=[.list (ns.map .int)] }=true:=by
   have h4:=(holds_andW hc).1
   rw[hn] at h4
   exact h4
  have h5:=condW_of h4 (w_not (w_lt w_lit (w_len_list (w_arg rfl))))
  rw[pb_] at h5
  refine Nat.le_of_not_lt fun q=>?_
  have q':(n:Int) < ((ns.length:Nat):Int):=by omega
  first
   | (rw[decide_eq_true q'] at h5;exact absurd h5 (by decide))
   | (simp at h5;omega)
 cases hwl with
 | cons w1 w2 =>
  cases w2
  cases w1 with
  | list ho hall=>exact⟨_,_,ns,rfl,rfl,ho,uo_ ns _ hall,hlen⟩
theorem jjt_ (l:OpenLaw) (args:List WData):l.row.toRowW.claim.post args (.bool true) args=true :=
 postW_of (r:=l.row.toRowW) (X:=(true == true))
  (show WShape.has [] (.bool true) .bool=true by first | rfl | decide | simp[WShape.has,WShape.arms,WShape.armsAll])
  (show (WTm.eq .res (.lit (.bool true))).value [] { args:=args,res:=some (.bool true),after:=args }=some (.bool (true == true)) from w_eq_bool (w_res rfl) w_lit) rfl
theorem attach_call {l:OpenLaw} {n:Nat} {q:Program} {loose:List Str} {XP:(Str->Option Value)->Heap->Prop} {YP:World->Heap->Prop} {d:DefRec}
  (hn:l.most=some n) (hdf:d.params.defaults=[])
  (call:∀(w:World) (s₀ s₁:Shared) (mg mb:Str->Option Value) (fa:Addr) (o:Obj) (pm cd doc:Value) (a:Addr) (vs:List Value) (ns:List Int),
   Ground q loose [] XP w s₀ mg mb s₁.heap->YP w s₁.heap ->
   s₁.heap.get? fa=some o->o.data=.func (docDef d.name d.params d.body d.scope pm cd doc)->s₁.heap.CodeRec cd d.name->mg d.name=some (.ref fa) ->
   s₁.heap.get? a=some { cls:=.type "list",data:=.seq vs.toArray }->IntsAre vs ns->ns.length<=n->s₁.gens=#[] ->
   codeAny (model l.prog w) callerA (.call (.ref fa) ⟨[.ref a],[]⟩) (fun r s'=>r=.ok (.ret (.bool true))/\OldK s₁.heap s'.heap/\s'.os=s₁.os/\AllBare s'.gens) s₁) :
  WalkO q loose XP YP l.row.toRowW d [] (fun f vs=>PySem.call f vs):=by
 intro w s₀ s₁ mg mb G Y fa o pm cd doc dV kV ho hd hcd hD hmg hg args vals as hpre hlay hrd hwl hlo
 obtain rfl:dV=.none:=Dflts.none hD hdf
 obtain rfl:kV=.none:=Dflts.noKw hD
 obtain⟨a,vs,ns,rfl,rfl,hobj,hints,hlen⟩:=jjp_ hn hpre hwl
 refine enter_call (codeAny_mono (call w s₀ s₁ mg mb fa o pm cd doc a vs ns G Y ho (fd_plain hd) hcd hmg hobj hints hlen hg) fun r s' hq=>?_)
 obtain⟨rfl,h2,h3,h4⟩:=hq
 exact⟨.inl ⟨.bool true,.bool true,[],rfl,fun _=>rfl,.bool true,jjt_ l _,fun _=>⟨sg_.nil,fun _ hm=>(nomatch hm)⟩⟩,h2,h3,h4⟩
section
variable {prog:Program} {w:World} {A:Around} {E:Value->Shared->Prop} {s:Shared} {K:Frag}
end
end Att
namespace L2
open PySem PySem.Spec PyProof.Rows
theorem jba_:∀{vs:List Value} {ns:List Int},IntsAre vs ns->Vals (ns.map V.int) vs
 | _,_,.nil=>.nil
 | _,_,.cons n t h=>.cons ⟨t,rfl⟩ (jba_ h)
def Only (H:Hp):Prop:=∀ b,H b=none∨∃ o xs,H b=some (.frz o (.lst xs))
theorem jlq_ {P:Program} {w:World} {K:pc_} {mg mb:Str->Option Value} {CX:CXT} {k:Nat} {fa a:Addr} {fd:FuncData} {x:Str} {sp:Sp} {s₁:Shared} {vs:List Value} {ns:List Int}
  (KX:K.In s₁.heap) (hns:s₁.heap.Ns mainGlobals mg) (hb:s₁.heap.Ns builtinsNs mb) (hbb:∀ x:Str,x≠"__name__"->mb x=bootBuiltins x) (hlim:s₁.heap.NoLimit) (hg:s₁.gens=#[])
  (ha:s₁.heap.get? a=some { cls:=.type "list",data:=.seq vs.toArray }) (hi:IntsAre vs ns) (hl:ns.length<=sizeLine) (hr:Room k callerA)
  (F:∀ base:Heap,K.In base->base.Ns mainGlobals mg->FnOk P w K mg base CX k fa fd [x] sp) (hbind:∀(s:Shared) (u:Value),BindsTo s fd ⟨[u],[]⟩ [(x,u)])
  (hsp:∀ H:Hp,Only H->SqL K H a (ns.map V.int)->sp [.ref a] H (fun v _=>v=.bl true) fun _ _ _=>False)
  (hCX:∀ H e s',CX [] H s₁ (fun _ _ _=>False) e s'->False) :
  codeAny (model P w) callerA (.call (.ref fa) ⟨[.ref a],[]⟩) (fun r s'=>r=.ok (.ret (.bool true))/\OldK s₁.heap s'.heap/\s'.os=s₁.os/\AllBare s'.gens) s₁:=by
 have rv:=jba_ hi
 have lenV:=hi.length
 -- from an abstract heap in which nothing but the script may be tracked
 have core:∀ H:Hp,Only H->SqL K H a (ns.map V.int)->HOk P w H s₁.heap->(∀ b,H b≠none->b=a)->(H a≠none->K.lookup a=none) ->
   codeAny (model P w) callerA (.call (.ref fa) ⟨[.ref a],[]⟩) (fun r s'=>r=.ok (.ret (.bool true))/\OldK s₁.heap s'.heap/\s'.os=s₁.os/\AllBare s'.gens) s₁:=by
  intro H hO hS hok hA hK
  have base_of:∀{b:Addr} {o:Obj},s₁.heap.get? b=some o->H b=none->(hidT s₁.heap H).get? b=some o:=fun e n=>jlf_ e n
  have noA:∀{b:Addr} {o:Obj} {es:Array DictEntry} {ep:Nat},s₁.heap.get? b=some o->o.data=.dict es ep->H b=none:=fun{b o es ep} e d=>by
   cases q:H b with
   | none=>rfl
   | some u =>
    have e':b=a:=hA b (by rw[q];simp)
    subst e'
    rw[ha] at e;cases e
    have d':Data.seq vs.toArray _=Data.dict es ep:=d
    cases d'
  have nsK:∀{b:Addr} {m:Str->Option Value},s₁.heap.Ns b m->(hidT s₁.heap H).Ns b m:=fun{b m} ⟨o,es,ep,e,d,r⟩=>⟨o,es,ep,base_of e (noA e d),d,r⟩
  have hKb:K.In (hidT s₁.heap H):=fun b o e=>base_of (KX b o e) (by
   cases q:H b with
   | none=>rfl
   | some u =>
    have e':b=a:=hA b (by rw[q];simp)
    subst e'
    rw[hK (by rw[q];simp)] at e;cases e)
  have hM:Mod K mg (hidT s₁.heap H):=⟨hKb,nsK hns,⟨mb,nsK hb,hbb⟩,let ⟨mc,h1,h2⟩:=hlim;⟨mc,nsK h1,h2⟩⟩
  have e0:Env0 P w K mg (hidT s₁.heap H) callerA [] s₁ H:=⟨rfl,hM,fun b o e=>jpp_ e,w9_ (jiy_ _ _),trivial,fun b hb=>absurd (show b∈([]:List Addr) from hb) (by simp),hok,.of_eq hg⟩
  refine codeAny_mono ((F _ hKb (nsK hns)).run callerA [] s₁ H ⟨[.ref a],[]⟩ [.ref a] [.ref a] _ _ hr e0 (hbind s₁ (.ref a)) (.cons rfl .nil) (hsp H hO hS)) fun r s' h=>?_
  cases r with
  | error e=>exact(hCX H e s' h).elim
  | ok fl =>
   cases fl with
   | next=>exact sr_ h
   | brk=>exact sr_ h
   | cont=>exact sr_ h
   | ret u =>
    obtain⟨v,H',os,bare,un,hok',r',q⟩:=h
    have q':v=.bl true:=q
    subst q'
    obtain rfl:u=Value.bool true:=r'
    refine⟨rfl,OldK.of_keep fun b o e=>?_,os,bare⟩
    cases q:H b with
    | none=>exact un.keep b o e q (by intro z;exact absurd (show b∈([]:List Addr) from z) (by simp)) (by simp)
    | some u =>
     rcases hO b with z | ⟨ob,xs,z⟩
     ·rw[q] at z;cases z
     ·have z2:=un.frzs b ob _ z
      obtain⟨e1,_⟩:=hok b _ z
      obtain⟨e2,_⟩:=hok' b _ z2
      rw[e] at e1;cases e1
      exact e2
 cases hk:K.lookup a with
 | some o =>
  -- the script is one of the module's own objects
  have e:=KX a o hk
  rw[ha] at e
  cases e
  refine core (fun _=>none) (fun _=>.inl rfl) (.inr ⟨_,vs.toArray,_,hk,rfl,rfl,rfl,by rw[pj_,lenV];exact hl,by simpa using rv⟩) (fun b u z=>by have z':(none:Option HO)=some u:=z;cases z') (fun b z=>absurd rfl z) fun z=>absurd rfl z
 | none =>
  refine core (fun b=>if b=a then some (.frz { cls:=.type "list",data:=.seq vs.toArray } (.lst (ns.map V.int))) else none) (fun b=>?_) (.inl (.inr ⟨{ cls:=.type "list",data:=.seq vs.toArray },if_pos rfl⟩)) (fun b u z=>?_) (fun b z=>?_) fun _=>hk
  ·by_cases hb:b=a
   ·exact .inr ⟨_,_,if_pos hb⟩
   ·exact .inl (if_neg hb)
  ·by_cases hb:b=a
   ·have z':=(if_pos hb).symm.trans z
    cases z'
    subst hb
    exact⟨ha,by rw[pb_];exact hl,vs,_,rv,ha⟩
   ·have z':=(if_neg hb).symm.trans z
    cases z'
  ·by_cases hb:b=a
   ·exact hb
   ·exact absurd (if_neg hb) z
end L2
namespace L2
open PySem PySem.Spec PyProof.Rows
theorem jho_ {l:ka_} {n k:Nat} {q:Program} {loose:List Str} {XP:(Str->Option Value)->Heap->Prop} {YP:World->Heap->Prop} {d:DefRec} {K:Params->pc_} {CX:World->CXT} {sp:World->Sp} {x:Str}
  (hn:l.most=some n) (hn2:n<=sizeLine) (hdf:d.params.defaults=[]) (hr:Room k callerA)
  (hY:∀(w:World) (h:Heap),YP w h->(K w.params).In h)
  (F:∀(w:World) (mg:Str->Option Value) (fa:Addr) (h:Heap),(K w.params).In h->h.Ns mainGlobals mg->mg d.name=some (.ref fa) ->
   ∃ fd:FuncData,(∀(s:Shared) (u:Value),BindsTo s fd ⟨[u],[]⟩ [(x,u)]) /\
    ∀ base:Heap,(K w.params).In base->base.Ns mainGlobals mg->FnOk l.prog w (K w.params) mg base (CX w) k fa fd [x] (sp w))
  (hsp:∀(w:World) (H:Hp) (a:Addr) (ns:List Int),ns.length<=n->Only H->SqL (K w.params) H a (ns.map V.int)->sp w [.ref a] H (fun v _=>v=.bl true) fun _ _ _=>False)
  (hCX:∀(w:World) (H:Hp) (s:Shared) (e:Value) (s':Shared),CX w [] H s (fun _ _ _=>False) e s'->False) :
  PySem.W.WalkO q loose XP YP l.row.toRowW d [] (fun f vs=>PySem.call f vs):=by
 refine Att.attach_call hn hdf fun w s₀ s₁ mg mb fa o pm cd doc a vs ns G Y ho hd hcd hmg hobj hints hlen hg=>?_
 have KX:=hY w _ Y
 obtain⟨fd,hb,hF⟩:=F w mg fa _ KX G.T.g hmg
 exact jlq_ KX G.T.g G.T.b G.T.builtins G.T.nolimit hg hobj hints (p5_ hlen hn2) hr hF hb (fun H hO hS=>hsp w H a ns hlen hO hS) fun H e s'=>hCX w H s₁ e s'
end L2
/- THE LAST THEOREM (shape;LID,My.* are yours):
  My.Adr: a structure of the addresses that your layer names (classes,functions);My.Txt K t: a structure (Prop) of the equations over K;
  My.txt_mk:{K} {implicit addresses ..} (e1:nsIn K mainGlobals "law"=some (some (.ref f))) (e2:K.lookup f=some ⟨oc,od,.func (fnOf "law" "law" params body scope dV kV doc pm an cdv ct),sl⟩) (e3:codeIn K cdv "law"=true) ..:∃ t,My.Txt K t
set_option maxRecDepth 100000 in
set_option maxHeartbeats 0 in
theorem PySem.Challenge.cw_LID_holds : PySem.Challenge.rw_LID.Holds := by
 w_on;o_law;k_head;(case hw=>w_witness2)
 k_fill
 refine L2.jho_ (l:=PySem.Challenge.rw_LID) (n:=63) (k:=40) (x:="script") (CX:=fun w=>..) (sp:=fun _=>My.sp_law) rfl (by decide) rfl ⟨rfl,by decide,by decide⟩ (fun w h Y=>PySem.W.kIn_of Y) ?F ?S ?C
 case F =>
  intro w mg fa h KX G hmg
  have T:∃ t,My.Txt (L2.KOf KX) t:=by
   dsimp only [L2.KOf]                          -- K must stand as «<heap const> w.params» for k_is
   refine' My.txt_mk ?e1 ?e2 ?e3 ..
   (case e1=>PySem.W.k_is)                    -- in the order: a name -> its address -> its object -> its parts
   (case e2=>PySem.W.k_is)
   ..
  obtain⟨t,T⟩:=T
  have e0:=hmg.symm.trans (qb_ KX G T.law)
  cases e0                                       -- fa is the law's own address
  exact⟨_,fun s u=>.of_eq rfl,fun base kb nb=>My.law_fn T kb nb⟩     -- if «.of_eq rfl» comes too early: refine' ⟨_,?b,fun base kb nb=>My.law_fn T kb nb⟩;exact fun s u=>.of_eq rfl
 case S=>exact fun w H a ns hl hO hS=>..
 case C=>exact ..
(the tactic k_is has no namespace: write k_is) -/
namespace L2
open PySem PySem.Spec PyProof.Rows
def xs_ (s:Stmt):Arguments:=match s with
 | .FunctionDef _ a _ _ _ _ _ _ _ _=>a
 | _=>{ posonlyargs:=[],args:=[],vararg:=none,kwonlyargs:=[],kw_defaults:=[],kwarg:=none,defaults:=[] }
def y3_ (s:Stmt):List Stmt:=match s with
 | .FunctionDef _ _ b _ _ _ _ _ _ _=>b
 | _=>[]
def jm_ (s:Stmt):Scope:=match s with
 | .FunctionDef _ _ _ _ _ _ sc _ _ _=>sc
 | _=>{ kind:=.function,names:=[],isGenerator:=false,isCoroutine:=false }
abbrev CX0:CXT:=fun _ _ _ _ _ _=>False
abbrev E0:XK:=fun _ _ _=>False
theorem jtg_ {X:Cx}:jfn_ CX0 X E0:=fun _ _ _ _ _ _ _ h=>h.elim
structure Fun (K:pc_) (x qual:Str) (st:Stmt) (f:Addr) (fd:FuncData):Prop where
 ex:∃(oc:Value) (od:Option Addr) (kV doc pm:Value) (an:Option Addr) (cdv ct:Value) (osl:Array (Option Value)),
  fd=so_ x qual (xs_ st) (y3_ st) (jm_ st) .none kV doc pm an cdv ct/\K.lookup f=some ⟨oc,od,.func fd,osl⟩/\wg_ K cdv qual=true
 kp:sk_ K (.ref f)=true
section
variable {P:Program} {w:World} {K:pc_} {mg:Str->Option Value} {base:Heap}
theorem Fun.ok {x qual:Str} {st:Stmt} {f:Addr} {fd:FuncData} {N ps:List Str} {k:Nat} {sp:Sp} (F:Fun K x qual st f fd) (S:FnScope N ps (jm_ st)) (len:∀ vs H Q E,sp vs H Q E->vs.length=ps.length)
  (hbody:∀(cdv:Value) (A:Around) (outer:List Env) (s:Shared) (H:Hp) (vs:List V) (Q:VK) (E:XK),Room k (A.deeper (envOfC qual (jm_ st) s.heap.objs.size f cdv))->sp vs H Q E ->
   ∃ t,PSs (cxOf CX0 P w K mg base N qual (jm_ st) f cdv A outer s H E).nox (y3_ st) t/\t { nx:=fun _ H'=>Q .non H',rt:=Q } (ze_ N vs) H):FnOk P w K mg base CX0 (k+1) f fd ps sp:=by
 obtain⟨oc,od,kV,doc,pm,an,cdv,ct,osl,rfl,lk,hcd⟩:=F.ex
 refine juf_ lk hcd S len fun A outer s H vs Q E hr hsp=>?_
 obtain⟨t,h,q⟩:=hbody cdv A outer s H vs Q E hr hsp
 exact⟨t,h.nox,q⟩
theorem Fun.binds {x qual:Str} {st:Stmt} {f:Addr} {fd:FuncData} {ps:List Str} (F:Fun K x qual st f fd)
  (h:∀(kV doc pm:Value) (an:Option Addr) (cdv ct:Value) (us:List Value),us.length=ps.length->bindArgs (so_ x qual (xs_ st) (y3_ st) (jm_ st) .none kV doc pm an cdv ct) ⟨us,[]⟩=pure (ps.zip us)):Binds K fd ps []:=by
 obtain⟨oc,od,kV,doc,pm,an,cdv,ct,osl,rfl,lk,hcd⟩:=F.ex
 exact .all (h kV doc pm an cdv ct)
theorem jmh_ {x qual:Str} {st:Stmt} {f:Addr} {oc:Value} {od an:Option Addr} {osl:Array (Option Value)} {kV doc pm cdv ct:Value} (l:K.lookup f=some ⟨oc,od,.func (so_ x qual (xs_ st) (y3_ st) (jm_ st) .none kV doc pm an cdv ct),osl⟩)
  (c:wg_ K cdv qual=true) (k:sk_ K (.ref f)=true):Fun K x qual st f (so_ x qual (xs_ st) (y3_ st) (jm_ st) .none kV doc pm an cdv ct):=⟨⟨oc,od,kV,doc,pm,an,cdv,ct,osl,rfl,l,c⟩,k⟩
end
section
variable {X:Cx}
theorem pv (i:Nat) {x:Str} {pos:Pos} (hN:X.N[i]?=some x:=by rfl) (hv:Vis X.env.scope x:=by first | exact Or.inl rfl | exact Or.inr (Or.inl rfl) | exact Or.inr (Or.inr rfl)) (hd:(x == ("__debug__":Str))=false:=by decide)
  (hcd:(x == ("__classdict__":Str))=false:=by decide):PE X (.Name x pos) (tVar i):=jro_ hN hv hd hcd
end
theorem iteF {A B:Prop} (h:B):if false=true then A else B:=by
 rw[if_neg pf_]
 exact h
theorem iteT {A B:Prop} (h:A):if true=true then A else B:=by
 rw[if_pos rfl]
 exact h
def Same (H H':Hp):Prop:=∀ b o,H b=some o->H' b=some o
theorem Same.refl (H:Hp):Same H H:=fun _ _ h=>h
theorem Same.trans {H H1 H2:Hp} (a:Same H H1) (b:Same H1 H2):Same H H2:=fun c o h=>b c o (a c o h)
theorem Same.free {H H':Hp} (e:Same H H') {l:Addr} (h:H' l=Option.none):H l=Option.none:=by
 cases q:H l with
 | none=>rfl
 | some o =>
  rw[e l o q] at h
  cases h
theorem Same.seq {K:pc_} {H H':Hp} {a:Addr} {xs:List V} (e:Same H H') (h:SqL K H a xs):SqL K H' a xs:=by
 rcases h with (h | ⟨o,h⟩) | h
 ·exact .inl (.inl (e _ _ h))
 ·exact .inl (.inr ⟨o,e _ _ h⟩)
 ·exact .inr h
end L2
namespace L2
open PySem
def clTo (cells:List (Str×Addr)):List (Str×NameKind)->List (Str×Addr)->List (Str×Addr)
 | [],acc=>acc
 | (n,k)::r,acc=>if k == .free then clTo cells r ((n,(cells.lookup n).getD 0)::acc) else clTo cells r acc
theorem jas_ {scope:Scope} {env:Env} (h:∀ y∈scope.names,y.2=.free->∃ c,env.cells.lookup y.1=some c) :
  closureFor scope env=pure (clTo env.cells scope.names []):=by
 simp only[closureFor]
 generalize ([]:List (Str×Addr))=acc
 revert h
 generalize scope.names=l
 intro h
 have key:∀(l:List (Str×NameKind)) (acc:List (Str×Addr)),(∀ y∈l,y.2=.free->∃ c,env.cells.lookup y.1=some c) ->
   (forIn l acc (fun x r=>if (x.snd == NameKind.free)=true then do
      let a <- cellOf env x.fst
      pure (ForInStep.yield ((x.fst,a)::r)) else pure (ForInStep.yield r)):Sem _)=pure (clTo env.cells l acc):=by
  intro l
  induction l with
  | nil=>intro acc _;rfl
  | cons y l ih =>
   intro acc h
   obtain⟨n,k⟩:=y
   rw[tb_]
   have hr:=fun y hy=>h y (pm_ _ hy)
   by_cases hk:(k == NameKind.free)=true
   ·obtain⟨c,hc⟩:=h (n,k) po_ (by simpa using hk)
    have hc':env.cells.lookup n=some c:=hc
    have e1:cellOf env n=pure c:=by unfold cellOf;rw[hc']
    simp only[hk,if_true,e1,clTo,hc',sj_,pure_bind]
    exact ih _ hr
   ·simp only[Bool.not_eq_true] at hk
    simp only[hk,pi_,if_false,clTo,pure_bind]
    exact ih _ hr
 rw[key l acc h]
 rfl
theorem xv_ {cells:List (Str×Addr)} {x:Str}:∀(l:List (Str×NameKind)) (acc:List (Str×Addr)),((x,NameKind.free)∈l∨acc.lookup x=some ((cells.lookup x).getD 0)) ->
  (clTo cells l acc).lookup x=some ((cells.lookup x).getD 0)
 | [],acc,h=>by
  rcases h with h | h
  ·cases h
  ·exact h
 | (n,k)::r,acc,h=>by
  unfold clTo
  by_cases hk:(k == NameKind.free)=true
  ·rw[if_pos hk]
   refine xv_ r _ ?_
   by_cases e:x=n
   ·subst e;right;simp
   ·rcases h with h | h
    ·left
     rcases p7_.mp h with h | h
     ·injection h with h1 _;exact absurd h1 e
     ·exact h
    ·right
     rw[qm_,beq_eq_false_iff_ne.mpr e];exact h
  ·rw[if_neg hk]
   refine xv_ r _ ?_
   rcases h with h | h
   ·left
    rcases p7_.mp h with h | h
    ·injection h with _ h2;rw[<- h2] at hk;exact absurd rfl hk
    ·exact h
   ·exact .inr h
theorem jcy_ {cells:List (Str×Addr)} {x:Str} {c:Addr}:∀(l:List (Str×NameKind)) (acc:List (Str×Addr)),(clTo cells l acc).lookup x=some c ->
  acc.lookup x=some c∨((x,NameKind.free)∈l/\c=(cells.lookup x).getD 0)
 | [],acc,h=>.inl h
 | (n,k)::r,acc,h=>by
  unfold clTo at h
  by_cases hk:(k == NameKind.free)=true
  ·rw[if_pos hk] at h
   rcases jcy_ r _ h with q | ⟨q1,q2⟩
   ·by_cases e:x=n
    ·subst e
     rw[qm_,beq_self_eq_true] at q
     have hk':k=.free:=by simpa using hk
     subst hk'
     exact .inr ⟨po_,(Option.some.inj q).symm⟩
    ·rw[qm_,beq_eq_false_iff_ne.mpr e] at q
     exact .inl q
   ·exact .inr ⟨pm_ _ q1,q2⟩
  ·rw[if_neg hk] at h
   rcases jcy_ r _ h with q | ⟨q1,q2⟩
   ·exact .inl q
   ·exact .inr ⟨pm_ _ q1,q2⟩
section
variable {prog:Program} {w:World} {A:Around}
 {R:Result->Shared->Prop} {s:Shared}
theorem jdq_ {M:Model} (hM:M=model prog w) {elt target iter:Expr} {ifs:List Expr} {scope:Scope} {pos:Pos} {it acc:Value} {env:Env} (I:Nat->Shared->Prop)
  (turn:∀ n s,I n s->wpAny M A (pyNext it) (fun r z₁=>match r with
   | none=>R (.ok .next) z₁
   | some v=>wpAny M A (letOwnedTupleGo target it v) (fun _ z₀=>wpAny M A (assign target env v) (fun _ z₂ =>
     wpAny M A (forIn ifs true fun c r=>if r=true then do let ok <- isTrue c env (eval c env);pure (ForInStep.yield ok) else pure (ForInStep.yield r)) (fun ok z₃ =>
      if ok=true then wpAny M A (eval elt env) (fun x z₄ =>
       wpAny M A (call (.builtin "list.append") [acc,x]) (fun _ z₅=>∃ m,m < n/\I m z₅) (notedBy M A env fun e s'=>R (.error e) s') z₄) (notedBy M A env fun e s'=>R (.error e) s') z₃
      else ∃ m,m < n/\I m z₃) (notedBy M A env fun e s'=>R (.error e) s') z₂) (notedBy M A env fun e s'=>R (.error e) s') z₀) (notedBy M A env fun e s'=>R (.error e) s') z₁) (notedBy M A env fun e s'=>R (.error e) s') s)
  (n:Nat) (h:I n s) :
  codeAny M A (.compLoop (.ListComp elt [⟨target,iter,ifs,0⟩] scope pos) 0 it acc env) R s:=by
 subst hM
 refine codeAny_loop rfl I (fun k z hz=>?_) n h
 show wpAny _ A (Sem.onRaise (compTurn (.ListComp elt [⟨target,iter,ifs,0⟩] scope pos) 0 it acc env) _) _ _ z
 rw[compTurn_list]
 refine wpAny_noted (wpAny_bind (wpAny_standAt (wpAny_bind (wpAny_mono (turn k z hz) (fun r z1 g1=>?_) fun _ _ e=>e))))
 match r,g1 with
 | none,g1=>exact wpAny_pure g1
 | some v,g1 =>
  refine wpAny_bind (wpAny_mono g1 (fun _ z2 g2=>wpAny_bind (wpAny_mono g2 (fun _ z3 g3=>wpAny_bind (wpAny_mono g3 (fun b z4 g4=>?_) fun _ _ e=>e)) fun _ _ e=>e)) fun _ _ e=>e)
  match b,g4 with
  | false,g4=>exact wpAny_pure ⟨rfl,g4⟩
  | true,g4 =>
   refine wpAny_bind (wpAny_bind (wpAny_mono g4 (fun y z5 g5=>wpAny_bind (wpAny_mono g5 (fun _ z6 g6=>?_) fun _ _ e=>e)) fun _ _ e=>e))
   exact wpAny_pure (wpAny_pure ⟨rfl,g6⟩)
end
end L2
namespace L2
open PySem PySem.Spec PyProof.Rows
def jlh_ (σ:St):Option Nat->Option V
 | none=>none
 | some j=>match σ[j]? with
  | some (some v)=>some v
  | _=>none
def pick (ix:List (Option Nat)) (σ:St):St:=ix.map (jlh_ σ)
theorem jmy_ {ix:List (Option Nat)} {σ:St} {i:Nat} {v:V} (h:(pick ix σ)[i]?=some (some v)):∃ j,ix[i]?=some (some j)/\σ[j]?=some (some v):=by
 unfold pick at h
 rw[pl_] at h
 cases e:ix[i]? with
 | none=>rw[e] at h;cases h
 | some o =>
  rw[e] at h
  have h':jlh_ σ o=some v:=Option.some.inj h
  cases o with
  | none=>cases h'
  | some j =>
   refine⟨j,rfl,?_⟩
   unfold jlh_ at h'
   dsimp only at h'
   split at h'
   ·rename_i q;rw[q,h']
   ·cases h'
def zs_ (X:Cx) (pins:List (Addr×Obj)) (scope:Scope) (N':List Str) (fp:List Addr) (s3:Shared) (H3:Hp):Cx where
 prog:=X.prog
 w:=X.w
 K:=X.K
 mg:=X.mg
 base:=X.base
 A:=X.A
 N:=N'
 s₀:=s3
 H₀:=H3
 env:=compEnvC scope (clTo X.env.cells scope.names []) s3.heap.objs.size X.env
 outer:=X.stack
 stack:=X.stack
 ex:=fp
 fn:=fun _=>false
 calm:=X.calm
 pn:=X.pn++pins
 xe:=fun _ _=>False
def zq_ (names:List (Str×NameKind)) (N:List Str):List (Option Nat)->List Str->Bool
 | [],[]=>true
 | none::r,_::q=>zq_ names N r q
 | some j::r,x::q=>N[j]? == some x&&names.lookup x == some .free&&zq_ names N r q
 | _,_=>false
def jcl_ (sc:Scope) (N:List Str) (scope:Scope) (N':List Str) (ix:List (Option Nat)):Bool :=
 scope.names.all (fun y=>y.2 != .cell)&&scope.names.all (fun y=>y.2 != .local || scope.names.lookup y.1 == some .local)
  && scope.names.all (fun y=>y.2 != .free || (sc.names.lookup y.1 == some .cell || sc.names.lookup y.1 == some .free))&&zq_ scope.names N ix N'
theorem x4_ {names:List (Str×NameKind)} {N:List Str}:∀{ix:List (Option Nat)} {N':List Str},zq_ names N ix N'=true->ix.length=N'.length
 | [],[],_=>rfl
 | none::r,_::q,h=>by simp only[zq_] at h;simp[x4_ h]
 | some j::r,x::q,h=>by simp only[zq_,p2_] at h;simp[x4_ h.2]
 | [],_::_,h=>by simp[zq_] at h
 | none::_,[],h=>by simp[zq_] at h
 | some _::_,[],h=>by simp[zq_] at h
theorem x9_ {names:List (Str×NameKind)} {N:List Str}:∀{ix:List (Option Nat)} {N':List Str} {i j:Nat} {x:Str},zq_ names N ix N'=true->ix[i]?=some (some j)->N'[i]?=some x ->
  N[j]?=some x/\names.lookup x=some .free
 | [],[],_,_,_,_,e,_=>by simp at e
 | none::r,_::q,0,_,_,_,e,_=>by simp at e
 | none::r,_::q,i+1,_,_,h,e,e'=>by
  simp only[zq_] at h
  exact x9_ h (by simpa using e) (by simpa using e')
 | some j::r,x::q,0,_,_,h,e,e'=>by
  simp only[zq_,p2_] at h
  simp at e e'
  subst e;subst e'
  exact⟨by simpa using h.1.1,by simpa using h.1.2⟩
 | some j::r,x::q,i+1,_,_,h,e,e'=>by
  simp only[zq_,p2_] at h
  exact x9_ h.2 (by simpa using e) (by simpa using e')
 | [],_::_,_,_,_,h,_,_=>by simp[zq_] at h
 | none::_,[],_,_,_,h,_,_=>by simp[zq_] at h
 | some _::_,[],_,_,_,h,_,_=>by simp[zq_] at h
theorem mem_of_lookup {α β:Type} [BEq α] [LawfulBEq α] {x:α} {k:β}:∀{l:List (α×β)},l.lookup x=some k->(x,k)∈l
 | [],h=>by cases h
 | (n,k')::r,h=>by
  rw[qm_] at h
  by_cases e:x == n
  ·rw[e] at h
   have e':x=n:=by simpa using e
   cases h
   rw[e'];exact po_
  ·have e':(x == n)=false:=by simpa using e
   rw[e'] at h
   exact pm_ _ (mem_of_lookup h)
theorem y6_ {env:Env} {x:Str} {k:NameKind}:∀{names:List (Str×NameKind)},(∀ y∈names,y.2≠.cell) ->
  (names.map fun(n,k)=>if (k == NameKind.free&&env.scope.kind == .function&&env.kindOf n == some .cell) then (n,NameKind.cell) else (n,k)).lookup x=some k->(k=.cell∨k=.free)->(x,NameKind.free)∈names
 | [],_,h,_=>by cases h
 | (n,k')::r,hc,h,hk=>by
  rw[ps_] at h
  have hc':=fun y hy=>hc y (pm_ _ hy)
  have hk':k'≠.cell:=hc (n,k') po_
  by_cases e:x=n
  ·subst e
   dsimp only at h
   split at h
   ·rename_i q
    rw[qm_,beq_self_eq_true] at h
    have:k'=.free:=by simp only[p2_] at q;simpa using q.1.1
    subst this;exact po_
   ·rw[qm_,beq_self_eq_true] at h
    have hkk:k'=k:=Option.some.inj h
    subst hkk
    rcases hk with z | z
    ·exact absurd z hk'
    ·subst z;exact po_
  ·have e':(x == n)=false:=beq_eq_false_iff_ne.mpr e
   refine pm_ _ (y6_ (env:=env) hc' ?_ hk)
   dsimp only at h
   split at h
   ·rw[qm_,e'] at h;exact h
   ·rw[qm_,e'] at h;exact h
theorem y7_ {env:Env} {x:Str}:∀{names:List (Str×NameKind)},names.lookup x=some .free ->
  (names.map fun(n,k)=>if (k == NameKind.free&&env.scope.kind == .function&&env.kindOf n == some .cell) then (n,NameKind.cell) else (n,k)).lookup x=some .cell ∨
  (names.map fun(n,k)=>if (k == NameKind.free&&env.scope.kind == .function&&env.kindOf n == some .cell) then (n,NameKind.cell) else (n,k)).lookup x=some .free
 | [],h=>by cases h
 | (n,k')::r,h=>by
  rw[ps_]
  rw[qm_] at h
  by_cases e:x=n
  ·subst e
   rw[beq_self_eq_true] at h
   have hk:k'=.free:=Option.some.inj h
   subst hk
   dsimp only
   split
   ·left;rw[qm_,beq_self_eq_true]
   ·right;rw[qm_,beq_self_eq_true]
  ·have e':(x == n)=false:=beq_eq_false_iff_ne.mpr e
   rw[e'] at h
   dsimp only
   split
   ·rw[qm_,e'];exact y7_ h
   ·rw[qm_,e'];exact y7_ h
structure CompFacts (X:Cx) (scope:Scope) (N':List Str) (ix:List (Option Nat)):Prop where
 nocell:∀ y∈scope.names,y.2≠.cell
 names:∀ y∈scope.names,y.2=.local->scope.names.lookup y.1=some .local
 free:∀ x,(x,NameKind.free)∈scope.names->X.env.kindOf x=some .cell∨X.env.kindOf x=some .free
 len:ix.length=N'.length
 link:∀{i j:Nat} {x:Str},ix[i]?=some (some j)->N'[i]?=some x->X.N[j]?=some x/\scope.names.lookup x=some .free
theorem jik_ {X:Cx} {scope:Scope} {N':List Str} {ix:List (Option Nat)} (h:jcl_ X.env.scope X.N scope N' ix=true):CompFacts X scope N' ix:=by
 simp only[jcl_,p2_,s1_] at h
 obtain⟨⟨⟨h1,h2⟩,h3⟩,h4⟩:=h
 refine⟨fun y hy=>by simpa using h1 y hy,fun y hy e=>?_,fun x hx=>?_,x4_ h4,fun e e'=>x9_ h4 e e'⟩
 ·have q:=h2 y hy
  rw[e] at q
  simpa using q
 ·have q:=h3 _ hx
  have q':X.env.scope.names.lookup x=some .cell∨X.env.scope.names.lookup x=some .free:=by simpa using q
  exact q'
section
variable {X:Cx} {pins:List (Addr×Obj)} {σ:St} {H H':Hp} {s s':Shared} {scope:Scope} {N':List Str} {ix:List (Option Nat)} {fp:List Addr}
theorem FpOk.stk {b:Addr} (I:Inv X pins σ H s) (f:FpOk X pins H b):b∉frs X.stack:=fun z=>by
 rcases p7_.mp (I.stkSub b z) with q | q
 ·exact f.2.1 q
 ·exact f.2.2.1 q
theorem z7_ (I:Inv X pins σ H s) (F:CompFacts X scope N' ix) {x:Str} {c:Addr} (h:(clTo X.env.cells scope.names []).lookup x=some c):X.env.cells.lookup x=some c/\(x,NameKind.free)∈scope.names:=by
 rcases jcy_ _ _ h with q | ⟨q1,q2⟩
 ·cases q
 ·obtain⟨c',e⟩:=I.ok.has x (F.free x q1)
  rw[e] at q2
  exact⟨by rw[e,q2];rfl,q1⟩
theorem jpk_ (I:Inv X pins σ H s) (F:CompFacts X scope N' ix) (hk:scope.kind=.function) (hf:∀ b∈fp,FpOk X pins H b) (ho:∀ b∈fp,∃ o,s.heap.get? b=some o):(zs_ X pins scope N' fp s H).Ok where
 mod:=I.ok.mod
 kind:=hk
 glob:=I.ok.glob
 blt:=I.ok.blt
 above:=pk_ _
 inj:=fun x y c e1 e2=>I.ok.inj x y c (z7_ I F e1).1 (z7_ I F e2).1
 has:=fun x hx=>by
  have q:(x,NameKind.free)∈scope.names:=by
   rcases hx with z | z
   ·exact y6_ F.nocell z (.inl rfl)
   ·exact y6_ F.nocell z (.inr rfl)
  exact⟨_,xv_ _ _ (.inl q)⟩
 cab:=fun x c e=>by cases e
 hd:=I.ok.hd
 frames:=I.ok.frames
 stk:=.inl rfl
 exf:=fun b hb=>by
  obtain⟨o,e⟩:=ho b hb
  exact⟨qc_ (pv_ e),fun x c q=>(hf b hb).2.2.2.2.1 x c (z7_ I F q).1⟩
 bs:=fun b o e=>I.bs b o e
 bsz:=p5_ I.ok.bsz I.sz
 noex:=fun b o e hb=>by
  rcases (hf b hb).2.2.2.1 with z | z
  ·exact I.ok.noex b o e z
  ·exact absurd (p0_ (pv_ (I.ok.bs b o e).1) z) (s6_ _)
 exfs:=fun b hb=>FpOk.stk I (hf b hb)
 funs:=I.stack
 frf:=I.stkFree
theorem jmw_ {h':Heap} {m:Str->Option Value} {ob:Obj} {t:Nat} (I:Inv X pins σ H s) (F:CompFacts X scope N' ix) (hk:scope.kind=.function) (hf:∀ b∈fp,FpOk X pins H b) (ho:∀ b∈fp,∃ o,s.heap.get? b=some o)
  (hn:h'.Ns s.heap.objs.size m) (hs:q6_ s.heap.objs.size (s.heap.push ob) h') :
  Inv (zs_ X pins scope N' fp s H) [] (pick ix σ) H { s with heap:=h',toks:=t }:=by
 have k:∀ b u,s.heap.get? b=some u->h'.get? b=some u:=fun b u e =>
  (hs.2 b (qc_ (pv_ e))).trans (pg_ _ e)
 refine⟨jpk_ I F hk hf ho,rfl,I.bare,Un.kept k,⟨m,hn,fun i x v e1 e2 e3=>?_⟩,fun x c e=>?_,I.fresh,fun x c e=>?_,fun p hp=>?_,I.hok.kept k,?_⟩
 ·obtain⟨j,ej,ev⟩:=jmy_ e2
  obtain⟨l1,l2⟩:=F.link ej e1
  have fr:(x,NameKind.free)∈scope.names:=mem_of_lookup l2
  obtain⟨m0,hn0,hl⟩:=I.loc
  have vis:Vis X.env.scope x:=.inr (F.free x fr)
  obtain⟨u,r,l⟩:=hl j x v l1 ev vis
  refine⟨u,r,.inr ⟨y7_ l2,?_⟩⟩
  rcases l with ⟨l,_⟩ | ⟨_,c,e,z⟩
  ·rcases F.free x fr with q | q
   ·rw[q] at l;cases l
   ·rw[q] at l;cases l
  ·refine⟨c,?_,z.keeps k⟩
   show (clTo X.env.cells scope.names []).lookup x=some c
   rw[xv_ _ _ (.inl fr),e];rfl
 ·obtain⟨v,z⟩:=I.cell x c (z7_ I F e).1
  exact⟨v,z.keeps k⟩
 ·exact I.freeC x c (z7_ I F e).1
 ·have hp':p∈X.pn++pins:=by
   have z:p∈(X.pn++pins)++[]:=hp
   rwa [p8_] at z
  obtain⟨e,n,ne,nf,d⟩:=I.pin p hp'
  refine⟨k _ _ e,n,qc_ (pv_ e),fun z=>?_,d⟩
  rcases p7_.mp (I.stkSub p.1 z) with q | q
  ·exact ne q
  ·exact nf q
 ·show (pick ix σ).length=N'.length
  unfold pick;rw[pb_];exact F.len
theorem HOk.sameBut {P:Program} {w:World} {h h':Heap} {a:Addr} (ok:HOk P w H h) (hn:H a=none) (hs:q6_ a h h'):HOk P w H h':=fun b ob e=>by
 refine(ok b ob e).stay (fun c w' hc q=>(hs.2 c ?_).trans q) (fun _ q=>q) fun _ _ q=>q
 rintro rfl
 rcases hc with rfl | hc
 ·rw[hn] at e;cases e
 ·rw[hn] at hc;cases hc
theorem jgb_ {σ':St} {ps:List (Addr×Obj)} {h':Heap} (I:Inv X pins σ H s) (hf:∀ b∈fp,FpOk X pins H b) (I':Inv (zs_ X pins scope N' fp s H) ps σ' H' s') (hs:q6_ s.heap.objs.size s'.heap h') :
  Inv X pins σ H' { s' with heap:=h' }:=by
 have bk:∀{b o o'},s.heap.get? b=some o->s'.heap.get? b=some o'->h'.get? b=some o':=fun{b o o'} e e'=>(hs.2 b (qc_ (pv_ e))).trans e'
 refine I.call' (s':={ s' with heap:=h' }) (ch:=fp) I'.os ⟨fun b o e n hb hx=>?_,fun b o e n hb hx=>?_,I'.base.free,fun b o e hx=>?_,I'.base.tups,I'.base.frzs,I'.base.tbls⟩ (I'.hok.sameBut I'.free hs) I'.bare fun b hb=>⟨(hf b hb).2.2.2.1,(hf b hb).2.1,(hf b hb).2.2.2.2.1,(hf b hb).2.2.2.2.2⟩
 ·exact bk e (I'.base.keep b o e n hb hx)
 ·obtain⟨sl,q⟩:=I'.base.slot b o e n hb hx
  exact⟨sl,bk e q⟩
 ·obtain⟨o',q⟩:=I'.base.there b o e hx
  exact⟨o',bk e q⟩
end
def PTs (X:Cx) (ifs:List Expr) (t:TT):Prop :=
 ∀(pins:List (Addr×Obj)) (s:Shared) (σ:St) (H:Hp) (Q:Bool->Hp->Prop),Inv X pins σ H s->t σ H Q ->
  wpAny (model X.prog X.w) X.A (forIn ifs true fun c r=>if r=true then do let ok <- isTrue c X.env (eval c X.env);pure (ForInStep.yield ok) else pure (ForInStep.yield r)) (TP X pins σ Q) X.xe s
def jqo_:TT:=fun _ H Q=>Q true H
theorem y5_ {X:Cx}:PTs X [] jqo_:=fun _ _ _ H _ I h=>wpAny_tests_nil ⟨H,I,h⟩
theorem uw_ {X:Cx} {c:Expr} {t:TT} (h:PT X c t):PTs X [c] t:=fun pins s σ H Q I q=>wpAny_tests_one (h pins s σ H Q I q)
def yi_ (J:It) (p:Addr) (g:TG) (tc:TT) (te:TE) (Q:VK) (σ0:St) (H0:Hp):Prop :=
 ∃ W:Nat->Nat->List V->St->Hp->Prop,(∃ m,W 0 m [] σ0 H0)/\∀ i m acc σ' H',W i m acc σ' H'->H' p=some (.lst acc) /\
  ((J.stop i H'/\Q (.ref p) H')∨(J.go i H'/\acc.length < sizeLine/\∃ N:List V->St->Hp->Prop,(∀ a' σ3 H3,N a' σ3 H3->∃ m',m' < m/\W (i+1) m' a' σ3 H3) /\
   ∀ x H2,J.yld i H' x H2->g x σ' H2 fun σ3 H3=>tc σ3 H3 fun b H4 =>
    if b=true then te σ3 H4 fun v H5=>H5 p=some (.lst acc)/\N (acc++[v]) σ3 (upd H5 p (.lst (acc++[v]))) else N acc σ3 H4))
def jlu_ (ix:List (Option Nat)) (wi:TI) (g:TG) (tc:TT) (te:TE):TE:=fun σ H Q=>wi σ H fun J H1=>∀ p,H1 p=none->yi_ J p g tc te Q (pick ix σ) (upd H1 p (.lst []))
section
variable {X:Cx} {elt tg iter:Expr} {ifs:List Expr} {scope:Scope} {pos:Pos} {N':List Str} {ix:List (Option Nat)} {wi:TI} {g:TG} {tc:TT} {te:TE}
theorem jnj_ {use:Option (Value->Sem Unit)} {R:Value->Shared->Prop} {pins:List (Addr×Obj)} {s:Shared} {σ:St} {H:Hp} {Q:VK} (hc:X.calm=true) (ok:jcl_ X.env.scope X.N scope N' ix=true) (hk:scope.kind=.function)
  (hi:PI X tg iter wi)
  (hg:∀ pins fp s3 H3,PG (zs_ X pins scope N' fp s3 H3) tg g) (ht:∀ pins fp s3 H3,PTs (zs_ X pins scope N' fp s3 H3) ifs tc) (he:∀ pins fp s3 H3,PE (zs_ X pins scope N' fp s3 H3) elt te)
  (hs:∀ x,foldedSetIterable iter X.env x=pure x) (I:Inv X pins σ H s) (h:jlu_ ix wi g tc te σ H Q)
  (fin:∀(p C:Addr) (H':Hp) (s':Shared),(∃ m,s'.heap.Ns C m)->FpOk X pins H' C->(∀ h',q6_ C s'.heap h'->Inv X pins σ H' { s' with heap:=h' })->Q (.ref p) H'->compPost (model X.prog X.w) X.A X.xe use R (.ref p) C (.ok .next) s') :
  wpAny (model X.prog X.w) X.A (comprehension (.ListComp elt [⟨tg,iter,ifs,0⟩] scope pos) scope X.env (firstIterPos [⟨tg,iter,ifs,0⟩] pos) (newList []) (firstAsync [⟨tg,iter,ifs,0⟩]) (firstIter [⟨tg,iter,ifs,0⟩] X.env) use) R X.xe s:=by
 have F:=jik_ ok
 refine wpAny_comprehension_free (cl:=clTo X.env.cells scope.names []) rfl hs (jas_ fun y hy e=>?_) hk F.names ?_
 ·obtain⟨n,k⟩:=y
  have e':k=.free:=e
  subst e'
  exact I.ok.has n (F.free n hy)
 refine thn (hi pins s σ H _ I h) fun v s1 h1=>thn h1 fun itv s2 h2=>?_
 obtain⟨it,fp,tn,J,H2,e,I2,T,st2,f2,rd⟩:=h2
 subst e
 refine wpAny_newObj_type ?_
 have hp:=I2.fresh
 obtain⟨W,⟨m0,w0⟩,turn⟩:=rd _ hp
 have I3:=I2.lnew (ys:=[]) (its:=[]) (t':=s2.toks) Paired.nil (qz_ _)
 have hf3:∀ b∈fp,FpOk X pins (upd H2 s2.heap.objs.size (.lst [])) b:=fun b hb=>by
  obtain⟨o,e,_⟩:=T.obj _ _ st2 b hb
  exact⟨by rw[jg_ (qc_ (pv_ e))];exact(f2 b hb).1,(f2 b hb).2⟩
 have ho3:∀ b∈fp,∃ o,(s2.heap.push { cls:=.type "list",data:=.seq ([]:List Value).toArray }).get? b=some o:=fun b hb=>by
  obtain⟨o,e,_⟩:=T.obj _ _ st2 b hb
  exact⟨o,pg_ _ e⟩
 have hpC:s2.heap.objs.size≠(s2.heap.push { cls:=.type "list",data:=.seq ([]:List Value).toArray }).objs.size:=by
  rw[tn_];exact qc_ (Nat.lt_succ_self _)
 refine wpAny_newFunctionEnv F.nocell (by intro y hy;simp at hy) (fun h4 hn4 hs4=>?_) hk
 have I4:=jmw_ (t:=s2.toks+([]:List (Str×Value)).length) I3 F hk hf3 ho3 hn4 hs4
 have k4:∀ b o,s2.heap.get? b=some o->h4.get? b=some o:=fun b o e =>
  (hs4.2 b (qc_ (p0_ (pv_ e) (by rw[tn_];exact Nat.le_succ _)))).trans (pg_ _ (pg_ _ e))
 have st4:tn 0 h4:=T.keep _ _ _ st2 fun b _ o e=>k4 b o e
 have fx:∀{H':Hp} {ps:List (Addr×Obj)},(∀ b∈fp,H' b=none)->(∀ b∈fp,∀ p∈ps,p.1≠b)->∀ b∈fp,FpOk (zs_ X pins scope N' fp { s2 with heap:=s2.heap.push { cls:=.type "list",data:=.seq ([]:List Value).toArray },toks:=s2.toks } (upd H2 s2.heap.objs.size (.lst []))) ps H' b:=fun{H' ps} hn hps b hb=>by
  obtain⟨o,e⟩:=ho3 b hb
  refine⟨hn b hb,qc_ (pv_ e),FpOk.stk I3 (hf3 b hb),.inl hb,fun x c q=>(hf3 b hb).2.2.2.2.1 x c (z7_ I3 F q).1,fun p hp=>?_⟩
  rcases pr_.mp hp with z | z
  ·exact(hf3 b hb).2.2.2.2.2 p z
  ·exact hps b hb p z
 have loop:codeAny (model X.prog X.w) X.A (.compLoop (.ListComp elt [⟨tg,iter,ifs,0⟩] scope pos) 0 (.ref it) (.ref s2.heap.objs.size) (compEnvC scope (clTo X.env.cells scope.names []) (s2.heap.push { cls:=.type "list",data:=.seq ([]:List Value).toArray }).objs.size X.env))
   (compPost (model X.prog X.w) X.A X.xe use R (.ref s2.heap.objs.size) (s2.heap.push { cls:=.type "list",data:=.seq ([]:List Value).toArray }).objs.size) { s2 with heap:=h4,toks:=s2.toks+([]:List (Str×Value)).length }:=by
  refine jdq_ rfl (fun n s'=>∃ i acc σ' H',Inv (zs_ X pins scope N' fp { s2 with heap:=s2.heap.push { cls:=.type "list",data:=.seq ([]:List Value).toArray },toks:=s2.toks } (upd H2 s2.heap.objs.size (.lst []))) [] σ' H' s'/\tn i s'.heap/\(∀ b∈fp,H' b=none)/\W i n acc σ' H')
   ?_ m0 ⟨0,[],_,_,I4,st4,fun b hb=>(hf3 b hb).1,w0⟩
  rintro n s5 ⟨i,acc,σ5,H5,I5,st5,fr5,w5⟩
  obtain⟨hacc,alt⟩:=turn i n acc σ5 H5 w5
  rcases alt with ⟨stop,q⟩ | ⟨go,hz,N,hN,step⟩
  ·refine wpAny_mono (T.done (zs_ X pins scope N' fp { s2 with heap:=s2.heap.push { cls:=.type "list",data:=.seq ([]:List Value).toArray },toks:=s2.toks } (upd H2 s2.heap.objs.size (.lst []))) rfl rfl rfl hc i [] s5 σ5 H5 (fun _ _=>False) I5 (fx (ps:=[]) fr5 (fun _ _ _ z=>nomatch z)) st5 stop) (fun r s6 ⟨hr,I6⟩=>?_) fun _ _ f=>f.elim
   subst hr
   refine fin _ _ H5 s6 ?_ (I3.fpOk (pk_ _) I6.free) (fun h' hs'=>jgb_ I3 hf3 I6 hs') q
   obtain⟨m,hm,_⟩:=I6.loc
   exact⟨m,hm⟩
  ·refine wpAny_mono (T.item (zs_ X pins scope N' fp { s2 with heap:=s2.heap.push { cls:=.type "list",data:=.seq ([]:List Value).toArray },toks:=s2.toks } (upd H2 s2.heap.objs.size (.lst []))) rfl rfl rfl hc i [] s5 σ5 H5 (fun _ _=>False) I5 (fx (ps:=[]) fr5 (fun _ _ _ z=>nomatch z)) st5 go) (fun r s6 ⟨u,hr,h6⟩=>?_) fun _ _ f=>f.elim
   subst hr
   refine wpAny_mono h6 (fun _ s7 ⟨x,H7,I7,r7,y7,st7,fr7⟩=>?_) fun _ _ f=>f.elim
   have I7':=I7.pinned (fx (ps:=[]) fr7 (fun _ _ _ z=>nomatch z)) (T.obj _ _ st7)
   refine wpAny_mono (hg _ _ _ _ _ s7 σ5 H7 x u _ I7' r7 (step x H7 y7)) (fun _ s8 ⟨σ8,H8,I8,q8⟩=>?_) fun _ _ f=>f.elim
   refine wpAny_mono (ht _ _ _ _ _ s8 σ8 H8 _ I8 q8) (fun b s9 ⟨H9,I9,q9⟩=>?_) fun _ _ f=>f.elim
   have keep:∀{σ':St} {H':Hp} {s':Shared},Inv (zs_ X pins scope N' fp { s2 with heap:=s2.heap.push { cls:=.type "list",data:=.seq ([]:List Value).toArray },toks:=s2.toks } (upd H2 s2.heap.objs.size (.lst []))) ([]++jad_ fp s7.heap) σ' H' s' ->
     tn (i+1) s'.heap/\∀ b∈fp,H' b=none:=fun{σ' H' s'} I'=>by
    refine⟨T.keep _ _ _ st7 fun b hb o e=>(I'.pin (b,o) (qo_ _ (qo_ _ (y4_ hb e)))).1,fun b hb=>?_⟩
    obtain⟨o,e,d⟩:=T.obj _ _ st7 b hb
    exact(I'.pin (b,o) (qo_ _ (qo_ _ (y4_ hb e)))).2.1
   cases b with
   | false =>
    rw[if_neg pf_] at q9 ⊢
    obtain⟨m',hm,w9⟩:=hN _ _ _ q9
    exact⟨m',hm,i+1,acc,σ8,H9,I9.unpinned,(keep I9).1,(keep I9).2,w9⟩
   | true =>
    rw[if_pos rfl] at q9 ⊢
    refine wpAny_mono (he _ _ _ _ _ s9 σ8 H9 _ I9 q9) (fun y s10 ⟨v10,H10,I10,r10,hl10,w10⟩=>?_) fun _ _ f=>f.elim
    refine wpAny_mono (jbu_ (X:=(zs_ X pins scope N' fp { s2 with heap:=s2.heap.push { cls:=.type "list",data:=.seq ([]:List Value).toArray },toks:=s2.toks } (upd H2 s2.heap.objs.size (.lst [])))) _ s10 σ8 H10 (.ref s2.heap.objs.size) [v10] (.ref s2.heap.objs.size) [y] (fun _ H'=>N (acc++[v10]) σ8 H') I10 rfl (.cons r10 .nil) ⟨_,acc,v10,rfl,rfl,hl10,hz,w10⟩) (fun _ s11 ⟨_,H11,I11,_,n11⟩=>?_) fun _ _ f=>f.elim
    obtain⟨m',hm,w11⟩:=hN _ _ _ n11
    exact⟨m',hm,i+1,acc++[v10],σ8,H11,I11.unpinned,(keep I11).1,(keep I11).2,w11⟩
 exact codeAny_compStart_list loop (T.self X.A 0 _ _ _ st4 loop)
theorem zv_ (N':List Str) (ix:List (Option Nat)) (hc:X.calm=true) (ok:jcl_ X.env.scope X.N scope N' ix=true) (hk:scope.kind=.function) (hi:PI X tg iter wi)
  (hg:∀ pins fp s3 H3,PG (zs_ X pins scope N' fp s3 H3) tg g) (ht:∀ pins fp s3 H3,PTs (zs_ X pins scope N' fp s3 H3) ifs tc) (he:∀ pins fp s3 H3,PE (zs_ X pins scope N' fp s3 H3) elt te)
  (hs:∀ x,foldedSetIterable iter X.env x=pure x:=by intro _;rfl):PE X (.ListComp elt [⟨tg,iter,ifs,0⟩] scope pos) (jlu_ ix wi g tc te):=by
 intro pins s σ H Q I h
 rw[eval_ListComp]
 refine jnj_ hc ok hk hi hg ht he hs I h fun p C H' s' hm fC inv q=>?_
 obtain⟨m,hm⟩:=hm
 exact⟨m,hm,fun h' hs'=>⟨.ref p,H',inv h' hs',rfl,q⟩⟩
end
end L2
namespace L2
open PySem PySem.Spec PyProof.Rows
inductive Dt where
 | non | bl (b:Bool) | int (i:Int) | str (x:Str) | tup (ds:List Dt) | lst (ds:List Dt)
mutual
def Is (H:Hp):V->Dt->Prop
 | v,.non=>v=.non
 | v,.bl b=>v=.bl b
 | v,.int i=>v=.int i
 | v,.str x=>v=.str x
 | v,.tup ds=>∃ a xs,v=.ref a/\H a=some (.tup xs)/\IsL H xs ds
 | v,.lst ds=>∃ a xs,v=.ref a/\H a=some (.lst xs)/\IsL H xs ds
def IsL (H:Hp):List V->List Dt->Prop
 | [],[]=>True
 | x::xs,d::ds=>Is H x d/\IsL H xs ds
 | _,_=>False
end
mutual
def dep:Dt->Nat
 | .tup ds=>depL ds+1
 | .lst ds=>depL ds+1
 | _=>0
def depL:List Dt->Nat
 | []=>0
 | d::ds=>max (dep d) (depL ds)
end
mutual
theorem Is.same {H H':Hp} (h:∀ b o,H b=some o->H' b=some o):∀{d:Dt} {v:V},Is H v d->Is H' v d
 | .non,_,k=>by simp only[Is] at k ⊢;exact k
 | .bl _,_,k=>by simp only[Is] at k ⊢;exact k
 | .int _,_,k=>by simp only[Is] at k ⊢;exact k
 | .str _,_,k=>by simp only[Is] at k ⊢;exact k
 | .tup ds,_,k=>by
  simp only[Is] at k ⊢
  obtain⟨a,xs,e,h1,h2⟩:=k
  exact⟨a,xs,e,h _ _ h1,IsL.same h h2⟩
 | .lst ds,_,k=>by
  simp only[Is] at k ⊢
  obtain⟨a,xs,e,h1,h2⟩:=k
  exact⟨a,xs,e,h _ _ h1,IsL.same h h2⟩
theorem IsL.same {H H':Hp} (h:∀ b o,H b=some o->H' b=some o):∀{ds:List Dt} {xs:List V},IsL H xs ds->IsL H' xs ds
 | [],[],_=>by simp only[IsL]
 | d::ds,x::xs,k=>by
  simp only[IsL] at k ⊢
  exact⟨Is.same h k.1,IsL.same h k.2⟩
 | [],_::_,k=>by simp only[IsL] at k
 | _::_,[],k=>by simp only[IsL] at k
end
theorem IsL.length {H:Hp}:∀{ds:List Dt} {xs:List V},IsL H xs ds->xs.length=ds.length
 | [],[],_=>rfl
 | d::ds,x::xs,k=>by
  simp only[IsL] at k
  simp only[p3_,IsL.length k.2]
 | [],_::_,k=>by simp only[IsL] at k
 | _::_,[],k=>by simp only[IsL] at k
theorem IsL.get {H:Hp}:∀{ds:List Dt} {xs:List V} {i:Nat},IsL H xs ds->i < ds.length->∃ x d,xs[i]?=some x/\ds[i]?=some d/\Is H x d
 | [],_,_,_,h=>by simp at h
 | d::ds,x::xs,0,k,_=>by
  simp only[IsL] at k
  exact⟨x,d,rfl,rfl,k.1⟩
 | d::ds,x::xs,i+1,k,h=>by
  simp only[IsL] at k
  obtain⟨y,e,h1,h2,h3⟩:=IsL.get (i:=i) k.2 (by simpa using h)
  exact⟨y,e,by simpa using h1,by simpa using h2,h3⟩
 | _::_,[],_,k,_=>by simp only[IsL] at k
theorem IsL.ints (H:Hp):∀ ns:List Int,IsL H (ns.map V.int) (ns.map Dt.int)
 | []=>by simp only[rf_,IsL]
 | n::ns=>by simp only[ps_,IsL,Is,true_and];exact IsL.ints H ns
mutual
def toP:Dt->PyData
 | .non=>.none
 | .bl b=>.bool b
 | .int i=>.int i
 | .str x=>.str x
 | .tup ds=>.tuple (toPs ds)
 | .lst ds=>.list (toPs ds)
def toPs:List Dt->List PyData
 | []=>[]
 | d::ds=>toP d::toPs ds
end
mutual
theorem Is.reads {P:Program} {w:World} {H:Hp} {h:Heap} (ok:HOk P w H h):∀{d:Dt} {v:V} {u:Value},Is H v d->RelV v u->∃ as,Reads h u (toP d) as
 | .non,_,_,k,r=>by simp only[Is] at k;subst k;cases r;exact⟨_,Reads.none⟩
 | .bl b,_,_,k,r=>by simp only[Is] at k;subst k;cases r;exact⟨_,Reads.bool b⟩
 | .int i,_,_,k,r=>by simp only[Is] at k;subst k;obtain⟨t,rfl⟩:=r;exact⟨_,Reads.int i t⟩
 | .str x,_,_,k,r=>by simp only[Is] at k;subst k;obtain⟨t,rfl⟩:=r;exact⟨_,Reads.str x t⟩
 | .tup ds,_,_,k,r=>by
  simp only[Is] at k
  obtain⟨a,xs,rfl,h1,h2⟩:=k
  cases r
  obtain⟨_,its,rv,o,ho,hc,n,hd⟩:=(show ObjOk P w H h a (.tup xs) from ok a _ h1)
  obtain⟨as,q⟩:=IsL.reads ok h2 rv
  exact⟨_,Reads.tuple ho hc hd (by simpa using q)⟩
 | .lst ds,_,_,k,r=>by
  simp only[Is] at k
  obtain⟨a,xs,rfl,h1,h2⟩:=k
  cases r
  obtain⟨_,its,n,rv,e⟩:=(show ObjOk P w H h a (.lst xs) from ok a _ h1)
  obtain⟨as,q⟩:=IsL.reads ok h2 rv
  exact⟨_,Reads.list e rfl rfl (by simpa using q)⟩
theorem IsL.reads {P:Program} {w:World} {H:Hp} {h:Heap} (ok:HOk P w H h):∀{ds:List Dt} {xs:List V} {us:List Value},IsL H xs ds->Vals xs us->∃ as,ReadsAll h us (toPs ds) as
 | [],[],_,_,.nil=>⟨_,ReadsAll.nil⟩
 | d::ds,x::xs,_,k,.cons r t=>by
  simp only[IsL] at k
  obtain⟨as,q⟩:=Is.reads ok k.1 r
  obtain⟨bs,q2⟩:=IsL.reads ok k.2 t
  exact⟨_,ReadsAll.cons q q2⟩
 | [],_::_,_,k,_=>by simp only[IsL] at k
 | _::_,[],_,k,_=>by simp only[IsL] at k
end
def okD (d:Dt):Prop:=SeqAt.shaped (toP d)=true
def eqD (d e:Dt):Bool:=PyData.eqv (toP d) (toP e)
theorem jlo_ {d:Dt} (h:okD d):eqD d d=true:=SeqAt.eqv_refl _ (SeqAt.canLay_of_shaped h)
end L2
namespace L2
open PySem PySem.Spec PyProof.Rows
section
variable {X:Cx}
theorem OpR.imp {f:Value->Value->Sem Value} {r r':R2} (h:OpR X f r) (hi:∀ x y H Q,r' x y H Q->r x y H Q):OpR X f r':=fun pins s σ H x y v u Q I rx ry q=>h pins s σ H x y v u Q I rx ry (hi x y H Q q)
theorem CallR.imp {f:Value} {r r':List V->Hp->VK->Prop} (h:CallR X f r) (hi:∀ xs H Q,r' xs H Q->r xs H Q):CallR X f r':=fun pins s σ H xs us Q I rs q=>h pins s σ H xs us Q I rs (hi xs H Q q)
end
section
variable {X:Cx} {pins:List (Addr×Obj)} {σ:St} {H:Hp} {s:Shared} {Q:VK}
theorem endS {z:Str} {t:Tok} (I:Inv X pins σ H s) (q:Q (.str z) H):EP X pins σ Q (.str z t) s:=⟨.str z,H,I,⟨t,rfl⟩,q⟩
theorem endB {b:Bool} (I:Inv X pins σ H s) (q:Q (.bl b) H):EP X pins σ Q (.bool b) s:=⟨.bl b,H,I,rfl,q⟩
end
def lstR (H:Hp) (a:Addr):Option (List V):=match H a with
 | some (.lst xs)=>some xs
 | some (.frz _ (.lst xs))=>some xs
 | _=>none
def tupR (H:Hp) (a:Addr):Option (List V):=match H a with
 | some (.tup xs)=>some xs
 | _=>none
def seqR (H:Hp) (a:Addr):Option (List V):=match lstR H a with
 | some xs=>some xs
 | none=>tupR H a
theorem uy_ {H:Hp} {a:Addr} {xs:List V} (h:H a=some (.lst xs)):lstR H a=some xs:=by unfold lstR;rw[h]
theorem jpj_ {H:Hp} {a:Addr} {xs:List V} (h:H a=some (.tup xs)):tupR H a=some xs:=by unfold tupR;rw[h]
theorem j6_ {H:Hp} {a:Addr} {xs:List V} (h:H a=some (.lst xs)):seqR H a=some xs:=by unfold seqR;rw[uy_ h]
theorem yw_ {H:Hp} {a:Addr} {xs:List V} (h:H a=some (.tup xs)):seqR H a=some xs:=by
 have e:lstR H a=none:=by unfold lstR;rw[h]
 unfold seqR;rw[e];exact jpj_ h
theorem jde_ {K:pc_} {H:Hp} {a:Addr} {xs:List V} (h:lstR H a=some xs):SqL K H a xs:=by
 unfold lstR at h
 split at h
 ·rename_i e;cases h;exact .inl (.inl e)
 ·rename_i e;cases h;exact .inl (.inr ⟨_,e⟩)
 ·cases h
theorem jdd_ {K:pc_} {H:Hp} {a:Addr} {xs:List V} (h:tupR H a=some xs):SqT K H a xs:=by
 unfold tupR at h
 split at h
 ·rename_i e;cases h;exact .inl (.inl e)
 ·cases h
theorem xr_ {K:pc_} {H:Hp} {a:Addr} {xs:List V} (h:seqR H a=some xs):SqL K H a xs∨SqT K H a xs:=by
 unfold seqR at h
 split at h
 ·rename_i e;cases h;exact .inl (jde_ e)
 ·exact .inr (jdd_ h)
def GetT (H:Hp) (xs:List V) (Q:VK):Prop:=∀ p H',H' p=some (.tup xs)->(∀ b o,H b=some o->H' b=some o)->Q (.ref p) H'
theorem GetT.new {H:Hp} {xs:List V} {Q:VK} (h:GetT H xs Q) {p:Addr} (hp:H p=none):Q (.ref p) (upd H p (.tup xs)) :=
 h p _ jb_ fun b o e=>by rw[jg_ (jh_ e hp)];exact e
theorem GetT.old {H:Hp} {xs:List V} {Q:VK} (h:GetT H xs Q) {p:Addr} (hp:H p=some (.tup xs)):Q (.ref p) H:=h p _ hp fun b o e=>e
def GetL (H:Hp) (xs:List V) (Q:VK):Prop:=∀ p,H p=none->Q (.ref p) (upd H p (.lst xs))
def fAdd:R2:=fun x y H Q=>match x,y with
 | .int i,.int j=>Q (.int (i+j)) H
 | .str i,.str j=>i.length+j.length<=sizeLine/\Q (.str (i++j)) H
 | .ref a,.ref b=>match H a,H b with
  | some (.lst xs),some (.lst ys)=>xs.length+ys.length<=sizeLine/\GetL H (xs++ys) Q
  | some (.tup xs),some (.tup ys)=>xs≠[]/\xs.length+ys.length<=sizeLine/\GetT H (xs++ys) Q
  | _,_=>False
 | _,_=>False
def fMul:R2:=fun x y H Q=>match x,y with
 | .int i,.int j=>CMul i j/\Q (.int (i * j)) H
 | .str z,.int n=>z.length * n.toNat<=1000000/\-(2 ^ 62) < n/\n < 2 ^ 62/\Q (.str (Txt.mul z n)) H
 | .ref a,.int k=>match H a with
  | some (.lst xs)=>-(2 ^ 63)<=k/\k < 2 ^ 63/\xs.length * k.toNat<=sizeLine/\GetL H (pe_ k.toNat xs).flatten Q
  | _=>False
 | _,_=>False
def fI (C:Int->Int->Prop) (g:Int->Int->V):R2:=fun x y H Q=>match x,y with
 | .int i,.int j=>C i j/\Q (g i j) H
 | _,_=>False
def fI0 (g:Int->Int->V):R2:=fun x y H Q=>match x,y with
 | .int i,.int j=>Q (g i j) H
 | _,_=>False
theorem vo_ {g:Int->Int->V}:∀ x y H Q,fI0 g x y H Q->rI0 g x y H Q:=fun x y H Q h=>by
 unfold fI0 at h
 split at h
 ·exact⟨_,_,rfl,rfl,h⟩
 ·exact h.elim
theorem jlw_ {C:Int->Int->Prop} {g:Int->Int->V}:∀ x y H Q,fI C g x y H Q->rI C g x y H Q:=fun x y H Q h=>by
 unfold fI at h
 split at h
 ·exact⟨_,_,rfl,rfl,h.1,h.2⟩
 ·exact h.elim
section
variable {X:Cx}
theorem jo_:OpR X (binaryOp .Add) fAdd:=by
 intro pins s σ H x y v u Q I rx ry h
 unfold fAdd at h
 split at h
 ·exact jqx_ pins s σ H _ _ v u Q I rx ry ⟨_,_,rfl,rfl,h⟩
 ·exact jga_ pins s σ H _ _ v u Q I rx ry ⟨_,_,rfl,rfl,h.1,h.2⟩
 ·split at h
  ·rename_i h1 h2
   exact jrl_ pins s σ H _ _ v u Q I rx ry ⟨_,_,_,_,rfl,rfl,h1,h2,h.1,h.2⟩
  ·rename_i xs ys h1 h2
   refine jon_ pins s σ H _ _ v u Q I rx ry ⟨_,_,_,_,rfl,rfl,SqT.of h1,SqT.of h2,h.1,h.2.1,fun e=>?_,fun _ p hp=>h.2.2.new hp⟩
   subst e
   have:=h.2.2
   rw[p8_] at this
   exact this.old h1
  ·exact h.elim
 ·exact h.elim
theorem xz_:OpR X (binaryOp .Sub) (fI0 fun i j=>.int (i - j)):=op_sub.imp vo_
theorem jmg_:OpR X (binaryOp .FloorDiv) (fI CDiv fun i j=>.int (i / j)):=op_fdiv.imp jlw_
theorem xm_:OpR X (binaryOp .Mod) (fI (fun _ j=>0 < j) fun i j=>.int (i % j)):=op_mod.imp jlw_
theorem jkg_:OpR X (binaryOp .Pow) (fI CPow fun i j=>.int (i ^ j.toNat)):=op_pow.imp jlw_
theorem jkj_ {z:Str} {n:Int} (h:z.length * n.toNat<=1000000) (h1:-(2 ^ 62) < n) (h2:n < 2 ^ 62):MulOk z n:=by
 have e1:((2:Int) ^ 62)=4611686018427387904:=by decide
 have e2:((2:Int) ^ 63)=9223372036854775808:=by decide
 rw[e1] at h1 h2
 refine⟨?_,fun hn _=>?_,fun hn _=>?_⟩
 ·rw[e2];simp only[Bool.or_eq_false_iff,decide_eq_false_iff_not];omega
 ·have hp:0 < n:=by omega
  have hz:(z.length:Int)<=1000000:=by
   have:z.length * 1<=z.length * n.toNat:=rs_ _ (by omega)
   omega
  have e3:((2:Int) ^ 63 - 1)=9223372036854775807:=by decide
  rw[e3]
  intro hgt
  have h3:(9223372036854775807:Int) / n < z.length:=hgt
  have h4:(9223372036854775807:Int) < z.length * n:=by
   have:=Int.lt_mul_of_ediv_lt hp h3
   exact this
  have h5:(z.length:Int) * n<=1000000:=by
   have e:((z.length * n.toNat:Nat):Int)=(z.length:Int) * n:=by
    rw[Int.natCast_mul];congr 1;omega
   omega
  omega
 ·unfold Builtin.Str.tooLong sizeLine
  have e4:(2:Nat) ^ 24=16777216:=by decide
  exact decide_eq_false (by omega)
theorem z5_:OpR X (binaryOp .Mult) fMul:=by
 intro pins s σ H x y v u Q I rx ry h
 unfold fMul at h
 split at h
 ·exact jsm_ pins s σ H _ _ v u Q I rx ry ⟨_,_,rfl,rfl,h.1,h.2⟩
 ·obtain⟨h1,h2,h3,q⟩:=h
  obtain⟨t,rfl⟩:=rx
  obtain⟨t',rfl⟩:=ry
  exact SB.mul (jkj_ h1 h2 h3) fun t' k=>endS (I.tok _) q
 ·split at h
  ·rename_i h1
   exact jqw_ pins s σ H _ _ v u Q I rx ry ⟨_,_,_,rfl,rfl,h1,h.1,h.2.1,h.2.2.1,h.2.2.2⟩
  ·exact h.elim
 ·exact h.elim
theorem o_lt:OpR X (compareOp .Lt) (fI0 fun i j=>.bl (decide (i < j))):=op_lt.imp vo_
theorem o_le:OpR X (compareOp .LtE) (fI0 fun i j=>.bl (decide (i<=j))):=op_le.imp vo_
theorem o_gt:OpR X (compareOp .Gt) (fI0 fun i j=>.bl (decide (j < i))):=op_gt.imp vo_
theorem o_ge:OpR X (compareOp .GtE) (fI0 fun i j=>.bl (decide (j<=i))):=op_ge.imp vo_
def fEq:R2:=fun x y H Q=>(scal x y=true/\Q (.bl (decide (x=y))) H)∨∃ d e,Is H x d/\Is H y e/\okD d/\okD e/\Q (.bl (eqD d e)) H
def fNe:R2:=fun x y H Q=>(scal x y=true/\Q (.bl (!decide (x=y))) H)∨∃ d e,Is H x d/\Is H y e/\okD d/\okD e/\Q (.bl (!eqD d e)) H
def fIs:R2:=fun x y H Q=>y=.non/\Q (.bl (decide (x=.non))) H
def jkh_:R2:=fun x y H Q=>y=.non/\Q (.bl (!decide (x=.non))) H
theorem o_eq (hu:X.A.units+64 < cLine):OpR X (compareOp .Eq) fEq:=by
 intro pins s σ H x y v u Q I rx ry h
 rcases h with h | ⟨d,e,h1,h2,h3,h4,q⟩
 ·exact jtp_ pins s σ H x y v u Q I rx ry h
 ·obtain⟨as,r1⟩:=Is.reads I.hok h1 rx
  obtain⟨bs,r2⟩:=Is.reads I.hok h2 ry
  exact eq_dataH r1 r2 h3 h4 hu (endB I q)
theorem o_ne (hu:X.A.units+64 < cLine):OpR X (compareOp .NotEq) fNe:=by
 intro pins s σ H x y v u Q I rx ry h
 rcases h with h | ⟨d,e,h1,h2,h3,h4,q⟩
 ·exact jtw_ pins s σ H x y v u Q I rx ry h
 ·obtain⟨as,r1⟩:=Is.reads I.hok h1 rx
  obtain⟨bs,r2⟩:=Is.reads I.hok h2 ry
  exact ne_dataH r1 r2 h3 h4 hu (endB I q)
theorem o_is:OpR X (compareOp .Is) fIs:=jrn_
theorem jnr_:OpR X (compareOp .IsNot) jkh_:=jpq_
def fIn (neg:Bool):R2:=fun x y H Q=>match x,y with
 | .str i,.str j=>Q (.bl (xor neg (k2_ j i))) H
 | x,.ref p=>match seqR H p with
  | some xs=>yj_ x=true/\xs.all yj_=true/\Q (.bl (if neg then !inV x xs else inV x xs)) H
  | none=>False
 | _,_=>False
theorem o_in:OpR X (compareOp .In) (fIn false):=by
 intro pins s σ H x y v u Q I rx ry h
 unfold fIn at h
 split at h
 ·refine jit_ pins s σ H _ _ v u Q I rx ry ⟨_,_,rfl,rfl,?_⟩
  simpa [k2_] using h
 ·split at h
  ·rename_i e
   exact jka_ pins s σ H _ _ v u Q I rx ry ⟨_,_,rfl,xr_ e,h.1,h.2.1,h.2.2⟩
  ·exact h.elim
 ·exact h.elim
theorem jnq_:OpR X (compareOp .NotIn) (fIn true):=by
 intro pins s σ H x y v u Q I rx ry h
 unfold fIn at h
 split at h
 ·refine jcj_ pins s σ H _ _ v u Q I rx ry ⟨_,_,rfl,rfl,?_⟩
  simpa [k2_] using h
 ·split at h
  ·rename_i e
   exact jcr_ pins s σ H _ _ v u Q I rx ry ⟨_,_,rfl,xr_ e,h.1,h.2.1,h.2.2⟩
  ·exact h.elim
 ·exact h.elim
def fNeg:V->Hp->VK->Prop:=fun x H Q=>match x with
 | .int i=>Q (.int (-i)) H
 | _=>False
theorem jql_:UnR X (unaryOp .USub) fNeg:=fun pins s σ H x v Q I rx h=>by
 unfold fNeg at h
 split at h
 ·exact jsv_ pins s σ H _ v Q I rx ⟨_,rfl,h⟩
 ·exact h.elim
def fIx (K:pc_):R2:=fun x y H Q=>match x,y with
 | .ref p,.int i=>∃ xs v,(SqL K H p xs∨SqT K H p xs)/\atI xs i=some v/\Q v H
 | .str z,.int i=>z.length<=sizeLine/\(match atI z.cps.toList i with | some c=>Q (.str ⟨#[c]⟩) H | none=>False)
 | _,_=>False
theorem jn_ {K:pc_} (hK:X.K=K:=by rfl):IxR X (fIx K):=by
 subst hK
 intro value slice pins s σ H x y v u Q I rx ry h hs
 unfold fIx at h
 split at h
 ·obtain⟨xs,w',e,e',h⟩:=h
  rcases e with q | q
  ·exact joi_ value slice pins s σ H _ _ v u Q I rx ry ⟨_,_,_,_,rfl,rfl,q,e',h⟩ hs
  ·exact jse_ value slice pins s σ H _ _ v u Q I rx ry ⟨_,_,_,_,rfl,rfl,q,e',h⟩ hs
 ·obtain⟨hz,h⟩:=h
  split at h
  ·rename_i c e
   exact jre_ value slice pins s σ H _ _ v u Q I rx ry ⟨_,_,_,rfl,rfl,hz,e,h⟩ hs
  ·exact h.elim
 ·exact h.elim
def fSl (K:pc_):V->Option Int->Option Int->Hp->VK->Prop:=fun x lo hi H Q=>match x with
 | .str z=>z.length<=sizeLine/\Q (.str (kw_ z lo hi)) H
 | .ref a=>(∃ xs,SqL K H a xs/\GetL H (cutV xs lo hi) Q) ∨
  (∃ xs,SqT K H a xs/\¬ (HT.sIx xs.length 0 lo=0/\HT.sIx xs.length xs.length hi=xs.length)/\GetT H (cutV xs lo hi) Q)
 | _=>False
theorem jsn_:SlR X (fun x lo hi H Q=>∃ z,x=.str z/\z.length<=sizeLine/\Q (.str (kw_ z lo hi)) H):=by
 intro pins s σ H x v vl vu lo hi sl Q I rx hs pl pu h
 obtain⟨z,rfl,hz,q⟩:=h
 obtain⟨t,rfl⟩:=rx
 refine⟨"str",_,PySem.F.slot_str_getitem.lookup,typeIs_str _ _ _,?_⟩
 have fin:∀(l u:Option (Int×Tok)),l.map (·.1)=lo->u.map (·.1)=hi->s.heap.IsSlice sl l u none->wpAny (model X.prog X.w) X.A (getItem (.str z t) (.ref sl)) (EP X pins σ Q) X.xe s:=fun l u el eu hs'=>by
  subst el eu
  refine wpAny_getItem_str_slice hs' rfl ?_
  have q':∀ t' k,EP X pins σ Q (.str (kw_ z (l.map (·.1)) (u.map (·.1))) t') { s with toks:=k }:=fun t' k=>endS (I.tok _) q
  exact post_val_or_str ⟨p5_ (Txt.slice_le z _ _) hz,fun t' k=>q' t' k⟩
 cases pl with
 | none =>
  cases pu with
  | none=>exact fin none none rfl rfl hs
  | int j u=>exact fin none (some (j,u)) rfl rfl hs
 | int i t' =>
  cases pu with
  | none=>exact fin (some (i,t')) none rfl rfl hs
  | int j u=>exact fin (some (i,t')) (some (j,u)) rfl rfl hs
theorem x1_ {K:pc_} (hK:X.K=K:=by rfl):SlR X (fSl K):=by
 subst hK
 intro pins s σ H x v vl vu lo hi sl Q I rx hs pl pu h
 unfold fSl at h
 split at h
 ·exact jsn_ pins s σ H _ v vl vu lo hi sl Q I rx hs pl pu ⟨_,rfl,h.1,h.2⟩
 ·rcases h with ⟨xs,e,h⟩ | ⟨xs,e,h⟩
  ·exact jns_ pins s σ H _ v vl vu lo hi sl Q I rx hs pl pu ⟨_,_,rfl,e,h⟩
  ·exact jqv_ pins s σ H _ v vl vu lo hi sl Q I rx hs pl pu ⟨_,_,rfl,e,h.1,fun p hp=>h.2.new hp⟩
 ·exact h.elim
def fLen (K:pc_):List V->Hp->VK->Prop:=fun xs H Q=>match xs with
 | [.str z]=>z.length<=sizeLine/\Q (.int z.length) H
 | [.ref p]=>∃ ys,(SqL K H p ys∨SqT K H p ys)/\Q (.int ys.length) H
 | _=>False
theorem z0_ {K:pc_} (hK:X.K=K:=by rfl):CallR X (.builtin "len") (fLen K):=by
 subst hK
 intro pins s σ H xs us Q I r h
 unfold fLen at h
 split at h
 ·exact jco_ pins s σ H _ us Q I r ⟨_,rfl,h.1,h.2⟩
 ·obtain⟨ys,e,h⟩:=h
  exact jcn_ pins s σ H _ us Q I r ⟨_,_,rfl,e,h⟩
 ·exact h.elim
def f2I (g:Int->Int->V):List V->Hp->VK->Prop:=fun xs H Q=>match xs with
 | [.int i,.int j]=>Q (g i j) H
 | _=>False
theorem jkx_ (hc:X.calm=true):CallR X (.builtin "max") (f2I fun i j=>.int (if j > i then j else i)):=(jjn_ hc).imp fun xs H Q h=>by
 unfold f2I at h
 split at h
 ·exact⟨_,_,rfl,h⟩
 ·exact h.elim
theorem jud_ (hc:X.calm=true):CallR X (.builtin "min") (f2I fun i j=>.int (if j < i then j else i)):=(jjf_ hc).imp fun xs H Q h=>by
 unfold f2I at h
 split at h
 ·exact⟨_,_,rfl,h⟩
 ·exact h.elim
def fInt:List V->Hp->VK->Prop:=fun xs H Q=>match xs with
 | [.int i]=>Q (.int i) H
 | [.bl b]=>Q (.int (if b then 1 else 0)) H
 | _=>False
theorem jbl_:CallR X (.type "int") fInt:=call_int1.imp fun xs H Q h=>by
 unfold fInt at h
 split at h
 ·exact .inl ⟨_,rfl,h⟩
 ·exact .inr ⟨_,rfl,h⟩
 ·exact h.elim
def jlx_:List V->Hp->VK->Prop:=fun xs H Q=>match xs with
 | [.ref p]=>(match seqR H p with | some ys=>GetL H ys Q | none=>False)
 | _=>False
theorem jkf_:CallR X (.type "list") jlx_:=call_list_of.imp fun xs H Q h=>by
 unfold jlx_ at h
 split at h
 ·split at h
  ·rename_i e;exact⟨_,_,rfl,xr_ e,h⟩
  ·exact h.elim
 ·exact h.elim
def jgi_:List V->Hp->VK->Prop:=fun xs H Q=>match xs with
 | [.ref p]=>(match seqR H p with | some ys=>GetT H ys Q | none=>False)
 | _=>False
theorem jkq_ {H:Hp} {p:Addr} {ys:List V} (h:tupR H p=some ys):H p=some (.tup ys):=by
 unfold tupR at h
 split at h
 ·rename_i e;cases h;exact e
 ·cases h
theorem ur_:CallR X (.type "tuple") jgi_:=call_tuple_of.imp fun xs H Q h=>by
 unfold jgi_ at h
 split at h
 ·split at h
  ·rename_i ys e
   refine⟨_,ys,rfl,?_⟩
   unfold seqR at e
   split at e
   ·rename_i e';cases e
    exact .inl ⟨jde_ e',fun l hl=>h.new hl⟩
   ·exact .inr ⟨jdd_ e,h.old (jkq_ e)⟩
  ·exact h.elim
 ·exact h.elim
def fTru (x:V) (H:Hp) (Q:Bool->Hp->Prop):Prop:=match x with
 | .non=>Q false H
 | .bl b=>Q b H
 | .int i=>Q (i != 0) H
 | .str z=>z.length<=sizeLine/\Q ((z.length:Int) != 0) H
 | .ref p=>(match seqR H p with | some xs=>Q (!xs.isEmpty) H | none=>False)
 | _=>False
theorem jcx_ {a:Expr} {ta:TE} (ha:PE X a ta) (he:∀ whole,isTrue a X.env whole=(do let v <- whole;standAt a.pos;holding [v] (truthy v))) :
  PT X a (fun σ H Q=>ta σ H fun x H'=>fTru x H' Q):=by
 intro pins s σ H Q I h
 show wpAny _ _ (isTrue a X.env (eval a X.env)) _ _ _
 rw[he]
 refine wpAny_bind (thn (ha pins s σ H _ I h) fun v s1 ⟨x,H1,I1,r1,q1⟩=>wpAny_bind (wpAny_standAt (wpAny_holding ?_)))
 refine jsp_ pins s1 σ H1 x v Q I1 r1 ?_
 have q1:fTru x H1 Q:=q1
 unfold fTru at q1
 split at q1
 ·exact⟨_,rfl,q1⟩
 ·exact⟨_,rfl,q1⟩
 ·exact⟨_,rfl,q1⟩
 ·exact⟨_,⟨q1.1,rfl⟩,q1.2⟩
 ·split at q1
  ·rename_i xs e
   refine⟨_,?_,q1⟩
   rcases xr_ (K:=X.K) e with z | z
   ·exact .inl ⟨_,z,rfl⟩
   ·exact .inr (.inl ⟨_,z,rfl⟩)
  ·exact q1.elim
 ·exact q1.elim
def jdb_:V->List V->Hp->VK->Prop:=fun x vs H Q=>match x,vs with
 | .ref l,[y]=>(match H l with | some (.lst xs)=>xs.length < sizeLine/\Q .non (upd H l (.lst (xs++[y]))) | _=>False)
 | _,_=>False
theorem yz_:MtR X "list.append" jdb_:=fun pins s σ H x xs v us Q I rx rs h=>by
 unfold jdb_ at h
 split at h
 ·split at h
  ·rename_i e
   exact jbu_ pins s σ H _ _ v us Q I rx rs ⟨_,_,_,rfl,rfl,e,h.1,h.2⟩
  ·exact h.elim
 ·exact h.elim
theorem u9_:∀{ys:List Str} {us:List Value},Vals (ys.map V.str) us->StrsAre us ys
 | [],_,.nil=>.nil
 | y::ys,_,.cons r t=>by
  obtain⟨k,rfl⟩:=r
  exact .cons y k (u9_ t)
def strs?:List V->Option (List Str)
 | []=>some []
 | .str z::r=>(strs? r).map (z::·)
 | _=>none
theorem strs?_map:∀ ys:List Str,strs? (ys.map V.str)=some ys
 | []=>rfl
 | y::ys=>by simp only[ps_,strs?,strs?_map ys,sp_]
theorem strs?_of:∀{xs:List V} {ys:List Str},strs? xs=some ys->xs=ys.map V.str
 | [],_,h=>by cases h;rfl
 | .str z::r,ys,h=>by
  simp only[strs?] at h
  cases e:strs? r with
  | none=>rw[e] at h;cases h
  | some q=>rw[e] at h;cases h;rw[strs?_of e];rfl
 | .non::_,_,h=>by cases h
 | .bl _::_,_,h=>by cases h
 | .int _::_,_,h=>by cases h
 | .byt _::_,_,h=>by cases h
 | .flt _::_,_,h=>by cases h
 | .ref _::_,_,h=>by cases h
 | .ty _::_,_,h=>by cases h
def jnc_:V->List V->Hp->VK->Prop:=fun x vs H Q=>match x,vs with
 | .str z,[.ref p]=>(match lstR H p with
  | some xs=>(match strs? xs with
   | some ys=>(ys.map (·.length)).sum+ys.length * z.length<=16777216/\Q (.str (k6_ z ys)) H
   | none=>False)
  | none=>False)
 | _,_=>False
theorem jnu_:MtR X "str.join" jnc_:=fun pins s σ H x xs v us Q I rx rs h=>by
 unfold jnc_ at h
 split at h
 ·rename_i z p
  split at h
  ·rename_i ws e
   split at h
   ·rename_i ys e2
    obtain⟨t,rfl⟩:=rx
    obtain⟨u,rfl,ru⟩:=ue_ rs
    cases ru
    obtain⟨its,r',pl,hz⟩:=I.list (jde_ e)
    rw[strs?_of e2] at r'
    exact join_list pl.isList (u9_ (by simpa using r')) h.1 fun t' k=>endS (I.tok _) h.2
   ·exact h.elim
  ·exact h.elim
 ·exact h.elim
def fSSI (g:Str->Str->Int->V):V->List V->Hp->VK->Prop:=fun x vs H Q=>match x,vs with
 | .str z,[.str y,.int i]=>Q (g z y i) H
 | _,_=>False
theorem jau_:MtR X "str.startswith" (fSSI fun z y i=>.bl (kb_ z y i)):=fun pins s σ H x xs v us Q I rx rs h=>by
 unfold fSSI at h
 split at h
 ·obtain⟨t,rfl⟩:=rx
  obtain⟨u,w',rfl,⟨t',rfl⟩,⟨t'',rfl⟩⟩:=jej_ rs
  exact SC.startswith3 (endB I h)
 ·exact h.elim
end
end L2
namespace L2
open PySem PySem.Spec PyProof.Rows
def tyN (H:Hp):V->Option String
 | .non=>some "NoneType"
 | .bl _=>some "bool"
 | .int _=>some "int"
 | .str _=>some "str"
 | .ref a=>match H a with
  | some (.lst _)=>some "list"
  | some (.frz _ (.lst _))=>some "list"
  | some (.tup _)=>some "tuple"
  | _=>none
 | _=>none
def subB (t T:String):Bool:=t == T || (t == "bool"&&T == "int")
def tys?:List V->Option (List String)
 | []=>some []
 | .ty T::r=>(tys? r).map (T::·)
 | _=>none
def x3_ (T:String):Bool:=["bool","int","str","list","tuple"].contains T
theorem jbo_ {K:pc_} {t T:String} (ht:t="NoneType"∨t="bool"∨t="int"∨t="str"∨t="list"∨t="tuple") (hT:T="bool"∨T="int"∨T="str"∨T="list"∨T="tuple") :
  PySem.W.kitOne K (.type t) (.type T)=some (subB t T):=by
 rcases ht with rfl | rfl | rfl | rfl | rfl | rfl <;> rcases hT with rfl | rfl | rfl | rfl | rfl <;> kernel_rfl
def fIsi:List V->Hp->VK->Prop:=fun xs H Q=>match xs with
 | [x,.ty T]=>(match tyN H x with
  | some t=>x3_ T=true/\Q (.bl (subB t T)) H
  | none=>False)
 | [x,.ref p]=>(match tyN H x,tupR H p with
  | some t,some ts=>(match tys? ts with
   | some Ts=>Ts.all x3_=true/\Q (.bl (Ts.any (subB t))) H
   | none=>False)
  | _,_=>False)
 | _=>False
section
variable {X:Cx}
theorem jie_ {K:pc_} {pins:List (Addr×Obj)} {σ:St} {H:Hp} {s:Shared} {x:V} {u:Value} {t:String} (I:Inv X pins σ H s) (rx:RelV x u) (e:tyN H x=some t) :
  (t="NoneType"∨t="bool"∨t="int"∨t="str"∨t="list"∨t="tuple")/\u≠.builtin "__main__.__loader__#opaque"/\∃ Hp',PySem.W.KitX K u (.type t) Hp'/\Hp' s.heap:=by
 cases x with
 | non=>cases (show u=Value.none from rx);cases e;exact⟨by simp,(fun z=>nomatch z),_,PySem.W.kitx_none,True.intro⟩
 | bl b=>cases (show u=Value.bool b from rx);cases e;exact⟨by simp,(fun z=>nomatch z),_,PySem.W.kitx_bool,True.intro⟩
 | int i=>obtain⟨k,q⟩:=(show ∃ t,u=Value.int i t from rx);cases q;cases e;exact⟨by simp,(fun z=>nomatch z),_,PySem.W.kitx_int,True.intro⟩
 | str z=>obtain⟨k,q⟩:=(show ∃ t,u=Value.str z t from rx);cases q;cases e;exact⟨by simp,(fun z=>nomatch z),_,PySem.W.kitx_str,True.intro⟩
 | ref a =>
  cases (show u=Value.ref a from rx)
  unfold tyN at e
  dsimp only at e
  split at e
  ·rename_i xs ea
   cases e
   obtain⟨_,_,n,_,h1⟩:=(show ObjOk X.prog X.w H s.heap a (.lst xs) from I.hok a _ ea)
   exact⟨by simp,(fun z=>nomatch z),_,kz_,⟨_,h1,rfl⟩⟩
  ·rename_i ob xs ea
   cases e
   obtain⟨_,_,_,n,_,h1⟩:=(show ObjOk X.prog X.w H s.heap a (.frz ob (.lst xs)) from I.hok a _ ea)
   exact⟨by simp,(fun z=>nomatch z),_,kz_,⟨_,h1,rfl⟩⟩
  ·rename_i xs ea
   cases e
   obtain⟨_,_,_,p⟩:=(show ObjOk X.prog X.w H s.heap a (.tup xs) from I.hok a _ ea)
   obtain⟨o,h1,h2,_⟩:=p
   exact⟨by simp,(fun z=>nomatch z),_,PySem.W.kitx_tuple,⟨o,h1,h2⟩⟩
  ·cases e
 | byt _=>cases e
 | flt _=>cases e
 | ty _=>cases e
theorem jbk_ {T:String} (h:x3_ T=true):T="bool"∨T="int"∨T="str"∨T="list"∨T="tuple":=by
 simpa [x3_] using h
theorem jhj_ {K:pc_} {t:String} (ht:t="NoneType"∨t="bool"∨t="int"∨t="str"∨t="list"∨t="tuple"):∀{ts:List V} {Ts:List String} {its:List Value},tys? ts=some Ts->Vals ts its->Ts.all x3_=true ->
  PySem.W.kitAny K (.type t) its=some (Ts.any (subB t))
 | [],_,_,e,.nil,_=>by cases e;rfl
 | .ty T::r,Ts,_,e,.cons rv rt,hk=>by
  simp only[tys?] at e
  cases er:tys? r with
  | none=>rw[er] at e;cases e
  | some q =>
   rw[er] at e
   cases e
   simp only[ww_,p2_] at hk
   cases rv
   have h1:=jbo_ (K:=K) ht (jbk_ hk.1)
   have h2:=jhj_ (K:=K) ht er rt hk.2
   unfold PySem.W.kitAny
   rw[h1]
   cases hb:subB t T with
   | true=>simp[hb]
   | false=>simp only[ty_,hb,Bool.false_or];exact h2
 | .non::_,_,_,e,_,_=>by cases e
 | .bl _::_,_,_,e,_,_=>by cases e
 | .int _::_,_,_,e,_,_=>by cases e
 | .str _::_,_,_,e,_,_=>by cases e
 | .byt _::_,_,_,e,_,_=>by cases e
 | .flt _::_,_,_,e,_,_=>by cases e
 | .ref _::_,_,_,e,_,_=>by cases e
theorem jdh_:CallR X (.builtin "isinstance") fIsi:=by
 intro pins s σ H xs us Q I r h
 unfold fIsi at h
 split at h
 ·rename_i x T
  split at h
  ·rename_i t et
   obtain⟨u,c,rfl,rx,rc⟩:=jej_ r
   cases rc
   obtain⟨ht,hu,H',hk,hH⟩:=jie_ (K:=X.K) I rx et
   exact PySem.W.kia_one hk I.kIn hH (jbo_ ht (jbk_ h.1)) hu fun tk=>endB (I.tok _) h.2
  ·exact h.elim
 ·rename_i x p
  split at h
  ·rename_i t ts et ep
   split at h
   ·rename_i Ts eT
    obtain⟨u,c,rfl,rx,rc⟩:=jej_ r
    cases rc
    obtain⟨ht,hu,H',hk,hH⟩:=jie_ (K:=X.K) I rx et
    obtain⟨its,rv,pl,hz⟩:=I.tuple (jdd_ ep)
    obtain⟨⟨cls,dd,data,sl⟩,ho,hc,n,hd⟩:=id pl
    simp only at hc hd
    subst hc hd
    exact PySem.W.kia_tup hk I.kIn hH ho (jhj_ ht eT rv h.1) hu fun tk=>endB (I.tok _) h.2
   ·exact h.elim
  ·exact h.elim
 ·exact h.elim
def bls?:List V->Option (List Bool)
 | []=>some []
 | .bl b::r=>(bls? r).map (b::·)
 | _=>none
def fAll (f:List Bool->Bool):List V->Hp->VK->Prop:=fun xs H Q=>match xs with
 | [.ref p]=>(match lstR H p with
  | some ys=>(match bls? ys with | some bs=>Q (.bl (f bs)) H | none=>False)
  | none=>False)
 | _=>False
end
def Its (xs:List V):It:=⟨fun i _=>i < xs.length,fun i H x H'=>H'=H/\xs[i]?=some x,fun i _=>i=xs.length⟩
def chs (z:Str):List V:=z.cps.toList.map fun c=>V.str ⟨#[c]⟩
theorem jai_ {P:Program} {w:World} {K:pc_} {tg:Expr} {it:Addr} {n:Nat} {Pv:Nat->Value->Prop} {St:Nat->Heap->Prop} {xs:List V}
  (hW:∀ A:Around,A.handled=none->Walks P w A it [it] [it] n Pv St) (hn:xs.length=n) (hx:∀ i u,Pv i u->∃ x,xs[i]?=some x/\RelV x u)
  (hobj:∀ i h,St i h->∃ o ty vs,h.get? it=some o/\o.cls=.type ty/\o.data=.fields vs/\["enumerate","zip","dict_itemiterator","dict_reverseitemiterator","odict_iterator","itertools.zip_longest","itertools.pairwise"].contains ty=false)
  (hself:∀(A:Around) (i:Nat) (s:Shared) (Q:Value->Shared->Prop) (E:Value->Shared->Prop),St i s.heap->Q (.ref it) s->wpAny (model P w) A (pyIter (.ref it)) Q E s) :
  Turn P w K tg (Its xs) [it] it St where
 mem:=by simp
 obj:=fun i h st b hb=>by
  have e:b=it:=by simpa using hb
  subst e
  obtain⟨o,ty,vs,ho,_,hd,_⟩:=hobj i h st
  exact⟨o,ho,fun v z=>by rw[hd] at z;cases z⟩
 keep:=fun i h h' st k=>(hW {} rfl).frame i h h' st k
 item:=by
  intro X hP hw hK hc i pins s σ H E I hf st hg
  subst hP hw hK
  obtain⟨f0,f1,f2,f3,f4,f5⟩:=hf it (by simp)
  have hlt:i < n:=by rw[<- hn];exact hg
  refine(hW X.A (I.ok.hd hc)).item i s _ E hlt st fun v h' tk pv st' k=>?_
  obtain⟨x,ex,rx⟩:=hx i v pv
  have I1:Inv X pins σ H { s with heap:=h',toks:=tk }:=I.turned (fun b o hb e=>k b o (by simpa using hb) e) f0 f1 f3 f4 f5
  obtain⟨o,ty,vs,ho,hcl,hd,hnn⟩:=hobj _ _ st'
  exact⟨v,rfl,jea_ (s:={ s with heap:=h',toks:=tk }) ho hcl hd hnn ⟨x,H,I1,rx,⟨rfl,ex⟩,st',fun b hb=>(hf b hb).1⟩⟩
 done:=by
  intro X hP hw hK hc i pins s σ H E I hf st hg
  subst hP hw hK
  obtain⟨f0,f1,f2,f3,f4,f5⟩:=hf it (by simp)
  have e:i=n:=by rw[<- hn];exact hg
  subst e
  exact(hW X.A (I.ok.hd hc)).done s _ E st fun h' tk k=>⟨rfl,I.turned (fun b o hb e=>k b o (by simpa using hb) e) f0 f1 f3 f4 f5⟩
 self:=hself
section
variable {X:Cx} {tg:Expr}
def jif_ (K:pc_) (R:It->Hp->Prop):V->Hp->Prop:=fun x H1=>match x with
 | .str z=>R (Its (chs z)) H1
 | .ref a=>(∃ xs,SqL K H1 a xs/\R (Itl K a) H1)∨(∃ xs,SqT K H1 a xs/\R (Itt K a) H1)
 | _=>False
def iAny (K:pc_) (te:TE):TI:=fun σ H R=>te σ H (jif_ K R)
theorem jes_ {z:Str} {i:Nat} {u:Value} (h:SignAt z i u):∃ x,(chs z)[i]?=some x/\RelV x u:=by
 obtain⟨c,k,hc,rfl⟩:=h
 refine⟨.str ⟨#[c]⟩,?_,⟨k,rfl⟩⟩
 unfold chs
 rw[pl_,qi_,hc]
 rfl
theorem ys_ {K:pc_} {l:Expr} {tl:TE} (hl:PE X l tl) (hK:X.K=K:=by rfl):PI X tg l (iAny K tl):=by
 subst hK
 intro pins s σ H R I h
 refine thn (hl pins s σ H _ I h) fun v s1 ⟨x,H1,I1,r1,q1⟩=>?_
 have fresh1:∀ b∈[s1.heap.objs.size],FpOk X pins H1 b:=fun b hb=>by
  have e:b=s1.heap.objs.size:=by simpa using hb
  subst e
  exact I1.fpOk (pk_ _) (I1.hok.fresh (pk_ _))
 have kept1:∀ ob:Obj,Inv X pins σ H1 { s1 with heap:=s1.heap.push ob }:=fun ob=>I1.kept (t':=s1.toks) fun b o e=>pg_ _ e
 unfold jif_ at q1
 split at q1
 ·rename_i z
  obtain⟨t,rfl⟩:=r1
  have hlen:(chs z).length=z.cps.size:=by unfold chs;simp
  cases ha:z.cps.all (· < 128)
  ·refine wpAny_pyIter_wide ha ⟨s1.heap.objs.size,[s1.heap.objs.size],_,_,H1,rfl,kept1 _,jai_ (fun A hA=>Walks.strWide hA s1.heap.objs.size z t) hlen (fun i u hu=>jes_ hu) ?_ (fun A i s Q E st q=>wpAny_pyIter_striter_wide st q),⟨_,py_ _ rfl,rfl,rfl⟩,fresh1,q1⟩
   intro i h st
   obtain⟨o,ho,hc,hd⟩:=st
   exact⟨o,_,_,ho,hc,hd,by decide⟩
  ·refine wpAny_pyIter_ascii ha ⟨s1.heap.objs.size,[s1.heap.objs.size],_,_,H1,rfl,kept1 _,jai_ (fun A hA=>Walks.strAscii hA s1.heap.objs.size z t) hlen (fun i u hu=>jes_ hu) ?_ (fun A i s Q E st q=>wpAny_pyIter_striter_ascii st q),⟨_,py_ _ rfl,rfl,rfl⟩,fresh1,q1⟩
   intro i h st
   obtain⟨o,ho,hc,hd⟩:=st
   exact⟨o,_,_,ho,hc,hd,by decide⟩
 ·rename_i a
  cases r1
  rcases q1 with ⟨xs,e,q1⟩ | ⟨xs,e,q1⟩
  ·obtain⟨its,rv,p,hz⟩:=I1.list e
   exact wpAny_pyIter_list p.isList ⟨s1.heap.objs.size,[s1.heap.objs.size],_,_,H1,rfl,kept1 _,jiw_ a _,⟨_,py_ _ rfl,rfl,rfl⟩,fresh1,q1⟩
  ·obtain⟨its,rv,p,hz⟩:=I1.tuple e
   exact wpAny_pyIter_tuple (show s1.heap.IsTuple a its.toArray from p) ⟨s1.heap.objs.size,[s1.heap.objs.size],_,_,H1,rfl,kept1 _,jfd_ a _,⟨_,py_ _ rfl,rfl,rfl⟩,fresh1,q1⟩
 ·exact q1.elim
end
theorem jdg_ {J:It} {n:Nat} {val:Nat->V} {p:Addr} {g:TG} {tc:TT} {te:TE} {Q:VK} {σ0:St} {H0:Hp} (Pv:Nat->List V->St->Hp->Prop)
  (hgo:∀ i acc σ H,i < n->Pv i acc σ H->J.go i H) (hst:∀ acc σ H,Pv n acc σ H->J.stop n H) (hy:∀ i acc σ H x H',i < n->Pv i acc σ H->J.yld i H x H'->H'=H/\x=val i)
  (h0:Pv 0 [] σ0 H0) (hp:∀ i acc σ H,Pv i acc σ H->H p=some (.lst acc)/\acc.length<=i) (hz:n<=sizeLine)
  (hs:∀ i acc σ H,i < n->Pv i acc σ H->g (val i) σ H fun σ3 H3=>tc σ3 H3 fun b H4 =>
   if b=true then te σ3 H4 fun v H5=>H5 p=some (.lst acc)/\Pv (i+1) (acc++[v]) σ3 (upd H5 p (.lst (acc++[v]))) else Pv (i+1) acc σ3 H4)
  (hd:∀ acc σ H,Pv n acc σ H->Q (.ref p) H) :
  yi_ J p g tc te Q σ0 H0:=by
 refine⟨fun i m acc σ H=>m=n - i/\i<=n/\Pv i acc σ H,⟨n,by simp,qz_ _,h0⟩,fun i m acc σ' H' w=>?_⟩
 obtain⟨rfl,hi,q⟩:=w
 obtain⟨q1,q2⟩:=hp i acc σ' H' q
 refine⟨q1,?_⟩
 by_cases hlt:i < n
 ·refine .inr ⟨hgo i acc σ' H' hlt q,by omega,Pv (i+1),fun a' σ3 H3 k=>⟨n - (i+1),by omega,rfl,hlt,k⟩,fun x H2 y=>?_⟩
  obtain⟨rfl,rfl⟩:=hy i acc σ' H' x H2 hlt q y
  exact hs i acc σ' _ hlt q
 ·have e:i=n:=by omega
  subst e
  exact .inl ⟨hst acc σ' H' q,hd acc σ' H' q⟩
theorem zx_ {lo:Int} {n:Nat} {p:Addr} {g:TG} {tc:TT} {te:TE} {Q:VK} {σ0:St} {H0:Hp} (Pv:Nat->List V->St->Hp->Prop)
  (h0:Pv 0 [] σ0 H0) (hp:∀ i acc σ H,Pv i acc σ H->H p=some (.lst acc)/\acc.length<=i) (hz:n<=sizeLine)
  (hs:∀ i acc σ H,i < n->Pv i acc σ H->g (.int (lo+i)) σ H fun σ3 H3=>tc σ3 H3 fun b H4 =>
   if b=true then te σ3 H4 fun v H5=>H5 p=some (.lst acc)/\Pv (i+1) (acc++[v]) σ3 (upd H5 p (.lst (acc++[v]))) else Pv (i+1) acc σ3 H4)
  (hd:∀ acc σ H,Pv n acc σ H->Q (.ref p) H):yi_ (Itr lo n) p g tc te Q σ0 H0 :=
 jdg_ (J:=Itr lo n) (val:=fun i=>.int (lo+i)) Pv (fun _ _ _ _ h _=>h) (fun _ _ _ _=>pk_ n) (fun _ _ _ _ _ _ _ _ y=>y) h0 hp hz hs hd
theorem v9_ {K:pc_} {a:Addr} {xs:List V} {p:Addr} {g:TG} {tc:TT} {te:TE} {Q:VK} {σ0:St} {H0:Hp} (Pv:Nat->List V->St->Hp->Prop)
  (hl:∀ i acc σ H,i<=xs.length->Pv i acc σ H->SqL K H a xs)
  (h0:Pv 0 [] σ0 H0) (hp:∀ i acc σ H,Pv i acc σ H->H p=some (.lst acc)/\acc.length<=i) (hz:xs.length<=sizeLine)
  (hs:∀ i acc σ H,i < xs.length->Pv i acc σ H->g (xs.getD i .non) σ H fun σ3 H3=>tc σ3 H3 fun b H4 =>
   if b=true then te σ3 H4 fun v H5=>H5 p=some (.lst acc)/\Pv (i+1) (acc++[v]) σ3 (upd H5 p (.lst (acc++[v]))) else Pv (i+1) acc σ3 H4)
  (hd:∀ acc σ H,Pv xs.length acc σ H->Q (.ref p) H):yi_ (Itl K a) p g tc te Q σ0 H0 :=
 jdg_ (J:=Itl K a) (n:=xs.length) (val:=fun i=>xs.getD i .non) Pv
  (fun i acc σ H hi q=>⟨xs,xs[i],(hl i acc σ H (sm_ hi) q),by simp[hi]⟩) (fun acc σ H q=>⟨xs,(hl _ acc σ H (pk_ _) q),pk_ _⟩)
  (fun i acc σ H x _ hi q y=>⟨y.1,by have:=y.2 xs (hl i acc σ H (sm_ hi) q);rw[pw_,this];rfl⟩) h0 hp hz hs hd
section
variable {X:Cx} {o e:Expr} {es:List Expr} {to:TE} {t:TA} {name:Str} {apos cpos:Pos} {T id:String} {r:V->List V->Hp->VK->Prop}
theorem yh_ {K:pc_} (pa:PlainAttrs T) (slot:Slot T name id) (hty:typeOf (.builtin id)=pure (.type "method_descriptor")) (hm:MtR X id r) (ho:PE X o to) (ha:PA X (e::es) t) (hK:X.K=K:=by rfl)
  (hb:attributeBase o name X.env (eval o X.env)=eval o X.env:=by rfl)
  (hf:((backTo cpos (starEach (e::es) X.env)).all (fun x=>!x.1)&&(backToKw cpos (keywordEach [] X.env)).all (fun x=>x.1.isSome)&&decide ((e::es).length+([]:List Keyword).length+(if ([]:List Keyword).isEmpty then 0 else 1) < 30))=true:=by rfl)
  (hl:(apos.endLine == cpos.line)=true:=by rfl) (he:starEach (e::es) X.env=(false,eval e X.env)::starEach es X.env:=by rfl) (hpl:(backTo cpos (starEach es X.env)).any (·.1)=false:=by rfl):PE X (.Call (.Attribute o name apos) (e::es) [] cpos) (tBM K T r to t):=by
 subst hK
 exact jum_ pa slot hty hm ho ha hb hf hl he hpl
theorem joc_ {K:pc_} (pa:PlainAttrs T) (slot:Slot T name id) (hty:typeOf (.builtin id)=pure (.type "method_descriptor")) (hm:MtR X id r) (ho:PE X o to) (hK:X.K=K:=by rfl)
  (hbase:attributeBase o name X.env (eval o X.env)=eval o X.env:=by rfl) (hline:(apos.endLine == cpos.line)=true:=by rfl):PE X (.Call (.Attribute o name apos) [] [] cpos) (tBM0 K T r to):=by
 subst hK
 exact jsb_ pa slot hty hm ho hbase hline
end
def fSet:V->V->V->Hp->(Hp->Prop)->Prop:=fun o i v H Q=>match o,i with
 | .ref p,.int k=>(match H p with
  | some (.lst xs)=>(match ixN xs.length k with | some j=>Q (upd H p (.lst (xs.set j v))) | none=>False)
  | _=>False)
 | _,_=>False
theorem jqe_ {X:Cx}:PSet X fSet:=fun pins s σ H o i v ov iv u Q I ro ri rv h=>by
 unfold fSet at h
 split at h
 ·split at h
  ·rename_i xs e
   split at h
   ·rename_i j ej
    exact jlk_ pins s σ H _ _ v ov iv u Q I ro ri rv ⟨_,_,_,_,rfl,rfl,e,ej,h⟩
   ·exact h.elim
  ·exact h.elim
 ·exact h.elim
structure Dn (P:Program) (w:World) (K:pc_) (mg:Str->Option Value) (base:Heap) (x:Str) (k:Nat) (ps:List Str) (sp:Sp):Prop where
 ex:∃(f:Addr) (fd:FuncData),mg x=some (.ref f)/\sk_ K (.ref f)=true/\Binds K fd ps []/\FnOk P w K mg base CX0 k f fd ps sp
theorem ju_ {X:Cx} {x:Str} {k:Nat} {ps:List Str} {sp:Sp} {e:Expr} {es:List Expr} {t:TA} {p pos:Pos} (D:Dn X.prog X.w X.K X.mg X.base x k ps sp) (hr:Room k X.A) (hg:Gl X x) (ha:PA X (e::es) t)
  (hdb:(x == ("__debug__":Str))=false:=by decide) (he:starEach (e::es) X.env=(false,eval e X.env)::starEach es X.env:=by rfl) (hpl:(backTo pos (starEach es X.env)).any (·.1)=false:=by rfl) :
  PE X (.Call (.Name x p) (e::es) [] pos) (jkw_ sp [] E0 t):=by
 obtain⟨f,fd,h1,h2,h3,h4⟩:=D.ex
 exact joh_ h4 hr hg h1 h2 h3 .nil jtg_ ha hdb he hpl
end L2
namespace L2
open PySem
open Sem (wp)
open AutoSeq1 (wpAny_loadPart')
section
variable {prog:Program} {w:World} {A:Around} {E:Value->Shared->Prop} {s:Shared}
theorem jfg_ {it t:Addr} {i:Nat} {items:Array Value} {x:Value} {Q:Value->Shared->Prop} (hit:s.heap.IsTupleIter it t i) (ht:s.heap.IsTuple t items) (hx:items[i]?=some x)
  (hQ:∀ h',h'.IsTupleIter it t (i+1)->q6_ it s.heap h'->Q x { s with heap:=h' }):wpAny (model prog w) A (r3_ (.ref it)) Q E s:=by
 obtain⟨ob,hob,hcl,hdt⟩:=id hit
 obtain⟨ot,hot,_,nt,hdot⟩:=ht
 unfold r3_
 refine wpAny_bind (wpAny_callSpecial?_slot (name:=qy_ "__next__") hit.typeIs rw_ (wpAny_call_entry rw_ hit.typeIs t4_ ?_ (tz_ _)))
 show wpAny _ _ (field (.ref it) 0 >>= _) _ _ s
 refine wpAny_bind (wpAny_field hob hdt (x:=.ref t) rfl ?_)
 have nn:¬ ((Value.ref t == Value.none)=true):=pf_
 show wpAny _ _ (if (Value.ref t == Value.none)=true then _ else _) _ _ s
 rw[if_neg nn]
 show wpAny _ _ (field (.ref it) 1 >>= _) _ _ s
 refine wpAny_bind (wpAny_field hob hdt (x:=.int i 0) rfl ?_)
 show wpAny _ _ (seqItems? (.ref t) >>= _) _ _ s
 refine wpAny_bind (wpAny_seqItems hot hdot ?_)
 simp only[r9_,hx]
 refine wpAny_bind (wpAny_setField hob hdt (by simp) (wpAny_pure ⟨x,rfl,wpAny_pure (hQ _ ?_ (s2_ ..))⟩))
 exact⟨_,ts_ _ hob (kc_ (tc_ hdt _)),(Obj.cls_mapFields ..).trans hcl,by rw[tc_ hdt];simp[rawInt]⟩
theorem jjk_ {it t:Addr} {i:Nat} {items:Array Value} {Q:Value->Shared->Prop} (hh:A.handled=none) (hit:s.heap.IsTupleIter it t i) (ht:s.heap.IsTuple t items) (hx:items[i]?=none)
  (hE:∀ h' e,Heap.ExtBut it s.heap h'->(∃ o,h'.get? e=some o/\o.cls=.type "StopIteration")->E (.ref e) { s with heap:=h' }):wpAny (model prog w) A (r3_ (.ref it)) Q E s:=by
 obtain⟨ob,hob,hcl,hdt⟩:=id hit
 obtain⟨ot,hot,_,nt,hdot⟩:=ht
 unfold r3_
 refine wpAny_bind (wpAny_callSpecial?_slot (name:=qy_ "__next__") hit.typeIs rw_ (wpAny_call_entry rw_ hit.typeIs t4_ ?_ (tz_ _)))
 show wpAny _ _ (field (.ref it) 0 >>= _) _ _ s
 refine wpAny_bind (wpAny_field hob hdt (x:=.ref t) rfl ?_)
 have nn:¬ ((Value.ref t == Value.none)=true):=pf_
 show wpAny _ _ (if (Value.ref t == Value.none)=true then _ else _) _ _ s
 rw[if_neg nn]
 show wpAny _ _ (field (.ref it) 1 >>= _) _ _ s
 refine wpAny_bind (wpAny_field hob hdt (x:=.int i 0) rfl ?_)
 show wpAny _ _ (seqItems? (.ref t) >>= _) _ _ s
 refine wpAny_bind (wpAny_seqItems hot hdot ?_)
 simp only[r9_,hx]
 refine wpAny_bind (wpAny_rule (wpAny_bind (wpAny_setField hob hdt (by simp) ?_)))
 show wpAny _ _ (newExc (.type "StopIteration") [] >>= _) _ _ _
 refine wpAny_bind ?_
 simp only[newExc,newTuple]
 refine wpAny_bind (wpAny_newObj_type ?_ (by size_fits))
 refine wpAny_bind (m:=firstArgMember _ _) (wpAny_of_eq (a:=Value.none) (by first | rfl | (simp only[firstArgMember];rfl)) (wpAny_newObj_type ?_ (by size_fits)))
 simp only[raiseNew]
 refine wpAny_bind (wpAny_handled ?_)
 first | rw[show A.in1.handled=none from hh] | rw[hh]
 exact wpAny_bind (wpAny_pure (wpAny_throw (hE _ _ (((s2_ ..).extBut.push _).push _) ⟨_,py_ _ rfl,rfl⟩)))
end
theorem jfv_ {prog:Program} {w:World} {A:Around} (hh:A.handled=none) (it t:Addr) (hne:t≠it) (items:Array Value) :
  Draws prog w A it [it,t] items.size (fun i v=>items[i]?=some v) (fun i h=>h.IsTupleIter it t i/\h.IsTuple t items) where
 live:=fun _ _ st=>let ⟨o,ho,_⟩:=st.1;⟨o,ho⟩
 frame:=fun _ _ _ st hk=>⟨st.1.at fun o e=>hk it (by simp) o e,let ⟨o,ho,r⟩:=st.2;⟨o,hk t (by simp) o ho,r⟩⟩
 item:=fun i s Q E hi st hQ=>by
  refine jfg_ st.1 st.2 (x:=items[i]) (by simp[hi]) fun h' hit' hs'=>?_
  exact hQ _ h' s.toks (by simp[hi]) ⟨hit',st.2.extBut hs'.extBut hne⟩ hs'
 done:=fun s Q E st hE=>jjk_ hh st.1 st.2 (by simp) hE
set_option maxHeartbeats 4000000 in
theorem jjc_ (l:Addr) (items:Array Value) (n:Nat) (dct:Option Addr) (sl:Array (Option Value)) (b:Int) (u:Tok) (hb:q0_ b=true) :
  Meets (Builtin.«enumerate.__new__» ⟨[.type "enumerate",.ref l],[(qy_ "start",.int b u)]⟩) (fun _ R s=>s.heap.get? l=some { cls:=.type "tuple",dict:=dct,data:=.seq items n,slots:=sl } /\
   R (.ok (.ret (.ref (s.heap.push { cls:=.type "tuple_iterator",data:=.fields #[.ref l,.int 0 0] }).objs.size)))
    { s with heap:=(s.heap.push { cls:=.type "tuple_iterator",data:=.fields #[.ref l,.int 0 0] }).push { cls:=.type "enumerate",data:=.fields #[.none,.bool false,.ref s.heap.objs.size,rawInt b,.none,.none] } }) :=
 .of_wp fun prog w A R s h=>by
  obtain⟨hp,g,d,tk,os⟩:=s;obtain⟨hl,h⟩:=h
  have hsub:=sub_enumerate
  have hL:Heap.IsTuple (Shared.heap ⟨hp,g,d,tk,os⟩) l items:=⟨_,hl,rfl,n,rfl⟩
  have hb':(!Builtin.SmallTypes.fitsIndex b)=false:=by rw[hb];rfl
  wp_walk using wpAny_loadPart' hl
  refine wpAny_stack_any fun st=>wpAny_pure ?_
  split
  ·rename_i c _ _ _ _ _
   cases (c == Value.type "enumerate")
   ·wp_walk using wpAny_loadPart' hl,wpAny_pyIter_tuple hL
    exact⟨_,rfl,h⟩
   ·wp_walk using wpAny_loadPart' hl,wpAny_pyIter_tuple hL
    exact⟨_,rfl,h⟩
  ·wp_walk using wpAny_loadPart' hl,wpAny_pyIter_tuple hL
   exact⟨_,rfl,h⟩
set_option maxHeartbeats 4000000 in
theorem jju_ (l:Addr) (items:Array Value) (n:Nat) (dct:Option Addr) (sl:Array (Option Value)) (b:Int) (u:Tok) (hb:q0_ b=true) :
  Meets (Builtin.«enumerate.__new__» ⟨[.type "enumerate",.ref l],[(qy_ "start",.int b u)]⟩) (fun _ R s=>s.heap.get? l=some { cls:=.type "list",dict:=dct,data:=.seq items n,slots:=sl } /\
   R (.ok (.ret (.ref (s.heap.push { cls:=.type "list_iterator",data:=.fields #[.ref l,.int 0 0] }).objs.size)))
    { s with heap:=(s.heap.push { cls:=.type "list_iterator",data:=.fields #[.ref l,.int 0 0] }).push { cls:=.type "enumerate",data:=.fields #[.none,.bool false,.ref s.heap.objs.size,rawInt b,.none,.none] } }) :=
 .of_wp fun prog w A R s h=>by
  obtain⟨hp,g,d,tk,os⟩:=s;obtain⟨hl,h⟩:=h
  have hsub:=sub_enumerate
  have hL:Heap.IsList (Shared.heap ⟨hp,g,d,tk,os⟩) l items:=⟨_,hl,rfl,n,rfl⟩
  have hb':(!Builtin.SmallTypes.fitsIndex b)=false:=by rw[hb];rfl
  wp_walk using wpAny_loadPart' hl
  refine wpAny_stack_any fun st=>wpAny_pure ?_
  split
  ·rename_i c _ _ _ _ _
   cases (c == Value.type "enumerate")
   ·wp_walk using wpAny_loadPart' hl,wpAny_pyIter_list hL
    exact⟨_,rfl,h⟩
   ·wp_walk using wpAny_loadPart' hl,wpAny_pyIter_list hL
    exact⟨_,rfl,h⟩
  ·wp_walk using wpAny_loadPart' hl,wpAny_pyIter_list hL
   exact⟨_,rfl,h⟩
section
variable {prog:Program} {w:World} {A:Around} {E:Value->Shared->Prop} {s:Shared}
theorem jqd_ {T newId:String} {self:Value} {rest:List Value} {kw:List (Str×Value)} (hl:typeLookup (.type T) "__init__"=pure (some (.builtin "object.__init__")))
  (hm:Bind.madeBy (.type T)=pure (some newId)) (hne:(some newId != some "object.__new__")=true) :
  Meets (Builtin.«object.__init__» ⟨self::rest,kw⟩) (fun _ R s=>s.TypeIs self T/\R (.ok (.ret .none)) s):=by
 refine Meets.of_wp fun prog w A R s hs=>?_
 obtain⟨hT,hq⟩:=hs
 cases rest with
 | nil =>
  cases kw with
  | nil=>exact wpAny_pure ⟨_,rfl,hq⟩
  | cons k kw =>
   repeat (any_goals (first | assumption | wp_step))
   exact⟨_,rfl,hq⟩
 | cons a rest =>
  repeat (any_goals (first | assumption | wp_step))
  exact⟨_,rfl,hq⟩
set_option maxHeartbeats 4000000 in
theorem jbt_ {T newId initId:String} {Bn Bi:Builtin} {args:List Value} {kw:List (Str×Value)} {S:Spec} {Q Q₁:Value->Shared->Prop} (ft:TypeCalled T newId initId)
  (hct:checkTypeCall T ⟨args,kw⟩=pure ()) (hcn:checkBuiltinCall newId ⟨.type T::args,kw⟩=pure ())
  (entryN:entryFor table newId=some Bn) (entryI:entryFor table initId=some Bi) (g:Meets (Bn ⟨.type T::args,kw⟩) S) (h:S A.in1 (wants Q₁ E) s)
  (hnext:∀ obj s₁,Q₁ obj s₁->s₁.TypeIs obj T/\argsOk initId ⟨obj::args,kw⟩/\∃ Si,Meets (Bi ⟨obj::args,kw⟩) Si/\Si A.in1 (wants (fun r s₂=>r=.none/\Q obj s₂) E) s₁) :
  wpAny (model prog w) A (call (.type T) args kw) Q E s:=by
 obtain⟨c,tl,hmro⟩:=ft.mro
 have hmade:=ft.made
 have hsub:=ft.sub
 refine wpAny_call (codeAny_of_tree ?_)
 show wpAny _ _ (callAny (.type T) _) _ _ _
 refine wpAny_pure ⟨Code.quiet_builtin _ (by decide +kernel),codeAny_builtin F.entry_type_call ?_⟩
 rw[Around.under_plain (weight_type_call_type T args kw) (units_type_call_type T args kw)]
 have h1:=ft.notType
 have h2:=ft.canCreate
 repeat (any_goals (first | assumption | wp_step))
 refine codeAny_mono (codeAny_call_builtin ft.plain entryN (wpAny_of_eq hcn (g prog w A.in1 _ s h))) fun r s₁ hr=>?_
 cases r with
 | error e=>exact hr
 | ok fl =>
  cases fl with
  | ret obj =>
   obtain⟨hT,hok,Si,gi,hsi⟩:=hnext _ _ hr
   have hli:=ft.init.lookup
   have hbi:=ft.init.bind obj
   repeat (any_goals (first | assumption | wp_step))
   refine codeAny_mono (codeAny_call_builtin ft.init.plain entryI (ft.init.check _ _ _ _ _ _ _ _ hT hok (gi prog w A.in1 _ s₁ hsi))) fun r₂ s₂ hr₂=>?_
   cases r₂ with
   | error e=>exact hr₂
   | ok fl₂ =>
    cases fl₂ with
    | ret r =>
     obtain⟨rfl,hq⟩:=hr₂
     repeat (any_goals (first | assumption | wp_step))
    | _=>exact hr₂.elim
  | _=>exact hr.elim
theorem chk1 (a b:Value):checkTypeCall "enumerate" ⟨[a],[(qy_ "start",b)]⟩=pure ():=by kernel_rfl
theorem chk2 (a b:Value):checkBuiltinCall "enumerate.__new__" ⟨[.type "enumerate",a],[(qy_ "start",b)]⟩=pure ():=by kernel_rfl
theorem jqj_ (obj a b:Value):argsOk "object.__init__" ⟨[obj,a],[(qy_ "start",b)]⟩:=by
 unfold argsOk
 rw[signature?_of (id:="object.__init__") (n:=['_','_','t','i','n','i','_','_']) (o:=['t','c','e','j','b','o']) (by kernel_rfl) F.owner_object]
 kernel_rfl
theorem jgs_ {l:Addr} {items:Array Value} {b:Int} {u:Tok} {Q:Value->Shared->Prop} (hL:s.heap.IsTuple l items) (hb:q0_ b=true)
  (h:∀ h',IsEnum h' (s.heap.objs.size+1) s.heap.objs.size b .none->h'.IsTupleIter s.heap.objs.size l 0->(∀ b o,s.heap.get? b=some o->h'.get? b=some o)->Q (.ref (s.heap.objs.size+1)) { s with heap:=h' }) :
  wpAny (model prog w) A (call (.type "enumerate") [.ref l] [(qy_ "start",.int b u)]) Q E s:=by
 obtain⟨⟨c,dct,dt,sl⟩,hl,hc,n,hd⟩:=hL
 simp only at hc hd
 subst hc hd
 refine jbt_ (Q₁:=fun obj s₁=>s₁.TypeIs obj "enumerate"/\Q obj s₁) rz_ (chk1 _ _) (chk2 _ _) F.entry_enumerate_new F.entry_object_init (jjc_ l items n dct sl b u hb) ⟨hl,?_⟩
  fun obj s₁ hq=>⟨hq.1,jqj_ obj _ _,_,jqd_ rz_.init.lookup rz_.made (by decide),hq.1,rfl,hq.2⟩
 have hz:(s.heap.push { cls:=.type "tuple_iterator",data:=.fields #[.ref l,.int 0 0] }).objs.size=s.heap.objs.size+1:=tn_ ..
 show _/\_
 rw[hz]
 have he:IsEnum ((s.heap.push { cls:=.type "tuple_iterator",data:=.fields #[.ref l,.int 0 0] }).push { cls:=.type "enumerate",data:=.fields #[.none,.bool false,.ref s.heap.objs.size,rawInt b,.none,.none] }) (s.heap.objs.size+1) s.heap.objs.size b .none:=by
  have:=py_ (s.heap.push { cls:=.type "tuple_iterator",data:=.fields #[.ref l,.int 0 0] }) (o:={ cls:=.type "enumerate",data:=.fields #[.none,.bool false,.ref s.heap.objs.size,rawInt b,.none,.none] }) rfl
  rw[hz] at this;exact this
 exact⟨⟨_,he,rfl⟩,h _ he ⟨_,pg_ _ (py_ _ rfl),rfl,rfl⟩ fun b o x=>pg_ _ (pg_ _ x)⟩
theorem jfy_ {l:Addr} {items:Array Value} {b:Int} {u:Tok} {Q:Value->Shared->Prop} (hL:s.heap.IsList l items) (hb:q0_ b=true)
  (h:∀ h',IsEnum h' (s.heap.objs.size+1) s.heap.objs.size b .none->h'.IsListIter s.heap.objs.size l 0->(∀ b o,s.heap.get? b=some o->h'.get? b=some o)->Q (.ref (s.heap.objs.size+1)) { s with heap:=h' }) :
  wpAny (model prog w) A (call (.type "enumerate") [.ref l] [(qy_ "start",.int b u)]) Q E s:=by
 obtain⟨⟨c,dct,dt,sl⟩,hl,hc,n,hd⟩:=hL
 simp only at hc hd
 subst hc hd
 refine jbt_ (Q₁:=fun obj s₁=>s₁.TypeIs obj "enumerate"/\Q obj s₁) rz_ (chk1 _ _) (chk2 _ _) F.entry_enumerate_new F.entry_object_init (jju_ l items n dct sl b u hb) ⟨hl,?_⟩
  fun obj s₁ hq=>⟨hq.1,jqj_ obj _ _,_,jqd_ rz_.init.lookup rz_.made (by decide),hq.1,rfl,hq.2⟩
 have hz:(s.heap.push { cls:=.type "list_iterator",data:=.fields #[.ref l,.int 0 0] }).objs.size=s.heap.objs.size+1:=tn_ ..
 show _/\_
 rw[hz]
 have he:IsEnum ((s.heap.push { cls:=.type "list_iterator",data:=.fields #[.ref l,.int 0 0] }).push { cls:=.type "enumerate",data:=.fields #[.none,.bool false,.ref s.heap.objs.size,rawInt b,.none,.none] }) (s.heap.objs.size+1) s.heap.objs.size b .none:=by
  have:=py_ (s.heap.push { cls:=.type "list_iterator",data:=.fields #[.ref l,.int 0 0] }) (o:={ cls:=.type "enumerate",data:=.fields #[.none,.bool false,.ref s.heap.objs.size,rawInt b,.none,.none] }) rfl
  rw[hz] at this;exact this
 exact⟨⟨_,he,rfl⟩,h _ he ⟨_,pg_ _ (py_ _ rfl),rfl,rfl⟩ fun b o x=>pg_ _ (pg_ _ x)⟩
end
end L2
namespace L2
open PySem PySem.Spec PyProof.Rows
section
variable {X:Cx} {pins:List (Addr×Obj)} {σ:St} {H:Hp} {s:Shared} {h':Heap}
theorem Inv.turnedL {t':Nat} {ch:List Addr} (I:Inv X pins σ H s) (k:∀ b u,b∉ch->s.heap.get? b=some u->h'.get? b=some u) (hf:∀ b∈ch,FpOk X pins H b):Inv X pins σ H { s with heap:=h',toks:=t' }:=by
 have nch:∀ b u,H b=some u->b∉ch:=fun b u e z=>by rw[(hf b z).1] at e;cases e
 refine I.step (g':=s.gens) (d':=s.drawn) (ch:=ch) (fun b hb=>⟨(hf b hb).2.2.2.1,(hf b hb).2.1,(hf b hb).2.2.2.2.1,(hf b hb).2.2.2.2.2⟩)
  (fun b u _ _ hc e _=>k b u hc e) (fun b u _ _ hc e _=>⟨u.slots,k b u hc e⟩) (fun _ _ _ _ n=>n)
  (fun b u hc e=>⟨u,k b u hc e⟩) (fun _ _ e=>e) (fun _ _ _ e=>e) (fun b ps e=>⟨#[],by rw[e];simp⟩) (fun m hm=>?_) (fun b u e=>?_) I.bare
 ·obtain⟨ob,es,ep,ho,r⟩:=hm
  exact⟨ob,es,ep,k _ ob (fun z=>(hf _ z).2.1 rfl) ho,r⟩
 ·refine(I.hok b u e).stay (fun c v hc q=>k c v ?_ q) (fun _ q=>q) fun _ _ q=>q
  rcases hc with z | z
  ·rw[z];exact nch b u e
  ·exact nch c _ z
theorem Inv.turnedNew {t':Nat} {ch:List Addr} {T:Addr} {o:HO} (I:Inv X pins σ H s) (hT:s.heap.objs.size<=T)
  (k:∀ b u,b∉ch->s.heap.get? b=some u->h'.get? b=some u) (hf:∀ b∈ch,FpOk X pins H b) (new:ObjOk X.prog X.w (upd H T o) h' T o) :
  Inv X pins σ (upd H T o) { s with heap:=h',toks:=t' }:=by
 have hn:H T=none:=I.hok.fresh hT
 have nch:∀ b u,H b=some u->b∉ch:=fun b u e z=>by rw[(hf b z).1] at e;cases e
 refine I.step (g':=s.gens) (d':=s.drawn) (ch:=ch) (fun b hb=>⟨(hf b hb).2.2.2.1,(hf b hb).2.1,(hf b hb).2.2.2.2.1,(hf b hb).2.2.2.2.2⟩)
  (fun b u _ _ hc e _=>k b u hc e) (fun b u _ _ hc e _=>⟨u.slots,k b u hc e⟩) (fun b u _ e n=>by rw[jg_ (qc_ (p0_ (pv_ e) hT))];exact n)
  (fun b u hc e=>⟨u,k b u hc e⟩) (fun b xs e=>by rw[jg_ (jh_ e hn)];exact e) (fun b u v e=>by rw[jg_ (jh_ e hn)];exact e) (fun b ps e=>⟨#[],by rw[jg_ (jh_ e hn),e];simp⟩)
  (fun m hm=>?_) (fun b u e=>?_) I.bare
 ·obtain⟨ob,es,ep,ho,r⟩:=hm
  exact⟨ob,es,ep,k _ ob (fun z=>(hf _ z).2.1 rfl) ho,r⟩
 ·by_cases hb:b=T
  ·subst hb;rw[jb_] at e;cases e;exact new
  ·rw[jg_ hb] at e
   refine(I.hok b u e).stay (fun c v hc q=>k c v ?_ q) (fun c q=>by rw[jg_ (jh_ q hn)];exact q) fun c xs q=>by rw[jg_ (jh_ q hn)];exact q
   rcases hc with z | z
   ·rw[z];exact nch b u e
   ·exact nch c _ z
end
theorem Draws.shift {P:Program} {w:World} {A:Around} {it:Addr} {fp:List Addr} {n:Nat} {Pv:Nat->Value->Prop} {St:Nat->Heap->Prop} (D:Draws P w A it fp n Pv St) (b:Nat) :
  Draws P w A it fp (b+n) (fun j x=>b<=j/\Pv (j - b) x) (fun j h=>b<=j/\St (j - b) h) where
 live:=fun j h st=>D.live _ _ st.2
 frame:=fun j h h' st k=>⟨st.1,D.frame _ _ _ st.2 k⟩
 item:=fun j s Q E hj st hQ=>D.item (j - b) s Q E (by have:=st.1;omega) st.2 fun x h' tk hP hS sb=>hQ x h' tk ⟨st.1,hP⟩ ⟨by have:=st.1;omega,by rw[show j+1 - b=j - b+1 by have:=st.1;omega];exact hS⟩ sb
 done:=fun s Q E st hE=>D.done s Q E (by have:=st.2;rwa [sh_] at this) hE
def Ien (b:Nat) (xs:List V) (ok:Hp->Prop):It :=
 ⟨fun i H=>ok H/\i < xs.length,fun i H x H'=>∃ T v,H T=none/\xs[i]?=some v/\x=.ref T/\H'=upd H T (.tup [.int ((b:Int)+(i:Int)),v]),fun i H=>ok H/\i=xs.length⟩
def jfx_ (P:Program) (w:World) (A:Around) (it:Addr) (xs:List V) (St0:Nat->Heap->Prop) (H:Hp) (i:Nat) (h:Heap):Prop :=
 ∃(fp:List Addr) (Pv:Nat->Value->Prop) (St:Nat->Heap->Prop),Draws P w A it fp xs.length Pv St/\it∈fp/\(∀ b∈fp,b=it∨H b≠none)/\St i h/\(∀ j x,Pv j x->∃ v,xs[j]?=some v/\RelV v x)/\∀ j h',St j h'->St0 j h'
theorem jbq_ {P:Program} {w:World} {K:pc_} {elts:List Expr} {k:Nat} {pos:Pos} {e it:Addr} {xs:List V} {b:Nat} {ok:Hp->Prop} {St0:Nat->Heap->Prop} (hei:e≠it)
  (hD:∀(X:Cx),X.prog=P->X.w=w->X.K=K->X.calm=true->∀(i:Nat) (pins:List (Addr×Obj)) (s:Shared) (σ:St) (H:Hp),Inv X pins σ H s->ok H->H it=none->St0 i s.heap->jfx_ P w X.A.in1 it xs St0 H i s.heap)
  (hobj:∀ i h,St0 i h->∃ o,h.get? it=some o/\∀ v,o.data≠.cell v) (hkeep:∀ i h h',St0 i h->(∀ o,h.get? it=some o->h'.get? it=some o)->St0 i h') :
  Turn P w K (.Tuple elts k pos) (Ien b xs ok) [e,it] e (fun i h=>(∃ old,IsEnum h e it ((b+i:Nat):Int) old)/\St0 i h) where
 mem:=by simp
 obj:=fun i h st c hc=>by
  rcases p7_.mp hc with z | z
  ·obtain⟨⟨old,he⟩,_⟩:=st
   rw[z]
   exact⟨_,he,fun v q=>by
    have q':Data.fields _=Data.cell v:=q
    cases q'⟩
  ·have z':c=it:=by simpa using z
   rw[z']
   exact hobj i h st.2
 keep:=fun i h h' st kk=>by
  obtain⟨⟨old,he⟩,hs⟩:=st
  exact⟨⟨old,kk e (by simp) _ he⟩,hkeep i h h' hs fun o q=>kk it (by simp) o q⟩
 item:=by
  intro X hP hw hK hc i pins s σ H E I hf st hg
  subst hP hw hK
  obtain⟨⟨old,he⟩,hs⟩:=st
  obtain⟨hok,hlt⟩:=hg
  obtain⟨fp,Pv,St,D,hif,hfp,hst,hrel,hback⟩:=hD X rfl rfl rfl hc i pins s σ H I hok (hf it (by simp)).1 hs
  have hef:e∉fp:=fun z=>by
   rcases hfp e z with q | q
   ·exact hei q
   ·exact q (hf e (by simp)).1
  have W:=WalksT.enumerateD (Draws.shift D b) e hei hef hif
  refine W.item (b+i) s _ E (by omega) ⟨⟨old,he⟩,by omega,by rw[sh_];exact hst⟩ fun T vals h1 tk hPv hT hTup hm hk=>⟨.ref T,rfl,?_⟩
  obtain⟨t,x,⟨_,hPx⟩,rfl⟩:=hPv
  rw[sh_] at hPx
  obtain⟨v,hv,rv⟩:=hrel _ _ hPx
  have apart:=W.apart _ _ _ hm
  refine W.go elts k pos (b+i) T _ _ E hm fun h2 st2 hk2=>?_
  have kk:∀ c u,c∉[e,it]->s.heap.get? c=some u->h2.get? c=some u:=fun c u hc q=>hk2 c u hc (hk c u hc q)
  have tup2:IsTup h2 T #[.int ((b+i:Nat):Int) t,x]:=by
   obtain⟨o,ho,r⟩:=hTup
   exact⟨o,hk2 T o apart ho,r⟩
  refine⟨.ref T,upd H T (.tup [.int ((b:Int)+(i:Int)),v]),I.turnedNew (t':=tk) hT kk hf ?_,rfl,⟨T,v,I.hok.fresh hT,hv,rfl,rfl⟩,?_,?_⟩
  ·refine⟨by show 2<=sizeLine;decide,[.int ((b+i:Nat):Int) t,x],.cons ⟨t,?_⟩ (.cons rv .nil),tup2⟩
   rw[kd_]
  ·obtain⟨⟨old2,he2⟩,_,hs2⟩:=st2
   refine⟨⟨old2,he2⟩,hback _ _ ?_⟩
   rwa [show b+i+1 - b=i+1 by omega] at hs2
  ·intro c hc
   have hlt:c < s.heap.objs.size:=by
    rcases p7_.mp hc with z | z
    ·rw[z];exact pv_ he
    ·have z':c=it:=by simpa using z
     rw[z']
     obtain⟨o,ho,_⟩:=hobj i _ hs
     exact pv_ ho
   rw[jg_ (qc_ (p0_ hlt hT))]
   exact(hf c hc).1
 done:=by
  intro X hP hw hK hc i pins s σ H E I hf st hg
  subst hP hw hK
  obtain⟨⟨old,he⟩,hs⟩:=st
  obtain⟨hok,rfl⟩:=hg
  obtain⟨fp,Pv,St,D,hif,hfp,hst,hrel,hback⟩:=hD X rfl rfl rfl hc _ pins s σ H I hok (hf it (by simp)).1 hs
  have hef:e∉fp:=fun z=>by
   rcases hfp e z with q | q
   ·exact hei q
   ·exact q (hf e (by simp)).1
  have W:=WalksT.enumerateD (Draws.shift D b) e hei hef hif
  exact W.done s _ E ⟨⟨old,he⟩,by omega,by rw[sh_];exact hst⟩ fun h1 tk hk=>⟨rfl,I.turnedL hk hf⟩
 self:=fun A i s Q E st q=>by
  obtain⟨⟨old,he⟩,_⟩:=st
  exact wpAny_pyIter_enum he q
section
variable {X:Cx}
end
def jdx_ (n:Nat) (R:It->Hp->Prop):V->Hp->Prop:=fun x H1=>match x with
 | .ref a=>(∃ xs,H1 a=some (.lst xs)/\R (Ien n xs fun H=>H a=some (.lst xs)) H1)∨(∃ xs,H1 a=some (.tup xs)/\R (Ien n xs fun H=>H a=some (.tup xs)) H1)
 | _=>False
def jkn_ (te ts:TE):TI:=fun σ H R=>te σ H fun x H1=>ts σ H1 fun y H2=>∃ n:Nat,y=.int (n:Int)/\n < 1000000/\jdx_ n R x H2
theorem jma_ {X:Cx} {pins:List (Addr×Obj)} {σ:St} {H:Hp} {s:Shared} {it a:Addr} {xs:List V} {i:Nat} (hc:X.calm=true) (I:Inv X pins σ H s) (h:SqL X.K H a xs) (hn:H it=none) (ha:H a≠none) (st:s.heap.IsListIter it a i) :
  jfx_ X.prog X.w X.A.in1 it xs (fun i h=>h.IsListIter it a i) H i s.heap:=by
 obtain⟨its,rv,pl,hz⟩:=I.list h
 have hl:its.toArray.size=xs.length:=by rw[pj_];exact rv.length.symm
 have hne:a≠it:=fun z=>ha (z▸hn)
 refine⟨[it,a],_,_,hl▸Draws.list (A:=X.A.in1) (show X.A.in1.handled=none from I.ok.hd hc) it a hne its.toArray,by simp,fun b hb=>?_,⟨st,pl.isList⟩,fun j x hx=>?_,fun _ _ q=>q.1⟩
 ·rcases p7_.mp hb with z | z
  ·exact .inl z
  ·have z':b=a:=by simpa using z
   rw[z'];exact .inr ha
 ·have hx':its[j]?=some x:=by simpa using hx
  have hj:j < xs.length:=by rw[rv.length];exact(ph_.mp hx').1
  obtain⟨u,hu,ru⟩:=rv.get (i:=j) (x:=xs[j]) (by simp[hj])
  rw[hx'] at hu
  cases hu
  exact⟨xs[j],by simp[hj],ru⟩
theorem jpd_ {X:Cx} {pins:List (Addr×Obj)} {σ:St} {H:Hp} {s:Shared} {it a:Addr} {xs:List V} {i:Nat} (hc:X.calm=true) (I:Inv X pins σ H s) (h:SqT X.K H a xs) (hn:H it=none) (ha:H a≠none) (st:s.heap.IsTupleIter it a i) :
  jfx_ X.prog X.w X.A.in1 it xs (fun i h=>h.IsTupleIter it a i) H i s.heap:=by
 obtain⟨its,rv,pl,hz⟩:=I.tuple h
 have hl:its.toArray.size=xs.length:=by rw[pj_];exact rv.length.symm
 have hne:a≠it:=fun z=>ha (z▸hn)
 refine⟨[it,a],_,_,hl▸jfv_ (A:=X.A.in1) (show X.A.in1.handled=none from I.ok.hd hc) it a hne its.toArray,by simp,fun b hb=>?_,⟨st,pl⟩,fun j x hx=>?_,fun _ _ q=>q.1⟩
 ·rcases p7_.mp hb with z | z
  ·exact .inl z
  ·have z':b=a:=by simpa using z
   rw[z'];exact .inr ha
 ·have hx':its[j]?=some x:=by simpa using hx
  have hj:j < xs.length:=by rw[rv.length];exact(ph_.mp hx').1
  obtain⟨u,hu,ru⟩:=rv.get (i:=j) (x:=xs[j]) (by simp[hj])
  rw[hx'] at hu
  cases hu
  exact⟨xs[j],by simp[hj],ru⟩
section
variable {X:Cx}
theorem jaj_ {elts:List Expr} {k:Nat} {tpos:Pos} {a b:Expr} {ta tb:TE} {p pos kpos:Pos} (hg:Gl X "enumerate") (hm:X.mg "enumerate"=none) (ha:PE X a ta) (hb:PE X b tb) (hs:starEach [a] X.env=[(false,eval a X.env)]:=by rfl) :
  PI X (.Tuple elts k tpos) (.Call (.Name "enumerate" p) [a] [⟨some "start",b,kpos⟩] pos) (jkn_ ta tb):=by
 intro pins s σ H R I h
 refine wpAny_Call_Name_kw (v3_ I hg hm boot_enumerate ?_)
 refine PySem.W.callWith_of (P:=fun _=>True) (by rw[hs];rfl) (fun _ _=>⟨.machine,.inr (.inl rfl),PySem.W.Looks.of_pure rfl⟩) (PyProof.Rows.evalArgs_kw2 (by rfl) ?_ hs)
 rw[hs]
 show wpAny _ _ (spliced ((false,eval a X.env)::backTo pos (starEach [] X.env))) _ _ s
 refine s8_ (thn (ha pins s σ H _ I h) fun u s1 ⟨x,H1,I1,ru,q1⟩=>wm_ ?_)
 show wpAny _ _ (evalAll ((do let v <- eval b X.env;standAt pos;pure v)::[])) _ _ s1
 refine wpAny_evalAll_cons (wpAny_bind (thn (hb pins s1 σ H1 _ I1 q1) fun u2 s2 ⟨y,H2,I2,ry,n,ey,hn,q2⟩=>wpAny_bind (wpAny_standAt (wpAny_pure (wpAny_evalAll_nil ⟨trivial,?_⟩)))))
 subst ey
 obtain⟨t,rfl⟩:=ry
 show wpAny _ _ (call (.type "enumerate") [u] [(qy_ "start",.int (n:Int) t)]) _ _ s2
 have hfit:q0_ (n:Int)=true:=by
  unfold q0_
  have e:((2:Int) ^ 63)=9223372036854775808:=by decide
  simp only[e,p2_,decide_eq_true_eq]
  omega
 unfold jdx_ at q2
 split at q2
 ·rename_i l _
  cases ru
  have fp:∀ b∈[s2.heap.objs.size+1,s2.heap.objs.size],FpOk X pins H2 b:=fun b hb=>by
   have:s2.heap.objs.size<=b:=by
    rcases p7_.mp hb with z | z
    ·rw[z];exact Nat.le_succ _
    ·have z':b=s2.heap.objs.size:=by simpa using z
     rw[z'];exact pk_ _
   exact I2.fpOk this (I2.hok.fresh this)
  rcases q2 with ⟨xs,hl,q2⟩ | ⟨xs,hl,q2⟩
  ·obtain⟨its,rv,pl,hz⟩:=I2.list (SqL.of hl)
   refine jfy_ pl.isList hfit fun h1 he hit hk=>?_
   refine wpAny_pyIter_enum he ?_
   refine⟨s2.heap.objs.size+1,[s2.heap.objs.size+1,s2.heap.objs.size],_,_,H2,rfl,I2.kept (t':=s2.toks) hk,jbq_ (b:=n) (ok:=fun H=>H l=some (.lst xs)) (xs:=xs) (St0:=fun i h=>h.IsListIter s2.heap.objs.size l i) (Nat.succ_ne_self _) ?_ ?_ ?_,⟨⟨.none,he⟩,hit⟩,fp,q2⟩
   ·intro X' h1 h2 h3 hc i pins s σ H I ok hn st
    exact h1▸h2▸jma_ hc I (SqL.of ok) hn (by rw[ok];exact fun z=>nomatch z) st
   ·intro i h st
    obtain⟨o,ho,hc,hd⟩:=st
    exact⟨o,ho,fun v q=>by rw[hd] at q;cases q⟩
   ·intro i h h' st kk
    exact st.at kk
  ·obtain⟨its,rv,pl,hz⟩:=I2.tuple (SqT.of hl)
   refine jgs_ pl hfit fun h1 he hit hk=>?_
   refine wpAny_pyIter_enum he ?_
   refine⟨s2.heap.objs.size+1,[s2.heap.objs.size+1,s2.heap.objs.size],_,_,H2,rfl,I2.kept (t':=s2.toks) hk,jbq_ (b:=n) (ok:=fun H=>H l=some (.tup xs)) (xs:=xs) (St0:=fun i h=>h.IsTupleIter s2.heap.objs.size l i) (Nat.succ_ne_self _) ?_ ?_ ?_,⟨⟨.none,he⟩,hit⟩,fp,q2⟩
   ·intro X' h1 h2 h3 hc i pins s σ H I ok hn st
    exact h1▸h2▸jpd_ hc I (SqT.of ok) hn (by rw[ok];exact fun z=>nomatch z) st
   ·intro i h st
    obtain⟨o,ho,hc,hd⟩:=st
    exact⟨o,ho,fun v q=>by rw[hd] at q;cases q⟩
   ·intro i h h' st kk
    exact st.at kk
 ·exact q2.elim
end
theorem jle_ {b:Nat} {xs:List V} {ok:Hp->Prop} {g:TG} {tb:TS} {D:Ends} {σ:St} {H:Hp} (Pv:Nat->St->Hp->Prop) (h0:Pv 0 σ H) (hok:∀ i σ H,i<=xs.length->Pv i σ H->ok H)
  (hs:∀ i v σ H T,xs[i]?=some v->Pv i σ H->H T=none->g (.ref T) σ (upd H T (.tup [.int ((b:Int)+(i:Int)),v])) fun σ2 H2=>tb { D with nx:=Pv (i+1),ct:=Pv (i+1),bk:=D.nx } σ2 H2) (hd:∀ σ H,Pv xs.length σ H->D.nx σ H) :
  ∃ W:Nat->Nat->St->Hp->Prop,(∃ m,W 0 m σ H)/\∀ i m σ H,W i m σ H ->
   ((Ien b xs ok).stop i H/\D.nx σ H)∨((Ien b xs ok).go i H/\∃ N:St->Hp->Prop,(∀ σ' H',N σ' H'->∃ m',m' < m/\W (i+1) m' σ' H')/\∀ x H',(Ien b xs ok).yld i H x H'->g x σ H' fun σ2 H2=>tb { D with nx:=N,ct:=N,bk:=D.nx } σ2 H2):=by
 refine⟨fun i m σ H=>m=xs.length - i/\i<=xs.length/\Pv i σ H,⟨xs.length,by simp,qz_ _,h0⟩,fun i m σ' H' w=>?_⟩
 obtain⟨rfl,hi,p⟩:=w
 have ho:=hok i σ' H' hi p
 by_cases hlt:i < xs.length
 ·refine .inr ⟨⟨ho,hlt⟩,Pv (i+1),fun σ2 H2 p'=>⟨xs.length - (i+1),by omega,rfl,hlt,p'⟩,fun x H2 y=>?_⟩
  obtain⟨T,v,hT,hv,rfl,rfl⟩:=y
  exact hs i v σ' H' T hv p hT
 ·have e:i=xs.length:=by omega
  exact .inl ⟨⟨ho,e⟩,hd σ' H' (e▸p)⟩
end L2
namespace L2
open PySem PySem.Spec PyProof.Rows
section
variable {σ:St} {H:Hp} {D:Ends} {Q:VK} {QB:Bool->Hp->Prop} {QA:List V->Hp->Prop}
theorem juj_ {t u:TS} (h:t { D with nx:=u D } σ H):tSeq t u D σ H:=h
theorem jtz_ {c:TT} {t u:TS} (h:c σ H fun b H1=>if b=true then t D σ H1 else u D σ H1):tIfS c t u D σ H:=h
theorem jrt_ (h:D.nx σ H):jqk_ D σ H:=h
theorem juk_ {te:TE} (h:te σ H D.rt):tRet te D σ H:=h
theorem jrw_ {te:TE} (h:te σ H fun _ H1=>D.nx σ H1):jps_ te D σ H:=h
theorem jup_ {te:TE} {g:TG} (h:te σ H fun x H1=>g x σ H1 D.nx):tAsg te g D σ H:=h
theorem j4_ {i:Nat} {v:V} {K:St->Hp->Prop} (h:K (σ.set i (some v)) H):jkt_ i v σ H K:=h
theorem jrd_ {to ti:TE} {t:TSet} {v:V} {K:St->Hp->Prop} (h:to σ H fun o H1=>ti σ H1 fun i H2=>t o i v H2 fun H3=>K σ H3):gSub to ti t v σ H K:=h
theorem yd_ {K':pc_} {n:Nat} {t:TGs} {a:Addr} {xs:List V} {K:St->Hp->Prop} (h1:H a=some (.tup xs)) (h2:xs.length=n) (h:t xs σ H K):gTup K' n t (.ref a) σ H K:=⟨a,xs,rfl,SqT.of h1,h2,h⟩
theorem yf_ {K:St->Hp->Prop} (h:K σ H):gNil [] σ H K:=⟨rfl,h⟩
theorem jy_ {t:TG} {u:TGs} {v:V} {r:List V} {K:St->Hp->Prop} (h:t v σ H fun σ' H'=>u r σ' H' K):jqf_ t u (v::r) σ H K:=⟨v,r,rfl,h⟩
theorem jun_ {wi:TI} {g:TG} {tb:TS} (h:wi σ H fun J H1=>∃ W:Nat->Nat->St->Hp->Prop,(∃ m,W 0 m σ H1)/\∀ i m σ H,W i m σ H ->
 (J.stop i H/\D.nx σ H)∨(J.go i H/\∃ N:St->Hp->Prop,(∀ σ' H',N σ' H'->∃ m',m' < m/\W (i+1) m' σ' H')/\∀ x H',J.yld i H x H'->g x σ H' fun σ2 H2=>tb { D with nx:=N,ct:=N,bk:=D.nx } σ2 H2)):tFor wi g tb D σ H:=h
theorem jto_ {i:Nat} {v:V} (e:σ[i]?=some (some v)) (h:Q v H):tVar i σ H Q:=⟨v,e,h⟩
theorem i_c {v:V} (h:Q v H):tC v σ H Q:=h
theorem i_op {r:R2} {ta tb:TE} (h:ta σ H fun x H1=>tb σ H1 fun y H2=>r x y H2 Q):tOp r ta tb σ H Q:=h
theorem i_un {r:V->Hp->VK->Prop} {ta:TE} (h:ta σ H fun x H1=>r x H1 Q):tUn r ta σ H Q:=h
theorem jsa_ {t:TE} (h:t σ H fun x H'=>∃ k,x=.bl k/\QB k H'):jnd_ t σ H QB:=h
theorem i_bl {b:Bool} {P:Bool->Prop} (h:P b):∃ k,V.bl b=.bl k/\P k:=⟨b,rfl,h⟩
theorem jub_ {t u:TT} (h:t σ H fun c H1=>if c=true then u σ H1 QB else QB false H1):tAnd t u σ H QB:=h
theorem i_or {t u:TT} (h:t σ H fun c H1=>if c=true then QB true H1 else u σ H1 QB):tOr t u σ H QB:=h
theorem juh_ {t:TT} (h:t σ H fun c H1=>QB (!c) H1):tNot t σ H QB:=h
theorem jtx_ {t:TT} {ta tb:TE} (h:t σ H fun c H1=>if c=true then ta σ H1 Q else tb σ H1 Q):tIf t ta tb σ H Q:=h
theorem jpo_ {r r':R2} {ta tb tc:TE} (h:ta σ H fun x H1=>tb σ H1 fun y H2=>r x y H2 fun z H3=>∃ k,z=.bl k/\(if k=true then tc σ H3 fun w' H4=>r' y w' H4 Q else Q (.bl false) H3)):jkk_ r r' ta tb tc σ H Q:=h
theorem jug_ (h:QA [] H):tNil σ H QA:=h
theorem jsk_ {ta:TE} {tr:TA} (h:ta σ H fun x H1=>tr σ H1 fun xs H2=>QA (x::xs) H2):jqm_ ta tr σ H QA:=h
theorem i_cb {r:List V->Hp->VK->Prop} {t:TA} (h:t σ H fun vs H1=>r vs H1 Q):tCB r t σ H Q:=h
theorem jra_ {sp:Sp} {dvs:List V} {E:XK} {t:TA} (h:t σ H fun vs H1=>sp (vs++dvs) H1 Q E):jkw_ sp dvs E t σ H Q:=h
theorem jth_ {t:TA} (h:t σ H fun xs H1=>xs.length<=sizeLine/\∀ p,H1 p=none->Q (.ref p) (upd H1 p (.lst xs))):tLst t σ H Q:=h
theorem jts_ {t:TA} (h:t σ H fun xs H1=>xs.length<=sizeLine/\∀ p,H1 p=none->Q (.ref p) (upd H1 p (.tup xs))):tTup t σ H Q:=h
theorem i_bm {K:pc_} {T:String} {r:V->List V->Hp->VK->Prop} {to:TE} {t:TA} (h:to σ H fun x H1=>tyV K T x H1/\t σ H1 fun xs H2=>r x xs H2 Q):tBM K T r to t σ H Q:=h
theorem jtm_ {K:pc_} {T:String} {r:V->List V->Hp->VK->Prop} {to:TE} (h:to σ H fun x H1=>tyV K T x H1/\r x [] H1 Q):tBM0 K T r to σ H Q:=h
theorem i_sl {r:V->Option Int->Option Int->Hp->VK->Prop} {te:TE} {tl th:TO} (h:te σ H fun x H1=>tl σ H1 fun l H2=>th σ H2 fun u H3=>r x l u H3 Q):tSl r te tl th σ H Q:=h
theorem jkz_ {K:Option Int->Hp->Prop} (h:K none H):jhh_ σ H K:=h
theorem jst_ {t:TE} {K:Option Int->Hp->Prop} (h:t σ H fun x H1=>∃ i,x=.int i/\K (some i) H1):jqp_ t σ H K:=h
theorem jtl_ {i:Int} {P:Int->Prop} (h:P i):∃ k,V.int i=.int k/\P k:=⟨i,rfl,h⟩
theorem jrr_ {ix:List (Option Nat)} {wi:TI} {g:TG} {tc:TT} {te:TE} (h:wi σ H fun J H1=>∀ p,H1 p=none->yi_ J p g tc te Q (pick ix σ) (upd H1 p (.lst []))):jlu_ ix wi g tc te σ H Q:=h
theorem jrj_ (h:QB true H):jqo_ σ H QB:=h
theorem jrg_ {ta:TA} {R:It->Hp->Prop} (h:ta σ H fun vs H1=>∃ j:Int,vs=[.int j]/\-(2 ^ 62)<=j/\j < 2 ^ 62/\R (Itr 0 j.toNat) H1):jqq_ ta σ H R:=h
theorem p62:((2:Int) ^ 62)=4611686018427387904:=by decide
theorem p63:((2:Int) ^ 63)=9223372036854775808:=by decide
theorem i_r1 {j:Int} {P:Int->Prop} (h1:-1000000000<=j/\j<=1000000000) (h:P j):∃ k:Int,[V.int j]=[.int k]/\-(2 ^ 62)<=k/\k < 2 ^ 62/\P k:=⟨j,rfl,by rw[p62];omega,by rw[p62];omega,h⟩
theorem jta_ {ta:TA} {R:It->Hp->Prop} (h:ta σ H fun vs H1=>∃ i j:Int,vs=[.int i,.int j]/\(-(2 ^ 62)<=i/\i < 2 ^ 62/\-(2 ^ 62)<=j/\j < 2 ^ 62)/\R (Itr i (j - i).toNat) H1):jpr_ ta σ H R:=h
theorem i_r2 {i j:Int} {P:Int->Int->Prop} (h1:-1000000000<=i/\i<=1000000000/\-1000000000<=j/\j<=1000000000) (h:P i j):∃ a b:Int,[V.int i,V.int j]=[.int a,.int b]/\(-(2 ^ 62)<=a/\a < 2 ^ 62/\-(2 ^ 62)<=b/\b < 2 ^ 62)/\P a b:=⟨i,j,rfl,by rw[p62];omega,h⟩
theorem juc_ {K:pc_} {te:TE} {R:It->Hp->Prop} (h:te σ H (jif_ K R)):iAny K te σ H R:=h
theorem u1_ {K:pc_} {R:It->Hp->Prop} {a:Addr} {xs:List V} (h1:SqL K H a xs) (h:R (Itl K a) H):jif_ K R (.ref a) H:=.inl ⟨xs,h1,h⟩
theorem jop_ {te ts:TE} {R:It->Hp->Prop} (h:te σ H fun x H1=>ts σ H1 fun y H2=>∃ n:Nat,y=.int (n:Int)/\n < 1000000/\jdx_ n R x H2):jkn_ te ts σ H R:=h
theorem jlm_ {n:Nat} {R:It->Hp->Prop} {a:Addr} {xs:List V} (h1:H a=some (.lst xs)) (h:R (Ien n xs fun H=>H a=some (.lst xs)) H):jdx_ n R (.ref a) H:=.inl ⟨xs,h1,h⟩
theorem jrx_ {n:Nat} {R:It->Hp->Prop} {a:Addr} {xs:List V} (h1:H a=some (.tup xs)) (h:R (Ien n xs fun H=>H a=some (.tup xs)) H):jdx_ n R (.ref a) H:=.inr ⟨xs,h1,h⟩
theorem jtj_ {K:pc_} {z:Str} {R:Prop} (h:R):tyV K "str" (.str z) H/\R:=⟨rfl,h⟩
theorem jua_ {K:pc_} {p:Addr} {xs:List V} {R:Prop} (h1:SqL K H p xs) (h:R):tyV K "list" (.ref p) H/\R:=⟨.inl ⟨rfl,xs,h1⟩,h⟩
theorem jtk_ {g:Int->Int->V} {i j:Int} (h:Q (g i j) H):fI0 g (.int i) (.int j) H Q:=h
theorem i_fI {C:Int->Int->Prop} {g:Int->Int->V} {i j:Int} (c:C i j) (h:Q (g i j) H):fI C g (.int i) (.int j) H Q:=⟨c,h⟩
theorem jsz_ {i j:Int} (h:Q (.int (i+j)) H):fAdd (.int i) (.int j) H Q:=h
theorem jmr_ {i j:Str} (c:i.length+j.length<=sizeLine) (h:Q (.str (i++j)) H):fAdd (.str i) (.str j) H Q:=⟨c,h⟩
theorem xh_ {a b:Addr} {xs ys:List V} (h1:H a=some (.lst xs)) (h2:H b=some (.lst ys)) (c:xs.length+ys.length<=sizeLine) (h:∀ p,H p=none->Q (.ref p) (upd H p (.lst (xs++ys)))):fAdd (.ref a) (.ref b) H Q:=by
 show (match H a,H b with | some (.lst xs),some (.lst ys)=>_ | some (.tup xs),some (.tup ys)=>_ | _,_=>_)
 rw[h1,h2];exact⟨c,h⟩
theorem jsg_ {i j:Int} (c:CMul i j) (h:Q (.int (i * j)) H):fMul (.int i) (.int j) H Q:=⟨c,h⟩
theorem jrk_ {a:Addr} {xs:List V} {k:Int} (h1:H a=some (.lst xs)) (c:-1000000000<=k/\k<=1000000000/\xs.length * k.toNat<=1000000) (h:∀ p,H p=none->Q (.ref p) (upd H p (.lst (pe_ k.toNat xs).flatten))):fMul (.ref a) (.int k) H Q:=by
 show (match H a with | some (.lst xs)=>_ | _=>_)
 rw[h1];exact⟨by rw[p63];omega,by rw[p63];omega,p5_ c.2.2 (by decide),h⟩
theorem jqi_ {K:pc_} {p:Addr} {i:Int} {xs:List V} {v:V} (h1:SqL K H p xs) (h2:atI xs i=some v) (h:Q v H):fIx K (.ref p) (.int i) H Q:=⟨xs,v,.inl h1,h2,h⟩
theorem yu_ {K:pc_} {p:Addr} {i:Int} {xs:List V} {v:V} (h1:seqR H p=some xs) (h2:atI xs i=some v) (h:Q v H):fIx K (.ref p) (.int i) H Q:=⟨xs,v,xr_ h1,h2,h⟩
theorem jti_ {K:pc_} {z:Str} {i:Int} {c:Nat} (hz:z.length<=sizeLine) (h2:atI z.cps.toList i=some c) (h:Q (.str ⟨#[c]⟩) H):fIx K (.str z) (.int i) H Q:=by
 refine⟨hz,?_⟩
 rw[h2];exact h
theorem jmb_ {p:Addr} {k:Int} {v:V} {xs:List V} {j:Nat} {K:Hp->Prop} (h1:H p=some (.lst xs)) (h2:ixN xs.length k=some j) (h:K (upd H p (.lst (xs.set j v)))):fSet (.ref p) (.int k) v H K:=by
 show (match H p with | some (.lst xs)=>(match ixN xs.length k with | some j=>K (upd H p (.lst (xs.set j v))) | none=>False) | _=>False)
 rw[h1];dsimp only;rw[h2];exact h
theorem jtn_ {i:Int} (h:Q (.int (-i)) H):fNeg (.int i) H Q:=h
theorem i_eq {x y:V} (c:scal x y=true) (h:Q (.bl (decide (x=y))) H):fEq x y H Q:=.inl ⟨c,h⟩
theorem i_ne {x y:V} (c:scal x y=true) (h:Q (.bl (!decide (x=y))) H):fNe x y H Q:=.inl ⟨c,h⟩
theorem jpv_ {x y:V} {d:Dt} (h1:Is H x d) (h2:Is H y d) (c:okD d) (h:Q (.bl false) H):fNe x y H Q:=.inr ⟨d,d,h1,h2,c,c,by rw[jlo_ c];exact h⟩
theorem i_is {x:V} (h:Q (.bl (decide (x=.non))) H):fIs x .non H Q:=⟨rfl,h⟩
theorem jpl_ {x:V} (h:Q (.bl (!decide (x=.non))) H):jkh_ x .non H Q:=⟨rfl,h⟩
theorem jhx_ {neg:Bool} {x:V} {p:Addr} {xs:List V} (h1:seqR H p=some xs) (c:yj_ x=true/\xs.all yj_=true) (h:Q (.bl (if neg then !inV x xs else inV x xs)) H):fIn neg x (.ref p) H Q:=by
 unfold fIn
 cases x <;> (dsimp only;rw[h1];exact⟨c.1,c.2,h⟩)
theorem jln_ {K:pc_} {z:Str} (hz:z.length<=sizeLine) (h:Q (.int z.length) H):fLen K [.str z] H Q:=⟨hz,h⟩
theorem jtb_ {K:pc_} {p:Addr} {xs:List V} (h1:SqL K H p xs) (h:Q (.int xs.length) H):fLen K [.ref p] H Q:=⟨xs,.inl h1,h⟩
theorem jsh_ {K:pc_} {p:Addr} {xs:List V} (h1:seqR H p=some xs) (h:Q (.int xs.length) H):fLen K [.ref p] H Q:=⟨xs,xr_ h1,h⟩
theorem i_2I {g:Int->Int->V} {i j:Int} (h:Q (g i j) H):f2I g [.int i,.int j] H Q:=h
theorem jrq_ {b:Bool} (h:Q (.int (if b then 1 else 0)) H):fInt [.bl b] H Q:=h
theorem jha_ {p:Addr} {xs:List V} (h1:seqR H p=some xs) (h:∀ q,H q=none->Q (.ref q) (upd H q (.lst xs))):jlx_ [.ref p] H Q:=by
 show (match seqR H p with | some ys=>GetL H ys Q | none=>False)
 rw[h1];exact h
theorem vf_ {p:Addr} {xs:List V} (h1:seqR H p=some xs) (h:GetT H xs Q):jgi_ [.ref p] H Q:=by
 show (match seqR H p with | some ys=>GetT H ys Q | none=>False)
 rw[h1];exact h
theorem jqs_ {K:pc_} {z:Str} {lo hi:Option Int} (hz:z.length<=sizeLine) (h:Q (.str (kw_ z lo hi)) H):fSl K (.str z) lo hi H Q:=⟨hz,h⟩
theorem jhr_ {K:pc_} {a:Addr} {xs:List V} {lo hi:Option Int} (h1:SqL K H a xs) (h:∀ q,H q=none->Q (.ref q) (upd H q (.lst (cutV xs lo hi)))):fSl K (.ref a) lo hi H Q:=.inl ⟨xs,h1,h⟩
theorem jsr_ {b:Bool} (h:QB b H):fTru (.bl b) H QB:=h
theorem jrh_ {l:Addr} {y:V} {xs:List V} (h1:H l=some (.lst xs)) (c:xs.length < sizeLine) (h:Q .non (upd H l (.lst (xs++[y])))):jdb_ (.ref l) [y] H Q:=by
 show (match H l with | some (.lst xs)=>xs.length < sizeLine/\Q .non (upd H l (.lst (xs++[y]))) | _=>False)
 rw[h1];exact⟨c,h⟩
theorem jsi_ {z:Str} {p:Addr} {ys:List Str} (h1:lstR H p=some (ys.map V.str)) (c:(ys.map (·.length)).sum+ys.length * z.length<=16777216) (h:Q (.str (k6_ z ys)) H):jnc_ (.str z) [.ref p] H Q:=by
 show (match lstR H p with | some xs=>(match strs? xs with | some ys=>(ys.map (·.length)).sum+ys.length * z.length<=16777216/\Q (.str (k6_ z ys)) H | none=>False) | none=>False)
 rw[h1];dsimp only;rw[strs?_map];exact⟨c,h⟩
theorem jtt_ {g:Str->Str->Int->V} {z y:Str} {i:Int} (h:Q (g z y i) H):fSSI g (.str z) [.str y,.int i] H Q:=h
theorem jtu_ {x:V} {t T:String} (h1:tyN H x=some t) (c:x3_ T=true) (h:Q (.bl (subB t T)) H):fIsi [x,.ty T] H Q:=by
 show (match tyN H x with | some t=>x3_ T=true/\Q (.bl (subB t T)) H | none=>False)
 rw[h1];exact⟨c,h⟩
end
theorem iteD {c A B:Prop} [Decidable c] (h1:c->A) (h2:¬ c->B):if decide c=true then A else B:=by
 by_cases h:c
 ·rw[if_pos (decide_eq_true h)];exact h1 h
 ·rw[if_neg (by rw[decide_eq_false h];exact pf_)];exact h2 h
theorem jtc_ {c A B:Prop} [Decidable c] (hc:c) (h:A):if decide c=true then A else B:=by rw[if_pos (decide_eq_true hc)];exact h
theorem jtf_ {c A B:Prop} [Decidable c] (hc:¬ c) (h:B):if decide c=true then A else B:=by rw[if_neg (by rw[decide_eq_false hc];exact pf_)];exact h
theorem u2_ {b:Bool} {A B:Prop} (h:b=true) (hA:A):if b=true then A else B:=by rw[if_pos h];exact hA
theorem jbh_ {b:Bool} {A B:Prop} (h:b=false) (hB:B):if b=true then A else B:=by rw[h];exact iteF hB
theorem szc {xs:List V} (h:decide (xs.length<=1000)=true):xs.length<=sizeLine:=p5_ (of_decide_eq_true h) (by decide)
theorem szn {n:Nat} (h:n<=1000000):n<=sizeLine:=p5_ h (by decide)
theorem i_sz {xs:List V} {R:Prop} (h:xs.length<=sizeLine) (r:R):xs.length<=sizeLine/\R:=⟨h,r⟩
theorem jod_ {H:Hp} {a:Addr} {xs:List V} (h:H a=some (.tup xs)):tyN H (.ref a)=some "tuple":=by
 show (match H a with | some (.lst _)=>some "list" | some (.frz _ (.lst _))=>some "list" | some (.tup _)=>some "tuple" | _=>none)=_
 rw[h]
theorem jpb_ {H:Hp} {a:Addr} {xs:List V} (h:H a=some (.lst xs)):tyN H (.ref a)=some "list":=by
 show (match H a with | some (.lst _)=>some "list" | some (.frz _ (.lst _))=>some "list" | some (.tup _)=>some "tuple" | _=>none)=_
 rw[h]
theorem jd_ {H:Hp} {p:Addr} (h:H p=none) (o:HO):Same H (upd H p o):=fun b u q=>by rw[jg_ (jh_ q h)];exact q
theorem iteB {b:Bool} {A B:Prop} (h1:b=true->A) (h2:b=false->B):if b=true then A else B:=by
 cases b
 ·exact iteF (h2 rfl)
 ·exact iteT (h1 rfl)
theorem jtv_ {α:Type} (x:α) (xs:List α):atI (x::xs) 0=some x:=vm_ (xs:=x::xs) (j:=0) (v:=x) rfl
theorem jtq_ {α:Type} (x y:α) (xs:List α):atI (x::y::xs) 1=some y:=vm_ (xs:=x::y::xs) (j:=1) (v:=y) rfl
theorem jui_ {α:Type} (x y z:α) (xs:List α):atI (x::y::z::xs) 2=some z:=vm_ (xs:=x::y::z::xs) (j:=2) (v:=z) rfl
theorem jty_ {α:Type} (x y z u:α) (xs:List α):atI (x::y::z::u::xs) 3=some u:=vm_ (xs:=x::y::z::u::xs) (j:=3) (v:=u) rfl
theorem jfr_ {n:Nat} {i:Int} (h:0<=i) (h2:i < n):ixN n i=some i.toNat:=by
 unfold ixN;rw[if_pos h,if_pos h2]
theorem yt_ {H:Hp} {p:Addr} {xs:List V}:seqR (upd H p (.lst xs)) p=some xs:=j6_ jb_
theorem jmv_ {H:Hp} {p:Addr} {xs:List V}:lstR (upd H p (.lst xs)) p=some xs:=uy_ jb_
theorem jkd_ {H:Hp} {p:Addr} {xs:List V}:seqR (upd H p (.tup xs)) p=some xs:=yw_ jb_
theorem z2_ {α:Type} {xs:List α} {i:Int} {v:α} (h:0<=i) (h2:xs[i.toNat]?=some v):atI xs i=some v:=by
 have e:i=((i.toNat:Nat):Int):=by omega
 rw[e];exact vm_ h2
theorem CMul.l {i j:Int} (h1:-(2 ^ 64) < i) (h2:i < 2 ^ 64):CMul i j:=.inl ⟨h1,h2⟩
theorem CMul.r {i j:Int} (h1:-(2 ^ 64) < j) (h2:j < 2 ^ 64):CMul i j:=.inr ⟨h1,h2⟩
end L2
namespace L2
def jbc_ (sep:List Nat):List (List Nat)->List Nat
 | []=>[]
 | [x]=>x
 | x::y::r=>x++sep++jbc_ sep (y::r)
theorem jbv_:∀ ls:List (List Nat),jbc_ [] ls=ls.flatten
 | []=>rfl
 | [x]=>by simp[jbc_]
 | x::y::r=>by
  have:=jbv_ (y::r)
  simp only[jbc_,this,p8_,qj_]
def jqg_ (c:Nat):Bool:=decide (97<=c/\c<=122)
def Low (l:List Nat):Prop:=∀ c∈l,jqg_ c=true
structure RS where
 w:List Nat
 g:List Nat
 lacks:Bool
end L2
namespace L2
open PySem PySem.Builtin PySem.Builtin.Str
def S (l:List Nat):Str:=⟨l.toArray⟩
theorem jqb_ (l:List Nat):(S l).cps.toList=l:=rfl
theorem j7_ (l:List Nat):(S l).length=l.length:=by show l.toArray.size=_;simp
theorem jam_ (a b:List Nat):S a++S b=S (a++b):=by
 show (⟨a.toArray++b.toArray⟩:Str)=⟨(a++b).toArray⟩
 rw[List.append_toArray]
theorem jlr_ {a b:List Nat} (h:S a=S b):a=b:=by
 have:=congrArg (fun z:Str=>z.cps.toList) h
 exact this
def sx (n d:Nat):Option Int->Nat
 | none=>d
 | some v=>if v < 0 then (v+(n:Int)).toNat else min v.toNat n
def cutA {α:Type} (l:List α) (lo hi:Option Int):List α:=(l.drop (sx l.length 0 lo)).take (sx l.length l.length hi - sx l.length 0 lo)
theorem jnb_ (n d:Nat) (hd:d<=n) (o:Option Int):sx n d o<=n:=by
 cases o with
 | none=>exact hd
 | some v=>simp only[sx];split <;> omega
theorem jnw_ (lo hi:Option Int) (n:Nat):strSliceIndices lo hi 1 n=(pt_ (sx n n hi - sx n 0 lo)).map (sx n 0 lo+·):=by
 have key:∀(a c:Nat),sliceRange (a:Int) (c:Int) 1=(pt_ (c - a)).map (a+·):=fun a c=>by
  unfold sliceRange
  have e:(if (1:Int) > 0 then (if (a:Int) < (c:Int) then ((c:Int) - a+1 - 1) / 1 else 0) else (if (a:Int) > (c:Int) then ((a:Int) - c - 1 - 1) / (-1) else 0)).toNat=c - a:=by
   rw[if_pos (by decide)]
   split
   ·rw[Int.ediv_one];omega
   ·omega
  simp only[e]
  apply qp_
  intro k _
  omega
 have cl:∀ v:Int,max 0 (min (if v < 0 then v+(n:Int) else v) (n:Int))=(((if v < 0 then (v+(n:Int)).toNat else min v.toNat n):Nat):Int):=fun v=>by
  by_cases hv:v < 0
  ·simp only[if_pos hv];omega
  ·simp only[if_neg hv];omega
 unfold strSliceIndices
 have h1:((1:Int) > 0)=True:=by simp
 cases lo with
 | none =>
  cases hi with
  | none=>simp only[h1,if_true];exact key 0 n
  | some v=>simp only[h1,if_true,cl];exact key 0 _
 | some u =>
  cases hi with
  | none=>simp only[h1,if_true,cl];exact key _ n
  | some v=>simp only[h1,if_true,cl];exact key _ _
theorem jpx_ (l:List Nat):∀(m a:Nat),a+m<=l.length->((pt_ m).map (a+·)).filterMap (l.toArray[·]?)=(l.drop a).take m
 | 0,a,_=>by simp
 | m+1,a,h=>by
  have ha:a < l.length:=by omega
  rw[List.range_succ_eq_map,ps_,rq_,qu_]
  have e:((a+·)∘Nat.succ)=((a+1)+·):=by funext k;simp;omega
  have:=jpx_ l m (a+1) (by omega)
  rw[e,this,sz_ ha,List.take_succ_cons]
  simp[ha]
theorem jjj_ (l:List Nat) (lo hi:Option Int) :
  (if ((1:Int) == 1&&(strSliceIndices lo hi 1 (S l).length).length == (S l).length)=true then S l else ⟨((strSliceIndices lo hi 1 (S l).length).filterMap ((S l).cps[·]?)).toArray⟩:Str)=S (cutA l lo hi):=by
 have h1:=jnb_ l.length l.length (pk_ _) hi
 have h2:=jnb_ l.length 0 (qz_ _) lo
 rw[j7_,jnw_]
 unfold cutA
 generalize sx l.length l.length hi=c at *
 generalize sx l.length 0 lo=a at *
 split
 ·rename_i hc
  simp only[pb_,qk_,beq_self_eq_true,wy_,beq_iff_eq] at hc
  by_cases h0:l.length=0
  ·have:l=[]:=List.length_eq_zero_iff.mp h0
   subst this;simp
  ·have ha:a=0:=by omega
   have hc':c=l.length:=by omega
   subst ha hc'
   simp
 ·by_cases hac:a<=c
  ·show S _=S _
   congr 1
   exact jpx_ l _ a (by omega)
  ·have:c - a=0:=by omega
   rw[this]
   simp[S]
theorem jfc_ (s sub:Str) (hi:Nat):∀(l:List Nat) (arr:Array Nat) (f:Nat),1<=arr.size->(forIn l (arr,f) (td_ s sub hi 1)).run.fst=arr
 | [],_,_,_=>rfl
 | a::l,arr,f,h=>by
  rw[tb_]
  unfold td_
  have c:¬ ((((arr,f).fst.size < 1/\(arr,f).snd<=a)/\a+sub.length<=hi)/\subAt s sub a=true):=fun q=>by
   have t:arr.size < 1:=q.1.1.1
   omega
  rw[if_neg c]
  exact jfc_ s sub hi l arr f h
theorem jcb_ (s sub:Str) (hi:Nat):∀(l:List Nat) (f:Nat),(∀ i∈l,f<=i) ->
  (forIn l ((#[]:Array Nat),f) (td_ s sub hi 1)).run.fst.toList=(l.find? fun i=>decide (i+sub.length<=hi)&&subAt s sub i).toList
 | [],_,_=>rfl
 | a::l,f,hf=>by
  rw[tb_]
  unfold td_
  have ha:f<=a:=hf a po_
  by_cases hc:a+sub.length<=hi/\subAt s sub a=true
  ·have c1:((((#[]:Array Nat),f).fst.size < 1/\((#[]:Array Nat),f).snd<=a)/\a+sub.length<=hi)/\subAt s sub a=true:=⟨⟨⟨by simp,ha⟩,hc.1⟩,hc.2⟩
   rw[if_pos c1]
   have e:=jfc_ s sub hi l (#[].push a) (a+sub.length) (by simp)
   have e2:(decide (a+sub.length<=hi)&&subAt s sub a)=true:=by simp[hc.1,hc.2]
   rw[sa_,e2]
   show ((forIn l ((#[]:Array Nat).push a,a+sub.length) (td_ s sub hi 1)).run.fst).toList=_
   rw[e]
   simp
  ·have c2:¬ (((((#[]:Array Nat),f).fst.size < 1/\((#[]:Array Nat),f).snd<=a)/\a+sub.length<=hi)/\subAt s sub a=true):=fun q=>hc ⟨q.1.2,q.2⟩
   rw[if_neg c2]
   have e2:(decide (a+sub.length<=hi)&&subAt s sub a)=false:=by
    rw[Bool.eq_false_iff]
    intro q
    simp only[p2_,decide_eq_true_eq] at q
    exact hc q
   rw[sa_,e2]
   exact jcb_ s sub hi l f fun i hi'=>hf i (pm_ _ hi')
def fits (p l:List Nat) (i:Nat):Bool:=decide (i+p.length<=l.length)&&((l.drop i).take p.length == p)
theorem jij_ (l p:List Nat) (i:Nat):subAt (S l) (S p) i=((l.drop i).take p.length == p):=by
 rw[StrLaws.subAt_eq,j7_];rfl
theorem jul_ (l p:List Nat) (k:Nat):occurrences (S l) (S p) k (S l).length 1=((List.range' k (l.length+1 - k)).find? (fits p l)).toList:=by
 rw[StrLaws.occ_eq,j7_,jcb_ _ _ _ _ k (fun i hi=>by have:=List.mem_range'.mp hi;omega)]
 have e:(fun i=>decide (i+(S p).length<=l.length)&&subAt (S l) (S p) i)=fits p l:=by
  funext i
  rw[jij_,j7_];rfl
 rw[e]
def jko_ (p l:List Nat) (k:Nat):Int:=match (List.range' k (l.length+1 - k)).find? (fits p l) with
 | some i=>(i:Int)
 | none=>-1
theorem jlv_ (l p:List Nat) (k:Nat):(match occurrences (S l) (S p) k (S l).length 1 with | i::_=>(i:Int) | []=>-1)=jko_ p l k:=by
 rw[jul_]
 unfold jko_
 cases (List.range' k (l.length+1 - k)).find? (fits p l) <;> rfl
theorem jqn_ (sep:List Nat):∀ ls:List (List Nat),Str.join (S sep) (ls.map S)=S (jbc_ sep ls)
 | []=>rfl
 | [x]=>rfl
 | x::y::r=>by
  have ih:=jqn_ sep (y::r)
  show S x++S sep++Str.join (S sep) ((y::r).map S)=_
  rw[ih,jam_,jam_]
  rfl
end L2
namespace L2
open PySem PySem.Spec PyProof.Rows
def LET:Str:=S [97,98,99,100,101,102,103,104,105,106,107,108,109,110,111,112,113,114,115,116,117,118,119,120,121,122]
theorem jsy_:qy_ "abcdefghijklmnopqrstuvwxyz"=LET:=by decide +kernel
end L2
namespace L2
open PySem PySem.Spec PyProof.Rows
end L2
namespace L2
open PySem PySem.Spec PyProof.Rows
theorem jno_ (l:List Nat) (lo hi:Option Int):kw_ (S l) lo hi=S (cutA l lo hi):=jjj_ l lo hi
theorem jut_ (l p:List Nat) (k:Nat):Txt.find3 (S l) (S p) (k:Int)=jko_ p l k:=by
 have e:fromIndex (S l).length (k:Int)=k:=by
  unfold fromIndex
  rw[if_neg (by omega)];omega
 show (match s7_ (S l) (S p) (fromIndex (S l).length (k:Int)) (S l).length 1 with | k::_=>(k:Int) | []=>-1)=_
 rw[e];exact jlv_ l p k
theorem jkb_ (l p:List Nat) (k:Nat):kb_ (S l) (S p) (k:Int)=fits p l k:=by
 have e:fromIndex (S l).length (k:Int)=k:=by
  unfold fromIndex
  rw[if_neg (by omega)];omega
 unfold kb_
 rw[e,jij_,j7_,j7_];rfl
theorem jry_ (sep:List Nat) (ls:List (List Nat)):k6_ (S sep) (ls.map S)=S (jbc_ sep ls):=by
 show Builtin.Str.glued (S sep) (ls.map S)=_
 rw[StrLaws.glued_eq_join,jqn_]
theorem jbs_ {α:Type} (l:List α) (i j:Nat) (h:j<=l.length) (hij:i<=j):cutA l (some (i:Int)) (some (j:Int))=(l.drop i).take (j - i):=by
 unfold cutA
 have e1:sx l.length 0 (some (i:Int))=i:=by simp only[sx];rw[if_neg (by omega)];omega
 have e2:sx l.length l.length (some (j:Int))=j:=by simp only[sx];rw[if_neg (by omega)];omega
 rw[e1,e2]
theorem ut_ (xs:List V) (lo hi:Option Int):cutV xs lo hi=cutA xs lo hi:=rfl
theorem jnv_ {l:List Nat} (h:Low l) (lo hi:Option Int):Low (cutA l lo hi):=fun c hc=>h c (qg_ (pz_ hc))
theorem u5_ {a b:List Nat} (ha:Low a) (hb:Low b):Low (a++b):=fun c hc=>(pr_.mp hc).elim (ha c) (hb c)
theorem jag_ {α:Type} (l:List α) (lo hi:Option Int):(cutA l lo hi).length=sx l.length l.length hi - sx l.length 0 lo:=by
 have h1:=jnb_ l.length l.length (pk_ _) hi
 unfold cutA
 rw[pq_,p9_]
 omega
def LETL:List Nat:=[97,98,99,100,101,102,103,104,105,106,107,108,109,110,111,112,113,114,115,116,117,118,119,120,121,122]
theorem jlj_:Low LETL:=by unfold Low;decide
theorem jue_:qy_ "abcdefghijklmnopqrstuvwxyz"=S LETL:=jsy_
theorem jnn_:qy_ ""=S []:=by decide +kernel
theorem jgy_:qy_ "."=S [46]:=by decide +kernel
theorem jgr_ (ws:List Nat):k6_ (S []) (ws.map fun c=>S [c])=S ws:=by
 have e:(ws.map fun c=>S [c])=(ws.map fun c=>[c]).map S:=by rw[qu_];rfl
 rw[e,jry_,jbv_]
 congr 1
 clear e
 induction ws with
 | nil=>rfl
 | cons c ws ih=>simp only[ps_,qj_];rw[ih];rfl
theorem up_ (ws:List Nat):((ws.map fun c=>S [c]).map (·.length)).sum=ws.length:=by
 induction ws with
 | nil=>rfl
 | cons c ws ih=>simp only[ps_,ss_,p3_,j7_,sb_];rw[qu_] at ih ⊢;omega
theorem jov_ (ws:List Nat):(ws.map fun c=>V.str (S [c]))=(ws.map fun c=>S [c]).map V.str:=by rw[qu_];rfl
theorem u7_ (g:Int) (gs:List Int):inV (.int g) (gs.map V.int)=decide (g∈gs):=by
 induction gs with
 | nil=>rfl
 | cons x gs ih =>
  show (eqV (.int x) (.int g) || inV (.int g) (gs.map V.int))=_
  rw[ih]
  show ((x == g) || decide (g∈gs))=_
  by_cases e:x=g
  ·subst e;simp
  ·have e':¬ g=x:=fun z=>e z.symm
   simp[e,e']
theorem v4_ (gs:List Int):(gs.map V.int).all yj_=true:=by
 rw[k3_,s1_];intro _ _;rfl
theorem jrm_ {H:Hp} {Q:VK} {a b:List Nat} (hz:a.length+b.length<=1000000) (h:Q (.str (S (a++b))) H):fAdd (.str (S a)) (.str (S b)) H Q:=jmr_ (szn (by rw[j7_,j7_];exact hz)) (by rw[jam_];exact h)
theorem jtr_ {K:pc_} {H:Hp} {Q:VK} {l:List Nat} {lo hi:Option Int} (hz:l.length<=1000000) (h:Q (.str (S (cutA l lo hi))) H):fSl K (.str (S l)) lo hi H Q:=jqs_ (szn (by rw[j7_];exact hz)) (by rw[jno_];exact h)
theorem jrs_ {K:pc_} {H:Hp} {Q:VK} {l:List Nat} (hz:l.length<=1000000) (h:Q (.int (l.length:Int)) H):fLen K [.str (S l)] H Q:=jln_ (szn (by rw[j7_];exact hz)) (by rw[j7_];exact h)
theorem v7_ {H:Hp} {Q:VK} {a:Addr} {x:V} {k:Int} (h1:H a=some (.lst [x])) (c:0<=k/\k<=1000000) (h:∀ p,H p=none->Q (.ref p) (upd H p (.lst (pe_ k.toNat x)))):fMul (.ref a) (.int k) H Q:=by
 refine jrk_ h1 ⟨by omega,by omega,by simp;omega⟩ fun p hp=>?_
 have e:(pe_ k.toNat [x]).flatten=pe_ k.toNat x:=by
  generalize k.toNat=m
  induction m with
  | zero=>rfl
  | succ m ih=>rw[rr_,qj_,ih];rfl
 rw[e];exact h p hp
theorem vj_ {α β:Type} (g:α->β) (l:List α) (lo hi:Option Int):cutA (l.map g) lo hi=(cutA l lo hi).map g:=by
 unfold cutA
 rw[pb_,List.map_take,List.map_drop]
def patD (x:List Nat×List Int):Dt:=.tup [.str (S x.1),.tup (x.2.map Dt.int)]
def zj_ (xs:List (List Nat×List Int)):Dt:=.lst (xs.map patD)
structure GP (x:List Nat×List Int):Prop where
 ne:1<=x.1.length
 le:x.1.length<=22
 len:x.2.length=x.1.length+1
 num:∀ v∈x.2,0<=v/\v<=9
 cs:∀ c∈x.1,c < 128
theorem vw_ {H:Hp}:∀{g:List Int} {xs:List V},L2.IsL H xs (g.map Dt.int)->xs=g.map V.int
 | [],[],_=>rfl
 | [],_::_,h=>by simp only[rf_,L2.IsL] at h
 | _::_,[],h=>by simp only[ps_,L2.IsL] at h
 | k::g,x::xs,h=>by
  simp only[ps_,L2.IsL,Is] at h
  rw[h.1,vw_ h.2];rfl
theorem jbr_ {H:Hp} {v:V} {x:List Nat×List Int} (h:Is H v (patD x)):∃ a t,v=.ref a/\H a=some (.tup [.str (S x.1),.ref t])/\H t=some (.tup (x.2.map V.int)):=by
 simp only[Is,patD] at h
 obtain⟨a,xs,rfl,ha,hxs⟩:=h
 match xs,hxs with
 | [],h=>simp only[L2.IsL] at h
 | [_],h=>simp only[L2.IsL] at h;exact h.2.elim
 | _::_::_::_,h=>simp only[L2.IsL] at h;exact h.2.2.elim
 | [y,z],h =>
  simp only[L2.IsL,Is] at h
  obtain⟨rfl,⟨t,ys,rfl,ht,hys⟩,_⟩:=h
  have:=vw_ hys
  subst this
  exact⟨a,t,rfl,ha,ht⟩
theorem u6_ {H:Hp} {a t:Addr} {x:List Nat×List Int} (h1:H a=some (.tup [.str (S x.1),.ref t])) (h2:H t=some (.tup (x.2.map V.int))):Is H (.ref a) (patD x):=by
 simp only[Is,patD,L2.IsL]
 exact⟨a,_,rfl,h1,rfl,⟨t,_,rfl,h2,IsL.ints _ _⟩,trivial⟩
theorem u3_ {H:Hp} {v:V} {xs:List (List Nat×List Int)} (h:Is H v (zj_ xs)):∃ a ys,v=.ref a/\H a=some (.lst ys)/\L2.IsL H ys (xs.map patD):=by
 simp only[Is,zj_] at h
 exact h
theorem IsL.append {H:Hp}:∀{ds es:List Dt} {xs ys:List V},L2.IsL H xs ds->L2.IsL H ys es->L2.IsL H (xs++ys) (ds++es)
 | [],_,[],_,_,h=>h
 | d::ds,es,x::xs,ys,h,k=>by
  simp only[L2.IsL] at h
  simp only[ry_,L2.IsL]
  exact⟨h.1,IsL.append h.2 k⟩
 | [],_,_::_,_,h,_=>by simp only[L2.IsL] at h
 | _::_,_,[],_,h,_=>by simp only[L2.IsL] at h
end L2
namespace L2
abbrev Pat:=List Nat×List Int
def mx (a b:Int):Int:=if b > a then b else a
def put (t:List Int) (p:Nat) (v:Int):List Int:=t.set p (mx (t.getD p 0) v)
theorem jab_ (t:List Int) (p:Nat) (v:Int):(put t p v).length=t.length:=by unfold put;simp
theorem jpe_ (t:List Int) (p q:Nat) (v:Int) (hq:q < t.length):(put t p v).getD q 0=if p=q then mx (t.getD q 0) v else t.getD q 0:=by
 unfold put
 simp only[pw_,List.getElem?_set]
 by_cases h:p=q
 ·subst h;simp[hq]
 ·simp[h]
def laid (t:List Int) (b:Nat):List Int->List Int
 | []=>t
 | v::r=>laid (put t b v) (b+1) r
theorem v0_ (b:Nat) (v:Int):∀(r:List Int) (t:List Int) (c:Nat),laid t c (r++[v])=put (laid t c r) (c+r.length) v
 | [],t,c=>by simp[laid]
 | x::r,t,c=>by
  simp only[ry_,laid,p3_]
  rw[v0_ b v r]
  congr 1;omega
theorem z1_:∀(ns:List Int) (t:List Int) (b:Nat),(laid t b ns).length=t.length
 | [],_,_=>rfl
 | v::r,t,b=>by simp only[laid];rw[z1_ r,jab_]
def jdy_ (m:Int) (p b:Nat):List Int->Int
 | []=>m
 | v::r=>jdy_ (if b=p then mx m v else m) p (b+1) r
theorem jdz_:∀(ns:List Int) (t:List Int) (b q:Nat),q < t.length->(laid t b ns).getD q 0=jdy_ (t.getD q 0) q b ns
 | [],_,_,_,_=>rfl
 | v::r,t,b,q,h=>by
  simp only[laid,jdy_]
  rw[jdz_ r _ _ q (by rw[jab_];exact h),jpe_ t b q v h]
def j5_ (p f:List Nat):List Nat:=(pt_ f.length).filter (fits p f)
def xy_ (f:List Nat) (t:List Int) (x:Pat):List Int:=(j5_ x.1 f).foldl (fun t b=>laid t b x.2) t
def xd_ (f:List Nat) (t:List Int) (xs:List Pat):List Int:=xs.foldl (xy_ f) t
def numP (f:List Nat) (p:Nat) (m:Int) (x:Pat):Int:=(j5_ x.1 f).foldl (fun m b=>jdy_ m p b x.2) m
def numA (f:List Nat) (p:Nat) (m:Int) (xs:List Pat):Int:=xs.foldl (numP f p) m
theorem x5_ (ns:List Int):∀(bs:List Nat) (t:List Int),(bs.foldl (fun t b=>laid t b ns) t).length=t.length/\∀ q,q < t.length->(bs.foldl (fun t b=>laid t b ns) t).getD q 0=bs.foldl (fun m b=>jdy_ m q b ns) (t.getD q 0)
 | [],t=>⟨rfl,fun _ _=>rfl⟩
 | b::bs,t=>by
  obtain⟨h1,h2⟩:=x5_ ns bs (laid t b ns)
  rw[z1_] at h1 h2
  refine⟨by simpa using h1,fun q hq=>?_⟩
  simp only[w8_]
  rw[h2 q hq,jdz_ ns t b q hq]
theorem vx_ (f:List Nat):∀(xs:List Pat) (t:List Int),(xd_ f t xs).length=t.length/\∀ q,q < t.length->(xd_ f t xs).getD q 0=numA f q (t.getD q 0) xs
 | [],t=>⟨rfl,fun _ _=>rfl⟩
 | x::xs,t=>by
  obtain⟨h1,h2⟩:=x5_ x.2 (j5_ x.1 f) t
  obtain⟨h3,h4⟩:=vx_ f xs (xy_ f t x)
  have e:(xy_ f t x).length=t.length:=h1
  rw[e] at h3 h4
  refine⟨h3,fun q hq=>?_⟩
  show (xd_ f (xy_ f t x) xs).getD q 0=_
  rw[h4 q hq]
  show numA f q ((xy_ f t x).getD q 0) xs=numA f q (numP f q (t.getD q 0) x) xs
  rw[show (xy_ f t x).getD q 0=numP f q (t.getD q 0) x from h2 q hq]
def frame (w:List Nat):List Nat:=46::(w++[46])
theorem j0_ (w:List Nat):(frame w).length=w.length+2:=by simp[frame]
def vals (xs:List Pat) (w:List Nat):List Int:=(pt_ (w.length - 1)).map fun j=>numA (frame w) (j+2) 0 xs
theorem xl_ (xs:List Pat) (w:List Nat):(vals xs w).length=w.length - 1:=by simp[vals]
theorem jmm_ (xs:List Pat) (w:List Nat) (j:Nat) (h:j < w.length - 1):(vals xs w)[j]?=some (numA (frame w) (j+2) 0 xs):=by
 simp[vals,h]
theorem jph_ (n q:Nat):(pe_ n (0:Int)).getD q 0=0:=by
 simp only[pw_,s9_];split <;> rfl
theorem jmo_ {a b:List Int} (h:a.length=b.length) (k:∀ q,q < a.length->a.getD q 0=b.getD q 0):a=b:=by
 apply List.ext_getElem h
 intro i h1 h2
 have:=k i h1
 simpa [pw_,h1,h2] using this
theorem vg_ (xs:List Pat) (w:List Nat) (h:1<=w.length):cutA (xd_ (frame w) (pe_ ((frame w).length+1) 0) xs) (some 2) (some (-2))=vals xs w:=by
 obtain⟨h1,h2⟩:=vx_ (frame w) xs (pe_ ((frame w).length+1) 0)
 rw[q7_] at h1 h2
 unfold cutA
 rw[h1]
 rw[j0_] at h1 h2 ⊢
 have e1:sx (w.length+2+1) 0 (some 2)=2:=by simp only[sx];rw[if_neg (by decide)];show min 2 (w.length+2+1)=2;omega
 have e2:sx (w.length+2+1) (w.length+2+1) (some (-2))=w.length+1:=by simp only[sx];rw[if_pos (by decide)];omega
 rw[e1,e2]
 apply jmo_
 ·rw[xl_,pq_,p9_,h1];omega
 ·intro q hq
  rw[pq_,p9_,h1] at hq
  have hq':q < w.length - 1:=by omega
  have:=h2 (2+q) (by omega)
  rw[jph_] at this
  have e3:(vals xs w).getD q 0=numA (frame w) (q+2) 0 xs:=by rw[pw_,jmm_ xs w q hq'];rfl
  rw[e3,k1_ q 2,<- this]
  simp only[pw_,List.getElem?_take,wb_]
  rw[if_pos (by omega)]
end L2
namespace L2
open PySem PySem.Spec PyProof.Rows
def jdp_:V->List V->Hp->VK->Prop:=fun x vs H Q=>match x,vs with
 | .ref l,[.ref b]=>(match H l,H b with | some (.lst xs),some (.lst zs)=>xs.length+zs.length<=sizeLine/\Q .non (upd H l (.lst (xs++zs))) | _,_=>False)
 | _,_=>False
theorem xp_ {X:Cx}:MtR X "list.extend" jdp_:=fun pins s σ H x xs v us Q I rx rs h=>by
 unfold jdp_ at h
 split at h
 ·split at h
  ·rename_i e e2
   exact jjd_ pins s σ H _ _ v us Q I rx rs ⟨_,_,_,_,rfl,rfl,e,e2,h.1,h.2⟩
  ·exact h.elim
 ·exact h.elim
theorem jdr_ {H:Hp} {Q:VK} {l b:Addr} {xs zs:List V} (h1:H l=some (.lst xs)) (h2:H b=some (.lst zs)) (c:xs.length+zs.length<=sizeLine) (h:Q .non (upd H l (.lst (xs++zs)))):jdp_ (.ref l) [.ref b] H Q:=by
 show (match H l,H b with | some (.lst xs),some (.lst zs)=>xs.length+zs.length<=sizeLine/\Q .non (upd H l (.lst (xs++zs))) | _,_=>False)
 rw[h1,h2];exact⟨c,h⟩
mutual
def y1_:Dt->Bool
 | .lst _=>false
 | .tup ds=>zf_ ds
 | _=>true
def zf_:List Dt->Bool
 | []=>true
 | d::ds=>y1_ d&&zf_ ds
end
def Tk (H H':Hp):Prop:=∀ b xs,H b=some (.tup xs)->H' b=some (.tup xs)
theorem Tk.trans {H H1 H2:Hp} (a:Tk H H1) (b:Tk H1 H2):Tk H H2:=fun c o h=>b c o (a c o h)
theorem Same.tk {H H':Hp} (h:Same H H'):Tk H H':=fun b xs e=>h b _ e
theorem Tk.new {H:Hp} {p:Addr} (h:H p=none) (o:HO):Tk H (upd H p o):=(jd_ h o).tk
theorem Tk.lst {H:Hp} {p:Addr} {zs:List V} (h:H p=some (.lst zs)) (o:HO):Tk H (upd H p o):=fun b xs e=>by
 rw[jg_ (jef_ e h (by intro z;cases z))];exact e
mutual
theorem Is.tk {H H':Hp} (h:Tk H H'):∀{d:Dt} {v:V},y1_ d=true->Is H v d->Is H' v d
 | .non,_,_,k=>by simp only[Is] at k ⊢;exact k
 | .bl _,_,_,k=>by simp only[Is] at k ⊢;exact k
 | .int _,_,_,k=>by simp only[Is] at k ⊢;exact k
 | .str _,_,_,k=>by simp only[Is] at k ⊢;exact k
 | .tup ds,_,t,k=>by
  simp only[y1_] at t
  simp only[Is] at k ⊢
  obtain⟨a,xs,e,h1,h2⟩:=k
  exact⟨a,xs,e,h _ _ h1,IsL.tk h t h2⟩
 | .lst ds,_,t,_=>by simp only[y1_] at t;cases t
theorem IsL.tk {H H':Hp} (h:Tk H H'):∀{ds:List Dt} {xs:List V},zf_ ds=true->IsL H xs ds->IsL H' xs ds
 | [],[],_,_=>by simp only[IsL]
 | [],_::_,_,k=>by simp only[IsL] at k
 | _::_,[],_,k=>by simp only[IsL] at k
 | d::ds,x::xs,t,k=>by
  simp only[zf_,p2_] at t
  simp only[IsL] at k ⊢
  exact⟨Is.tk h t.1 k.1,IsL.tk h t.2 k.2⟩
end
theorem y0_:∀{ds:List Dt},(∀ d∈ds,y1_ d=true)->zf_ ds=true
 | [],_=>rfl
 | d::ds,h=>by simp only[zf_,p2_];exact⟨h d po_,y0_ fun e he=>h e (pm_ _ he)⟩
theorem uh_ (ns:List Int):zf_ (ns.map Dt.int)=true:=y0_ fun d hd=>by
 obtain⟨n,_,rfl⟩:=pu_.mp hd;rfl
theorem jil_ (x:List Nat×List Int):y1_ (patD x)=true:=by simp only[patD,y1_,zf_,uh_,t0_]
theorem jfi_ (xs:List (List Nat×List Int)):zf_ (xs.map patD)=true:=y0_ fun d hd=>by
 obtain⟨n,_,rfl⟩:=pu_.mp hd;exact jil_ n
theorem IsL.snoc {H:Hp} {ds:List Dt} {d:Dt} {xs:List V} {x:V} (h:IsL H xs ds) (k:Is H x d):IsL H (xs++[x]) (ds++[d]) :=
 IsL.append h (by simp only[IsL];exact⟨k,trivial⟩)
abbrev Fit:=Nat×List Int
def fitD (x:Fit):Dt:=.tup [.int (x.1:Int),.tup (x.2.map Dt.int)]
def jhw_ (xs:List Fit):Dt:=.lst (xs.map fitD)
theorem x7_ (xs:List Fit):zf_ (xs.map fitD)=true:=y0_ fun d hd=>by
 obtain⟨n,_,rfl⟩:=pu_.mp hd;simp only[fitD,y1_,zf_,uh_,t0_]
theorem juo_ {H:Hp} {v:V} {x:Fit} (h:Is H v (fitD x)):∃ a t,v=.ref a/\H a=some (.tup [.int (x.1:Int),.ref t])/\H t=some (.tup (x.2.map V.int)):=by
 simp only[Is,fitD] at h
 obtain⟨a,xs,rfl,ha,hxs⟩:=h
 match xs,hxs with
 | [],h=>simp only[L2.IsL] at h
 | [_],h=>simp only[L2.IsL] at h;exact h.2.elim
 | _::_::_::_,h=>simp only[L2.IsL] at h;exact h.2.2.elim
 | [y,z],h =>
  simp only[L2.IsL,Is] at h
  obtain⟨rfl,⟨t,ys,rfl,ht,hys⟩,_⟩:=h
  have:=vw_ hys
  subst this
  exact⟨a,t,rfl,ha,ht⟩
theorem jmf_ {H:Hp} {a t:Addr} {x:Fit} (h1:H a=some (.tup [.int (x.1:Int),.ref t])) (h2:H t=some (.tup (x.2.map V.int))):Is H (.ref a) (fitD x):=by
 simp only[Is,fitD,L2.IsL]
 exact⟨a,_,rfl,h1,rfl,⟨t,_,rfl,h2,IsL.ints _ _⟩,trivial⟩
theorem jsu_ {H:Hp} {v:V} {xs:List Fit} (h:Is H v (jhw_ xs)):∃ a ys,v=.ref a/\H a=some (.lst ys)/\L2.IsL H ys (xs.map fitD):=by
 simp only[Is,jhw_] at h
 exact h
def layF (t:List Int) (xs:List Fit):List Int:=xs.foldl (fun t x=>laid t x.1 x.2) t
theorem uf_:∀(xs:List Fit) (t:List Int),(layF t xs).length=t.length
 | [],_=>rfl
 | x::xs,t=>by show (layF (laid t x.1 x.2) xs).length=_;rw[uf_ xs,z1_]
theorem uk_ (t:List Int) (xs ys:List Fit):layF t (xs++ys)=layF (layF t xs) ys:=wo_
theorem jiq_ {xs:List Fit} {i:Nat} (h:i < xs.length) (t:List Int):layF t (xs.take (i+1))=laid (layF t (xs.take i)) xs[i].1 xs[i].2:=by
 rw[qx_,pa_ h,uk_];rfl
def ug_ (f:List Nat) (x:Pat):List Fit:=(j5_ x.1 f).map fun b=>(b,x.2)
def z3_ (f:List Nat) (xs:List Pat):List Fit:=xs.flatMap (ug_ f)
theorem jec_ {f:List Nat} {xs:List Pat} {i:Nat} (h:i < xs.length):z3_ f (xs.take (i+1))=z3_ f (xs.take i)++ug_ f xs[i]:=by
 unfold z3_;rw[qx_,pa_ h,rt_];simp
theorem jgq_ (f:List Nat) (x:Pat) (t:List Int):layF t (ug_ f x)=xy_ f t x:=by
 unfold layF ug_ xy_;rw[List.foldl_map]
theorem ul_ (f:List Nat):∀(xs:List Pat) (t:List Int),layF t (z3_ f xs)=xd_ f t xs
 | [],_=>rfl
 | x::xs,t=>by
  show layF t (ug_ f x++z3_ f xs)=xd_ f (xy_ f t x) xs
  rw[uk_,jgq_,ul_ f xs]
theorem jbj_ (p f:List Nat):(j5_ p f).length<=f.length:=by
 unfold j5_;exact p5_ (q1_ _ _) (by simp)
theorem jap_ (f:List Nat):∀(xs:List Pat),(z3_ f xs).length<=xs.length * f.length
 | []=>by simp[z3_]
 | x::xs=>by
  show (ug_ f x++z3_ f xs).length<=_
  have h1:=jap_ f xs
  have h2:=jbj_ x.1 f
  have h3:(ug_ f x).length=(j5_ x.1 f).length:=by simp[ug_]
  rw[pd_,p3_,Nat.add_mul];omega
theorem jfh_ {f:List Nat} {xs:List Pat} {y:Fit} (h:y∈z3_ f xs):∃ x∈xs,y.1∈j5_ x.1 f/\y.2=x.2:=by
 obtain⟨x,hx,hy⟩:=qw_.mp h
 obtain⟨b,hb,rfl⟩:=pu_.mp hy
 exact⟨x,hx,hb,rfl⟩
end L2
namespace L2
open PySem
open Sem (wp)
structure ZA (z TI TO i1 i2:Addr) (f1 f2:List Addr):Prop where
 TIz:TI≠z
 TOz:TO≠z
 i1z:i1≠z
 i2z:i2≠z
 TITO:TI≠TO
 TIi1:TI≠i1
 TIi2:TI≠i2
 TOi1:TO≠i1
 TOi2:TO≠i2
 i12:i1≠i2
 zf1:z∉f1
 zf2:z∉f2
 of1:TO∉f1
 of2:TO∉f2
 i1f2:i1∉f2
 i2f1:i2∉f1
section
variable {prog:Program} {w:World} {A:Around} {E:Value->Shared->Prop} {s:Shared}
end
set_option maxHeartbeats 4000000 in
section
variable {prog:Program} {w:World} {A:Around} {E:Value->Shared->Prop} {s:Shared}
end
end L2
namespace L2
open PySem PySem.Spec PyProof.Rows
def Izp (xs ys:List V) (ok:Hp->Prop):It :=
 ⟨fun i H=>ok H/\i < xs.length/\i < ys.length,fun i H x H'=>∃ T u v,H T=none/\xs[i]?=some u/\ys[i]?=some v/\x=.ref T/\H'=upd H T (.tup [u,v]),fun i H=>ok H/\i=min xs.length ys.length⟩
section
variable {X:Cx}
end
end L2
namespace L2
open PySem PySem.Spec PyProof.Rows
section
variable {X:Cx}
def juv_ (R:It->Hp->Prop):V->V->Hp->Prop:=fun x y H1=>match x,y with
 | .ref b,.ref a=>∃ xs ys,H1 b=some (.lst xs)/\H1 a=some (.lst ys)/\R (Izp xs ys fun H=>H b=some (.lst xs)/\H a=some (.lst ys)) H1
 | _,_=>False
def jgg_:V->List V->Hp->VK->Prop:=fun x vs H Q=>match x,vs with
 | .ref l,[]=>(match H l with | some (.lst xs)=>Q .non (upd H l (.lst [])) | _=>False)
 | _,_=>False
theorem jpg_:MtR X "list.clear" jgg_:=fun pins s σ H x xs v us Q I rx rs h=>by
 unfold jgg_ at h
 split at h
 ·split at h
  ·rename_i e
   exact jng_ pins s σ H _ _ v us Q I rx rs ⟨_,_,rfl,rfl,e,h⟩
  ·exact h.elim
 ·exact h.elim
theorem jsx_ {l:Addr} {xs:List V} {H:Hp} {Q:VK} (h1:H l=some (.lst xs)) (h:Q .non (upd H l (.lst []))):jgg_ (.ref l) [] H Q:=by
 show (match H l with | some (.lst xs)=>Q .non (upd H l (.lst [])) | _=>False)
 rw[h1];exact h
end
end L2
namespace L2
open PySem PySem.Spec PyProof.Rows
def Lay (n:Nat) (d:Dt):Prop:=wh_ (toP d)=true/\k4_ (toP d)<=n
theorem Lay.ok {n:Nat} {d:Dt} (h:Lay n d) (hn:n<=64):okD d:=by
 unfold okD SeqAt.shaped
 rw[h.1,decide_eq_true (p5_ h.2 hn)];rfl
theorem jdk_ {n:Nat}:∀{ds:List Dt},(∀ d∈ds,Lay n d)->PyData.canLayAll0 (toPs ds)=true/\PyData.depthAll (toPs ds)<=n
 | [],_=>⟨rfl,qz_ _⟩
 | d::ds,h=>by
  have h1:=h d po_
  have h2:=jdk_ (ds:=ds) fun e he=>h e (pm_ _ he)
  simp only[toPs,PyData.canLayAll0,PyData.depthAll,h1.1,h2.1,Bool.and_self,true_and]
  have:=h1.2
  have:=h2.2
  omega
theorem Lay.lst {n:Nat} {ds:List Dt} (h:∀ d∈ds,Lay n d):Lay (n+1) (.lst ds):=by
 have:=jdk_ h
 unfold Lay
 simp only[toP,wh_,k4_,this.1,true_and]
 omega
theorem Lay.tup {n:Nat} {ds:List Dt} (h:∀ d∈ds,Lay n d):Lay (n+1) (.tup ds):=by
 have:=jdk_ h
 unfold Lay
 simp only[toP,wh_,k4_,this.1,true_and]
 omega
theorem Lay.mono {n m:Nat} {d:Dt} (h:Lay n d) (hm:n<=m):Lay m d:=⟨h.1,p5_ h.2 hm⟩
theorem Lay.int {i:Int}:Lay 0 (.int i):=⟨rfl,pk_ _⟩
theorem Lay.non:Lay 0 .non:=⟨rfl,pk_ _⟩
theorem Lay.str {l:List Nat} (h:∀ c∈l,c < 128):Lay 0 (.str (S l)):=by
 refine⟨?_,pk_ _⟩
 simp only[toP,wh_]
 unfold PyData.strOk
 rw[<- Array.all_toList]
 show (l.all fun x=>decide (x < 0x110000))=true
 rw[s1_]
 intro c hc
 have:=h c hc
 exact decide_eq_true (by omega)
theorem Lay.ints {n:List Int}:∀ d∈n.map Dt.int,Lay 0 d:=fun d hd=>by
 obtain⟨x,_,rfl⟩:=pu_.mp hd
 exact Lay.int
theorem Lay.pat {x:List Nat×List Int} (h:∀ c∈x.1,c < 128):Lay 2 (patD x):=Lay.tup fun d hd=>by
 rcases p7_.mp hd with h1 | h1
 ·rw[h1];exact(Lay.str h).mono (by decide)
 ·have:d=.tup (x.2.map Dt.int):=by simpa using h1
  rw[this];exact Lay.tup Lay.ints
theorem Lay.pats {xs:List (List Nat×List Int)} (h:∀ x∈xs,∀ c∈x.1,c < 128):Lay 3 (zj_ xs):=Lay.lst fun d hd=>by
 obtain⟨x,hx,rfl⟩:=pu_.mp hd
 exact Lay.pat (h x hx)
end L2
set_option autoImplicit false
namespace PyProof.Rows
open PySem
abbrev SM (α:Type):=StateT SortSt Sem α
def uq_ (beyond:Nat->SM (Option Bool)) (n lo hi:Nat):SM (Option Nat):=do
 let mut lo:=lo
 let mut hi:=hi
 for _ in [0:n] do
  if lo≥hi then break
  let m:=lo+(hi - lo) / 2
  let some more <- beyond m | return none
  if more then lo:=m+1 else hi:=m
 return some hi
def jew_ (beyond:Nat->SM (Option Bool)) (n hint:Nat):SM (Option Nat):=do
 let mut lastofs:=0
 let mut ofs:=1
 let maxofs:=n - hint
 for _ in [0:n] do
  if ofs≥maxofs then break
  let some more <- beyond (hint+ofs) | return none
  if !more then break
  lastofs:=ofs
  ofs:=2 * ofs+1
 uq_ beyond n (hint+lastofs+1) (hint+min ofs maxofs)
def jgw_ (beyond:Nat->SM (Option Bool)) (n hint:Nat):SM (Option Nat):=do
 let mut lastofs:=0
 let mut ofs:=1
 let maxofs:=hint+1
 for _ in [0:n] do
  if ofs≥maxofs then break
  let some found <- beyond (hint - ofs) | return none
  if found then break
  lastofs:=ofs
  ofs:=2 * ofs+1
 uq_ beyond n (hint+1 - min ofs maxofs) (hint - lastofs)
def galW (beyond:Nat->SM (Option Bool)) (n hint:Nat):SM (Option Nat):=do
 let some right <- beyond hint | return none
 if right then jew_ beyond n hint else jgw_ beyond n hint
def jhb_ (left:Bool) (key:Keyed) (arr:Array Keyed) (base:Nat) (i:Nat):SM (Option Bool):=do
 let x <- elem' arr (base+i)
 if left then lt' x key else return (<- lt' key x).map (!·)
def zr_:Bool->Keyed->Array Keyed->Nat->Nat->Nat->SM (Option Nat):=sortPriv% PySem.Builtin.gallop
theorem jgo_ (left:Bool) (key:Keyed) (arr:Array Keyed) (base n hint:Nat):zr_ left key arr base n hint=galW (jhb_ left key arr base) n hint:=rfl
section
variable {M:Model} {A:Around} {E:Value->Shared->Prop} {s:Shared} {beyond:Nat->SM (Option Bool)} {B:Nat->Bool} {n:Nat} {st:SortSt} {Q:Option Nat->SortSt->Prop}
theorem uj_ (hb:∀ i (Q:Option Bool->SortSt->Prop),i < n->Q (some (B i)) st->wpS M A E s (beyond i) Q st) (mono:∀ i j,i<=j->j < n->B j=true->B i=true) {lo hi:Nat} (h1:lo<=hi) (h2:hi<=n)
  (h3:∀ i,i < lo->B i=true) (h4:∀ i,hi<=i->i < n->B i=false) (h:∀ r,r<=n->(∀ i,i < r->B i=true)->(∀ i,r<=i->i < n->B i=false)->Q (some r) st):wpS M A E s (uq_ beyond n lo hi) Q st:=by
 unfold uq_
 refine wpS_bind (wpS_mono (wpS_forRange (I:=fun t c st'=>st'=st/\∃ lo hi,c=(none,lo,hi)/\lo<=hi/\hi<=n/\hi - lo<=n - t/\(∀ i,i < lo->B i=true)/\(∀ i,hi<=i->i < n->B i=false))
  (Q:=fun c st'=>st'=st/\∃ r,c=(none,r,r)/\r<=n/\(∀ i,i < r->B i=true)/\(∀ i,r<=i->i < n->B i=false)) ?step ?fin ⟨rfl,lo,hi,rfl,h1,h2,by omega,h3,h4⟩) ?post)
 case fin =>
  rintro c st' ⟨rfl,lo,hi,rfl,a1,a2,a3,a4,a5⟩
  have:lo=hi:=by omega
  subst this
  exact⟨rfl,lo,rfl,a2,a4,a5⟩
 case step =>
  rintro t c st' _ ht ⟨rfl,lo,hi,rfl,a1,a2,a3,a4,a5⟩
  dsimp only
  by_cases hge:lo≥hi
  ·rw[if_pos hge]
   have:lo=hi:=by omega
   subst this
   exact wpS_pure ⟨rfl,lo,rfl,a2,a4,a5⟩
  ·rw[if_neg hge]
   refine wpS_bind (hb _ _ (by omega) ?_)
   cases hm:B (lo+(hi - lo) / 2) with
   | true =>
    simp only[if_true]
    exact wpS_pure ⟨rfl,_,hi,rfl,by omega,a2,by omega,fun i hi'=>mono i (lo+(hi - lo) / 2) (by omega) (by omega) hm,a5⟩
   | false =>
    simp only[pi_,if_false]
    refine wpS_pure ⟨rfl,lo,_,rfl,by omega,by omega,by omega,a4,fun i h1 h2=>?_⟩
    cases hi':B i with
    | false=>rfl
    | true=>rw[mono _ i h1 h2 hi'] at hm;cases hm
 case post =>
  rintro c st' ⟨rfl,r,rfl,a1,a2,a3⟩
  exact wpS_pure (h r a1 a2 a3)
theorem jnh_ (hb:∀ i (Q:Option Bool->SortSt->Prop),i < n->Q (some (B i)) st->wpS M A E s (beyond i) Q st) (mono:∀ i j,i<=j->j < n->B j=true->B i=true) {hint:Nat} (hh:hint < n)
  (h:∀ r,r<=n->(∀ i,i < r->B i=true)->(∀ i,r<=i->i < n->B i=false)->Q (some r) st):wpS M A E s (galW beyond n hint) Q st:=by
 unfold galW
 refine wpS_bind (hb _ _ hh ?_)
 cases h0:B hint with
 | true =>
  simp only[if_true]
  unfold jew_
  refine wpS_bind (wpS_mono (wpS_forRange (I:=fun t c st'=>st'=st/\∃ la of',c=(none,la,of')/\la < of'/\t+1<=of'/\hint+la < n/\B (hint+la)=true)
   (Q:=fun c st'=>st'=st/\∃ la of',c=(none,la,of')/\la < of'/\hint+la < n/\B (hint+la)=true/\(n - hint<=of'∨B (hint+of')=false)) ?step ?fin ⟨rfl,0,1,rfl,by omega,by omega,by omega,h0⟩) ?post)
  case fin =>
   rintro c st' ⟨rfl,la,of',rfl,a1,a2,a3,a4⟩
   exact⟨rfl,la,of',rfl,a1,a3,a4,.inl (by omega)⟩
  case step =>
   rintro t c st' _ ht ⟨rfl,la,of',rfl,a1,a2,a3,a4⟩
   dsimp only
   by_cases hge:of'≥n - hint
   ·rw[if_pos hge]
    exact wpS_pure ⟨rfl,la,of',rfl,a1,a3,a4,.inl hge⟩
   ·rw[if_neg hge]
    refine wpS_bind (hb _ _ (by omega) ?_)
    cases hm:B (hint+of') with
    | true =>
     simp only[qv_,pi_,if_false]
     exact wpS_pure ⟨rfl,of',_,rfl,by omega,by omega,by omega,hm⟩
    | false =>
     simp only[s0_,if_true]
     exact wpS_pure ⟨rfl,la,of',rfl,a1,a3,a4,.inr hm⟩
  case post =>
   rintro c st' ⟨rfl,la,of',rfl,a1,a3,a4,a5⟩
   dsimp only
   refine uj_ hb mono (by omega) (by omega) (fun i hi=>mono i _ (by omega) a3 a4) (fun i h1 h2=>?_) h
   rcases a5 with a5 | a5
   ·omega
   ·cases hi':B i with
    | false=>rfl
    | true=>rw[mono (hint+of') i (by omega) h2 hi'] at a5;cases a5
 | false =>
  simp only[pi_,if_false]
  unfold jgw_
  refine wpS_bind (wpS_mono (wpS_forRange (I:=fun t c st'=>st'=st/\∃ la of',c=(none,la,of')/\la < of'/\t+1<=of'/\la<=hint/\B (hint - la)=false)
   (Q:=fun c st'=>st'=st/\∃ la of',c=(none,la,of')/\la < of'/\la<=hint/\B (hint - la)=false/\(hint+1<=of'∨(of' < hint+1/\B (hint - of')=true))) ?step2 ?fin2 ⟨rfl,0,1,rfl,by omega,by omega,by omega,h0⟩) ?post2)
  case fin2 =>
   rintro c st' ⟨rfl,la,of',rfl,a1,a2,a3,a4⟩
   exact⟨rfl,la,of',rfl,a1,a3,a4,.inl (by omega)⟩
  case step2 =>
   rintro t c st' _ ht ⟨rfl,la,of',rfl,a1,a2,a3,a4⟩
   dsimp only
   by_cases hge:of'≥hint+1
   ·rw[if_pos hge]
    exact wpS_pure ⟨rfl,la,of',rfl,a1,a3,a4,.inl hge⟩
   ·rw[if_neg hge]
    refine wpS_bind (hb _ _ (by omega) ?_)
    cases hm:B (hint - of') with
    | false =>
     simp only[pi_,if_false]
     exact wpS_pure ⟨rfl,of',_,rfl,by omega,by omega,by omega,hm⟩
    | true =>
     simp only[if_true]
     exact wpS_pure ⟨rfl,la,of',rfl,a1,a3,a4,.inr ⟨by omega,hm⟩⟩
  case post2 =>
   rintro c st' ⟨rfl,la,of',rfl,a1,a3,a4,a5⟩
   dsimp only
   refine uj_ hb mono (by omega) (by omega) (fun i hi=>?_) (fun i h1 h2=>?_) h
   ·rcases a5 with a5 | ⟨a5,a6⟩
    ·omega
    ·exact mono i _ (by omega) (by omega) a6
   ·cases hi':B i with
    | false=>rfl
    | true=>rw[mono (hint - la) i (by omega) h2 hi'] at a4;cases a4
end
structure Cmp (prog:Program) (w:World) (A:Around) (E:Value->Shared->Prop) (s:Shared) (kd:SortKind) (O:KeyOrd) (ok:Keyed->Prop) (k:Keyed->O.α):Prop where
 lt:∀{st:SortSt} {x y:Keyed} {Q:Option Bool->SortSt->Prop},kindOf st=kd->ok x->ok y->Q (some (O.blt (k x) (k y))) st->wpS (model prog w) A E s (lt' x y) Q st
section
variable {prog:Program} {w:World} {A:Around} {E:Value->Shared->Prop} {s:Shared} {kd:SortKind} {O:KeyOrd} {ok:Keyed->Prop} {k:Keyed->O.α}
def Srt (O:KeyOrd) (k:Keyed->O.α) (l:List Keyed):Prop:=l.Pairwise fun x y=>O.kle (k x) (k y)
theorem js_ {arr:Array Keyed} {i:Nat} {x:Keyed} {M:Model} {st:SortSt} {Q:Keyed->SortSt->Prop} (hx:arr[i]?=some x) (h:Q x st):wpS M A E s (elem' arr i) Q st:=by
 rw[elem'_eq,hx];exact wpS_pure h
theorem Srt.get {l:List Keyed} (h:Srt O k l) {i j:Nat} {x y:Keyed} (hij:i<=j) (hx:l[i]?=some x) (hy:l[j]?=some y):O.kle (k x) (k y):=by
 rcases Nat.eq_or_lt_of_le hij with e | e
 ·subst e
  rw[hx] at hy
  cases hy
  exact rb_ _
 ·obtain⟨h1,rfl⟩:=ph_.mp hx
  obtain⟨h2,rfl⟩:=ph_.mp hy
  exact wi_.mp h i j h1 h2 e
theorem zw_ (C:Cmp prog w A E s kd O ok k) {left:Bool} {key:Keyed} {arr:Array Keyed} {base n hint:Nat} {seg:List Keyed} {st:SortSt} {Q:Option Nat->SortSt->Prop} (hk:kindOf st=kd) (okk:ok key)
  (hseg:∀ i,i < n->arr[base+i]?=seg[i]?) (hn:seg.length=n) (hok:∀ x∈seg,ok x) (hs:Srt O k seg) (hh:hint < n)
  (h:∀ r,r<=n->(∀ x∈seg.take r,if left=true then O.klt (k x) (k key) else O.kle (k x) (k key))->(∀ x∈seg.drop r,if left=true then O.kle (k key) (k x) else O.klt (k key) (k x))->Q (some r) st) :
  wpS (model prog w) A E s (zr_ left key arr base n hint) Q st:=by
 rw[jgo_]
 obtain⟨B,hB⟩:∃ B:Nat->Bool,B=fun i=>match seg[i]? with
  | some x=>if left=true then O.blt (k x) (k key) else !O.blt (k key) (k x)
  | none=>false:=⟨_,rfl⟩
 have hBx:∀ i x,seg[i]?=some x->B i=if left=true then O.blt (k x) (k key) else !O.blt (k key) (k x):=fun i x hx=>by rw[hB];simp only[hx]
 refine jnh_ (B:=B) (fun i Q hi hq=>?_) (fun i j hij hj hbj=>?_) hh fun r h1 h2 h3=>h r h1 (fun x hx=>?_) (fun x hx=>?_)
 ·have hx:seg[i]?=some seg[i]:=pa_ (by omega)
  unfold jhb_
  refine wpS_bind (js_ ((hseg i hi).trans hx) ?_)
  rw[hBx i _ hx] at hq
  cases left with
  | true =>
   simp only[if_true] at hq ⊢
   exact C.lt hk (hok _ (qf_ _)) okk hq
  | false =>
   simp only[pi_,if_false] at hq ⊢
   exact wpS_bind (C.lt hk okk (hok _ (qf_ _)) (wpS_pure hq))
 ·have hx:seg[i]?=some seg[i]:=pa_ (by omega)
  have hy:seg[j]?=some seg[j]:=pa_ (by omega)
  have hle:=hs.get hij hx hy
  rw[hBx j _ hy] at hbj
  rw[hBx i _ hx]
  cases left with
  | true =>
   simp only[if_true] at hbj ⊢
   exact KeyOrd.klt_of_kle_of_klt hle hbj
  | false =>
   simp only[pi_,if_false,Bool.not_eq_true'] at hbj ⊢
   exact p6_ hle hbj
 ·obtain⟨i,hi,rfl⟩:=s3_ hx
  rw[pq_] at hi
  have:=h2 i (by omega)
  rw[wp_]
  rw[hBx i _ (pa_ (by omega))] at this
  cases left with
  | true=>simpa [KeyOrd.klt] using this
  | false=>simpa [KeyOrd.kle] using this
 ·obtain⟨i,hi,rfl⟩:=s3_ hx
  rw[p9_] at hi
  have:=h3 (r+i) (by omega) (by omega)
  rw[wq_]
  rw[hBx (r+i) _ (pa_ (by omega))] at this
  cases left with
  | true=>simpa [KeyOrd.kle] using this
  | false=>simpa [KeyOrd.klt] using this
end
end PyProof.Rows
set_option autoImplicit false
namespace PyProof.Rows
open PySem
def j2_:Nat->SM Unit:=sortPriv% PySem.Builtin.setMinGallop
theorem zl_ (g:Nat):j2_ g=modify fun s=>SortSt.mk' (kindOf s) (arrOf s) (pendingOf s) g (failedOf s):=rfl
abbrev S2:=Option (Array Keyed)×Array Keyed×Nat×Nat×Nat×Nat×Nat
abbrev S1:=Option (Array Keyed)×Array Keyed×Nat×Nat×Nat×Nat
abbrev S0:=Option (Array Keyed)×Array Keyed×Nat×Nat×Nat
def yk_ (a b out:Array Keyed) (ia ib:Nat):Array Keyed:=out++a.extract ia a.size++b.extract ib b.size
def vq_ (a b out:Array Keyed) (ia ib:Nat):Array Keyed:=out++b.extract ib b.size++a.extract ia a.size
def ml3 (a b:Array Keyed) (mg ac bc ia:Nat) (out:Array Keyed) (ib:Nat):SM (ForInStep S2):=do
 let x <- elem' a ia
 if (ia+1+1 == a.size)=true then pure (.done (some (vq_ a b (out.push x) (ia+1) ib),out.push x,ia+1,ib,mg,ac,bc))
 else if (decide (ac < 7)&&decide (bc < 7))=true then pure (.done (none,out.push x,ia+1,ib,mg,ac,bc)) else pure (.yield (none,out.push x,ia+1,ib,mg,ac,bc))
def ml2 (a b:Array Keyed) (mg ac ib bc:Nat) (out:Array Keyed) (ia:Nat):SM (ForInStep S2):=do
 let x <- elem' b ib
 if (ib+1 == b.size)=true then pure (.done (some (yk_ a b (out.push x) ia (ib+1)),out.push x,ia,ib+1,mg,ac,bc))
 else do
  let y <- elem' a ia
  let r <- zr_ true y b (ib+1) (b.size - (ib+1)) 0
  match r with
  | some k=>if k > 0 then (if (ib+1+k == b.size)=true then pure (.done (some (yk_ a b (out.push x++b.extract (ib+1) (ib+1+k)) ia (ib+1+k)),out.push x++b.extract (ib+1) (ib+1+k),ia,ib+1+k,mg,ac,k))
    else ml3 a b mg ac k ia (out.push x++b.extract (ib+1) (ib+1+k)) (ib+1+k)) else ml3 a b mg ac k ia (out.push x) (ib+1)
  | _=>pure (.done (some (yk_ a b (out.push x) ia (ib+1)),out.push x,ia,ib+1,mg,ac,bc))
def ml1 (a b:Array Keyed) (ac bc ib:Nat) (out:Array Keyed) (ia mg:Nat):SM (ForInStep S2):=do
 j2_ mg
 let x <- elem' b ib
 let r <- zr_ false x a ia (a.size - ia) 0
 match r with
 | some k=>if k > 0 then (if (ia+k+1 == a.size)=true then pure (.done (some (vq_ a b (out++a.extract ia (ia+k)) (ia+k) ib),out++a.extract ia (ia+k),ia+k,ib,mg,k,bc))
   else if (ia+k == a.size)=true then pure (.done (some (yk_ a b (out++a.extract ia (ia+k)) (ia+k) ib),out++a.extract ia (ia+k),ia+k,ib,mg,k,bc))
   else ml2 a b mg k ib bc (out++a.extract ia (ia+k)) (ia+k)) else ml2 a b mg k ib bc out ia
 | _=>pure (.done (some (yk_ a b out ia ib),out,ia,ib,mg,ac,bc))
def mlB (a b:Array Keyed) (_:Nat) (c:S2):SM (ForInStep S2) :=
 if c.2.2.2.2.1 > 1 then ml1 a b c.2.2.2.2.2.1 c.2.2.2.2.2.2 c.2.2.2.1 c.2.1 c.2.2.1 (c.2.2.2.2.1 - 1) else ml1 a b c.2.2.2.2.2.1 c.2.2.2.2.2.2 c.2.2.2.1 c.2.1 c.2.2.1 c.2.2.2.2.1
def mlAb (a b:Array Keyed) (mg:Nat) (c:S1):SM (ForInStep S1):=do
 let x <- elem' b c.2.2.2.1
 if (c.2.2.2.1+1 == b.size)=true then pure (.done (some (yk_ a b (c.2.1.push x) c.2.2.1 (c.2.2.2.1+1)),c.2.1.push x,c.2.2.1,c.2.2.2.1+1,0,c.2.2.2.2.2+1))
 else if c.2.2.2.2.2+1≥mg then pure (.done (none,c.2.1.push x,c.2.2.1,c.2.2.2.1+1,0,c.2.2.2.2.2+1)) else pure (.yield (none,c.2.1.push x,c.2.2.1,c.2.2.2.1+1,0,c.2.2.2.2.2+1))
def mlAa (a b:Array Keyed) (mg:Nat) (c:S1):SM (ForInStep S1):=do
 let x <- elem' a c.2.2.1
 if (c.2.2.1+1+1 == a.size)=true then pure (.done (some (vq_ a b (c.2.1.push x) (c.2.2.1+1) c.2.2.2.1),c.2.1.push x,c.2.2.1+1,c.2.2.2.1,c.2.2.2.2.1+1,0))
 else if c.2.2.2.2.1+1≥mg then pure (.done (none,c.2.1.push x,c.2.2.1+1,c.2.2.2.1,c.2.2.2.2.1+1,0)) else pure (.yield (none,c.2.1.push x,c.2.2.1+1,c.2.2.2.1,c.2.2.2.2.1+1,0))
def mlA (a b:Array Keyed) (mg:Nat) (_:Nat) (c:S1):SM (ForInStep S1):=do
 let x <- elem' b c.2.2.2.1
 let y <- elem' a c.2.2.1
 let r <- lt' x y
 match r with
 | some w=>if w=true then mlAb a b mg c else mlAa a b mg c
 | _=>pure (.done (some (yk_ a b c.2.1 c.2.2.1 c.2.2.2.1),c.2.1,c.2.2.1,c.2.2.2.1,c.2.2.2.2.1,c.2.2.2.2.2))
def mlO (a b:Array Keyed) (_:Nat) (c:S0):SM (ForInStep S0):=do
 let c1 <- forIn [0:a.size+b.size] ((none,c.2.1,c.2.2.1,c.2.2.2.1,0,0):S1) (mlA a b c.2.2.2.2)
 match c1.1 with
 | some r=>pure (.done (some r,c1.2.1,c1.2.2.1,c1.2.2.2.1,c.2.2.2.2))
 | none=>do
  liftM (rule "list.sort.gallop")
  let c2 <- forIn [0:a.size+b.size] ((none,c1.2.1,c1.2.2.1,c1.2.2.2.1,c.2.2.2.2+1,c1.2.2.2.2.1,c1.2.2.2.2.2):S2) (mlB a b)
  match c2.1 with
  | some r=>pure (.done (some r,c2.2.1,c2.2.2.1,c2.2.2.2.1,c2.2.2.2.2.1))
  | none=>do
   j2_ (c2.2.2.2.2.1+1)
   pure (.yield (none,c2.2.1,c2.2.2.1,c2.2.2.2.1,c2.2.2.2.2.1+1))
def vl_:Array Keyed->Array Keyed->SM (Array Keyed):=sortPriv% PySem.Builtin.mergeLo
theorem jdn_ (a b:Array Keyed):vl_ a b=(do
 rule "list.sort.merge-lo"
 let total:=a.size+b.size
 let done (out:Array Keyed) (ia ib:Nat):=out++a.extract ia a.size++b.extract ib b.size
 let lastOfA (out:Array Keyed) (ia ib:Nat):=out++b.extract ib b.size++a.extract ia a.size
 let mut out:Array Keyed:=#[<- elem' b 0]
 let mut ia:=0
 let mut ib:=1
 if ib == b.size then return done out ia ib
 if ia+1 == a.size then return lastOfA out ia ib
 let mut minGallop:=gallopOf (<- get)
 for _ in [0:total] do
  let mut acount:=0
  let mut bcount:=0
  for _ in [0:total] do
   let some bWins <- lt' (<- elem' b ib) (<- elem' a ia) | return done out ia ib
   if bWins then
    out:=out.push (<- elem' b ib);ib:=ib+1;bcount:=bcount+1;acount:=0
    if ib == b.size then return done out ia ib
    if bcount≥minGallop then break
   else
    out:=out.push (<- elem' a ia);ia:=ia+1;acount:=acount+1;bcount:=0
    if ia+1 == a.size then return lastOfA out ia ib
    if acount≥minGallop then break
  rule "list.sort.gallop"
  minGallop:=minGallop+1
  for _ in [0:total] do
   if minGallop > 1 then minGallop:=minGallop - 1
   j2_ minGallop
   let some k <- zr_ false (<- elem' b ib) a ia (a.size - ia) 0 | return done out ia ib
   acount:=k
   if k > 0 then
    out:=out++a.extract ia (ia+k);ia:=ia+k
    if ia+1 == a.size then return lastOfA out ia ib
    if ia == a.size then return done out ia ib
   out:=out.push (<- elem' b ib);ib:=ib+1
   if ib == b.size then return done out ia ib
   let some k <- zr_ true (<- elem' a ia) b ib (b.size - ib) 0 | return done out ia ib
   bcount:=k
   if k > 0 then
    out:=out++b.extract ib (ib+k);ib:=ib+k
    if ib == b.size then return done out ia ib
   out:=out.push (<- elem' a ia);ia:=ia+1
   if ia+1 == a.size then return lastOfA out ia ib
   if acount < 7&&bcount < 7 then break
  minGallop:=minGallop+1
  j2_ minGallop
 unsupported "internal:list.sort.merge-bound"):=rfl
theorem jeb_ (a b:Array Keyed):vl_ a b=(do
  liftM (rule "list.sort.merge-lo")
  let x <- elem' b 0
  if (1 == b.size)=true then pure (yk_ a b #[x] 0 1)
  else if (0+1 == a.size)=true then pure (vq_ a b #[x] 0 1)
  else do
   let s <- get
   let c <- forIn [0:a.size+b.size] ((none,#[x],0,1,gallopOf s):S0) (mlO a b)
   match c.1 with
   | some r=>pure r
   | none=>liftM (unsupported "internal:list.sort.merge-bound")):=by
 rw[jdn_]
 refine congrArg (bind _) (funext fun _=>?_)
 refine congrArg (bind _) (funext fun x=>?_)
 dsimp only
 refine ite_congr rfl (fun _=>rfl) fun _=>?_
 refine ite_congr rfl (fun _=>rfl) fun _=>?_
 refine congrArg (bind _) (funext fun s=>?_)
 refine congr (congrArg bind ?_) (funext fun c=>?_)
 ·refine congrArg (forIn _ _) (funext fun i=>funext fun c=>?_)
  unfold mlO
  refine congr (congrArg bind ?_) (funext fun c1=>?_)
  ·refine congrArg (forIn _ _) (funext fun i=>funext fun c=>?_)
   unfold mlA
   rfl
  ·obtain⟨r1,o1,ia1,ib1,ac1,bc1⟩:=c1
   cases r1 with
   | some r=>rfl
   | none =>
    refine congrArg (bind _) (funext fun _=>?_)
    refine congr (congrArg bind ?_) (funext fun c2=>?_)
    ·refine congrArg (forIn _ _) (funext fun i=>funext fun c=>?_)
     obtain⟨r2,o2,ia2,ib2,mg2,ac2,bc2⟩:=c
     unfold mlB
     dsimp only
     refine ite_congr rfl (fun _=>?_) fun _=>?_
     ·unfold ml1
      refine congrArg (bind _) (funext fun _=>?_)
      refine congrArg (bind _) (funext fun _=>?_)
      refine congrArg (bind _) (funext fun r=>?_)
      cases r with
      | none=>rfl
      | some k =>
       dsimp only
       refine ite_congr rfl (fun _=>?_) fun _=>?_
       ·refine ite_congr rfl (fun _=>rfl) fun _=>?_
        refine ite_congr rfl (fun _=>rfl) fun _=>?_
        rfl
       ·rfl
     ·rfl
    ·obtain⟨r2,o2,ia2,ib2,mg2,ac2,bc2⟩:=c2
     cases r2 <;> rfl
 ·obtain⟨r,c⟩:=c
  cases r <;> rfl
end PyProof.Rows
set_option autoImplicit false
namespace PyProof.Rows
open PySem
section
variable {O:KeyOrd} {k:Keyed->O.α}
structure Mi (O:KeyOrd) (k:Keyed->O.α) (A B o:List Keyed) (ia ib:Nat):Prop where
 perm:(o++A.drop ia++B.drop ib).Perm (A++B)
 srt:Srt O k o
 la:∀ x∈o,∀ y∈A.drop ia,O.kle (k x) (k y)
 lb:∀ x∈o,∀ y∈B.drop ib,O.kle (k x) (k y)
def Mrg (O:KeyOrd) (k:Keyed->O.α) (A B r:List Keyed):Prop:=r.Perm (A++B)/\Srt O k r
theorem Srt.drop {l:List Keyed} (h:Srt O k l) (i:Nat):Srt O k (l.drop i):=h.sublist (List.drop_sublist i l)
theorem Srt.take {l:List Keyed} (h:Srt O k l) (i:Nat):Srt O k (l.take i):=h.sublist (List.take_sublist i l)
theorem Srt.app {l m:List Keyed} (h:Srt O k l) (h':Srt O k m) (c:∀ x∈l,∀ y∈m,O.kle (k x) (k y)):Srt O k (l++m):=re_.mpr ⟨h,h',c⟩
variable {A B o:List Keyed} {ia ib:Nat}
theorem Mi.endB (h:Mi O k A B o ia ib) (hA:Srt O k A) (he:B.length<=ib):Mrg O k A B (o++A.drop ia++B.drop ib):=by
 refine⟨h.perm,?_⟩
 rw[w5_ he,p8_]
 exact h.srt.app (hA.drop _) h.la
theorem Mi.endA (h:Mi O k A B o ia ib) (hB:Srt O k B) (he:A.length<=ia):Mrg O k A B (o++A.drop ia++B.drop ib):=by
 refine⟨h.perm,?_⟩
 rw[w5_ he,p8_]
 exact h.srt.app (hB.drop _) h.lb
theorem Mi.last (h:Mi O k A B o ia ib) (hB:Srt O k B) (hA:Srt O k A) (hl:∀ x∈A.drop (A.length - 1),∀ y∈B,O.kle (k y) (k x)) (he:ia+1=A.length):Mrg O k A B (o++B.drop ib++A.drop ia):=by
 refine⟨(ri_.trans ?_ h.perm),?_⟩
 ·rw[pp_,pp_]
  exact r0_ _ sq_
 ·refine(h.srt.app (hB.drop _) h.lb).app (hA.drop _) fun x hx y hy=>?_
  rcases pr_.mp hx with hx | hx
  ·exact h.la x hx y hy
  ·rw[show ia=A.length - 1 by omega] at hy
   exact hl y hy x (qg_ hx)
theorem Mi.blockA (h:Mi O k A B o ia ib) (hA:Srt O k A) (r:Nat) (c:∀ x∈(A.drop ia).take r,∀ y∈B.drop ib,O.kle (k x) (k y)):Mi O k A B (o++(A.drop ia).take r) (ia+r) ib:=by
 have e:A.drop (ia+r)=(A.drop ia).drop r:=by rw[to_]
 refine⟨?_,h.srt.app ((hA.drop _).take _) fun x hx y hy=>h.la x hx y (pz_ hy),fun x hx y hy=>?_,fun x hx y hy=>?_⟩
 ·rw[e,pp_ o,p1_]
  exact h.perm
 ·rw[e] at hy
  rcases pr_.mp hx with hx | hx
  ·exact h.la x hx y (qg_ hy)
  ·have:=hA.drop ia
   rw[<- p1_ r (A.drop ia)] at this
   exact(re_.mp this).2.2 x hx y hy
 ·rcases pr_.mp hx with hx | hx
  ·exact h.lb x hx y hy
  ·exact c x hx y hy
theorem Mi.blockB (h:Mi O k A B o ia ib) (hB:Srt O k B) (r:Nat) (c:∀ x∈(B.drop ib).take r,∀ y∈A.drop ia,O.kle (k x) (k y)):Mi O k A B (o++(B.drop ib).take r) ia (ib+r):=by
 have e:B.drop (ib+r)=(B.drop ib).drop r:=by rw[to_]
 refine⟨ri_.trans ?_ h.perm,h.srt.app ((hB.drop _).take _) fun x hx y hy=>h.lb x hx y (pz_ hy),fun x hx y hy=>?_,fun x hx y hy=>?_⟩
 ·rw[e]
  conv=>rhs;rw[<- p1_ r (B.drop ib)]
  rw[pp_ o,pp_ o,pp_ o]
  refine r0_ _ ?_
  rw[<- pp_]
  exact rv_ _ sq_
 ·rcases pr_.mp hx with hx | hx
  ·exact h.la x hx y hy
  ·exact c x hx y hy
 ·rw[e] at hy
  rcases pr_.mp hx with hx | hx
  ·exact h.lb x hx y (qg_ hy)
  ·have:=hB.drop ib
   rw[<- p1_ r (B.drop ib)] at this
   exact(re_.mp this).2.2 x hx y hy
theorem jbg_ {l:List Keyed} {i:Nat} {x:Keyed} (h:l[i]?=some x):(l.drop i).take 1=[x]:=by
 obtain⟨h1,rfl⟩:=ph_.mp h
 rw[sz_ h1];rfl
theorem Mi.pushA (h:Mi O k A B o ia ib) (hA:Srt O k A) {x:Keyed} (hx:A[ia]?=some x) (c:∀ y∈B.drop ib,O.kle (k x) (k y)):Mi O k A B (o++[x]) (ia+1) ib:=by
 have:=h.blockA hA 1 (by (rw[jbg_ hx];intro z hz y hy;have:z=x:=by simpa using hz);rw[this];exact c y hy)
 rw[jbg_ hx] at this
 exact this
theorem Mi.pushB (h:Mi O k A B o ia ib) (hB:Srt O k B) {x:Keyed} (hx:B[ib]?=some x) (c:∀ y∈A.drop ia,O.kle (k x) (k y)):Mi O k A B (o++[x]) ia (ib+1):=by
 have:=h.blockB hB 1 (by (rw[jbg_ hx];intro z hz y hy;have:z=x:=by simpa using hz);rw[this];exact c y hy)
 rw[jbg_ hx] at this
 exact this
theorem Srt.head {l:List Keyed} (h:Srt O k l) {i:Nat} {x:Keyed} (hx:l[i]?=some x):∀ y∈l.drop i,O.kle (k x) (k y):=fun y hy=>by
 obtain⟨j,hj,rfl⟩:=s3_ hy
 rw[p9_] at hj
 exact h.get (i:=i) (j:=i+j) (by omega) hx (by rw[wq_];exact pa_ (by omega))
end
def SSt (st st':SortSt):Prop:=kindOf st'=kindOf st/\arrOf st'=arrOf st/\pendingOf st'=pendingOf st/\failedOf st'=failedOf st
theorem SSt.refl (st:SortSt):SSt st st:=⟨rfl,rfl,rfl,rfl⟩
theorem SSt.trans {s1 s2 s3:SortSt} (h:SSt s1 s2) (h':SSt s2 s3):SSt s1 s3:=⟨h'.1.trans h.1,h'.2.1.trans h.2.1,h'.2.2.1.trans h.2.2.1,h'.2.2.2.trans h.2.2.2⟩
theorem z8_ (a b out:Array Keyed) (ia ib:Nat):(yk_ a b out ia ib).toList=out.toList++a.toList.drop ia++b.toList.drop ib:=by
 unfold yk_;simp;rw[q4_ (by simp),q4_ (by simp)]
theorem y8_ (a b out:Array Keyed) (ia ib:Nat):(vq_ a b out ia ib).toList=out.toList++b.toList.drop ib++a.toList.drop ia:=by
 unfold vq_;simp;rw[q4_ (by simp),q4_ (by simp)]
theorem jen_ (a:Array Keyed) (i r:Nat):(a.extract i (i+r)).toList=(a.toList.drop i).take r:=by
 simp[List.take_drop,k1_]
section
variable {prog:Program} {w:World} {A:Around} {E:Value->Shared->Prop} {s:Shared} {kd:SortKind} {O:KeyOrd} {ok:Keyed->Prop} {k:Keyed->O.α} {a b:Array Keyed}
structure Two (O:KeyOrd) (ok:Keyed->Prop) (k:Keyed->O.α) (a b:Array Keyed):Prop where
 oka:∀ x∈a.toList,ok x
 okb:∀ x∈b.toList,ok x
 sa:Srt O k a.toList
 sb:Srt O k b.toList
 last:∀ x∈a.toList.drop (a.toList.length - 1),∀ y∈b.toList,O.kle (k y) (k x)
 first:∀ x∈b.toList.take 1,∀ y∈a.toList,O.kle (k x) (k y)
 na:0 < a.size
 nb:0 < b.size
theorem Two.getA (h:Two O ok k a b) {i:Nat} (hi:i < a.size):∃ x,a[i]?=some x/\a.toList[i]?=some x/\ok x:=⟨a[i],r4_ hi,by simp[hi],h.oka _ (by simp)⟩
theorem Two.getB (h:Two O ok k a b) {i:Nat} (hi:i < b.size):∃ x,b[i]?=some x/\b.toList[i]?=some x/\ok x:=⟨b[i],r4_ hi,by simp[hi],h.okb _ (by simp)⟩
def lens (a:Array Keyed):a.toList.length=a.size:=by simp
def G2 (O:KeyOrd) (k:Keyed->O.α) (a b:Array Keyed) (st:SortSt) (p:Nat) (c:S2) (st':SortSt):Prop:=SSt st st' /\
 match c.1 with
 | some r=>Mrg O k a.toList b.toList r.toList
 | none=>Mi O k a.toList b.toList c.2.1.toList c.2.2.1 c.2.2.2.1/\c.2.2.1+1 < a.size/\c.2.2.2.1 < b.size/\p<=c.2.2.1+c.2.2.2.1
theorem jhf_ (T:Two O ok k a b) {st st':SortSt} (ss:SSt st st') {mg ac bc ia ib p:Nat} {out:Array Keyed} (m:Mi O k a.toList b.toList out.toList ia ib) (h1:ia+1 < a.size) (h2:ib < b.size) (hp:p<=ia+ib)
  (hx:∀ x,a.toList[ia]?=some x->∀ y∈b.toList.drop ib,O.kle (k x) (k y)) :
  wpS (model prog w) A E s (ml3 a b mg ac bc ia out ib) (fun r st'=>match r with | .done c=>G2 O k a b st (p+1) c st' | .yield c=>c.1=none/\G2 O k a b st (p+1) c st') st':=by
 unfold ml3
 obtain⟨x,e1,e2,_⟩:=T.getA (show ia < a.size by omega)
 refine wpS_bind (js_ e1 ?_)
 have m':Mi O k a.toList b.toList (out.push x).toList (ia+1) ib:=by rw[q8_];exact m.pushA T.sa e2 (hx x e2)
 by_cases c:ia+1+1=a.size
 ·rw[if_pos (by simpa using c)]
  refine wpS_pure ⟨ss,?_⟩
  show Mrg O k _ _ (vq_ a b (out.push x) (ia+1) ib).toList
  rw[y8_]
  exact m'.last T.sb T.sa T.last (by rw[lens];exact c)
 ·rw[if_neg (by simpa using c)]
  have fin:∀ mg ac bc,G2 O k a b st (p+1) (none,out.push x,ia+1,ib,mg,ac,bc) st':=fun mg ac bc=>⟨ss,m',by show ia+1+1 < a.size;omega,h2,by show p+1<=ia+1+ib;omega⟩
  split
  ·exact wpS_pure (fin _ _ _)
  ·exact wpS_pure ⟨rfl,fin _ _ _⟩
theorem jhv_ (C:Cmp prog w A E s kd O ok k) (T:Two O ok k a b) {st st':SortSt} (hk:kindOf st=kd) (ss:SSt st st') {mg ac bc ia ib p:Nat} {out:Array Keyed} (m:Mi O k a.toList b.toList out.toList ia ib) (h1:ia+1 < a.size) (h2:ib < b.size) (hp:p<=ia+ib)
  (hx:∀ x,b.toList[ib]?=some x->∀ y∈a.toList.drop ia,O.kle (k x) (k y)) :
  wpS (model prog w) A E s (ml2 a b mg ac ib bc out ia) (fun r st'=>match r with | .done c=>G2 O k a b st (p+1) c st' | .yield c=>c.1=none/\G2 O k a b st (p+1) c st') st':=by
 unfold ml2
 obtain⟨x,e1,e2,_⟩:=T.getB h2
 refine wpS_bind (js_ e1 ?_)
 have m':Mi O k a.toList b.toList (out.push x).toList ia (ib+1):=by rw[q8_];exact m.pushB T.sb e2 (hx x e2)
 by_cases c:ib+1=b.size
 ·rw[if_pos (by simpa using c)]
  refine wpS_pure ⟨ss,?_⟩
  show Mrg O k _ _ (yk_ a b (out.push x) ia (ib+1)).toList
  rw[z8_]
  exact m'.endB T.sa (by rw[lens];omega)
 ·rw[if_neg (by simpa using c)]
  obtain⟨y,f1,f2,f3⟩:=T.getA (show ia < a.size by omega)
  refine wpS_bind (js_ f1 ?_)
  refine wpS_bind (zw_ C (seg:=b.toList.drop (ib+1)) (ss.1.trans hk) f3 (fun i hi=>by rw[wb_,qi_]) (by rw[p9_,lens]) (fun z hz=>T.okb z (qg_ hz)) (T.sb.drop _) (by omega) fun r hr g1 g2=>?_)
  simp only[if_true] at g1 g2
  dsimp only
  have m2:Mi O k a.toList b.toList (out.push x++b.extract (ib+1) (ib+1+r)).toList ia (ib+1+r):=by
   rw[s4_,jen_]
   exact m'.blockB T.sb r fun z hz v hv=>p6_ (qs_ (g1 z hz)) (T.sa.head f2 v hv)
  have hy:∀ x,a.toList[ia]?=some x->∀ v∈b.toList.drop (ib+1+r),O.kle (k x) (k v):=fun x hx' v hv=>by
   rw[f2] at hx'
   cases hx'
   exact g2 v (by rw[to_];exact hv)
  split
  ·by_cases c2:ib+1+r=b.size
   ·rw[if_pos (by simpa using c2)]
    refine wpS_pure ⟨ss,?_⟩
    show Mrg O k _ _ (yk_ a b _ ia (ib+1+r)).toList
    rw[z8_]
    exact m2.endB T.sa (by rw[lens];omega)
   ·rw[if_neg (by simpa using c2)]
    exact jhf_ T ss m2 h1 (by omega) (by omega) hy
  ·have:r=0:=by omega
   subst this
   exact jhf_ T ss m' h1 (by omega) (by omega) hy
theorem jnm_ (C:Cmp prog w A E s kd O ok k) (T:Two O ok k a b) {st st':SortSt} (hk:kindOf st=kd) (ss:SSt st st') {mg ac bc ia ib p:Nat} {out:Array Keyed} (m:Mi O k a.toList b.toList out.toList ia ib) (h1:ia+1 < a.size) (h2:ib < b.size) (hp:p<=ia+ib) :
  wpS (model prog w) A E s (ml1 a b ac bc ib out ia mg) (fun r st'=>match r with | .done c=>G2 O k a b st (p+1) c st' | .yield c=>c.1=none/\G2 O k a b st (p+1) c st') st':=by
 unfold ml1
 rw[zl_]
 refine wpS_bind (wpS_modify ?_)
 have ss1:SSt st (SortSt.mk' (kindOf st') (arrOf st') (pendingOf st') mg (failedOf st')):=ss.trans ⟨rfl,rfl,rfl,rfl⟩
 generalize SortSt.mk' (kindOf st') (arrOf st') (pendingOf st') mg (failedOf st')=st1 at ss1 ⊢
 obtain⟨x,e1,e2,e3⟩:=T.getB h2
 refine wpS_bind (js_ e1 ?_)
 refine wpS_bind (zw_ C (seg:=a.toList.drop ia) (ss1.1.trans hk) e3 (fun i hi=>by rw[wb_,qi_]) (by rw[p9_,lens]) (fun z hz=>T.oka z (qg_ hz)) (T.sa.drop _) (by omega) fun r hr g1 g2=>?_)
 simp only[pi_,if_false] at g1 g2
 dsimp only
 have m2:Mi O k a.toList b.toList (out++a.extract ia (ia+r)).toList (ia+r) ib:=by
  rw[s4_,jen_]
  exact m.blockA T.sa r fun z hz v hv=>p6_ (g1 z hz) (T.sb.head e2 v hv)
 have hy:∀ x,b.toList[ib]?=some x->∀ v∈a.toList.drop (ia+r),O.kle (k x) (k v):=fun x hx' v hv=>by
  rw[e2] at hx'
  cases hx'
  exact qs_ (g2 v (by rw[to_];exact hv))
 split
 ·by_cases c:ia+r+1=a.size
  ·rw[if_pos (by simpa using c)]
   refine wpS_pure ⟨ss1,?_⟩
   show Mrg O k _ _ (vq_ a b _ (ia+r) ib).toList
   rw[y8_]
   exact m2.last T.sb T.sa T.last (by rw[lens];exact c)
  ·rw[if_neg (by simpa using c)]
   by_cases c2:ia+r=a.size
   ·rw[if_pos (by simpa using c2)]
    refine wpS_pure ⟨ss1,?_⟩
    show Mrg O k _ _ (yk_ a b _ (ia+r) ib).toList
    rw[z8_]
    exact m2.endA T.sb (by rw[lens];omega)
   ·rw[if_neg (by simpa using c2)]
    exact jhv_ C T hk ss1 m2 (by omega) h2 (by omega) hy
 ·have:r=0:=by omega
  subst this
  exact jhv_ C T hk ss1 m h1 h2 hp hy
def G1 (O:KeyOrd) (k:Keyed->O.α) (a b:Array Keyed) (st:SortSt) (p:Nat) (c:S1) (st':SortSt):Prop:=SSt st st' /\
 match c.1 with
 | some r=>Mrg O k a.toList b.toList r.toList
 | none=>Mi O k a.toList b.toList c.2.1.toList c.2.2.1 c.2.2.2.1/\c.2.2.1+1 < a.size/\c.2.2.2.1 < b.size/\p<=c.2.2.1+c.2.2.2.1
def G0 (O:KeyOrd) (k:Keyed->O.α) (a b:Array Keyed) (st:SortSt) (p:Nat) (c:S0) (st':SortSt):Prop:=SSt st st' /\
 match c.1 with
 | some r=>Mrg O k a.toList b.toList r.toList
 | none=>Mi O k a.toList b.toList c.2.1.toList c.2.2.1 c.2.2.2.1/\c.2.2.1+1 < a.size/\c.2.2.2.1 < b.size/\p<=c.2.2.1+c.2.2.2.1
theorem joo_ (C:Cmp prog w A E s kd O ok k) (T:Two O ok k a b) {st st':SortSt} (hk:kindOf st=kd) {mg i p:Nat} {c:S1} (hc:c.1=none) (g:G1 O k a b st p c st') :
  wpS (model prog w) A E s (mlA a b mg i c) (fun r st'=>match r with | .done c=>G1 O k a b st (p+1) c st' | .yield c=>c.1=none/\G1 O k a b st (p+1) c st') st':=by
 obtain⟨r0,out,ia,ib,ac,bc⟩:=c
 cases hc
 obtain⟨ss,m,h1,h2,hp⟩:=g
 dsimp only at m h1 h2 hp
 unfold mlA
 dsimp only
 obtain⟨x,e1,e2,e3⟩:=T.getB h2
 obtain⟨y,f1,f2,f3⟩:=T.getA (show ia < a.size by omega)
 refine wpS_bind (js_ e1 (wpS_bind (js_ f1 (wpS_bind (C.lt (ss.1.trans hk) e3 f3 ?_)))))
 dsimp only
 cases hw:O.blt (k x) (k y) with
 | true =>
  rw[if_pos rfl]
  unfold mlAb
  dsimp only
  refine wpS_bind (js_ e1 ?_)
  have m':Mi O k a.toList b.toList (out.push x).toList ia (ib+1):=by
   rw[q8_]
   exact m.pushB T.sb e2 fun v hv=>p6_ (qs_ hw) (T.sa.head f2 v hv)
  by_cases c:ib+1=b.size
  ·rw[if_pos (by simpa using c)]
   refine wpS_pure ⟨ss,?_⟩
   show Mrg O k _ _ (yk_ a b (out.push x) ia (ib+1)).toList
   rw[z8_]
   exact m'.endB T.sa (by rw[lens];omega)
  ·rw[if_neg (by simpa using c)]
   have fin:∀ ac bc,G1 O k a b st (p+1) (none,out.push x,ia,ib+1,ac,bc) st':=fun ac bc=>⟨ss,m',h1,by show ib+1 < b.size;omega,by show p+1<=ia+(ib+1);omega⟩
   split
   ·exact wpS_pure (fin _ _)
   ·exact wpS_pure ⟨rfl,fin _ _⟩
 | false =>
  rw[if_neg pf_]
  unfold mlAa
  dsimp only
  refine wpS_bind (js_ f1 ?_)
  have m':Mi O k a.toList b.toList (out.push y).toList (ia+1) ib:=by
   rw[q8_]
   exact m.pushA T.sa f2 fun v hv=>p6_ (show O.kle (k y) (k x) from hw) (T.sb.head e2 v hv)
  by_cases c:ia+1+1=a.size
  ·rw[if_pos (by simpa using c)]
   refine wpS_pure ⟨ss,?_⟩
   show Mrg O k _ _ (vq_ a b (out.push y) (ia+1) ib).toList
   rw[y8_]
   exact m'.last T.sb T.sa T.last (by rw[lens];exact c)
  ·rw[if_neg (by simpa using c)]
   have fin:∀ ac bc,G1 O k a b st (p+1) (none,out.push y,ia+1,ib,ac,bc) st':=fun ac bc=>⟨ss,m',by show ia+1+1 < a.size;omega,h2,by show p+1<=ia+1+ib;omega⟩
   split
   ·exact wpS_pure (fin _ _)
   ·exact wpS_pure ⟨rfl,fin _ _⟩
theorem joj_ (C:Cmp prog w A E s kd O ok k) (T:Two O ok k a b) {st st':SortSt} (hk:kindOf st=kd) {i p:Nat} {c:S0} (hc:c.1=none) (g:G0 O k a b st p c st') :
  wpS (model prog w) A E s (mlO a b i c) (fun r st'=>match r with | .done c=>(∃ r,c.1=some r)/\G0 O k a b st (p+1) c st' | .yield c=>c.1=none/\G0 O k a b st (p+1) c st') st':=by
 obtain⟨r0,out,ia,ib,mg⟩:=c
 cases hc
 obtain⟨ss,m,h1,h2,hp⟩:=g
 dsimp only at m h1 h2 hp
 unfold mlO
 dsimp only
 refine wpS_bind (wpS_mono (wpS_forRange (I:=fun t c st'=>c.1=none/\G1 O k a b st (p+t) c st') (Q:=fun c st'=>G1 O k a b st (p+1) c st') ?step ?fin ⟨rfl,ss,m,h1,h2,by show p+0<=_;omega⟩) ?post)
 case fin =>
  rintro⟨r0,out,ia,ib,ac,bc⟩ st' ⟨hc,g⟩
  cases hc
  obtain⟨_,_,g1,g2,g3⟩:=g
  dsimp only at g1 g2 g3
  omega
 case step =>
  rintro t c st' _ _ ⟨hc,g⟩
  refine wpS_mono (joo_ C T hk hc g) fun r st'' h=>?_
  cases r with
  | done c' =>
   obtain⟨h1,h2⟩:=h
   refine⟨h1,?_⟩
   obtain⟨r1,c1⟩:=c'
   cases r1 with
   | some r=>exact h2
   | none=>exact⟨h2.1,h2.2.1,h2.2.2.1,p5_ (by omega) h2.2.2.2⟩
  | yield c'=>exact h
 case post =>
  rintro⟨r1,out1,ia1,ib1,ac1,bc1⟩ st1 ⟨ss1,g⟩
  cases r1 with
  | some r=>exact wpS_pure ⟨⟨r,rfl⟩,ss1,g⟩
  | none =>
   obtain⟨m1,g1,g2,g3⟩:=g
   dsimp only at m1 g1 g2 g3 ⊢
   refine wpS_bind (wpS_lift (wpAny_rule ⟨rfl,?_⟩))
   refine wpS_bind (wpS_mono (wpS_forRange (I:=fun t c st'=>c.1=none/\G2 O k a b st (p+1+t) c st') (Q:=fun c st'=>G2 O k a b st (p+1) c st') ?step2 ?fin2 ⟨rfl,ss1,m1,g1,g2,by show p+1+0<=_;omega⟩) ?post2)
   case fin2 =>
    rintro⟨r0,out,ia,ib,mg,ac,bc⟩ st' ⟨hc,g⟩
    cases hc
    obtain⟨_,_,g1,g2,g3⟩:=g
    dsimp only at g1 g2 g3
    omega
   case step2 =>
    rintro t ⟨r0,out,ia,ib,mg,ac,bc⟩ st' _ _ ⟨hc,g⟩
    cases hc
    obtain⟨ss,m,h1,h2,hp⟩:=g
    dsimp only at m h1 h2 hp
    have fin:∀ mg,wpS (model prog w) A E s (ml1 a b ac bc ib out ia mg) (fun r st'=>match r with | .done c=>G2 O k a b st (p+1) c st' | .yield c=>c.1=none/\G2 O k a b st (p+1+(t+1)) c st') st':=fun mg=>by
     refine wpS_mono (jnm_ C T hk ss m h1 h2 hp) fun r st'' h=>?_
     cases r with
     | done c' =>
      obtain⟨h1,h2⟩:=h
      refine⟨h1,?_⟩
      obtain⟨r1,c1⟩:=c'
      cases r1 with
      | some r=>exact h2
      | none=>exact⟨h2.1,h2.2.1,h2.2.2.1,p5_ (by omega) h2.2.2.2⟩
     | yield c'=>exact h
    unfold mlB
    dsimp only
    split
    ·exact wpS_mono (fin _) fun r st h=>by cases r <;> exact h
    ·exact wpS_mono (fin _) fun r st h=>by cases r <;> exact h
   case post2 =>
    rintro⟨r2,out2,ia2,ib2,mg2,ac2,bc2⟩ st2 ⟨ss2,g⟩
    cases r2 with
    | some r=>exact wpS_pure ⟨⟨r,rfl⟩,ss2,g⟩
    | none =>
     obtain⟨m1,g1,g2,g3⟩:=g
     dsimp only at m1 g1 g2 g3 ⊢
     rw[zl_]
     exact wpS_bind (wpS_modify (wpS_pure ⟨rfl,ss2.trans ⟨rfl,rfl,rfl,rfl⟩,m1,g1,g2,g3⟩))
theorem jfa_ (C:Cmp prog w A E s kd O ok k) (T:Two O ok k a b) {st:SortSt} (hk:kindOf st=kd) {Q:Array Keyed->SortSt->Prop} (h:∀ r st',SSt st st'->Mrg O k a.toList b.toList r.toList->Q r st') :
  wpS (model prog w) A E s (vl_ a b) Q st:=by
 rw[jeb_]
 refine wpS_bind (wpS_lift (wpAny_rule ⟨rfl,?_⟩))
 obtain⟨x,e1,e2,_⟩:=T.getB T.nb
 refine wpS_bind (js_ e1 ?_)
 have m0:Mi O k a.toList b.toList (#[x]:Array Keyed).toList 0 1:=by
  have hst:Mi O k a.toList b.toList [] 0 0:=⟨by simp,sg_.nil,fun x hx=>(nomatch hx),fun x hx=>(nomatch hx)⟩
  exact hst.pushB T.sb e2 fun y hy=>T.first x (by
   have:=jbg_ e2
   rw[tp_] at this
   rw[this];simp) y (by rwa [tp_] at hy)
 by_cases c:1=b.size
 ·rw[if_pos (by simpa using c)]
  refine wpS_pure (h _ _ (SSt.refl _) ?_)
  rw[z8_]
  exact m0.endB T.sa (by rw[lens];omega)
 ·rw[if_neg (by simpa using c)]
  by_cases c2:0+1=a.size
  ·rw[if_pos (by simpa using c2)]
   refine wpS_pure (h _ _ (SSt.refl _) ?_)
   rw[y8_]
   exact m0.last T.sb T.sa T.last (by rw[lens];exact c2)
  ·rw[if_neg (by simpa using c2)]
   refine wpS_bind (wpS_get ?_)
   have nb:=T.nb
   have na:=T.na
   refine wpS_bind (wpS_mono (wpS_forRange (I:=fun t c st'=>c.1=none/\G0 O k a b st t c st') (Q:=fun c st'=>(∃ r,c.1=some r)/\∃ p,G0 O k a b st p c st') ?step ?fin ⟨rfl,SSt.refl _,m0,by show 0+1 < a.size;omega,by show 1 < b.size;omega,by show 0<=_;omega⟩) ?post)
   case fin =>
    rintro⟨r0,out,ia,ib,mg⟩ st' ⟨hc,g⟩
    cases hc
    obtain⟨_,_,g1,g2,g3⟩:=g
    dsimp only at g1 g2 g3
    omega
   case step =>
    rintro t c st' _ _ ⟨hc,g⟩
    refine wpS_mono (joj_ C T hk hc g) fun r st'' h=>?_
    cases r with
    | done c'=>exact⟨h.1,_,h.2⟩
    | yield c'=>exact h
   case post =>
    rintro⟨r,c⟩ st' ⟨⟨r',hr⟩,p,ss,g⟩
    cases hr
    exact wpS_pure (h _ _ ss g)
end
end PyProof.Rows
set_option autoImplicit false
namespace PyProof.Rows
open PySem
def vb_:Array Keyed->Array Keyed->SM (Array Keyed):=sortPriv% PySem.Builtin.mergeHi
theorem jcs_ (a b:Array Keyed):vb_ a b=(do
 rule "list.sort.merge-hi"
 let total:=a.size+b.size
 let done (out:Array Keyed) (na nb:Nat):=a.extract 0 na++b.extract 0 nb++out.reverse
 let firstOfB (out:Array Keyed) (na nb:Nat):=b.extract 0 nb++a.extract 0 na++out.reverse
 let mut na:=a.size - 1
 let mut nb:=b.size
 let mut out:Array Keyed:=#[<- elem' a na]
 if na == 0 then return done out na nb
 if nb == 1 then return firstOfB out na nb
 let mut minGallop:=gallopOf (<- get)
 for _ in [0:total] do
  let mut acount:=0
  let mut bcount:=0
  for _ in [0:total] do
   let some aWins <- lt' (<- elem' b (nb - 1)) (<- elem' a (na - 1)) | return done out na nb
   if aWins then
    na:=na - 1;out:=out.push (<- elem' a na);acount:=acount+1;bcount:=0
    if na == 0 then return done out na nb
    if acount≥minGallop then break
   else
    nb:=nb - 1;out:=out.push (<- elem' b nb);bcount:=bcount+1;acount:=0
    if nb == 1 then return firstOfB out na nb
    if bcount≥minGallop then break
  rule "list.sort.gallop"
  minGallop:=minGallop+1
  for _ in [0:total] do
   if minGallop > 1 then minGallop:=minGallop - 1
   j2_ minGallop
   let some at_ <- zr_ false (<- elem' b (nb - 1)) a 0 na (na - 1) | return done out na nb
   let k:=na - at_
   acount:=k
   if k > 0 then
    out:=out++(a.extract at_ na).reverse;na:=at_
    if na == 0 then return done out na nb
   nb:=nb - 1;out:=out.push (<- elem' b nb)
   if nb == 1 then return firstOfB out na nb
   let some at_ <- zr_ true (<- elem' a (na - 1)) b 0 nb (nb - 1) | return done out na nb
   let k:=nb - at_
   bcount:=k
   if k > 0 then
    out:=out++(b.extract at_ nb).reverse;nb:=at_
    if nb == 1 then return firstOfB out na nb
    if nb == 0 then return done out na nb
   na:=na - 1;out:=out.push (<- elem' a na)
   if na == 0 then return done out na nb
   if acount < 7&&bcount < 7 then break
  minGallop:=minGallop+1
  j2_ minGallop
 unsupported "internal:list.sort.merge-bound"):=rfl
abbrev R2:=Option (Array Keyed)×Nat×Nat×Array Keyed×Nat×Nat×Nat
abbrev R1:=Option (Array Keyed)×Nat×Nat×Array Keyed×Nat×Nat
abbrev R0:=Option (Array Keyed)×Nat×Nat×Array Keyed×Nat
def ym_ (a b out:Array Keyed) (na nb:Nat):Array Keyed:=a.extract 0 na++b.extract 0 nb++out.reverse
def xa_ (a b out:Array Keyed) (na nb:Nat):Array Keyed:=b.extract 0 nb++a.extract 0 na++out.reverse
def mh3 (a b:Array Keyed) (mg ac bc na nb:Nat) (out:Array Keyed):SM (ForInStep R2):=do
 let x <- elem' a (na - 1)
 if (na - 1 == 0)=true then pure (.done (some (ym_ a b (out.push x) (na - 1) nb),na - 1,nb,out.push x,mg,ac,bc))
 else if (decide (ac < 7)&&decide (bc < 7))=true then pure (.done (none,na - 1,nb,out.push x,mg,ac,bc)) else pure (.yield (none,na - 1,nb,out.push x,mg,ac,bc))
def mh2 (a b:Array Keyed) (mg ac nb bc na:Nat) (out:Array Keyed):SM (ForInStep R2):=do
 let x <- elem' b (nb - 1)
 if (nb - 1 == 1)=true then pure (.done (some (xa_ a b (out.push x) na (nb - 1)),na,nb - 1,out.push x,mg,ac,bc))
 else do
  let y <- elem' a (na - 1)
  let r <- zr_ true y b 0 (nb - 1) (nb - 1 - 1)
  match r with
  | some k=>if nb - 1 - k > 0 then (if (k == 1)=true then pure (.done (some (xa_ a b (out.push x++(b.extract k (nb - 1)).reverse) na k),na,k,out.push x++(b.extract k (nb - 1)).reverse,mg,ac,nb - 1 - k))
    else if (k == 0)=true then pure (.done (some (ym_ a b (out.push x++(b.extract k (nb - 1)).reverse) na k),na,k,out.push x++(b.extract k (nb - 1)).reverse,mg,ac,nb - 1 - k))
    else mh3 a b mg ac (nb - 1 - k) na k (out.push x++(b.extract k (nb - 1)).reverse)) else mh3 a b mg ac (nb - 1 - k) na (nb - 1) (out.push x)
  | _=>pure (.done (some (ym_ a b (out.push x) na (nb - 1)),na,nb - 1,out.push x,mg,ac,bc))
def mh1 (a b:Array Keyed) (ac bc nb:Nat) (out:Array Keyed) (na mg:Nat):SM (ForInStep R2):=do
 j2_ mg
 let x <- elem' b (nb - 1)
 let r <- zr_ false x a 0 na (na - 1)
 match r with
 | some k=>if na - k > 0 then (if (k == 0)=true then pure (.done (some (ym_ a b (out++(a.extract k na).reverse) k nb),k,nb,out++(a.extract k na).reverse,mg,na - k,bc))
   else mh2 a b mg (na - k) nb bc k (out++(a.extract k na).reverse)) else mh2 a b mg (na - k) nb bc na out
 | _=>pure (.done (some (ym_ a b out na nb),na,nb,out,mg,ac,bc))
def mhB (a b:Array Keyed) (_:Nat) (c:R2):SM (ForInStep R2) :=
 if c.2.2.2.2.1 > 1 then mh1 a b c.2.2.2.2.2.1 c.2.2.2.2.2.2 c.2.2.1 c.2.2.2.1 c.2.1 (c.2.2.2.2.1 - 1) else mh1 a b c.2.2.2.2.2.1 c.2.2.2.2.2.2 c.2.2.1 c.2.2.2.1 c.2.1 c.2.2.2.2.1
def mhAa (a b:Array Keyed) (mg:Nat) (c:R1):SM (ForInStep R1):=do
 let x <- elem' a (c.2.1 - 1)
 if (c.2.1 - 1 == 0)=true then pure (.done (some (ym_ a b (c.2.2.2.1.push x) (c.2.1 - 1) c.2.2.1),c.2.1 - 1,c.2.2.1,c.2.2.2.1.push x,c.2.2.2.2.1+1,0))
 else if c.2.2.2.2.1+1≥mg then pure (.done (none,c.2.1 - 1,c.2.2.1,c.2.2.2.1.push x,c.2.2.2.2.1+1,0)) else pure (.yield (none,c.2.1 - 1,c.2.2.1,c.2.2.2.1.push x,c.2.2.2.2.1+1,0))
def mhAb (a b:Array Keyed) (mg:Nat) (c:R1):SM (ForInStep R1):=do
 let x <- elem' b (c.2.2.1 - 1)
 if (c.2.2.1 - 1 == 1)=true then pure (.done (some (xa_ a b (c.2.2.2.1.push x) c.2.1 (c.2.2.1 - 1)),c.2.1,c.2.2.1 - 1,c.2.2.2.1.push x,0,c.2.2.2.2.2+1))
 else if c.2.2.2.2.2+1≥mg then pure (.done (none,c.2.1,c.2.2.1 - 1,c.2.2.2.1.push x,0,c.2.2.2.2.2+1)) else pure (.yield (none,c.2.1,c.2.2.1 - 1,c.2.2.2.1.push x,0,c.2.2.2.2.2+1))
def mhA (a b:Array Keyed) (mg:Nat) (_:Nat) (c:R1):SM (ForInStep R1):=do
 let x <- elem' b (c.2.2.1 - 1)
 let y <- elem' a (c.2.1 - 1)
 let r <- lt' x y
 match r with
 | some w=>if w=true then mhAa a b mg c else mhAb a b mg c
 | _=>pure (.done (some (ym_ a b c.2.2.2.1 c.2.1 c.2.2.1),c.2.1,c.2.2.1,c.2.2.2.1,c.2.2.2.2.1,c.2.2.2.2.2))
def mhO (a b:Array Keyed) (_:Nat) (c:R0):SM (ForInStep R0):=do
 let c1 <- forIn [0:a.size+b.size] ((none,c.2.1,c.2.2.1,c.2.2.2.1,0,0):R1) (mhA a b c.2.2.2.2)
 match c1.1 with
 | some r=>pure (.done (some r,c1.2.1,c1.2.2.1,c1.2.2.2.1,c.2.2.2.2))
 | none=>do
  liftM (rule "list.sort.gallop")
  let c2 <- forIn [0:a.size+b.size] ((none,c1.2.1,c1.2.2.1,c1.2.2.2.1,c.2.2.2.2+1,c1.2.2.2.2.1,c1.2.2.2.2.2):R2) (mhB a b)
  match c2.1 with
  | some r=>pure (.done (some r,c2.2.1,c2.2.2.1,c2.2.2.2.1,c2.2.2.2.2.1))
  | none=>do
   j2_ (c2.2.2.2.2.1+1)
   pure (.yield (none,c2.2.1,c2.2.2.1,c2.2.2.2.1,c2.2.2.2.2.1+1))
theorem jer_ (a b:Array Keyed):vb_ a b=(do
  liftM (rule "list.sort.merge-hi")
  let x <- elem' a (a.size - 1)
  if (a.size - 1 == 0)=true then pure (ym_ a b #[x] (a.size - 1) b.size)
  else if (b.size == 1)=true then pure (xa_ a b #[x] (a.size - 1) b.size)
  else do
   let s <- get
   let c <- forIn [0:a.size+b.size] ((none,a.size - 1,b.size,#[x],gallopOf s):R0) (mhO a b)
   match c.1 with
   | some r=>pure r
   | none=>liftM (unsupported "internal:list.sort.merge-bound")):=by
 rw[jcs_]
 refine congrArg (bind _) (funext fun _=>?_)
 refine congrArg (bind _) (funext fun x=>?_)
 dsimp only
 refine ite_congr rfl (fun _=>rfl) fun _=>?_
 refine ite_congr rfl (fun _=>rfl) fun _=>?_
 refine congrArg (bind _) (funext fun s=>?_)
 refine congr (congrArg bind ?_) (funext fun c=>?_)
 ·refine congrArg (forIn _ _) (funext fun i=>funext fun c=>?_)
  unfold mhO
  refine congr (congrArg bind ?_) (funext fun c1=>?_)
  ·refine congrArg (forIn _ _) (funext fun i=>funext fun c=>?_)
   unfold mhA
   rfl
  ·obtain⟨r1,na1,nb1,o1,ac1,bc1⟩:=c1
   cases r1 with
   | some r=>rfl
   | none =>
    refine congrArg (bind _) (funext fun _=>?_)
    refine congr (congrArg bind ?_) (funext fun c2=>?_)
    ·refine congrArg (forIn _ _) (funext fun i=>funext fun c=>?_)
     obtain⟨r2,na2,nb2,o2,mg2,ac2,bc2⟩:=c
     unfold mhB
     dsimp only
     refine ite_congr rfl (fun _=>?_) fun _=>?_
     ·unfold mh1
      refine congrArg (bind _) (funext fun _=>?_)
      refine congrArg (bind _) (funext fun _=>?_)
      refine congrArg (bind _) (funext fun r=>?_)
      cases r with
      | none=>rfl
      | some k =>
       dsimp only
       refine ite_congr rfl (fun _=>?_) fun _=>?_
       ·refine ite_congr rfl (fun _=>rfl) fun _=>?_
        rfl
       ·rfl
     ·rfl
    ·obtain⟨r2,na2,nb2,o2,mg2,ac2,bc2⟩:=c2
     cases r2 <;> rfl
 ·obtain⟨r,c⟩:=c
  cases r <;> rfl
end PyProof.Rows
set_option autoImplicit false
namespace PyProof.Rows
open PySem
section
variable {O:KeyOrd} {k:Keyed->O.α}
structure Mh (O:KeyOrd) (k:Keyed->O.α) (A B o:List Keyed) (na nb:Nat):Prop where
 perm:(A.take na++B.take nb++o.reverse).Perm (A++B)
 srt:Srt O k o.reverse
 la:∀ x∈A.take na,∀ y∈o,O.kle (k x) (k y)
 lb:∀ x∈B.take nb,∀ y∈o,O.kle (k x) (k y)
variable {A B o:List Keyed} {na nb:Nat}
theorem Mh.endA (h:Mh O k A B o na nb) (hB:Srt O k B) (he:na=0):Mrg O k A B (A.take na++B.take nb++o.reverse):=by
 refine⟨h.perm,?_⟩
 rw[he,wj_,ta_]
 exact(hB.take _).app h.srt fun x hx y hy=>h.lb x hx y (by simpa using hy)
theorem Mh.endB (h:Mh O k A B o na nb) (hA:Srt O k A) (he:nb=0):Mrg O k A B (A.take na++B.take nb++o.reverse):=by
 refine⟨h.perm,?_⟩
 rw[he,wj_,p8_]
 exact(hA.take _).app h.srt fun x hx y hy=>h.la x hx y (by simpa using hy)
theorem Mh.first (h:Mh O k A B o na nb) (hB:Srt O k B) (hA:Srt O k A) (hf:∀ x∈B.take 1,∀ y∈A,O.kle (k x) (k y)) (he:nb=1):Mrg O k A B (B.take nb++A.take na++o.reverse):=by
 refine⟨ri_.trans (rv_ _ sq_) h.perm,?_⟩
 refine((hB.take _).app (hA.take _) fun x hx y hy=>?_).app h.srt fun x hx y hy=>?_
 ·rw[he] at hx
  exact hf x hx y (pz_ hy)
 ·have hy:y∈o:=by simpa using hy
  rcases pr_.mp hx with hx | hx
  ·exact h.lb x hx y hy
  ·exact h.la x hx y hy
theorem Mh.blockA (h:Mh O k A B o na nb) (hA:Srt O k A) {r:Nat} (hr:r<=na) (c:∀ x∈(A.take na).drop r,∀ y∈B.take nb,O.kle (k y) (k x)):Mh O k A B (o++((A.take na).drop r).reverse) r nb:=by
 have e:A.take na=A.take r++(A.take na).drop r:=by
  have:=p1_ r (A.take na)
  rw[tq_,rc_ hr] at this
  exact this.symm
 have erev:(o++((A.take na).drop r).reverse).reverse=(A.take na).drop r++o.reverse:=by rw[List.reverse_append,kl_]
 refine⟨ri_.trans ?_ h.perm,?_,fun x hx y hy=>?_,fun x hx y hy=>?_⟩
 ·rw[erev]
  conv=>rhs;rw[e]
  rw[pp_,pp_,pp_]
  refine r0_ _ ?_
  rw[<- pp_,<- pp_]
  exact rv_ _ sq_
 ·rw[erev]
  exact((hA.take _).drop _).app h.srt fun x hx y hy=>h.la x (qg_ hx) y (by simpa using hy)
 ·rcases pr_.mp hy with hy | hy
  ·exact h.la x (by rw[e];exact qq_ _ hx) y hy
  ·have:=hA.take na
   rw[e] at this
   exact(re_.mp this).2.2 x hx y (by simpa using hy)
 ·rcases pr_.mp hy with hy | hy
  ·exact h.lb x hx y hy
  ·exact c y (by simpa using hy) x hx
theorem Mh.blockB (h:Mh O k A B o na nb) (hB:Srt O k B) {r:Nat} (hr:r<=nb) (c:∀ x∈(B.take nb).drop r,∀ y∈A.take na,O.kle (k y) (k x)):Mh O k A B (o++((B.take nb).drop r).reverse) na r:=by
 have e:B.take nb=B.take r++(B.take nb).drop r:=by
  have:=p1_ r (B.take nb)
  rw[tq_,rc_ hr] at this
  exact this.symm
 have erev:(o++((B.take nb).drop r).reverse).reverse=(B.take nb).drop r++o.reverse:=by rw[List.reverse_append,kl_]
 refine⟨?_,?_,fun x hx y hy=>?_,fun x hx y hy=>?_⟩
 ·rw[erev]
  have:=h.perm
  rw[e] at this
  simp only[pp_] at this ⊢
  exact this
 ·rw[erev]
  exact((hB.take _).drop _).app h.srt fun x hx y hy=>h.lb x (qg_ hx) y (by simpa using hy)
 ·rcases pr_.mp hy with hy | hy
  ·exact h.la x hx y hy
  ·exact c y (by simpa using hy) x hx
 ·rcases pr_.mp hy with hy | hy
  ·exact h.lb x (by rw[e];exact qq_ _ hx) y hy
  ·have:=hB.take nb
   rw[e] at this
   exact(re_.mp this).2.2 x hx y (by simpa using hy)
theorem jbw_ {l:List Keyed} {n:Nat} {x:Keyed} (hn:0 < n) (h:l[n - 1]?=some x):(l.take n).drop (n - 1)=[x]:=by
 obtain⟨h1,rfl⟩:=ph_.mp h
 rw[List.drop_take,sz_ h1,show n - (n - 1)=1 by omega];rfl
theorem Mh.pushA (h:Mh O k A B o na nb) (hA:Srt O k A) (hn:0 < na) {x:Keyed} (hx:A[na - 1]?=some x) (c:∀ y∈B.take nb,O.kle (k y) (k x)):Mh O k A B (o++[x]) (na - 1) nb:=by
 have:=h.blockA hA (r:=na - 1) (by omega) (by (rw[jbw_ hn hx];intro z hz y hy;have:z=x:=by simpa using hz);rw[this];exact c y hy)
 rw[jbw_ hn hx] at this
 exact this
theorem Mh.pushB (h:Mh O k A B o na nb) (hB:Srt O k B) (hn:0 < nb) {x:Keyed} (hx:B[nb - 1]?=some x) (c:∀ y∈A.take na,O.kle (k y) (k x)):Mh O k A B (o++[x]) na (nb - 1):=by
 have:=h.blockB hB (r:=nb - 1) (by omega) (by (rw[jbw_ hn hx];intro z hz y hy;have:z=x:=by simpa using hz);rw[this];exact c y hy)
 rw[jbw_ hn hx] at this
 exact this
theorem Srt.tail {l:List Keyed} (h:Srt O k l) {n:Nat} (hn:0 < n) {x:Keyed} (hx:l[n - 1]?=some x):∀ y∈l.take n,O.kle (k y) (k x):=fun y hy=>by
 obtain⟨j,hj,rfl⟩:=s3_ hy
 rw[pq_] at hj
 exact h.get (i:=j) (j:=n - 1) (by omega) (by rw[wp_];exact pa_ (by omega)) hx
end
theorem yb_ (a b out:Array Keyed) (na nb:Nat):(ym_ a b out na nb).toList=a.toList.take na++b.toList.take nb++out.toList.reverse:=by
 unfold ym_;simp
theorem yq_ (a b out:Array Keyed) (na nb:Nat):(xa_ a b out na nb).toList=b.toList.take nb++a.toList.take na++out.toList.reverse:=by
 unfold xa_;simp
theorem jbf_ (a:Array Keyed) (i j:Nat):(a.extract i j).reverse.toList=((a.toList.take j).drop i).reverse:=by
 simp[List.drop_take]
section
variable {prog:Program} {w:World} {A:Around} {E:Value->Shared->Prop} {s:Shared} {kd:SortKind} {O:KeyOrd} {ok:Keyed->Prop} {k:Keyed->O.α} {a b:Array Keyed}
def J2 (O:KeyOrd) (k:Keyed->O.α) (a b:Array Keyed) (st:SortSt) (p:Nat) (c:R2) (st':SortSt):Prop:=SSt st st' /\
 match c.1 with
 | some r=>Mrg O k a.toList b.toList r.toList
 | none=>Mh O k a.toList b.toList c.2.2.2.1.toList c.2.1 c.2.2.1/\(0 < c.2.1/\c.2.1<=a.size)/\(1 < c.2.2.1/\c.2.2.1<=b.size)/\p+(c.2.1+c.2.2.1)<=a.size+b.size
def J1 (O:KeyOrd) (k:Keyed->O.α) (a b:Array Keyed) (st:SortSt) (p:Nat) (c:R1) (st':SortSt):Prop:=SSt st st' /\
 match c.1 with
 | some r=>Mrg O k a.toList b.toList r.toList
 | none=>Mh O k a.toList b.toList c.2.2.2.1.toList c.2.1 c.2.2.1/\(0 < c.2.1/\c.2.1<=a.size)/\(1 < c.2.2.1/\c.2.2.1<=b.size)/\p+(c.2.1+c.2.2.1)<=a.size+b.size
def J0 (O:KeyOrd) (k:Keyed->O.α) (a b:Array Keyed) (st:SortSt) (p:Nat) (c:R0) (st':SortSt):Prop:=SSt st st' /\
 match c.1 with
 | some r=>Mrg O k a.toList b.toList r.toList
 | none=>Mh O k a.toList b.toList c.2.2.2.1.toList c.2.1 c.2.2.1/\(0 < c.2.1/\c.2.1<=a.size)/\(1 < c.2.2.1/\c.2.2.1<=b.size)/\p+(c.2.1+c.2.2.1)<=a.size+b.size
theorem jht_ (T:Two O ok k a b) {st st':SortSt} (ss:SSt st st') {mg ac bc na nb p:Nat} {out:Array Keyed} (m:Mh O k a.toList b.toList out.toList na nb) (h1:0 < na/\na<=a.size) (h2:1 < nb/\nb<=b.size) (hp:p+(na+nb)<=a.size+b.size)
  (hx:∀ x,a.toList[na - 1]?=some x->∀ y∈b.toList.take nb,O.kle (k y) (k x)) :
  wpS (model prog w) A E s (mh3 a b mg ac bc na nb out) (fun r st'=>match r with | .done c=>J2 O k a b st (p+1) c st' | .yield c=>c.1=none/\J2 O k a b st (p+1) c st') st':=by
 unfold mh3
 obtain⟨x,e1,e2,_⟩:=T.getA (show na - 1 < a.size by omega)
 refine wpS_bind (js_ e1 ?_)
 have m':Mh O k a.toList b.toList (out.push x).toList (na - 1) nb:=by rw[q8_];exact m.pushA T.sa h1.1 e2 (hx x e2)
 by_cases c:na - 1=0
 ·rw[if_pos (by simpa using c)]
  refine wpS_pure ⟨ss,?_⟩
  show Mrg O k _ _ (ym_ a b (out.push x) (na - 1) nb).toList
  rw[yb_]
  exact m'.endA T.sb c
 ·rw[if_neg (by simpa using c)]
  have fin:∀ mg ac bc,J2 O k a b st (p+1) (none,na - 1,nb,out.push x,mg,ac,bc) st':=fun mg ac bc=>⟨ss,m',⟨by show 0 < na - 1;omega,by show na - 1<=a.size;omega⟩,h2,by show p+1+(na - 1+nb)<=_;omega⟩
  split
  ·exact wpS_pure (fin _ _ _)
  ·exact wpS_pure ⟨rfl,fin _ _ _⟩
theorem jhg_ (C:Cmp prog w A E s kd O ok k) (T:Two O ok k a b) {st st':SortSt} (hk:kindOf st=kd) (ss:SSt st st') {mg ac bc na nb p:Nat} {out:Array Keyed} (m:Mh O k a.toList b.toList out.toList na nb) (h1:0 < na/\na<=a.size) (h2:1 < nb/\nb<=b.size) (hp:p+(na+nb)<=a.size+b.size)
  (hx:∀ x,b.toList[nb - 1]?=some x->∀ y∈a.toList.take na,O.kle (k y) (k x)) :
  wpS (model prog w) A E s (mh2 a b mg ac nb bc na out) (fun r st'=>match r with | .done c=>J2 O k a b st (p+1) c st' | .yield c=>c.1=none/\J2 O k a b st (p+1) c st') st':=by
 unfold mh2
 obtain⟨x,e1,e2,_⟩:=T.getB (show nb - 1 < b.size by omega)
 refine wpS_bind (js_ e1 ?_)
 have m':Mh O k a.toList b.toList (out.push x).toList na (nb - 1):=by rw[q8_];exact m.pushB T.sb (by omega) e2 (hx x e2)
 by_cases c:nb - 1=1
 ·rw[if_pos (by simpa using c)]
  refine wpS_pure ⟨ss,?_⟩
  show Mrg O k _ _ (xa_ a b (out.push x) na (nb - 1)).toList
  rw[yq_]
  exact m'.first T.sb T.sa T.first c
 ·rw[if_neg (by simpa using c)]
  obtain⟨y,f1,f2,f3⟩:=T.getA (show na - 1 < a.size by omega)
  refine wpS_bind (js_ f1 ?_)
  refine wpS_bind (zw_ C (seg:=b.toList.take (nb - 1)) (ss.1.trans hk) f3 (fun i hi=>by rw[ke_,rj_ hi,qi_]) (by rw[pq_,lens];omega) (fun z hz=>T.okb z (pz_ hz)) (T.sb.take _) (by omega) fun r hr g1 g2=>?_)
  simp only[if_true] at g1 g2
  dsimp only
  have m2:Mh O k a.toList b.toList (out.push x++(b.extract r (nb - 1)).reverse).toList na r:=by
   rw[s4_,jbf_]
   exact m'.blockB T.sb hr fun z hz v hv=>p6_ (T.sa.tail h1.1 f2 v hv) (g2 z hz)
  have hy:∀ x,a.toList[na - 1]?=some x->∀ v∈b.toList.take r,O.kle (k v) (k x):=fun x hx' v hv=>by
   rw[f2] at hx'
   cases hx'
   exact qs_ (g1 v (by rw[tq_,rc_ hr];exact hv))
  split
  ·by_cases c2:r=1
   ·rw[if_pos (by simpa using c2)]
    refine wpS_pure ⟨ss,?_⟩
    show Mrg O k _ _ (xa_ a b _ na r).toList
    rw[yq_]
    exact m2.first T.sb T.sa T.first c2
   ·rw[if_neg (by simpa using c2)]
    by_cases c3:r=0
    ·rw[if_pos (by simpa using c3)]
     refine wpS_pure ⟨ss,?_⟩
     show Mrg O k _ _ (ym_ a b _ na r).toList
     rw[yb_]
     exact m2.endB T.sa c3
    ·rw[if_neg (by simpa using c3)]
     exact jht_ T ss m2 h1 ⟨by omega,by omega⟩ (by omega) hy
  ·have:r=nb - 1:=by omega
   subst this
   exact jht_ T ss m' h1 ⟨by omega,by omega⟩ (by omega) hy
theorem jow_ (C:Cmp prog w A E s kd O ok k) (T:Two O ok k a b) {st st':SortSt} (hk:kindOf st=kd) (ss:SSt st st') {mg ac bc na nb p:Nat} {out:Array Keyed} (m:Mh O k a.toList b.toList out.toList na nb) (h1:0 < na/\na<=a.size) (h2:1 < nb/\nb<=b.size) (hp:p+(na+nb)<=a.size+b.size) :
  wpS (model prog w) A E s (mh1 a b ac bc nb out na mg) (fun r st'=>match r with | .done c=>J2 O k a b st (p+1) c st' | .yield c=>c.1=none/\J2 O k a b st (p+1) c st') st':=by
 unfold mh1
 rw[zl_]
 refine wpS_bind (wpS_modify ?_)
 have ss1:SSt st (SortSt.mk' (kindOf st') (arrOf st') (pendingOf st') mg (failedOf st')):=ss.trans ⟨rfl,rfl,rfl,rfl⟩
 generalize SortSt.mk' (kindOf st') (arrOf st') (pendingOf st') mg (failedOf st')=st1 at ss1 ⊢
 obtain⟨x,e1,e2,e3⟩:=T.getB (show nb - 1 < b.size by omega)
 refine wpS_bind (js_ e1 ?_)
 refine wpS_bind (zw_ C (seg:=a.toList.take na) (ss1.1.trans hk) e3 (fun i hi=>by rw[ke_,rj_ hi,qi_]) (by rw[pq_,lens];omega) (fun z hz=>T.oka z (pz_ hz)) (T.sa.take _) (by omega) fun r hr g1 g2=>?_)
 simp only[pi_,if_false] at g1 g2
 dsimp only
 have m2:Mh O k a.toList b.toList (out++(a.extract r na).reverse).toList r nb:=by
  rw[s4_,jbf_]
  exact m.blockA T.sa hr fun z hz v hv=>p6_ (T.sb.tail (by omega) e2 v hv) (qs_ (g2 z hz))
 have hy:∀ x,b.toList[nb - 1]?=some x->∀ v∈a.toList.take r,O.kle (k v) (k x):=fun x hx' v hv=>by
  rw[e2] at hx'
  cases hx'
  exact g1 v (by rw[tq_,rc_ hr];exact hv)
 split
 ·by_cases c:r=0
  ·rw[if_pos (by simpa using c)]
   refine wpS_pure ⟨ss1,?_⟩
   show Mrg O k _ _ (ym_ a b _ r nb).toList
   rw[yb_]
   exact m2.endA T.sb c
  ·rw[if_neg (by simpa using c)]
   exact jhg_ C T hk ss1 m2 ⟨by omega,by omega⟩ h2 (by omega) hy
 ·have:r=na:=by omega
  subst this
  exact jhg_ C T hk ss1 m h1 h2 hp hy
theorem jof_ (C:Cmp prog w A E s kd O ok k) (T:Two O ok k a b) {st st':SortSt} (hk:kindOf st=kd) {mg i p:Nat} {c:R1} (hc:c.1=none) (g:J1 O k a b st p c st') :
  wpS (model prog w) A E s (mhA a b mg i c) (fun r st'=>match r with | .done c=>J1 O k a b st (p+1) c st' | .yield c=>c.1=none/\J1 O k a b st (p+1) c st') st':=by
 obtain⟨r0,na,nb,out,ac,bc⟩:=c
 cases hc
 obtain⟨ss,m,h1,h2,hp⟩:=g
 dsimp only at m h1 h2 hp
 unfold mhA
 dsimp only
 obtain⟨x,e1,e2,e3⟩:=T.getB (show nb - 1 < b.size by omega)
 obtain⟨y,f1,f2,f3⟩:=T.getA (show na - 1 < a.size by omega)
 refine wpS_bind (js_ e1 (wpS_bind (js_ f1 (wpS_bind (C.lt (ss.1.trans hk) e3 f3 ?_)))))
 dsimp only
 cases hw:O.blt (k x) (k y) with
 | true =>
  rw[if_pos rfl]
  unfold mhAa
  dsimp only
  refine wpS_bind (js_ f1 ?_)
  have m':Mh O k a.toList b.toList (out.push y).toList (na - 1) nb:=by
   rw[q8_]
   exact m.pushA T.sa h1.1 f2 fun v hv=>p6_ (T.sb.tail (by omega) e2 v hv) (qs_ hw)
  by_cases c:na - 1=0
  ·rw[if_pos (by simpa using c)]
   refine wpS_pure ⟨ss,?_⟩
   show Mrg O k _ _ (ym_ a b (out.push y) (na - 1) nb).toList
   rw[yb_]
   exact m'.endA T.sb c
  ·rw[if_neg (by simpa using c)]
   have fin:∀ ac bc,J1 O k a b st (p+1) (none,na - 1,nb,out.push y,ac,bc) st':=fun ac bc=>⟨ss,m',⟨by show 0 < na - 1;omega,by show na - 1<=a.size;omega⟩,h2,by show p+1+(na - 1+nb)<=_;omega⟩
   split
   ·exact wpS_pure (fin _ _)
   ·exact wpS_pure ⟨rfl,fin _ _⟩
 | false =>
  rw[if_neg pf_]
  unfold mhAb
  dsimp only
  refine wpS_bind (js_ e1 ?_)
  have m':Mh O k a.toList b.toList (out.push x).toList na (nb - 1):=by
   rw[q8_]
   exact m.pushB T.sb (by omega) e2 fun v hv=>p6_ (T.sa.tail h1.1 f2 v hv) (show O.kle (k y) (k x) from hw)
  by_cases c:nb - 1=1
  ·rw[if_pos (by simpa using c)]
   refine wpS_pure ⟨ss,?_⟩
   show Mrg O k _ _ (xa_ a b (out.push x) na (nb - 1)).toList
   rw[yq_]
   exact m'.first T.sb T.sa T.first c
  ·rw[if_neg (by simpa using c)]
   have fin:∀ ac bc,J1 O k a b st (p+1) (none,na,nb - 1,out.push x,ac,bc) st':=fun ac bc=>⟨ss,m',h1,⟨by show 1 < nb - 1;omega,by show nb - 1<=b.size;omega⟩,by show p+1+(na+(nb - 1))<=_;omega⟩
   split
   ·exact wpS_pure (fin _ _)
   ·exact wpS_pure ⟨rfl,fin _ _⟩
theorem jnl_ (C:Cmp prog w A E s kd O ok k) (T:Two O ok k a b) {st st':SortSt} (hk:kindOf st=kd) {i p:Nat} {c:R0} (hc:c.1=none) (g:J0 O k a b st p c st') :
  wpS (model prog w) A E s (mhO a b i c) (fun r st'=>match r with | .done c=>(∃ r,c.1=some r)/\J0 O k a b st (p+1) c st' | .yield c=>c.1=none/\J0 O k a b st (p+1) c st') st':=by
 obtain⟨r0,na,nb,out,mg⟩:=c
 cases hc
 obtain⟨ss,m,h1,h2,hp⟩:=g
 dsimp only at m h1 h2 hp
 unfold mhO
 dsimp only
 refine wpS_bind (wpS_mono (wpS_forRange (I:=fun t c st'=>c.1=none/\J1 O k a b st (p+t) c st') (Q:=fun c st'=>J1 O k a b st (p+1) c st') ?step ?fin ⟨rfl,ss,m,h1,h2,by show p+0+_<=_;omega⟩) ?post)
 case fin =>
  rintro⟨r0,na,nb,out,ac,bc⟩ st' ⟨hc,g⟩
  cases hc
  obtain⟨_,_,g1,g2,g3⟩:=g
  dsimp only at g1 g2 g3
  omega
 case step =>
  rintro t c st' _ _ ⟨hc,g⟩
  refine wpS_mono (jof_ C T hk hc g) fun r st'' h=>?_
  cases r with
  | done c' =>
   obtain⟨h1,h2⟩:=h
   refine⟨h1,?_⟩
   obtain⟨r1,c1⟩:=c'
   cases r1 with
   | some r=>exact h2
   | none=>exact⟨h2.1,h2.2.1,h2.2.2.1,p5_ (by omega) h2.2.2.2⟩
  | yield c'=>exact h
 case post =>
  rintro⟨r1,na1,nb1,out1,ac1,bc1⟩ st1 ⟨ss1,g⟩
  cases r1 with
  | some r=>exact wpS_pure ⟨⟨r,rfl⟩,ss1,g⟩
  | none =>
   obtain⟨m1,g1,g2,g3⟩:=g
   dsimp only at m1 g1 g2 g3 ⊢
   refine wpS_bind (wpS_lift (wpAny_rule ⟨rfl,?_⟩))
   refine wpS_bind (wpS_mono (wpS_forRange (I:=fun t c st'=>c.1=none/\J2 O k a b st (p+1+t) c st') (Q:=fun c st'=>J2 O k a b st (p+1) c st') ?step2 ?fin2 ⟨rfl,ss1,m1,g1,g2,by show p+1+0+_<=_;omega⟩) ?post2)
   case fin2 =>
    rintro⟨r0,na,nb,out,mg,ac,bc⟩ st' ⟨hc,g⟩
    cases hc
    obtain⟨_,_,g1,g2,g3⟩:=g
    dsimp only at g1 g2 g3
    omega
   case step2 =>
    rintro t ⟨r0,na,nb,out,mg,ac,bc⟩ st' _ _ ⟨hc,g⟩
    cases hc
    obtain⟨ss,m,h1,h2,hp⟩:=g
    dsimp only at m h1 h2 hp
    have fin:∀ mg,wpS (model prog w) A E s (mh1 a b ac bc nb out na mg) (fun r st'=>match r with | .done c=>J2 O k a b st (p+1) c st' | .yield c=>c.1=none/\J2 O k a b st (p+1+(t+1)) c st') st':=fun mg=>by
     refine wpS_mono (jow_ C T hk ss m h1 h2 hp) fun r st'' h=>?_
     cases r with
     | done c' =>
      obtain⟨h1,h2⟩:=h
      refine⟨h1,?_⟩
      obtain⟨r1,c1⟩:=c'
      cases r1 with
      | some r=>exact h2
      | none=>exact⟨h2.1,h2.2.1,h2.2.2.1,p5_ (by omega) h2.2.2.2⟩
     | yield c'=>exact h
    unfold mhB
    dsimp only
    split
    ·exact wpS_mono (fin _) fun r st h=>by cases r <;> exact h
    ·exact wpS_mono (fin _) fun r st h=>by cases r <;> exact h
   case post2 =>
    rintro⟨r2,na2,nb2,out2,mg2,ac2,bc2⟩ st2 ⟨ss2,g⟩
    cases r2 with
    | some r=>exact wpS_pure ⟨⟨r,rfl⟩,ss2,g⟩
    | none =>
     obtain⟨m1,g1,g2,g3⟩:=g
     dsimp only at m1 g1 g2 g3 ⊢
     rw[zl_]
     exact wpS_bind (wpS_modify (wpS_pure ⟨rfl,ss2.trans ⟨rfl,rfl,rfl,rfl⟩,m1,g1,g2,g3⟩))
theorem jdu_ (C:Cmp prog w A E s kd O ok k) (T:Two O ok k a b) {st:SortSt} (hk:kindOf st=kd) {Q:Array Keyed->SortSt->Prop} (h:∀ r st',SSt st st'->Mrg O k a.toList b.toList r.toList->Q r st') :
  wpS (model prog w) A E s (vb_ a b) Q st:=by
 rw[jer_]
 refine wpS_bind (wpS_lift (wpAny_rule ⟨rfl,?_⟩))
 have nb:=T.nb
 have na:=T.na
 obtain⟨x,e1,e2,_⟩:=T.getA (show a.size - 1 < a.size by omega)
 refine wpS_bind (js_ e1 ?_)
 have m0:Mh O k a.toList b.toList (#[x]:Array Keyed).toList (a.size - 1) b.size:=by
  have hst:Mh O k a.toList b.toList [] a.size b.size:=⟨by rw[q4_ (by rw[lens];omega),q4_ (by rw[lens];omega)];simp,sg_.nil,fun x _ y hy=>(nomatch hy),fun x _ y hy=>(nomatch hy)⟩
  refine hst.pushA T.sa na e2 fun y hy=>T.last x ?_ y (pz_ hy)
  rw[lens]
  have:=jbw_ na e2
  rw[q4_ (by rw[lens];omega)] at this
  rw[this];simp
 by_cases c:a.size - 1=0
 ·rw[if_pos (by simpa using c)]
  refine wpS_pure (h _ _ (SSt.refl _) ?_)
  rw[yb_]
  exact m0.endA T.sb c
 ·rw[if_neg (by simpa using c)]
  by_cases c2:b.size=1
  ·rw[if_pos (by simpa using c2)]
   refine wpS_pure (h _ _ (SSt.refl _) ?_)
   rw[yq_]
   exact m0.first T.sb T.sa T.first c2
  ·rw[if_neg (by simpa using c2)]
   refine wpS_bind (wpS_get ?_)
   refine wpS_bind (wpS_mono (wpS_forRange (I:=fun t c st'=>c.1=none/\J0 O k a b st t c st') (Q:=fun c st'=>(∃ r,c.1=some r)/\∃ p,J0 O k a b st p c st') ?step ?fin ⟨rfl,SSt.refl _,m0,⟨by show 0 < a.size - 1;omega,by show a.size - 1<=a.size;omega⟩,⟨by show 1 < b.size;omega,pk_ _⟩,by show 0+(a.size - 1+b.size)<=_;omega⟩) ?post)
   case fin =>
    rintro⟨r0,na,nb,out,mg⟩ st' ⟨hc,g⟩
    cases hc
    obtain⟨_,_,g1,g2,g3⟩:=g
    dsimp only at g1 g2 g3
    omega
   case step =>
    rintro t c st' _ _ ⟨hc,g⟩
    refine wpS_mono (jnl_ C T hk hc g) fun r st'' h=>?_
    cases r with
    | done c'=>exact⟨h.1,_,h.2⟩
    | yield c'=>exact h
   case post =>
    rintro⟨r,c⟩ st' ⟨⟨r',hr⟩,p,ss,g⟩
    cases hr
    exact wpS_pure (h _ _ ss g)
end
end PyProof.Rows
set_option autoImplicit false
namespace PyProof.Rows
open PySem
def okK (κ:KeyKind) (p:Keyed):Prop:=∃ a,κ.keyOf p.1=some a
def keyK (κ:KeyKind) (p:Keyed):κ.α:=(κ.keyOf p.1).getD κ.dflt
def FrS (xs ys:Array Keyed) (lo hi:Nat):Prop:=∀ i,(i < lo∨hi<=i)->ys[i]?=xs[i]?
structure SB (kd:SortKind) (a₀:Array Keyed) (pd:Array (Nat×Nat×Nat)) (xs:Array Keyed) (lo hi:Nat) (st:SortSt):Prop where
 perm:(arrOf st).Perm a₀
 kind:kindOf st=kd
 failed:failedOf st=none
 pend:pendingOf st=pd
 fr:FrS xs (arrOf st) lo hi
section
variable {kd:SortKind} {a₀ xs:Array Keyed} {pd:Array (Nat×Nat×Nat)} {lo hi:Nat} {st:SortSt} {κ:KeyKind}
theorem SB.size (h:SB kd a₀ pd xs lo hi st):(arrOf st).size=a₀.size:=h.perm.size_eq
theorem SB.setArr (h:SB kd a₀ pd xs lo hi st) {ys:Array Keyed} (hp:ys.Perm (arrOf st)) (hf:FrS (arrOf st) ys lo hi):SB kd a₀ pd xs lo hi (setArr st ys) :=
 ⟨hp.trans h.perm,h.kind,h.failed,h.pend,fun i hi=>(hf i hi).trans (h.fr i hi)⟩
theorem xq_ {ys:Array Keyed} {i j:Nat} (hj:j<=ys.size) (h1:lo<=i) (h2:j<=hi):FrS ys (mirror ys i j ((j - i) / 2)) lo hi:=fun k hk=>by
 rw[getElem?_mirror_all hj,if_neg (by omega)]
theorem jjm_ {ys:Array Keyed} {src d:Nat} (hs:src < ys.size) (hd:d<=src) (h1:lo<=src - d) (h2:src < hi):FrS ys (bubble ys src d) lo hi:=fun k hk=>by
 rw[getElem?_bubble hs d hd,if_neg (by omega),if_neg (by omega)]
def SIn (κ:KeyKind) (ys:Array Keyed) (lo n:Nat):Prop:=∀ i j,lo<=i->i<=j->j < lo+n->κ.kle (KK κ ys i) (KK κ ys j)
def NIn (κ:KeyKind) (ys:Array Keyed) (lo n:Nat):Prop:=∀ i j,lo<=i->i<=j->j < lo+n->κ.kle (KK κ ys j) (KK κ ys i)
theorem SB.at (h:SB kd a₀ pd xs lo hi st) (h0:∀ p∈a₀.toList,okK κ p) {i:Nat} (hi:i < a₀.size):∃ p,(arrOf st)[i]?=some p/\okK κ p/\keyK κ p=KK κ (arrOf st) i:=by
 have hi':i < (arrOf st).size:=by rw[h.size];exact hi
 have hm:(arrOf st)[i]∈a₀.toList:=(rx_.mp h.perm).mem_iff.mp (by simp)
 have e:(arrOf st)[i]?=some (arrOf st)[i]:=getElem?_pos _ i hi'
 refine⟨_,e,h0 _ hm,?_⟩
 unfold KK keyK;rw[e]
end
def ascL (lo a nrem:Nat):SM AscSt:=forIn [a:nrem] ((none,a):AscSt) fun _ c=>do
 let x <- ltAt' (lo+c.2) (lo+c.2 - 1)
 match x with
 | some smaller=>if smaller=true then pure (.done (none,c.2)) else pure (.yield (none,c.2+1))
 | _=>pure (.done (some none,c.2))
def tl3 (lo n nrem:Nat):SM (Option Nat):=do
 reverseSlice' lo (lo+n)
 let c <- ascL lo n nrem
 match c.1 with
 | some r=>pure r
 | none=>pure (some c.2)
def dscL (lo n nrem:Nat):SM DescSt:=forIn [n:nrem] ((none,n,0):DescSt) fun _ c=>do
 let x <- ltAt' (lo+c.2.1) (lo+c.2.1 - 1)
 match x with
 | some smaller =>
  if smaller=true then
   if c.2.2 > 0 then do
    reverseSlice' (lo+c.2.1 - (c.2.2+1)) (lo+c.2.1)
    pure (.yield (none,c.2.1+1,0))
   else pure (.yield (none,c.2.1+1,0))
  else do
   let x <- ltAt' (lo+c.2.1 - 1) (lo+c.2.1)
   match x with
   | some larger=>if larger=true then pure (.done (none,c.2.1,c.2.2)) else pure (.yield (none,c.2.1+1,c.2.2+1))
   | _=>pure (.done (some none,c.2.1,c.2.2))
 | _=>pure (.done (some none,c.2.1,c.2.2))
def dscP (lo n nrem:Nat):SM (Option Nat):=do
 liftM (rule "list.sort.descending-run")
 let c <- dscL lo (n+1) nrem
 match c.1 with
 | some r=>pure r
 | none =>
  if c.2.2 > 0 then do
   reverseSlice' (lo+c.2.1 - (c.2.2+1)) (lo+c.2.1)
   tl3 lo c.2.1 nrem
  else tl3 lo c.2.1 nrem
theorem jdj_ (lo nrem:Nat):countRun' lo nrem=(do
  let c <- ascL lo 1 nrem
  match c.1 with
  | some r=>pure r
  | none =>
   if (c.2 == nrem)=true then pure (some c.2)
   else if c.2 > 1 then do
    let x <- ltAt' lo (lo+c.2 - 1)
    match x with
    | some rose=>if rose=true then pure (some c.2) else do
      reverseSlice' lo (lo+c.2)
      dscP lo c.2 nrem
    | _=>pure none
   else dscP lo c.2 nrem):=by
 rw[countRun'_eq]
 refine congr (congrArg bind rfl) (funext fun c=>?_)
 obtain⟨r,n⟩:=c
 cases r with
 | some r=>rfl
 | none =>
  dsimp only
  refine ite_congr rfl (fun _=>rfl) fun _=>?_
  refine ite_congr rfl (fun _=>?_) fun _=>?_
  ·refine congrArg (bind _) (funext fun x=>?_)
   cases x with
   | none=>rfl
   | some rose =>
    dsimp only
    refine ite_congr rfl (fun _=>rfl) fun _=>?_
    refine congrArg (bind _) (funext fun _=>?_)
    unfold dscP
    refine congrArg (bind _) (funext fun _=>?_)
    refine congr (congrArg bind rfl) (funext fun c=>?_)
    obtain⟨r2,n2,q2⟩:=c
    cases r2 with
    | some r2=>rfl
    | none =>
     dsimp only
     refine ite_congr rfl (fun _=>?_) fun _=>?_
     ·refine congrArg (bind _) (funext fun _=>?_)
      unfold tl3
      refine congrArg (bind _) (funext fun _=>?_)
      refine congr (congrArg bind rfl) (funext fun c=>?_)
      obtain⟨r3,n3⟩:=c
      cases r3 <;> rfl
     ·unfold tl3
      refine congrArg (bind _) (funext fun _=>?_)
      refine congr (congrArg bind rfl) (funext fun c=>?_)
      obtain⟨r3,n3⟩:=c
      cases r3 <;> rfl
  ·unfold dscP
   refine congrArg (bind _) (funext fun _=>?_)
   refine congr (congrArg bind rfl) (funext fun c=>?_)
   obtain⟨r2,n2,q2⟩:=c
   cases r2 with
   | some r2=>rfl
   | none =>
    dsimp only
    refine ite_congr rfl (fun _=>?_) fun _=>?_
    ·refine congrArg (bind _) (funext fun _=>?_)
     unfold tl3
     refine congrArg (bind _) (funext fun _=>?_)
     refine congr (congrArg bind rfl) (funext fun c=>?_)
     obtain⟨r3,n3⟩:=c
     cases r3 <;> rfl
    ·unfold tl3
     refine congrArg (bind _) (funext fun _=>?_)
     refine congr (congrArg bind rfl) (funext fun c=>?_)
     obtain⟨r3,n3⟩:=c
     cases r3 <;> rfl
section
variable {prog:Program} {w:World} {A:Around} {E:Value->Shared->Prop} {s:Shared} {kd:SortKind} {a₀ xs:Array Keyed} {pd:Array (Nat×Nat×Nat)} {lo hi:Nat} {st:SortSt} {κ:KeyKind}
theorem vn_ (C:Cmp prog w A E s kd κ.toKeyOrd (okK κ) (keyK κ)) {i j:Nat} {Q:Option Bool->SortSt->Prop} (hB:SB kd a₀ pd xs lo hi st) (h0:∀ p∈a₀.toList,okK κ p) (hi':i < a₀.size) (hj:j < a₀.size)
  (h:Q (some (κ.blt (KK κ (arrOf st) i) (KK κ (arrOf st) j))) st):wpS (model prog w) A E s (ltAt' i j) Q st:=by
 obtain⟨x,e1,ox,kx⟩:=hB.at h0 hi'
 obtain⟨y,e2,oy,ky⟩:=hB.at h0 hj
 rw[ltAt'_eq]
 refine wpS_bind (wpS_get ?_)
 show wpS _ _ _ _ (do let x <- elem' (arrOf st) i;let y <- elem' (arrOf st) j;lt' x y) Q st
 refine wpS_bind (js_ e1 (wpS_bind (js_ e2 (C.lt hB.kind ox oy ?_))))
 rw[kx,ky];exact h
theorem um_ (C:Cmp prog w A E s kd κ.toKeyOrd (okK κ) (keyK κ)) {n ok:Nat} {Q:Bool->SortSt->Prop} (h0:∀ p∈a₀.toList,okK κ p) (hn:lo+n<=a₀.size) (hok:ok<=n) (hh:lo+n<=hi) (hB:SB kd a₀ pd xs lo hi st) (hs:SIn κ (arrOf st) lo ok)
  (h:∀ st',SB kd a₀ pd xs lo hi st'->SIn κ (arrOf st') lo n->Q true st'):wpS (model prog w) A E s (binarySort' lo n ok) Q st:=by
 rw[binarySort'_eq]
 refine wpS_bind (wpS_mono (wpS_forRange (I:=fun k c st'=>c=(none,())/\SB kd a₀ pd xs lo hi st'/\SIn κ (arrOf st') lo (min k n))
  (Q:=fun c st'=>c=(none,())/\SB kd a₀ pd xs lo hi st'/\SIn κ (arrOf st') lo n) ?step ?fin ?init) ?post)
 case post =>
  rintro c st' ⟨rfl,hB',hs'⟩
  exact wpS_pure (h st' hB' hs')
 case init =>
  refine⟨rfl,hB,fun i j hl hij hj=>?_⟩
  by_cases h1:ok=0
  ·have:i=j:=by omega
   subst this;exact rb_ _
  ·exact hs i j hl hij (by omega)
 case fin =>
  rintro c st' ⟨hc,hB',hs'⟩
  refine⟨hc,hB',?_⟩
  rwa [show min (max (max ok 1) n) n=n by omega] at hs'
 case step =>
  rintro k c st' hak hkn ⟨rfl,hB',hs'⟩
  rw[show min k n=k by omega] at hs'
  have hk:lo+k < a₀.size:=by omega
  refine wpS_bind (wpS_mono (wpS_forRange (I:=fun x c st''=>st''=st'/\∃ l r,c=(none,l,r)/\l<=r/\r<=k/\r - l<=k - x /\
    (∀ i,lo<=i->i < lo+l->κ.kle (KK κ (arrOf st') i) (KK κ (arrOf st') (lo+k)))/\(∀ i,lo+r<=i->i < lo+k->κ.klt (KK κ (arrOf st') (lo+k)) (KK κ (arrOf st') i)))
   (Q:=fun c st''=>st''=st'/\∃ l r,c=(none,l,r)/\l<=k /\
    (∀ i,lo<=i->i < lo+l->κ.kle (KK κ (arrOf st') i) (KK κ (arrOf st') (lo+k)))/\(∀ i,lo+l<=i->i < lo+k->κ.klt (KK κ (arrOf st') (lo+k)) (KK κ (arrOf st') i))) ?istep ?ifin ?iinit) ?ipost)
  case iinit=>exact⟨rfl,0,k,rfl,by omega,by omega,by omega,fun i hl hi=>by omega,fun i h1 h2=>by omega⟩
  case ifin =>
   rintro c st'' ⟨rfl,l,r,rfl,hlr,hrk,hm,hlo,hhi⟩
   have:l=r:=by omega
   subst this
   exact⟨rfl,l,l,rfl,hrk,hlo,hhi⟩
  case istep =>
   rintro x c st'' _ hxk ⟨rfl,l,r,rfl,hlr,hrk,hm,hlo,hhi⟩
   dsimp only
   by_cases hge:l≥r
   ·rw[if_pos hge]
    have:l=r:=by omega
    subst this
    exact wpS_pure ⟨rfl,l,l,rfl,hrk,hlo,hhi⟩
   ·rw[if_neg hge]
    refine wpS_bind (vn_ C hB' h0 hk (by omega) ?_)
    cases hless:κ.blt (KK κ (arrOf st'') (lo+k)) (KK κ (arrOf st'') (lo+(l+r) / 2))
    case true =>
     simp only[if_true]
     refine wpS_pure ⟨rfl,l,(l+r) / 2,rfl,by omega,by omega,by omega,hlo,fun i h1 h2=>?_⟩
     exact KeyOrd.klt_of_klt_of_kle hless (hs' _ _ (by omega) h1 (by omega))
    case false =>
     simp only[pi_,if_false]
     refine wpS_pure ⟨rfl,(l+r) / 2+1,r,rfl,by omega,by omega,by omega,fun i hl h1=>?_,hhi⟩
     exact p6_ (hs' i (lo+(l+r) / 2) hl (by omega) (by omega)) (show κ.kle _ _ from hless)
  case ipost =>
   rintro c st'' ⟨rfl,l,r,rfl,hlk,hlo,hhi⟩
   show wpS _ _ _ _ (do moveDown' (lo+k) (lo+l);pure (ForInStep.yield (none,()))) _ _
   rw[moveDown'_eq]
   have hks:lo+k < (arrOf st'').size:=by rw[hB'.size];exact hk
   refine wpS_bind (wpS_modify (wpS_pure ⟨rfl,hB'.setArr (bubble_perm _ _ _) (jjm_ hks (by omega) (by omega) (by omega)),?_⟩))
   rw[show min (k+1) n=k+1 by omega]
   intro i j hl hij hj
   show κ.kle (KK κ (bubble (arrOf st'') (lo+k) (lo+k - (lo+l))) i) (KK κ (bubble (arrOf st'') (lo+k) (lo+k - (lo+l))) j)
   rw[KK_bubble hks (by omega),KK_bubble hks (by omega),show lo+k - (lo+k - (lo+l))=lo+l by omega]
   repeat' split
   all_goals first
    | (exfalso;omega)
    | exact rb_ _
    | exact hlo _ (by omega) (by omega)
    | exact qs_ (hhi _ (by omega) (by omega))
    | exact hs' _ _ (by omega) (by omega) (by omega)
theorem jeo_ (C:Cmp prog w A E s kd κ.toKeyOrd (okK κ) (keyK κ)) {a nrem:Nat} {Q:AscSt->SortSt->Prop} (h0:∀ p∈a₀.toList,okK κ p) (hn:lo+nrem<=a₀.size) (ha:1<=a) (han:a<=nrem) (hB:SB kd a₀ pd xs lo hi st)
  (hs:SIn κ (arrOf st) lo a)
  (h:∀ n,a<=n->n<=nrem->SIn κ (arrOf st) lo n->(n=nrem∨κ.klt (KK κ (arrOf st) (lo+n)) (KK κ (arrOf st) (lo+n - 1)))->Q (none,n) st) :
  wpS (model prog w) A E s (ascL lo a nrem) Q st:=by
 unfold ascL
 refine wpS_forRange (I:=fun x c st'=>st'=st/\c=(none,x)/\SIn κ (arrOf st) lo x) ?step ?fin ⟨rfl,rfl,hs⟩
 case fin =>
  rintro c st' ⟨rfl,rfl,hs'⟩
  rw[show max a nrem=nrem by omega] at hs' ⊢
  exact h nrem han (pk_ _) hs' (.inl rfl)
 case step =>
  rintro x c st' hax hxn ⟨rfl,rfl,hs'⟩
  dsimp only
  refine wpS_bind (vn_ C hB h0 (by omega) (by omega) ?_)
  cases hless:κ.blt (KK κ (arrOf st') (lo+x)) (KK κ (arrOf st') (lo+x - 1))
  case true =>
   simp only[if_true]
   exact wpS_pure (h x hax (by omega) hs' (.inr hless))
  case false =>
   simp only[pi_,if_false]
   refine wpS_pure ⟨rfl,rfl,fun i j hl hij hj=>?_⟩
   by_cases hjx:j < lo+x
   ·exact hs' i j hl hij hjx
   ·have hj':j=lo+x:=by omega
    subst hj'
    by_cases hi':i=lo+x
    ·subst hi';exact rb_ _
    ·exact p6_ (hs' i (lo+x - 1) hl (by omega) (by omega)) hless
theorem jhz_ (C:Cmp prog w A E s kd κ.toKeyOrd (okK κ) (keyK κ)) {n nrem:Nat} {Q:Option Nat->SortSt->Prop} (h0:∀ p∈a₀.toList,okK κ p) (hn:lo+nrem<=a₀.size) (hh:lo+nrem<=hi) (h1:1<=n) (hnn:n<=nrem) (hB:SB kd a₀ pd xs lo hi st)
  (hs:NIn κ (arrOf st) lo n) (h:∀ m st',SB kd a₀ pd xs lo hi st'->1<=m->m<=nrem->SIn κ (arrOf st') lo m->Q (some m) st') :
  wpS (model prog w) A E s (tl3 lo n nrem) Q st:=by
 unfold tl3
 have hsz:lo+n<=(arrOf st).size:=by rw[hB.size];omega
 refine wpS_bind (wpS_reverse ?_)
 have hB':=hB.setArr (mirror_perm (arrOf st) lo (lo+n) ((lo+n - lo) / 2)) (xq_ hsz (pk_ _) (by omega))
 refine wpS_bind (jeo_ C h0 hn h1 hnn hB' ?_ fun m hm1 hm2 hsm _=>wpS_pure (h m _ hB' (by omega) hm2 hsm))
 intro i j hl hij hj
 show κ.kle (KK κ (mirror (arrOf st) lo (lo+n) ((lo+n - lo) / 2)) i) (KK κ (mirror (arrOf st) lo (lo+n) ((lo+n - lo) / 2)) j)
 rw[KK_mirror hsz,KK_mirror hsz,if_pos (by omega),if_pos (by omega)]
 exact hs _ _ (by omega) (by omega) (by omega)
theorem jki_ (C:Cmp prog w A E s kd κ.toKeyOrd (okK κ) (keyK κ)) {n nrem:Nat} {Q:DescSt->SortSt->Prop} (h0:∀ p∈a₀.toList,okK κ p) (hn:lo+nrem<=a₀.size) (hh:lo+nrem<=hi) (h1:1<=n) (hnn:n<=nrem) (hB:SB kd a₀ pd xs lo hi st)
  (hs:NIn κ (arrOf st) lo n)
  (h:∀ m neq st',SB kd a₀ pd xs lo hi st'->n<=m->m<=nrem->NIn κ (arrOf st') lo m->neq+1<=m->(∀ i,lo+m - (neq+1)<=i->i < lo+m->KK κ (arrOf st') i=KK κ (arrOf st') (lo+m - 1))->Q (none,m,neq) st') :
  wpS (model prog w) A E s (dscL lo n nrem) Q st:=by
 unfold dscL
 refine wpS_forRange (I:=fun x c st'=>∃ neq,c=(none,x,neq)/\SB kd a₀ pd xs lo hi st'/\NIn κ (arrOf st') lo x/\neq+1<=x /\
   (∀ i,lo+x - (neq+1)<=i->i < lo+x->KK κ (arrOf st') i=KK κ (arrOf st') (lo+x - 1))) ?step ?fin ⟨0,rfl,hB,hs,by omega,fun i h1 h2=>by congr 1;omega⟩
 case fin =>
  rintro c st' ⟨neq,rfl,hB',hs',hq,he⟩
  rw[show max n nrem=nrem by omega] at hs' hq he ⊢
  exact h nrem neq st' hB' hnn (pk_ _) hs' hq he
 case step =>
  rintro x c st' hax hxn ⟨neq,rfl,hB',hs',hq,he⟩
  dsimp only
  have hsz:lo+x<=(arrOf st').size:=by rw[hB'.size];omega
  refine wpS_bind (vn_ C hB' h0 (by omega) (by omega) ?_)
  cases hless:κ.blt (KK κ (arrOf st') (lo+x)) (KK κ (arrOf st') (lo+x - 1))
  case true =>
   simp only[if_true]
   have step1:∀ ys:Array Keyed,(∀ k,KK κ ys k=KK κ (arrOf st') k)->NIn κ ys lo (x+1):=by
    intro ys hk i j hl hij hj
    rw[hk,hk]
    by_cases hjx:j < lo+x
    ·exact hs' i j hl hij hjx
    ·have hj':j=lo+x:=by omega
     subst hj'
     by_cases hi':i=lo+x
     ·subst hi';exact rb_ _
     ·exact p6_ (qs_ hless) (hs' i (lo+x - 1) hl (by omega) (by omega))
   by_cases hneq:neq > 0
   ·rw[if_pos hneq]
    refine wpS_bind (wpS_reverse (wpS_pure ⟨0,rfl,hB'.setArr (mirror_perm _ _ _ _) (xq_ hsz (by omega) (by omega)),step1 _ (KK_mirror_equal hsz he),by omega,fun i h1 h2=>by congr 1;omega⟩))
   ·rw[if_neg hneq]
    exact wpS_pure ⟨0,rfl,hB',step1 _ (fun _=>rfl),by omega,fun i h1 h2=>by congr 1;omega⟩
  case false =>
   simp only[pi_,if_false]
   refine wpS_bind (vn_ C hB' h0 (by omega) (by omega) ?_)
   cases hlarger:κ.blt (KK κ (arrOf st') (lo+x - 1)) (KK κ (arrOf st') (lo+x))
   case true =>
    simp only[if_true]
    exact wpS_pure (h x neq st' hB' hax (by omega) hs' hq he)
   case false =>
    simp only[pi_,if_false]
    have heqx:KK κ (arrOf st') (lo+x)=KK κ (arrOf st') (lo+x - 1):=kr_ hlarger hless
    refine wpS_pure ⟨neq+1,rfl,hB',fun i j hl hij hj=>?_,by omega,fun i h1 h2=>?_⟩
    ·by_cases hjx:j < lo+x
     ·exact hs' i j hl hij hjx
     ·have hj':j=lo+x:=by omega
      subst hj'
      by_cases hi':i=lo+x
      ·subst hi';exact rb_ _
      ·rw[heqx];exact hs' i (lo+x - 1) hl (by omega) (by omega)
    ·rw[show lo+(x+1) - 1=lo+x by omega]
     by_cases hix:i=lo+x
     ·subst hix;rfl
     ·rw[heqx];exact he i (by omega) (by omega)
theorem jet_ (C:Cmp prog w A E s kd κ.toKeyOrd (okK κ) (keyK κ)) {n nrem:Nat} {Q:Option Nat->SortSt->Prop} (h0:∀ p∈a₀.toList,okK κ p) (hn:lo+nrem<=a₀.size) (hh:lo+nrem<=hi) (hnn:n+1<=nrem) (hB:SB kd a₀ pd xs lo hi st)
  (hs:NIn κ (arrOf st) lo (n+1)) (h:∀ m st',SB kd a₀ pd xs lo hi st'->1<=m->m<=nrem->SIn κ (arrOf st') lo m->Q (some m) st') :
  wpS (model prog w) A E s (dscP lo n nrem) Q st:=by
 unfold dscP
 refine wpS_bind (wpS_lift (wpAny_rule ⟨rfl,?_⟩))
 refine wpS_bind (jki_ C h0 hn hh (by omega) hnn hB hs fun m neq st' hB' hm1 hm2 hs' hq he=>?_)
 dsimp only
 have hsz:lo+m<=(arrOf st').size:=by rw[hB'.size];omega
 by_cases hneq:neq > 0
 ·rw[if_pos hneq]
  refine wpS_bind (wpS_reverse (jhz_ C h0 hn hh (by omega) hm2 (hB'.setArr (mirror_perm _ _ _ _) (xq_ hsz (by omega) (by omega))) ?_ h))
  intro i j hl hij hj
  show κ.kle (KK κ (mirror (arrOf st') _ _ _) j) (KK κ (mirror (arrOf st') _ _ _) i)
  rw[KK_mirror_equal hsz he,KK_mirror_equal hsz he]
  exact hs' i j hl hij hj
 ·rw[if_neg hneq]
  exact jhz_ C h0 hn hh (by omega) hm2 hB' hs' h
theorem jaw_ (C:Cmp prog w A E s kd κ.toKeyOrd (okK κ) (keyK κ)) {nrem:Nat} {Q:Option Nat->SortSt->Prop} (h0:∀ p∈a₀.toList,okK κ p) (hn:lo+nrem<=a₀.size) (hh:lo+nrem<=hi) (h1:1<=nrem) (hB:SB kd a₀ pd xs lo hi st)
  (h:∀ m st',SB kd a₀ pd xs lo hi st'->1<=m->m<=nrem->SIn κ (arrOf st') lo m->Q (some m) st') :
  wpS (model prog w) A E s (countRun' lo nrem) Q st:=by
 rw[jdj_]
 refine wpS_bind (jeo_ C h0 hn (pk_ 1) h1 hB (fun i j hl hij hj=>by have:i=j:=(by omega);subst this;exact rb_ _) fun n hn1 hn2 hsn hor=>?_)
 dsimp only
 by_cases hnn:n=nrem
 ·rw[if_pos (by simpa using hnn)]
  exact wpS_pure (h n st hB hn1 hn2 hsn)
 ·rw[if_neg (by simpa using hnn)]
  have hlt:κ.klt (KK κ (arrOf st) (lo+n)) (KK κ (arrOf st) (lo+n - 1)):=hor.resolve_left hnn
  by_cases hgt:n > 1
  ·rw[if_pos hgt]
   refine wpS_bind (vn_ C hB h0 (by omega) (by omega) ?_)
   cases hrose:κ.blt (KK κ (arrOf st) lo) (KK κ (arrOf st) (lo+n - 1))
   case true =>
    simp only[if_true]
    exact wpS_pure (h n st hB hn1 hn2 hsn)
   case false =>
    simp only[pi_,if_false]
    have hsz:lo+n<=(arrOf st).size:=by rw[hB.size];omega
    have hall:∀ k,lo<=k->k < lo+n->KK κ (arrOf st) k=KK κ (arrOf st) (lo+n - 1):=by
     intro k hl hk
     have a1:=hsn lo k (by omega) hl hk
     have a2:=hsn k (lo+n - 1) hl (by omega) (by omega)
     exact kr_ a2 (p6_ hrose a1)
    refine wpS_bind (wpS_reverse (jet_ C h0 hn hh (by omega) (hB.setArr (mirror_perm _ _ _ _) (xq_ hsz (pk_ _) (by omega))) ?_ h))
    intro i j hl hij hj
    show κ.kle (KK κ (mirror (arrOf st) _ _ _) j) (KK κ (mirror (arrOf st) _ _ _) i)
    rw[KK_mirror_equal hsz hall,KK_mirror_equal hsz hall]
    by_cases hjn:j < lo+n
    ·rw[hall i hl (by omega),hall j (by omega) hjn];exact rb_ _
    ·have hj':j=lo+n:=by omega
     subst hj'
     by_cases hi':i=lo+n
     ·subst hi';exact rb_ _
     ·rw[hall i hl (by omega)];exact qs_ hlt
  ·rw[if_neg hgt]
   have hn1':n=1:=by omega
   subst hn1'
   refine jet_ C h0 hn hh (by omega) hB ?_ h
   intro i j hl hij hj
   by_cases hi':i=j
   ·subst hi';exact rb_ _
   ·have hi0:i=lo:=by omega
    have hj1:j=lo+1:=by omega
    subst hi0;subst hj1
    exact qs_ hlt
end
end PyProof.Rows
set_option autoImplicit false
namespace PyProof.Rows
open PySem
theorem jcm_ (i:Nat):mergeAt' i=(do
 let s <- get
 let (some (sa,na,power),some (sb,nb,_)):=((pendingOf s)[i]?,(pendingOf s)[i+1]?) | unsupported "internal:list.sort.pending"
 set (setPending s (((pendingOf s).setIfInBounds i (sa,na+nb,power)).eraseIdxIfInBounds (i+1)))
 let some k <- zr_ false (<- elem' (arrOf s) sb) (arrOf s) sa na 0 | return false
 let (sa,na):=(sa+k,na - k)
 if na == 0 then return true
 let some nb <- zr_ true (<- elem' (arrOf s) (sa+na - 1)) (arrOf s) sb nb (nb - 1) | return false
 if nb == 0 then return true
 let x:=(arrOf s).extract sa sb
 let y:=(arrOf s).extract sb (sb+nb)
 let merged <- if na<=nb then vl_ x y else vb_ x y
 modify fun s=>setArr s (merged.toList.zipIdx.foldl (fun a (p,j)=>a.setIfInBounds (sa+j) p) (arrOf s))
 return (failedOf (<- get)).isNone):=rfl
theorem jos_ {M:Model} {A:Around} {E:Value->Shared->Prop} {s:Shared} {σ:Type} {t:σ} {Q:PUnit->σ->Prop} {st:σ} (h:Q ⟨⟩ t):wpS M A E s (set t:StateT σ Sem PUnit) Q st:=by
 unfold wpS;rw[StateT.run_set];exact wpAny_pure ⟨rfl,h⟩
theorem jaf_:∀(m:List Keyed) (n:Nat) (base:Nat) (P O S:List Keyed) (arr:Array Keyed),arr.toList=P++O++S->P.length=base+n->O.length=m.length ->
  ((m.zipIdx n).foldl (fun a (x:Keyed×Nat)=>a.setIfInBounds (base+x.2) x.1) arr).toList=P++m++S
 | [],n,base,P,O,S,arr,h,_,ho=>by
  have:O=[]:=tv_ ho
  rw[this] at h
  exact h
 | x::m,n,base,P,O,S,arr,h,hp,ho=>by
  match O,ho with
  | o::O,ho =>
   rw[List.zipIdx_cons,w8_]
   have h2:(arr.setIfInBounds (base+n) x).toList=(P++[x])++O++S:=by
    rw[sv_,h,<- hp]
    simp[List.set_append_right]
   have:=jaf_ m (n+1) base (P++[x]) O S _ h2 (by rw[pd_];simp;omega) (by simpa using ho)
   rw[this];simp
section
variable {prog:Program} {w:World} {A:Around} {E:Value->Shared->Prop} {s:Shared} {kd:SortKind} {O:KeyOrd} {ok:Keyed->Prop} {k:Keyed->O.α} {st:SortSt}
theorem us_ {P R S:List Keyed} {arr:Array Keyed} (h:arr.toList=P++R++S) {i:Nat} (hi:i < R.length):arr[P.length+i]?=R[i]?:=by
 rw[<- qi_,h,pp_,q3_ (by omega),show P.length+i - P.length=i by omega,rh_ hi]
theorem jhp_ {P R S:List Keyed} {arr:Array Keyed} (h:arr.toList=P++R++S):(arr.extract P.length (P.length+R.length)).toList=R:=by
 rw[Array.toList_extract,List.extract_eq_take_drop,h,pp_,List.drop_left]
 simp
theorem jdv_ (C:Cmp prog w A E s kd O ok k) {P L R S:List Keyed} {i pw x:Nat} {Q:Bool->SortSt->Prop} (hL:(arrOf st).toList=P++L++R++S) (sL:Srt O k L) (sR:Srt O k R) (L0:L≠[]) (R0:R≠[])
  (hp1:(pendingOf st)[i]?=some (P.length,L.length,pw)) (hp2:(pendingOf st)[i+1]?=some (P.length+L.length,R.length,x)) (hk:kindOf st=kd) (hf:failedOf st=none) (hok:∀ p∈(arrOf st).toList,ok p)
  (h:∀ W st',W.Perm (L++R)->Srt O k W->(arrOf st').toList=P++W++S->kindOf st'=kd->failedOf st'=none->pendingOf st'=((pendingOf st).setIfInBounds i (P.length,L.length+R.length,pw)).eraseIdxIfInBounds (i+1)->Q true st') :
  wpS (model prog w) A E s (mergeAt' i) Q st:=by
 rw[jcm_]
 refine wpS_bind (wpS_get ?_)
 rw[hp1,hp2]
 refine wpS_bind (jos_ ?_)
 have eA:arrOf (setPending st (((pendingOf st).setIfInBounds i (P.length,L.length+R.length,pw)).eraseIdxIfInBounds (i+1)))=arrOf st:=rfl
 have eK:kindOf (setPending st (((pendingOf st).setIfInBounds i (P.length,L.length+R.length,pw)).eraseIdxIfInBounds (i+1)))=kd:=hk
 have eF:failedOf (setPending st (((pendingOf st).setIfInBounds i (P.length,L.length+R.length,pw)).eraseIdxIfInBounds (i+1)))=none:=hf
 have eP:pendingOf (setPending st (((pendingOf st).setIfInBounds i (P.length,L.length+R.length,pw)).eraseIdxIfInBounds (i+1)))=((pendingOf st).setIfInBounds i (P.length,L.length+R.length,pw)).eraseIdxIfInBounds (i+1):=rfl
 generalize setPending st (((pendingOf st).setIfInBounds i (P.length,L.length+R.length,pw)).eraseIdxIfInBounds (i+1))=st1 at eA eK eF eP ⊢
 have okL:∀ z∈L,ok z:=fun z hz=>hok z (by rw[hL];simp[hz])
 have okR:∀ z∈R,ok z:=fun z hz=>hok z (by rw[hL];simp[hz])
 have nL:=rg_.mpr L0
 have nR:=rg_.mpr R0
 have hL1:(arrOf st).toList=P++L++(R++S):=by rw[hL];simp
 have hL2:(arrOf st).toList=(P++L)++R++S:=hL
 have lPL:(P++L).length=P.length+L.length:=pd_
 obtain⟨r0,hr0⟩:∃ r0,R[0]?=some r0:=⟨_,pa_ nR⟩
 have er0:(arrOf st)[P.length+L.length]?=some r0:=by
  have:=us_ hL2 nR
  rw[lPL] at this
  exact this.trans hr0
 refine wpS_bind (js_ er0 ?_)
 refine wpS_bind (zw_ C (seg:=L) eK (okR r0 (rn_ hr0)) (fun j hj=>us_ hL1 hj) rfl okL sL nL fun a ha g1 g2=>?_)
 simp only[pi_,if_false] at g1 g2
 dsimp only
 have hhead:∀ v∈R,O.kle (k r0) (k v):=fun v hv=>sR.head hr0 v (by rw[tp_];exact hv)
 have fin0:Srt O k (L++R)->Q true st1:=fun hs=>h (L++R) st1 (ri_.refl _) hs (by rw[eA,hL];simp) eK eF eP
 by_cases c1:L.length - a=0
 ·rw[if_pos (by simpa using c1)]
  refine wpS_pure (fin0 (sL.app sR fun u hu v hv=>?_))
  have:a=L.length:=by omega
  rw[this,qa_] at g1
  exact p6_ (g1 u hu) (hhead v hv)
 ·rw[if_neg (by simpa using c1)]
  obtain⟨l1,hl1⟩:∃ l1,L[L.length - 1]?=some l1:=⟨_,pa_ (by omega)⟩
  have el1:(arrOf st)[P.length+a+(L.length - a) - 1]?=some l1:=by
   have:=us_ hL1 (i:=L.length - 1) (by omega)
   rw[show P.length+a+(L.length - a) - 1=P.length+(L.length - 1) by omega]
   exact this.trans hl1
  refine wpS_bind (js_ el1 ?_)
  refine wpS_bind (zw_ C (seg:=R) eK (okL l1 (rn_ hl1)) (fun j hj=>by have:=us_ hL2 hj;rw[lPL] at this;exact this) rfl okR sR (by omega) fun b hb f1 f2=>?_)
  simp only[if_true] at f1 f2
  dsimp only
  have hlast:∀ u∈L,O.kle (k u) (k l1):=fun u hu=>sL.tail nL hl1 u (by rw[qa_];exact hu)
  by_cases c2:b=0
  ·rw[if_pos (by simpa using c2)]
   subst c2
   refine wpS_pure (fin0 (sL.app sR fun u hu v hv=>p6_ (hlast u hu) (f2 v (by rw[tp_];exact hv))))
  ·rw[if_neg (by simpa using c2)]
   have hx:((arrOf st).extract (P.length+a) (P.length+L.length)).toList=L.drop a:=by
    have e:(arrOf st).toList=(P++L.take a)++L.drop a++(R++S):=by rw[hL1];congr 1;rw[pp_,p1_]
    have:=jhp_ e
    rw[pd_,pq_,p9_,rc_ ha,show P.length+a+(L.length - a)=P.length+L.length by omega] at this
    exact this
   have hy:((arrOf st).extract (P.length+L.length) (P.length+L.length+b)).toList=R.take b:=by
    have e:(arrOf st).toList=(P++L)++R.take b++(R.drop b++S):=by rw[hL2,<- pp_ ((P++L)++R.take b),pp_ (P++L) (R.take b),p1_]
    have:=jhp_ e
    rw[pd_,pq_,rc_ hb] at this
    exact this
   have T:Two O ok k ((arrOf st).extract (P.length+a) (P.length+L.length)) ((arrOf st).extract (P.length+L.length) (P.length+L.length+b)):=by
    refine⟨?_,?_,?_,?_,?_,?_,?_,?_⟩
    ·rw[hx];exact fun z hz=>okL z (qg_ hz)
    ·rw[hy];exact fun z hz=>okR z (pz_ hz)
    ·rw[hx];exact sL.drop _
    ·rw[hy];exact sR.take _
    ·rw[hx,hy]
     intro u hu v hv
     rw[to_,p9_,show a+(L.length - a - 1)=L.length - 1 by omega] at hu
     have:=jbw_ nL hl1
     rw[qa_] at this
     rw[this] at hu
     have:u=l1:=by simpa using hu
     rw[this]
     exact qs_ (f1 v hv)
    ·rw[hx,hy]
     intro u hu v hv
     rw[tq_,rc_ (by omega)] at hu
     have h1:=jbg_ hr0
     rw[tp_] at h1
     rw[h1] at hu
     have:u=r0:=by simpa using hu
     rw[this]
     exact qs_ (g2 v hv)
    ·rw[<- lens,hx,p9_];omega
    ·rw[<- lens,hy,pq_];omega
   have fin:∀(mg:Array Keyed) (st':SortSt),SSt st1 st'->Mrg O k ((arrOf st).extract (P.length+a) (P.length+L.length)).toList ((arrOf st).extract (P.length+L.length) (P.length+L.length+b)).toList mg.toList ->
     wpS (model prog w) A E s (do
      modify fun s=>setArr s (mg.toList.zipIdx.foldl (fun a_1 (x:Keyed×Nat)=>a_1.setIfInBounds (P.length+a+x.2) x.1) (arrOf s))
      let t <- get
      pure (failedOf t).isNone:SM Bool) Q st':=fun mg st' ss hm=>by
    rw[hx,hy] at hm
    refine wpS_bind (wpS_modify (wpS_bind (wpS_get (wpS_pure ?_))))
    have e1:(failedOf (setArr st' (mg.toList.zipIdx.foldl (fun a_1 (x:Keyed×Nat)=>a_1.setIfInBounds (P.length+a+x.2) x.1) (arrOf st')))).isNone=true:=by
     show (failedOf st').isNone=true
     rw[ss.2.2.2,eF];rfl
    rw[e1]
    have hml:mg.toList.length=(L.drop a).length+(R.take b).length:=by rw[hm.1.length_eq,pd_]
    have e2:L++R=L.take a++(L.drop a++R.take b)++R.drop b:=by rw[<- pp_ (L.take a),p1_,pp_ L,p1_]
    have hw:(mg.toList.zipIdx.foldl (fun a_1 (x:Keyed×Nat)=>a_1.setIfInBounds (P.length+a+x.2) x.1) (arrOf st')).toList=(P++L.take a)++mg.toList++(R.drop b++S):=by
     refine jaf_ mg.toList 0 (P.length+a) (P++L.take a) (L.drop a++R.take b) (R.drop b++S) (arrOf st') ?_ (by rw[pd_,pq_,rc_ ha];rfl) (by rw[pd_];exact hml.symm)
     rw[ss.2.1,eA,hL,show P++L++R++S=P++(L++R)++S by simp only[pp_],e2]
     simp only[pp_]
    refine h (L.take a++mg.toList++R.drop b) _ ?_ ?_ ?_ (ss.1.trans eK) (ss.2.2.2.trans eF) (ss.2.2.1.trans eP)
    ·rw[e2]
     exact rv_ _ (r0_ _ hm.1)
    ·have mem:∀ z∈mg.toList,z∈L.drop a∨z∈R.take b:=fun z hz=>pr_.mp (hm.1.mem_iff.mp hz)
     have hLL:=sL
     rw[<- p1_ a L] at hLL
     have hRR:=sR
     rw[<- p1_ b R] at hRR
     refine((sL.take _).app hm.2 fun u hu v hv=>?_).app (sR.drop _) fun u hu v hv=>?_
     ·rcases mem v hv with hv | hv
      ·exact(re_.mp hLL).2.2 u hu v hv
      ·exact p6_ (g1 u hu) (hhead v (pz_ hv))
     ·rcases pr_.mp hu with hu | hu
      ·exact p6_ (hlast u (pz_ hu)) (f2 v hv)
      ·rcases mem u hu with hu | hu
       ·exact p6_ (hlast u (qg_ hu)) (f2 v hv)
       ·exact(re_.mp hRR).2.2 u hu v hv
    ·show (mg.toList.zipIdx.foldl _ (arrOf st')).toList=_
     rw[hw];simp
   split
   ·exact wpS_bind (jfa_ C T eK fun mg st' ss hm=>fin mg st' ss hm)
   ·exact wpS_bind (jdu_ C T eK fun mg st' ss hm=>fin mg st' ss hm)
end
end PyProof.Rows
set_option autoImplicit false
namespace PyProof.Rows
open PySem
section
variable {O:KeyOrd} {k:Keyed->O.α}
def Pend (O:KeyOrd) (k:Keyed->O.α):Nat->List (Nat×Nat×Nat)->List (List Keyed)->Prop
 | _,[],[]=>True
 | b,p::pd,R::Rs=>p.1=b/\p.2.1=R.length/\R≠[]/\Srt O k R/\Pend O k (b+R.length) pd Rs
 | _,_,_=>False
theorem Pend.len:∀{b:Nat} {pd:List (Nat×Nat×Nat)} {Rs:List (List Keyed)},Pend O k b pd Rs->pd.length=Rs.length/\Rs.length<=Rs.flatten.length
 | _,[],[],_=>⟨rfl,pk_ _⟩
 | _,[],_::_,h=>h.elim
 | _,_::_,[],h=>h.elim
 | b,p::pd,R::Rs,⟨_,_,h,_,t⟩=>by
  have ih:=t.len
  have:=rg_.mpr h
  rw[qj_,pd_,p3_,p3_]
  omega
theorem Pend.snoc {R:List Keyed} {x:Nat} (hR:R≠[]) (sR:Srt O k R):∀{b:Nat} {pd:List (Nat×Nat×Nat)} {Rs:List (List Keyed)},Pend O k b pd Rs->Pend O k b (pd++[(b+Rs.flatten.length,R.length,x)]) (Rs++[R])
 | b,[],[],_=>⟨by simp,rfl,hR,sR,trivial⟩
 | _,[],_::_,h=>h.elim
 | _,_::_,[],h=>h.elim
 | b,p::pd,Q::Rs,⟨h1,h2,h3,h4,t⟩=>by
  refine⟨h1,h2,h3,h4,?_⟩
  have:=Pend.snoc (x:=x) hR sR t
  rw[qj_,pd_,<- t1_]
  exact this
theorem Pend.congr:∀{b:Nat} {pd pd':List (Nat×Nat×Nat)} {Rs:List (List Keyed)},pd.map (fun p=>(p.1,p.2.1))=pd'.map (fun p=>(p.1,p.2.1))->Pend O k b pd Rs->Pend O k b pd' Rs
 | b,[],[],Rs,_,h=>h
 | _,[],_::_,_,e,_=>by simp at e
 | _,_::_,[],_,e,_=>by simp at e
 | _,_::_,_::_,[],_,h=>h.elim
 | b,p::pd,q::pd',R::Rs,e,⟨h1,h2,h3,h4,t⟩=>by
  simp only[ps_,t5_,Prod.mk.injEq] at e
  exact⟨e.1.1▸h1,e.1.2▸h2,h3,h4,t.congr e.2⟩
theorem Pend.at:∀{i b:Nat} {pd:List (Nat×Nat×Nat)} {Rs:List (List Keyed)},Pend O k b pd Rs->i+1 < pd.length->∃(Rs1:List (List Keyed)) (L R:List Keyed) (Rs2:List (List Keyed)) (pw x:Nat),Rs=Rs1++L::R::Rs2/\pd[i]?=some (b+Rs1.flatten.length,L.length,pw)/\pd[i+1]?=some (b+Rs1.flatten.length+L.length,R.length,x) /\
   L≠[]/\R≠[]/\Srt O k L/\Srt O k R/\∀ W:List Keyed,W.length=L.length+R.length->Srt O k W->Pend O k b ((pd.set i (b+Rs1.flatten.length,L.length+R.length,pw)).eraseIdx (i+1)) (Rs1++W::Rs2)
 | 0,b,(p1,p2,p3)::(q1,q2,q3)::pd,L::R::Rs,⟨h1,h2,h3,h4,g1,g2,g3,g4,t⟩,_=>by
  simp only at h1 h2 g1 g2
  subst h1 h2 g1 g2
  refine⟨[],L,R,Rs,p3,q3,rfl,by simp,by simp,h3,g3,h4,g4,fun W hW sW=>?_⟩
  have hl:=rg_.mpr h3
  refine⟨by simp,by simpa using hW.symm,fun z=>?_,sW,?_⟩
  ·rw[z] at hW;simp at hW;omega
  ·rw[hW,<- t1_];exact t
 | i,b,[],_,_,hi=>by simp at hi
 | 0,b,[_],_,_,hi=>by simp at hi
 | _+1,b,[_],_,_,hi=>by simp at hi
 | _,b,_::_,[],h,_=>h.elim
 | 0,b,_::_::_,[_],⟨_,_,_,_,h⟩,_=>h.elim
 | i+1,b,p::pd,Q::Rs,⟨h1,h2,h3,h4,t⟩,hi=>by
  obtain⟨Rs1,L,R,Rs2,pw,x,e1,e2,e3,e4,e5,e6,e7,e8⟩:=Pend.at (i:=i) t (by simpa using hi)
  refine⟨Q::Rs1,L,R,Rs2,pw,x,by rw[e1];rfl,?_,?_,e4,e5,e6,e7,fun W hW sW=>?_⟩
  ·rw[wz_,e2,qj_,pd_,t1_]
  ·rw[wz_,e3,qj_,pd_,t1_ b]
  ·have:=e8 W hW sW
   rw[qj_,pd_,<- t1_,List.set_cons_succ,wx_]
   exact⟨h1,h2,h3,h4,this⟩
end
section
variable {prog:Program} {w:World} {A:Around} {E:Value->Shared->Prop} {s:Shared} {kd:SortKind} {a₀:Array Keyed} {st:SortSt} {κ:KeyKind}
structure RI (κ:KeyKind) (kd:SortKind) (a₀:Array Keyed) (S:List Keyed) (lo:Nat) (st:SortSt):Prop where
 runs:∃ Rs:List (List Keyed),(arrOf st).toList=Rs.flatten++S/\Pend κ.toKeyOrd (keyK κ) 0 (pendingOf st).toList Rs/\lo=Rs.flatten.length
 kind:kindOf st=kd
 failed:failedOf st=none
 perm:(arrOf st).Perm a₀
theorem RI.ok {S:List Keyed} {lo:Nat} (h:RI κ kd a₀ S lo st) (h0:∀ p∈a₀.toList,okK κ p):∀ p∈(arrOf st).toList,okK κ p:=fun p hp=>h0 p ((rx_.mp h.perm).mem_iff.mp hp)
theorem RI.size {S:List Keyed} {lo:Nat} (h:RI κ kd a₀ S lo st):(pendingOf st).size<=lo/\lo+S.length=a₀.size:=by
 obtain⟨Rs,e1,e2,e3⟩:=h.runs
 have h1:=e2.len
 have h2:=congrArg th_ e1
 rw[pd_,lens,h.perm.size_eq] at h2
 have:(pendingOf st).toList.length=(pendingOf st).size:=by simp
 omega
theorem RI.merge (C:Cmp prog w A E s kd κ.toKeyOrd (okK κ) (keyK κ)) (h0:∀ p∈a₀.toList,okK κ p) {S:List Keyed} {lo i:Nat} (h:RI κ kd a₀ S lo st) (hi:i+1 < (pendingOf st).size) {Q:Bool->SortSt->Prop} (q:∀ st',RI κ kd a₀ S lo st'->(pendingOf st').size+1=(pendingOf st).size->Q true st') :
  wpS (model prog w) A E s (mergeAt' i) Q st:=by
 obtain⟨Rs,e1,e2,e3⟩:=id h.runs
 obtain⟨Rs1,L,R,Rs2,pw,x,f1,f2,f3,f4,f5,f6,f7,f8⟩:=e2.at (i:=i) (by simpa using hi)
 rw[ke_] at f2 f3 f8
 have hL:(arrOf st).toList=Rs1.flatten++L++R++(Rs2.flatten++S):=by rw[e1,f1];simp
 refine jdv_ C hL f6 f7 f4 f5 (by rw[<- qi_];exact f2) (by rw[<- qi_];exact f3) h.kind h.failed (h.ok h0) fun W st' g1 g2 g3 g4 g5 g6=>?_
 have hW:=g1.length_eq
 rw[pd_] at hW
 refine q st' ⟨⟨Rs1++W::Rs2,by rw[g3];simp,?_,?_⟩,g4,g5,?_⟩ ?_
 ·rw[g6]
  have:=f8 W hW g2
  have e:(((pendingOf st).setIfInBounds i (Rs1.flatten.length,L.length+R.length,pw)).eraseIdxIfInBounds (i+1)).toList=((pendingOf st).toList.set i (Rs1.flatten.length,L.length+R.length,pw)).eraseIdx (i+1):=by
   rw[tj_,sv_]
  rw[e];exact this
 ·rw[e3,f1]
  simp only[List.flatten_append,qj_,pd_,hW]
  omega
 ·refine Array.Perm.trans ?_ h.perm
  rw[rx_,g3,hL]
  rw[pp_ Rs1.flatten L R]
  exact rv_ _ (r0_ _ g1)
 ·have e:(((pendingOf st).setIfInBounds i (Rs1.flatten.length,L.length+R.length,pw)).eraseIdxIfInBounds (i+1)).toList=((pendingOf st).toList.set i (Rs1.flatten.length,L.length+R.length,pw)).eraseIdx (i+1):=by
   rw[tj_,sv_]
  have:=congrArg th_ e
  rw[List.length_eraseIdx,List.length_set,if_pos (by simpa using hi)] at this
  rw[g6]
  simp only[se_] at this
  omega
theorem RI.push {S R:List Keyed} {lo:Nat} (h:RI κ kd a₀ (R++S) lo st) (hR:R≠[]) (sR:Srt κ.toKeyOrd (keyK κ) R):RI κ kd a₀ S (lo+R.length) (setPending st ((pendingOf st).push (lo,R.length,0))):=by
 obtain⟨Rs,e1,e2,e3⟩:=id h.runs
 refine⟨⟨Rs++[R],by show (arrOf st).toList=_;rw[e1];simp,?_,by rw[e3];simp⟩,h.kind,h.failed,h.perm⟩
 show Pend _ _ 0 ((pendingOf st).push (lo,R.length,0)).toList _
 rw[q8_]
 have:=Pend.snoc (x:=0) hR sR e2
 rw[ke_,<- e3] at this
 exact this
theorem RI.power {S:List Keyed} {lo pw:Nat} (h:RI κ kd a₀ S lo st):RI κ kd a₀ S lo (setPending st ((pendingOf st).modify ((pendingOf st).size - 1) fun x=>match x with | (s,n,_)=>(s,n,pw))):=by
 obtain⟨Rs,e1,e2,e3⟩:=id h.runs
 refine⟨⟨Rs,e1,e2.congr ?_,e3⟩,h.kind,h.failed,h.perm⟩
 show _=((pendingOf st).modify _ _).toList.map _
 rw[Array.toList_modify]
 apply wr_
 intro j
 simp only[pl_,List.getElem?_modify]
 cases (pendingOf st).toList[j]? with
 | none=>rfl
 | some y =>
  obtain⟨y1,y2,y3⟩:=y
  by_cases c:(pendingOf st).size - 1=j <;> simp[c]
def xu_ (lo n:Nat):SM (ForInStep (Option Unit×Nat)):=do
 modify fun s=>setPending s ((pendingOf s).push (lo,n,0))
 pure (.yield (none,lo+n))
def runC (pw:Nat) (_:Nat) (_:Option Unit×Unit):SM (ForInStep (Option Unit×Unit)):=do
 let t <- get
 match if (pendingOf t).size > 1 then (pendingOf t)[(pendingOf t).size - 2]? else none with
 | some (_,_,older) =>
  if older<=pw then pure (.done (none,()))
  else do
   let b <- mergeAt' ((pendingOf t).size - 2)
   if (!b)=true then pure (.done (some (),())) else pure (.yield (none,()))
 | _=>pure (.done (none,()))
def runJ (size lo n:Nat):SM (ForInStep (Option Unit×Nat)):=do
 let t <- get
 match (pendingOf t).back? with
 | some (s1,n1,_)=>do
  let c <- forIn [0:size] ((none,()):Option Unit×Unit) (runC (power' size (2 * s1+n1) (2 * s1+n1+n1+n) size))
  match c.1 with
  | some r=>pure (.done (some r,lo))
  | none=>do
   modify fun s=>setPending s ((pendingOf s).modify ((pendingOf s).size - 1) fun x=>match x with | (st,len,_)=>(st,len,power' size (2 * s1+n1) (2 * s1+n1+n1+n) size))
   xu_ lo n
 | _=>xu_ lo n
def runO (size:Nat) (_:Nat) (c:Option Unit×Nat):SM (ForInStep (Option Unit×Nat)) :=
 if c.2≥size then pure (.done (none,c.2))
 else do
  let x <- countRun' c.2 (size - c.2)
  match x with
  | some n =>
   if n < minRun' size size 0 then do
    liftM (rule "list.sort.binary-insertion")
    let b <- binarySort' c.2 (min (size - c.2) (minRun' size size 0)) n
    if (!b)=true then pure (.done (some (),c.2)) else runJ size c.2 (min (size - c.2) (minRun' size size 0))
   else runJ size c.2 n
  | _=>pure (.done (some (),c.2))
def runF (_:Nat) (_:Option Unit×Unit):SM (ForInStep (Option Unit×Unit)):=do
 let t <- get
 if (pendingOf t).size<=1 then pure (.done (none,()))
 else do
  let b <- mergeAt' (if Option.any (fun x=>decide (x < (pendingOf t)[(pendingOf t).size - 2+1]?.elim 0 fun x=>x.2.1)) (if (pendingOf t).size - 2 > 0 then (pendingOf t)[(pendingOf t).size - 2 - 1]?.map (fun x=>x.2.1) else none)=true then (pendingOf t).size - 2 - 1 else (pendingOf t).size - 2)
  if (!b)=true then pure (.done (some (),())) else pure (.yield (none,()))
theorem jjs_:sortRuns'=(do
  let t <- get
  let c <- forIn [0:(arrOf t).size] ((none,0):Option Unit×Nat) (runO (arrOf t).size)
  match c.1 with
  | some r=>pure r
  | none=>do
   let c <- forIn [0:(arrOf t).size] ((none,()):Option Unit×Unit) runF
   match c.1 with
   | some r=>pure r
   | none=>pure ()):=by
 rw[sortRuns'_eq]
 refine congrArg (bind _) (funext fun t=>?_)
 refine congr (congrArg bind ?_) (funext fun c=>?_)
 ·refine congrArg (forIn _ _) (funext fun i=>funext fun c=>?_)
  unfold runO
  dsimp only
  refine ite_congr rfl (fun _=>rfl) fun _=>?_
  refine congrArg (bind _) (funext fun x=>?_)
  have J:∀ n,(do
    let __do_lift <- get
    match (pendingOf __do_lift).back? with
     | some (s1,n1,snd)=>do
      let __s <- forIn [0:(arrOf t).size] ((none,()):Option Unit×Unit) (runC (power' (arrOf t).size (2 * s1+n1) (2 * s1+n1+n1+n) (arrOf t).size))
      match __s.fst with
       | some r=>pure (ForInStep.done (some r,c.2))
       | none=>do
        modify fun s=>setPending s ((pendingOf s).modify ((pendingOf s).size - 1) fun x=>match x with | (st,len,_)=>(st,len,power' (arrOf t).size (2 * s1+n1) (2 * s1+n1+n1+n) (arrOf t).size))
        xu_ c.2 n
     | x=>xu_ c.2 n:SM (ForInStep (Option Unit×Nat)))=runJ (arrOf t).size c.2 n:=fun _=>rfl
  cases x with
  | none=>rfl
  | some n =>
   dsimp only
   refine ite_congr rfl (fun _=>?_) fun _=>?_
   ·refine congrArg (bind _) (funext fun _=>?_)
    refine congrArg (bind _) (funext fun b=>?_)
    refine ite_congr rfl (fun _=>rfl) fun _=>?_
    unfold runJ
    refine congrArg (bind _) (funext fun t2=>?_)
    cases (pendingOf t2).back? with
    | none=>rfl
    | some y =>
     obtain⟨s1,n1,p1⟩:=y
     dsimp only
     refine congr (congrArg bind rfl) (funext fun c2=>?_)
     obtain⟨r,u⟩:=c2
     cases r <;> rfl
   ·unfold runJ
    refine congrArg (bind _) (funext fun t2=>?_)
    cases (pendingOf t2).back? with
    | none=>rfl
    | some y =>
     obtain⟨s1,n1,p1⟩:=y
     dsimp only
     refine congr (congrArg bind rfl) (funext fun c2=>?_)
     obtain⟨r,u⟩:=c2
     cases r <;> rfl
 ·obtain⟨r,lo⟩:=c
  cases r with
  | some r=>rfl
  | none =>
   dsimp only
   refine congr (congrArg bind rfl) (funext fun c2=>?_)
   obtain⟨r,u⟩:=c2
   cases r <;> rfl
theorem jfs_ {ys:Array Keyed} {lo n:Nat} (hn:lo+n<=ys.size) (h:SIn κ ys lo n):Srt κ.toKeyOrd (keyK κ) ((ys.toList.drop lo).take n):=by
 refine wi_.mpr fun i j hi hj hij=>?_
 rw[pq_,p9_,lens] at hi hj
 have e:∀ m,m < n->∀ hm:m < ((ys.toList.drop lo).take n).length,keyK κ (((ys.toList.drop lo).take n)[m])=KK κ ys (lo+m):=fun m hm hm'=>by
  unfold KK keyK
  rw[r4_ (by omega:lo+m < ys.size)]
  simp[wp_,wq_]
 rw[e i (by omega),e j (by omega)]
 exact h _ _ (by omega) (by omega) (by omega)
theorem ui_ {S R:List Keyed} {lo:Nat} {Q:ForInStep (Option Unit×Nat)->SortSt->Prop} (h:RI κ kd a₀ (R++S) lo st) (hR:R≠[]) (sR:Srt κ.toKeyOrd (keyK κ) R) (q:∀ st',RI κ kd a₀ S (lo+R.length) st'->Q (.yield (none,lo+R.length)) st') :
  wpS (model prog w) A E s (xu_ lo R.length) Q st:=by
 unfold xu_
 exact wpS_bind (wpS_modify (wpS_pure (q _ (h.push hR sR))))
theorem jni_ (C:Cmp prog w A E s kd κ.toKeyOrd (okK κ) (keyK κ)) (h0:∀ p∈a₀.toList,okK κ p) {S R:List Keyed} {lo size:Nat} {Q:ForInStep (Option Unit×Nat)->SortSt->Prop} (h:RI κ kd a₀ (R++S) lo st) (hR:R≠[]) (sR:Srt κ.toKeyOrd (keyK κ) R) (q:∀ st',RI κ kd a₀ S (lo+R.length) st'->Q (.yield (none,lo+R.length)) st') :
  wpS (model prog w) A E s (runJ size lo R.length) Q st:=by
 unfold runJ
 refine wpS_bind (wpS_get ?_)
 cases (pendingOf st).back? with
 | none=>exact ui_ h hR sR q
 | some y =>
  obtain⟨s1,n1,p1⟩:=y
  dsimp only
  refine wpS_bind (wpS_mono (wpS_forRange (I:=fun _ c st'=>c=(none,())/\RI κ kd a₀ (R++S) lo st') (Q:=fun c st'=>c=(none,())/\RI κ kd a₀ (R++S) lo st') ?step (fun _ _ hh=>hh) ⟨rfl,h⟩) ?post)
  case step =>
   rintro t c st' _ _ ⟨rfl,h'⟩
   unfold runC
   refine wpS_bind (wpS_get ?_)
   by_cases c1:(pendingOf st').size > 1
   ·rw[if_pos c1]
    cases (pendingOf st')[(pendingOf st').size - 2]? with
    | none=>exact wpS_pure ⟨rfl,h'⟩
    | some z =>
     obtain⟨z1,z2,z3⟩:=z
     dsimp only
     split
     ·exact wpS_pure ⟨rfl,h'⟩
     ·refine wpS_bind (h'.merge C h0 (by omega) fun st'' h'' _=>?_)
      simp only[qv_,pi_,if_false]
      exact wpS_pure ⟨rfl,h''⟩
   ·rw[if_neg c1]
    exact wpS_pure ⟨rfl,h'⟩
  case post =>
   rintro c st' ⟨rfl,h'⟩
   dsimp only
   refine wpS_bind (wpS_modify ?_)
   exact ui_ h'.power hR sR q
theorem jly_ (C:Cmp prog w A E s kd κ.toKeyOrd (okK κ) (keyK κ)) (h0:∀ p∈a₀.toList,okK κ p) {S:List Keyed} {lo i:Nat} {Q:ForInStep (Option Unit×Nat)->SortSt->Prop} (h:RI κ kd a₀ S lo st) (q0:a₀.size<=lo->Q (.done (none,lo)) st) (q:∀ S' lo' st',lo < lo'->RI κ kd a₀ S' lo' st'->Q (.yield (none,lo')) st') :
  wpS (model prog w) A E s (runO a₀.size i (none,lo)) Q st:=by
 unfold runO
 dsimp only
 by_cases c:lo≥a₀.size
 ·rw[if_pos c];exact wpS_pure (q0 c)
 ·rw[if_neg c]
  have hB:SB kd a₀ (pendingOf st) (arrOf st) lo a₀.size st:=⟨h.perm,h.kind,h.failed,rfl,fun _ _=>rfl⟩
  have fin:∀ n st',1<=n->lo+n<=a₀.size->SB kd a₀ (pendingOf st) (arrOf st) lo a₀.size st'->SIn κ (arrOf st') lo n->wpS (model prog w) A E s (runJ a₀.size lo n) Q st':=fun n st' hn1 hn2 hB' hs=>by
   obtain⟨Rs,e1,e2,e3⟩:=id h.runs
   have hsz:(arrOf st').size=a₀.size:=hB'.size
   have htk:(arrOf st').toList.take lo=Rs.flatten:=by
    have e4:(arrOf st).toList.take lo=Rs.flatten:=by rw[e1,e3,List.take_left]
    rw[<- e4]
    apply wr_
    intro j
    by_cases hj:j < lo
    ·rw[rj_ hj,rj_ hj,qi_,qi_]
     exact hB'.fr j (.inl hj)
    ·rw[r1_ (by rw[pq_];omega),r1_ (by rw[pq_];omega)]
   have hRl:(((arrOf st').toList.drop lo).take n).length=n:=by rw[pq_,p9_,lens,hsz];omega
   have hRI:RI κ kd a₀ ((((arrOf st').toList.drop lo).take n)++((arrOf st').toList.drop lo).drop n) lo st':=by
    refine⟨⟨Rs,?_,by rw[hB'.pend];exact e2,e3⟩,hB'.kind,hB'.failed,hB'.perm⟩
    rw[p1_,<- htk,p1_]
   have:=jni_ C h0 (size:=a₀.size) (Q:=Q) hRI (fun z=>by rw[z] at hRl;simp at hRl;omega) (jfs_ (by rw[hsz];exact hn2) hs) fun st'' h''=>by
    rw[hRl] at h'' ⊢
    exact q _ _ _ (by omega) h''
   rw[hRl] at this
   exact this
  refine wpS_bind (jaw_ C h0 (by omega) (by omega) (by omega) hB fun m st' hB' hm1 hm2 hs=>?_)
  dsimp only
  by_cases c2:m < minRun' a₀.size a₀.size 0
  ·rw[if_pos c2]
   refine wpS_bind (wpS_lift (wpAny_rule ⟨rfl,?_⟩))
   refine wpS_bind (um_ C h0 (by omega) (by omega) (by omega) hB' hs fun st'' hB'' hs''=>?_)
   simp only[qv_,pi_,if_false]
   exact fin _ _ (by omega) (by omega) hB'' hs''
  ·rw[if_neg c2]
   exact fin _ _ hm1 (by omega) hB' hs
theorem jax_ (C:Cmp prog w A E s kd κ.toKeyOrd (okK κ) (keyK κ)) (h0:∀ p∈a₀.toList,okK κ p) {Q:Unit->SortSt->Prop} (ha:arrOf st=a₀) (hp:pendingOf st=#[]) (hk:kindOf st=kd) (hf:failedOf st=none)
  (h:∀ st',(arrOf st').Perm a₀->failedOf st'=none->Srt κ.toKeyOrd (keyK κ) (arrOf st').toList->Q () st'):wpS (model prog w) A E s sortRuns' Q st:=by
 rw[jjs_]
 refine wpS_bind (wpS_get ?_)
 rw[ha]
 have hRI:RI κ kd a₀ a₀.toList 0 st:=⟨⟨[],by rw[ha];rfl,by rw[hp];trivial,rfl⟩,hk,hf,by rw[ha]⟩
 refine wpS_bind (wpS_mono (wpS_forRange (I:=fun t c st'=>∃ S lo,c=(none,lo)/\min t a₀.size<=lo/\RI κ kd a₀ S lo st') (Q:=fun c st'=>∃ S lo,c=(none,lo)/\a₀.size<=lo/\RI κ kd a₀ S lo st') ?step ?fin ⟨_,0,rfl,by omega,hRI⟩) ?post)
 case fin =>
  rintro c st' ⟨S,lo,rfl,hl,hr⟩
  exact⟨S,lo,rfl,by omega,hr⟩
 case step =>
  rintro t c st' _ ht ⟨S,lo,rfl,hl,hr⟩
  exact jly_ C h0 hr (fun hge=>⟨S,lo,rfl,hge,hr⟩) fun S' lo' st'' hlt hr'=>⟨S',lo',rfl,by omega,hr'⟩
 case post =>
  rintro c st' ⟨S,lo,rfl,hl,hr⟩
  dsimp only
  have hsz:=hr.size
  have hlo:lo=a₀.size:=by omega
  have hS:S=[]:=tv_ (by omega)
  subst hS
  refine wpS_bind (wpS_mono (wpS_forRange (I:=fun t c st'=>c=(none,())/\RI κ kd a₀ [] lo st'/\((pendingOf st').size<=1∨(pendingOf st').size+t<=a₀.size)) (Q:=fun c st'=>c=(none,())/\RI κ kd a₀ [] lo st'/\(pendingOf st').size<=1) ?step2 ?fin2 ⟨rfl,hr,.inr (by omega)⟩) ?post2)
  case fin2 =>
   rintro c st' ⟨rfl,hr,hp⟩
   exact⟨rfl,hr,by omega⟩
  case step2 =>
   rintro t c st' _ ht ⟨rfl,hr,hp⟩
   unfold runF
   refine wpS_bind (wpS_get ?_)
   by_cases c1:(pendingOf st').size<=1
   ·rw[if_pos c1];exact wpS_pure ⟨rfl,hr,c1⟩
   ·rw[if_neg c1]
    have go:∀ i,i+1 < (pendingOf st').size->wpS (model prog w) A E s (do
      let b <- mergeAt' i
      if (!b)=true then pure (ForInStep.done (some (),())) else pure (ForInStep.yield (none,())):SM (ForInStep (Option Unit×Unit))) (fun r st''=>match r with | .done c'=>c'=(none,())/\RI κ kd a₀ [] lo st''/\(pendingOf st'').size<=1 | .yield c'=>c'=(none,())/\RI κ kd a₀ [] lo st''/\((pendingOf st'').size<=1∨(pendingOf st'').size+(t+1)<=a₀.size)) st':=fun i hi=>by
     refine wpS_bind (hr.merge C h0 hi fun st'' h'' hz=>?_)
     simp only[qv_,pi_,if_false]
     exact wpS_pure ⟨rfl,h'',by omega⟩
    refine wpS_mono (go _ ?_) fun r st h=>by cases r <;> exact h
    generalize (Option.any _ _:Bool)=bb
    cases bb <;> simp <;> omega
  case post2 =>
   rintro c st' ⟨rfl,hr,hp⟩
   obtain⟨Rs,e1,e2,e3⟩:=id hr.runs
   have hl:=e2.len.1
   have hl2:(pendingOf st').toList.length=(pendingOf st').size:=by simp
   refine wpS_pure (h st' hr.perm hr.failed ?_)
   rw[e1,p8_]
   match Rs,hl,e2 with
   | [],_,_=>exact sg_.nil
   | [R],_,e2 =>
    match hpd:(pendingOf st').toList,e2 with
    | p::_,e2 =>
     rw[qj_,List.flatten_nil,p8_]
     exact e2.2.2.2.1
   | _::_::_,hl,_=>simp at hl;omega
end
end PyProof.Rows
set_option autoImplicit false
namespace PyProof.Rows
open PySem
section
variable {prog:Program} {w:World} {A:Around} {E:Value->Shared->Prop} {s:Shared}
def zc_ (h:Heap) (a:Addr) (vs:List Value):Heap:=((h.update a (ti_ fun _=>#[])).push (seqObj "tuple" vs.toArray 0)).push (seqObj "list" #[] 0)
theorem un_ {κ:KeyKind} {kd:SortKind} {a:Addr} {vs:List Value} {n:Nat} {P:Fin->Shared->Prop} (ho:s.heap.get? a=some (seqObj "list" vs.toArray n))
  (h0:∀ v∈vs,∃ x,κ.keyOf v=some x) (hkk:2<=vs.length->∀ Q:SortKind->Shared->Prop,Q kd { s with heap:=zc_ s.heap a vs }->wpAny (model prog w) A (keyKind' vs.toArray) Q E { s with heap:=zc_ s.heap a vs })
  (C:Cmp prog w A E { s with heap:=zc_ s.heap a vs } kd κ.toKeyOrd (okK κ) (keyK κ)) (hz:vs.length<=sizeLine)
  (h:∀ st':SortSt,(arrOf st').Perm (pairsOf vs)->Srt κ.toKeyOrd (keyK κ) (arrOf st').toList->P (.done (.ret .none)) { s with heap:=sortedHeap s.heap a vs ((arrOf st').map (·.2)) }) :
  wpAny (model prog w) A (Builtin.«list.sort» ⟨[.ref a],[]⟩) P E s:=by
 rw[list_sort_plain]
 have ha:a < s.heap.objs.size:=pv_ ho
 refine wpAny_bind (listItems_at ho rfl ?_)
 refine wpAny_bind (listUpdate_at ho rfl ?_ (by rw[pj_];exact hz))
 obtain⟨e1,ho1⟩:∃ e1,(s.heap.update a (ti_ fun _=>#[])).get? a=some (seqObj "list" #[] e1):=⟨_,get?_update_seq ho (fun _=>#[])⟩
 refine wpAny_bind (seqEpoch_at ho1 rfl ?_)
 refine wpAny_bind (wpAny_newTuple ?_ (by first | (rw[pj_];exact hz) | simpa using hz))
 refine wpAny_bind (wpAny_newList ?_)
 refine wpAny_holding ?_
 have ho6:(zc_ s.heap a vs).get? a=some (seqObj "list" #[] e1):=by
  unfold zc_
  rw[Heap.get?_push_ne _ _ _ (by rw[size_push',Heap.size_update];exact qc_ (Nat.lt_succ_of_lt ha)),Heap.get?_push_ne _ _ _ (by rw[Heap.size_update];exact qc_ ha)]
  exact ho1
 show wpAny (model prog w) A _ P E { s with heap:=zc_ s.heap a vs }
 dsimp only
 have hsz:vs.toArray.size=vs.length:=by simp
 have hsl:sizeLine<=sizeLine+1:=Nat.le_succ _
 by_cases h2:vs.toArray.size < 2
 ·rw[if_pos h2,if_pos h2]
  refine wpAny_bind (wpAny_pure ?_)
  rw[StateT.run_pure]
  refine wpAny_bind (wpAny_pure ?_)
  dsimp only
  refine wpAny_bind (seqEpoch_at ho6 rfl ?_)
  refine wpAny_bind (listUpdate_at ho6 rfl ?_ (hsz2:=by rw[Array.size_map];show (pairsOf vs).size<=_;rw[pairsOf_size];omega))
  simp only[bne_self_eq_false,pi_,if_false]
  refine wpAny_pure (h (SortSt.mk' general' (vs.toArray.zip vs.toArray) #[] 7 none) (Array.Perm.refl _) ?_)
  have hl:(pairsOf vs).toList.length < 2:=by rw[lens,pairsOf_size];omega
  show Srt κ.toKeyOrd (keyK κ) (pairsOf vs).toList
  match (pairsOf vs).toList,hl with
  | [],_=>exact sg_.nil
  | [x],_=>exact List.pairwise_singleton _ _
 ·rw[if_neg h2,if_neg h2]
  refine wpAny_bind (hkk (by omega) _ ?_)
  refine wpAny_bind (wpAny_mono (jax_ (κ:=κ) C (a₀:=pairsOf vs) (st:=SortSt.mk' kd (vs.toArray.zip vs.toArray) #[] 7 none)
   (Q:=fun _ st'=>(arrOf st').Perm (pairsOf vs)/\failedOf st'=none/\Srt κ.toKeyOrd (keyK κ) (arrOf st').toList)
   (fun p hp=>by
    rw[pairsOf_toList] at hp
    have:=mem_zip_self hp
    obtain⟨x,hx⟩:=h0 _ this.2
    exact⟨x,hx⟩) rfl rfl rfl rfl fun st' a1 a2 a3=>⟨a1,a2,a3⟩) ?_ fun _ _ e=>e)
  rintro⟨⟨⟩,st'⟩ s' ⟨rfl,hp,hf,hs⟩
  dsimp only
  refine wpAny_bind (seqEpoch_at ho6 rfl ?_)
  refine wpAny_bind (listUpdate_at ho6 rfl ?_ (hsz2:=by refine p5_ (w9_ ((Array.size_map ..).trans (hp.size_eq.trans (pairsOf_size _)))) ?_;omega))
  rw[hf]
  simp only[bne_self_eq_false,pi_,if_false]
  exact wpAny_pure (h st' hp hs)
end
end PyProof.Rows
namespace L2
open PySem PySem.Spec PyProof.Rows
section
variable {κ:Type} [DecidableEq κ]
theorem RelO.getD {o:Option V} {u:Option Value} {d:V} {d':Value} (r:RelO o u) (rd:RelV d d'):RelV (o.getD d) (u.getD d'):=by
 cases o with
 | none=>cases u with
  | none=>exact rd
  | some _=>exact(show False from r).elim
 | some _=>cases u with
  | none=>exact(show False from r).elim
  | some _=>exact r
end
theorem jqr_ {P:Program} {w:World} {k:Key} {u:Value} (r:RelV (kV k) u):(jw_ P w).is k u=true:=by
 cases k with
 | inl i=>obtain⟨t,e⟩:=(show ∃ t,u=Value.int i t from r);subst e;exact jeg_ P w i t
 | inr x=>obtain⟨t,e⟩:=(show ∃ t,u=Value.str x t from r);subst e;exact yp_ P w x t
theorem jbe_ {P:Program} {w:World}:∀{ks:List Key} {us:List Value},Vals (ks.map kV) us->ItemsAre (jw_ P w) ks us
 | [],_,r=>by rw[rf_] at r;cases r;exact .nil
 | k::ks,_,r=>by
  rw[ps_] at r
  cases r with
  | cons h t=>exact .cons (jqr_ h) (jbe_ t)
section
variable {P:Program} {w:World} {H:Hp} {h:Heap} {a:Addr}
theorem jtd_ {u:HO} (ok:HOk P w H h) (e:Rd H a u):ObjOk P w H h a u:=e.ok ok
theorem jrf_ {ks:List Key} (ok:HOk P w H h) (e:H a=some (.tup (ks.map kV))):(tupleKind (jw_ P w)).is h ks a:=by
 obtain⟨_,its,r,o,h1,h2,n,h3⟩:=(show ObjOk P w H h a (.tup (ks.map kV)) from ok a _ e)
 exact⟨o,its.toArray,n,h1,h2,h3,by simpa using jbe_ r⟩
end
section
variable {X:Cx} {pins:List (Addr×Obj)} {σ:St} {H:Hp} {s:Shared} {a:Addr} {y v:V} {u r:Value} {o:Option V} {A:Around} {E:Value->Shared->Prop}
theorem Inv.big (I:Inv X pins σ H s):sysModules < s.heap.objs.size:=by
 have h:mainGlobals < s.heap.objs.size:=(I.mod.glob.keeps I.bk).lt
 exact Nat.lt_trans (by decide) h
theorem joy_ {h':Heap} {t':Nat} {ob:HO} (I:Inv X pins σ H s) (mu:Mut (H a)) (hs:q6_ a s.heap h') (he:∃ q,h'.get? a=some q) (new:ObjOk X.prog X.w (upd H a ob) h' a ob) :
  Inv X pins σ (upd H a ob) { s with heap:=h',toks:=t' } :=
 I.write (x:=a) (e:=a) mu (.inl rfl) (fun b q hb z=>(hs.2 b hb).trans z) he new
end
section
variable {X:Cx} {pins:List (Addr×Obj)} {σ:St} {H:Hp} {s:Shared} {a:Addr} {kvs:List (Key×V)} {k:Key} {u:Value} {A:Around} {E:Value->Shared->Prop}
end
def NoSl (i:Expr):Prop:=∀ ov iv,subscripted i false ov iv=operate [ov,iv] (getItem ov iv)
theorem jnt_ {prog:Program} {w:World} {A:Around} {E:Value->Shared->Prop} {s:Shared} {env:Env} {value slice:Expr} {pos:Pos} {T id:String} {Q:Value->Shared->Prop}
  (hl:typeLookup (.type T) "__getitem__"=pure (some (.builtin id))) (hs:NoSl slice)
  (h:wpAny (model prog w) A (eval value env) (fun o s₁=>wpAny (model prog w) A (eval slice env) (fun i s₂=>s₂.TypeIs o T/\wpAny (model prog w) A (getItem o i) Q E s₂) E s₁) E s) :
  wpAny (model prog w) A (eval (.Subscript value slice pos) env) Q E s:=by
 refine Subscript_ (wpAny_mono h (fun o s₁ h₁=>wpAny_mono h₁ (fun i s₂ h₂=>?_) fun _ _ x=>x) fun _ _ x=>x)
 obtain⟨hT,h₂⟩:=h₂
 unfold subscriptTail
 refine wpAny_bind ?_
 rw[getitemInPython_of_ne hT.not_modules]
 refine wpAny_bind (wpAny_specialOf hT hl ?_)
 have fin:wpAny (model prog w) A (subscripted slice false o i) (fun r s₃=>wpAny (model prog w) A (letTemporaryGo value o r >>= fun _=>pure r) Q E s₃) E s₂:=by
  rw[hs o i]
  exact wpAny_operating (wpAny_mono h₂ (fun r s₃ h₃=>wpAny_bind (wpAny_letTemporaryGo (wpAny_pure h₃))) fun _ _ x=>x)
 first
  | exact wpAny_pure (wpAny_bind fin)
  | exact wpAny_bind (wpAny_pure (wpAny_bind fin))
  | exact wpAny_bind fin
section
variable {X:Cx} {o i e value:Expr} {pos pos' tpos:Pos} {td ty tv:TE}
end
section
variable {X:Cx} {pos:Pos}
end
structure M1 (X:Cx) (o:Expr) (m:Str) (apos:Pos) (e:Expr) (cpos:Pos):Prop where
 base:attributeBase o m X.env (eval o X.env)=eval o X.env
 few:((backTo cpos (starEach [e] X.env)).all (fun x=>!x.1)&&(backToKw cpos (keywordEach [] X.env)).all (fun x=>x.1.isSome)
  && decide (([e]:List Expr).length+([]:List Keyword).length+(if ([]:List Keyword).isEmpty then 0 else 1) < 30))=true
 line:(apos.endLine == cpos.line)=true
 trees:backTo cpos (starEach [e] X.env)=[(false,eval e X.env)]
structure M2 (X:Cx) (o:Expr) (m:Str) (apos:Pos) (e f:Expr) (cpos:Pos):Prop where
 base:attributeBase o m X.env (eval o X.env)=eval o X.env
 few:((backTo cpos (starEach [e,f] X.env)).all (fun x=>!x.1)&&(backToKw cpos (keywordEach [] X.env)).all (fun x=>x.1.isSome)
  && decide (([e,f]:List Expr).length+([]:List Keyword).length+(if ([]:List Keyword).isEmpty then 0 else 1) < 30))=true
 line:(apos.endLine == cpos.line)=true
 trees:backTo cpos (starEach [e,f] X.env)=[(false,eval e X.env),(false,eval f X.env)]
section
variable {X:Cx} {pins:List (Addr×Obj)} {σ:St} {H:Hp} {s:Shared} {a:Addr} {y d:V} {u r:Value} {o:Option V} {A:Around} {E:Value->Shared->Prop}
end
section
variable {X:Cx} {o e f:Expr} {apos cpos:Pos} {td ty tx:TE}
end
section
variable {X:Cx} {pins:List (Addr×Obj)} {σ:St} {H:Hp} {s:Shared} {a:Addr} {kvs:List (Key×V)} {A:Around} {E:Value->Shared->Prop}
end
section
variable {X:Cx} {pins:List (Addr×Obj)} {σ:St} {H:Hp} {s:Shared} {a:Addr} {y:V} {u:Value} {A:Around} {E:Value->Shared->Prop}
end
end L2
namespace L2
open PySem PySem.Spec PyProof.Rows
section
variable {X:Cx}
end
end L2
namespace L2
open PySem
section
variable {prog:Program} {w:World} {A:Around} {E:Value->Shared->Prop} {s:Shared}
end
open PySem.Spec PyProof.Rows
end L2
namespace L2
open PySem PySem.Spec
section
variable {prog:Program} {w:World} {A:Around} {E:Value->Shared->Prop} {s:Shared}
end
end L2
namespace L2
open PySem PySem.Spec PyProof.Rows
section
variable {prog:Program} {w:World} {A:Around} {E:Value->Shared->Prop} {s:Shared} {z TI TO i1 i2 l1 l2 S:Addr} {xs ys:Array Value} {R:Result->Shared->Prop}
end
end L2
namespace L2
open PySem PySem.Spec PyProof.Rows
section
variable {X:Cx} {pins:List (Addr×Obj)} {σ:St} {H H':Hp} {s:Shared} {h':Heap}
end
section
variable {X:Cx}
end
end L2
namespace L2
open PySem PySem.Spec PyProof.Rows
section
variable {X:Cx}
end
end L2
namespace L2
open PySem PySem.Spec PyProof.Rows
section
variable {X:Cx}
theorem jeu_ {h1:Heap} {out:Array Value} {acc:List Value} {b:Addr} {o:Obj} (eb:h1.get? b=some o):(sortedHeap (h1.push (seqObj "list" acc.toArray 0)) h1.objs.size acc out).get? b=some o:=by
 have hlt:=pv_ eb
 rw[sortedHeap_old (qc_ hlt) (by rw[tn_];exact Nat.lt_succ_of_lt hlt)]
 exact pg_ _ eb
end
@[reducible] def tabKind (ps:List (Addr×Str)):km_:={ PyProof.Rows.strKind with keyOf:=fun v=>match v with | .ref a=>(ps.lookup a).map (fun x=>x.cps.toList) | _=>none }
theorem jaq_ (f:Bool) (x y:Value):keyLt' (tuples' f) x y=(do
  let xs <- tg_ x
  let ys <- tg_ y
  for ((p,q),i) in (xs.toList.zip ys.toList).zipIdx do
   if !(<- eqBool p q) then return <- oneLt' (f&&i == 0) p q
  return xs.size < ys.size):=rfl
theorem vu_ (v:Value):firstOfTuple' v=(do
  if (<- typeOf v) != .type "tuple" then return none
  return (<- tg_ v)[0]?):=rfl
def jpt_ (h:Heap) (ps:List (Addr×Str)):Prop:=∀ a x,(a,x)∈ps->∃(o:Obj) (t:Tok) (v:Value) (n:Nat),h.get? a=some o/\o.cls=.type "tuple"/\o.data=.seq #[.str x t,v] n
theorem jic_ {x y:Str} (h:x.cps.toList=y.cps.toList):x=y:=by
 cases x;cases y
 simp only at h
 congr 1
 exact Array.toList_inj.mp h
section
variable {prog:Program} {w:World} {A:Around} {E:Value->Shared->Prop} {s:Shared}
end
end L2
namespace L2
open PySem PySem.Spec PyProof.Rows
section
variable {prog:Program} {w:World} {A:Around} {E:Value->Shared->Prop} {s:Shared}
theorem xg_ {α β:Type} {M:Model} {f:α->Sem β} {R:α->β->Prop}:∀{l:List α} {Q:List β->Shared->Prop},(∀ x∈l,∀ Q':β->Shared->Prop,(∀ y,R x y->Q' y s)->wpAny M A (f x) Q' E s)->(∀ ys,Paired R l ys->Q ys s)->wpAny M A (l.mapM f) Q E s
 | [],Q,_,h=>by rw[List.mapM_nil];exact wpAny_pure (h [] .nil)
 | x::l,Q,hf,h=>by
  rw[List.mapM_cons]
  refine wpAny_bind (hf x po_ _ fun y hy=>?_)
  refine wpAny_bind (xg_ (fun z hz=>hf z (pm_ _ hz)) fun ys hys=>?_)
  exact wpAny_pure (h _ (.cons hy hys))
theorem jev_ {ps:List (Addr×Str)} (hT:jpt_ s.heap ps) (h1:ps≠[]) {Q:SortKind->Shared->Prop} (q:Q (tuples' true) s):wpAny (model prog w) A (keyKind' (ps.map fun p=>Value.ref p.1).toArray) Q E s:=by
 rw[keyKind'_eq,List.mapM_toArray]
 refine wpAny_bind ?_
 rw[map_eq_pure_bind]
 refine wpAny_bind (xg_ (R:=fun v f=>∃ x t,f=some (Value.str x t)) (fun v hv Q' q'=>?_) fun fs hfs=>wpAny_pure ?_)
 ·obtain⟨p,hp,rfl⟩:=pu_.mp hv
  obtain⟨o,t,v,n,e1,e2,e3⟩:=hT p.1 p.2 hp
  rw[vu_]
  refine wpAny_bind (wpAny_typeOf (T:="tuple") ⟨o,e1,e2⟩ ?_)
  rw[if_neg (by decide)]
  refine wpAny_bind (listItems_at e1 e3 ?_)
  exact wpAny_pure (q' _ ⟨p.2,t,rfl⟩)
 ·obtain⟨ss,hss,hal,hfm⟩:∃ ss:List Str,StrsAre (fs.filterMap id) ss/\(fs.all (·.isSome))=true/\(fs.filterMap id).length=fs.length:=by
   clear q
   have hl:fs.length=fs.length:=rfl
   generalize (ps.map fun p=>Value.ref p.1)=vs at hfs
   induction hfs with
   | nil=>exact⟨[],.nil,rfl,rfl⟩
   | @cons v f vs fs hr t ih =>
    obtain⟨ss,i1,i2,i3⟩:=ih rfl
    obtain⟨x,t,rfl⟩:=hr
    exact⟨x::ss,by rw[rq_];exact .cons x t i1,by rw[ww_,i2];rfl,by rw[rq_];simp[i3]⟩
  have hlen:fs.length=ps.length:=by
   have:=wu_ hfs
   rw[pb_] at this;exact this.symm
  rw[if_pos (by rw[List.all_toArray];exact hal)]
  refine wpAny_bind (wpAny_rule ?_)
  have hft:(fs.toArray.filterMap id)=(fs.filterMap id).toArray:=by simp
  rw[hft,oneTypeOnly'_eq,List.mapM_toArray,mapM_typeOf_strs hss]
  simp only[map_pure,pure_bind]
  have hall:((List.map (fun _=>Value.type "str") (fs.filterMap id)).toArray.all fun x=>x == Value.type "str")=true:=by
   simp only[List.all_toArray,k3_,s1_]
   intro _ _
   rfl
  have hpos:0 < (fs.filterMap id).length:=by rw[hfm,hlen];exact rg_.mpr h1
  have h0:(List.map (fun _=>Value.type "str") (fs.filterMap id)).toArray[0]?=some (Value.type "str"):=by
   cases hfl:fs.filterMap id with
   | nil=>rw[hfl] at hpos;simp at hpos
   | cons a r=>simp
  rw[h0]
  simp only[hall,if_true,pure_bind]
  exact wpAny_pure q
end
section
variable {X:Cx}
end
end L2
namespace L2
open PySem PySem.Spec PyProof.Rows
section
variable {prog:Program} {w:World} {A:Around} {E:Value->Shared->Prop} {s:Shared}
theorem v8_ {Q:Int->Shared->Prop} (h:Q 0xFCA86420 { s with toks:=s.toks+1 }):wpAny (model prog w) A (pyHash Value.none) Q E s:=by
 have hT:s.TypeIs Value.none "NoneType":=rfl
 unfold pyHash
 first | unfold pyHashByItsType | skip
 have hv:[Value.none].any Value.onHeap=false:=rfl
 refine wpAny_bind ?_
 rw[cRoomFor,if_neg (by rw[hv];exact pf_)];refine wpAny_pure ?_
 refine wpAny_bind (wpAny_specialOf hT sw_.lookup ?_)
 show wpAny _ _ (if (some (Value.builtin "NoneType.__hash__") == some Value.none)=true then _ else _) Q E s
 rw[if_neg (by rw[beq_builtin_none];exact pf_)]
 refine wpAny_bind (wpAny_specialOf hT sw_.lookup ?_)
 show wpAny _ _ (callSpecialIfBoundUnlessNone? Value.none "__hash__" _ >>= _) Q E s
 refine wpAny_bind (wpAny_callSpecialIfBoundUnlessNone?_slot hT sw_
  (wpAny_call_entry sw_ hT F.entry_NoneType_hash
   (show wpAny _ _ (do ret (<- mkInt 0xFCA86420)) _ _ s from wpAny_ret_mkInt ?_) (F.args_NoneType_hash_1 _)))
 show wpAny _ _ (if (decide (-(2:Int) ^ 63<=0xFCA86420)&&decide ((0xFCA86420:Int) < 2 ^ 63))=true then _ else _) Q E _
 rw[if_pos (by decide)]
 exact wpAny_pure h
end
def oIs:Option Key->Value->Bool
 | none,v=>v == Value.none
 | some k,v=>xi_ k v
theorem zm_ {k:Option Key} {v:Value} (h:oIs k v=true):(k=none/\v=Value.none)∨∃ k',k=some k'/\xi_ k' v=true:=by
 cases k with
 | none=>exact .inl ⟨rfl,eq_of_beq h⟩
 | some k=>exact .inr ⟨k,rfl,h⟩
theorem jbx_ {k:Key}:xi_ k Value.none=false:=by cases k <;> rfl
def jgx_ (prog:Program) (w:World):ks_ prog w (Option Key) where
 is:=oIs
 hash:=fun k=>match k with
  | none=>0xFCA86420
  | some k=>keyH w k
 inj:=fun v a b ha hb=>by
  rcases zm_ ha with ⟨rfl,rfl⟩ | ⟨x,rfl,hx⟩
  ·rcases zm_ hb with ⟨rfl,_⟩ | ⟨y,rfl,hy⟩
   ·rfl
   ·rw[jbx_] at hy;cases hy
  ·rcases zm_ hb with ⟨rfl,rfl⟩ | ⟨y,rfl,hy⟩
   ·rw[jbx_] at hx;cases hx
   ·rw[(jw_ prog w).inj v x y hx hy]
 byValue:=fun k v h=>by
  rcases zm_ h with ⟨rfl,rfl⟩ | ⟨x,rfl,hx⟩
  ·rfl
  ·exact(jw_ prog w).byValue x v hx
 pyHash:=fun{A E s k v Q} hv h=>by
  rcases zm_ hv with ⟨rfl,rfl⟩ | ⟨x,rfl,hx⟩
  ·exact v8_ h
  ·exact(jw_ prog w).pyHash (k:=x) hx h
 eqBool:=fun{A E s a b u v Q} hu hv h=>by
  rcases zm_ hu with ⟨rfl,rfl⟩ | ⟨x,rfl,hx⟩
  ·rcases zm_ hv with ⟨rfl,rfl⟩ | ⟨y,rfl,hy⟩
   ·exact qn_.same Value.none _ _ _ _ (by simpa using h)
   ·have h:Q false s:=by simpa using h
    rcases jx_ hy with ⟨i,t,rfl,rfl⟩ | ⟨z,t,rfl,rfl⟩
    ·exact kn_ i t _ _ _ _ h
    ·exact ko_ z t _ _ _ _ h
  ·rcases zm_ hv with ⟨rfl,rfl⟩ | ⟨y,rfl,hy⟩
   ·have h:Q false s:=by simpa using h
    rcases jx_ hx with ⟨i,t,rfl,rfl⟩ | ⟨z,t,rfl,rfl⟩
    ·exact kp_ i t _ _ _ _ h
    ·exact kq_ z t _ _ _ _ h
   ·refine(jw_ prog w).eqBool hx hy ?_
    have:decide (some x=some y)=decide (x=y):=by simp
    rw[<- this];exact h
 «strs»:=fun k x t v h=>by
  rcases zm_ h with ⟨rfl,e⟩ | ⟨y,rfl,hy⟩
  ·cases e
  ·exact(jw_ prog w).strs y x t v hy
end L2
namespace L2
open PySem PySem.Spec PyProof.Rows
structure OwnKind (K:Type) [DecidableEq K] where
 hk:(P:Program)->(w:World)->HeapKind P w K
 at_:Hp->K->Addr->Prop
 of:∀{P:Program} {w:World} {H:Hp} {h:Heap} {k:K} {a:Addr},HOk P w H h->at_ H k a->(hk P w).is h k a
 room:∀{P:Program} {w:World} {A:Around},A.units+4 < cLine->(hk P w).room A.in1
 room0:∀{P:Program} {w:World} {A:Around},A.units+4 < cLine->(hk P w).room A
section
variable {K:Type} [DecidableEq K]
def valX (kvs:List (K×Addr×V)) (k:K):Option V:=(kvs.find? fun e=>decide (e.1=k)).map (·.2.2)
def putX (kvs:List (K×Addr×V)) (k:K) (b:Addr) (v:V):List (K×Addr×V):=if (kvs.any fun e=>decide (e.1=k))=true then kvs.map (fun e=>if e.1=k then (e.1,e.2.1,v) else e) else kvs++[(k,b,v)]
def KX (kvs:List (K×Addr×V)) (xs:List (K×Addr×Value)):Prop:=Paired (fun(p:K×Addr×V) (q:K×Addr×Value)=>p.1=q.1/\p.2.1=q.2.1/\RelV p.2.2 q.2.2) kvs xs
theorem KX.val {kvs:List (K×Addr×V)} {xs:List (K×Addr×Value)} (r:KX kvs xs) (k:K):RelO (valX kvs k) ((atKey xs k).map (·.2)):=by
 unfold KX at r
 induction r with
 | nil=>exact True.intro
 | @cons p q ps qs h t ih =>
  obtain⟨h1,h2,h3⟩:=h
  unfold valX atKey at ih ⊢
  rw[sa_,sa_,<- h1]
  by_cases e:p.1=k
  ·simp only[e,decide_true,sp_];exact h3
  ·simp only[e,decide_false];exact ih
theorem KX.any {kvs:List (K×Addr×V)} {xs:List (K×Addr×Value)} (r:KX kvs xs) (k:K):(kvs.any fun e=>decide (e.1=k))=(atKey xs k).isSome:=by
 unfold KX at r
 induction r with
 | nil=>rfl
 | @cons p q ps qs h t ih =>
  unfold atKey at ih ⊢
  rw[ty_,sa_,<- h.1,ih]
  by_cases e:p.1=k
  ·simp[e]
  ·simp[e]
theorem KX.put {kvs:List (K×Addr×V)} {xs:List (K×Addr×Value)} (r:KX kvs xs) (k:K) (b:Addr) {y:V} {u:Value} (ry:RelV y u):KX (putX kvs k b y) (storedH xs k b u):=by
 unfold putX storedH
 rw[r.any]
 by_cases q:(atKey xs k).isSome=true
 ·rw[if_pos q,if_pos q]
  unfold KX at r ⊢
  clear q
  induction r with
  | nil=>exact .nil
  | @cons p q ps qs h t ih =>
   rw[ps_,ps_]
   refine .cons ?_ ih
   obtain⟨h1,h2,h3⟩:=h
   unfold putAt
   by_cases e:p.1=k
   ·rw[if_pos e,if_pos (h1.symm.trans e)];exact⟨h1,h2,ry⟩
   ·rw[if_neg e,if_neg (fun z=>e (h1.trans z))];exact⟨h1,h2,h3⟩
 ·rw[if_neg q,if_neg q];exact Paired.snoc r ⟨rfl,rfl,ry⟩
theorem xn_ (kvs:List (K×Addr×V)) (k:K) (b:Addr) (v:V):(putX kvs k b v).length<=kvs.length+1:=by
 unfold putX
 split
 ·rw[pb_];omega
 ·rw[pd_];exact pk_ _
theorem jks_ {kvs:List (K×Addr×V)} {k:K} {b:Addr} {v:V} {e:K×Addr×V} (h:e∈putX kvs k b v):(∃ v',(e.1,e.2.1,v')∈kvs)∨(e.1=k/\e.2.1=b):=by
 unfold putX at h
 split at h
 ·obtain⟨x,hx,rfl⟩:=pu_.mp h
  split
  ·exact .inl ⟨x.2.2,hx⟩
  ·exact .inl ⟨x.2.2,hx⟩
 ·rcases pr_.mp h with h | h
  ·exact .inl ⟨e.2.2,h⟩
  ·have:e=(k,b,v):=by simpa using h
   rw[this];exact .inr ⟨rfl,rfl⟩
theorem jaa_ (kvs:List (K×Addr×V)) (k:K) (b:Addr) (v:V) (j:K):valX (putX kvs k b v) j=if j=k then some v else valX kvs j:=by
 unfold valX putX
 split
 ·rename_i h
  induction kvs with
  | nil=>simp at h
  | cons e kvs ih =>
   rw[ps_,sa_,sa_]
   by_cases he:e.1=k
   ·rw[if_pos he]
    by_cases hj:j=k
    ·subst hj;simp[he]
    ·have:¬ e.1=j:=fun z=>hj (z.symm.trans he)
     simp only[this,decide_false,if_neg hj]
     by_cases ha:(kvs.any fun e=>decide (e.1=k))=true
     ·have:=ih ha
      rw[if_neg hj] at this;exact this
     ·have hid:kvs.map (fun e=>if e.1=k then (e.1,e.2.1,v) else e)=kvs:=by
       conv=>rhs;rw[<- List.map_id kvs]
       refine qp_ fun x hx=>?_
       rw[if_neg fun z=>ha (tw_.mpr ⟨x,hx,decide_eq_true z⟩)];rfl
      rw[hid]
   ·rw[if_neg he]
    have ha:(kvs.any fun e=>decide (e.1=k))=true:=by
     rw[ty_] at h
     simpa [he] using h
    by_cases hj:e.1=j
    ·have:¬ j=k:=fun z=>he (hj.trans z)
     simp[hj,this]
    ·simp only[hj,decide_false];exact ih ha
 ·rename_i h
  rw[List.find?_append]
  by_cases hj:j=k
  ·subst hj
   have:kvs.find? (fun e=>decide (e.1=j))=none:=by
    rw[wc_]
    intro x hx hd
    exact h (tw_.mpr ⟨x,hx,hd⟩)
   rw[this];simp
  ·have:[(k,b,v)].find? (fun e=>decide (e.1=j))=none:=by
    rw[wc_]
    intro x hx
    have:x=(k,b,v):=by simpa using hx
    subst this
    simpa using wf_ hj
   rw[this,Option.or_none,if_neg hj]
variable (N:OwnKind K)
def DX (P:Program) (w:World) (a:Addr) (kvs:List (K×Addr×V)):HO:=.ext fun h=>kvs.length<=sizeLine/\(a == sysModules)=false/\∃ xs:List (K×Addr×Value),KX kvs xs /\
 ∃ o es ep,h.get? a=some o/\o.ExactDict/\o.data=.dict es ep/\es.toList=xs.map (entryOfKey (N.hk P w))/\(xs.map (·.1)).Nodup
variable {N}
theorem jpz_ {P:Program} {w:World} {H:Hp} {h:Heap} {a:Addr} {kvs:List (K×Addr×V)} (h1:kvs.length<=sizeLine) (h2:(a == sysModules)=false) {xs:List (K×Addr×Value)} (h3:KX kvs xs) {o:Obj} {es:Array DictEntry} {ep:Nat} (h4:h.get? a=some o) (h5:o.ExactDict) (h6:o.data=.dict es ep) (h7:es.toList=xs.map (entryOfKey (N.hk P w))) (h8:(xs.map (·.1)).Nodup):ObjOk P w H h a (DX N P w a kvs) :=
 ⟨⟨h1,h2,xs,h3,o,es,ep,h4,h5,h6,h7,h8⟩,⟨o,h4⟩,fun _ _ ⟨q1,q2,xs,q3,o,es,ep,q4,q⟩ k=>⟨q1,q2,xs,q3,o,es,ep,k _ q4,q⟩⟩
def KO (N:OwnKind K) (H:Hp) (kvs:List (K×Addr×V)):Prop:=∀ e∈kvs,N.at_ H e.1 e.2.1
theorem KO.put {H:Hp} {kvs:List (K×Addr×V)} {k:K} {b:Addr} {v:V} (h:KO N H kvs) (hb:N.at_ H k b):KO N H (putX kvs k b v):=fun e he=>by
 rcases jks_ he with ⟨v',h'⟩ | ⟨e1,e2⟩
 ·exact h (e.1,e.2.1,v') h'
 ·rw[e1,e2];exact hb
theorem jdt_ {P:Program} {w:World} {H:Hp} {h:Heap} {a:Addr} {kvs:List (K×Addr×V)} (ok:HOk P w H h) (e:Rd H a (DX N P w a kvs)) (hK:KO N H kvs):kvs.length<=sizeLine/\(a == sysModules)=false/\∃ xs,KX kvs xs/\h.DictOfH (N.hk P w) a xs:=by
 obtain⟨⟨z,y,xs,r,o,es,ep,h1,h2,h3,h4,h5⟩,_⟩:=(show ObjOk P w H h a (DX N P w a kvs) from jtd_ ok e)
 refine⟨z,y,xs,r,o,es,ep,h1,h2,h3,h4,fun x hx=>?_,h5⟩
 have all:∀{l:List (K×Addr×V)} {m:List (K×Addr×Value)},KX l m->(∀ e∈l,N.at_ H e.1 e.2.1)->∀ x∈m,(N.hk P w).is h x.1 x.2.1:=by
  intro l m q
  unfold KX at q
  induction q with
  | nil=>intro _ x hx;exact nomatch hx
  | @cons p q ps qs hq t ih =>
   intro hK x hx
   rcases p7_.mp hx with e | hx
   ·subst e
    rw[<- hq.1,<- hq.2.1]
    exact N.of ok (hK p po_)
   ·exact ih (fun e he=>hK e (pm_ _ he)) x hx
 exact all r hK x hx
theorem jus_ {P:Program} {w:World} {H:Hp} {h:Heap} {a:Addr} {kvs:List (K×Addr×V)} (ok:HOk P w H h) (e:H a=some (DX N P w a kvs)) (hK:KO N H kvs):kvs.length<=sizeLine/\(a == sysModules)=false/\∃ xs,KX kvs xs/\h.DictOfH (N.hk P w) a xs:=jdt_ ok (.inl e) hK
def DGetX (N:OwnKind K) (P:Program) (w:World) (H:Hp) (a:Addr) (y:V) (r:Option V):Prop:=∃ kvs k b,Rd H a (DX N P w a kvs)/\KO N H kvs/\y=.ref b/\N.at_ H k b/\r=valX kvs k
def jfb_ (N:OwnKind K) (P:Program) (w:World) (H:Hp) (a:Addr) (y v:V) (H':Hp):Prop:=∃ kvs k b,H a=some (DX N P w a kvs)/\KO N H kvs/\y=.ref b/\N.at_ H k b/\kvs.length < sizeLine/\H'=upd H a (DX N P w a (putX kvs k b v))
section
variable {X:Cx} {pins:List (Addr×Obj)} {σ:St} {H:Hp} {s:Shared} {a:Addr} {y v d:V} {u r:Value} {o:Option V} {A:Around} {E:Value->Shared->Prop}
theorem jiz_ {Q:Value->Shared->Prop} (hu:A.units+4 < cLine) (I:Inv X pins σ H s) (g:DGetX N X.prog X.w H a y (some v)) (ry:RelV y u) (h:∀ w' s',Inv X pins σ H s'->RelV v w'->Q w' s'):wpAny (model X.prog X.w) A (getItem (.ref a) u) Q E s:=by
 obtain⟨kvs,k,b,e,hK,ey,eb,l⟩:=g
 subst ey
 cases (show u=Value.ref b from ry)
 obtain⟨z,hd,xs,rel,dd⟩:=jdt_ I.hok e hK
 obtain⟨w',hw,rw'⟩:=RelO.some_of (v:=v) (o:=(atKey xs k).map (·.2)) (by rw[l];exact rel.val k)
 obtain⟨p,hp,hp2⟩:=Option.map_eq_some_iff.mp hw
 refine wpAny_getItem_heap (N.room hu) (N.of I.hok eb) dd hp ?_
 rw[hp2]
 exact h w' _ (I.tok _) rw'
theorem jjg_ {H':Hp} {Q:Unit->Shared->Prop} (hu:A.units+4 < cLine) (I:Inv X pins σ H s) (g:jfb_ N X.prog X.w H a y v H') (ry:RelV y u) (rv:RelV v r) (h:∀ s',Inv X pins σ H' s'->Q () s'):wpAny (model X.prog X.w) A (setItem (.ref a) u r) Q E s:=by
 obtain⟨kvs,k,b,e,hK,ey,eb,l,eH⟩:=g
 subst ey eH
 cases (show u=Value.ref b from ry)
 obtain⟨z,hd,xs,rel,dd⟩:=jus_ I.hok e hK
 have hz:xs.length<=sizeLine:=by rw[<- wu_ rel];exact z
 have hl:(putX kvs k b v).length<=sizeLine:=by have:=xn_ kvs k b v;omega
 refine wpAny_setItem_heap (hsz:=hz) (N.room hu) (N.of I.hok eb) dd fun h' dd' hs=>h _ ?_
 obtain⟨q,es,ep,hq,h2,h3,h4,_,h5⟩:=dd'
 exact joy_ I (by rw[e];exact True.intro) hs ⟨q,hq⟩ (jpz_ hl hd (rel.put k b rv) hq h2 h3 h4 h5)
theorem jsf_ {Q:Value->Shared->Prop} (hu:A.units+4 < cLine) (I:Inv X pins σ H s) (g:DGetX N X.prog X.w H a y o) (ry:RelV y u) (rd:RelV d r) (h:∀ w' s',Inv X pins σ H s'->RelV (o.getD d) w'->Q w' s'):wpAny (model X.prog X.w) A (call (.builtin "dict.get") [.ref a,u,r]) Q E s:=by
 obtain⟨kvs,k,b,e,hK,ey,eb,l⟩:=g
 subst ey
 cases (show u=Value.ref b from ry)
 obtain⟨z,hd,xs,rel,dd⟩:=jdt_ I.hok e hK
 refine call_meetsIn kf_ dd.typeIs PySem.F.entry_dict_get (PySem.F.args_dict_get_3 _ _ _) (meetsH_dict_get_default (N.hk X.prog X.w) a b hd r) ⟨N.room hu,k,xs,N.of I.hok eb,dd,h _ _ (I.tok _) ?_⟩
 rw[l]
 exact(rel.val k).getD rd
end
end
end L2
namespace L2
open PySem PySem.Spec PyProof.Rows
section
variable {K:Type} [DecidableEq K] (N:OwnKind K)
def IsDX (P:Program) (w:World) (H:Hp) (a:Addr):Prop:=∃ kvs,Rd H a (DX N P w a kvs)/\KO N H kvs
variable {N}
theorem jhu_ {X:Cx} {pins:List (Addr×Obj)} {σ:St} {H:Hp} {s:Shared} {a:Addr} (I:Inv X pins σ H s) (d:IsDX N X.prog X.w H a) :
  s.TypeIs (.ref a) "dict"/\(∀ b,Value.ref a=.ref b->∃ ob,s.heap.get? b=some ob/\ob.dict=none)/\(a == sysModules)=false:=by
 obtain⟨kvs,e,hK⟩:=d
 obtain⟨_,hd,xs,_,dd⟩:=jdt_ I.hok e hK
 refine⟨dd.typeIs,fun b q=>?_,hd⟩
 cases q
 obtain⟨ob,_,_,h1,h2,_⟩:=dd
 exact⟨ob,h1,h2.2.1⟩
theorem DGetX.isDX {P:Program} {w:World} {H:Hp} {a:Addr} {y:V} {o:Option V} (g:DGetX N P w H a y o):IsDX N P w H a:=by
 obtain⟨kvs,k,b,e,hK,_⟩:=g
 exact⟨kvs,e,hK⟩
variable (N)
def jmk_ (P:Program) (w:World):TE:=fun _ H Q=>∀ p,H p=none->Q (.ref p) (upd H p (DX N P w p []))
def jkr_ (P:Program) (w:World) (td ty:TE):TE:=fun σ H Q=>td σ H fun x H1=>ty σ H1 fun y H2=>∃ a v,x=.ref a/\DGetX N P w H2 a y (some v)/\Q v H2
def jmj_ (P:Program) (w:World) (td ty tv:TE):TS:=fun D σ H=>tv σ H fun v H1=>td σ H1 fun x H2=>ty σ H2 fun y H3=>∃ a H4,x=.ref a/\jfb_ N P w H3 a y v H4/\D.nx σ H4
def jgm_ (P:Program) (w:World) (td ty tx:TE):TE:=fun σ H Q=>td σ H fun x H1=>∃ a,x=.ref a/\IsDX N P w H1 a/\ty σ H1 fun y H2=>tx σ H2 fun z H3=>∃ o,DGetX N P w H3 a y o/\Q (o.getD z) H3
variable {N}
section
variable {X:Cx} {o i e f value:Expr} {pos pos' tpos apos cpos:Pos} {td ty tv tx:TE}
theorem jog_:PE X (.Dict [] [] pos) (jmk_ N X.prog X.w):=fun pins s σ H Q I h =>
 wpAny_Dict_empty ⟨.ref s.heap.objs.size,_,I.laid (a:=s.heap.objs.size) (o:=DX N X.prog X.w s.heap.objs.size []) (t':=s.toks) (fun _ _ q=>pg_ _ q) (pk_ _)
  (jpz_ (qz_ _) (beq_eq_false_iff_ne.mpr (wf_ (qc_ I.big))) (xs:=[]) (show KX [] [] from .nil) (py_ _ rfl) ⟨rfl,rfl,rfl⟩ rfl rfl List.nodup_nil),rfl,h _ (I.hok.fresh (pk_ _))⟩
theorem jnp_ (hu:X.A.units+4 < cLine) (ho:PE X o td) (hi:PE X i ty) (hs:NoSl i):PE X (.Subscript o i pos) (jkr_ N X.prog X.w td ty):=by
 intro pins s σ H Q I h
 refine jnt_ PySem.F.slot_dict_getitem.lookup hs (thn (ho pins s σ H _ I h) fun u s1 ⟨x,H1,I1,rx,q1⟩=>thn (hi pins s1 σ H1 _ I1 q1) fun iv s2 ⟨y,H2,I2,ry,a,v,ex,g,q2⟩=>?_)
 subst ex
 obtain rfl:u=Value.ref a:=rx
 exact⟨(jhu_ I2 g.isDX).1,jiz_ hu I2 g ry fun w' s3 I3 rw'=>⟨v,H2,I3,rw',q2⟩⟩
theorem jnx_ (hu:X.A.units+4 < cLine) (ho:PE X o td) (hi:PE X i ty) (hv:PE X value tv) (hs:swapsWith value (some (.Subscript o i pos')) pos.line X.env=pure false) :
  PS X (.Assign [.Subscript o i pos'] value pos) (jmj_ N X.prog X.w td ty tv):=by
 intro pins s σ H D I h
 refine wpAny_Assign_Subscript (thn (hv pins s σ H _ I h) fun r s1 ⟨v,H1,I1,rv,q1⟩=>thn (ho pins s1 σ H1 _ I1 q1) fun u s2 ⟨x,H2,I2,rx,q2⟩=>thn (hi pins s2 σ H2 _ I2 q2) fun iv s3 ⟨y,H3,I3,ry,a,H4,ex,g,q3⟩=>?_) hs
 subst ex
 obtain rfl:u=Value.ref a:=rx
 exact jjg_ hu I3 g ry rv fun s4 I4=>⟨σ,H4,I4,q3⟩
theorem jmu_ (hu:X.A.units+4 < cLine) (ho:PE X o td) (he:PE X e ty) (hf:PE X f tx) (m:M2 X o "get" apos e f cpos):PE X (.Call (.Attribute o "get" apos) [e,f] [] cpos) (jgm_ N X.prog X.w td ty tx):=by
 intro pins s σ H Q I h
 refine wpAny_Call_method m.base m.few m.line PySem.F.plainAttrs_dict kf_ PySem.F.type_dict_get (thn (ho pins s σ H _ I h) fun u s1 ⟨x,H1,I1,rx,a,ex,d,q1⟩=>?_)
 subst ex
 obtain rfl:u=Value.ref a:=rx
 obtain⟨t1,t2,_⟩:=jhu_ I1 d
 refine⟨t1,t2,?_⟩
 rw[m.trees]
 refine tf_ rfl (kk_ (s8_ (thn (he pins s1 σ H1 _ I1 q1) fun iv s2 ⟨y,H2,I2,ry,q2⟩ =>
  s8_ (thn (hf pins s2 σ H2 _ I2 q2) fun fv s3 ⟨z,H3,I3,rz,ov,g,q3⟩=>wm_ ?_))))
 exact jsf_ hu I3 g ry rz fun w' s4 I4 rw'=>⟨_,H3,I4,rw',q3⟩
end
end
def oV:Option Key->V
 | none=>.non
 | some k=>kV k
theorem jmn_ {P:Program} {w:World}:∀{ks:List (Option Key)} {its:List Value},Vals (ks.map oV) its->ItemsAre (jgx_ P w) ks its
 | [],_,r=>by rw[rf_] at r;cases r;exact .nil
 | k::ks,_,r=>by
  rw[ps_] at r
  cases r with
  | cons h t =>
   refine .cons ?_ (jmn_ t)
   cases k with
   | none=>cases (show _=Value.none from h);rfl
   | some k=>exact jqr_ (P:=P) (w:=w) h
def jp_:OwnKind (List (Option Key)) where
 hk:=fun P w=>tupleKind (jgx_ P w)
 at_:=fun H k a=>H a=some (.tup (k.map oV))
 of:=fun{P w H h k a} ok e=>by
  obtain⟨_,its,r,o,h1,h2,n,h3⟩:=(show ObjOk P w H h a (.tup (k.map oV)) from ok a _ e)
  exact⟨o,its.toArray,n,h1,h2,h3,by simpa using jmn_ r⟩
 room:=fun{P w A} hu=>tupleKind_room_in1 (by omega)
 room0:=fun{P w A} hu=>by show A.units < cLine;omega
end L2
namespace L2
open PySem PySem.Spec PyProof.Rows
section
variable {prog:Program} {w:World}
def PkIs (prog:Program) (w:World) (h:Heap) (k:Str×List Int) (a:Addr):Prop:=∃ o items n,h.get? a=some o/\o.cls=.type "tuple"/\o.data=.seq items n/\∃ t b,items.toList=[.str k.1 t,.ref b]/\IsTupleKey (jw_ prog w) h (k.2.map Sum.inl) b
theorem PkIs.typeIs {s:Shared} {k:Str×List Int} {a:Addr} (x:PkIs prog w s.heap k a):s.TypeIs (.ref a) "tuple":=let ⟨o,_,_,ho,hc,_⟩:=x;⟨o,ho,hc⟩
theorem yn_:∀{a b:List Int},a.map (Sum.inl:Int->Key)=b.map Sum.inl->a=b
 | [],[],_=>rfl
 | [],_::_,h=>by simp at h
 | _::_,[],h=>by simp at h
 | x::a,y::b,h=>by
  simp only[ps_,t5_] at h
  have h1:x=y:=by have:=h.1;injection this
  rw[h1,yn_ h.2]
theorem PkIs.inj {h:Heap} {a:Addr} {x y:Str×List Int} (hx:PkIs prog w h x a) (hy:PkIs prog w h y a):x=y:=by
 obtain⟨o,items,n,ho,_,hd,t,b,hi,hk⟩:=hx
 obtain⟨o',items',n',ho',_,hd',t',b',hi',hk'⟩:=hy
 obtain rfl:o=o':=Option.some.inj (ho.symm.trans ho')
 rw[hd] at hd'
 injection hd' with h1 _
 subst h1
 rw[hi] at hi'
 simp only[t5_,Value.str.injEq,Value.ref.injEq,and_true] at hi'
 obtain⟨⟨e1,_⟩,rfl⟩:=hi'
 exact Prod.ext e1 (yn_ (hk.inj hk'))
theorem PkIs.keeps {h h':Heap} {k:Str×List Int} {a d:Addr} {o:Obj} {es ep} (x:PkIs prog w h k a) (ho:h.get? d=some o) (hd:o.data=.dict es ep) (hs:q6_ d h h'):PkIs prog w h' k a:=by
 obtain⟨o',items,n,ho',hc,hd',t,b,hi,hk⟩:=x
 have hne:a≠d:=by
  rintro rfl
  obtain rfl:o'=o:=Option.some.inj (ho'.symm.trans ho)
  rw[hd] at hd';exact nomatch hd'
 exact⟨o',items,n,(hs.2 a hne).trans ho',hc,hd',t,b,hi,hk.keeps ho hd hs⟩
def jgh_ (prog:Program) (w:World) (k:Str×List Int):Int:=reduceHash (q5_ [keyH w (Sum.inr k.1),tupleKeyHash (jw_ prog w) (k.2.map Sum.inl)])
variable {A:Around} {E:Value->Shared->Prop} {s:Shared}
theorem jio_ {k:Str×List Int} {a:Addr} {Q:Int->Shared->Prop} (hu:A.units+3 < cLine) (hk:PkIs prog w s.heap k a) (h:Q (jgh_ prog w k) { s with toks:=s.toks+(k.2.length+3) }) :
  wpAny (model prog w) A (pyHash (.ref a)) Q E s:=by
 have hT:=hk.typeIs
 obtain⟨o,items,n,ho,_,hd,t,b,hi,hkk⟩:=hk
 unfold pyHash
 first | unfold pyHashByItsType | skip
 first | refine wpAny_bind (wpAny_cRoomFor_or (.inr (by omega)) ?_) | skip
 refine wpAny_bind (wpAny_specialOf hT tk_.lookup ?_)
 show wpAny _ _ (if (some (Value.builtin "tuple.__hash__") == some Value.none)=true then _ else _) Q E s
 rw[if_neg (by rw[beq_builtin_none];exact pf_)]
 refine wpAny_bind (wpAny_specialOf hT tk_.lookup ?_)
 show wpAny _ _ (callSpecialIfBoundUnlessNone? (.ref a) "__hash__" _ >>= _) Q E s
 refine wpAny_bind (wpAny_callSpecialIfBoundUnlessNone?_slot hT tk_ (wpAny_call_entry tk_ hT F.entry_tuple_hash ?_ (F.args_tuple_hash_1 _)))
 show wpAny _ _ (wa_ (.ref a) >>= _) _ _ s
 refine wpAny_bind (wpAny_tupleItemsOf ho hd ?_)
 refine wpAny_bind ?_
 rw[<- wd_,hi]
 refine wpAny_forIn_list _
  (fun rest (bb:Array Int) s'=>(rest=[.str k.1 t,.ref b]/\bb=#[]/\s'=s)∨(rest=[.ref b]/\bb.toList=[keyH w (Sum.inr k.1)]/\s'={ s with toks:=s.toks+1 })∨(rest=[]/\bb.toList=[keyH w (Sum.inr k.1),tupleKeyHash (jw_ prog w) (k.2.map Sum.inl)]/\s'={ s with toks:=s.toks+1+(k.2.length+1) }))
  _ ?_ ?_ _ _ (.inl ⟨rfl,rfl,rfl⟩)
 ·rintro x rest bb s' (⟨e,rfl,rfl⟩ | ⟨e,hb,rfl⟩ | ⟨e,_⟩)
  ·cases e
   refine wpAny_bind ((jw_ prog w).pyHash (k:=Sum.inr k.1) (yp_ _ _ _ _) ?_)
   first
    | exact wpAny_pure (.inr (.inl ⟨rfl,by simp;rfl,rfl⟩))
    | exact wpAny_bind (wpAny_pure (wpAny_pure (.inr (.inl ⟨rfl,by simp;rfl,rfl⟩))))
  ·cases e
   refine wpAny_bind (wpAny_pyHash_tuple (ks:=k.2.map Sum.inl) ?_ hkk ?_)
   ·show A.units+1 < cLine
    omega
   ·first
     | exact wpAny_pure (.inr (.inr ⟨rfl,by simp[hb],by simp⟩))
     | exact wpAny_bind (wpAny_pure (wpAny_pure (.inr (.inr ⟨rfl,by simp[hb],by simp⟩))))
  ·cases e
 ·rintro bb s' (⟨e,_⟩ | ⟨e,_⟩ | ⟨_,hb,rfl⟩)
  ·cases e
  ·cases e
  show wpAny _ _ (retInt (q5_ bb.toList)) _ _ _
  rw[hb]
  refine wpAny_ret_mkInt ?_
  generalize hH:[keyH w (Sum.inr k.1),tupleKeyHash (jw_ prog w) (k.2.map Sum.inl)]=hs
  unfold jgh_ at h
  rw[hH] at h
  show wpAny _ _ (if (decide (-(2:Int) ^ 63<=q5_ hs)&&decide (q5_ hs < 2 ^ 63))=true then _ else _) Q E _
  unfold reduceHash at h
  have ht:s.toks+1+(k.2.length+1)+1=s.toks+(k.2.length+3):=by omega
  by_cases hr:(decide (-(2:Int) ^ 63<=q5_ hs)&&decide (q5_ hs < 2 ^ 63))=true
  ·rw[if_pos hr]
   rw[if_pos hr] at h
   exact wpAny_pure (by simpa [ht] using h)
  ·rw[if_neg hr]
   rw[if_neg hr] at h
   exact wpAny_bind (wpAny_rule (wpAny_pure (by simpa [ht] using h)))
theorem jfk_ {x y:Str×List Int} {a b:Addr} {P:PySem.Fin->Shared->Prop} (hu:A.units < cLine) (hx:PkIs prog w s.heap x a) (hy:PkIs prog w s.heap y b) (h:P (.done (.ret (.bool (decide (x=y))))) s) :
  wpAny (model prog w) A (Builtin.«tuple.__eq__» ⟨[.ref a,.ref b],[]⟩) P E s:=by
 have hTb:=hy.typeIs
 obtain⟨oa,xs,na,hoa,_,hda,ta,ba,hia,hka⟩:=hx
 obtain⟨ob,ys,nb,hob,_,hdb,tb,bb,hib,hkb⟩:=hy
 show wpAny _ _ (isInstance (.ref b) (.type "tuple") >>= _) _ _ s
 refine wpAny_bind (wpAny_isInstance hTb isSubtype_tuple_tuple ?_)
 simp only[qv_,pi_,if_false]
 refine wpAny_bind (wpAny_tupleItemsOf hoa hda ?_)
 refine wpAny_bind (wpAny_tupleItemsOf hob hdb ?_)
 refine wpAny_bind ?_
 have hsz:(xs.size == ys.size)=true:=by
  have h1:=congrArg th_ hia
  have h2:=congrArg th_ hib
  simp only[se_,p3_,sb_] at h1 h2
  rw[h1,h2];rfl
 refine wpAny_forIn_list _
  (fun rest r s'=>r.1=none/\s'=s/\((rest=[(.str x.1 ta,.str y.1 tb),(.ref ba,.ref bb)])∨(rest=[(.ref ba,.ref bb)]/\x.1=y.1)∨(rest=[]/\x=y)))
  _ ?_ ?_ _ _ ⟨rfl,rfl,.inl (by rw[hia,hib];rfl)⟩
 ·rintro⟨u,v⟩ rest r s' ⟨hr,rfl,(e | ⟨e,hxy⟩ | ⟨e,_⟩)⟩
  ·cases e
   refine wpAny_bind ((jw_ prog w).eqBool (a:=Sum.inr x.1) (b:=Sum.inr y.1) (yp_ _ _ _ _) (yp_ _ _ _ _) ?_)
   by_cases hk:x.1=y.1
   ·rw[decide_eq_true (by rw[hk])]
    simp only[qv_,pi_,if_false]
    exact wpAny_pure ⟨rfl,rfl,by first | exact .inr (.inl ⟨trivial,hk⟩) | simp[hk]⟩
   ·rw[decide_eq_false (fun z=>hk (by injection z))]
    simp only[s0_,if_true]
    have hf:decide (x=y)=false:=decide_eq_false fun z=>hk (by rw[z])
    rw[hf] at h
    exact wpAny_bind (wpAny_pure (wpAny_pure (wpAny_pure h)))
  ·cases e
   refine wpAny_bind (wpAny_eqBool_tuple hu hka hkb ?_)
   by_cases hk:x.2=y.2
   ·rw[decide_eq_true (by rw[hk])]
    simp only[qv_,pi_,if_false]
    exact wpAny_pure ⟨rfl,rfl,by first | exact .inr (.inr ⟨trivial,Prod.ext hxy hk⟩) | simp[Prod.ext hxy hk]⟩
   ·rw[decide_eq_false (fun z=>hk (yn_ z))]
    simp only[s0_,if_true]
    have hf:decide (x=y)=false:=decide_eq_false fun z=>hk (by rw[z])
    rw[hf] at h
    exact wpAny_bind (wpAny_pure (wpAny_pure (wpAny_pure h)))
  ·cases e
 ·rintro⟨r1,r2⟩ s' ⟨hr,rfl,(e | ⟨e,_⟩ | ⟨_,hxy⟩)⟩
  ·cases e
  ·cases e
  simp only at hr
  subst hr
  refine wpAny_pure ?_
  show P (.done (.ret (.bool (xs.size == ys.size)))) s'
  rw[hsz,<- decide_eq_true hxy];exact h
theorem jjb_ {x y:Str×List Int} {a b:Addr} {Q:Bool->Shared->Prop} (hu:A.units+3 < cLine) (hx:PkIs prog w s.heap x a) (hy:PkIs prog w s.heap y b) (h:Q (decide (x=y)) s) :
  wpAny (model prog w) A (eqBool (.ref a) (.ref b)) Q E s:=by
 unfold eqBool
 try with_reducible refine wpAny_holding ?_
 show wpAny _ _ (if (Value.ref a == Value.ref b)=true then _ else _) Q E s
 by_cases hab:(Value.ref a == Value.ref b)=true
 ·rw[if_pos hab]
  have e:a=b:=by have:=eq_of_beq hab;injection this
  subst e
  obtain rfl:=hx.inj hy
  exact wpAny_bind (wpAny_rule (wpAny_pure (by simpa using h)))
 ·rw[if_neg hab]
  exact wpAny_bind (wpAny_richCompare_same_room (op:=.Eq) hx.typeIs hy.typeIs t6_
   (wpAny_call_entry t6_ hx.typeIs F.entry_tuple_eq (jfk_ (by show A.units+1 < cLine;omega) hx hy ⟨_,rfl,(fun e=>nomatch e),wpAny_truthy_bool h⟩) (F.args_tuple_eq_2 _ _)) (by omega))
theorem jed_ {K:Type} [DecidableEq K] {knd:ks_ prog w K} (m:Nat) {ks:List K} {a:Addr} {Q:Bool->Shared->Prop} (hk:IsTupleKey knd s.heap ks a) (h:Q true s):wpAny (model prog w) A (eqIsQuiet (m+1) (.ref a)) Q E s:=by
 have hT:=hk.typeIs
 obtain⟨o,items,n,ho,_,hd,hi⟩:=hk
 unfold eqIsQuiet
 refine wpAny_bind (wpAny_specialOf hT t6_.lookup ?_)
 show wpAny _ _ (isInstance (.ref a) (.type "tuple") >>= _) _ _ s
 refine wpAny_bind (wpAny_isInstance hT isSubtype_tuple_tuple ?_)
 simp only[qv_,pi_,if_false]
 refine wpAny_bind (wpAny_seqItems ho hd ?_)
 refine wpAny_bind ?_
 show wpAny _ _ (forIn items _ _) _ _ s
 rw[<- wd_]
 refine wpAny_forIn_list _ (fun rest r s'=>r.1=none/\s'=s/\∀ v∈rest,carriedByValue v=true) _ ?_ ?_ _ _ ⟨rfl,rfl,hi.byValue⟩
 ·rintro v rest r s' ⟨hr,rfl,hall⟩
  rw[eqIsQuiet_byValue _ (hall v po_)]
  refine wpAny_bind (wpAny_pure ?_)
  simp only[qv_,pi_,if_false]
  exact wpAny_pure ⟨rfl,rfl,fun u hu'=>hall u (pm_ _ hu')⟩
 ·rintro⟨r1,r2⟩ s' ⟨hr,rfl,_⟩
  simp only at hr
  subst hr
  exact wpAny_pure h
theorem jlg_ {k:Str×List Int} {a:Addr} {Q:Bool->Shared->Prop} (hk:PkIs prog w s.heap k a) (h:Q true s):wpAny (model prog w) A (eqIsQuiet 8 (.ref a)) Q E s:=by
 have hT:=hk.typeIs
 obtain⟨o,items,n,ho,_,hd,t,b,hi,hkk⟩:=hk
 unfold eqIsQuiet
 refine wpAny_bind (wpAny_specialOf hT t6_.lookup ?_)
 show wpAny _ _ (isInstance (.ref a) (.type "tuple") >>= _) _ _ s
 refine wpAny_bind (wpAny_isInstance hT isSubtype_tuple_tuple ?_)
 simp only[qv_,pi_,if_false]
 refine wpAny_bind (wpAny_seqItems ho hd ?_)
 refine wpAny_bind ?_
 show wpAny _ _ (forIn items _ _) _ _ s
 rw[<- wd_,hi]
 refine wpAny_forIn_list _ (fun rest r s'=>r.1=none/\s'=s/\(rest=[.str k.1 t,.ref b]∨rest=[.ref b]∨rest=[])) _ ?_ ?_ _ _ ⟨rfl,rfl,.inl rfl⟩
 ·rintro v rest r s' ⟨hr,rfl,(e | e | e)⟩
  ·cases e
   rw[eqIsQuiet_byValue _ (show carriedByValue (.str k.1 t)=true from rfl)]
   refine wpAny_bind (wpAny_pure ?_)
   simp only[qv_,pi_,if_false]
   exact wpAny_pure ⟨rfl,rfl,by simp⟩
  ·cases e
   refine wpAny_bind (jed_ 6 hkk ?_)
   simp only[qv_,pi_,if_false]
   exact wpAny_pure ⟨rfl,rfl,by simp⟩
  ·cases e
 ·rintro⟨r1,r2⟩ s' ⟨hr,rfl,_⟩
  simp only at hr
  subst hr
  exact wpAny_pure h
def jru_ (prog:Program) (w:World):HeapKind prog w (Str×List Int) where
 is:=PkIs prog w
 hash:=jgh_ prog w
 draws:=fun k=>k.2.length+3
 room:=fun A=>A.units+3 < cLine
 inj:=fun hx hy=>hx.inj hy
 keeps:=fun x ho hd hs=>x.keeps ho hd hs
 pyHash:=fun hu hk h=>jio_ hu hk h
 eqBool:=fun hu hx hy h=>jjb_ hu hx hy h
 quiet:=fun hk h=>jlg_ hk h
end
def patKind:OwnKind (Str×List Int) where
 hk:=jru_
 at_:=fun H k a=>∃ t,H a=some (.tup [.str k.1,.ref t])/\H t=some (.tup (k.2.map V.int))
 of:=fun{P w H h k a} ok e=>by
  obtain⟨t,e1,e2⟩:=e
  obtain⟨_,its,r,o,h1,h2,n,h3⟩:=(show ObjOk P w H h a (.tup [.str k.1,.ref t]) from ok a _ e1)
  have hk:IsTupleKey (jw_ P w) h (k.2.map Sum.inl) t:=jrf_ ok (by rw[qu_];exact e2)
  refine⟨o,its.toArray,n,h1,h2,h3,?_⟩
  cases r with
  | cons r1 rr =>
   cases rr with
   | cons r2 rr =>
    cases rr
    obtain⟨tt,rfl⟩:=r1
    cases (show _=Value.ref t from r2)
    exact⟨tt,t,rfl,hk⟩
 room:=fun{P w A} hu=>by show A.units+1+3 < cLine;omega
 room0:=fun{P w A} hu=>by show A.units+3 < cLine;omega
end L2
namespace L2
open PySem PySem.Spec PyProof.Rows
def pkL (k:Str×List Int):List Int:=k.1.cps.toList.map (fun c:Nat=>(c:Int)+1)++0::k.2
theorem jdm_:∀{a b:List Nat} {m n:List Int},a≠b->((a.map (fun c:Nat=>(c:Int)+1)++0::m < b.map (fun c:Nat=>(c:Int)+1)++0::n)↔a < b)
 | [],[],_,_,h=>absurd rfl h
 | [],y::b,m,n,_=>by
  simp only[rf_,ta_,ps_,ry_,q9_]
  exact⟨fun _=>List.nil_lt_cons _ _,fun _=>.inl (by omega)⟩
 | x::a,[],m,n,_=>by
  simp only[rf_,ta_,ps_,ry_,q9_]
  constructor
  ·rintro(h | ⟨h,_⟩) <;> omega
  ·intro h;exact absurd h (List.not_lt_nil _)
 | x::a,y::b,m,n,h=>by
  simp only[ps_,ry_,q9_]
  by_cases hxy:x=y
  ·subst hxy
   have hab:a≠b:=fun z=>h (by rw[z])
   have ih:=jdm_ (m:=m) (n:=n) hab
   constructor
   ·rintro(q | ⟨_,q⟩)
    ·omega
    ·exact .inr ⟨rfl,ih.mp q⟩
   ·rintro(q | ⟨_,q⟩)
    ·omega
    ·exact .inr ⟨rfl,ih.mpr q⟩
  ·constructor
   ·rintro(q | ⟨q,_⟩)
    ·exact .inl (by omega)
    ·omega
   ·rintro(q | ⟨q,_⟩)
    ·exact .inl (by omega)
    ·exact absurd q hxy
theorem jqu_ (l m n:List Int):(l++m < l++n)↔m < n:=by
 induction l with
 | nil=>exact Iff.rfl
 | cons x l ih =>
  rw[ry_,ry_,q9_,ih]
  exact⟨fun h=>h.elim (fun q=>by omega) fun q=>q.2,fun h=>.inr ⟨rfl,h⟩⟩
theorem jpa_ {x y:Str×List Int} (h:pkL x=pkL y):x=y:=by
 by_cases e:x.1=y.1
 ·unfold pkL at h
  rw[e] at h
  have:=List.append_cancel_left h
  injection this with _ h2
  exact Prod.ext e h2
 ·have hne:x.1.cps.toList≠y.1.cps.toList:=fun z=>e (jic_ z)
  have h1:=jdm_ (m:=x.2) (n:=y.2) hne
  have h2:=jdm_ (m:=y.2) (n:=x.2) hne.symm
  change pkL x < pkL y↔_ at h1
  change pkL y < pkL x↔_ at h2
  rw[h] at h1 h2
  have hn:¬ x.1.cps.toList < y.1.cps.toList:=fun q=>wk_ _ (h1.mpr q)
  have hn2:¬ y.1.cps.toList < x.1.cps.toList:=fun q=>wk_ _ (h2.mpr q)
  exact absurd (w1_ (tl_.mp hn2) (tl_.mp hn)) hne
@[reducible] def patK (ps:List (Addr×(Str×List Int))):km_ where
 α:=List Int
 blt a b:=decide (a < b)
 irrefl a:=by simpa using wk_ a
 trans a b c h1 h2:=by simp only[decide_eq_true_eq] at *;exact List.lt_trans h1 h2
 negTrans a b c h:=by
  simp only[decide_eq_true_eq] at *
  by_cases hab:a < b
  ·exact .inl hab
  ·exact .inr (List.lt_of_le_of_lt (tl_.mp hab) h)
 total a b h1 h2:=by simp only[decide_eq_false_iff_not] at *;exact w1_ (tl_.mp h2) (tl_.mp h1)
 keyOf v:=match v with | .ref a=>(ps.lookup a).map pkL | _=>none
 dflt:=[]
def PatAt (prog:Program) (w:World) (h:Heap) (ps:List (Addr×(Str×List Int))):Prop:=∀ a k,(a,k)∈ps->PkIs prog w h k a
section
variable {prog:Program} {w:World} {A:Around} {E:Value->Shared->Prop} {s:Shared}
theorem jci_:∀{x y:List Int} {a b:Addr} {P:PySem.Fin->Shared->Prop},IsTupleKey (jw_ prog w) s.heap (x.map Sum.inl) a->IsTupleKey (jw_ prog w) s.heap (y.map Sum.inl) b->P (.done (.ret (.bool (decide (x < y))))) s ->
  wpAny (model prog w) A (Builtin.«tuple.__lt__» ⟨[.ref a,.ref b],[]⟩) P E s:=by
 intro x y a b P hx hy h
 have hTb:=hy.typeIs
 obtain⟨oa,xs,na,hoa,_,hda,hia⟩:=hx
 obtain⟨ob,ys,nb,hob,_,hdb,hib⟩:=hy
 show wpAny _ _ (isInstance (.ref b) (.type "tuple") >>= _) _ _ s
 refine wpAny_bind (wpAny_isInstance hTb isSubtype_tuple_tuple ?_)
 simp only[qv_,pi_,if_false]
 refine wpAny_bind (wpAny_tupleItemsOf hoa hda ?_)
 refine wpAny_bind (wpAny_tupleItemsOf hob hdb ?_)
 refine wpAny_bind ?_
 refine wpAny_forIn_list _
  (fun rest r s'=>r.1=none/\s'=s/\∃(x' y':List Int) (xs' ys':List Value),rest=List.zip xs' ys'/\ItemsAre (jw_ prog w) (x'.map Sum.inl) xs'/\ItemsAre (jw_ prog w) (y'.map Sum.inl) ys'/\decide (x' < y')=decide (x < y)/\(decide (xs'.length < ys'.length))=decide (xs.size < ys.size))
  _ ?_ ?_ _ _ ⟨rfl,rfl,x,y,xs.toList,ys.toList,rfl,hia,hib,rfl,by simp⟩
 ·rintro⟨u,v⟩ rest r s' ⟨hr,rfl,x',y',xs',ys',hz,hx',hy',hdec,hlen⟩
  cases x' with
  | nil=>rw[rf_] at hx';cases hx';simp at hz
  | cons k1 x'' =>
   cases y' with
   | nil=>rw[rf_] at hy';cases hy';simp at hz
   | cons k2 y'' =>
    rw[ps_] at hx' hy'
    cases hx' with
    | cons h1 hx'' =>
     cases hy' with
     | cons h2 hy'' =>
      simp only[List.zip_cons_cons,t5_,Prod.mk.injEq] at hz
      obtain⟨⟨rfl,rfl⟩,rfl⟩:=hz
      refine wpAny_bind ((jw_ prog w).eqBool h1 h2 ?_)
      by_cases hk:k1=k2
      ·subst hk
       rw[decide_eq_true rfl]
       simp only[qv_,pi_,if_false]
       refine wpAny_pure ⟨rfl,rfl,x'',y'',_,_,rfl,hx'',hy'',?_,by simpa using hlen⟩
       rw[<- hdec]
       simp[q9_]
      ·rw[decide_eq_false (fun z=>hk (by injection z))]
       simp only[s0_,if_true]
       have hf:decide (x < y)=decide (k1 < k2):=by
        rw[<- hdec]
        simp[q9_,hk]
       rw[hf] at h
       rcases jx_ (show xi_ (Sum.inl k1) _=true from h1) with ⟨i,t,e1,rfl⟩ | ⟨z,t,e1,_⟩
       ·rcases jx_ (show xi_ (Sum.inl k2) _=true from h2) with ⟨j,t2,e2,rfl⟩ | ⟨z,t,e2,_⟩
        ·cases e1;cases e2
         refine wpAny_bind (wpAny_rule (wpAny_bind ?_))
         refine richCompare_gives (op:=.Lt) (typeIs_int s' _ t) (typeIs_int s' _ t2) F.slot_int_lt F.entry_int_lt (F.args_int_lt_2 _ _) (gives_int_lt _ _ t t2) (fun x=>nomatch x) ?_
         exact wpAny_bind (wpAny_pure (wpAny_pure (wpAny_pure h)))
        ·cases e2
       ·cases e1
 ·rintro⟨r1,r2⟩ s' ⟨hr,rfl,x',y',xs',ys',hz,hx',hy',hdec,hlen⟩
  simp only at hr
  subst hr
  refine wpAny_pure ?_
  show P (.done (.ret (.bool (decide (xs.size < ys.size))))) s'
  rw[<- hlen]
  have e:decide (xs'.length < ys'.length)=decide (x < y):=by
   rw[<- hdec]
   have l1:=hx'.length
   have l2:=hy'.length
   rw[pb_] at l1 l2
   cases x' with
   | nil =>
    cases y' with
    | nil=>rw[<- l1,<- l2];simp
    | cons k y''=>rw[<- l1,<- l2];simp[List.nil_lt_cons]
   | cons k x'' =>
    cases y' with
    | nil=>rw[<- l1,<- l2];simp[List.not_lt_nil]
    | cons k2 y'' =>
     cases xs' with
     | nil=>simp at l1
     | cons _ _ =>
      cases ys' with
      | nil=>simp at l2
      | cons _ _=>simp at hz
  rw[e];exact h
theorem jot_ {h:Heap} {ps:List (Addr×(Str×List Int))} (hT:PatAt prog w h ps) {a:Addr} {x y:Str×List Int} (hx:(a,x)∈ps) (hy:(a,y)∈ps):x=y:=(hT a x hx).inj (hT a y hy)
theorem vv_ {β:Type}:∀{ps:List (Addr×β)} {a:Addr} {x:β},ps.lookup a=some x->(a,x)∈ps
 | [],a,x,h=>by cases h
 | (b,y)::ps,a,x,h=>by
  rw[qm_] at h
  cases hb:a == b with
  | true =>
   rw[hb] at h
   cases h
   have:a=b:=by simpa using hb
   rw[this];exact po_
  | false =>
   rw[hb] at h
   exact pm_ _ (vv_ h)
theorem ud_ {β:Type}:∀{ps:List (Addr×β)} {a:Addr} {x:β},(a,x)∈ps->∃ y,ps.lookup a=some y
 | [],_,_,h=>by cases h
 | (b,y)::ps,a,x,h=>by
  rw[qm_]
  cases hb:a == b with
  | true=>exact⟨y,rfl⟩
  | false =>
   rcases p7_.mp h with e | h'
   ·cases e;simp at hb
   ·exact ud_ h'
theorem vk_ {h:Heap} {ps:List (Addr×(Str×List Int))} (hT:PatAt prog w h ps) {a:Addr} {x:Str×List Int} (hx:(a,x)∈ps):ps.lookup a=some x:=by
 obtain⟨y,hy⟩:=ud_ hx
 rw[hy,jot_ hT hx (vv_ hy)]
theorem Cmp.pat {ps:List (Addr×(Str×List Int))} (hu:A.units+4 < cLine) (hT:PatAt prog w s.heap ps):Cmp prog w A E s (tuples' true) (patK ps).toKeyOrd (okK (patK ps)) (keyK (patK ps)):=⟨fun{st x y Q} hk hx hy h=>by
 have get:∀ z:Keyed,okK (patK ps) z->∃ a u,z.1=.ref a/\(a,u)∈ps/\keyK (patK ps) z=pkL u:=fun z ⟨k,hz⟩=>by
  obtain⟨z1,z2⟩:=z
  obtain⟨a,rfl⟩:∃ a,z1=.ref a:=by
   cases z1 <;> first | exact⟨_,rfl⟩ | (simp[patK] at hz)
  simp only[patK] at hz
  cases hl:ps.lookup a with
  | none=>rw[hl] at hz;cases hz
  | some u =>
   refine⟨a,u,rfl,vv_ hl,?_⟩
   unfold keyK
   simp only[patK,hl,sp_,sj_]
 obtain⟨a,u,ea,ha,ka⟩:=get x hx
 obtain⟨b,v,eb,hb,kb⟩:=get y hy
 rw[ka,kb] at h
 change Q (some (decide (pkL u < pkL v))) st at h
 obtain⟨oa,ia,na,a1,a2,a3,ta,ra,a4,a5⟩:=hT a u ha
 obtain⟨ob,ib,nb,b1,b2,b3,tb,rb,b4,b5⟩:=hT b v hb
 rw[lt'_eq]
 refine wpS_bind (wpS_get ?_)
 rw[hk,ea,eb,jaq_]
 refine wpS_bind (wpS_lift (wpAny_attempt ?_))
 refine wpAny_bind (listItems_at a1 a3 ?_)
 refine wpAny_bind (listItems_at b1 b3 ?_)
 have za:ia.size=2:=by have:=congrArg th_ a4;simpa using this
 have zb:ib.size=2:=by have:=congrArg th_ b4;simpa using this
 rw[a4,b4,za,zb]
 show wpAny _ _ (forIn [((Value.str u.1 ta,Value.str v.1 tb),0),((Value.ref ra,Value.ref rb),1)] _ _ >>= _) _ _ s
 rw[tb_]
 refine wpAny_bind (wpAny_bind (wpAny_bind (kv_ u.1 ta v.1 tb _ _ _ _ ?_)))
 by_cases huv:u.1=v.1
 ·have e:(u.1 == v.1)=true:=by simpa using huv
  rw[e]
  simp only[qv_,pi_,if_false]
  refine wpAny_pure ?_
  dsimp only
  rw[tb_]
  refine wpAny_bind (wpAny_bind (wpAny_eqBool_tuple (by omega) a5 b5 ?_))
  have hpk:decide (pkL u < pkL v)=decide (u.2 < v.2):=by
   have h1:(pkL u < pkL v)↔u.2 < v.2:=by
    unfold pkL
    rw[huv,jqu_,q9_]
    exact⟨fun q=>q.elim (fun z=>by omega) fun z=>z.2,fun q=>.inr ⟨rfl,q⟩⟩
   simp only[h1]
  rw[hpk] at h
  by_cases h2:u.2=v.2
  ·rw[decide_eq_true (show u.2.map (Sum.inl:Int->Key)=v.2.map Sum.inl by rw[h2])]
   simp only[qv_,pi_,if_false]
   refine wpAny_pure ?_
   dsimp only
   rw[List.forIn_nil]
   refine wpAny_pure ?_
   dsimp only
   refine wpAny_pure ⟨rfl,wpS_pure ?_⟩
   have:decide (u.2 < v.2)=false:=by rw[h2];simpa using wk_ v.2
   rw[this] at h
   exact h
  ·rw[decide_eq_false (fun z=>h2 (yn_ z))]
   simp only[s0_,if_true]
   refine wpAny_bind ?_
   show wpAny _ _ (oneLt' false (.ref ra) (.ref rb)) _ _ s
   rw[oneLt'_eq]
   simp only[pi_,if_false]
   refine wpAny_bind ?_
   refine wpAny_richCompare_same_room (op:=.Lt) a5.typeIs b5.typeIs F.slot_tuple_lt
    (wpAny_call_entry F.slot_tuple_lt a5.typeIs F.entry_tuple_lt (jci_ a5 b5 ⟨_,rfl,(fun e=>nomatch e),?_⟩) (F.args_tuple_lt_2 _ _)) (by omega)
   refine wpAny_truthy_bool ?_
   refine wpAny_pure ?_
   dsimp only
   refine wpAny_pure ?_
   dsimp only
   exact wpAny_pure ⟨rfl,wpS_pure h⟩
 ·have e:(u.1 == v.1)=false:=by simpa using huv
  rw[e]
  simp only[s0_,if_true]
  have hpk:decide (pkL u < pkL v)=decide (u.1.cps.toList < v.1.cps.toList):=by
   have h1:(pkL u < pkL v)↔u.1.cps.toList < v.1.cps.toList:=jdm_ fun z=>huv (jic_ z)
   simp only[h1]
  rw[hpk] at h
  refine wpAny_bind ?_
  show wpAny _ _ (oneLt' true (.str u.1 ta) (.str v.1 tb)) _ _ s
  refine oneLt_str ?_
  refine wpAny_pure ?_
  dsimp only
  refine wpAny_pure ?_
  dsimp only
  exact wpAny_pure ⟨rfl,wpS_pure h⟩⟩
theorem PatAt.tab {h:Heap} {ps:List (Addr×(Str×List Int))} (hT:PatAt prog w h ps):jpt_ h (ps.map fun p=>(p.1,p.2.1)):=fun a x hx=>by
 obtain⟨p,hp,e⟩:=pu_.mp hx
 cases e
 obtain⟨o,items,n,h1,h2,h3,t,b,h4,_⟩:=hT p.1 p.2 hp
 refine⟨o,t,.ref b,n,h1,h2,?_⟩
 rw[h3,<- Array.toArray_toList (xs:=items),h4]
theorem PatAt.mono {h h':Heap} {ps:List (Addr×(Str×List Int))} (hT:PatAt prog w h ps) (k:∀ b o,h.get? b=some o->o.cls=.type "tuple"->h'.get? b=some o):PatAt prog w h' ps:=fun a x hx=>by
 obtain⟨o,items,n,h1,h2,h3,t,b,h4,o2,i2,n2,g1,g2,g3,g4⟩:=hT a x hx
 exact⟨o,items,n,k _ _ h1 h2,h2,h3,t,b,h4,o2,i2,n2,k _ _ g1 g2,g2,g3,g4⟩
def SrtP (ks:List (Str×List Int)):Prop:=ks.Pairwise fun x y=>¬ pkL y < pkL x
theorem jmt_ {a:Addr} {ps:List (Addr×(Str×List Int))} {n:Nat} {P:PySem.Fin->Shared->Prop} (hu:A.units+4 < cLine) (ho:s.heap.get? a=some (seqObj "list" (ps.map fun p=>Value.ref p.1).toArray n)) (hT:PatAt prog w s.heap ps) (hz:ps.length<=sizeLine)
  (h:∀ qs:List (Addr×(Str×List Int)),qs.Perm ps->SrtP (qs.map (·.2))->P (.done (.ret .none)) { s with heap:=sortedHeap s.heap a (ps.map fun p=>Value.ref p.1) (qs.map fun p=>Value.ref p.1).toArray }):wpAny (model prog w) A (Builtin.«list.sort» ⟨[.ref a],[]⟩) P E s:=by
 have hTs:PatAt prog w (zc_ s.heap a (ps.map fun p=>Value.ref p.1)) ps:=hT.mono fun b o e1 e2=>by
  have hne:b≠a:=fun z=>by
   rw[z,ho] at e1
   cases e1
   simp at e2
  unfold zc_
  exact pg_ _ (pg_ _ ((sl_ _ _ (wf_ hne)).trans e1))
 refine un_ (κ:=patK ps) (kd:=tuples' true) ho (fun v hv=>?_) (fun h2 Q q=>?_) (Cmp.pat hu hTs) (by rw[pb_];exact hz) fun st' hp hs=>?_
 ·obtain⟨p,hp,rfl⟩:=pu_.mp hv
  exact⟨pkL p.2,by simp only[patK,vk_ hT hp,sp_]⟩
 ·have h3:=jev_ (prog:=prog) (w:=w) (A:=A) (E:=E) (s:={ s with heap:=zc_ s.heap a (ps.map fun p=>Value.ref p.1) }) hTs.tab (fun z=>by rw[List.map_eq_nil_iff] at z;rw[z] at h2;simp at h2) (Q:=Q) q
  rw[qu_] at h3
  exact h3
 ·have hl:(arrOf st').toList.Perm ((ps.map fun p=>Value.ref p.1).zip (ps.map fun p=>Value.ref p.1)):=by rw[<- pairsOf_toList];exact rx_.mp hp
  obtain⟨F,hF⟩:∃ F:Keyed->Addr×(Str×List Int),F=fun z=>match z.1 with
   | .ref a=>(a,(ps.lookup a).getD (⟨#[]⟩,[]))
   | _=>(0,(⟨#[]⟩,[])):=⟨_,rfl⟩
  have hFp:∀ p∈ps,F (.ref p.1,.ref p.1)=p:=fun p hp=>by rw[hF];simp only[vk_ hT hp,sj_]
  have hmem:∀ z∈(arrOf st').toList,∃ p∈ps,z=(.ref p.1,.ref p.1):=fun z hz=>by
   have h1:=mem_zip_self (hl.mem_iff.mp hz)
   obtain⟨p,hp,e⟩:=pu_.mp h1.2
   exact⟨p,hp,Prod.ext e.symm (h1.1▸e.symm)⟩
  have hperm:((arrOf st').toList.map F).Perm ps:=by
   have h1:=hl.map F
   have e:((ps.map fun p=>Value.ref p.1).zip (ps.map fun p=>Value.ref p.1)).map F=ps:=by
    rw[List.zip_map',qu_]
    conv=>rhs;rw[<- List.map_id ps]
    exact qp_ fun p hp=>hFp p hp
   rw[e] at h1;exact h1
  have hout:(arrOf st').map (·.2)=(((arrOf st').toList.map F).map fun p=>Value.ref p.1).toArray:=by
   apply Array.toList_inj.mp
   rw[Array.toList_map,qu_]
   refine qp_ fun z hz=>?_
   obtain⟨p,hp,rfl⟩:=hmem z hz
   simp only[kx_,hFp p hp]
  rw[hout]
  refine h _ hperm ?_
  unfold SrtP
  rw[st_,st_]
  refine ws_ (fun{x y} hx hy hxy=>?_) hs
  obtain⟨p,hp,rfl⟩:=hmem x hx
  obtain⟨q,hq,rfl⟩:=hmem y hy
  rw[hFp p hp,hFp q hq]
  have e1:keyK (patK ps) (.ref p.1,.ref p.1)=pkL p.2:=by unfold keyK;simp only[patK,vk_ hT hp,sp_,sj_]
  have e2:keyK (patK ps) (.ref q.1,.ref q.1)=pkL q.2:=by unfold keyK;simp only[patK,vk_ hT hq,sp_,sj_]
  rw[e1,e2] at hxy
  have hxy:decide (pkL q.2 < pkL p.2)=false:=hxy
  exact of_decide_eq_false hxy
end
section
variable {X:Cx}
def jmx_:List V->Hp->VK->Prop:=fun xs H Q=>∃(l:Addr) (ps:List (Addr×(Str×List Int))),xs=[.ref l]/\H l=some (.lst (ps.map fun p=>V.ref p.1))/\(∀ p∈ps,patKind.at_ H p.2 p.1)/\ps.length<=1000000 /\
 ∀(q:Addr) (qs:List (Addr×(Str×List Int))),H q=none->qs.Perm ps->SrtP (qs.map (·.2))->Q (.ref q) (upd H q (.lst (qs.map fun p=>V.ref p.1)))
theorem jhm_ {H:Hp} {Q:VK} {l:Addr} {ps:List (Addr×(Str×List Int))} (h1:H l=some (.lst (ps.map fun p=>V.ref p.1))) (h2:∀ p∈ps,patKind.at_ H p.2 p.1) (h4:ps.length<=1000000) (h:∀(q:Addr) (qs:List (Addr×(Str×List Int))),H q=none->qs.Perm ps->SrtP (qs.map (·.2))->Q (.ref q) (upd H q (.lst (qs.map fun p=>V.ref p.1)))):jmx_ [.ref l] H Q:=⟨l,ps,rfl,h1,h2,h4,h⟩
theorem jey_:∀(as:List (Addr×(Str×List Int))),Vals (as.map fun p=>V.ref p.1) (as.map fun p=>Value.ref p.1)
 | []=>.nil
 | p::as=>.cons rfl (jey_ as)
theorem jhl_ (hc:X.calm=true) (hu:X.A.units+10 < cLine):CallR X (.builtin "sorted") jmx_:=by
 intro pins s σ H xs us Q I r h
 obtain⟨l,ps,rfl,e,h2,h4,q⟩:=h
 obtain⟨u,rfl,ru⟩:=ue_ r
 cases ru
 have hT:PatAt X.prog X.w s.heap ps:=fun a k ha=>patKind.of I.hok (h2 (a,k) ha)
 obtain⟨its,rv,pl,hz⟩:=I.list (SqL.of (K:=X.K) e)
 have hits:its=ps.map fun p=>Value.ref p.1:=by
  have:∀(l:List (Addr×(Str×List Int))) (us:List Value),Vals (l.map fun p=>V.ref p.1) us->us=l.map fun p=>Value.ref p.1:=by
   intro l
   induction l with
   | nil=>intro us r;cases r;rfl
   | cons p l ih =>
    intro us r
    rw[ps_] at r
    cases r with
    | cons r1 rr=>rw[ih _ rr,ps_,show _=Value.ref p.1 from r1]
  exact this ps its rv
 subst hits
 refine PySem.Calls.call_function_entry kind_sorted plain_sorted entry_sorted (args_sorted1 _) ?_
 unfold Builtin.«sorted»
 refine wpAny_bind (m:=checkCount "sorted" 1 1 _) (wpAny_pure ?_)
 have h1m:(1000000:Nat)<=sizeLine:=by decide
 have hszA:(ps.map fun p=>Value.ref p.1).length<=sizeLine:=by rw[pb_];omega
 have hszB:(ps.map fun p=>Value.ref p.1).toArray.size<=sizeLine:=by rw[pj_];exact hszA
 refine wpAny_bind (collect_list pl.isList ?_ hszA)
 refine wpAny_bind (wpAny_newList ?_ (by first | exact hszA | exact hszB))
 obtain⟨h1,hh1⟩:∃ h1,h1=(s.heap.push (seqObj "list" #[] 0)).update s.heap.objs.size (ti_ (·++(ps.map fun p=>Value.ref p.1).toArray)):=⟨_,rfl⟩
 have hkk:∀ b o,s.heap.get? b=some o->h1.get? b=some o:=fun b o eb=>by
  rw[hh1]
  exact(sl_ _ _ (wf_ (qc_ (pv_ eb)))).trans (pg_ _ eb)
 have hoL:(h1.push (seqObj "list" (ps.map fun p=>Value.ref p.1).toArray 0)).get? h1.objs.size=some (seqObj "list" (ps.map fun p=>Value.ref p.1).toArray 0):=py_ _ rfl
 rw[<- hh1]
 show wpAny _ _ _ _ _ { s with heap:=h1.push (seqObj "list" (ps.map fun p=>Value.ref p.1).toArray 0) }
 have hT1:PatAt X.prog X.w (h1.push (seqObj "list" (ps.map fun p=>Value.ref p.1).toArray 0)) ps:=hT.mono fun b o e1 _=>pg_ _ (hkk _ _ e1)
 refine wpAny_bind (wpAny_holding (wpAny_call_entry slot_list_sort ⟨_,hoL,rfl⟩ entry_list_sort (jmt_ (s:={ s with heap:=h1.push (seqObj "list" (ps.map fun p=>Value.ref p.1).toArray 0) }) (by first | (show X.A.units+1+4 < cLine;omega) | (show X.A.units+1+1+4 < cLine;omega) | (show X.A.units+1+1+1+4 < cLine;omega)) hoL hT1 (by omega) fun qs a1 a2=>⟨_,rfl,?_⟩) (args_list_sort _)))
 refine wpAny_pure ⟨_,rfl,?_⟩
 obtain⟨ep,he⟩:=sortedHeap_at (out:=(qs.map fun p=>Value.ref p.1).toArray) hoL
 have I1:Inv X pins σ H { s with heap:=h1,toks:=s.toks }:=I.kept (t':=s.toks) hkk
 have hol:qs.length=ps.length:=a1.length_eq
 refine⟨.ref h1.objs.size,_,I1.laid (t':=s.toks) (fun b o eb=>jeu_ eb) (pk_ _) (show ObjOk X.prog X.w _ _ _ (.lst (qs.map fun p=>V.ref p.1)) from ⟨by rw[pb_];omega,qs.map fun p=>Value.ref p.1,ep,jey_ qs,he⟩),rfl,q _ _ (I1.hok.fresh (pk_ _)) a1 a2⟩
end
end L2
namespace L2
open PySem PySem.Spec PyProof.Rows
section
variable {X:Cx} {tg:Expr}
end
section
variable {X:Cx}
end
end L2
namespace L2
open PySem PySem.Spec PyProof.Rows
def RawD (h:Heap) (a:Addr) (ks:List Value) (ep:Nat):Prop:=∃ o es,h.get? a=some o/\o.ExactDict/\o.data=.dict es ep/\es.toList.map (·.key)=ks
theorem RawD.typeIs {s:Shared} {a:Addr} {ks:List Value} {ep:Nat} (x:RawD s.heap a ks ep):s.TypeIs (.ref a) "dict":=let ⟨o,_,ho,hc,_⟩:=x;⟨o,ho,hc.1⟩
section
variable {prog:Program} {w:World} {A:Around} {E:Value->Shared->Prop} {s:Shared} {it d:Addr} {ks:List Value} {i ep:Nat}
theorem jom_ {Q:Value->Shared->Prop} (hd:(d == sysModules)=false) (hm:RawD s.heap d ks ep)
  (hQ:Q (.ref s.heap.objs.size) { s with heap:=s.heap.push { cls:=.type "dict_keyiterator",data:=.fields #[.ref d,.int 0 0,.int ks.length 0,.int ep 0] } }):wpAny (model prog w) A (pyIter (.ref d)) Q E s:=by
 have hT:=hm.typeIs
 obtain⟨o,es,ho,hc,hdat,hp⟩:=hm
 have hsz:es.size=ks.length:=by rw[<- hp];simp
 refine wpAny_pyIter_slot hT F.slot_dict_iter (wpAny_call_entry F.slot_dict_iter hT F.entry_dict_iter ?_ (F.args_dict_iter_1 _))
 unfold Builtin.«dict.__iter__» Builtin.Dict.dictSlotNone
 refine wpAny_bind (wpAny_bind (wpAny_notOrdered_dict hT (wpAny_pure ?_)))
 show wpAny _ _ (kg_ d >>= _) _ _ s
 unfold kg_
 rw[if_neg (by rw[hd];exact pf_)]
 refine wpAny_bind (wpAny_pure (wpAny_bind (wpAny_dictEntries ho hdat (wpAny_bind (wpAny_dictEpoch ho hdat ?_)))))
 refine wpAny_bind (wpAny_newObj_type (wpAny_pure ⟨_,rfl,"dict_keyiterator",_,⟨_,py_ _ rfl,rfl⟩,ra_.lookup,?_⟩))
 simpa [rawInt,hsz] using hQ
theorem jok_ {Q:Option Value->Shared->Prop} (hit:s.heap.IsKeyIter it d i ks.length ep) (hm:RawD s.heap d ks ep) (hi:i < ks.length)
  (hQ:∀ h',h'.IsKeyIter it d (i+1) ks.length ep->q6_ it s.heap h'->Q (some ks[i]) { s with heap:=h' }):wpAny (model prog w) A (pyNext (.ref it)) Q E s:=by
 obtain⟨o,ho,hc,hd⟩:=id hit
 obtain⟨od,es,hod,hcd,hdd,hp⟩:=hm
 have hsz:es.size=ks.length:=by rw[<- hp];simp
 have hlt:i < es.size:=by rw[hsz];exact hi
 have hkey:es[i].key=ks[i]:=by
  have h1:(es.toList.map (·.key))[i]?=ks[i]?:=by rw[hp]
  rw[pl_,pa_ (by simpa using hlt),pa_ hi] at h1
  simpa using h1
 unfold pyNext
 refine wpAny_bind (wpAny_attempt (wpAny_callSpecial?_slot (name:=qy_ "__next__") hit.typeIs ra_
  (wpAny_call_entry ra_ hit.typeIs tx_ ?_ (tu_ _))))
 refine wpAny_bind (wpAny_pure (wpAny_bind (wpAny_bind ?_)))
 first | refine wpAny_bind (wpAny_typeNameOfWhole_keyiter hit.typeIs (wpAny_pure ?_)) | refine wpAny_bind (wpAny_typeNameOf_keyiter hit.typeIs (wpAny_pure ?_))
 refine wpAny_bind (wpAny_fieldsOf ho hd ?_)
 simp only[show t2_ "dict_keyiterator"=false by decide,pi_,if_false]
 show wpAny _ _ (if (Value.ref d == Value.none)=true then _ else _) _ _ s
 rw[if_neg (show ¬ ((Value.ref d == Value.none)=true) from pf_)]
 refine wpAny_bind (wpAny_pure (wpAny_bind (wpAny_dictEntries hod hdd ?_)))
 rw[if_neg (by rw[hsz];simp)]
 refine wpAny_bind (wpAny_pure (wpAny_bind (wpAny_dictEpoch hod hdd ?_)))
 rw[if_neg (by simp)]
 refine wpAny_pure ?_
 simp only[show ¬ ((i:Int) < 0) from by omega,if_false,r9_,r4_ hlt]
 refine wpAny_bind ?_
 first | refine wpAny_bind (wpAny_typeNameOfWhole_keyiter hit.typeIs (wpAny_pure ?_)) | refine wpAny_bind (wpAny_typeNameOf_keyiter hit.typeIs (wpAny_pure ?_))
 refine wpAny_bind (wpAny_isOneOf_keyiter hit.typeIs ?_)
 show wpAny _ _ (setField (.ref it) 1 (rawInt ((i:Int)+1)) >>= _) _ _ s
 refine wpAny_bind (wpAny_setField ho hd (by simp) ?_)
 have hit':(s.heap.update it (Obj.mapFields (·.setIfInBounds 1 (rawInt ((i:Int)+1))))).IsKeyIter it d (i+1) ks.length ep :=
  ⟨_,ts_ _ ho (kc_ (tc_ hd _)),(Obj.cls_mapFields ..).trans hc,by rw[tc_ hd];simp[rawInt]⟩
 refine wpAny_bind (wpAny_holding ?_)
 refine wpAny_bind (wpAny_isOneOf_keyiter (s:={ s with heap:=s.heap.update it (Obj.mapFields (·.setIfInBounds 1 (rawInt ((i:Int)+1)))) }) hit'.typeIs ?_)
 show wpAny _ _ (pure es[i].key) _ _ _
 rw[hkey]
 exact wpAny_pure (wpAny_pure ⟨_,rfl,wpAny_pure (hQ _ hit' (s2_ ..))⟩)
theorem jsc_ {Q:Option Value->Shared->Prop} (hh:A.handled=none) (hit:s.heap.IsKeyIter it d i ks.length ep) (hm:RawD s.heap d ks ep) (hi:ks.length<=i)
  (hQ:∀ h',Heap.ExtBut it s.heap h'->Q none { s with heap:=h' }):wpAny (model prog w) A (pyNext (.ref it)) Q E s:=by
 obtain⟨o,ho,hc,hd⟩:=id hit
 obtain⟨od,es,hod,hcd,hdd,hp⟩:=hm
 have hsz:es.size=ks.length:=by rw[<- hp];simp
 unfold pyNext
 refine wpAny_bind (wpAny_attempt (wpAny_callSpecial?_slot (name:=qy_ "__next__") hit.typeIs ra_
  (wpAny_call_entry ra_ hit.typeIs tx_ ?_ (tu_ _))))
 refine wpAny_bind (wpAny_pure (wpAny_bind (wpAny_bind ?_)))
 first | refine wpAny_bind (wpAny_typeNameOfWhole_keyiter hit.typeIs (wpAny_pure ?_)) | refine wpAny_bind (wpAny_typeNameOf_keyiter hit.typeIs (wpAny_pure ?_))
 refine wpAny_bind (wpAny_fieldsOf ho hd ?_)
 simp only[show t2_ "dict_keyiterator"=false by decide,pi_,if_false]
 show wpAny _ _ (if (Value.ref d == Value.none)=true then _ else _) _ _ s
 rw[if_neg (show ¬ ((Value.ref d == Value.none)=true) from pf_)]
 refine wpAny_bind (wpAny_pure (wpAny_bind (wpAny_dictEntries hod hdd ?_)))
 rw[if_neg (by rw[hsz];simp)]
 refine wpAny_bind (wpAny_pure (wpAny_bind (wpAny_dictEpoch hod hdd ?_)))
 rw[if_neg (by simp)]
 refine wpAny_pure ?_
 have hge:es.size<=i:=by rw[hsz];exact hi
 simp only[show ¬ ((i:Int) < 0) from by omega,if_false,r9_,Array.getElem?_eq_none hge]
 refine wpAny_bind ?_
 first | refine wpAny_bind (wpAny_typeNameOfWhole_keyiter hit.typeIs (wpAny_pure ?_)) | refine wpAny_bind (wpAny_typeNameOf_keyiter hit.typeIs (wpAny_pure ?_))
 show wpAny _ _ (setField (.ref it) 0 .none >>= _) _ _ s
 refine wpAny_bind (wpAny_setField ho hd (by simp) ?_)
 show wpAny _ _ (newExc (.type "StopIteration") [] >>= _) _ _ _
 refine wpAny_bind ?_
 simp only[newExc,newTuple]
 refine wpAny_bind (wpAny_newObj_type ?_ (by size_fits))
 refine wpAny_bind (m:=firstArgMember _ _) (wpAny_of_eq (a:=Value.none) (by first | rfl | (simp only[firstArgMember];rfl)) ?_)
 refine wpAny_newObj_type ?_ (by size_fits)
 simp only[raiseNew]
 refine wpAny_bind (wpAny_handled ?_)
 rw[show A.in1.handled=none from hh]
 refine wpAny_bind (wpAny_pure (wpAny_throw ?_))
 refine wpAny_bind (wpAny_isInstance (T:="StopIteration") (b:=true) ⟨_,py_ _ rfl,rfl⟩ isSubtype_stop ?_)
 exact wpAny_pure (hQ _ (((s2_ ..).extBut.push _).push _))
end
section
variable {K:Type} [DecidableEq K] {N:OwnKind K}
theorem KX.keys {kvs:List (K×Addr×V)} {xs:List (K×Addr×Value)} (r:KX kvs xs):xs.map (fun x=>Value.ref x.2.1)=kvs.map fun e=>Value.ref e.2.1:=by
 unfold KX at r
 induction r with
 | nil=>rfl
 | cons h t ih=>rw[ps_,ps_,ih,h.2.1]
theorem jri_ {P:Program} {w:World} {H:Hp} {h:Heap} {a:Addr} {kvs:List (K×Addr×V)} (ok:HOk P w H h) (e:Rd H a (DX N P w a kvs)) (hK:KO N H kvs):kvs.length<=sizeLine/\(a == sysModules)=false/\∃ ep,RawD h a (kvs.map fun e=>Value.ref e.2.1) ep:=by
 obtain⟨z,hd,xs,rel,o,es,ep,h1,h2,h3,h4,_,_⟩:=jdt_ ok e hK
 refine⟨z,hd,ep,o,es,h1,h2,h3,?_⟩
 rw[h4,qu_,<- rel.keys]
 rfl
def Itx (N:OwnKind K) (P:Program) (w:World) (a:Addr) (o:Obj) (kvs:List (K×Addr×V)):It where
 go i H:=H a=some (.frz o (DX N P w a kvs))/\i < kvs.length
 yld i H x H':=H'=H/\∃ e,kvs[i]?=some e/\x=.ref e.2.1
 stop i H:=H a=some (.frz o (DX N P w a kvs))/\kvs.length<=i
theorem joq_ {P:Program} {w:World} {F:pc_} {tg:Expr} {a it:Addr} {o:Obj} {kvs:List (K×Addr×V)} {ep:Nat} (hat:∀ h:Heap,h.get? a=some o->RawD h a (kvs.map fun e=>Value.ref e.2.1) ep) :
  Turn P w F tg (Itx N P w a o kvs) [it] it (fun i h=>h.IsKeyIter it a i (kvs.map fun e=>Value.ref e.2.1).length ep) where
 mem:=by simp
 obj:=fun i h st b hb=>by
  have e:b=it:=by simpa using hb
  subst e
  obtain⟨ob,ho,hc,hd⟩:=st
  exact⟨ob,ho,fun v z=>by rw[hd] at z;cases z⟩
 keep:=fun i h h' st k=>st.at fun ob e=>k it (by simp) ob e
 item:=by
  intro X hP hw hK hc i pins s σ H E I hf st hg
  subst hP hw hK
  obtain⟨f0,f1,f2,f3,f4,f5⟩:=hf it (by simp)
  have ha:s.heap.get? a=some o:=(I.hok a _ hg.1).1
  have hi:i < kvs.length:=hg.2
  refine jok_ st (hat _ ha) (by rw[pb_];exact hi) fun h' st' sb=>?_
  have I1:Inv X pins σ H { s with heap:=h' }:=I.turned (t':=s.toks) (fun b ob hb e=>(sb.2 b hb).trans e) f0 f1 f3 f4 f5
  obtain⟨ob,e,c,d⟩:=id st'
  refine⟨_,rfl,jea_ (s:={ s with heap:=h' }) e c d (by decide) ⟨.ref (kvs[i]'hi).2.1,H,I1,?_,⟨rfl,kvs[i]'hi,pa_ hi,rfl⟩,st',fun b hb=>(hf b hb).1⟩⟩
  rw[List.getElem_map];rfl
 done:=by
  intro X hP hw hK hc i pins s σ H E I hf st hg
  subst hP hw hK
  obtain⟨f0,f1,f2,f3,f4,f5⟩:=hf it (by simp)
  have ha:s.heap.get? a=some o:=(I.hok a _ hg.1).1
  exact jsc_ (I.ok.hd hc) st (hat _ ha) (by rw[pb_];exact hg.2) fun h' eb=>⟨rfl,I.turned (t':=s.toks) (fun b ob hb e=>eb b ob hb e) f0 f1 f3 f4 f5⟩
 self:=fun _ _ _ _ _ st h=>wpAny_pyIter_keyiter st h
def jgp_ (N:OwnKind K) (P:Program) (w:World) (tl:TE):TI:=fun σ H R=>tl σ H fun x H1=>∃(a:Addr) (kvs:List (K×Addr×V)),x=.ref a/\H1 a=some (DX N P w a kvs)/\KO N H1 kvs/\∀ o,R (Itx N P w a o kvs) (upd H1 a (.frz o (DX N P w a kvs)))
theorem jky_ {X:Cx} {tg l:Expr} {tl:TE} (hl:PE X l tl):PI X tg l (jgp_ N X.prog X.w tl):=by
 intro pins s σ H R I h
 refine thn (hl pins s σ H _ I h) fun v s1 ⟨x,H1,I1,r1,q1⟩=>?_
 obtain⟨a,kvs,rfl,e,hK,q⟩:=q1
 cases r1
 obtain⟨z,hd,ep,o,es,ho,r⟩:=jri_ I1.hok (.inl e) hK
 have hat:∀ h:Heap,h.get? a=some o->RawD h a (kvs.map fun e=>Value.ref e.2.1) ep:=fun h e=>⟨o,es,e,r⟩
 have I2:Inv X pins σ (upd H1 a (.frz o (DX N X.prog X.w a kvs))) { s1 with heap:=s1.heap,toks:=s1.toks } :=
  I1.write (x:=a) (e:=a) (by rw[e];exact True.intro) (.inl rfl) (fun b u _ q=>q) ⟨_,ho⟩ ⟨ho,(I1.hok a _ e).stay (fun b u _ q=>q) (fun b q=>by rw[jg_ (jef_ q e (by intro z;cases z))];exact q) fun b xs q=>by rw[jg_ (jef_ q e (by intro z;cases z))];exact q⟩
 have hn:∀ b,s1.heap.objs.size<=b->(upd H1 a (.frz o (DX N X.prog X.w a kvs))) b=none:=fun b hb=>I2.hok.fresh hb
 refine jom_ hd (hat _ ho) ?_
 refine⟨s1.heap.objs.size,[s1.heap.objs.size],_,_,upd H1 a (.frz o (DX N X.prog X.w a kvs)),rfl,I2.kept (t':=s1.toks) fun b o e=>pg_ _ e,joq_ hat,⟨_,py_ _ rfl,rfl,rfl⟩,fun b hb=>?_,q o⟩
 have e:b=s1.heap.objs.size:=by simpa using hb
 subst e
 exact I2.fpOk (pk_ _) (hn _ (pk_ _))
end
end L2
namespace L2
open PySem PySem.Spec PyProof.Rows
section
variable {X:Cx} {pins:List (Addr×Obj)} {σ:St} {H:Hp} {s:Shared} {a:Addr} {u r:Value} {A:Around} {E:Value->Shared->Prop}
end
section
variable {X:Cx} {o e f:Expr} {apos cpos:Pos} {td ty tx:TE}
end
end L2
namespace L2
open PySem PySem.Spec PyProof.Rows
section
variable {X:Cx}
end
end L2
namespace L2
open PySem PySem.Spec PyProof.Rows
section
variable {prog:Program} {w:World} {A:Around} {E:Value->Shared->Prop} {s:Shared}
end
section
variable {X:Cx} {tg:Expr}
end
end L2
namespace L2
open PySem PySem.Spec PyProof.Rows
section
variable {X:Cx}
end
end L2
namespace L2
open PySem
end L2
namespace L2
open PySem PySem.Spec PyProof.Rows
section
variable {X:Cx} {tg:Expr}
end
section
variable {X:Cx}
end
end L2
namespace L2
open PySem PySem.Spec PyProof.Rows
section
variable {K:Type} [DecidableEq K] {N:OwnKind K} {X:Cx}
theorem Inv.thawX {pins:List (Addr×Obj)} {σ:St} {H:Hp} {s:Shared} {a:Addr} {o:Obj} {φ:Heap->Prop} (I:Inv X pins σ H s) (e:H a=some (.frz o (.ext φ))) (h0:∀ o u,X.H₀ a≠some (.frz o u)):Inv X pins σ (upd H a (.ext φ)) s:=by
 have ne:∀ b,H b=none->b≠a:=fun b q z=>by rw[z,e] at q;cases q
 refine⟨I.ok,I.os,I.bare,⟨I.base.keep,I.base.slot,fun b ob q n hx=>?_,I.base.there,fun b xs q=>?_,fun b ob u q=>?_,fun b ps q=>?_⟩,I.loc,I.cell,?_,fun x c q=>?_,fun p hp=>?_,fun b ob q=>?_,I.len⟩
 ·have:=I.base.free b ob q n hx
  rw[jg_ (ne b this)];exact this
 ·have:=I.base.tups b xs q
  rw[jg_ (fun z=>by rw[z,e] at this;cases this)];exact this
 ·have:=I.base.frzs b ob u q
  rw[jg_ (fun z=>h0 _ _ (z▸q))];exact this
 ·obtain⟨more,this⟩:=I.base.tbls b ps q
  exact⟨more,by rw[jg_ (fun z=>by rw[z,e] at this;cases this)];exact this⟩
 ·rw[jg_ (ne _ I.free)];exact I.free
 ·rw[jg_ (ne _ (I.freeC x c q))];exact I.freeC x c q
 ·obtain⟨p1,p2,p3⟩:=I.pin p hp
  exact⟨p1,by rw[jg_ (ne _ p2)];exact p2,p3⟩
 ·have st:∀{u:HO},ObjOk X.prog X.w H s.heap b u->ObjOk X.prog X.w (upd H a (.ext φ)) s.heap b u:=fun x=>x.stay (fun _ _ _ q=>q) (fun c q=>by rw[jg_ (jef_ q e (by intro z;cases z))];exact q) fun c xs q=>by rw[jg_ (jef_ q e (by intro z;cases z))];exact q
  by_cases hb:b=a
  ·subst hb
   rw[jb_] at q
   cases q
   exact st (I.hok b _ e).2
  ·rw[jg_ hb] at q
   exact st (I.hok b ob q)
def jgv_ (H₀:Hp) (t:TS):TS:=fun D σ H=>∃(a:Addr) (φ:Heap->Prop),(∀ o u,H₀ a≠some (.frz o u))/\t { D with nx:=fun σ' H'=>(∃ o,H' a=some (.frz o (.ext φ)))/\D.nx σ' (upd H' a (.ext φ)) } σ H
theorem jnf_ {st:Stmt} {t:TS} (h:PS X st t):PS X st (jgv_ X.H₀ t):=by
 intro pins s σ H D I ⟨a,φ,h0,q⟩
 refine thn (h pins s σ H _ I q) fun f s1 z=>?_
 cases f with
 | next =>
  obtain⟨σ',H',I',⟨o,e⟩,q'⟩:=z
  exact⟨σ',_,I'.thawX e h0,q'⟩
 | brk=>exact z
 | cont=>exact z
 | ret u=>exact z
def jib_ (H₀:Hp) (t:TE):TE:=fun σ H Q=>∃(a:Addr) (φ:Heap->Prop),(∀ o u,H₀ a≠some (.frz o u))/\t σ H fun x H'=>(∃ o,H' a=some (.frz o (.ext φ)))/\Q x (upd H' a (.ext φ))
theorem jkl_ {e:Expr} {t:TE} {H₀:Hp} (h:PE X e t) (hH:X.H₀=H₀:=by rfl):PE X e (jib_ H₀ t):=by
 subst hH
 intro pins s σ H Q I ⟨a,φ,h0,q⟩
 refine thn (h pins s σ H _ I q) fun u s1 ⟨x,H',I',rx,⟨o,e⟩,q'⟩=>?_
 exact⟨x,_,I'.thawX e h0,rx,q'⟩
theorem jke_ {H₀:Hp} {t:TE} {Q:VK} {σ:St} {H:Hp} {P:Program} {w:World} (a:Addr) (kvs:List (K×Addr×V)) (h0:∀ o u,H₀ a≠some (.frz o u)) (h:t σ H fun x H'=>(∃ o,H' a=some (.frz o (DX N P w a kvs)))/\Q x (upd H' a (DX N P w a kvs))):jib_ H₀ t σ H Q:=⟨a,_,h0,h⟩
theorem jgn_ {P:Program} {w:World} {a:Addr} {o:Obj} {kvs:List (K×Addr×V)} {p:Addr} {g:TG} {tc:TT} {te:TE} {Q:VK} {σ0:St} {H0:Hp} (Pv:Nat->List V->St->Hp->Prop)
  (hl:∀ i acc σ H,i<=kvs.length->Pv i acc σ H->H a=some (.frz o (DX N P w a kvs)))
  (h0:Pv 0 [] σ0 H0) (hp:∀ i acc σ H,Pv i acc σ H->H p=some (.lst acc)/\acc.length<=i) (hz:kvs.length<=sizeLine)
  (hs:∀ i acc σ H,i < kvs.length->Pv i acc σ H->g ((kvs.map fun e=>V.ref e.2.1).getD i .non) σ H fun σ3 H3=>tc σ3 H3 fun b H4 =>
   if b=true then te σ3 H4 fun v H5=>H5 p=some (.lst acc)/\Pv (i+1) (acc++[v]) σ3 (upd H5 p (.lst (acc++[v]))) else Pv (i+1) acc σ3 H4)
  (hd:∀ acc σ H,Pv kvs.length acc σ H->Q (.ref p) H):yi_ (Itx N P w a o kvs) p g tc te Q σ0 H0 :=
 jdg_ (J:=Itx N P w a o kvs) (n:=kvs.length) (val:=fun i=>(kvs.map fun e=>V.ref e.2.1).getD i .non) Pv
  (fun i acc σ H hi q=>⟨hl i acc σ H (sm_ hi) q,hi⟩) (fun acc σ H q=>⟨hl _ acc σ H (pk_ _) q,pk_ _⟩)
  (fun i acc σ H x _ hi q y=>⟨y.1,by
   obtain⟨kv,h1,h2⟩:=y.2
   rw[h2,pw_,pl_,h1];rfl⟩) h0 hp hz hs hd
theorem x2_ {A:Around} {k:Nat} (hr:Room k A):A.units+4 < cLine:=Nat.lt_of_le_of_lt (Nat.add_le_add_left (by decide:4<=64) _) hr.units
theorem jgz_ {A:Around} {k:Nat} (hr:Room k A):A.units+10 < cLine:=Nat.lt_of_le_of_lt (Nat.add_le_add_left (by decide:10<=64) _) hr.units
end
section
variable {K:Type} [DecidableEq K] {N:OwnKind K} {X:Cx} {P:Program} {w:World} {o i e f value l tg:Expr} {pos pos' apos cpos:Pos} {td ty tv tx tl tk:TE}
theorem jgf_ (hP:X.prog=P) (hw:X.w=w):PE X (.Dict [] [] pos) (jmk_ N P w):=by subst hP hw;exact jog_
theorem jlp_ (hP:X.prog=P) (hw:X.w=w) (hu:X.A.units+4 < cLine) (ho:PE X o td) (hi:PE X i ty) (hs:NoSl i):PE X (.Subscript o i pos) (jkr_ N P w td ty):=by subst hP hw;exact jnp_ hu ho hi hs
theorem jll_ (hP:X.prog=P) (hw:X.w=w) (hu:X.A.units+4 < cLine) (ho:PE X o td) (hi:PE X i ty) (hv:PE X value tv) (hs:swapsWith value (some (.Subscript o i pos')) pos.line X.env=pure false):PS X (.Assign [.Subscript o i pos'] value pos) (jmj_ N P w td ty tv):=by subst hP hw;exact jnx_ hu ho hi hv hs
theorem jda_ (hP:X.prog=P) (hw:X.w=w) (hu:X.A.units+4 < cLine) (ho:PE X o td) (he:PE X e ty) (hf:PE X f tx) (m:M2 X o "get" apos e f cpos):PE X (.Call (.Attribute o "get" apos) [e,f] [] cpos) (jgm_ N P w td ty tx):=by subst hP hw;exact jmu_ hu ho he hf m
theorem jig_ (hP:X.prog=P) (hw:X.w=w) (hl:PE X l tl):PI X tg l (jgp_ N P w tl):=by subst hP hw;exact jky_ hl
end
section
variable {K:Type} [DecidableEq K] {N:OwnKind K} {P:Program} {w:World} {td ty tv tx:TE} {σ:St} {H:Hp} {Q:VK}
theorem jgl_ (h:∀ p,H p=none->Q (.ref p) (upd H p (DX N P w p []))):jmk_ N P w σ H Q:=h
theorem jld_ (h:td σ H fun x H1=>ty σ H1 fun y H2=>∃ a v,x=.ref a/\DGetX N P w H2 a y (some v)/\Q v H2):jkr_ N P w td ty σ H Q:=h
theorem ux_ (h:td σ H fun x H1=>∃ a,x=.ref a/\IsDX N P w H1 a/\ty σ H1 fun y H2=>tx σ H2 fun z H3=>∃ o,DGetX N P w H3 a y o/\Q (o.getD z) H3):jgm_ N P w td ty tx σ H Q:=h
theorem jfu_ {D:Ends} (h:tv σ H fun v H1=>td σ H1 fun x H2=>ty σ H2 fun y H3=>∃ a H4,x=.ref a/\jfb_ N P w H3 a y v H4/\D.nx σ H4):jmj_ N P w td ty tv D σ H:=h
end
end L2
namespace L2
theorem xe_ {α:Type} [DecidableEq α]:∀{l1 l2:List α},l1.Nodup->l2.Nodup->(∀ a,a∈l1↔a∈l2)->l1.Perm l2
 | [],l2,_,_,h=>by
  cases l2 with
  | nil=>exact ri_.refl _
  | cons b l=>exact absurd ((h b).mpr po_) (by simp)
 | a::l1,l2,h1,h2,h=>by
  have h1':=r5_.mp h1
  have ha:a∈l2:=(h a).mp po_
  have hp:l2.Perm (a::l2.erase a):=List.perm_cons_erase ha
  have hn2:(a::l2.erase a).Nodup:=hp.nodup_iff.mp h2
  have hn2':=r5_.mp hn2
  refine ri_.trans (ri_.cons a (xe_ h1'.2 hn2'.2 fun b=>?_)) hp.symm
  constructor
  ·intro hb
   have:b∈a::l2.erase a:=hp.mem_iff.mp ((h b).mp (pm_ _ hb))
   rcases p7_.mp this with e | e
   ·rw[e] at hb;exact absurd hb h1'.1
   ·exact e
  ·intro hb
   have:b∈a::l1:=(h b).mpr (hp.mem_iff.mpr (pm_ _ hb))
   rcases p7_.mp this with e | e
   ·rw[e] at hb;exact absurd hb hn2'.1
   ·exact e
theorem xb_ {α β:Type} {f:α->β} {l:List α} (h:(l.map f).Nodup):l.Nodup:=sg_.imp (fun h e=>h (by rw[e])) (st_.mp h)
theorem jbn_ {α:Type} [DecidableEq α]:∀{l B:List α},l.Nodup->(∀ a∈l,a∈B)->l.length<=B.length
 | [],B,_,_=>qz_ _
 | a::l,B,hn,h=>by
  have hn:=r5_.mp hn
  have ha:=h a po_
  have ih:=jbn_ (B:=B.erase a) hn.2 fun b hb=>(List.mem_erase_of_ne (fun z:b=a=>hn.1 (by rw[<- z];exact hb))).mpr (h b (pm_ _ hb))
  have hl:=List.length_erase_of_mem ha
  have:=List.length_pos_of_mem ha
  rw[p3_];omega
end L2
namespace L2
open PySem PySem.Spec PyProof.Rows
abbrev PKey:=Str×List Int
def pk (x:List Nat×List Int):PKey:=(S x.1,x.2)
def cnt (l:List (List Nat×List Int)) (k:PKey):Nat:=(l.filter fun x=>decide (pk x=k)).length
theorem jmp_ (l:List (List Nat×List Int)) (x:List Nat×List Int) (k:PKey):cnt (l++[x]) k=cnt l k+if pk x=k then 1 else 0:=by
 unfold cnt
 rw[qt_,pd_]
 congr 1
 by_cases h:pk x=k
 ·simp[h]
 ·simp[h]
theorem cnt_pos {l:List (List Nat×List Int)} {k:PKey}:cnt l k≠0↔∃ x∈l,pk x=k:=by
 unfold cnt
 rw[<- t7_,List.length_pos_iff_exists_mem]
 constructor
 ·rintro⟨x,hx⟩
  have:=qd_.mp hx
  exact⟨x,this.1,of_decide_eq_true this.2⟩
 ·rintro⟨x,hx,h⟩
  exact⟨x,qd_.mpr ⟨hx,decide_eq_true h⟩⟩
structure CD (H:Hp) (kvs:List (PKey×Addr×V)) (l:List (List Nat×List Int)):Prop where
 ko:KO patKind H kvs
 nd:(kvs.map (·.1)).Nodup
 mem:∀ k,k∈kvs.map (·.1)↔∃ x∈l,pk x=k
 val:∀ k,valX kvs k=if cnt l k=0 then none else some (.int (cnt l k:Int))
 len:kvs.length<=l.length
theorem CD.nil {H:Hp}:CD H [] []:=⟨fun e he=>(nomatch he),by simp,fun k=>by simp,fun k=>rfl,pk_ _⟩
theorem xw_ {H H':Hp} (s:∀ b xs,H b=some (.tup xs)->H' b=some (.tup xs)) {k:PKey} {b:Addr} (h:patKind.at_ H k b):patKind.at_ H' k b:=by
 obtain⟨t,h1,h2⟩:=h
 exact⟨t,s _ _ h1,s _ _ h2⟩
theorem CD.tk {H H':Hp} {kvs:List (PKey×Addr×V)} {l:List (List Nat×List Int)} (s:∀ b xs,H b=some (.tup xs)->H' b=some (.tup xs)) (h:CD H kvs l):CD H' kvs l:=⟨fun e he=>xw_ s (h.ko e he),h.nd,h.mem,h.val,h.len⟩
theorem jby_ (kvs:List (PKey×Addr×V)) (k:PKey) (b:Addr) (v:V):(putX kvs k b v).map (·.1)=if k∈kvs.map (·.1) then kvs.map (·.1) else kvs.map (·.1)++[k]:=by
 have e:(kvs.any fun e=>decide (e.1=k))=true↔k∈kvs.map (·.1):=by
  rw[tw_,pu_]
  exact⟨fun⟨x,h1,h2⟩=>⟨x,h1,of_decide_eq_true h2⟩,fun⟨x,h1,h2⟩=>⟨x,h1,decide_eq_true h2⟩⟩
 unfold putX
 by_cases h:(kvs.any fun e=>decide (e.1=k))=true
 ·rw[if_pos h,if_pos (e.mp h),qu_]
  refine qp_ fun x _=>?_
  simp only[kx_]
  split <;> rfl
 ·rw[if_neg h,if_neg (fun q=>h (e.mpr q)),pn_];rfl
theorem CD.add {H:Hp} {kvs:List (PKey×Addr×V)} {l:List (List Nat×List Int)} (h:CD H kvs l) {x:List Nat×List Int} {b:Addr} (hb:patKind.at_ H (pk x) b):CD H (putX kvs (pk x) b (.int ((cnt l (pk x):Int)+1))) (l++[x]):=by
 refine⟨h.ko.put hb,?_,fun k=>?_,fun k=>?_,?_⟩
 ·rw[jby_]
  split
  ·exact h.nd
  ·rename_i hk
   exact su_.mpr ⟨h.nd,by simp,fun a ha c hc z=>hk ((show c=pk x by simpa using hc)▸z▸ha)⟩
 ·rw[jby_]
  constructor
  ·intro hk
   split at hk
   ·obtain⟨y,hy,e⟩:=(h.mem k).mp hk
    exact⟨y,qq_ _ hy,e⟩
   ·rcases pr_.mp hk with q | q
    ·obtain⟨y,hy,e⟩:=(h.mem k).mp q
     exact⟨y,qq_ _ hy,e⟩
    ·exact⟨x,by simp,by (have:k=pk x:=by simpa using q);rw[this]⟩
  ·rintro⟨y,hy,e⟩
   rcases pr_.mp hy with q | q
   ·have:=(h.mem k).mpr ⟨y,q,e⟩
    split
    ·exact this
    ·exact qq_ _ this
   ·have hyx:y=x:=by simpa using q
    rw[hyx] at e
    subst e
    split
    ·assumption
    ·simp
 ·rw[jaa_,jmp_]
  by_cases hk:k=pk x
  ·subst hk
   rw[if_pos rfl,if_pos rfl,if_neg (by omega)]
   congr 2
  ·rw[if_neg hk,if_neg (wf_ hk),Nat.add_zero,h.val]
 ·have:=xn_ kvs (pk x) b (.int ((cnt l (pk x):Int)+1))
  have:=h.len
  rw[pd_,tt_];omega
end L2
namespace L2
open PySem PySem.Spec PyProof.Rows
section
variable {K:Type} [DecidableEq K] {N:OwnKind K}
theorem jnk_ {H₀:Hp} {t:TS} {D:Ends} {σ:St} {H:Hp} {P:Program} {w:World} (a:Addr) (kvs:List (K×Addr×V)) (h0:∀ o u,H₀ a≠some (.frz o u)) (h:t { D with nx:=fun σ' H'=>(∃ o,H' a=some (.frz o (DX N P w a kvs)))/\D.nx σ' (upd H' a (DX N P w a kvs)) } σ H):jgv_ H₀ t D σ H:=⟨a,_,h0,h⟩
theorem jir_ {P:Program} {w:World} {a:Addr} {o:Obj} {kvs:List (K×Addr×V)} {g:TG} {tb:TS} {D:Ends} {σ:St} {H:Hp} (Pv:Nat->St->Hp->Prop) (h0:Pv 0 σ H) (hok:∀ i σ H,i<=kvs.length->Pv i σ H->H a=some (.frz o (DX N P w a kvs)))
  (hs:∀ i kv σ H,kvs[i]?=some kv->Pv i σ H->g (.ref kv.2.1) σ H fun σ2 H2=>tb { D with nx:=Pv (i+1),ct:=Pv (i+1),bk:=D.nx } σ2 H2) (hd:∀ σ H,Pv kvs.length σ H->D.nx σ H) :
  ∃ W:Nat->Nat->St->Hp->Prop,(∃ m,W 0 m σ H)/\∀ i m σ H,W i m σ H ->
   ((Itx N P w a o kvs).stop i H/\D.nx σ H)∨((Itx N P w a o kvs).go i H/\∃ N':St->Hp->Prop,(∀ σ' H',N' σ' H'->∃ m',m' < m/\W (i+1) m' σ' H')/\∀ x H',(Itx N P w a o kvs).yld i H x H'->g x σ H' fun σ2 H2=>tb { D with nx:=N',ct:=N',bk:=D.nx } σ2 H2):=by
 refine⟨fun i m σ H=>m=kvs.length - i/\i<=kvs.length/\Pv i σ H,⟨kvs.length,by simp,qz_ _,h0⟩,fun i m σ' H' w=>?_⟩
 obtain⟨rfl,hi,p⟩:=w
 have ho:=hok i σ' H' hi p
 by_cases hlt:i < kvs.length
 ·refine .inr ⟨⟨ho,hlt⟩,Pv (i+1),fun σ2 H2 p'=>⟨kvs.length - (i+1),by omega,rfl,hlt,p'⟩,fun x H2 y=>?_⟩
  obtain⟨rfl,kv,hv,rfl⟩:=y
  exact hs i kv σ' H2 hv p
 ·have e:i=kvs.length:=by omega
  exact .inl ⟨⟨ho,by omega⟩,hd σ' H' (e▸p)⟩
theorem jiu_ {X:Cx} {st:Stmt} {t:TS} {H₀:Hp} (h:PS X st t) (hH:X.H₀=H₀:=by rfl):PS X st (jgv_ H₀ t):=by
 subst hH;exact jnf_ h
theorem u4_ {kvs:List (K×Addr×V)} {k:K} {b:Addr} {v:V}:(putX kvs k b v).map (·.1)=if k∈kvs.map (·.1) then kvs.map (·.1) else kvs.map (·.1)++[k]:=by
 have e:(kvs.any fun e=>decide (e.1=k))=true↔k∈kvs.map (·.1):=by
  rw[tw_,pu_]
  exact⟨fun⟨x,h1,h2⟩=>⟨x,h1,of_decide_eq_true h2⟩,fun⟨x,h1,h2⟩=>⟨x,h1,decide_eq_true h2⟩⟩
 unfold putX
 by_cases h:(kvs.any fun e=>decide (e.1=k))=true
 ·rw[if_pos h,if_pos (e.mp h),qu_]
  refine qp_ fun x _=>?_
  simp only[kx_]
  split <;> rfl
 ·rw[if_neg h,if_neg (fun q=>h (e.mpr q)),pn_];rfl
theorem jfj_ {kvs:List (K×Addr×V)} {k:K} {b:Addr} {v:V} (h:(kvs.map (·.1)).Nodup):((putX kvs k b v).map (·.1)).Nodup:=by
 rw[u4_]
 split
 ·exact h
 ·rename_i hk
  exact su_.mpr ⟨h,by simp,fun a ha c hc z=>hk ((show c=k by simpa using hc)▸z▸ha)⟩
theorem mem_keys_putX {kvs:List (K×Addr×V)} {k j:K} {b:Addr} {v:V}:j∈(putX kvs k b v).map (·.1)↔j=k∨j∈kvs.map (·.1):=by
 rw[u4_]
 split
 ·rename_i h
  exact⟨fun q=>.inr q,fun q=>q.elim (fun e=>e▸h) id⟩
 ·rw[pr_,rk_];exact Or.comm
theorem valX_mem {kvs:List (K×Addr×V)} {k:K}:valX kvs k=none↔k∉kvs.map (·.1):=by
 unfold valX
 rw[Option.map_eq_none_iff,wc_]
 constructor
 ·intro h q
  obtain⟨e,he,rfl⟩:=pu_.mp q
  exact h e he (by simp)
 ·intro h e he q
  exact h (pu_.mpr ⟨e,he,of_decide_eq_true q⟩)
end
end L2
set_option maxHeartbeats 4000000
namespace K43
theorem _root_.L2.Room.mo_{k l:Nat} {A:PySem.Around} (h:L2.Room k A) (e:l<=k:=by first | decide | omega):L2.Room l A:=h.mono e
open PySem L2
local macro_rules | `(tactic| walk_at "f") => `(tactic| exact ⟨rfl,rfl,rfl,by decide +kernel,rfl,by decide +kernel,by decide +kernel⟩)
local macro_rules | `(tactic| walk_at "sc")=>`(tactic| first | assumption | omega | exact rfl | decide | exact szn (by omega) | (simp only[p3_,sb_,pb_,j7_] <;> omega) | trivial)
local macro_rules | `(tactic| walk_at "sq")=>`(tactic| first | assumption | exact yt_ | exact jkd_ | (exact j6_ (by assumption)) | (exact yw_ (by assumption)))
local macro_rules | `(tactic| walk_at "sl")=>`(tactic| first | assumption | exact SqL.of jb_ | exact SqL.of (by assumption))
local macro_rules | `(tactic| walk_at "st")=>`(tactic| first | assumption | exact SqT.of jb_ | exact SqT.of (by assumption))
local macro_rules | `(tactic| walk_at "lq")=>`(tactic| first | assumption | exact jmv_ | (exact uy_ (by assumption)))
local macro_rules | `(tactic| walk_at "at")=>`(tactic| first | exact jtv_ _ _ | exact jtq_ _ _ _ | exact jui_ _ _ _ _ | exact jty_ _ _ _ _ _ | assumption)
local macro_rules | `(tactic| walk_at "mu")=>`(tactic| first | (exact CMul.l (by omega) (by omega)) | (exact CMul.r (by omega) (by omega)) | (exact CMul.l (by decide) (by decide)) | (exact CMul.r (by decide) (by decide)))
local macro_rules | `(tactic| walk_at "sd")=>`(tactic| first | omega | (simp only[pd_,p3_,sb_,pb_,j0_] <;> omega))
local macro_rules | `(tactic| walk_at "g1")=>`(tactic| first
 | (with_reducible refine juj_ ?_) | (with_reducible refine jtz_ ?_) | (with_reducible refine jup_ ?_) | (with_reducible refine i_op ?_) | ((with_reducible refine' jto_ ?k1 ?_);(case k1=>exact rfl)) | (with_reducible refine i_c ?_)
 | (with_reducible refine juk_ ?_) | (with_reducible refine jrt_ ?_) | (with_reducible refine jrw_ ?_) | (with_reducible refine j4_ ?_) | (with_reducible refine jrd_ ?_) | (with_reducible refine jsa_ ?_) | (with_reducible refine i_bl ?_)
 | (with_reducible refine jtk_ ?_) | (with_reducible refine jsz_ ?_) | ((with_reducible refine' i_fI ?k1 ?_);(case k1=>walk_at "sc")) | ((with_reducible refine' jsg_ ?k1 ?_);(case k1=>walk_at "mu"))
 | ((with_reducible refine' yu_ ?k1 ?k2 ?_);(case k1=>walk_at "sq");(case k2=>walk_at "at")) | (with_reducible refine jsk_ ?_) | (with_reducible refine jug_ ?_) | (with_reducible refine i_cb ?_) | (with_reducible refine jra_ ?_)
 | (with_reducible refine jub_ ?_) | (with_reducible refine i_or ?_) | (with_reducible refine juh_ ?_) | (with_reducible refine i_andV ?_) | (with_reducible refine i_orV ?_) | (with_reducible refine i_notV ?_) | (with_reducible refine jtx_ ?_) | (with_reducible refine jpo_ ?_)
 | (with_reducible refine i_un ?_) | (with_reducible refine jtn_ ?_) | (with_reducible refine i_sl ?_) | (with_reducible refine jkz_ ?_) | (with_reducible refine jst_ ?_) | (with_reducible refine jtl_ ?_)
 | ((with_reducible refine' i_eq ?k1 ?_);(case k1=>exact rfl)) | ((with_reducible refine' i_ne ?k1 ?_);(case k1=>exact rfl)) | (with_reducible refine i_is ?_) | (with_reducible refine jpl_ ?_) | (with_reducible refine i_inS ?_)
 | ((with_reducible refine' jrs_ ?k1 ?_);(case k1=>walk_at "sd")) | ((with_reducible refine' jln_ ?k1 ?_);(case k1=>walk_at "sc")) | ((with_reducible refine' jsh_ ?k1 ?_);(case k1=>walk_at "sq")) | (with_reducible refine i_1I ?_) | (with_reducible refine i_2I ?_) | (with_reducible refine jrq_ ?_) | (with_reducible refine i_intI ?_)
 | ((with_reducible refine' jrm_ ?k1 ?_);(case k1=>walk_at "sd")) | ((with_reducible refine' jtr_ ?k1 ?_);(case k1=>walk_at "sd")) | ((with_reducible refine' jmr_ ?k1 ?_);(case k1=>walk_at "sc")) | ((with_reducible refine' jqs_ ?k1 ?_);(case k1=>walk_at "sc")) | (with_reducible refine jsr_ ?_) | (with_reducible refine i_truI ?_) | (with_reducible refine i_SS ?_) | (with_reducible refine jtt_ ?_)
 | ((with_reducible refine' jrh_ ?k1 ?k2 ?_);(case k1=>first | assumption | exact jb_);(case k2=>walk_at "sc")) | (with_reducible refine jrg_ ?_) | (with_reducible refine jta_ ?_) | ((with_reducible refine' i_r1 ?k1 ?_);(case k1=>omega)) | (with_reducible refine jrr_ ?_) | (with_reducible refine jrj_ ?_)
 | (with_reducible refine i_data ?_) | (with_reducible refine i_bm ?_) | (with_reducible refine jtm_ ?_) | (with_reducible refine jtj_ ?_) | ((with_reducible refine' jua_ ?k1 ?_);(case k1=>walk_at "sl")) | (with_reducible refine jun_ ?_) | (with_reducible refine juc_ ?_) | (with_reducible refine i_anyS ?_) | ((with_reducible refine' u1_ ?k1 ?_);(case k1=>walk_at "sl")) | ((with_reducible refine' i_anyT ?k1 ?_);(case k1=>walk_at "st")) | (with_reducible refine jop_ ?_) | (with_reducible refine i_enum ?_) | (with_reducible refine i_enS ?_)
 | ((with_reducible refine' jtb_ ?k1 ?_);(case k1=>assumption)) | ((with_reducible refine' jqi_ ?k1 ?k2 ?_);(case k1=>assumption);(case k2=>walk_at "at"))
 | (with_reducible refine jth_ ?_) | (with_reducible refine jts_ ?_) | (with_reducible refine i_retN ?_) | ((with_reducible refine' u2_ ?k1 ?_);(case k1=>first | exact rfl | decide)) | ((with_reducible refine' jbh_ ?k1 ?_);(case k1=>first | exact rfl | decide)) | ((with_reducible refine' jtf_ ?k1 ?_);(case k1=>intro z;cases z)) | ((with_reducible refine' jtc_ ?k1 ?_);(case k1=>exact rfl)) | ((with_reducible refine' i_sz ?k1 ?_);(case k1=>exact szc rfl)) | ((with_reducible refine' jtu_ ?k1 ?k2 ?_);(case k1=>first | exact rfl | (exact jod_ (by assumption)) | (exact jpb_ (by assumption)));(case k2=>exact rfl)) | ((with_reducible refine' i_r2 ?k1 ?_);(case k1=>omega)) | ((with_reducible show Ends.nx _ _ _);dsimp only) | ((with_reducible show Ends.rt _ _ _);dsimp only) | ((with_reducible refine' jmb_ ?k1 ?k2 ?_);(case k1=>first | assumption | exact jb_);(case k2=>first | exact rfl | (exact jfr_ (by omega) (by omega)))))
local macro_rules | `(tactic| walk_at "go")=>`(tactic| repeat (walk_at "g1"))
seal L2.PSs L2.PS L2.PE L2.PT L2.PA L2.PI L2.PG L2.PTs L2.PGs L2.PO L2.PW
def top (i:Nat):Stmt:=PySem.Challenge.pw_breakwords_k43_taught_level_by_level.main.body.getD i (.Pass ⟨0,0,0,0⟩)
structure Txt (mg:Str->Option Value) (tk:Nat->Tok):Prop where
 z_len:mg "len"=none
 z_all:mg "all"=none
 z_range:mg "range"=none
 z_enumerate:mg "enumerate"=none
 z_isinstance:mg "isinstance"=none
 z_tuple:mg "tuple"=none
 z_list:mg "list"=none
 z_bool:mg "bool"=none
 z_str:mg "str"=none
 z_int:mg "int"=none
 z_max:mg "max"=none
 z_min:mg "min"=none
 z_sorted:mg "sorted"=none
 z_any:mg "any"=none
abbrev s_law_row:Stmt:=top 17
theorem sc_law_row:FnScope ["_law_script","_law_at","_law_bounds","_law_cell","_law_rest","_law_found","_law_k","_law_mixed"] ["_law_script","_law_at","_law_bounds"] (jm_ s_law_row):=by walk_at "f"
abbrev s_law_letters:Stmt:=top 18
theorem sc_law_letters:FnScope ["_law_numbers","_law_letters_here","_law_step"] ["_law_numbers"] (jm_ s_law_letters):=by walk_at "f"
def jek_ (K:pc_):Sp:=fun vs H Q _=>∃(a:Addr) (ns:List Int) (k:Nat) (b:Addr) (bs:List Int),vs=[.ref a,.int (k:Int),.ref b]/\SqL K H a (ns.map V.int)/\k < 1000/\H b=some (.lst (bs.map V.int))/\bs.length<=100/\(∀ x∈bs,0 < x/\x < 1000000) /\
 ∀(r:Addr) (ds:List Int) (H':Hp),H r=none->H' r=some (.lst (ds.map V.int))->ds.length=bs.length->(∀(j:Nat) d c,ds[j]?=some d->bs[j]?=some c->0<=d/\d < c)->Same H H'->Q (.ref r) H'
def lets (l:List Nat):List V:=l.map fun c=>V.str (S [c])
def jfo_:Sp:=fun vs H Q _=>∃(a:Addr) (x y z:Int),vs=[.ref a]/\H a=some (.lst [.int x,.int y,.int z])/\0<=x/\x < 26/\0<=y/\y < 6/\0<=z/\z < 3 /\
 ∀(r:Addr) (l:List Nat) (H':Hp),H r=none->H' r=some (.lst (lets l))->Low l->3<=l.length->l.length<=5->Same H H'->Q (.ref r) H'
theorem jrp_ {l:List Nat} (h:Low l):∀ c∈l,c < 128:=fun c hc=>by
 have:=h c hc
 unfold jqg_ at this
 simp at this
 omega
section
variable {P:Program} {w:World} {K:pc_} {mg:Str->Option Value} {base:Heap} {f:Addr} {fd:FuncData} {tk:Nat->Tok}
theorem jff_ (T:Txt mg tk) (F:Fun K "_law_row" "_law_row" s_law_row f fd):FnOk P w K mg base CX0 1 f fd ["_law_script","_law_at","_law_bounds"] (jek_ K):=by
 refine F.ok sc_law_row (fun vs H Q E h=>?_) (fun cdv A outer s H vs Q E hr h=>?_)
 ·obtain⟨a,ns,k,b,bs,rfl,_⟩:=h
  rfl
 obtain⟨a,ns,k,b,bs,rfl,hS,hk,hb,hbl,hbs,q⟩:=h
 have nd:=sc_law_row.nd
 refine⟨_,(jf_ (jl_ (i:=3) nd rfl (Or.inl rfl) jc_)
  (jf_ (x0_ (zi_ o_lt (pv 1) (jq_ (z0_ (K:=K)) rfl T.z_len (by decide +kernel) (ja_ (pv 0) je_)) (j3_ _))
   (jj_ (jl_ (i:=3) nd rfl (Or.inl rfl) (jv_ (jn_ (K:=K)) (pv 0) (pv 1) (fun _ _=>rfl))))
   z6_)
  (jf_ (jl_ (i:=4) nd rfl (Or.inl rfl) (ji_ xz_ (pv 3) (ji_ jkg_ jc_ jc_)))
  (jf_ (jl_ (i:=5) nd rfl (Or.inl rfl) (j1_ je_))
  (jf_ (zd_ p4_ rfl (zb_ rfl T.z_range (ja_ (jq_ (z0_ (K:=K)) rfl T.z_len (by decide +kernel) (ja_ (pv 2) je_)) je_)) (jk_ (i:=6) nd rfl (Or.inl rfl))
   (jj_ (x0_ (zi_ o_ge (pv 3) (ji_ jkg_ jc_ jc_) (j3_ _))
   (jf_ (zy_ (yh_ (K:=K) qh_ rl_ rm_ yz_ (pv 5) (ja_ (ji_ xm_ (pv 4) (jv_ (jn_ (K:=K)) (pv 2) (pv 6) (fun _ _=>rfl))) je_)))
  (jj_ (jl_ (i:=4) nd rfl (Or.inl rfl) (ji_ jmg_ (pv 4) (jv_ (jn_ (K:=K)) (pv 2) (pv 6) (fun _ _=>rfl))))))
   (jf_ (jl_ (i:=7) nd rfl (Or.inl rfl) (ji_ jo_ (ji_ jo_ (ji_ z5_ (ji_ jo_ (ji_ xm_ (pv 3) jc_) jc_) jc_) (ji_ z5_ (ji_ z5_ (ji_ jo_ (pv 6) jc_) (ji_ jo_ (pv 6) jc_)) jc_)) (ji_ z5_ (pv 1) jc_)))
  (jf_ (jl_ (i:=7) nd rfl (Or.inl rfl) (ji_ jmg_ (ji_ xm_ (ji_ z5_ (ji_ xm_ (pv 7) jc_) jc_) jc_) jc_))
  (jj_ (zy_ (yh_ (K:=K) qh_ rl_ rm_ yz_ (pv 5) (ja_ (ji_ xm_ (ji_ z5_ (pv 7) (ji_ jkg_ jc_ jc_)) (jv_ (jn_ (K:=K)) (pv 2) (pv 6) (fun _ _=>rfl))) je_)))))))))
  (jj_ (j8_ (pv 5)))))))),?_⟩
 rw[show L2.ze_ ["_law_script","_law_at","_law_bounds","_law_cell","_law_rest","_law_found","_law_k","_law_mixed"] [.ref a,.int (k:Int),.ref b]=[some (.ref a),some (.int (k:Int)),some (.ref b),none,none,none,none,none] from rfl]
 have hlen:(ns.map V.int).length=ns.length:=pb_ _
 have hlen2:(bs.map V.int).length=bs.length:=pb_ _
 walk_at "go"
 refine iteD (fun c=>?_) (fun c=>?_)
 ·rw[hlen] at c
  have hix:k < ns.length:=by omega
  walk_at "go"
  refine jqi_ (v:=.int ns[k]) hS ?_ ?_
  ·exact z2_ (by omega) (by rw[pl_,show ((k:Int)).toNat=k by omega,pa_ hix];rfl)
  walk_at "go"
  intro r hr0
  have s1:=jd_ hr0 (.lst [])
  have hb1:=s1 _ _ hb
  walk_at "go"
  rw[hlen2]
  walk_at "go"
  refine za_ (fun i σ H'=>∃(cell rest:Int) (v6 v7:Option V) (ds:List Int),σ=[some (.ref a),some (.int (k:Int)),some (.ref b),some (.int cell),some (.int rest),some (.ref r),v6,v7]/\ds.length=i/\(∀(j:Nat) d c,ds[j]?=some d->bs[j]?=some c->0<=d/\d < c)/\H' r=some (.lst (ds.map V.int))/\Same H H')
   ⟨_,_,none,none,[],rfl,rfl,(fun j d c e=>by simp at e),jb_,s1⟩ ?_ ?_
  ·rintro i σ H1 hi ⟨cell,rest,v6,v7,ds,rfl,hdl,hds,e1,s2⟩
   have hil:i < bs.length:=by omega
   have hb2:=s2 _ _ hb
   obtain⟨hc0,hc1⟩:=hbs _ (qf_ hil)
   have hdl2:(ds.map V.int).length < 1000000:=by rw[pb_];omega
   have hbi:atI (bs.map V.int) (0+(i:Int))=some (.int bs[i]):=z2_ (by omega) (by rw[show (0+(i:Int)).toNat=i by omega,pl_,pa_ hil];rfl)
   have hbe:bs[i]?=some bs[i]:=pa_ hil
   generalize bs[i]=m at hc0 hc1 hbi hbe
   have key:∀ d:Int,0<=d->d < m->(∀(j:Nat) d' c,(ds++[d])[j]?=some d'->bs[j]?=some c->0<=d'/\d' < c)/\(ds++[d]).length=i+1/\(upd H1 r (.lst (ds.map V.int++[.int d]))) r=some (.lst ((ds++[d]).map V.int))/\Same H (upd H1 r (.lst (ds.map V.int++[.int d]))):=fun d h0 h1=>by
    refine⟨fun j d' c e ec=>?_,by simp[hdl],by rw[jb_,pn_];rfl,fun b' o e=>?_⟩
    ·by_cases hj:j < ds.length
     ·rw[rh_ hj] at e
      exact hds j d' c e ec
     ·have hj2:j=ds.length:=by
       have:=(ph_.mp e).1
       simp at this;omega
      subst hj2
      rw[q3_ (pk_ _),Nat.sub_self] at e
      simp only[w0_,k0_] at e
      rw[hdl,hbe] at ec
      cases ec
      subst e
      exact⟨h0,h1⟩
    ·have hbr:b'≠r:=fun z=>by rw[z,hr0] at e;cases e
     rw[jg_ hbr];exact s2 b' o e
   have hcd:CDiv rest m:=⟨hc0,by omega⟩
   have fin:∀ d:Int,0<=d->d < m->∀(cell rest:Int) (v6 v7:Option V),∃(cell' rest':Int) (v6' v7':Option V) (ds':List Int),[some (V.ref a),some (.int (k:Int)),some (.ref b),some (.int cell),some (.int rest),some (.ref r),v6,v7]=[some (V.ref a),some (.int (k:Int)),some (.ref b),some (.int cell'),some (.int rest'),some (.ref r),v6',v7']/\ds'.length=i+1/\(∀(j:Nat) d c,ds'[j]?=some d->bs[j]?=some c->0<=d/\d < c)/\(upd H1 r (.lst (ds.map V.int++[.int d]))) r=some (.lst (ds'.map V.int))/\Same H (upd H1 r (.lst (ds.map V.int++[.int d]))):=fun d h0 h1 cell rest v6 v7=>by
    obtain⟨k1,k2,k3,k4⟩:=key d h0 h1
    exact⟨cell,rest,v6,v7,ds++[d],rfl,k2,k1,k3,k4⟩
   walk_at "go"
   refine iteD (fun c=>?_) (fun c=>?_)
   ·walk_at "go"
    have hb3:=(key (rest % m) (ru_ _ (by omega)) (rd_ _ hc0)).2.2.2 _ _ hb
    walk_at "go"
    exact fin _ (ru_ _ (by omega)) (rd_ _ hc0) _ _ _ _
   ·walk_at "go"
    exact fin _ (ru_ _ (by omega)) (rd_ _ hc0) _ _ _ _
  ·rintro σ H1 ⟨cell,rest,v6,v7,ds,rfl,hdl,hds,e1,s2⟩
   walk_at "go"
   exact q r ds H1 hr0 e1 (by omega) hds s2
 ·skip
  walk_at "go"
  intro r hr0
  have s1:=jd_ hr0 (.lst [])
  have hb1:=s1 _ _ hb
  walk_at "go"
  rw[hlen2]
  walk_at "go"
  refine za_ (fun i σ H'=>∃(cell rest:Int) (v6 v7:Option V) (ds:List Int),σ=[some (.ref a),some (.int (k:Int)),some (.ref b),some (.int cell),some (.int rest),some (.ref r),v6,v7]/\ds.length=i/\(∀(j:Nat) d c,ds[j]?=some d->bs[j]?=some c->0<=d/\d < c)/\H' r=some (.lst (ds.map V.int))/\Same H H')
   ⟨_,_,none,none,[],rfl,rfl,(fun j d c e=>by simp at e),jb_,s1⟩ ?_ ?_
  ·rintro i σ H1 hi ⟨cell,rest,v6,v7,ds,rfl,hdl,hds,e1,s2⟩
   have hil:i < bs.length:=by omega
   have hb2:=s2 _ _ hb
   obtain⟨hc0,hc1⟩:=hbs _ (qf_ hil)
   have hdl2:(ds.map V.int).length < 1000000:=by rw[pb_];omega
   have hbi:atI (bs.map V.int) (0+(i:Int))=some (.int bs[i]):=z2_ (by omega) (by rw[show (0+(i:Int)).toNat=i by omega,pl_,pa_ hil];rfl)
   have hbe:bs[i]?=some bs[i]:=pa_ hil
   generalize bs[i]=m at hc0 hc1 hbi hbe
   have key:∀ d:Int,0<=d->d < m->(∀(j:Nat) d' c,(ds++[d])[j]?=some d'->bs[j]?=some c->0<=d'/\d' < c)/\(ds++[d]).length=i+1/\(upd H1 r (.lst (ds.map V.int++[.int d]))) r=some (.lst ((ds++[d]).map V.int))/\Same H (upd H1 r (.lst (ds.map V.int++[.int d]))):=fun d h0 h1=>by
    refine⟨fun j d' c e ec=>?_,by simp[hdl],by rw[jb_,pn_];rfl,fun b' o e=>?_⟩
    ·by_cases hj:j < ds.length
     ·rw[rh_ hj] at e
      exact hds j d' c e ec
     ·have hj2:j=ds.length:=by
       have:=(ph_.mp e).1
       simp at this;omega
      subst hj2
      rw[q3_ (pk_ _),Nat.sub_self] at e
      simp only[w0_,k0_] at e
      rw[hdl,hbe] at ec
      cases ec
      subst e
      exact⟨h0,h1⟩
    ·have hbr:b'≠r:=fun z=>by rw[z,hr0] at e;cases e
     rw[jg_ hbr];exact s2 b' o e
   have hcd:CDiv rest m:=⟨hc0,by omega⟩
   have fin:∀ d:Int,0<=d->d < m->∀(cell rest:Int) (v6 v7:Option V),∃(cell' rest':Int) (v6' v7':Option V) (ds':List Int),[some (V.ref a),some (.int (k:Int)),some (.ref b),some (.int cell),some (.int rest),some (.ref r),v6,v7]=[some (V.ref a),some (.int (k:Int)),some (.ref b),some (.int cell'),some (.int rest'),some (.ref r),v6',v7']/\ds'.length=i+1/\(∀(j:Nat) d c,ds'[j]?=some d->bs[j]?=some c->0<=d/\d < c)/\(upd H1 r (.lst (ds.map V.int++[.int d]))) r=some (.lst (ds'.map V.int))/\Same H (upd H1 r (.lst (ds.map V.int++[.int d]))):=fun d h0 h1 cell rest v6 v7=>by
    obtain⟨k1,k2,k3,k4⟩:=key d h0 h1
    exact⟨cell,rest,v6,v7,ds++[d],rfl,k2,k1,k3,k4⟩
   walk_at "go"
   refine iteD (fun c=>?_) (fun c=>?_)
   ·walk_at "go"
    have hb3:=(key (rest % m) (ru_ _ (by omega)) (rd_ _ hc0)).2.2.2 _ _ hb
    walk_at "go"
    exact fin _ (ru_ _ (by omega)) (rd_ _ hc0) _ _ _ _
   ·walk_at "go"
    exact fin _ (ru_ _ (by omega)) (rd_ _ hc0) _ _ _ _
  ·rintro σ H1 ⟨cell,rest,v6,v7,ds,rfl,hdl,hds,e1,s2⟩
   walk_at "go"
   exact q r ds H1 hr0 e1 (by omega) hds s2
theorem u8_ (T:Txt mg tk) (F:Fun K "_law_letters" "_law_letters" s_law_letters f fd):FnOk P w K mg base CX0 1 f fd ["_law_numbers"] jfo_:=by
 refine F.ok sc_law_letters (fun vs H Q E h=>?_) (fun cdv A outer s H vs Q E hr h=>?_)
 ·obtain⟨a,x,y,z,rfl,_⟩:=h
  rfl
 obtain⟨a,x,y,z,rfl,ha,hx0,hx1,hy0,hy1,hz0,hz1,q⟩:=h
 have nd:=sc_law_letters.nd
 refine⟨_,(jf_ (jl_ (i:=1) nd rfl (Or.inr rfl) yr_)
  (jf_ (jl_ (i:=2) nd rfl (Or.inr rfl) (jv_ (jn_ (K:=K)) (j1_ (ja_ jc_ (ja_ jc_ (ja_ jc_ (ja_ jc_ (ja_ jc_ (ja_ jc_ je_))))))) (jv_ (jn_ (K:=K)) (pv 0) jc_ (fun _ _=>rfl)) (fun _ _=>rfl)))
  (jj_ (j8_ (zv_ ["_law_letters_here","_law_numbers","_law_step","_law_k"] [some 1,some 0,some 2,none] rfl (by kernel_rfl) rfl (zb_ rfl T.z_range (ja_ (ji_ jo_ jc_ (jv_ (jn_ (K:=K)) (pv 0) jc_ (fun _ _=>rfl))) je_)) (fun _ _ _ _=>(jk_ (i:=3) (show (["_law_letters_here","_law_numbers","_law_step","_law_k"]:List Str).Nodup by decide +kernel) rfl (Or.inl rfl) (Or.inr rfl))) (fun _ _ _ _=>y5_) (fun _ _ _ _=>(jv_ (jn_ (K:=K)) (pv 0) (ji_ xm_ (ji_ jo_ (jv_ (jn_ (K:=K)) (pv 1) jc_ (fun _ _=>rfl)) (ji_ z5_ (pv 2) (pv 3))) jc_) (fun _ _=>rfl)))))))),?_⟩
 rw[show L2.ze_ ["_law_numbers","_law_letters_here","_law_step"] [.ref a]=[some (.ref a),none,none] from rfl]
 rw[jue_]
 walk_at "go"
 intro b hb0
 have s1:=jd_ hb0 (.lst [.int 1,.int 3,.int 5,.int 7,.int 9,.int 11])
 have e1:=jb_ (H:=H) (a:=b) (o:=.lst [.int 1,.int 3,.int 5,.int 7,.int 9,.int 11])
 generalize upd H b (.lst [.int 1,.int 3,.int 5,.int 7,.int 9,.int 11])=H1 at s1 e1 ⊢
 have ha1:=s1 _ _ ha
 walk_at "go"
 obtain⟨st,hst,hst1,hst2⟩:∃ st:Int,atI [V.int 1,V.int 3,V.int 5,V.int 7,V.int 9,V.int 11] y=some (.int st)/\1<=st/\st<=11:=by
  have:y=0∨y=1∨y=2∨y=3∨y=4∨y=5:=by omega
  rcases this with rfl | rfl | rfl | rfl | rfl | rfl
  ·exact⟨1,by decide +kernel,by decide,by decide⟩
  ·exact⟨3,by decide +kernel,by decide,by decide⟩
  ·exact⟨5,by decide +kernel,by decide,by decide⟩
  ·exact⟨7,by decide +kernel,by decide,by decide⟩
  ·exact⟨9,by decide +kernel,by decide,by decide⟩
  ·exact⟨11,by decide +kernel,by decide,by decide⟩
 refine yu_ (j6_ e1) hst ?_
 walk_at "go"
 intro r hr0
 refine zx_ (fun i acc σ H'=>∃(v:Option V) (ws:List Nat),σ=[some (.str (S LETL)),some (.ref a),some (.int st),v]/\acc=lets ws/\ws.length=i/\Low ws/\Same H H'/\H' r=some (.lst acc))
  ⟨none,[],rfl,rfl,rfl,(fun c hc=>nomatch hc),s1.trans (jd_ hr0 _),jb_⟩ (fun i acc σ H' ⟨_,ws,_,e,e1,_,_,e2⟩=>⟨e2,by rw[e,lets,pb_];omega⟩) (szn (by omega)) ?_ ?_
 ·rintro i acc σ H' hi ⟨v,ws,rfl,rfl,hw1,hw2,s2,e2⟩
  have hll:(S LETL).length<=sizeLine:=szn (by rw[j7_];decide)
  have ha2:=s2 _ _ ha
  walk_at "go"
  have hl:LETL.length=26:=rfl
  have hc0:=ru_ (x+st * (0+(i:Int))) (show (26:Int)≠0 by decide)
  have hc1:=rd_ (x+st * (0+(i:Int))) (show (0:Int) < 26 by decide)
  generalize (x+st * (0+(i:Int))) % 26=c at hc0 hc1 ⊢
  have hcl:c.toNat < LETL.length:=by omega
  refine jti_ (c:=LETL[c.toNat]) hll (z2_ hc0 (by rw[jqb_];simp[hcl])) ?_
  refine⟨e2,_,ws++[LETL[c.toNat]],rfl,by rw[lets,lets,pn_];rfl,by rw[pd_,hw1];rfl,u5_ hw2 (fun x hx=>?_),fun b o e=>?_,jb_⟩
  ·have:x=LETL[c.toNat]:=by simpa using hx
   rw[this]
   exact jlj_ _ (qf_ _)
  ·have hbr:b≠r:=fun z=>by
    rw[z] at e
    have:=s1 _ _ e
    rw[hr0] at this;cases this
   rw[jg_ hbr];exact s2 b o e
 ·rintro acc σ H' ⟨v,ws,rfl,rfl,hw1,hw2,s2,e2⟩
  exact q r ws H' (s1.free hr0) e2 hw2 (by omega) (by omega) s2
end
abbrev s_fitting_places:Stmt:=top 1
theorem sc_fitting_places:FnScope ["signs","framed"] ["signs","framed"] (jm_ s_fitting_places):=by walk_at "f"
abbrev s_values_by_fits:Stmt:=top 2
theorem sc_values_by_fits:FnScope ["fits","word","told","begin","numbers","place","number"] ["fits","word"] (jm_ s_values_by_fits):=by walk_at "f"
abbrev s_values:Stmt:=top 3
theorem sc_values:FnScope ["patterns","word","framed","fits","pattern"] ["patterns","word"] (jm_ s_values):=by walk_at "f"
def jla_:Sp:=fun vs H Q _=>∃(p f:List Nat),vs=[.str (S p),.str (S f)]/\p.length<=1000/\f.length<=1000/\∀(r:Addr) (H':Hp),H r=none->H' r=some (.lst ((j5_ p f).map fun k:Nat=>V.int (k:Int)))->Same H H'->Q (.ref r) H'
def yv_:Sp:=fun vs H Q _=>∃(v:V) (xs:List Pat) (w:List Nat),vs=[v,.str (S w)]/\Is H v (zj_ xs)/\(∀ x∈xs,1<=x.1.length/\x.1.length<=1000/\x.2.length<=x.1.length+1)/\xs.length<=9000/\1<=w.length/\w.length<=100 /\
 ∀(r:Addr) (H':Hp),H r=none->H' r=some (.lst ((vals xs w).map V.int))->Same H H'->Q (.ref r) H'
theorem jeq_ {p f:List Nat} {b:Nat} (h:b∈j5_ p f):b+p.length<=f.length:=by
 unfold j5_ at h
 have:=(qd_.mp h).2
 unfold fits at this
 simp only[p2_,decide_eq_true_eq] at this
 exact this.1
theorem ve_ (w:List Nat):[46]++w++[46]=frame w:=by simp[frame]
theorem jhi_ (t:List Int) (p:Nat) (v:Int) (h:p < t.length):(t.map V.int).set p (.int (if v > t[p] then v else t[p]))=(put t p v).map V.int:=by
 unfold put mx
 rw[List.map_set]
 have:t.getD p 0=t[p]:=by simp[pw_,h]
 rw[this]
def u0_:Sp:=fun vs H Q _=>∃(v:V) (xs:List Fit) (w:List Nat),vs=[v,.str (S w)]/\Is H v (jhw_ xs)/\(∀ x∈xs,x.1+x.2.length<=w.length+3)/\w.length<=100 /\
 ∀(r:Addr) (H':Hp),H r=none->H' r=some (.lst ((cutA (layF (pe_ (w.length+3) 0) xs) (some 2) (some (-2))).map V.int))->Same H H'->Q (.ref r) H'
section
variable {P:Program} {w:World} {K:pc_} {mg:Str->Option Value} {base:Heap} {f:Addr} {fd:FuncData} {tk:Nat->Tok}
theorem vh_ (T:Txt mg tk) (F:Fun K "fitting_places" "fitting_places" s_fitting_places f fd):FnOk P w K mg base CX0 1 f fd ["signs","framed"] jla_:=by
 refine F.ok sc_fitting_places (fun vs H Q E h=>?_) (fun cdv A outer s H vs Q E hr h=>?_)
 ·obtain⟨p,f,rfl,_⟩:=h
  rfl
 obtain⟨p,fr,rfl,hp,hf,q⟩:=h
 have nd:=sc_fitting_places.nd
 refine⟨_,(jj_ (j8_ (zv_ ["framed","signs","place"] [some 1,some 0,none] rfl (by kernel_rfl) rfl (zb_ rfl T.z_range (ja_ (jq_ (z0_ (K:=K)) rfl T.z_len (by decide +kernel) (ja_ (pv 1) je_)) je_)) (fun _ _ _ _=>(jk_ (i:=2) (show (["framed","signs","place"]:List Str).Nodup by decide +kernel) rfl (Or.inl rfl) (Or.inr rfl))) (fun _ _ _ _=>(uw_ (jcx_ (yh_ (K:=K) w6_ PySem.F.slot_str_startswith PySem.F.type_str_startswith jau_ (pv 0) (ja_ (pv 1) (ja_ (pv 2) je_))) (fun _=>rfl)))) (fun _ _ _ _=>(pv 2))))),?_⟩
 rw[show L2.ze_ ["signs","framed"] [.str (S p),.str (S fr)]=[some (.str (S p)),some (.str (S fr))] from rfl]
 walk_at "go"
 intro r hr0
 refine zx_ (fun i acc σ H'=>∃ v,σ=[some (.str (S fr)),some (.str (S p)),v]/\acc=(((pt_ i).filter (fits p fr)).map fun k:Nat=>V.int (k:Int))/\Same H H'/\H' r=some (.lst acc))
  ⟨none,rfl,rfl,jd_ hr0 _,jb_⟩ (fun i acc σ H' ⟨_,_,e,_,e2⟩=>⟨e2,by rw[e,pb_];exact p5_ (q1_ _ _) (by simp)⟩) (szn (by omega)) ?_ ?_
 ·rintro i acc σ H' hi ⟨v,rfl,rfl,s1,e1⟩
  walk_at "go"
  rw[kh_,jkb_]
  refine iteB (fun c=>?_) (fun c=>?_)
  ·walk_at "go"
   refine⟨e1,_,rfl,?_,fun b o e=>?_,jb_⟩
   ·rw[q2_,qt_,pn_,qr_,c,if_pos rfl];rfl
   ·have hb:b≠r:=fun z=>by rw[z,hr0] at e;cases e
    rw[jg_ hb];exact s1 b o e
  ·refine⟨_,rfl,?_,s1,?_⟩
   ·rw[q2_,qt_,pn_,qr_,c,if_neg pf_];simp
   ·exact e1
 ·rintro acc σ H' ⟨v,rfl,rfl,s1,e1⟩
  refine q r H' hr0 ?_ s1
  rw[e1]
  show _=some (HO.lst (((pt_ fr.length).filter (fits p fr)).map _))
  simp
theorem vs_ (T:Txt mg tk) (F:Fun K "values_by_fits" "values_by_fits" s_values_by_fits f fd):FnOk P w K mg base CX0 1 f fd ["fits","word"] u0_:=by
 refine F.ok sc_values_by_fits (fun vs H Q E h=>?_) (fun cdv A outer s H vs Q E hr h=>?_)
 ·obtain⟨v,xs,w,rfl,_⟩:=h
  rfl
 obtain⟨v,xs,w',rfl,hv,hxs,hw2,q⟩:=h
 obtain⟨a,ys,rfl,ha,hys⟩:=jsu_ hv
 have nd:=sc_values_by_fits.nd
 refine⟨_,(jf_ (jl_ (i:=2) nd rfl (Or.inl rfl) (ji_ z5_ (j1_ (ja_ jc_ je_)) (ji_ jo_ (jq_ (z0_ (K:=K)) rfl T.z_len (by decide +kernel) (ja_ (pv 1) je_)) jc_)))
  (jf_ (zd_ p4_ rfl (ys_ (K:=K) (pv 0)) (yg_ rfl (jr_ (jk_ (i:=3) nd rfl (Or.inl rfl)) (jr_ (jk_ (i:=4) nd rfl (Or.inl rfl)) zu_)))
   (jj_ (zd_ p4_ rfl (jaj_ rfl T.z_enumerate (pv 4) (pv 3)) (yg_ rfl (jr_ (jk_ (i:=5) nd rfl (Or.inl rfl)) (jr_ (jk_ (i:=6) nd rfl (Or.inl rfl)) zu_)))
   (jj_ (jcq_ (jq_ (jkx_ rfl) rfl T.z_max (by decide +kernel) (ja_ (jv_ (jn_ (K:=K)) (pv 2) (pv 5) (fun _ _=>rfl)) (ja_ (pv 6) je_))) (jmz_ (pv 2) (pv 5) jqe_))))))
  (jj_ (j8_ (ya_ (x1_ (K:=K)) (pv 2) (zn_ jc_) (zn_ (jpu_ jql_ jc_))))))),?_⟩
 rw[show L2.ze_ ["fits","word","told","begin","numbers","place","number"] [.ref a,.str (S w')]=[some (.ref a),some (.str (S w')),none,none,none,none,none] from rfl]
 walk_at "go"
 intro b0 hb0
 walk_at "go"
 refine v7_ jb_ (by omega) fun t ht0=>?_
 have hrep:(pe_ (((w'.length:Nat):Int)+3).toNat (V.int 0))=(pe_ (w'.length+3) (0:Int)).map V.int:=by
  rw[we_];congr 1
 rw[hrep]
 have s0:Same H (upd (upd H b0 (.lst [.int 0])) t (.lst ((pe_ (w'.length+3) (0:Int)).map V.int))):=(jd_ hb0 _).trans (jd_ ht0 _)
 have htH:H t=none:=(jd_ hb0 _).free ht0
 have ha0:=s0 _ _ ha
 walk_at "go"
 refine zz_ (K:=K) (xs:=ys) (fun i σ H'=>∃(v3 v4 v5 v6:Option V),σ=[some (.ref a),some (.str (S w')),some (.ref t),v3,v4,v5,v6]/\H' t=some (.lst ((layF (pe_ (w'.length+3) 0) (xs.take i)).map V.int))/\Same H H')
  ⟨none,none,none,none,rfl,jb_,s0⟩ (fun i σ H' _ ⟨_,_,_,_,_,_,s1⟩=>SqL.of (s1 _ _ ha)) ?_ ?_
 ·rintro i x σ H1 hx ⟨v3,v4,v5,v6,rfl,e1,s1⟩
  have hil:i < xs.length:=by
   have h1:=(ph_.mp hx).1
   have h2:=hys.length
   rw[pb_] at h2;omega
  obtain⟨x',d,hx1,hx2,hx3⟩:=IsL.get hys (i:=i) (by rw[pb_];exact hil)
  rw[hx] at hx1
  cases hx1
  rw[pl_,pa_ hil] at hx2
  cases hx2
  obtain⟨pa,nt,rfl,hpa,hnt⟩:=juo_ hx3
  have hg:=hxs _ (qf_ hil)
  have hpa1:=s1 _ _ hpa
  have hnt1:=s1 _ _ hnt
  have hT1:=uf_ (xs.take i) (pe_ (w'.length+3) 0)
  rw[q7_] at hT1
  rw[jiq_ hil]
  generalize layF (pe_ (w'.length+3) 0) (xs.take i)=T1 at e1 hT1 ⊢
  generalize xs[i]=xi at hg hpa1 hnt1 hnt ⊢
  obtain⟨b,ns⟩:=xi
  refine yd_ hpa1 rfl (jy_ (j4_ (jy_ (j4_ (yf_ ?_)))))
  have hg:b+ns.length<=w'.length+3:=hg
  have hnt1:H1 nt=some (.tup (ns.map V.int)):=hnt1
  have hnt:H nt=some (.tup (ns.map V.int)):=hnt
  walk_at "go"
  refine⟨b,rfl,by omega,jrx_ hnt1 ?_⟩
  refine jle_ (b:=b) (xs:=ns.map V.int) (fun k σ H'=>∃(v5 v6:Option V),σ=[some (.ref a),some (.str (S w')),some (.ref t),some (.int (b:Int)),some (.ref nt),v5,v6]/\H' t=some (.lst ((laid T1 b (ns.take k)).map V.int))/\Same H H')
   ⟨_,_,rfl,e1,s1⟩ (fun k σ H' _ ⟨_,_,_,_,s4⟩=>s4 _ _ hnt) ?_ ?_
  ·rintro k z σ H4 T4 hz ⟨v5,v6,rfl,e4,s4⟩ hT4
   have hkl:k < ns.length:=by
    have:=(ph_.mp hz).1
    simpa using this
   rw[pl_,pa_ hkl] at hz
   cases hz
   have htT:t≠T4:=jh_ e4 hT4
   have hL2:=z1_ (ns.take k) T1 b
   have htk2:ns.take (k+1)=ns.take k++[ns[k]]:=by rw[qx_,pa_ hkl];rfl
   have hsn:=v0_ b ns[k] (ns.take k) T1 b
   rw[<- htk2,pq_,rc_ (sm_ hkl)] at hsn
   rw[hsn]
   generalize laid T1 b (ns.take k)=T2 at e4 hL2 ⊢
   have e5:(upd H4 T4 (.tup [.int ((b:Int)+(k:Int)),.int ns[k]])) t=some (.lst (T2.map V.int)):=by rw[jg_ htT];exact e4
   have hbk:b+k < T2.length:=by omega
   refine yd_ jb_ rfl (jy_ (j4_ (jy_ (j4_ (yf_ ?_)))))
   walk_at "go"
   refine yu_ (v:=.int T2[b+k]) (j6_ e5) (z2_ (by omega) (by rw[show ((b:Int)+(k:Int)).toNat=b+k by omega,pl_,pa_ hbk];rfl)) ?_
   walk_at "go"
   refine jmb_ (j:=b+k) e5 (by rw[pb_];rw[jfr_ (by omega) (by omega)];rfl) ?_
   rw[jhi_ T2 (b+k) ns[k] hbk]
   walk_at "go"
   refine⟨_,_,rfl,jb_,fun c o e=>?_⟩
   have hct:c≠t:=fun z=>by rw[z,htH] at e;cases e
   rw[jg_ hct]
   exact(jd_ hT4 _) c o (s4 c o e)
  ·rintro σ H4 ⟨v5,v6,rfl,e4,s4⟩
   rw[pb_,qa_] at e4
   walk_at "go"
   exact⟨_,_,_,_,rfl,e4,s4⟩
 ·rintro σ H1 ⟨v3,v4,v5,v6,rfl,e1,s1⟩
  have h2:=hys.length
  rw[pb_] at h2
  rw[h2,qa_] at e1
  walk_at "go"
  refine jhr_ (SqL.of e1) fun r hr1=>?_
  rw[ut_,vj_]
  walk_at "go"
  exact q r _ (s1.free hr1) jb_ (s1.trans (jd_ hr1 _))
theorem jjr_ (T:Txt mg tk) (F:Fun K "values" "values" s_values f fd) (D_fitting_places:Dn P w K mg base "fitting_places" 1 ["signs","framed"] jla_) (D_values_by_fits:Dn P w K mg base "values_by_fits" 1 ["fits","word"] u0_):FnOk P w K mg base CX0 2 f fd ["patterns","word"] yv_:=by
 refine F.ok sc_values (fun vs H Q E h=>?_) (fun cdv A outer s H vs Q E hr h=>?_)
 ·obtain⟨v,xs,w,rfl,_⟩:=h
  rfl
 obtain⟨v,xs,w',rfl,hv,hxs,hxl,hw1,hw2,q⟩:=h
 obtain⟨a,ys,rfl,ha,hys⟩:=u3_ hv
 have nd:=sc_values.nd
 refine⟨_,(jf_ (jl_ (i:=2) nd rfl (Or.inl rfl) (ji_ jo_ (ji_ jo_ yr_ (pv 1)) yr_))
  (jf_ (jl_ (i:=3) nd rfl (Or.inl rfl) (j1_ je_))
  (jf_ (zd_ p4_ rfl (ys_ (K:=K) (pv 0)) (jk_ (i:=4) nd rfl (Or.inr rfl))
   (jj_ (zy_ (yh_ (K:=K) qh_ sc_ sd_ xp_ (pv 3) (ja_ (zv_ ["pattern","begin"] [some 4,none] rfl (by kernel_rfl) rfl (ys_ (K:=K) (ju_ D_fitting_places hr.mo_ rfl (ja_ (jv_ (jn_ (K:=K)) (pv 4) jc_ (fun _ _=>rfl)) (ja_ (pv 2) je_)))) (fun _ _ _ _=>(jk_ (i:=1) (show (["pattern","begin"]:List Str).Nodup by decide +kernel) rfl (Or.inl rfl) (Or.inr rfl))) (fun _ _ _ _=>y5_) (fun _ _ _ _=>(ye_ (ja_ (pv 1) (ja_ (jv_ (jn_ (K:=K)) (pv 0) jc_ (fun _ _=>rfl)) je_))))) je_)))))
  (jj_ (j8_ (ju_ D_values_by_fits hr.mo_ rfl (ja_ (pv 3) (ja_ (pv 1) je_)))))))),?_⟩
 rw[show L2.ze_ ["patterns","word","framed","fits","pattern"] [.ref a,.str (S w')]=[some (.ref a),some (.str (S w')),none,none,none] from rfl]
 rw[jgy_]
 have hfl:=j0_ w'
 walk_at "go"
 rw[ve_]
 intro r hr0
 have ra:(upd H r (.lst [])) a=some (.lst ys):=(jd_ hr0 _) _ _ ha
 walk_at "go"
 refine zz_ (K:=K) (xs:=ys) (fun i σ H'=>∃(v4:Option V) (zs:List V),σ=[some (.ref a),some (.str (S w')),some (.str (S (frame w'))),some (.ref r),v4]/\H' r=some (.lst zs)/\IsL H' zs ((z3_ (frame w') (xs.take i)).map fitD)/\Same H H')
  ⟨none,[],rfl,jb_,(by simp[z3_,L2.IsL]),jd_ hr0 _⟩ (fun i σ H' _ ⟨_,_,_,_,_,s1⟩=>SqL.of (s1 _ _ ha)) ?_ ?_
 ·rintro i x σ H1 hx ⟨v4,zs,rfl,e1,hz1,s1⟩
  have hil:i < xs.length:=by
   have h1:=(ph_.mp hx).1
   have h2:=hys.length
   rw[pb_] at h2;omega
  obtain⟨x',d,hx1,hx2,hx3⟩:=IsL.get hys (i:=i) (by rw[pb_];exact hil)
  rw[hx] at hx1
  cases hx1
  rw[pl_,pa_ hil] at hx2
  cases hx2
  obtain⟨pa,nt,rfl,hpa,hnt⟩:=jbr_ hx3
  obtain⟨hg1,hg2,hg3⟩:=hxs _ (qf_ hil)
  have hpa1:=s1 _ _ hpa
  have hnt1:=s1 _ _ hnt
  have hzl:zs.length<=9000 * 102:=by
   have h1:=hz1.length
   rw[pb_] at h1
   have h2:=jap_ (frame w') (xs.take i)
   have h3:(xs.take i).length<=9000:=by rw[pq_];omega
   have h4:(xs.take i).length * (frame w').length<=9000 * 102:=tr_ h3 (by omega)
   omega
  rw[jec_ hil]
  generalize xs[i]=xi at hpa hnt hpa1 hnt1 hg1 hg2 hg3 ⊢
  walk_at "go"
  refine⟨xi.1,frame w',rfl,hg2,by omega,fun p H2 hp2 e2 s2=>?_⟩
  have hpa2:=s2 _ _ hpa1
  have hpl:=jbj_ xi.1 (frame w')
  walk_at "go"
  intro c hc0
  have rc:r≠c:=jh_ (s2 _ _ e1) hc0
  refine v9_ (K:=K) (xs:=(j5_ xi.1 (frame w')).map fun k:Nat=>V.int (k:Int)) (fun j acc σ H'=>∃ v,σ=[some (.ref pa),v]/\acc.length=j/\H' c=some (.lst acc)/\IsL H' acc ((((j5_ xi.1 (frame w')).take j).map fun b=>(b,xi.2)).map fitD)/\Same H2 H')
   (fun j acc σ H' _ ⟨_,_,_,_,_,s3⟩=>SqL.of (s3 _ _ e2)) ⟨none,rfl,rfl,jb_,(by simp[L2.IsL]),jd_ hc0 _⟩ (fun j acc σ H' ⟨_,_,e,e3,_⟩=>⟨e3,w9_ e⟩) (szn (by rw[pb_];omega)) ?_ ?_
  ·rintro j acc σ H3 hj ⟨v,rfl,hal,e3,hz3,s3⟩
   have hj':j < (j5_ xi.1 (frame w')).length:=by simpa using hj
   have hpa3:=s3 _ _ hpa2
   have hgd:((j5_ xi.1 (frame w')).map fun k:Nat=>V.int (k:Int)).getD j .non=V.int ((j5_ xi.1 (frame w'))[j]:Int):=by
    rw[pw_,pl_,pa_ hj'];rfl
   rw[hgd]
   walk_at "go"
   intro t ht0
   have tc:c≠t:=jh_ e3 ht0
   have e4:(upd H3 t (.tup [.int ((j5_ xi.1 (frame w'))[j]:Int),.ref nt])) c=some (.lst acc):=by rw[jg_ tc];exact e3
   have k4:Tk H3 (upd (upd H3 t (.tup [.int ((j5_ xi.1 (frame w'))[j]:Int),.ref nt])) c (.lst (acc++[.ref t]))):=(Tk.new ht0 _).trans (Tk.lst e4 _)
   refine⟨e4,_,rfl,by simp[hal],jb_,?_,fun b o e=>?_⟩
   ·have htk:(j5_ xi.1 (frame w')).take (j+1)=(j5_ xi.1 (frame w')).take j++[(j5_ xi.1 (frame w'))[j]]:=by rw[qx_,pa_ hj'];rfl
    rw[htk,pn_,pn_]
    refine IsL.snoc (IsL.tk k4 (x7_ _) hz3) (jmf_ (x:=((j5_ xi.1 (frame w'))[j],xi.2)) ?_ (k4 _ _ (s3 _ _ (s2 _ _ hnt1))))
    rw[jg_ tc.symm];exact jb_
   ·have hbc:b≠c:=fun z=>by rw[z,hc0] at e;cases e
    rw[jg_ hbc];exact(jd_ ht0 _) _ _ (s3 _ _ e)
  ·rintro acc σ H3 ⟨v,rfl,hal,e3,hz3,s3⟩
   rw[pb_] at hal hz3
   rw[qa_] at hz3
   have e3r:H3 r=some (.lst zs):=s3 _ _ (s2 _ _ e1)
   walk_at "go"
   refine jdr_ e3r e3 (szn (by omega)) ?_
   walk_at "go"
   have k5:Tk H3 (upd H3 r (.lst (zs++acc))):=Tk.lst e3r _
   refine⟨_,zs++acc,rfl,jb_,?_,fun b o e=>?_⟩
   ·rw[pn_]
    exact IsL.append (IsL.tk k5 (x7_ _) (IsL.same (s2.trans s3) hz1)) (IsL.tk k5 (x7_ _) hz3)
   ·have hbr:b≠r:=fun z=>by rw[z,hr0] at e;cases e
    rw[jg_ hbr];exact s3 _ _ (s2 _ _ (s1 _ _ e))
 ·rintro σ H1 ⟨v4,zs,rfl,e1,hz1,s1⟩
  have h2:=hys.length
  rw[pb_] at h2
  rw[h2,qa_] at hz1
  walk_at "go"
  refine⟨.ref r,z3_ (frame w') xs,w',rfl,?_,fun y hy=>?_,hw2,fun r2 H2 hr2 e2 s2=>?_⟩
  ·simp only[Is,jhw_];exact⟨r,zs,rfl,e1,hz1⟩
  ·obtain⟨x,hx,hp,he⟩:=jfh_ hy
   have h3:=jeq_ hp
   have h4:=(hxs x hx).2.2
   rw[he];omega
  ·rw[ul_,show w'.length+3=(frame w').length+1 by omega,vg_ xs w' hw1] at e2
   exact q r2 H2 (s1.free hr2) e2 (s1.trans s2)
end
theorem jpf_ {X:Cx} {es:List Expr} {k:Nat} {pos:Pos} {t:TGs} {n:Nat} {K:pc_} (hK:X.K=K) (hc:X.calm=true) (h:PGs X es t)
  (hn:(assignEach es X.env).length=n:=by rfl) (hst:(assignEach es X.env).findIdx? (·.1)=none:=by rfl):PG X (.Tuple es k pos) (gTup K n t):=hK▸yg_ hc h hn hst
abbrev s_breaks:Stmt:=top 4
theorem sc_breaks:FnScope ["patterns","word"] ["patterns","word"] (jm_ s_breaks):=by walk_at "f"
theorem jpc_ {b:Nat} {xs:List V} {ok:Hp->Prop} {p:Addr} {g:TG} {tc:TT} {te:TE} {Q:VK} {σ0:St} {H0:Hp} (Pv:Nat->List V->St->Hp->Prop)
  (hok:∀ i acc σ H,i<=xs.length->Pv i acc σ H->ok H) (h0:Pv 0 [] σ0 H0) (hp:∀ i acc σ H,Pv i acc σ H->H p=some (.lst acc)/\acc.length<=i) (hz:xs.length<=sizeLine)
  (hs:∀ i v acc σ H T,xs[i]?=some v->Pv i acc σ H->H T=none->g (.ref T) σ (upd H T (.tup [.int ((b:Int)+(i:Int)),v])) fun σ3 H3=>tc σ3 H3 fun bb H4 =>
   if bb=true then te σ3 H4 fun v H5=>H5 p=some (.lst acc)/\Pv (i+1) (acc++[v]) σ3 (upd H5 p (.lst (acc++[v]))) else Pv (i+1) acc σ3 H4)
  (hd:∀ acc σ H,Pv xs.length acc σ H->Q (.ref p) H):yi_ (Ien b xs ok) p g tc te Q σ0 H0:=by
 refine⟨fun i m acc σ H=>m=xs.length - i/\i<=xs.length/\Pv i acc σ H,⟨xs.length,by simp,qz_ _,h0⟩,fun i m acc σ' H' w=>?_⟩
 obtain⟨rfl,hi,q⟩:=w
 obtain⟨q1,q2⟩:=hp i acc σ' H' q
 have ho:=hok i acc σ' H' hi q
 refine⟨q1,?_⟩
 by_cases hlt:i < xs.length
 ·refine .inr ⟨⟨ho,hlt⟩,by omega,Pv (i+1),fun a' σ3 H3 k=>⟨xs.length - (i+1),by omega,rfl,hlt,k⟩,fun x H2 y=>?_⟩
  obtain⟨T,v,hT,hv,rfl,rfl⟩:=y
  exact hs i v acc σ' H' T hv q hT
 ·have e:i=xs.length:=by omega
  subst e
  exact .inl ⟨⟨ho,rfl⟩,hd acc σ' H' q⟩
def zo_ (vs:List Int) (j:Nat):Bool:=decide (vs.getD j 0 % 2=1)
def brks (vs:List Int):List Int:=((pt_ vs.length).filter (zo_ vs)).map fun j:Nat=>(j:Int)+1
def xc_ (vs:List Int) (i:Nat):List V:=((pt_ i).filter (zo_ vs)).map fun j:Nat=>V.int ((j:Int)+1)
theorem jji_ (vs:List Int):xc_ vs vs.length=(brks vs).map V.int:=by unfold xc_ brks;rw[qu_];rfl
theorem jin_ {vs:List Int} {i:Nat} (h:zo_ vs i=true):xc_ vs (i+1)=xc_ vs i++[V.int ((i:Int)+1)]:=by
 unfold xc_;rw[q2_,qt_,pn_,qr_,h,if_pos rfl];rfl
theorem jkm_ {vs:List Int} {i:Nat} (h:zo_ vs i=false):xc_ vs (i+1)=xc_ vs i:=by
 unfold xc_;rw[q2_,qt_,pn_,qr_,h,if_neg pf_];simp
theorem jjl_ (vs:List Int) (i:Nat):(xc_ vs i).length<=i:=by
 unfold xc_;rw[pb_];exact p5_ (q1_ _ _) (by simp)
def jac_:Sp:=fun vs H Q _=>∃(v:V) (xs:List Pat) (w:List Nat),vs=[v,.str (S w)]/\Is H v (zj_ xs)/\(∀ x∈xs,1<=x.1.length/\x.1.length<=1000/\x.2.length<=x.1.length+1)/\xs.length<=9000/\1<=w.length/\w.length<=100 /\
 ∀(t:Addr) (H':Hp),H' t=some (.tup ((brks (vals xs w)).map V.int))->Same H H'->Q (.ref t) H'
section
variable {P:Program} {w:World} {K:pc_} {mg:Str->Option Value} {base:Heap} {f:Addr} {fd:FuncData} {tk:Nat->Tok}
theorem jje_ (T:Txt mg tk) (F:Fun K "breaks" "breaks" s_breaks f fd) (D_values:Dn P w K mg base "values" 2 ["patterns","word"] yv_):FnOk P w K mg base CX0 3 f fd ["patterns","word"] jac_:=by
 refine F.ok sc_breaks (fun vs H Q E h=>?_) (fun cdv A outer s H vs Q E hr h=>?_)
 ·obtain⟨v,xs,w,rfl,_⟩:=h
  rfl
 obtain⟨v,xs,w',rfl,hv,hxs,hxl,hw1,hw2,q⟩:=h
 have nd:=sc_breaks.nd
 have hvl:=xl_ xs w'
 refine⟨_,(jj_ (j8_ (j9_ ur_ rfl T.z_tuple (by decide +kernel) (ja_ (zv_ ["gap","value"] [none,none] rfl (by kernel_rfl) rfl (jaj_ rfl T.z_enumerate (ju_ D_values hr.mo_ rfl (ja_ (pv 0) (ja_ (pv 1) je_))) jc_) (fun _ _ _ _=>(jpf_ (K:=K) (n:=2) rfl rfl (jr_ (jk_ (i:=0) (show (["gap","value"]:List Str).Nodup by decide +kernel) rfl (Or.inl rfl) (Or.inr rfl)) (jr_ (jk_ (i:=1) (show (["gap","value"]:List Str).Nodup by decide +kernel) rfl (Or.inl rfl) (Or.inr rfl)) zu_)))) (fun _ _ _ _=>(uw_ (zi_ (o_eq hr.units) (ji_ xm_ (pv 1) jc_) jc_ (j3_ _)))) (fun _ _ _ _=>(pv 0))) je_)))),?_⟩
 rw[show L2.ze_ ["patterns","word"] [v,.str (S w')]=[some (v),some (.str (S w'))] from rfl]
 walk_at "go"
 refine⟨v,xs,w',rfl,hv,hxs,hxl,hw1,hw2,fun a H1 ha0 e1 s1=>?_⟩
 walk_at "go"
 refine⟨1,rfl,by decide,jlm_ e1 ?_⟩
 intro r hr0
 have ar:a≠r:=jh_ e1 hr0
 refine jpc_ (b:=1) (xs:=(vals xs w').map V.int) (fun i acc σ H'=>∃ v1 v2,σ=[v1,v2]/\acc=xc_ (vals xs w') i/\Same H1 H'/\H' r=some (.lst acc))
  (fun i acc σ H' _ ⟨_,_,_,_,s2,_⟩=>s2 _ _ e1) ⟨none,none,rfl,rfl,jd_ hr0 _,jb_⟩ (fun i acc σ H' ⟨_,_,_,e,_,e2⟩=>⟨e2,by rw[e];exact jjl_ _ _⟩) (szn (by rw[pb_];omega)) ?_ ?_
 ·rintro i z acc σ H2 T2 hz ⟨v1,v2,rfl,rfl,s2,e2⟩ hT
  have hil:i < (vals xs w').length:=by
   have:=(ph_.mp hz).1
   simpa using this
  rw[pl_,pa_ hil] at hz
  cases hz
  have hod:zo_ (vals xs w') i=decide ((vals xs w')[i] % 2=1):=by unfold zo_;simp[pw_,hil]
  have rT:r≠T2:=jh_ e2 hT
  have s3:=jd_ hT (.tup [.int (((1:Nat):Int)+(i:Int)),.int (vals xs w')[i]])
  have e3:(upd H2 T2 (.tup [.int (((1:Nat):Int)+(i:Int)),.int (vals xs w')[i]])) r=some (.lst (xc_ (vals xs w') i)):=s3 _ _ e2
  refine yd_ jb_ rfl (jy_ (j4_ (jy_ (j4_ (yf_ ?_)))))
  walk_at "go"
  refine iteD (fun c=>?_) (fun c=>?_)
  ·have c':(vals xs w')[i] % 2=1:=by injection c
   walk_at "go"
   have hb:=jin_ (vs:=vals xs w') (i:=i) (by rw[hod];exact decide_eq_true c')
   have he:V.int (((1:Nat):Int)+(i:Int))=V.int ((i:Int)+1):=by congr 1;omega
   refine⟨e3,_,_,rfl,by rw[hb,he],fun b o e=>?_,jb_⟩
   have hbr:b≠r:=fun z=>by rw[z,hr0] at e;cases e
   rw[jg_ hbr];exact s3 _ _ (s2 b o e)
  ·have c':¬ (vals xs w')[i] % 2=1:=fun z=>c (by rw[z])
   have hb:=jkm_ (vs:=vals xs w') (i:=i) (by rw[hod];exact decide_eq_false c')
   exact⟨_,_,rfl,hb.symm,s2.trans s3,by rw[e3]⟩
 ·rintro acc σ H2 ⟨v1,v2,rfl,rfl,s2,e2⟩
  rw[pb_,jji_] at e2
  walk_at "go"
  refine vf_ (j6_ e2) fun t H3 ht k3=>?_
  walk_at "go"
  exact q t H3 ht ((s1.trans s2).trans k3)
end
abbrev s_law_values:Stmt:=top 19
theorem sc_law_values:FnScope ["_law_patterns","_law_word","_law_text","_law_best","_law_signs","_law_numbers","_law_begin","_law_k"] ["_law_patterns","_law_word"] (jm_ s_law_values):=by walk_at "f"
theorem jcz_ {p f:List Nat} (hp:p≠[]):(pt_ ((f.length:Int) - (p.length:Int)+1).toNat).filter (fits p f)=j5_ p f:=by
 have hp1:1<=p.length:=rg_.mpr hp
 unfold j5_
 obtain⟨m,hm⟩:∃ m,f.length=((f.length:Int) - (p.length:Int)+1).toNat+m:=⟨f.length - ((f.length:Int) - (p.length:Int)+1).toNat,by omega⟩
 generalize hn:((f.length:Int) - (p.length:Int)+1).toNat=n at hm ⊢
 rw[hm,List.range_add,qt_]
 have:((pt_ m).map (n+·)).filter (fits p f)=[]:=by
  rw[List.filter_eq_nil_iff]
  intro b hb hc
  obtain⟨j,hj,rfl⟩:=pu_.mp hb
  unfold fits at hc
  simp only[p2_,decide_eq_true_eq] at hc
  omega
 rw[this,p8_]
theorem jkp_ {p f:List Nat} {b:Nat} (h:b+p.length<=f.length):cutA f (some (b:Int)) (some ((b:Int)+(p.length:Int)))=p↔fits p f b=true:=by
 have e1:sx f.length 0 (some (b:Int))=b:=by simp only[sx];rw[if_neg (by omega)];omega
 have e2:sx f.length f.length (some ((b:Int)+(p.length:Int)))=b+p.length:=by simp only[sx];rw[if_neg (by omega)];omega
 unfold cutA fits
 rw[e1,e2,show b+p.length - b=p.length by omega]
 simp[h]
theorem jpm_ (t:List Int) (n:Nat) (h:t.length=n+3) (h1:1<=n):cutA t (some 2) (some ((n:Int)+1))=cutA t (some 2) (some (-2)):=by
 unfold cutA
 have e2:sx t.length t.length (some ((n:Int)+1))=sx t.length t.length (some (-2)):=by simp only[sx];rw[if_neg (by omega),if_pos (by decide)];omega
 rw[e2]
theorem jfe_ {f:List Nat} {xs:List Pat} {i:Nat} (h:i < xs.length) (t:List Int):xd_ f t (xs.take (i+1))=xy_ f (xd_ f t (xs.take i)) xs[i]:=by
 unfold xd_
 rw[qx_,pa_ h,wo_]
 rfl
theorem vt_ (f:List Nat) (xs:List Pat) (t:List Int):(xd_ f t xs).length=t.length:=(vx_ f xs t).1
theorem jjo_ (ns:List Int) (bs:List Nat) (t:List Int):(bs.foldl (fun t b=>laid t b ns) t).length=t.length:=(x5_ ns bs t).1
section
variable {P:Program} {w:World} {K:pc_} {mg:Str->Option Value} {base:Heap} {f:Addr} {fd:FuncData} {tk:Nat->Tok}
theorem jav_ (T:Txt mg tk) (F:Fun K "_law_values" "_law_values" s_law_values f fd):FnOk P w K mg base CX0 1 f fd ["_law_patterns","_law_word"] yv_:=by
 refine F.ok sc_law_values (fun vs H Q E h=>?_) (fun cdv A outer s H vs Q E hr h=>?_)
 ·obtain⟨v,xs,w,rfl,_⟩:=h
  rfl
 obtain⟨v,xs,w',rfl,hv,hxs,hxl,hw1,hw2,q⟩:=h
 obtain⟨a,ys,rfl,ha,hys⟩:=u3_ hv
 have nd:=sc_law_values.nd
 refine⟨_,(jf_ (jl_ (i:=2) nd rfl (Or.inl rfl) (ji_ jo_ (ji_ jo_ yr_ (pv 1)) yr_))
  (jf_ (jl_ (i:=3) nd rfl (Or.inl rfl) (ji_ z5_ (j1_ (ja_ jc_ je_)) (ji_ jo_ (jq_ (z0_ (K:=K)) rfl T.z_len (by decide +kernel) (ja_ (pv 2) je_)) jc_)))
  (jf_ (zd_ p4_ rfl (ys_ (K:=K) (pv 0)) (yg_ rfl (jr_ (jk_ (i:=4) nd rfl (Or.inl rfl)) (jr_ (jk_ (i:=5) nd rfl (Or.inl rfl)) zu_)))
   (jj_ (zd_ p4_ rfl (zb_ rfl T.z_range (ja_ (ji_ jo_ (ji_ xz_ (jq_ (z0_ (K:=K)) rfl T.z_len (by decide +kernel) (ja_ (pv 2) je_)) (jq_ (z0_ (K:=K)) rfl T.z_len (by decide +kernel) (ja_ (pv 4) je_))) jc_) je_)) (jk_ (i:=6) nd rfl (Or.inl rfl))
   (jj_ (x0_ (zi_ (o_eq hr.units) (ya_ (x1_ (K:=K)) (pv 2) (zn_ (pv 6)) (zn_ (ji_ jo_ (pv 6) (jq_ (z0_ (K:=K)) rfl T.z_len (by decide +kernel) (ja_ (pv 4) je_))))) (pv 4) (j3_ _))
   (jj_ (zd_ p4_ rfl (zb_ rfl T.z_range (ja_ (jq_ (z0_ (K:=K)) rfl T.z_len (by decide +kernel) (ja_ (pv 5) je_)) je_)) (jk_ (i:=7) nd rfl (Or.inl rfl))
   (jj_ (jcq_ (jq_ (jkx_ rfl) rfl T.z_max (by decide +kernel) (ja_ (jv_ (jn_ (K:=K)) (pv 3) (ji_ jo_ (pv 6) (pv 7)) (fun _ _=>rfl)) (ja_ (jv_ (jn_ (K:=K)) (pv 5) (pv 7) (fun _ _=>rfl)) je_))) (jmz_ (pv 3) (ji_ jo_ (pv 6) (pv 7)) jqe_)))))
   z6_)))))
  (jj_ (j8_ (ya_ (x1_ (K:=K)) (pv 3) (zn_ jc_) (zn_ (ji_ jo_ (jq_ (z0_ (K:=K)) rfl T.z_len (by decide +kernel) (ja_ (pv 1) je_)) jc_)))))))),?_⟩
 rw[show L2.ze_ ["_law_patterns","_law_word","_law_text","_law_best","_law_signs","_law_numbers","_law_begin","_law_k"] [.ref a,.str (S w')]=[some (.ref a),some (.str (S w')),none,none,none,none,none,none] from rfl]
 rw[jgy_]
 have hfl:=j0_ w'
 walk_at "go"
 rw[ve_]
 intro b0 hb0
 walk_at "go"
 refine v7_ jb_ (by omega) fun t ht0=>?_
 have hrep:(pe_ (((frame w').length:Int)+1).toNat (V.int 0))=(pe_ ((frame w').length+1) (0:Int)).map V.int:=by
  rw[we_];congr 1
 rw[hrep]
 have s0:Same H (upd (upd H b0 (.lst [.int 0])) t (.lst ((pe_ ((frame w').length+1) (0:Int)).map V.int))):=(jd_ hb0 _).trans (jd_ ht0 _)
 have htH:H t=none:=(jd_ hb0 _).free ht0
 have ha0:=s0 _ _ ha
 walk_at "go"
 refine zz_ (K:=K) (xs:=ys) (fun i σ H'=>∃(v4 v5 v6 v7:Option V),σ=[some (.ref a),some (.str (S w')),some (.str (S (frame w'))),some (.ref t),v4,v5,v6,v7]/\H' t=some (.lst ((xd_ (frame w') (pe_ ((frame w').length+1) 0) (xs.take i)).map V.int))/\Same H H')
  ⟨none,none,none,none,rfl,jb_,s0⟩ (fun i σ H' _ ⟨_,_,_,_,_,_,s1⟩=>SqL.of (s1 _ _ ha)) ?_ ?_
 ·rintro i x σ H1 hx ⟨v4,v5,v6,v7,rfl,e1,s1⟩
  have hil:i < xs.length:=by
   have h1:=(ph_.mp hx).1
   have h2:=hys.length
   rw[pb_] at h2;omega
  obtain⟨x',d,hx1,hx2,hx3⟩:=IsL.get hys (i:=i) (by rw[pb_];exact hil)
  rw[hx] at hx1
  cases hx1
  rw[pl_,pa_ hil] at hx2
  cases hx2
  obtain⟨pa,nt,rfl,hpa,hnt⟩:=jbr_ hx3
  obtain⟨hg1,hg2,hg3⟩:=hxs _ (qf_ hil)
  rw[jfe_ hil]
  have hT1:=vt_ (frame w') (xs.take i) (pe_ ((frame w').length+1) 0)
  rw[q7_] at hT1
  generalize xd_ (frame w') (pe_ ((frame w').length+1) 0) (xs.take i)=T1 at e1 hT1 ⊢
  generalize xs[i]=xi at hg1 hg2 hg3 hpa hnt ⊢
  obtain⟨p,ns⟩:=xi
  have hg1:1<=p.length:=hg1
  have hg2:p.length<=1000:=hg2
  have hg3:ns.length<=p.length+1:=hg3
  have hpne:p≠[]:=rg_.mp hg1
  have hpa1:H1 pa=some (.tup [.str (S p),.ref nt]):=s1 _ _ hpa
  have hnt:H nt=some (.tup (ns.map V.int)):=hnt
  have hnt1:=s1 _ _ hnt
  refine yd_ hpa1 rfl (jy_ (j4_ (jy_ (j4_ (yf_ ?_)))))
  walk_at "go"
  refine za_ (fun j σ H'=>∃(v6 v7:Option V),σ=[some (.ref a),some (.str (S w')),some (.str (S (frame w'))),some (.ref t),some (.str (S p)),some (.ref nt),v6,v7]/\H' t=some (.lst ((((pt_ j).filter (fits p (frame w'))).foldl (fun t b=>laid t b ns) T1).map V.int))/\Same H H')
   ⟨_,_,rfl,e1,s1⟩ ?_ ?_
  ·rintro j σ H2 hj ⟨v6,v7,rfl,e2,s2⟩
   have hjp:j+p.length<=(frame w').length:=by omega
   have hnt2:=s2 _ _ hnt
   have hcf:=jkp_ (f:=frame w') hjp
   have hL1:=jjo_ ns ((pt_ j).filter (fits p (frame w'))) T1
   have hst:(pt_ (j+1)).filter (fits p (frame w'))=(pt_ j).filter (fits p (frame w'))++(if fits p (frame w') j=true then [j] else []):=by
    rw[q2_,qt_,qr_,ki_]
   rw[hst,wo_]
   generalize ((pt_ j).filter (fits p (frame w'))).foldl (fun t b=>laid t b ns) T1=T2 at e2 hL1 ⊢
   walk_at "go"
   rw[kh_]
   refine iteD (fun c=>?_) (fun c=>?_)
   ·have c':fits p (frame w') j=true:=hcf.mp (jlr_ (by injection c))
    rw[if_pos c']
    walk_at "go"
    rw[pb_]
    walk_at "go"
    refine za_ (fun k σ H'=>∃(v7:Option V),σ=[some (.ref a),some (.str (S w')),some (.str (S (frame w'))),some (.ref t),some (.str (S p)),some (.ref nt),some (.int (j:Int)),v7]/\H' t=some (.lst ((laid T2 j (ns.take k)).map V.int))/\Same H H')
     ⟨_,rfl,e2,s2⟩ ?_ ?_
    ·rintro k σ H3 hk ⟨v7,rfl,e3,s3⟩
     have hkl:k < ns.length:=by omega
     have hnt3:=s3 _ _ hnt
     have hL2:=z1_ (ns.take k) T2 j
     have htk2:ns.take (k+1)=ns.take k++[ns[k]]:=by rw[qx_,pa_ hkl];rfl
     have hsn:=v0_ j ns[k] (ns.take k) T2 j
     rw[<- htk2,pq_,rc_ (sm_ hkl)] at hsn
     rw[hsn]
     generalize laid T2 j (ns.take k)=T3 at e3 hL2 ⊢
     have hbk:j+k < T3.length:=by omega
     walk_at "go"
     refine yu_ (v:=.int T3[j+k]) (j6_ e3) (z2_ (by omega) (by rw[show ((j:Int)+(0+(k:Int))).toNat=j+k by omega,pl_,pa_ hbk];rfl)) ?_
     walk_at "go"
     refine yu_ (v:=.int ns[k]) (yw_ hnt3) (z2_ (by omega) (by rw[show (0+(k:Int)).toNat=k by omega,pl_,pa_ hkl];rfl)) ?_
     walk_at "go"
     refine jmb_ (j:=j+k) e3 (by rw[pb_];rw[jfr_ (by omega) (by omega)];congr 1;omega) ?_
     rw[jhi_ T3 (j+k) ns[k] hbk]
     walk_at "go"
     refine⟨_,rfl,jb_,fun c o e=>?_⟩
     have hct:c≠t:=fun z=>by rw[z,htH] at e;cases e
     rw[jg_ hct]
     exact s3 c o e
    ·rintro σ H3 ⟨v7,rfl,e3,s3⟩
     rw[show ((ns.length:Int)).toNat=ns.length by omega,qa_] at e3
     walk_at "go"
     exact⟨_,_,rfl,e3,s3⟩
   ·have c':¬ fits p (frame w') j=true:=fun z=>c (by rw[hcf.mpr z])
    rw[if_neg c']
    walk_at "go"
    exact⟨_,_,rfl,e2,s2⟩
  ·rintro σ H2 ⟨v6,v7,rfl,e2,s2⟩
   rw[jcz_ hpne] at e2
   walk_at "go"
   exact⟨_,_,_,_,rfl,e2,s2⟩
 ·rintro σ H1 ⟨v4,v5,v6,v7,rfl,e1,s1⟩
  have h2:=hys.length
  rw[pb_] at h2
  rw[h2,qa_] at e1
  walk_at "go"
  refine jhr_ (SqL.of e1) fun r hr1=>?_
  have hT1:=vt_ (frame w') xs (pe_ ((frame w').length+1) 0)
  rw[q7_] at hT1
  rw[ut_,vj_,jpm_ _ w'.length (by omega) hw1,vg_ xs w' hw1]
  walk_at "go"
  exact q r _ (s1.free hr1) jb_ (s1.trans (jd_ hr1 _))
end
abbrev s_law_words:Stmt:=top 20
theorem sc_law_words:FnScope ["_law_script","_law_at","_law_letters_here","_law_many","_law_longest","_law_words_here","_law_k","_law_told","_law_word"] ["_law_script","_law_at","_law_letters_here","_law_many","_law_longest"] (jm_ s_law_words):=by walk_at "f"
theorem jiv_ (l:List Pat):(l.map fun x=>V.str (S x.1)).all yj_=true:=by
 rw[k3_,s1_];intro x _;rfl
def GWn (lo:Nat) (x:Pat):Prop:=Low x.1/\1<=x.1.length/\x.1.length<=lo/\x.2.length<=7
def jcu_ (K:pc_):Sp:=fun vs H Q _=>∃(a:Addr) (ns:List Int) (k:Nat) (b:Addr) (l:List Nat) (many lo:Nat),vs=[.ref a,.int (k:Int),.ref b,.int (many:Int),.int (lo:Int)]/\SqL K H a (ns.map V.int)/\k < 900/\H b=some (.lst (lets l))/\Low l/\1<=l.length/\l.length<=26/\many<=20/\1<=lo/\lo<=7 /\
 ∀(r:Addr) (ys:List V) (ws:List Pat) (H':Hp),H r=none->H' r=some (.lst ys)->L2.IsL H' ys (ws.map patD)->(∀ x∈ws,GWn lo x)->ws.length<=many->Same H H'->Q (.ref r) H'
section
variable {P:Program} {w:World} {K:pc_} {mg:Str->Option Value} {base:Heap} {f:Addr} {fd:FuncData} {tk:Nat->Tok}
theorem jcp_ (T:Txt mg tk) (F:Fun K "_law_words" "_law_words" s_law_words f fd) (D_law_row:Dn P w K mg base "_law_row" 1 ["_law_script","_law_at","_law_bounds"] (jek_ K)):FnOk P w K mg base CX0 2 f fd ["_law_script","_law_at","_law_letters_here","_law_many","_law_longest"] (jcu_ K):=by
 refine F.ok sc_law_words (fun vs H Q E h=>?_) (fun cdv A outer s H vs Q E hr h=>?_)
 ·obtain⟨a,ns,k,b,l,many,lo,rfl,_⟩:=h
  rfl
 obtain⟨a,ns,k,b,l,many,lo,rfl,hS,hk,hb,hl,hl1,hl2,hm,hlo1,hlo2,q⟩:=h
 have nd:=sc_law_words.nd
 refine⟨_,(jf_ (jl_ (i:=5) nd rfl (Or.inl rfl) (j1_ je_))
  (jf_ (zd_ p4_ rfl (zb_ rfl T.z_range (ja_ (pv 3) je_)) (jk_ (i:=6) nd rfl (Or.inl rfl))
   (jf_ (jl_ (i:=7) nd rfl (Or.inr rfl) (ju_ D_law_row hr.mo_ rfl (ja_ (pv 0) (ja_ (ji_ jo_ (pv 1) (pv 6)) (ja_ (ji_ jo_ (ji_ jo_ (j1_ (ja_ (pv 4) je_)) (ji_ z5_ (j1_ (ja_ jc_ je_)) jc_)) (ji_ z5_ (j1_ (ja_ jc_ je_)) jc_)) je_)))))
  (jf_ (jl_ (i:=8) nd rfl (Or.inl rfl) (yh_ (K:=K) w6_ PySem.F.slot_str_join PySem.F.type_str_join jnu_ yr_ (ja_ (zv_ ["_law_letters_here","_law_number"] [some 2,none] rfl (by kernel_rfl) rfl (ys_ (K:=K) (ya_ (x1_ (K:=K)) (pv 7) (zn_ jc_) (zn_ (ji_ jo_ jc_ (jv_ (jn_ (K:=K)) (pv 7) jc_ (fun _ _=>rfl)))))) (fun _ _ _ _=>(jk_ (i:=1) (show (["_law_letters_here","_law_number"]:List Str).Nodup by decide +kernel) rfl (Or.inl rfl) (Or.inr rfl))) (fun _ _ _ _=>y5_) (fun _ _ _ _=>(jv_ (jn_ (K:=K)) (pv 0) (ji_ xm_ (pv 1) (jq_ (z0_ (K:=K)) rfl T.z_len (by decide +kernel) (ja_ (pv 0) je_))) (fun _ _=>rfl)))) je_)))
  (jj_ (x0_ (zi_ jnq_ (pv 8) (zv_ ["_law_one"] [none] rfl (by kernel_rfl) rfl (ys_ (K:=K) (pv 5)) (fun _ _ _ _=>(jk_ (i:=0) (show (["_law_one"]:List Str).Nodup by decide +kernel) rfl (Or.inl rfl) (Or.inr rfl))) (fun _ _ _ _=>y5_) (fun _ _ _ _=>(jv_ (jn_ (K:=K)) (pv 0) jc_ (fun _ _=>rfl)))) (by with_unfolding_all rfl))
   (jj_ (zy_ (yh_ (K:=K) qh_ rl_ rm_ yz_ (pv 5) (ja_ (ye_ (ja_ (pv 8) (ja_ (j9_ ur_ rfl T.z_tuple (by decide +kernel) (ja_ (zv_ ["_law_told","_law_gap"] [some 7,none] rfl (by kernel_rfl) rfl (yx_ rfl T.z_range (ja_ jc_ (ja_ (jq_ (z0_ (K:=K)) rfl T.z_len (by decide +kernel) (ja_ (pv 8) je_)) je_))) (fun _ _ _ _=>(jk_ (i:=1) (show (["_law_told","_law_gap"]:List Str).Nodup by decide +kernel) rfl (Or.inl rfl) (Or.inr rfl))) (fun _ _ _ _=>(uw_ (zi_ (o_eq hr.units) (jv_ (jn_ (K:=K)) (pv 0) (ji_ jo_ jc_ (pv 1)) (fun _ _=>rfl)) jc_ (j3_ _)))) (fun _ _ _ _=>(pv 1))) je_)) je_))) je_))))
   z6_)))))
  (jj_ (j8_ (pv 5))))),?_⟩
 rw[show L2.ze_ ["_law_script","_law_at","_law_letters_here","_law_many","_law_longest","_law_words_here","_law_k","_law_told","_law_word"] [.ref a,.int (k:Int),.ref b,.int (many:Int),.int (lo:Int)]=[some (.ref a),some (.int (k:Int)),some (.ref b),some (.int (many:Int)),some (.int (lo:Int)),none,none,none,none] from rfl]
 rw[jnn_]
 have hll:(lets l).length=l.length:=by rw[lets,pb_]
 walk_at "go"
 intro r hr0
 have s0:=jd_ hr0 (.lst [])
 walk_at "go"
 refine za_ (fun i σ H'=>∃(v6 v7 v8:Option V) (ys:List V) (ws:List Pat),σ=[some (.ref a),some (.int (k:Int)),some (.ref b),some (.int (many:Int)),some (.int (lo:Int)),some (.ref r),v6,v7,v8]/\H' r=some (.lst ys)/\L2.IsL H' ys (ws.map patD)/\(∀ x∈ws,GWn lo x)/\ws.length<=i/\Same H H')
  ⟨none,none,none,[],[],rfl,jb_,(by simp[L2.IsL]),(fun x hx=>nomatch hx),pk_ _,s0⟩ ?_ ?_
 ·rintro i σ H1 hi ⟨v6,v7,v8,ys,ws,rfl,e1,hys,hws,hwl,s1⟩
  have hyl:=hys.length
  rw[pb_] at hyl
  walk_at "go"
  intro p1 h1
  walk_at "go"
  intro p2 h2
  walk_at "go"
  refine v7_ jb_ (by decide) fun p3 h3=>?_
  have e31:(upd (upd (upd H1 p1 (.lst [.int (lo:Int)])) p2 (.lst [.int 4])) p3 (.lst (pe_ (7:Int).toNat (.int 4)))) p1=some (.lst [.int (lo:Int)]):=(jd_ h3 _) _ _ ((jd_ h2 _) _ _ jb_)
  have s3:=((jd_ h1 (.lst [.int (lo:Int)])).trans (jd_ h2 (.lst [.int 4]))).trans (jd_ h3 (.lst (pe_ (7:Int).toNat (.int 4))))
  walk_at "go"
  refine xh_ e31 jb_ (szn (show 8<=1000000 by decide)) fun p4 h4=>?_
  have s4:=s3.trans (jd_ h4 (.lst ([.int (lo:Int)]++pe_ (7:Int).toNat (.int 4))))
  have e4:=jb_ (H:=upd (upd (upd H1 p1 (.lst [.int (lo:Int)])) p2 (.lst [.int 4])) p3 (.lst (pe_ (7:Int).toNat (.int 4)))) (a:=p4) (o:=.lst ([.int (lo:Int)]++pe_ (7:Int).toNat (.int 4)))
  generalize upd (upd (upd (upd H1 p1 (.lst [.int (lo:Int)])) p2 (.lst [.int 4])) p3 (.lst (pe_ (7:Int).toNat (.int 4)))) p4 (.lst ([.int (lo:Int)]++pe_ (7:Int).toNat (.int 4)))=H4 at s4 e4 ⊢
  walk_at "go"
  intro p5 h5
  walk_at "go"
  refine v7_ jb_ (by decide) fun p6 h6=>?_
  have e64:(upd (upd H4 p5 (.lst [.int 2])) p6 (.lst (pe_ (6:Int).toNat (.int 2)))) p4=_:=(jd_ h6 _) _ _ ((jd_ h5 _) _ _ e4)
  have s6:=(s4.trans (jd_ h5 (.lst [.int 2]))).trans (jd_ h6 (.lst (pe_ (6:Int).toNat (.int 2))))
  walk_at "go"
  refine xh_ e64 jb_ (szn (show 14<=1000000 by decide)) fun p7 h7=>?_
  have s7:=s6.trans (jd_ h7 (.lst (([.int (lo:Int)]++pe_ (7:Int).toNat (.int 4))++pe_ (6:Int).toNat (.int 2))))
  have e7:=jb_ (H:=upd (upd H4 p5 (.lst [.int 2])) p6 (.lst (pe_ (6:Int).toNat (.int 2)))) (a:=p7) (o:=.lst (([.int (lo:Int)]++pe_ (7:Int).toNat (.int 4))++pe_ (6:Int).toNat (.int 2)))
  generalize upd (upd (upd H4 p5 (.lst [.int 2])) p6 (.lst (pe_ (6:Int).toNat (.int 2)))) p7 (.lst (([.int (lo:Int)]++pe_ (7:Int).toNat (.int 4))++pe_ (6:Int).toNat (.int 2)))=H7 at s7 e7 ⊢
  have e7:H7 p7=some (.lst ([(lo:Int),4,4,4,4,4,4,4,2,2,2,2,2,2].map V.int)):=e7
  clear e64 s6 h6 h5 e4 s4 h4 s3 e31 h3 h2 h1
  walk_at "go"
  refine⟨a,ns,k+i,p7,[(lo:Int),4,4,4,4,4,4,4,2,2,2,2,2,2],by simp only[kd_,kh_];rfl,(s1.trans s7).seq hS,by omega,e7,(show 14<=100 by decide),fun x hx=>?_,fun t ds H8 ht0 et hdl hds s8=>?_⟩
  ·simp only[p7_,List.not_mem_nil,or_false] at hx
   rcases hx with h | h | h | h | h | h | h | h | h | h | h | h | h | h <;> subst h <;> omega
  have hdl:ds.length=14:=hdl
  have s18:=s7.trans s8
  have s08:=s1.trans s18
  have hb8:=s08 _ _ hb
  have e8:=s18 _ _ e1
  have hys8:=IsL.same s18 hys
  clear s8 s7 e7 ht0
  obtain⟨hd0,hd1⟩:=hds 0 (ds[0]'(by omega)) (lo:Int) (pa_ _) rfl
  have hdn:∀ x∈ds,0<=x:=fun x hx=>by
   obtain⟨j,hj,rfl⟩:=List.mem_iff_getElem.mp hx
   have hj2:j < [(lo:Int),4,4,4,4,4,4,4,2,2,2,2,2,2].length:=by rw[hdl] at hj;exact hj
   exact(hds j _ _ (pa_ hj) (pa_ hj2)).1
  have ad0:atI (ds.map V.int) 0=some (.int (ds[0]'(by omega))):=z2_ (by decide) (by rw[pl_];show Option.map V.int ds[0]?=_;rw[pa_ (by omega)];rfl)
  generalize (ds[0]'(by omega))=d0 at hd0 hd1 ad0
  walk_at "go"
  refine jhr_ (SqL.of et) fun g hg0=>?_
  rw[ut_,vj_]
  have hcl:=jag_ ds (some 1) (some (2+d0))
  have hx1:sx ds.length 0 (some 1)=1:=by simp only[sx];rw[if_neg (by decide)];show min 1 ds.length=1;omega
  have hx2:sx ds.length ds.length (some (2+d0))=2+d0.toNat:=by simp only[sx];rw[if_neg (by omega)];omega
  rw[hx1,hx2] at hcl
  have hcm:∀ v∈cutA ds (some 1) (some (2+d0)),0<=v:=fun v hv=>hdn v (qg_ (pz_ hv))
  generalize cutA ds (some 1) (some (2+d0))=cs at hcl hcm ⊢
  have s9:=jd_ hg0 (.lst (cs.map V.int))
  have e9:=jb_ (H:=H8) (a:=g) (o:=.lst (cs.map V.int))
  generalize upd H8 g (.lst (cs.map V.int))=H9 at s9 e9 ⊢
  have hb9:=s9 _ _ hb8
  walk_at "go"
  intro n hn0
  refine v9_ (K:=K) (xs:=cs.map V.int) (fun j acc σ H'=>∃(v:Option V) (us:List Nat),σ=[some (.ref b),v]/\acc=lets us/\us.length=j/\Low us/\H' n=some (.lst acc)/\Same H9 H')
   (fun j acc σ H' _ ⟨_,_,_,_,_,_,_,s3⟩=>SqL.of (s3 _ _ e9)) ⟨none,[],rfl,rfl,rfl,(fun u hu=>nomatch hu),jb_,jd_ hn0 _⟩ (fun j acc σ H' ⟨_,us,_,e,e1,_,e3,_⟩=>⟨e3,by rw[e,lets,pb_];omega⟩) (szn (by rw[pb_];omega)) ?_ ?_
  ·rintro j acc σ H10 hj ⟨v,us,rfl,rfl,hul,hus,e10,s10⟩
   have hj':j < cs.length:=by simpa using hj
   have hgd:(cs.map V.int).getD j .non=V.int cs[j]:=by
    rw[pw_,pl_,pa_ hj'];rfl
   rw[hgd]
   have hu0:=hcm _ (qf_ hj')
   generalize cs[j]=dx at hu0 ⊢
   have hb10:=s10 _ _ hb9
   walk_at "go"
   rw[hll]
   have hc0:=ru_ dx (show (l.length:Int)≠0 by omega)
   have hc1:=rd_ dx (show (0:Int) < (l.length:Int) by omega)
   generalize dx % (l.length:Int)=c at hc0 hc1 ⊢
   have hcl2:c.toNat < l.length:=by omega
   refine yu_ (v:=.str (S [l[c.toNat]])) (j6_ hb10) (z2_ hc0 (by rw[lets,pl_,pa_ hcl2];rfl)) ?_
   refine⟨e10,_,us++[l[c.toNat]],rfl,by rw[lets,lets,pn_];rfl,by rw[pd_,hul];rfl,u5_ hus (fun x hx=>?_),jb_,fun b' o e=>?_⟩
   ·have:x=l[c.toNat]:=by simpa using hx
    rw[this]
    exact hl _ (qf_ _)
   ·have hbr:b'≠n:=fun z=>by rw[z,hn0] at e;cases e
    rw[jg_ hbr];exact s10 b' o e
  ·rintro acc σ H10 ⟨v,us,rfl,rfl,hul,hus,e10,s10⟩
   rw[pb_] at hul
   walk_at "go"
   have hs:=up_ us
   refine jsi_ (ys:=us.map fun c=>S [c]) (by rw[<- jov_];exact uy_ e10) ?_ ?_
   ·rw[hs,pb_,j7_]
    simp only[sb_,Nat.mul_zero]
    omega
   rw[jgr_]
   have hu1:1<=us.length/\us.length<=lo:=by omega
   have s810:=s9.trans s10
   have e11:=s810 _ _ e8
   have hys11:=IsL.same s810 hys8
   have et11:=s810 _ _ et
   have s0_11:=s08.trans s810
   clear hs e10 hul hn0 s9 s10 e9 hb9 hcm hcl
   walk_at "go"
   intro m hm0
   refine v9_ (K:=K) (xs:=ys) (fun j acc σ H'=>∃(v:Option V),σ=[v]/\acc=(ws.take j).map (fun x=>V.str (S x.1))/\H' m=some (.lst acc)/\Same H10 H')
    (fun j acc σ H' _ ⟨_,_,_,_,s3⟩=>SqL.of (s3 _ _ e11)) ⟨none,rfl,rfl,jb_,jd_ hm0 _⟩ (fun j acc σ H' ⟨_,_,e,e3,_⟩=>⟨e3,by rw[e,pb_,pq_];omega⟩) (szn (by omega)) ?_ ?_
   ·rintro j acc σ H12 hj ⟨v,rfl,rfl,e12,s12⟩
    have hjl:j < ws.length:=by omega
    obtain⟨x',d,hx1,hx2,hx3⟩:=IsL.get hys11 (i:=j) (by rw[pb_];exact hjl)
    rw[pl_,pa_ hjl] at hx2
    cases hx2
    have hgd:ys.getD j .non=x':=by rw[pw_,hx1];rfl
    rw[hgd]
    obtain⟨pa,nt,rfl,hpa,hnt⟩:=jbr_ hx3
    have hpa12:=s12 _ _ hpa
    walk_at "go"
    refine⟨e12,_,rfl,?_,jb_,fun b' o e=>?_⟩
    ·rw[qx_,pa_ hjl,pn_];rfl
    ·have hbr:b'≠m:=fun z=>by rw[z,hm0] at e;cases e
     rw[jg_ hbr];exact s12 b' o e
   ·rintro acc σ H12 ⟨v,rfl,rfl,e12,s12⟩
    rw[hyl,qa_] at e12
    have e13:=s12 _ _ e11
    have hys13:=IsL.same s12 hys11
    have et13:=s12 _ _ et11
    have s0_13:=s0_11.trans s12
    walk_at "go"
    refine jhx_ (j6_ e12) ⟨rfl,jiv_ _⟩ ?_
    walk_at "go"
    refine iteB (fun c=>?_) (fun c=>?_)
    ·walk_at "go"
     intro z hz0
     refine zx_ (fun j acc σ H'=>∃(v:Option V) (gs:List Int),σ=[some (.ref t),v]/\acc=gs.map V.int/\gs.length<=j/\H' z=some (.lst acc)/\Same H12 H')
      ⟨none,[],rfl,rfl,pk_ _,jb_,jd_ hz0 _⟩ (fun j acc σ H' ⟨_,gs,_,e,e1,e3,_⟩=>⟨e3,by rw[e,pb_];omega⟩) (szn (by omega)) ?_ ?_
     ·rintro j acc σ H14 hj ⟨v,gs,rfl,rfl,hgl,e14,s14⟩
      have hjl:8+j < ds.length:=by omega
      have et14:=s14 _ _ et13
      walk_at "go"
      refine yu_ (v:=.int ds[8+j]) (j6_ et14) (z2_ (by omega) (by rw[show (7+(1+(j:Int))).toNat=8+j by omega,pl_,pa_ hjl];rfl)) ?_
      walk_at "go"
      refine iteD (fun c2=>?_) (fun c2=>?_)
      ·walk_at "go"
       refine⟨e14,_,gs++[1+(j:Int)],rfl,by rw[pn_];rfl,by rw[pd_];show _+1<=_;omega,jb_,fun b' o e=>?_⟩
       have hbr:b'≠z:=fun y=>by rw[y,hz0] at e;cases e
       rw[jg_ hbr];exact s14 b' o e
      ·exact⟨_,gs,rfl,rfl,by omega,e14,s14⟩
     ·rintro acc σ H14 ⟨v,gs,rfl,rfl,hgl,e14,s14⟩
      have hgl:gs.length<=7:=by omega
      walk_at "go"
      refine vf_ (j6_ e14) fun t' H15 ht' s15=>?_
      have s1315:=s14.trans s15
      have e15:=s1315 _ _ e13
      have hys15:=IsL.same s1315 hys13
      have s0_15:=s0_13.trans s1315
      clear e14 s14 s15 hz0
      walk_at "go"
      intro y hy0
      have yr:r≠y:=jh_ e15 hy0
      have e16:(upd H15 y (.tup [.str (S us),.ref t'])) r=some (.lst ys):=by rw[jg_ yr];exact e15
      have hsz:ys.length < sizeLine:=szn (by omega)
      walk_at "go"
      have k4:Tk H15 (upd (upd H15 y (.tup [.str (S us),.ref t'])) r (.lst (ys++[.ref y]))):=(Tk.new hy0 _).trans (Tk.lst e16 _)
      refine⟨_,_,_,ys++[.ref y],ws++[(us,gs)],rfl,jb_,?_,fun x hx=>?_,by rw[pd_];show _+1<=_;omega,fun b' o e=>?_⟩
      ·rw[pn_]
       refine IsL.snoc (IsL.tk k4 (jfi_ _) hys15) (u6_ (x:=(us,gs)) ?_ (k4 _ _ ht'))
       rw[jg_ yr.symm];exact jb_
      ·rcases pr_.mp hx with h | h
       ·exact hws x h
       ·have:x=(us,gs):=by simpa using h
        rw[this];exact⟨hus,hu1.1,hu1.2,hgl⟩
      ·have hbr:b'≠r:=fun z=>by rw[z,hr0] at e;cases e
       rw[jg_ hbr];exact(jd_ hy0 _) _ _ (s0_15 _ _ e)
    ·walk_at "go"
     exact⟨_,_,_,ys,ws,rfl,e13,hys13,hws,by omega,s0_13⟩
 ·rintro σ H1 ⟨v6,v7,v8,ys,ws,rfl,e1,hys,hws,hwl,s1⟩
  walk_at "go"
  exact q r ys ws H1 hr0 e1 hys hws (by omega) s1
end
abbrev s_seen_gaps:Stmt:=top 6
theorem sc_seen_gaps:FnScope ["words","patterns","seen","word","told","broken"] ["words","patterns"] (jm_ s_seen_gaps):=by walk_at "f"
structure Seen where
 w:List Nat
 g:Int
 t:Bool
 b:Bool
def ua_ (x:Seen):Dt:=.tup [.str (S x.w),.int x.g,.bl x.t,.bl x.b]
def jak_ (xs:List Pat) (x:Pat) (j:Nat):Seen:=⟨x.1,(j:Int)+1,decide ((j:Int)+1∈x.2),zo_ (vals xs x.1) j⟩
def jz_ (xs ws:List Pat):List Seen:=ws.flatMap fun x=>(pt_ (x.1.length - 1)).map (jak_ xs x)
theorem jfm_ {xs ws:List Pat} {i:Nat} (h:i < ws.length):jz_ xs (ws.take (i+1))=jz_ xs (ws.take i)++(pt_ (ws[i].1.length - 1)).map (jak_ xs ws[i]):=by
 unfold jz_
 rw[qx_,pa_ h,rt_]
 simp
theorem xt_ {xs:List Pat} {m:Nat}:∀{ws:List Pat},(∀ x∈ws,x.1.length<=m)->(jz_ xs ws).length<=ws.length * m
 | [],_=>by simp[jz_]
 | x::ws,h=>by
  have h1:=xt_ (xs:=xs) (m:=m) (ws:=ws) fun y hy=>h y (pm_ _ hy)
  have h2:=h x po_
  unfold jz_ at h1 ⊢
  rw[ql_,pd_,pb_,qk_,p3_,Nat.add_mul]
  omega
theorem jlc_ (vs:List Int) (j:Nat):decide ((j:Int)+1∈brks vs)=zo_ vs j:=by
 unfold brks
 by_cases h:zo_ vs j=true
 ·rw[h]
  apply decide_eq_true
  refine pu_.mpr ⟨j,qd_.mpr ⟨ro_.mpr ?_,h⟩,rfl⟩
  unfold zo_ at h
  by_cases hj:j < vs.length
  ·exact hj
  ·simp[pw_,r1_ (Nat.le_of_not_lt hj)] at h
 ·have h':zo_ vs j=false:=by simpa using h
  rw[h']
  apply decide_eq_false
  intro hc
  obtain⟨k,hk,hk2⟩:=pu_.mp hc
  have:k=j:=by omega
  subst this
  exact h (qd_.mp hk).2
theorem y9_ (l:List Seen):zf_ (l.map ua_)=true:=y0_ fun d hd=>by
 obtain⟨x,_,rfl⟩:=pu_.mp hd
 rfl
theorem jrv_ {H:Hp} {v:V} {x:Seen} (h:Is H v (ua_ x)):∃ a,v=.ref a/\H a=some (.tup [.str (S x.w),.int x.g,.bl x.t,.bl x.b]):=by
 simp only[Is,ua_] at h
 obtain⟨a,ys,rfl,ha,hy⟩:=h
 match ys,hy with
 | [y1,y2,y3,y4],hy =>
  simp only[L2.IsL,Is] at hy
  obtain⟨h1,h2,h3,h4,_⟩:=hy
  subst h1 h2 h3 h4
  exact⟨a,rfl,ha⟩
 | [],hy=>simp only[L2.IsL] at hy
 | [_],hy=>simp only[L2.IsL] at hy;exact hy.2.elim
 | [_,_],hy=>simp only[L2.IsL] at hy;exact hy.2.2.elim
 | [_,_,_],hy=>simp only[L2.IsL] at hy;exact hy.2.2.2.elim
 | _::_::_::_::_::_,hy=>simp only[L2.IsL] at hy;exact hy.2.2.2.2.elim
theorem jjx_ {H:Hp} {a:Addr} {x:Seen} (h:H a=some (.tup [.str (S x.w),.int x.g,.bl x.t,.bl x.b])):Is H (.ref a) (ua_ x):=by
 simp only[Is,ua_]
 exact⟨a,_,rfl,h,by simp only[L2.IsL,Is,and_self]⟩
def jgj_:Sp:=fun vs H Q _=>∃(v u:V) (ws xs:List Pat),vs=[v,u]/\Is H v (zj_ ws)/\Is H u (zj_ xs)/\(∀ x∈xs,1<=x.1.length/\x.1.length<=1000/\x.2.length<=x.1.length+1)/\xs.length<=9000/\(∀ x∈ws,1<=x.1.length/\x.1.length<=100)/\ws.length<=100 /\
 ∀(r:Addr) (zs:List V) (H':Hp),H r=none->H' r=some (.lst zs)->L2.IsL H' zs ((jz_ xs ws).map ua_)->Same H H'->Q (.ref r) H'
section
variable {P:Program} {w:World} {K:pc_} {mg:Str->Option Value} {base:Heap} {f:Addr} {fd:FuncData} {tk:Nat->Tok}
theorem jdo_ (T:Txt mg tk) (F:Fun K "seen_gaps" "seen_gaps" s_seen_gaps f fd) (D_breaks:Dn P w K mg base "breaks" 3 ["patterns","word"] jac_):FnOk P w K mg base CX0 4 f fd ["words","patterns"] jgj_:=by
 refine F.ok sc_seen_gaps (fun vs H Q E h=>?_) (fun cdv A outer s H vs Q E hr h=>?_)
 ·obtain⟨v,u,ws,xs,rfl,_⟩:=h
  rfl
 obtain⟨v,u,ws,xs,rfl,hv,hu,hxs,hxl,hws,hwl,q⟩:=h
 obtain⟨a,ys,rfl,ha,hys⟩:=u3_ hv
 have nd:=sc_seen_gaps.nd
 refine⟨_,(jf_ (jl_ (i:=2) nd rfl (Or.inl rfl) (j1_ je_))
  (jf_ (zd_ p4_ rfl (ys_ (K:=K) (pv 0)) (yg_ rfl (jr_ (jk_ (i:=3) nd rfl (Or.inr rfl)) (jr_ (jk_ (i:=4) nd rfl (Or.inr rfl)) zu_)))
   (jf_ (jl_ (i:=5) nd rfl (Or.inr rfl) (ju_ D_breaks hr.mo_ rfl (ja_ (pv 1) (ja_ (pv 3) je_))))
  (jj_ (zy_ (yh_ (K:=K) qh_ sc_ sd_ xp_ (pv 2) (ja_ (zv_ ["word","told","broken","gap"] [some 3,some 4,some 5,none] rfl (by kernel_rfl) rfl (yx_ rfl T.z_range (ja_ jc_ (ja_ (jq_ (z0_ (K:=K)) rfl T.z_len (by decide +kernel) (ja_ (pv 3) je_)) je_))) (fun _ _ _ _=>(jk_ (i:=3) (show (["word","told","broken","gap"]:List Str).Nodup by decide +kernel) rfl (Or.inl rfl) (Or.inr rfl))) (fun _ _ _ _=>y5_) (fun _ _ _ _=>(ye_ (ja_ (pv 0) (ja_ (pv 3) (ja_ (zh_ o_in (pv 3) (pv 1) (by with_unfolding_all rfl)) (ja_ (zh_ o_in (pv 3) (pv 2) (by with_unfolding_all rfl)) je_))))))) je_))))))
  (jj_ (j8_ (pv 2))))),?_⟩
 rw[show L2.ze_ ["words","patterns","seen","word","told","broken"] [.ref a,u]=[some (.ref a),some (u),none,none,none,none] from rfl]
 walk_at "go"
 intro r hr0
 have ra:(upd H r (.lst [])) a=some (.lst ys):=(jd_ hr0 _) _ _ ha
 walk_at "go"
 refine zz_ (K:=K) (xs:=ys) (fun i σ H'=>∃(v3 v4 v5:Option V) (zs:List V),σ=[some (.ref a),some u,some (.ref r),v3,v4,v5]/\H' r=some (.lst zs)/\L2.IsL H' zs ((jz_ xs (ws.take i)).map ua_)/\Same H H')
  ⟨none,none,none,[],rfl,jb_,(by simp[jz_,L2.IsL]),jd_ hr0 _⟩ (fun i σ H' _ ⟨_,_,_,_,_,_,_,s1⟩=>SqL.of (s1 _ _ ha)) ?_ ?_
 ·rintro i x σ H1 hx ⟨v3,v4,v5,zs,rfl,e1,hz1,s1⟩
  have hil:i < ws.length:=by
   have h1:=(ph_.mp hx).1
   have h2:=hys.length
   rw[pb_] at h2;omega
  obtain⟨x',d,hx1,hx2,hx3⟩:=IsL.get hys (i:=i) (by rw[pb_];exact hil)
  rw[hx] at hx1
  cases hx1
  rw[pl_,pa_ hil] at hx2
  cases hx2
  obtain⟨pa,nt,rfl,hpa,hnt⟩:=jbr_ hx3
  obtain⟨hg1,hg2⟩:=hws _ (qf_ hil)
  have hzl:zs.length<=100 * 100:=by
   have h1:=hz1.length
   rw[pb_] at h1
   have h2:=xt_ (xs:=xs) (m:=100) (ws:=ws.take i) fun y hy=>(hws y (pz_ hy)).2
   have h3:(ws.take i).length * 100<=100 * 100:=sx_ _ (by rw[pq_];omega)
   omega
  rw[jfm_ hil]
  generalize ws[i]=xi at hpa hnt hg1 hg2 ⊢
  obtain⟨w',g⟩:=xi
  have hg1:1<=w'.length:=hg1
  have hg2:w'.length<=100:=hg2
  have hpa1:H1 pa=some (.tup [.str (S w'),.ref nt]):=s1 _ _ hpa
  have hnt1:H1 nt=some (.tup (g.map V.int)):=s1 _ _ hnt
  refine yd_ hpa1 rfl (jy_ (j4_ (jy_ (j4_ (yf_ ?_)))))
  walk_at "go"
  refine⟨u,xs,w',rfl,Is.same s1 hu,hxs,hxl,hg1,hg2,fun t H2 ht s2=>?_⟩
  have hnt2:=s2 _ _ hnt1
  have e12:=s2 _ _ e1
  walk_at "go"
  intro c hc0
  have rc:r≠c:=jh_ (s2 _ _ e1) hc0
  refine zx_ (fun j acc σ H'=>∃ v,σ=[some (.str (S w')),some (.ref nt),some (.ref t),v]/\acc.length=j/\H' c=some (.lst acc)/\L2.IsL H' acc (((pt_ j).map (jak_ xs (w',g))).map ua_)/\Same H2 H')
   ⟨none,rfl,rfl,jb_,(by simp[L2.IsL]),jd_ hc0 _⟩ (fun j acc σ H' ⟨_,_,e,e3,_⟩=>⟨e3,w9_ e⟩) (szn (by omega)) ?_ ?_
  ·rintro j acc σ H3 hj ⟨v,rfl,hal,e3,hz3,s3⟩
   have hnt3:=s3 _ _ hnt2
   have ht3:=s3 _ _ ht
   walk_at "go"
   refine jhx_ (yw_ hnt3) ⟨rfl,v4_ _⟩ ?_
   walk_at "go"
   refine jhx_ (yw_ ht3) ⟨rfl,v4_ _⟩ ?_
   walk_at "go"
   have hb1:(if false=true then !inV (.int (1+(j:Int))) (g.map V.int) else inV (.int (1+(j:Int))) (g.map V.int))=decide ((j:Int)+1∈g):=by
    rw[if_neg pf_,u7_,k5_]
   have hb2:(if false=true then !inV (.int (1+(j:Int))) ((brks (vals xs w')).map V.int) else inV (.int (1+(j:Int))) ((brks (vals xs w')).map V.int))=zo_ (vals xs w') j:=by
    rw[if_neg pf_,u7_,k5_,jlc_]
   rw[hb1,hb2,k5_ 1 (j:Int)]
   intro p hp0
   have tc:c≠p:=jh_ e3 hp0
   have e4:(upd H3 p (.tup [.str (S w'),.int ((j:Int)+1),.bl (decide ((j:Int)+1∈g)),.bl (zo_ (vals xs w') j)])) c=some (.lst acc):=by rw[jg_ tc];exact e3
   have k4:Tk H3 (upd (upd H3 p (.tup [.str (S w'),.int ((j:Int)+1),.bl (decide ((j:Int)+1∈g)),.bl (zo_ (vals xs w') j)])) c (.lst (acc++[.ref p]))):=(Tk.new hp0 _).trans (Tk.lst e4 _)
   refine⟨e4,_,rfl,by simp[hal],jb_,?_,fun b o e=>?_⟩
   ·rw[q2_,pn_,pn_]
    refine IsL.snoc (IsL.tk k4 (y9_ _) hz3) (jjx_ (x:=jak_ xs (w',g) j) ?_)
    rw[jg_ tc.symm];exact jb_
   ·have hbc:b≠c:=fun z=>by rw[z,hc0] at e;cases e
    rw[jg_ hbc];exact(jd_ hp0 _) _ _ (s3 _ _ e)
  ·rintro acc σ H3 ⟨v,rfl,hal,e3,hz3,s3⟩
   have hn:((w'.length:Int) - 1).toNat=w'.length - 1:=by omega
   rw[hn] at hal hz3
   have e3r:H3 r=some (.lst zs):=s3 _ _ (s2 _ _ e1)
   walk_at "go"
   refine jdr_ e3r e3 (szn (by omega)) ?_
   walk_at "go"
   have k5:Tk H3 (upd H3 r (.lst (zs++acc))):=Tk.lst e3r _
   refine⟨_,_,_,zs++acc,rfl,jb_,?_,fun b o e=>?_⟩
   ·rw[pn_]
    exact IsL.append (IsL.tk k5 (y9_ _) (IsL.same (s2.trans s3) hz1)) (IsL.tk k5 (y9_ _) hz3)
   ·have hbr:b≠r:=fun z=>by rw[z,hr0] at e;cases e
    rw[jg_ hbr];exact s3 _ _ (s2 _ _ (s1 _ _ e))
 ·rintro σ H1 ⟨v3,v4,v5,zs,rfl,e1,hz1,s1⟩
  have h2:=hys.length
  rw[pb_] at h2
  rw[h2,qa_] at hz1
  walk_at "go"
  exact q r zs H1 hr0 e1 hz1 s1
end
abbrev s_one_number:Stmt:=top 8
theorem sc_one_number:FnScope ["number","place","length"] ["number","place","length"] (jm_ s_one_number):=by walk_at "f"
abbrev s_candidates_at:Stmt:=top 9
theorem sc_candidates_at:FnScope ["word","gap","number","length","framed","ahead","first","last"] ["word","gap","number","length"] (jm_ s_candidates_at):=by walk_at "f"
def one (n:Int) (p L:Nat):List Int:=pe_ p 0++[n]++pe_ (L - p) 0
def z9_ (t:List Nat) (L g:Nat):Nat:=if L<=t.length then min (g+1) (t.length - L)+1 - (g+1 - L) else 0
def cand (t:List Nat) (n:Int) (L g k:Nat):Pat:=((t.drop (g+1 - L+k)).take L,one n (g+1 - (g+1 - L+k)) L)
def zt_ (t:List Nat) (n:Int) (L g:Nat):List Pat:=(pt_ (z9_ t L g)).map (cand t n L g)
def jms_:Sp:=fun vs H Q _=>∃(n:Int) (p L:Nat),vs=[.int n,.int (p:Int),.int (L:Int)]/\p<=L/\L<=1000/\∀(t:Addr) (H':Hp),H' t=some (.tup ((one n p L).map V.int))->Same H H'->Q (.ref t) H'
def jge_:Sp:=fun vs H Q _=>∃(w:List Nat) (g:Nat) (n:Int) (L:Nat),vs=[.str (S w),.int (g:Int),.int n,.int (L:Int)]/\w.length<=100/\g<=100/\L<=100 /\
 ∀(r:Addr) (zs:List V) (H':Hp),H r=none->H' r=some (.lst zs)->L2.IsL H' zs ((zt_ (frame w) n L g).map patD)->Same H H'->Q (.ref r) H'
theorem vi_ (t:List Nat) (L g:Nat):z9_ t L g<=g+2:=by
 unfold z9_
 split <;> omega
theorem jqh_:∀ l:List Int,zf_ (l.map Dt.int)=true
 | []=>rfl
 | x::l=>by simp only[ps_,zf_,y1_,jqh_ l];rfl
theorem zg_:∀ l:List Pat,zf_ (l.map patD)=true
 | []=>rfl
 | x::l=>by simp only[ps_,zf_,zg_ l,patD,y1_,jqh_];rfl
section
variable {P:Program} {w:World} {K:pc_} {mg:Str->Option Value} {base:Heap} {f:Addr} {fd:FuncData} {tk:Nat->Tok}
theorem jar_ (T:Txt mg tk) (F:Fun K "one_number" "one_number" s_one_number f fd):FnOk P w K mg base CX0 1 f fd ["number","place","length"] jms_:=by
 refine F.ok sc_one_number (fun vs H Q E h=>?_) (fun cdv A outer s H vs Q E hr h=>?_)
 ·obtain⟨n,p,L,rfl,_⟩:=h
  rfl
 obtain⟨n,p,L,rfl,hp,hL,q⟩:=h
 have nd:=sc_one_number.nd
 refine⟨_,(jj_ (j8_ (j9_ ur_ rfl T.z_tuple (by decide +kernel) (ja_ (ji_ jo_ (ji_ jo_ (ji_ z5_ (j1_ (ja_ jc_ je_)) (pv 1)) (j1_ (ja_ (pv 0) je_))) (ji_ z5_ (j1_ (ja_ jc_ je_)) (ji_ xz_ (pv 2) (pv 1)))) je_)))),?_⟩
 rw[show L2.ze_ ["number","place","length"] [.int n,.int (p:Int),.int (L:Int)]=[some (.int n),some (.int (p:Int)),some (.int (L:Int))] from rfl]
 walk_at "go"
 intro a1 h1
 have s1:=jd_ h1 (.lst [.int 0])
 have e1:=jb_ (H:=H) (a:=a1) (o:=.lst [.int 0])
 generalize upd H a1 (.lst [.int 0])=H1 at s1 e1 ⊢
 walk_at "go"
 refine v7_ e1 (by omega) fun a2 h2=>?_
 rw[r9_]
 have s2:=jd_ h2 (.lst (pe_ p (.int 0)))
 have e2:=jb_ (H:=H1) (a:=a2) (o:=.lst (pe_ p (.int 0)))
 generalize upd H1 a2 (.lst (pe_ p (.int 0)))=H2 at s2 e2 ⊢
 walk_at "go"
 intro a3 h3
 have s3:=jd_ h3 (.lst [.int n])
 have e3:=jb_ (H:=H2) (a:=a3) (o:=.lst [.int n])
 generalize upd H2 a3 (.lst [.int n])=H3 at s3 e3 ⊢
 walk_at "go"
 refine xh_ (s3 _ _ e2) e3 (szn (by simp;omega)) fun a4 h4=>?_
 have s4:=jd_ h4 (.lst (pe_ p (.int 0)++[.int n]))
 have e4:=jb_ (H:=H3) (a:=a4) (o:=.lst (pe_ p (.int 0)++[.int n]))
 generalize upd H3 a4 (.lst (pe_ p (.int 0)++[.int n]))=H4 at s4 e4 ⊢
 walk_at "go"
 intro a5 h5
 have s5:=jd_ h5 (.lst [.int 0])
 have e5:=jb_ (H:=H4) (a:=a5) (o:=.lst [.int 0])
 generalize upd H4 a5 (.lst [.int 0])=H5 at s5 e5 ⊢
 walk_at "go"
 refine v7_ e5 (by omega) fun a6 h6=>?_
 rw[show ((L:Int) - (p:Int)).toNat=L - p by omega]
 have s6:=jd_ h6 (.lst (pe_ (L - p) (.int 0)))
 have e6:=jb_ (H:=H5) (a:=a6) (o:=.lst (pe_ (L - p) (.int 0)))
 generalize upd H5 a6 (.lst (pe_ (L - p) (.int 0)))=H6 at s6 e6 ⊢
 walk_at "go"
 refine xh_ (s6 _ _ (s5 _ _ e4)) e6 (szn (by simp;omega)) fun a7 h7=>?_
 have s7:=jd_ h7 (.lst (pe_ p (.int 0)++[.int n]++pe_ (L - p) (.int 0)))
 have e7:=jb_ (H:=H6) (a:=a7) (o:=.lst (pe_ p (.int 0)++[.int n]++pe_ (L - p) (.int 0)))
 generalize upd H6 a7 (.lst (pe_ p (.int 0)++[.int n]++pe_ (L - p) (.int 0)))=H7 at s7 e7 ⊢
 walk_at "go"
 refine vf_ (j6_ e7) fun t H8 ht s8=>?_
 walk_at "go"
 refine q t H8 ?_ (((((((s1.trans s2).trans s3).trans s4).trans s5).trans s6).trans s7).trans s8)
 rw[ht]
 unfold one
 simp[pn_,we_]
theorem v1_ (T:Txt mg tk) (F:Fun K "candidates_at" "candidates_at" s_candidates_at f fd) (D_one_number:Dn P w K mg base "one_number" 1 ["number","place","length"] jms_):FnOk P w K mg base CX0 2 f fd ["word","gap","number","length"] jge_:=by
 refine F.ok sc_candidates_at (fun vs H Q E h=>?_) (fun cdv A outer s H vs Q E hr h=>?_)
 ·obtain⟨w',g,n,L,rfl,_⟩:=h
  rfl
 obtain⟨w',g,n,L,rfl,hw,hg,hL,q⟩:=h
 have nd:=sc_candidates_at.nd
 refine⟨_,(jf_ (jl_ (i:=4) nd rfl (Or.inr rfl) (ji_ jo_ (ji_ jo_ yr_ (pv 0)) yr_))
  (jf_ (jl_ (i:=5) nd rfl (Or.inr rfl) (ji_ jo_ (pv 1) jc_))
  (jf_ (jl_ (i:=6) nd rfl (Or.inl rfl) (jq_ (jkx_ rfl) rfl T.z_max (by decide +kernel) (ja_ jc_ (ja_ (ji_ xz_ (pv 5) (pv 3)) je_))))
  (jf_ (jl_ (i:=7) nd rfl (Or.inl rfl) (jq_ (jud_ rfl) rfl T.z_min (by decide +kernel) (ja_ (pv 5) (ja_ (ji_ xz_ (jq_ (z0_ (K:=K)) rfl T.z_len (by decide +kernel) (ja_ (pv 4) je_)) (pv 3)) je_))))
  (jj_ (j8_ (zv_ ["framed","length","number","ahead","begin"] [some 4,some 3,some 2,some 5,none] rfl (by kernel_rfl) rfl (yx_ rfl T.z_range (ja_ (pv 6) (ja_ (ji_ jo_ (pv 7) jc_) je_))) (fun _ _ _ _=>(jk_ (i:=4) (show (["framed","length","number","ahead","begin"]:List Str).Nodup by decide +kernel) rfl (Or.inl rfl) (Or.inr rfl))) (fun _ _ _ _=>y5_) (fun _ _ _ _=>(ye_ (ja_ (ya_ (x1_ (K:=K)) (pv 0) (zn_ (pv 4)) (zn_ (ji_ jo_ (pv 4) (pv 1)))) (ja_ (ju_ D_one_number hr.mo_ rfl (ja_ (pv 2) (ja_ (ji_ xz_ (pv 3) (pv 4)) (ja_ (pv 1) je_)))) je_))))))))))),?_⟩
 rw[show L2.ze_ ["word","gap","number","length","framed","ahead","first","last"] [.str (S w'),.int (g:Int),.int n,.int (L:Int)]=[some (.str (S w')),some (.int (g:Int)),some (.int n),some (.int (L:Int)),none,none,none,none] from rfl]
 rw[jgy_]
 walk_at "go"
 rw[ve_]
 have hfl:=j0_ w'
 obtain⟨lo,hlo⟩:∃ lo:Int,(if (g:Int)+1 - (L:Int) > 0 then (g:Int)+1 - (L:Int) else 0)=lo:=⟨_,rfl⟩
 have hlo2:lo=((g+1 - L:Nat):Int):=by rw[<- hlo];split <;> omega
 walk_at "go"
 have hN:((if ((frame w').length:Int) - (L:Int) < (g:Int)+1 then ((frame w').length:Int) - (L:Int) else (g:Int)+1)+1 - (if (g:Int)+1 - (L:Int) > 0 then (g:Int)+1 - (L:Int) else 0)).toNat=z9_ (frame w') L g:=by
  unfold z9_
  rw[hlo,hlo2]
  split <;> split <;> omega
 rw[hN]
 rw[hlo,hlo2]
 clear hN hlo hlo2 lo
 intro r hr0
 have hcl:=vi_ (frame w') L g
 refine zx_ (fun i acc σ H'=>∃(v:Option V),σ=[some (.str (S (frame w'))),some (.int (L:Int)),some (.int n),some (.int ((g:Int)+1)),v]/\acc.length=i/\L2.IsL H' acc ((pt_ i).map fun k=>patD (cand (frame w') n L g k))/\H' r=some (.lst acc)/\Same H H')
  ⟨none,rfl,rfl,(by simp only[List.range_zero,rf_,L2.IsL]),jb_,jd_ hr0 _⟩ (fun i acc σ H' ⟨_,_,e,_,e2,_⟩=>⟨e2,by omega⟩) (szn (by omega)) ?_ ?_
 ·rintro i acc σ Ha hi ⟨v,rfl,hal,hacc,er,sa⟩
  have hb:((g+1 - L:Nat):Int)+(i:Int)=((g+1 - L+i:Nat):Int):=by omega
  have hbl:g+1 - L+i+L<=(frame w').length/\g+1 - L+i<=g+1/\g+1<=g+1 - L+i+L:=by
   unfold z9_ at hi
   split at hi <;> omega
  have hrange:(pt_ (i+1)).map (fun k=>patD (cand (frame w') n L g k))=(pt_ i).map (fun k=>patD (cand (frame w') n L g k))++[patD (cand (frame w') n L g i)]:=by rw[q2_,pn_];rfl
  rw[hrange]
  unfold cand
  clear hrange
  generalize g+1 - L+i=b at hb hbl ⊢
  have hgb:(g:Int)+1 - (b:Int)=((g+1 - b:Nat):Int):=by omega
  walk_at "go"
  rw[hb]
  have hcut:cutA (frame w') (some (b:Int)) (some ((b:Int)+(L:Int)))=((frame w').drop b).take L:=by
   rw[show (b:Int)+(L:Int)=((b+L:Nat):Int) by omega,jbs_ (frame w') b (b+L) hbl.1 (by omega)]
   congr 1
   omega
  rw[hcut]
  walk_at "go"
  try rw[hb]
  try rw[hgb]
  refine⟨n,g+1 - b,L,rfl,by omega,by omega,fun t Hb ht sb=>?_⟩
  have erb:=sb _ _ er
  walk_at "go"
  intro tn htn
  have sc:=jd_ htn (.tup [.str (S (((frame w').drop b).take L)),.ref t])
  have etn:=jb_ (H:=Hb) (a:=tn) (o:=.tup [.str (S (((frame w').drop b).take L)),.ref t])
  generalize upd Hb tn (.tup [.str (S (((frame w').drop b).take L)),.ref t])=Hc at sc etn ⊢
  have erc:=sc _ _ erb
  have tkc:Tk Hc (upd Hc r (.lst (acc++[V.ref tn]))):=fun y zs' ey=>by
   rw[jg_ fun z=>by rw[z,erc] at ey;cases ey];exact ey
  refine⟨erc,_,rfl,by rw[pd_,hal];rfl,?_,jb_,fun c o ec=>?_⟩
  ·refine IsL.append ?_ ?_
   ·have h1:=IsL.same (sb.trans sc) hacc
    refine IsL.tk tkc ?_ h1
    have:=zg_ ((pt_ i).map fun k=>cand (frame w') n L g k)
    rw[qu_] at this
    exact this
   ·simp only[L2.IsL]
    exact⟨u6_ (x:=(((frame w').drop b).take L,one n (g+1 - b) L)) (tkc _ _ etn) (tkc _ _ (sc _ _ ht)),trivial⟩
  ·rw[jg_ (jh_ ec hr0)];exact sc _ _ (sb _ _ (sa _ _ ec))
 ·rintro acc σ Ha ⟨v,rfl,hal,hacc,er,sa⟩
  walk_at "go"
  refine q r acc Ha hr0 er ?_ sa
  unfold zt_
  rw[qu_]
  exact hacc
end
abbrev s_goods_and_bads:Stmt:=top 10
theorem sc_goods_and_bads:FnScope ["words","patterns","number","length","odd","goods","bads","word","gap","told","broken","counts","candidate"] ["words","patterns","number","length"] (jm_ s_goods_and_bads):=by walk_at "f"
def odd1 (n:Int):Bool:=decide (n % 2=1)
def occ (n:Int) (L:Nat) (good:Bool) (x:Seen):List Pat:=if (x.b != odd1 n)=true then (if (x.t == odd1 n)=good then zt_ (frame x.w) n L x.g.toNat else []) else []
def occs (n:Int) (L:Nat) (good:Bool) (l:List Seen):List Pat:=l.flatMap (occ n L good)
theorem jca_ (n:Int) (L:Nat) (good:Bool) (l:List Seen) (x:Seen):occs n L good (l++[x])=occs n L good l++occ n L good x:=by unfold occs;simp
def spGB (P:Program) (w:World):Sp:=fun vs H Q _=>∃(v u:V) (ws xs:List Pat) (n:Int) (L:Nat),vs=[v,u,.int n,.int (L:Int)]/\Is H v (zj_ ws)/\Is H u (zj_ xs)/\(∀ x∈xs,1<=x.1.length/\x.1.length<=1000/\x.2.length<=x.1.length+1)/\xs.length<=9000/\(∀ x∈ws,1<=x.1.length/\x.1.length<=20)/\ws.length<=10/\-1000<=n/\n<=1000/\L<=100 /\
 ∀(t ga ba:Addr) (kg kb:List (PKey×Addr×V)) (H':Hp),H' t=some (.tup [.ref ga,.ref ba])->H ga=none->H ba=none->ga≠ba->H' ga=some (DX patKind P w ga kg)->H' ba=some (DX patKind P w ba kb)->CD H' kg (occs n L true (jz_ xs ws))->CD H' kb (occs n L false (jz_ xs ws))->Same H H'->Q (.ref t) H'
theorem jhd_ {xs ws:List Pat} (hw:∀ x∈ws,x.1.length<=20):∀ s∈jz_ xs ws,∃ g:Nat,s.g=(g:Int)/\g<=20/\s.w.length<=20:=fun s hs=>by
 unfold jz_ at hs
 obtain⟨x,hx,hs⟩:=qw_.mp hs
 obtain⟨j,hj,rfl⟩:=pu_.mp hs
 have h1:=ro_.mp hj
 have h2:=hw x hx
 exact⟨j+1,by simp[jak_],by omega,h2⟩
theorem joz_ (n:Int) (L:Nat) (good:Bool) {x:Seen} (h:x.g<=20):(occ n L good x).length<=22:=by
 unfold occ
 split
 ·split
  ·unfold zt_
   rw[pb_,qk_]
   have:=vi_ (frame x.w) L x.g.toNat
   omega
  ·exact qz_ _
 ·exact qz_ _
theorem vp_ (n:Int) (L:Nat) (good:Bool):∀{l:List Seen},(∀ s∈l,s.g<=20)->(occs n L good l).length<=22 * l.length
 | [],_=>pk_ _
 | x::l,h=>by
  have h1:=vp_ n L good (l:=l) fun s hs=>h s (pm_ _ hs)
  have h2:=joz_ n L good (h x po_)
  unfold occs at h1 ⊢
  rw[ql_,pd_,p3_]
  omega
def GBs (P:Program) (w:World) (H4 H:Hp) (ga ba:Addr) (lg lb:List Pat):Prop:=∃ kg kb:List (PKey×Addr×V),H ga=some (DX patKind P w ga kg)/\H ba=some (DX patKind P w ba kb)/\ga≠ba/\CD H kg lg/\CD H kb lb/\∀ b o,b≠ga->b≠ba->H4 b=some o->H b=some o
theorem GBs.same {P:Program} {w:World} {H4 H H':Hp} {ga ba:Addr} {lg lb:List Pat} (h:GBs P w H4 H ga ba lg lb) (s:Same H H'):GBs P w H4 H' ga ba lg lb:=by
 obtain⟨kg,kb,h1,h2,h3,h4,h5,h6⟩:=h
 exact⟨kg,kb,s _ _ h1,s _ _ h2,h3,h4.tk fun b xs e=>s _ _ e,h5.tk fun b xs e=>s _ _ e,fun b o a1 a2 e=>s _ _ (h6 b o a1 a2 e)⟩
theorem jgu_ {l:List Pat} {kvs:List (PKey×Addr×V)} {H:Hp} (h:CD H kvs l) (k:PKey):(valX kvs k).getD (.int 0)=.int (cnt l k:Int):=by
 rw[h.val]
 split
 ·rename_i q;rw[q];rfl
 ·rfl
theorem yc_ {H:Hp} {a b:Addr} {φ:Heap->Prop} {xs:List V} (h1:H a=some (.ext φ)) (h2:H b=some (.tup xs)):b≠a:=fun z=>by rw[z,h1] at h2;cases h2
theorem GBs.goods {P:Program} {w:World} {H4 H:Hp} {ga ba:Addr} {lg lb:List Pat} (h:GBs P w H4 H ga ba lg lb) (hl:lg.length < 1000000) {x:Pat} {b:Addr} (hb:patKind.at_ H (pk x) b) :
  ∃ o H',IsDX patKind P w H ga/\DGetX patKind P w H ga (.ref b) o/\o.getD (.int 0)=.int (cnt lg (pk x):Int)/\jfb_ patKind P w H ga (.ref b) (.int ((cnt lg (pk x):Int)+1)) H'/\GBs P w H4 H' ga ba (lg++[x]) lb/\∀ c o,c≠ga->c≠ba->H c=some o->H' c=some o:=by
 obtain⟨kg,kb,h1,h2,h3,h4,h5,h6⟩:=h
 have hk:=h4.len
 have tk:∀ c xs,H c=some (.tup xs)->(upd H ga (DX patKind P w ga (putX kg (pk x) b (.int ((cnt lg (pk x):Int)+1))))) c=some (.tup xs):=fun c xs e=>by rw[jg_ (yc_ h1 e)];exact e
 refine⟨_,_,⟨kg,.inl h1,h4.ko⟩,⟨kg,pk x,b,.inl h1,h4.ko,rfl,hb,rfl⟩,jgu_ h4 _,⟨kg,pk x,b,h1,h4.ko,rfl,hb,szn (by omega),rfl⟩,⟨_,kb,jb_,(jg_ h3.symm).trans h2,h3,(h4.add hb).tk tk,h5.tk tk,fun c o a1 a2 e=>(jg_ a1).trans (h6 c o a1 a2 e)⟩,fun c o a1 a2 e=>(jg_ a1).trans e⟩
theorem GBs.bads {P:Program} {w:World} {H4 H:Hp} {ga ba:Addr} {lg lb:List Pat} (h:GBs P w H4 H ga ba lg lb) (hl:lb.length < 1000000) {x:Pat} {b:Addr} (hb:patKind.at_ H (pk x) b) :
  ∃ o H',IsDX patKind P w H ba/\DGetX patKind P w H ba (.ref b) o/\o.getD (.int 0)=.int (cnt lb (pk x):Int)/\jfb_ patKind P w H ba (.ref b) (.int ((cnt lb (pk x):Int)+1)) H'/\GBs P w H4 H' ga ba lg (lb++[x])/\∀ c o,c≠ga->c≠ba->H c=some o->H' c=some o:=by
 obtain⟨kg,kb,h1,h2,h3,h4,h5,h6⟩:=h
 have hk:=h5.len
 have tk:∀ c xs,H c=some (.tup xs)->(upd H ba (DX patKind P w ba (putX kb (pk x) b (.int ((cnt lb (pk x):Int)+1))))) c=some (.tup xs):=fun c xs e=>by rw[jg_ (yc_ h2 e)];exact e
 refine⟨_,_,⟨kb,.inl h2,h5.ko⟩,⟨kb,pk x,b,.inl h2,h5.ko,rfl,hb,rfl⟩,jgu_ h5 _,⟨kb,pk x,b,h2,h5.ko,rfl,hb,szn (by omega),rfl⟩,⟨kg,_,(jg_ h3).trans h1,jb_,h3,h4.tk tk,(h5.add hb).tk tk,fun c o a1 a2 e=>(jg_ a2).trans (h6 c o a1 a2 e)⟩,fun c o a1 a2 e=>(jg_ a2).trans e⟩
theorem jmc_ {H:Hp} {v:V} {x:Pat} (h:Is H v (patD x)):∃ b,v=.ref b/\patKind.at_ H (pk x) b:=by
 obtain⟨a,t,rfl,h1,h2⟩:=jbr_ h
 exact⟨a,rfl,t,h1,h2⟩
section
variable {P:Program} {w:World} {K:pc_} {mg:Str->Option Value} {base:Heap} {f:Addr} {fd:FuncData} {tk:Nat->Tok}
theorem vc_ (T:Txt mg tk) (F:Fun K "goods_and_bads" "goods_and_bads" s_goods_and_bads f fd) (D_seen_gaps:Dn P w K mg base "seen_gaps" 4 ["words","patterns"] jgj_) (D_candidates_at:Dn P w K mg base "candidates_at" 2 ["word","gap","number","length"] jge_):FnOk P w K mg base CX0 5 f fd ["words","patterns","number","length"] (spGB P w):=by
 refine F.ok sc_goods_and_bads (fun vs H Q E h=>?_) (fun cdv A outer s H vs Q E hr h=>?_)
 ·obtain⟨v,u,ws,xs,n,L,rfl,_⟩:=h
  rfl
 obtain⟨v,u,ws,xs,n,L,rfl,hv,hu,hxs,hxl,hws,hwl,hn0,hn1,hL,q⟩:=h
 have nd:=sc_goods_and_bads.nd
 refine⟨_,(jf_ (jl_ (i:=4) nd rfl (Or.inl rfl) (zh_ (o_eq hr.units) (ji_ xm_ (pv 2) jc_) jc_ (j3_ _)))
  (jf_ (jl_ (i:=5) nd rfl (Or.inl rfl) (jgf_ (N:=patKind) (P:=P) (w:=w) rfl rfl))
  (jf_ (jl_ (i:=6) nd rfl (Or.inl rfl) (jgf_ (N:=patKind) (P:=P) (w:=w) rfl rfl))
  (jf_ (zd_ p4_ rfl (ys_ (K:=K) (ju_ D_seen_gaps hr.mo_ rfl (ja_ (pv 0) (ja_ (pv 1) je_)))) (yg_ rfl (jr_ (jk_ (i:=7) nd rfl (Or.inl rfl)) (jr_ (jk_ (i:=8) nd rfl (Or.inl rfl)) (jr_ (jk_ (i:=9) nd rfl (Or.inl rfl)) (jr_ (jk_ (i:=10) nd rfl (Or.inl rfl)) zu_)))))
   (jj_ (x0_ (zi_ (o_ne hr.units) (pv 10) (pv 4) (j3_ _))
   (jf_ (jl_ (i:=11) nd rfl (Or.inl rfl) (jls_ (zi_ (o_eq hr.units) (pv 9) (pv 4) (j3_ _)) (pv 5) (pv 6)))
  (jj_ (zd_ p4_ rfl (ys_ (K:=K) (ju_ D_candidates_at hr.mo_ rfl (ja_ (pv 7) (ja_ (pv 8) (ja_ (pv 2) (ja_ (pv 3) je_)))))) (jk_ (i:=12) nd rfl (Or.inl rfl))
   (jj_ (jll_ (N:=patKind) (P:=P) (w:=w) rfl rfl (x2_ hr) (pv 11) (pv 12) (ji_ jo_ (jda_ (N:=patKind) (P:=P) (w:=w) rfl rfl (x2_ hr) (pv 11) (pv 12) jc_ ⟨rfl,rfl,rfl,rfl⟩) jc_) rfl)))))
   z6_)))
  (jj_ (j8_ (ye_ (ja_ (pv 5) (ja_ (pv 6) je_))))))))),?_⟩
 rw[show L2.ze_ ["words","patterns","number","length","odd","goods","bads","word","gap","told","broken","counts","candidate"] [v,u,.int n,.int (L:Int)]=[some (v),some (u),some (.int n),some (.int (L:Int)),none,none,none,none,none,none,none,none,none] from rfl]
 walk_at "go"
 have hodd:decide (V.int (n % 2)=V.int 1)=odd1 n:=by unfold odd1;simp
 rw[hodd]
 refine jgl_ fun ga hga=>?_
 have s1:=jd_ hga (DX patKind P w ga [])
 have ega:=jb_ (H:=H) (a:=ga) (o:=DX patKind P w ga [])
 generalize upd H ga (DX patKind P w ga [])=H1 at s1 ega ⊢
 walk_at "go"
 refine jgl_ fun ba hba=>?_
 have gaba:ga≠ba:=jh_ ega hba
 have hbaH:H ba=none:=s1.free hba
 have s2:=jd_ hba (DX patKind P w ba [])
 have eba:=jb_ (H:=H1) (a:=ba) (o:=DX patKind P w ba [])
 generalize upd H1 ba (DX patKind P w ba [])=H2 at s2 eba ⊢
 have s02:=s1.trans s2
 have ega2:=s2 _ _ ega
 walk_at "go"
 refine⟨v,u,ws,xs,rfl,Is.same s02 hv,Is.same s02 hu,hxs,hxl,fun x hx=>⟨(hws x hx).1,by have:=(hws x hx).2;omega⟩,by omega,fun r zs H3 hr0 er hzs s3=>?_⟩
 have hsl:(jz_ xs ws).length<=200:=by
  have:=xt_ (xs:=xs) (m:=20) (ws:=ws) fun x hx=>(hws x hx).2
  omega
 have hsg:=jhd_ (xs:=xs) (ws:=ws) fun x hx=>(hws x hx).2
 generalize jz_ xs ws=ss at hzs hsl hsg q
 have hzl:=hzs.length
 rw[pb_] at hzl
 have ega3:=s3 _ _ ega2
 have eba3:=s3 _ _ eba
 have rga:r≠ga:=fun z=>by rw[z,ega2] at hr0;cases hr0
 have rba:r≠ba:=fun z=>by rw[z,eba] at hr0;cases hr0
 have gb0:GBs P w H3 H3 ga ba [] []:=⟨[],[],ega3,eba3,gaba,CD.nil,CD.nil,fun _ _ _ _ e=>e⟩
 have s03:=s02.trans s3
 have kept:∀{H':Hp} {lg lb:List Pat},GBs P w H3 H' ga ba lg lb->Same H H':=fun⟨kg,kb,h1,h2,h3,h4,h5,h6⟩ b o e=>h6 b o (jh_ e hga) (jh_ e hbaH) (s03 _ _ e)
 have kr:∀{H':Hp} {lg lb:List Pat},GBs P w H3 H' ga ba lg lb->H' r=some (.lst zs)/\Tk H3 H':=fun⟨kg,kb,h1,h2,h3,h4,h5,h6⟩=>⟨h6 _ _ rga rba er,fun b ys e=>h6 b _ (yc_ ega3 e) (yc_ eba3 e) e⟩
 clear s1 s2 s3 ega ega2 eba s02
 walk_at "go"
 try refine u1_ (SqL.of er) ?_
 refine zz_ (K:=K) (xs:=zs) (fun i σ H'=>∃(v7 v8 v9 v10 v11 v12:Option V),σ=[some v,some u,some (.int n),some (.int (L:Int)),some (.bl (odd1 n)),some (.ref ga),some (.ref ba),v7,v8,v9,v10,v11,v12]/\GBs P w H3 H' ga ba (occs n L true (ss.take i)) (occs n L false (ss.take i)))
  ⟨none,none,none,none,none,none,rfl,gb0⟩ (fun i σ H' _ ⟨_,_,_,_,_,_,_,g⟩=>SqL.of (kr g).1) ?_ ?_
 ·rintro i y σ Ha hy ⟨v7,v8,v9,v10,v11,v12,rfl,ga1⟩
  have hi:i < ss.length:=by have:=(ph_.mp hy).1;omega
  obtain⟨y',d,hy',hd1,hI⟩:=IsL.get (IsL.tk (kr ga1).2 (y9_ _) hzs) (i:=i) (by rw[pb_];exact hi)
  rw[hy] at hy'
  cases hy'
  rw[pl_,pa_ hi] at hd1
  cases hd1
  obtain⟨a2,rfl,ea2⟩:=jrv_ hI
  obtain⟨g,hg,hg20,hw20⟩:=hsg _ (qf_ hi)
  have htk:ss.take (i+1)=ss.take i++[ss[i]]:=by rw[qx_,pa_ hi];rfl
  have hlg:=vp_ n L true (l:=ss.take i) fun s hs=>by obtain⟨g',e,h1,_⟩:=hsg s (pz_ hs);omega
  have hlb:=vp_ n L false (l:=ss.take i) fun s hs=>by obtain⟨g',e,h1,_⟩:=hsg s (pz_ hs);omega
  have htl:(ss.take i).length<=200:=by rw[pq_];omega
  rw[htk,jca_,jca_]
  generalize ss[i]=sx at *
  generalize occs n L true (ss.take i)=lg at *
  generalize occs n L false (ss.take i)=lb at *
  refine yd_ ea2 rfl (jy_ (j4_ (jy_ (j4_ (jy_ (j4_ (jy_ (j4_ (yf_ ?_)))))))))
  walk_at "go"
  by_cases hb:sx.b=odd1 n
  ·have ho:∀ c,occ n L c sx=[]:=fun c=>by unfold occ;rw[if_neg (by simp[hb])]
   rw[ho,ho,p8_,p8_]
   refine jbh_ (by rw[hb];simp) ?_
   walk_at "go"
   exact⟨_,_,_,_,_,_,rfl,ga1⟩
  ·have hbx:(sx.b != odd1 n)=true:=by simp[hb]
   have hgn:sx.g.toNat=g:=by rw[hg];exact r9_ g
   refine u2_ (by simp[hb]) ?_
   walk_at "go"
   by_cases ht:sx.t=odd1 n
   ·have ho1:occ n L true sx=zt_ (frame sx.w) n L g:=by unfold occ;rw[if_pos hbx,if_pos (by simp[ht]),hgn]
    have ho2:occ n L false sx=[]:=by unfold occ;rw[if_pos hbx,if_neg (by simp[ht])]
    rw[ho1,ho2,p8_]
    refine u2_ (by rw[ht];simp) ?_
    walk_at "go"
    rw[hg]
    refine⟨sx.w,g,n,L,rfl,by omega,by omega,hL,fun rc zc Hb hrc erc hzc sb=>?_⟩
    have gb1:=ga1.same sb
    obtain⟨φg,ebg⟩:∃ φ,Hb ga=some (.ext φ):=by obtain⟨kg,kb,h1,_⟩:=gb1;exact⟨_,h1⟩
    obtain⟨φb,ebb⟩:∃ φ,Hb ba=some (.ext φ):=by obtain⟨kg,kb,h1,h2,_⟩:=gb1;exact⟨_,h2⟩
    have rcga:rc≠ga:=fun z=>by rw[z,ebg] at erc;cases erc
    have rcba:rc≠ba:=fun z=>by rw[z,ebb] at erc;cases erc
    have hcl:(zt_ (frame sx.w) n L g).length<=22:=by unfold zt_;rw[pb_,qk_];have:=vi_ (frame sx.w) L g;omega
    generalize zt_ (frame sx.w) n L g=cs at hzc hcl ⊢
    have hcz:=hzc.length
    rw[pb_] at hcz
    walk_at "go"
    try refine u1_ (SqL.of erc) ?_
    refine zz_ (K:=K) (xs:=zc) (fun j σ H'=>∃(v12:Option V),σ=[some v,some u,some (.int n),some (.int (L:Int)),some (.bl (odd1 n)),some (.ref ga),some (.ref ba),some (.str (S sx.w)),some (.int (g:Int)),some (.bl sx.t),some (.bl sx.b),some (.ref ga),v12]/\GBs P w H3 H' ga ba (lg++cs.take j) lb/\∀ b o,b≠ga->b≠ba->Hb b=some o->H' b=some o)
     ⟨_,rfl,by rw[wj_,p8_];exact gb1,fun _ _ _ _ e=>e⟩ (fun j σ H' _ ⟨_,_,_,k⟩=>SqL.of (k _ _ rcga rcba erc)) ?_ ?_
    ·rintro j y2 σ Hc hy2 ⟨v12,rfl,gc,gc2⟩
     have hj:j < cs.length:=by have:=(ph_.mp hy2).1;omega
     have hIc:Is Hc y2 (patD cs[j]):=by
      have tkc:Tk Hb Hc:=fun b ys e=>gc2 b _ (fun z=>by rw[z] at e;rw[ebg] at e;cases e) (fun z=>by rw[z] at e;rw[ebb] at e;cases e) e
      obtain⟨y',d,q1,q2,q3⟩:=IsL.get (IsL.tk tkc (zg_ _) hzc) (i:=j) (by rw[pb_];exact hj)
      rw[hy2] at q1
      cases q1
      rw[pl_,pa_ hj] at q2
      cases q2
      exact q3
     obtain⟨bk,rfl,hat⟩:=jmc_ hIc
     have htk2:cs.take (j+1)=cs.take j++[cs[j]]:=by rw[qx_,pa_ hj];rfl
     rw[htk2,<- pp_]
     generalize cs[j]=cx at *
     have hll:(lg++cs.take j).length < 1000000:=by rw[pd_,pq_];omega
     obtain⟨o,Hd,k1,k2,k3,k4,k5,k6⟩:=gc.goods hll hat
     walk_at "go"
     refine jfu_ ?_
     walk_at "go"
     refine ux_ ?_
     walk_at "go"
     refine⟨ga,rfl,k1,?_⟩
     walk_at "go"
     refine⟨o,k2,?_⟩
     rw[k3]
     walk_at "go"
     refine⟨ga,Hd,rfl,k4,?_⟩
     walk_at "go"
     exact⟨_,rfl,k5,fun c o a1 a2 e=>k6 c o a1 a2 (gc2 c o a1 a2 e)⟩
    ·rintro σ Hc ⟨v12,rfl,gc,gc2⟩
     rw[hcz,qa_] at gc
     exact⟨_,_,_,_,_,_,rfl,gc⟩
   ·have htf:(sx.t == odd1 n)=false:=by simpa using ht
    have ho1:occ n L false sx=zt_ (frame sx.w) n L g:=by unfold occ;rw[if_pos hbx,if_pos htf,hgn]
    have ho2:occ n L true sx=[]:=by unfold occ;rw[if_pos hbx,if_neg (by rw[htf];simp)]
    rw[ho1,ho2,p8_]
    refine jbh_ (by simpa using ht) ?_
    walk_at "go"
    rw[hg]
    refine⟨sx.w,g,n,L,rfl,by omega,by omega,hL,fun rc zc Hb hrc erc hzc sb=>?_⟩
    have gb1:=ga1.same sb
    obtain⟨φg,ebg⟩:∃ φ,Hb ga=some (.ext φ):=by obtain⟨kg,kb,h1,_⟩:=gb1;exact⟨_,h1⟩
    obtain⟨φb,ebb⟩:∃ φ,Hb ba=some (.ext φ):=by obtain⟨kg,kb,h1,h2,_⟩:=gb1;exact⟨_,h2⟩
    have rcga:rc≠ga:=fun z=>by rw[z,ebg] at erc;cases erc
    have rcba:rc≠ba:=fun z=>by rw[z,ebb] at erc;cases erc
    have hcl:(zt_ (frame sx.w) n L g).length<=22:=by unfold zt_;rw[pb_,qk_];have:=vi_ (frame sx.w) L g;omega
    generalize zt_ (frame sx.w) n L g=cs at hzc hcl ⊢
    have hcz:=hzc.length
    rw[pb_] at hcz
    walk_at "go"
    try refine u1_ (SqL.of erc) ?_
    refine zz_ (K:=K) (xs:=zc) (fun j σ H'=>∃(v12:Option V),σ=[some v,some u,some (.int n),some (.int (L:Int)),some (.bl (odd1 n)),some (.ref ga),some (.ref ba),some (.str (S sx.w)),some (.int (g:Int)),some (.bl sx.t),some (.bl sx.b),some (.ref ba),v12]/\GBs P w H3 H' ga ba lg (lb++cs.take j)/\∀ b o,b≠ga->b≠ba->Hb b=some o->H' b=some o)
     ⟨_,rfl,by rw[wj_,p8_];exact gb1,fun _ _ _ _ e=>e⟩ (fun j σ H' _ ⟨_,_,_,k⟩=>SqL.of (k _ _ rcga rcba erc)) ?_ ?_
    ·rintro j y2 σ Hc hy2 ⟨v12,rfl,gc,gc2⟩
     have hj:j < cs.length:=by have:=(ph_.mp hy2).1;omega
     have hIc:Is Hc y2 (patD cs[j]):=by
      have tkc:Tk Hb Hc:=fun b ys e=>gc2 b _ (fun z=>by rw[z] at e;rw[ebg] at e;cases e) (fun z=>by rw[z] at e;rw[ebb] at e;cases e) e
      obtain⟨y',d,q1,q2,q3⟩:=IsL.get (IsL.tk tkc (zg_ _) hzc) (i:=j) (by rw[pb_];exact hj)
      rw[hy2] at q1
      cases q1
      rw[pl_,pa_ hj] at q2
      cases q2
      exact q3
     obtain⟨bk,rfl,hat⟩:=jmc_ hIc
     have htk2:cs.take (j+1)=cs.take j++[cs[j]]:=by rw[qx_,pa_ hj];rfl
     rw[htk2,<- pp_]
     generalize cs[j]=cx at *
     have hll:(lb++cs.take j).length < 1000000:=by rw[pd_,pq_];omega
     obtain⟨o,Hd,k1,k2,k3,k4,k5,k6⟩:=gc.bads hll hat
     walk_at "go"
     refine jfu_ ?_
     walk_at "go"
     refine ux_ ?_
     walk_at "go"
     refine⟨ba,rfl,k1,?_⟩
     walk_at "go"
     refine⟨o,k2,?_⟩
     rw[k3]
     walk_at "go"
     refine⟨ba,Hd,rfl,k4,?_⟩
     walk_at "go"
     exact⟨_,rfl,k5,fun c o a1 a2 e=>k6 c o a1 a2 (gc2 c o a1 a2 e)⟩
    ·rintro σ Hc ⟨v12,rfl,gc,gc2⟩
     rw[hcz,qa_] at gc
     exact⟨_,_,_,_,_,_,rfl,gc⟩
 ·rintro σ Ha ⟨v7,v8,v9,v10,v11,v12,rfl,ga1⟩
  rw[hzl,qa_] at ga1
  have hk:=kept ga1
  obtain⟨kg,kb,h1,h2,h3,h4,h5,h6⟩:=ga1
  walk_at "go"
  intro t ht
  have st:=jd_ ht (.tup [.ref ga,.ref ba])
  refine q t ga ba kg kb _ jb_ hga hbaH gaba (st _ _ h1) (st _ _ h2) (h4.tk fun b xs e=>st _ _ e) (h5.tk fun b xs e=>st _ _ e) (hk.trans st)
end
abbrev s_is_worth:Stmt:=top 11
theorem sc_is_worth:FnScope ["good","bad","cost"] ["good","bad","cost"] (jm_ s_is_worth):=by walk_at "f"
abbrev s_learnt_at:Stmt:=top 12
theorem sc_learnt_at:FnScope ["words","patterns","number","length","cost","counted","goods","bads"] ["words","patterns","number","length","cost"] (jm_ s_learnt_at):=by walk_at "f"
def cV:Option Int->V
 | none=>.non
 | some c=>.int c
def yl_ (g b:Int):Option Int->Bool
 | none=>decide (b=0)
 | some c=>decide (b * c<=g)
def jdl_:Sp:=fun vs H Q _=>∃(g b:Int) (c:Option Int),vs=[.int g,.int b,cV c]/\0<=g/\g<=1000000/\0<=b/\b<=1000000/\(∀ k,c=some k->0<=k/\k<=1000000)/\Q (.bl (yl_ g b c)) H
def isLA (lg lb:List Pat) (c:Option Int) (ps:List Pat):Prop:=SrtP (ps.map pk)/\(ps.map pk).Nodup/\∀ x,x∈ps↔x∈lg/\yl_ (cnt lg (pk x):Int) (cnt lb (pk x):Int) c=true
def spLA:Sp:=fun vs H Q _=>∃(v u:V) (ws xs:List Pat) (n:Int) (L:Nat) (c:Option Int),vs=[v,u,.int n,.int (L:Int),cV c]/\Is H v (zj_ ws)/\Is H u (zj_ xs)/\(∀ x∈xs,1<=x.1.length/\x.1.length<=1000/\x.2.length<=x.1.length+1)/\xs.length<=9000/\(∀ x∈ws,1<=x.1.length/\x.1.length<=20)/\ws.length<=10/\-1000<=n/\n<=1000/\L<=100/\(∀ k,c=some k->0<=k/\k<=1000000) /\
 ∀(r:Addr) (zs:List V) (ps:List Pat) (H':Hp),H r=none->H' r=some (.lst zs)->L2.IsL H' zs (ps.map patD)->isLA (occs n L true (jz_ xs ws)) (occs n L false (jz_ xs ws)) c ps->Same H H'->Q (.ref r) H'
def unpk (k:PKey):Pat:=(k.1.cps.toList,k.2)
theorem jcw_ (k:PKey):pk (unpk k)=k:=by
 obtain⟨⟨⟨l⟩⟩,ns⟩:=k
 rfl
theorem jhc_ (x:Pat):unpk (pk x)=x:=by
 unfold unpk pk
 exact Prod.ext (by simp[jqb_]) rfl
theorem x8_ {x y:Pat} (h:pk x=pk y):x=y:=by rw[<- jhc_ x,h,jhc_]
theorem jhk_ {H:Hp} {k:PKey} {b:Addr} (h:patKind.at_ H k b):Is H (.ref b) (patD (unpk k)):=by
 obtain⟨t,h1,h2⟩:=h
 refine u6_ (x:=unpk k) (t:=t) ?_ h2
 rw[h1]
 have:=congrArg Prod.fst (jcw_ k)
 have e:S (unpk k).1=k.1:=this
 rw[e]
theorem v5_ {H:Hp}:∀{l:List (Addr×PKey)},(∀ p∈l,Is H (.ref p.1) (patD (unpk p.2)))->L2.IsL H (l.map fun p=>V.ref p.1) ((l.map fun p=>unpk p.2).map patD)
 | [],_=>by simp only[rf_,L2.IsL]
 | p::l,h=>by
  simp only[ps_,L2.IsL]
  exact⟨h p po_,v5_ fun q hq=>h q (pm_ _ hq)⟩
theorem jhe_ {K':Type} [DecidableEq K'] {N:OwnKind K'} {P:Program} {w:World} {tl:TE} {σ:St} {H:Hp} {R:It->Hp->Prop} (h:tl σ H fun x H1=>∃(a:Addr) (kvs:List (K'×Addr×V)),x=.ref a/\H1 a=some (DX N P w a kvs)/\KO N H1 kvs/\∀ o,R (Itx N P w a o kvs) (upd H1 a (.frz o (DX N P w a kvs)))):jgp_ N P w tl σ H R:=h
section
variable {P:Program} {w:World} {K:pc_} {mg:Str->Option Value} {base:Heap} {f:Addr} {fd:FuncData} {tk:Nat->Tok}
theorem jdw_ (T:Txt mg tk) (F:Fun K "is_worth" "is_worth" s_is_worth f fd):FnOk P w K mg base CX0 1 f fd ["good","bad","cost"] jdl_:=by
 refine F.ok sc_is_worth (fun vs H Q E h=>?_) (fun cdv A outer s H vs Q E hr h=>?_)
 ·obtain⟨g,b,c,rfl,_⟩:=h
  rfl
 obtain⟨g,b,c,rfl,hg0,hg1,hb0,hb1,hc,q⟩:=h
 have nd:=sc_is_worth.nd
 refine⟨_,(jf_ (x0_ (zi_ o_is (pv 2) jfp_ (j3_ _))
   (jj_ (j8_ (zh_ (o_eq hr.units) (pv 1) jc_ (j3_ _))))
   z6_)
  (jj_ (j8_ (zh_ o_le (ji_ z5_ (pv 1) (pv 2)) (pv 0) (j3_ _))))),?_⟩
 rw[show L2.ze_ ["good","bad","cost"] [.int g,.int b,cV c]=[some (.int g),some (.int b),some (cV c)] from rfl]
 cases c with
 | none =>
  simp only[cV]
  walk_at "go"
  unfold yl_ at q
  have:decide (V.int b=V.int 0)=decide (b=0):=by simp
  rw[this]
  exact q
 | some k =>
  simp only[cV]
  walk_at "go"
  unfold yl_ at q
  exact q
theorem jcg_ (T:Txt mg tk) (F:Fun K "learnt_at" "learnt_at" s_learnt_at f fd) (D_goods_and_bads:Dn P w K mg base "goods_and_bads" 5 ["words","patterns","number","length"] (spGB P w)) (D_is_worth:Dn P w K mg base "is_worth" 1 ["good","bad","cost"] jdl_):FnOk P w K mg base CX0 6 f fd ["words","patterns","number","length","cost"] spLA:=by
 refine F.ok sc_learnt_at (fun vs H Q E h=>?_) (fun cdv A outer s H vs Q E hr h=>?_)
 ·obtain⟨v,u,ws,xs,n,L,c,rfl,_⟩:=h
  rfl
 obtain⟨v,u,ws,xs,n,L,c,rfl,hv,hu,hxs,hxl,hws,hwl,hn0,hn1,hL,hc,q⟩:=h
 have nd:=sc_learnt_at.nd
 have hll:∀ good,(occs n L good (jz_ xs ws)).length<=4400:=fun good=>by
  have h1:=vp_ n L good (l:=jz_ xs ws) fun s hs=>by obtain⟨g',e,h1,_⟩:=jhd_ (fun x hx=>(hws x hx).2) s hs;omega
  have:=xt_ (xs:=xs) (m:=20) (ws:=ws) fun x hx=>(hws x hx).2
  omega
 refine⟨_,(jf_ (jl_ (i:=5) nd rfl (Or.inl rfl) (ju_ D_goods_and_bads hr.mo_ rfl (ja_ (pv 0) (ja_ (pv 1) (ja_ (pv 2) (ja_ (pv 3) je_))))))
  (jf_ (jl_ (i:=6) nd rfl (Or.inr rfl) (jv_ (jn_ (K:=K)) (pv 5) jc_ (fun _ _=>rfl)))
  (jf_ (jl_ (i:=7) nd rfl (Or.inr rfl) (jv_ (jn_ (K:=K)) (pv 5) jc_ (fun _ _=>rfl)))
  (jj_ (j8_ (jq_ (jhl_ rfl (jgz_ hr)) rfl T.z_sorted (by decide +kernel) (ja_ (jkl_ (zv_ ["goods","bads","cost","candidate"] [some 6,some 7,some 4,none] rfl (by kernel_rfl) rfl (jig_ (N:=patKind) (P:=P) (w:=w) rfl rfl (pv 6)) (fun _ _ _ _=>(jk_ (i:=3) (show (["goods","bads","cost","candidate"]:List Str).Nodup by decide +kernel) rfl (Or.inl rfl) (Or.inr rfl))) (fun _ _ _ _=>(uw_ (jcx_ (ju_ D_is_worth hr.mo_ rfl (ja_ (jlp_ (N:=patKind) (P:=P) (w:=w) rfl rfl (x2_ hr) (pv 0) (pv 3) (fun _ _=>rfl)) (ja_ (jda_ (N:=patKind) (P:=P) (w:=w) rfl rfl (x2_ hr) (pv 1) (pv 3) jc_ ⟨rfl,rfl,rfl,rfl⟩) (ja_ (pv 2) je_)))) (fun _=>rfl)))) (fun _ _ _ _=>(pv 3)))) je_))))))),?_⟩
 rw[show L2.ze_ ["words","patterns","number","length","cost","counted","goods","bads"] [v,u,.int n,.int (L:Int),cV c]=[some (v),some (u),some (.int n),some (.int (L:Int)),some (cV c),none,none,none] from rfl]
 walk_at "go"
 refine⟨v,u,ws,xs,n,L,rfl,hv,hu,hxs,hxl,hws,hwl,hn0,hn1,hL,fun t ga ba kg kb H1 et hga hba gaba eg eb cg cb s1=>?_⟩
 have hlg:=hll true
 have hlb:=hll false
 generalize occs n L true (jz_ xs ws)=lg at *
 generalize occs n L false (jz_ xs ws)=lb at *
 walk_at "go"
 refine jke_ (N:=patKind) (P:=P) (w:=w) ga kg (fun o u e=>by
  have e:H ga=some (.frz o u):=e
  rw[hga] at e;cases e) ?_
 walk_at "go"
 refine jhe_ ?_
 walk_at "go"
 refine⟨ga,kg,rfl,eg,cg.ko,fun ob=>?_⟩
 have tk8:Tk H1 (upd H1 ga (.frz ob (DX patKind P w ga kg))):=fun b zs e=>by rw[jg_ (yc_ eg e)];exact e
 have eg8:=jb_ (H:=H1) (a:=ga) (o:=.frz ob (DX patKind P w ga kg))
 have eb8:(upd H1 ga (.frz ob (DX patKind P w ga kg))) ba=_:=(jg_ gaba.symm).trans eb
 have cg8:=cg.tk tk8
 have cb8:=cb.tk tk8
 have s08:Same H (upd H1 ga (.frz ob (DX patKind P w ga kg))):=fun b o e=>by rw[jg_ (jh_ e hga)];exact s1 _ _ e
 generalize upd H1 ga (.frz ob (DX patKind P w ga kg))=H8 at eg8 eb8 cg8 cb8 s08 ⊢
 clear tk8 eg eb cg cb s1
 intro r2 hr2
 have hr2H:H r2=none:=s08.free hr2
 have hkl:=cg8.len
 obtain⟨wf,hwf⟩:∃ wf:PKey×Addr×V->Bool,wf=fun e=>yl_ (cnt lg e.1:Int) (cnt lb e.1:Int) c:=⟨_,rfl⟩
 refine jgn_ (N:=patKind) (P:=P) (w:=w) (a:=ga) (o:=ob) (kvs:=kg) (fun j acc σ H'=>∃(v:Option V),σ=[some (.ref ga),some (.ref ba),some (cV c),v]/\acc=((kg.take j).filter wf).map (fun e=>V.ref e.2.1)/\H' r2=some (.lst acc)/\Same H8 H')
  (fun j acc σ H' _ ⟨_,_,_,_,s⟩=>s _ _ eg8) ⟨none,rfl,rfl,jb_,jd_ hr2 _⟩ (fun j acc σ H' ⟨_,_,e,e2,_⟩=>⟨e2,by rw[e,pb_];exact p5_ (q1_ _ _) (by rw[pq_];omega)⟩) (szn (by omega)) ?_ ?_
 ·rintro j acc σ H9 hj ⟨v3,rfl,rfl,er,s9⟩
  have hgj:(kg.map fun e=>V.ref e.2.1).getD j .non=.ref kg[j].2.1:=by rw[pw_,pl_,pa_ hj];rfl
  rw[hgj]
  have htk:(kg.take (j+1)).filter wf=(kg.take j).filter wf++if wf kg[j]=true then [kg[j]] else []:=by
   rw[qx_,pa_ hj,qt_]
   congr 1
   simp only[Option.toList,qr_,ki_]
  rw[htk]
  have hm:=qf_ hj
  generalize kg[j]=e at hm ⊢
  have hat9:=xw_ (fun b xs q=>s9 _ _ q) (cg8.ko e hm)
  have hko:KO patKind H9 kg:=fun e' he'=>xw_ (fun b xs q=>s9 _ _ q) (cg8.ko e' he')
  have hkb:KO patKind H9 kb:=fun e' he'=>xw_ (fun b xs q=>s9 _ _ q) (cb8.ko e' he')
  have hc0:cnt lg e.1≠0:=cnt_pos.mpr ((cg8.mem e.1).mp (si_ hm))
  have hcl1:cnt lg e.1<=4400:=p5_ (q1_ _ _) hlg
  have hcl2:cnt lb e.1<=4400:=p5_ (q1_ _ _) hlb
  have hval:valX kg e.1=some (.int (cnt lg e.1:Int)):=by rw[cg8.val,if_neg hc0]
  walk_at "go"
  refine jld_ ?_
  walk_at "go"
  refine⟨ga,_,rfl,⟨kg,e.1,e.2.1,.inr ⟨ob,s9 _ _ eg8⟩,hko,rfl,hat9,hval.symm⟩,?_⟩
  walk_at "go"
  refine ux_ ?_
  walk_at "go"
  refine⟨ba,rfl,⟨kb,.inl (s9 _ _ eb8),hkb⟩,?_⟩
  walk_at "go"
  refine⟨_,⟨kb,e.1,e.2.1,.inl (s9 _ _ eb8),hkb,rfl,hat9,rfl⟩,?_⟩
  rw[jgu_ cb8]
  walk_at "go"
  refine⟨_,_,c,rfl,by omega,by omega,by omega,by omega,hc,?_⟩
  have hwe:yl_ (cnt lg e.1:Int) (cnt lb e.1:Int) c=wf e:=by rw[hwf]
  rw[hwe]
  cases hw:wf e with
  | false =>
   walk_at "go"
   exact⟨_,rfl,by simp,er,s9⟩
  | true =>
   walk_at "go"
   refine⟨er,_,rfl,by simp,jb_,fun b o q=>?_⟩
   rw[jg_ (jh_ q hr2)];exact s9 _ _ q
 ·rintro acc σ H9 ⟨v3,rfl,rfl,er,s9⟩
  rw[qa_] at er
  refine⟨⟨ob,s9 _ _ eg8⟩,?_⟩
  have r2ga:r2≠ga:=fun z=>by rw[z,eg8] at hr2;cases hr2
  have tk10:Tk H9 (upd H9 ga (DX patKind P w ga kg)):=fun b zs q=>by rw[jg_ fun z=>by rw[z,s9 _ _ eg8] at q;cases q];exact q
  have er10:(upd H9 ga (DX patKind P w ga kg)) r2=_:=(jg_ r2ga).trans er
  have s10:Same H (upd H9 ga (DX patKind P w ga kg)):=fun b o q=>by rw[jg_ (jh_ q hga)];exact s9 _ _ (s08 _ _ q)
  have ko10:KO patKind (upd H9 ga (DX patKind P w ga kg)) kg:=fun e' he'=>xw_ (fun b xs q=>tk10 _ _ (s9 _ _ q)) (cg8.ko e' he')
  generalize upd H9 ga (DX patKind P w ga kg)=H10 at er10 s10 ko10 ⊢
  walk_at "go"
  refine jhm_ (l:=r2) (ps:=(kg.filter wf).map fun e=>(e.2.1,e.1)) (by rw[qu_];exact er10) (fun p hp=>?_) (by rw[pb_];exact p5_ (q1_ _ _) (by omega)) fun rr qs hrr hqp hqs=>?_
  ·obtain⟨e,he,rfl⟩:=pu_.mp hp
   exact ko10 e (qd_.mp he).1
  ·have hqat:∀ p∈qs,Is H10 (.ref p.1) (patD (unpk p.2)):=fun p hp=>by
    obtain⟨e,he,rfl⟩:=pu_.mp (hqp.mem_iff.mp hp)
    exact jhk_ (ko10 e (qd_.mp he).1)
   have hpk:(qs.map fun p=>unpk p.2).map pk=qs.map (·.2):=by
    rw[qu_]
    exact qp_ fun p _=>jcw_ p.2
   have hpm:(qs.map (·.2)).Perm ((kg.filter wf).map (·.1)):=by
    have:=hqp.map (·.2)
    rw[qu_] at this
    exact this
   have hnd:((kg.filter wf).map (·.1)).Nodup:=te_ (List.Sublist.map _ s5_) cg8.nd
   walk_at "go"
   have sr:=jd_ hrr (.lst (qs.map fun p=>V.ref p.1))
   refine q rr _ (qs.map fun p=>unpk p.2) _ (s10.free hrr) jb_ (IsL.same sr (v5_ hqat)) ⟨by rw[hpk];exact hqs,by rw[hpk];exact hpm.nodup_iff.mpr hnd,fun x=>?_⟩ (s10.trans sr)
   have h1:x∈qs.map (fun p=>unpk p.2)↔pk x∈qs.map (·.2):=by
    rw[<- hpk,pu_,pu_]
    constructor
    ·rintro⟨p,hp,rfl⟩;exact⟨_,pu_.mpr ⟨p,hp,rfl⟩,rfl⟩
    ·rintro⟨y,hy,e⟩
     obtain⟨p,hp,rfl⟩:=pu_.mp hy
     exact⟨p,hp,x8_ e⟩
   rw[h1,hpm.mem_iff,pu_]
   constructor
   ·rintro⟨e,he,hx⟩
    obtain⟨he1,he2⟩:=qd_.mp he
    obtain⟨y,hy,e2⟩:=(cg8.mem e.1).mp (si_ he1)
    rw[hx] at e2
    rw[hwf] at he2
    simp only[hx] at he2
    exact⟨x8_ e2▸hy,he2⟩
   ·rintro⟨hx,hwx⟩
    obtain⟨e,he,e2⟩:=pu_.mp ((cg8.mem (pk x)).mpr ⟨x,hx,rfl⟩)
    exact⟨e,qd_.mpr ⟨he,by rw[hwf];simp only[e2];exact hwx⟩,e2⟩
end
theorem jdi_ {n:Int} {p L i:Nat} (hp:p<=L) (hi:i<=L):(one n p L)[i]?=some (if i=p then n else 0):=by
 unfold one
 by_cases h1:i < p
 ·rw[pp_,rh_ (by simpa using h1),if_neg (by omega)]
  simp[h1]
 ·by_cases h2:i=p
  ·subst h2
   rw[pp_,q3_ (by simp)]
   simp
  ·rw[q3_ (by simp;omega),if_neg h2,s9_,if_pos (by simp;omega)]
theorem uv_ {n:Int} (hn:n≠0) {p r L:Nat} (hp:p<=L) (hr:r<=L) (h:one n p L=one n r L):p=r:=by
 have h1:=jdi_ (n:=n) hp hp
 have h2:=jdi_ (n:=n) hr hp
 rw[h,h2] at h1
 rw[if_pos rfl] at h1
 by_cases e:p=r
 ·exact e
 ·rw[if_neg e] at h1
  exact absurd (Option.some.inj h1).symm hn
def hit (t s:List Nat) (L p g:Nat):Bool:=decide (p<=g+1/\g+1 - p+L<=t.length/\(t.drop (g+1 - p)).take L=s)
theorem va_ (a b:List Pat) (k:PKey):cnt (a++b) k=cnt a k+cnt b k:=by unfold cnt;rw[qt_,pd_]
theorem xo_ (F:Nat->Pat) (k:PKey) (j:Nat):∀ m:Nat,(∀ i,i < m->(pk (F i)=k↔i=j))->cnt ((pt_ m).map F) k=if j < m then 1 else 0
 | 0,_=>rfl
 | m+1,h=>by
  rw[q2_,pn_,va_,xo_ F k j m fun i hi=>h i (by omega)]
  have h1:=h m (by omega)
  have h2:cnt ([m].map F) k=if m=j then 1 else 0:=by
   unfold cnt
   rw[ps_,rf_,qr_,ki_]
   by_cases q:m=j
   ·rw[if_pos (decide_eq_true (h1.mpr q)),if_pos q];rfl
   ·rw[if_neg (by rw[decide_eq_false fun z=>q (h1.mp z)];simp),if_neg q];rfl
  rw[h2]
  by_cases q:m=j
  ·subst q;simp
  ·rw[if_neg q]
   by_cases q2:j < m
   ·rw[if_pos q2,if_pos (by omega)]
   ·rw[if_neg q2,if_neg (by omega)]
theorem jja_ {t s:List Nat} {n:Int} {L p g:Nat} (hn:n≠0) (hp:p<=L):cnt (zt_ t n L g) (pk (s,one n p L))=if hit t s L p g=true then 1 else 0:=by
 unfold zt_
 by_cases hpg:p<=g+1
 ·by_cases hs:(t.drop (g+1 - p)).take L=s
  ·rw[xo_ _ _ (L - p - (L - (g+1)))]
   ·unfold hit z9_
    by_cases hl:g+1 - p+L<=t.length
    ·rw[if_pos (by split <;> omega),if_pos (by simp[hpg,hl,hs])]
    ·rw[if_neg (by split <;> omega),if_neg (by simp[hl])]
   ·intro i hi
    have hb:g+1 - L+i<=g+1/\g+1<=g+1 - L+i+L:=by unfold z9_ at hi;split at hi <;> omega
    unfold cand pk
    constructor
    ·intro e
     have e2:one n (g+1 - (g+1 - L+i)) L=one n p L:=congrArg Prod.snd e
     have:=uv_ hn (by omega) hp e2
     omega
    ·intro e
     have e3:g+1 - (g+1 - L+i)=p:=by omega
     have e4:g+1 - L+i=g+1 - p:=by omega
     rw[e3]
     simp only[e4,hs]
  ·rw[xo_ _ _ (z9_ t L g),if_neg (by omega),if_neg]
   ·unfold hit;simp[hs]
   ·intro i hi
    have hb:g+1 - L+i<=g+1/\g+1<=g+1 - L+i+L:=by unfold z9_ at hi;split at hi <;> omega
    refine⟨fun e=>?_,fun e=>by omega⟩
    exfalso
    unfold cand pk at e
    have e2:one n (g+1 - (g+1 - L+i)) L=one n p L:=congrArg Prod.snd e
    have e3:=uv_ hn (by omega) hp e2
    have e1:S ((t.drop (g+1 - L+i)).take L)=S s:=congrArg Prod.fst e
    rw[show g+1 - L+i=g+1 - p by omega] at e1
    exact hs (jlr_ e1)
 ·rw[xo_ _ _ (z9_ t L g),if_neg (by omega),if_neg]
  ·unfold hit;simp[hpg]
  ·intro i hi
   have hb:g+1 - L+i<=g+1/\g+1<=g+1 - L+i+L:=by unfold z9_ at hi;split at hi <;> omega
   refine⟨fun e=>?_,fun e=>by omega⟩
   exfalso
   unfold cand pk at e
   have e2:one n (g+1 - (g+1 - L+i)) L=one n p L:=congrArg Prod.snd e
   have e3:=uv_ hn (by omega) hp e2
   omega
theorem jeh_ {t s:List Nat} {n:Int} {L p:Nat} (hn:n≠0) (hp:p<=L):∀ gs:List Nat,cnt (gs.flatMap (zt_ t n L)) (pk (s,one n p L))=(gs.filter (hit t s L p)).length
 | []=>rfl
 | g::gs=>by
  rw[ql_,va_,jeh_ hn hp gs,jja_ hn hp,qr_]
  split <;> simp <;> omega
theorem jei_ {t s:List Nat} {L p:Nat} {gs:List Nat} (hg:gs.Nodup) (h1:∀ g∈gs,1<=g) :
  (gs.filter (hit t s L p)).length=((pt_ (t.length+1 - L)).filter fun b=>decide ((t.drop b).take L=s/\1<=b+p/\b+p - 1∈gs)).length:=by
 have hp:((gs.filter (hit t s L p)).map fun g=>g+1 - p).Perm ((pt_ (t.length+1 - L)).filter fun b=>decide ((t.drop b).take L=s/\1<=b+p/\b+p - 1∈gs)):=by
  refine xe_ ?_ (te_ s5_ List.nodup_range) fun b=>?_
  ·rw[wt_,st_]
   refine ws_ (fun{x y} hx hy h=>?_) (te_ s5_ hg)
   have a1:=(qd_.mp hx).2
   have a2:=(qd_.mp hy).2
   unfold hit at a1 a2
   have a1:=(of_decide_eq_true a1).1
   have a2:=(of_decide_eq_true a2).1
   omega
  ·rw[pu_,qd_,ro_]
   constructor
   ·rintro⟨g,hgm,rfl⟩
    obtain⟨m1,m2⟩:=qd_.mp hgm
    unfold hit at m2
    obtain⟨k1,k2,k3⟩:=of_decide_eq_true m2
    have:=h1 g m1
    exact⟨by omega,decide_eq_true ⟨k3,by omega,by rw[show g+1 - p+p - 1=g by omega];exact m1⟩⟩
   ·rintro⟨hb,hd⟩
    obtain⟨k1,k2,k3⟩:=of_decide_eq_true hd
    refine⟨b+p - 1,qd_.mpr ⟨k3,?_⟩,by omega⟩
    unfold hit
    refine decide_eq_true ⟨by omega,by omega,?_⟩
    rw[show b+p - 1+1 - p=b by omega];exact k1
 have:=hp.length_eq
 rwa [pb_] at this
def z4_ (xs:List Pat) (n:Int) (good:Bool) (x:Pat):List Nat:=((pt_ (x.1.length - 1)).filter fun j=>(zo_ (vals xs x.1) j != odd1 n)&&((decide ((j:Int)+1∈x.2) == odd1 n) == good)).map (·+1)
theorem xf_ {α β γ:Type} (c:α->Bool) (h:α->β) (k:β->List γ):∀ l:List α,((l.filter c).map h).flatMap k=l.flatMap fun j=>if c j=true then k (h j) else []
 | []=>rfl
 | a::l=>by
  rw[qr_,ql_]
  by_cases hc:c a=true
  ·rw[if_pos hc,if_pos hc,ps_,ql_,xf_ c h k l]
  ·rw[if_neg hc,if_neg hc,ta_,xf_ c h k l]
theorem yy_ (xs:List Pat) (n:Int) (L:Nat) (good:Bool):∀ ws:List Pat,occs n L good (jz_ xs ws)=ws.flatMap fun x=>(z4_ xs n good x).flatMap (zt_ (frame x.1) n L)
 | []=>rfl
 | x::ws=>by
  have ih:=yy_ xs n L good ws
  unfold occs jz_ at ih ⊢
  rw[ql_,rt_,ih,ql_]
  congr 1
  unfold z4_
  rw[xf_,List.flatMap_map]
  congr 1
  funext j
  unfold occ jak_
  simp only[show ((j:Int)+1).toNat=j+1 by omega]
  by_cases h1:(zo_ (vals xs x.1) j != odd1 n)=true
  ·rw[if_pos h1]
   by_cases h2:(decide ((j:Int)+1∈x.2) == odd1 n)=good
   ·rw[if_pos h2,if_pos (by rw[h1,h2];simp)]
   ·rw[if_neg h2,if_neg (by rw[h1];simpa using h2)]
  ·rw[if_neg h1,if_neg (by simp[h1])]
theorem jjw_ (xs:List Pat) (n:Int) (good:Bool) (x:Pat):(z4_ xs n good x).Nodup/\∀ g∈z4_ xs n good x,1<=g:=by
 unfold z4_
 refine⟨?_,fun g hg=>?_⟩
 ·rw[wt_,st_]
  exact(te_ s5_ List.nodup_range).imp fun h=>by omega
 ·obtain⟨j,_,rfl⟩:=pu_.mp hg
  omega
def begN (t s:List Nat) (L p:Nat) (gs:List Nat):Nat:=((pt_ (t.length+1 - L)).filter fun b=>decide ((t.drop b).take L=s/\1<=b+p/\b+p - 1∈gs)).length
theorem jlz_ {s:List Nat} {n:Int} {L p:Nat} (xs:List Pat) (good:Bool) (hn:n≠0) (hp:p<=L):∀ ws:List Pat,cnt (occs n L good (jz_ xs ws)) (pk (s,one n p L))=(ws.map fun x=>begN (frame x.1) s L p (z4_ xs n good x)).sum:=by
 intro ws
 rw[yy_]
 induction ws with
 | nil=>rfl
 | cons x ws ih =>
  obtain⟨h1,h2⟩:=jjw_ xs n good x
  rw[ql_,va_,ih,jeh_ hn hp,jei_ h1 h2,ps_,ss_]
  rfl
theorem v6_ {t:List Nat} {n:Int} {L g:Nat} {x:Pat} (h:x∈zt_ t n L g):∃ b p,p<=L/\b+L<=t.length/\b+p=g+1/\x=((t.drop b).take L,one n p L):=by
 unfold zt_ at h
 obtain⟨k,hk,rfl⟩:=pu_.mp h
 have hk:=ro_.mp hk
 have hb:g+1 - L+k<=g+1/\g+1<=g+1 - L+k+L/\g+1 - L+k+L<=t.length:=by unfold z9_ at hk;split at hk <;> omega
 exact⟨g+1 - L+k,g+1 - (g+1 - L+k),by omega,hb.2.2,by omega,rfl⟩
theorem jmd_ {lg lb:List Pat} {c:Option Int} {ps qs:List Pat} (h1:isLA lg lb c ps) (h2:SrtP (qs.map pk)) (h3:qs.Nodup) (h4:∀ x,x∈qs↔x∈ps):ps=qs:=by
 obtain⟨a1,a2,_⟩:=h1
 have hpn:ps.Nodup:=xb_ a2
 have hp:ps.Perm qs:=xe_ hpn h3 fun x=>(h4 x).symm
 have go:∀(l m:List Pat),l.Perm m->SrtP (l.map pk)->SrtP (m.map pk)->l=m:=by
  intro l
  induction l with
  | nil=>intro m h _ _;exact(List.nil_perm.mp h).symm
  | cons a l ih =>
   intro m h s1 s2
   cases m with
   | nil=>exact absurd h.symm (by simp)
   | cons b m =>
    unfold SrtP at s1 s2
    rw[ps_,List.pairwise_cons] at s1 s2
    have hab:a=b:=by
     by_cases e:a=b
     ·exact e
     ·have hb:b∈l:=(p7_.mp (h.mem_iff.mpr po_)).resolve_left fun z=>e z.symm
      have ha:a∈m:=(p7_.mp (h.mem_iff.mp po_)).resolve_left e
      have n1:=s1.1 (pk b) (si_ hb)
      have n2:=s2.1 (pk a) (si_ ha)
      exact x8_ (jpa_ (w1_ (tl_.mp n1) (tl_.mp n2)))
    subst hab
    rw[ih m ((List.perm_cons a).mp h) s1.2 s2.2]
 exact go ps qs hp a1 h2
def LV (ws xs:List Pat) (n:Int) (c:Option Int):Nat->List Pat->Prop
 | 0,ps=>ps=[]
 | k+1,ps=>∃ as bs,LV ws xs n c k as/\isLA (occs n (k+1) true (jz_ (xs++as) ws)) (occs n (k+1) false (jz_ (xs++as) ws)) c bs/\ps=as++bs
theorem jlb_ {ws xs:List Pat} {n:Int} {c:Option Int}:∀{k:Nat} {a b:List Pat},LV ws xs n c k a->LV ws xs n c k b->a=b
 | 0,a,b,h1,h2=>by rw[show a=[] from h1,show b=[] from h2]
 | k+1,a,b,h1,h2=>by
  obtain⟨a1,a2,p1,p2,rfl⟩:=h1
  obtain⟨b1,b2,q1,q2,rfl⟩:=h2
  have e:=jlb_ p1 q1
  subst e
  have e2:a2=b2:=jmd_ p2 q2.1 (xb_ q2.2.1) fun x=>by rw[q2.2.2,p2.2.2]
  rw[e2]
theorem joe_ {xs ws:List Pat} {n:Int} {L:Nat} {good:Bool} (h:∀ x∈ws,∀ c∈x.1,c < 128):∀ y∈occs n L good (jz_ xs ws),∀ c∈y.1,c < 128:=fun y hy c hc=>by
 rw[yy_] at hy
 obtain⟨x,hx,hy⟩:=qw_.mp hy
 obtain⟨g,_,hy⟩:=qw_.mp hy
 obtain⟨b,p,_,_,_,rfl⟩:=v6_ hy
 have hc1:c∈frame x.1:=qg_ (pz_ hc)
 unfold frame at hc1
 rcases p7_.mp hc1 with e | e
 ·omega
 ·rcases pr_.mp e with e | e
  ·exact h x hx c e
  ·have:c=46:=by simpa using e
   omega
theorem jjh_ {xs ws:List Pat} {n:Int} {L:Nat} {good:Bool}:∀ y∈occs n L good (jz_ xs ws),y.1.length=L/\y.2.length=L+1:=fun y hy=>by
 rw[yy_] at hy
 obtain⟨x,hx,hy⟩:=qw_.mp hy
 obtain⟨g,_,hy⟩:=qw_.mp hy
 obtain⟨b,p,hp,hb,_,rfl⟩:=v6_ hy
 refine⟨by simp only[pq_,p9_];omega,?_⟩
 simp only[one,pd_,q7_,p3_,sb_];omega
theorem jfz_ {ws xs:List Pat} {n:Int} {c:Option Int}:∀{k:Nat} {a:List Pat},LV ws xs n c k a->∀ x∈a,∃ L as,L < k/\x∈occs n (L+1) true (jz_ (xs++as) ws)
 | 0,a,h1,x,hx=>by rw[show a=[] from h1] at hx;cases hx
 | k+1,a,h1,x,hx=>by
  obtain⟨a1,a2,p1,p2,rfl⟩:=h1
  rcases pr_.mp hx with h | h
  ·obtain⟨L,as,h1,h2⟩:=jfz_ p1 x h
   exact⟨L,as,by omega,h2⟩
  ·exact⟨k,a1,by omega,((p2.2.2 x).mp h).1⟩
theorem jur_ {ws xs:List Pat} {n:Int} {c:Option Int} {k:Nat} {a:List Pat} (h:LV ws xs n c k a) (hw:∀ x∈ws,∀ c∈x.1,c < 128):∀ x∈a,∀ c∈x.1,c < 128:=fun x hx=>by
 obtain⟨L,as,_,h2⟩:=jfz_ h x hx
 exact joe_ hw x h2
theorem jcv_ {ws xs:List Pat} {n:Int} {c:Option Int} {k:Nat} {a:List Pat} (h:LV ws xs n c k a) (hk:k<=100):∀ x∈a,1<=x.1.length/\x.1.length<=1000/\x.2.length<=x.1.length+1:=fun x hx=>by
 obtain⟨L,as,h1,h2⟩:=jfz_ h x hx
 have h3:=jjh_ x h2
 omega
def gN (ws:List Pat):Nat:=(ws.map fun x=>x.1.length - 1).sum
theorem jep_ (xs:List Pat):∀ ws:List Pat,(jz_ xs ws).length=gN ws
 | []=>rfl
 | x::ws=>by
  have ih:=jep_ xs ws
  unfold jz_ gN at ih ⊢
  rw[ql_,pd_,ih,pb_,qk_,ps_,ss_]
theorem jjq_ (t:List Nat) (L g:Nat):z9_ t L g<=t.length+1 - L:=by
 unfold z9_
 split <;> omega
theorem jcc_ (n:Int) (L:Nat) (good:Bool) {T:Nat}:∀{l:List Seen},(∀ s∈l,s.w.length+3<=T)->(occs n L good l).length<=l.length * (T - L)
 | [],_=>by simp[occs]
 | x::l,h=>by
  have h1:=jcc_ n L good (l:=l) fun s hs=>h s (pm_ _ hs)
  have h2:(occ n L good x).length<=T - L:=by
   have hx:=h x po_
   unfold occ
   split
   ·split
    ·unfold zt_
     rw[pb_,qk_]
     have:=jjq_ (frame x.w) L x.g.toNat
     rw[j0_] at this
     omega
    ·exact qz_ _
   ·exact qz_ _
  unfold occs at h1 ⊢
  rw[ql_,pd_,p3_,rp_]
  omega
theorem jao_ {ws xs:List Pat} {n:Int} {c:Option Int} (hw:∀ x∈ws,x.1.length<=7):∀{k:Nat} {a:List Pat},LV ws xs n c k a->a.length<=gN ws * 9 * min k 9
 | 0,a,h1=>by rw[show a=[] from h1];exact qz_ _
 | k+1,a,h1=>by
  obtain⟨a1,a2,p1,p2,rfl⟩:=h1
  have ih:=jao_ hw p1
  have h2:a2.length<=(occs n (k+1) true (jz_ (xs++a1) ws)).length:=jbn_ (xb_ p2.2.1) fun x hx=>((p2.2.2 x).mp hx).1
  have h3:=jcc_ n (k+1) true (T:=10) (l:=jz_ (xs++a1) ws) fun s hs=>by
   unfold jz_ at hs
   obtain⟨x,hx,hs⟩:=qw_.mp hs
   obtain⟨j,_,rfl⟩:=pu_.mp hs
   have:=hw x hx
   simp only[jak_];omega
  rw[jep_] at h3
  rw[pd_]
  by_cases hk:k < 9
  ·have e1:min (k+1) 9=min k 9+1:=by omega
   have h4:gN ws * (10 - (k+1))<=gN ws * 9:=rs_ _ (by omega)
   rw[e1,Nat.mul_succ];omega
  ·have e1:min (k+1) 9=min k 9:=by omega
   have h4:gN ws * (10 - (k+1))=0:=by rw[show 10 - (k+1)=0 by omega];rfl
   rw[e1];omega
abbrev Spot:=List Nat×Nat×Bool
def zk_ (xs:List Pat) (n:Int) (L:Nat) (x:Pat) (b p:Nat):List Spot:=if 2<=b+p/\b+p<=x.1.length/\(zo_ (vals xs x.1) (b+p - 2) != odd1 n)=true then [(((frame x.1).drop b).take L,p,decide (((b+p - 1:Nat):Int)∈x.2) == odd1 n)] else []
def yo_ (xs:List Pat) (n:Int) (L:Nat) (x:Pat) (b:Nat):List Spot:=(pt_ (L+1)).flatMap (zk_ xs n L x b)
def ub_ (xs:List Pat) (n:Int) (L:Nat) (x:Pat):List Spot:=(pt_ ((frame x.1).length+1 - L)).flatMap (yo_ xs n L x)
def zp_ (xs:List Pat) (n:Int) (L:Nat) (ws:List Pat):List Spot:=ws.flatMap (ub_ xs n L)
def cS (l:List Spot) (s:List Nat) (p:Nat) (g:Bool):Nat:=(l.filter fun e=>decide (e=(s,p,g))).length
theorem uu_ {α:Type} (f:α->List Spot) (s:List Nat) (p:Nat) (g:Bool):∀ l:List α,cS (l.flatMap f) s p g=(l.map fun a=>cS (f a) s p g).sum
 | []=>rfl
 | a::l=>by
  have ih:=uu_ f s p g l
  unfold cS at ih ⊢
  rw[ql_,qt_,pd_,ih,ps_,ss_]
theorem jia_ {α:Type} (c:α->Bool):∀ l:List α,(l.map fun a=>if c a=true then 1 else 0).sum=(l.filter c).length
 | []=>rfl
 | a::l=>by
  rw[ps_,ss_,jia_ c l,qr_]
  split
  ·rw[p3_];omega
  ·omega
theorem up_ (C:Bool) (p:Nat):∀ m:Nat,((pt_ m).map fun q=>if (decide (q=p)&&C)=true then 1 else 0).sum=if (decide (p < m)&&C)=true then 1 else 0
 | 0=>by simp
 | m+1=>by
  rw[q2_,pn_,List.sum_append,up_ C p m]
  simp only[ps_,rf_,ss_,List.sum_nil]
  cases C
  ·simp
  ·simp only[t0_,decide_eq_true_eq]
   by_cases h1:p < m
   ·rw[if_pos h1,if_neg (by omega),if_pos (by omega)];rfl
   ·by_cases h2:m=p
    ·rw[if_neg h1,if_pos h2,if_pos (by omega)];rfl
    ·rw[if_neg h1,if_neg h2,if_neg (by omega)];rfl
theorem mem_gapsOf {xs:List Pat} {n:Int} {good:Bool} {x:Pat} {g:Nat}:g∈z4_ xs n good x↔1<=g/\g+1<=x.1.length/\(zo_ (vals xs x.1) (g - 1) != odd1 n)=true/\((decide ((g:Int)∈x.2) == odd1 n) == good)=true:=by
 unfold z4_
 rw[pu_]
 constructor
 ·rintro⟨j,hj,rfl⟩
  obtain⟨h1,h2⟩:=qd_.mp hj
  have h3:=ro_.mp h1
  rw[p2_] at h2
  exact⟨by omega,by omega,h2.1,by push_cast;exact h2.2⟩
 ·rintro⟨h1,h2,h3,h4⟩
  refine⟨g - 1,qd_.mpr ⟨ro_.mpr (by omega),?_⟩,by omega⟩
  rw[p2_]
  refine⟨h3,?_⟩
  rw[show ((g - 1:Nat):Int)+1=(g:Int) by omega]
  exact h4
theorem cS_E (xs:List Pat) (n:Int) (L:Nat) (x:Pat) (s:List Nat) (p:Nat) (good:Bool) (b q:Nat):cS (zk_ xs n L x b q) s p good=if (decide (q=p)&&decide (((frame x.1).drop b).take L=s/\1<=b+p/\b+p - 1∈z4_ xs n good x))=true then 1 else 0:=by
 unfold zk_ cS
 by_cases hq:q=p
 ·subst hq
  simp only[decide_true,wy_,decide_eq_true_eq]
  by_cases hc:2<=b+q/\b+q<=x.1.length/\(zo_ (vals xs x.1) (b+q - 2) != odd1 n)=true
  ·rw[if_pos hc]
   obtain⟨h1,h2,h3⟩:=hc
   by_cases hs:((frame x.1).drop b).take L=s/\(decide (((b+q - 1:Nat):Int)∈x.2) == odd1 n)=good
   ·rw[if_pos ⟨hs.1,by omega,mem_gapsOf.mpr ⟨by omega,by omega,by rw[show b+q - 1 - 1=b+q - 2 by omega];exact h3,by rw[hs.2];simp⟩⟩]
    rw[qr_,if_pos (by rw[hs.1,hs.2];simp)];rfl
   ·rw[if_neg (fun z=>hs ⟨z.1,by have:=(mem_gapsOf.mp z.2.2).2.2.2;simpa using this⟩)]
    rw[qr_,if_neg (fun z=>hs (by have:=of_decide_eq_true z;injection this with a b';injection b' with c d;exact⟨a,d⟩))];rfl
  ·rw[if_neg hc,if_neg]
   ·rfl
   ·rintro⟨_,_,h3⟩
    obtain⟨g1,g2,g3,_⟩:=mem_gapsOf.mp h3
    exact hc ⟨by omega,by omega,by rw[show b+q - 2=b+q - 1 - 1 by omega];exact g3⟩
 ·have e0:(decide (q=p)&&decide (((frame x.1).drop b).take L=s/\1<=b+p/\b+p - 1∈z4_ xs n good x))=false:=by rw[decide_eq_false hq];rfl
  rw[e0,if_neg (show ¬ (false=true) by decide)]
  split
  ·rw[qr_,if_neg (fun z=>hq (by have:=of_decide_eq_true z;injection this with a b';injection b'))];rfl
  ·rfl
theorem jkv_ (xs:List Pat) (n:Int) {L p:Nat} (s:List Nat) (good:Bool) (hp:p<=L) (ws:List Pat):cS (zp_ xs n L ws) s p good=(ws.map fun x=>begN (frame x.1) s L p (z4_ xs n good x)).sum:=by
 unfold zp_
 rw[uu_]
 congr 1
 refine qp_ fun x _=>?_
 unfold ub_ begN
 rw[uu_,<- jia_]
 congr 1
 refine qp_ fun b _=>?_
 unfold yo_
 rw[uu_]
 have e:((pt_ (L+1)).map fun q=>cS (zk_ xs n L x b q) s p good)=(pt_ (L+1)).map fun q=>if (decide (q=p)&&decide (((frame x.1).drop b).take L=s/\1<=b+p/\b+p - 1∈z4_ xs n good x))=true then 1 else 0:=qp_ fun q _=>cS_E ..
 rw[e,up_]
 have:decide (p < L+1)=true:=decide_eq_true (by omega)
 rw[this,wy_]
theorem uz_ (xs ws:List Pat) {n:Int} {L p:Nat} {s:List Nat} (good:Bool) (hn:n≠0) (hp:p<=L):cS (zp_ xs n L ws) s p good=cnt (occs n L good (jz_ xs ws)) (pk (s,one n p L)):=by
 rw[jkv_ xs n s good hp,jlz_ xs good hn hp ws]
theorem jix_ {xs ws:List Pat} {n:Int} {L:Nat} {e:Spot} (h:e∈zp_ xs n L ws):e.1.length=L/\e.2.1<=L:=by
 unfold zp_ ub_ yo_ at h
 obtain⟨x,_,h⟩:=qw_.mp h
 obtain⟨b,hb,h⟩:=qw_.mp h
 obtain⟨p,hp,h⟩:=qw_.mp h
 unfold zk_ at h
 split at h
 ·rw[rk_.mp h]
  have h1:=ro_.mp hb
  have h2:=ro_.mp hp
  refine⟨?_,by dsimp only;omega⟩
  simp only[pq_,p9_];omega
 ·cases h
theorem jdf_ (xs ws:List Pat) {n:Int} {L:Nat} {c:Option Int} (hn:n≠0) (x:Pat) :
  (∃(s:List Nat) (p:Nat),p<=L/\0 < cS (zp_ xs n L ws) s p true/\yl_ (cS (zp_ xs n L ws) s p true:Int) (cS (zp_ xs n L ws) s p false:Int) c=true/\x=(s,one n p L))↔x∈occs n L true (jz_ xs ws)/\yl_ (cnt (occs n L true (jz_ xs ws)) (pk x):Int) (cnt (occs n L false (jz_ xs ws)) (pk x):Int) c=true:=by
 constructor
 ·rintro⟨s,p,hp,h0,hw,rfl⟩
  rw[uz_ xs ws true hn hp] at h0 hw
  rw[uz_ xs ws false hn hp] at hw
  obtain⟨y,hy,e⟩:=cnt_pos.mp (t7_.mp h0)
  exact⟨x8_ e▸hy,hw⟩
 ·rintro⟨hx,hw⟩
  have hx0:=hx
  rw[yy_] at hx
  obtain⟨y,hy,hx⟩:=qw_.mp hx
  obtain⟨g,_,hx⟩:=qw_.mp hx
  obtain⟨b,p,hp,hb,_,rfl⟩:=v6_ hx
  refine⟨((frame y.1).drop b).take L,p,hp,?_,?_,rfl⟩
  ·rw[uz_ xs ws true hn hp]
   exact t7_.mpr (cnt_pos.mpr ⟨_,hx0,rfl⟩)
  ·rw[uz_ xs ws true hn hp,uz_ xs ws false hn hp];exact hw
abbrev s_law_counts:Stmt:=top 21
theorem sc_law_counts:FnScope ["_law_words_here","_law_patterns","_law_number","_law_length","_law_counts_here","_law_word","_law_gaps","_law_found","_law_text","_law_begin","_law_place","_law_gap","_law_spot","_law_good","_law_bad","_law_fine"] ["_law_words_here","_law_patterns","_law_number","_law_length"] (jm_ s_law_counts):=by walk_at "f"
def vk (s:List Nat) (p:Nat):List (Option Key):=[some (.inr (S s)),some (.inl (p:Int))]
theorem v2_ {s s':List Nat} {p p':Nat} (h:vk s p=vk s' p'):s=s'/\p=p':=by
 unfold vk at h
 injection h with h1 h2
 injection h1 with h1
 injection h1 with h1
 injection h2 with h2 _
 injection h2 with h2
 injection h2 with h2
 exact⟨jlr_ h1,by omega⟩
abbrev VKey:=List (Option Key)
structure CE (H:Hp) (kvs:List (VKey×Addr×V)) (l:List Spot):Prop where
 ko:KO jp_ H kvs
 nd:(kvs.map (·.1)).Nodup
 mem:∀ k∈kvs.map (·.1),∃ e∈l,k=vk e.1 e.2.1
 non:∀ s p,cS l s p true+cS l s p false=0->valX kvs (vk s p)=none
 val:∀ s p,cS l s p true+cS l s p false≠0->∃ t,valX kvs (vk s p)=some (.ref t)/\H t=some (.tup [.int (cS l s p true:Int),.int (cS l s p false:Int)])
 len:kvs.length<=l.length
theorem CE.nil {H:Hp}:CE H [] []:=⟨fun e he=>(nomatch he),by simp,fun k hk=>(nomatch hk),fun _ _ _=>rfl,fun s p h=>absurd rfl h,pk_ _⟩
theorem CE.tk {H H':Hp} {kvs:List (VKey×Addr×V)} {l:List Spot} (h:CE H kvs l) (s:∀ b xs,H b=some (.tup xs)->H' b=some (.tup xs)):CE H' kvs l :=
 ⟨fun e he=>s _ _ (h.ko e he),h.nd,h.mem,h.non,fun a p q=>by obtain⟨t,h1,h2⟩:=h.val a p q;exact⟨t,h1,s _ _ h2⟩,h.len⟩
theorem vd_ (l:List Spot) (e:Spot) (s:List Nat) (p:Nat) (g:Bool):cS (l++[e]) s p g=cS l s p g+if e=(s,p,g) then 1 else 0:=by
 unfold cS
 rw[qt_,pd_]
 congr 1
 by_cases h:e=(s,p,g)
 ·simp[h]
 ·simp[h]
theorem CE.add {H H':Hp} {kvs:List (VKey×Addr×V)} {l:List Spot} (h:CE H kvs l) (tk:∀ b xs,H b=some (.tup xs)->H' b=some (.tup xs)) {s:List Nat} {p:Nat} {g:Bool} {b t:Addr} (hb:H' b=some (.tup [.str (S s),.int (p:Int)])) (ht:H' t=some (.tup [.int (cS (l++[(s,p,g)]) s p true:Int),.int (cS (l++[(s,p,g)]) s p false:Int)])):CE H' (putX kvs (vk s p) b (.ref t)) (l++[(s,p,g)]):=by
 have h1:=h.tk tk
 refine⟨h1.ko.put hb,jfj_ h.nd,fun k hk=>?_,fun s' p' q=>?_,fun s' p' q=>?_,?_⟩
 ·rcases mem_keys_putX.mp hk with rfl | hk
  ·exact⟨(s,p,g),by simp,rfl⟩
  ·obtain⟨e,he,q⟩:=h.mem k hk
   exact⟨e,qq_ _ he,q⟩
 ·rw[jaa_]
  rw[vd_,vd_] at q
  have hne:vk s' p'≠vk s p:=fun z=>by
   obtain⟨rfl,rfl⟩:=v2_ z
   cases g <;> simp at q
  rw[if_neg hne]
  exact h.non s' p' (by omega)
 ·rw[jaa_]
  by_cases hk:vk s' p'=vk s p
  ·obtain⟨rfl,rfl⟩:=v2_ hk
   rw[if_pos rfl]
   exact⟨t,rfl,ht⟩
  ·rw[if_neg hk]
   have e0:∀ g',cS (l++[(s,p,g)]) s' p' g'=cS l s' p' g':=fun g'=>by
    rw[vd_,if_neg (fun z=>hk (by injection z with z1 z2;injection z2 with z2 _;rw[z1,z2]))];rfl
   rw[e0,e0] at q ⊢
   exact h1.val s' p' q
 ·have:=xn_ kvs (vk s p) b (.ref t)
  have:=h.len
  rw[pd_,tt_];omega
theorem jce_ (xs:List Pat) (n:Int) (L:Nat) (x:Pat) (b p:Nat):(zk_ xs n L x b p).length<=1:=by
 unfold zk_
 split <;> simp
theorem y2_ {α β:Type} (f:α->List β) (m:Nat) (h:∀ a,(f a).length<=m):∀ l:List α,(l.flatMap f).length<=l.length * m
 | []=>by simp
 | a::l=>by
  have ih:=y2_ f m h l
  have:=h a
  rw[ql_,pd_,p3_,rp_];omega
theorem vy_ (xs:List Pat) (n:Int) (L:Nat) (x:Pat) (b:Nat):(yo_ xs n L x b).length<=L+1:=by
 have:=y2_ (zk_ xs n L x b) 1 (jce_ xs n L x b) (pt_ (L+1))
 rw[qk_] at this
 unfold yo_;omega
def CEs (P:Program) (w:World) (H1 H:Hp) (d:Addr) (l:List Spot):Prop:=∃ kvs:List (VKey×Addr×V),H d=some (DX jp_ P w d kvs)/\CE H kvs l/\∀ b o,b≠d->H1 b=some o->H b=some o
theorem CEs.same {P:Program} {w:World} {H1 H H':Hp} {d:Addr} {l:List Spot} (h:CEs P w H1 H d l) (s:Same H H'):CEs P w H1 H' d l:=by
 obtain⟨kvs,h1,h2,h3⟩:=h
 exact⟨kvs,s _ _ h1,h2.tk fun b xs e=>s _ _ e,fun b o a e=>s _ _ (h3 b o a e)⟩
theorem xk_ {P:Program} {w:World} {H:Hp} {d b:Addr} {kvs:List (VKey×Addr×V)} {xs:List V} (h1:H d=some (DX jp_ P w d kvs)) (h2:H b=some (.tup xs)):b≠d:=fun z=>by rw[z,h1] at h2;cases h2
theorem jgd_ {xs:List Pat} {n:Int} {L:Nat} {x:Pat} {b p:Nat}:(pt_ (p+1)).flatMap (zk_ xs n L x b)=(pt_ p).flatMap (zk_ xs n L x b)++zk_ xs n L x b p:=by
 rw[q2_,rt_];simp
theorem CE.get {H:Hp} {kvs:List (VKey×Addr×V)} {l:List Spot} (h:CE H kvs l) (s:List Nat) (p:Nat) {z:Addr} (hz:H z=some (.tup [.int 0,.int 0])):∃ t,(valX kvs (vk s p)).getD (.ref z)=.ref t/\H t=some (.tup [.int (cS l s p true:Int),.int (cS l s p false:Int)]):=by
 by_cases q:cS l s p true+cS l s p false=0
 ·rw[h.non s p q]
  refine⟨z,rfl,?_⟩
  rw[show cS l s p true=0 by omega,show cS l s p false=0 by omega];exact hz
 ·obtain⟨t,h1,h2⟩:=h.val s p q
  rw[h1]
  exact⟨t,rfl,h2⟩
theorem jss_ (l:List Spot) (s:List Nat) (p:Nat) (g:Bool):((cS (l++[(s,p,g)]) s p true:Nat):Int)=(cS l s p true:Int)+(if g=true then 1 else 0)/\((cS (l++[(s,p,g)]) s p false:Nat):Int)=(cS l s p false:Int)+1 - (if g=true then 1 else 0):=by
 rw[vd_,vd_]
 cases g <;> simp <;> omega
def spLC (P:Program) (w:World):Sp:=fun vs H Q _=>∃(v u:V) (ws xs:List Pat) (n:Int) (L:Nat),vs=[v,u,.int n,.int (L:Int)]/\Is H v (zj_ ws)/\Is H u (zj_ xs)/\(∀ x∈xs,1<=x.1.length/\x.1.length<=1000/\x.2.length<=x.1.length+1)/\xs.length<=9000/\(∀ x∈ws,1<=x.1.length/\x.1.length<=20)/\ws.length<=10/\-1000<=n/\n<=1000/\L<=20 /\
 ∀(d:Addr) (kvs:List (VKey×Addr×V)) (H':Hp),H d=none->H' d=some (DX jp_ P w d kvs)->CE H' kvs (zp_ xs n L ws)->Same H H'->Q (.ref d) H'
section
variable {P:Program} {w:World} {K:pc_} {mg:Str->Option Value} {base:Heap} {f:Addr} {fd:FuncData} {tk:Nat->Tok}
theorem jat_ (T:Txt mg tk) (F:Fun K "_law_counts" "_law_counts" s_law_counts f fd) (D_law_values:Dn P w K mg base "_law_values" 1 ["_law_patterns","_law_word"] yv_):FnOk P w K mg base CX0 2 f fd ["_law_words_here","_law_patterns","_law_number","_law_length"] (spLC P w):=by
 refine F.ok sc_law_counts (fun vs H Q E h=>?_) (fun cdv A outer s H vs Q E hr h=>?_)
 ·obtain⟨v,u,ws,xs,n,L,rfl,_⟩:=h
  rfl
 obtain⟨v,u,ws,xs,n,L,rfl,hv,hu,hxs,hxl,hws,hwl,hn0,hn1,hL,q⟩:=h
 have nd:=sc_law_counts.nd
 refine⟨_,(jf_ (jl_ (i:=4) nd rfl (Or.inl rfl) (jgf_ (N:=jp_) (P:=P) (w:=w) rfl rfl))
  (jf_ (zd_ p4_ rfl (ys_ (K:=K) (pv 0)) (yg_ rfl (jr_ (jk_ (i:=5) nd rfl (Or.inl rfl)) (jr_ (jk_ (i:=6) nd rfl (Or.inl rfl)) zu_)))
   (jf_ (jl_ (i:=7) nd rfl (Or.inl rfl) (ju_ D_law_values hr.mo_ rfl (ja_ (pv 1) (ja_ (pv 5) je_))))
  (jf_ (jl_ (i:=8) nd rfl (Or.inl rfl) (ji_ jo_ (ji_ jo_ yr_ (pv 5)) yr_))
  (jj_ (zd_ p4_ rfl (zb_ rfl T.z_range (ja_ (ji_ jo_ (ji_ xz_ (jq_ (z0_ (K:=K)) rfl T.z_len (by decide +kernel) (ja_ (pv 8) je_)) (pv 3)) jc_) je_)) (jk_ (i:=9) nd rfl (Or.inl rfl))
   (jj_ (zd_ p4_ rfl (zb_ rfl T.z_range (ja_ (ji_ jo_ (pv 3) jc_) je_)) (jk_ (i:=10) nd rfl (Or.inl rfl))
   (jf_ (jl_ (i:=11) nd rfl (Or.inl rfl) (ji_ xz_ (ji_ jo_ (pv 9) (pv 10)) jc_))
  (jj_ (x0_ (PW.pt (jml_ (jmi_ o_lt o_lt jc_ (pv 11) (jq_ (z0_ (K:=K)) rfl T.z_len (by decide +kernel) (ja_ (pv 5) je_))) (jid_ (zi_ (o_eq hr.units) (ji_ xm_ (ji_ jo_ (jv_ (jn_ (K:=K)) (pv 7) (ji_ xz_ (pv 11) jc_) (fun _ _=>rfl)) (pv 2)) jc_) jc_ (j3_ _)))))
   (jf_ (jl_ (i:=12) nd rfl (Or.inl rfl) (ye_ (ja_ (ya_ (x1_ (K:=K)) (pv 8) (zn_ (pv 9)) (zn_ (ji_ jo_ (pv 9) (pv 3)))) (ja_ (pv 10) je_))))
  (jf_ (jcq_ (jda_ (N:=jp_) (P:=P) (w:=w) rfl rfl (x2_ hr) (pv 4) (pv 12) (ye_ (ja_ jc_ (ja_ jc_ je_))) ⟨rfl,rfl,rfl,rfl⟩) (yg_ rfl (jr_ (jk_ (i:=13) nd rfl (Or.inl rfl)) (jr_ (jk_ (i:=14) nd rfl (Or.inl rfl)) zu_))))
  (jf_ (jl_ (i:=15) nd rfl (Or.inl rfl) (j9_ jbl_ rfl T.z_int (by decide +kernel) (ja_ (zh_ (o_eq hr.units) (zh_ o_in (pv 11) (pv 6) (by with_unfolding_all rfl)) (zh_ (o_eq hr.units) (ji_ xm_ (pv 2) jc_) jc_ (j3_ _)) (j3_ _)) je_)))
  (jj_ (jll_ (N:=jp_) (P:=P) (w:=w) rfl rfl (x2_ hr) (pv 4) (pv 12) (ye_ (ja_ (ji_ jo_ (pv 13) (pv 15)) (ja_ (ji_ xz_ (ji_ jo_ (pv 14) jc_) (pv 15)) je_))) rfl)))))
   z6_))))))))))
  (jj_ (j8_ (pv 4))))),?_⟩
 rw[show L2.ze_ ["_law_words_here","_law_patterns","_law_number","_law_length","_law_counts_here","_law_word","_law_gaps","_law_found","_law_text","_law_begin","_law_place","_law_gap","_law_spot","_law_good","_law_bad","_law_fine"] [v,u,.int n,.int (L:Int)]=[some (v),some (u),some (.int n),some (.int (L:Int)),none,none,none,none,none,none,none,none,none,none,none,none] from rfl]
 walk_at "go"
 refine jgl_ fun d hd=>?_
 have s1:=jd_ hd (DX jp_ P w d [])
 have ed:=jb_ (H:=H) (a:=d) (o:=DX jp_ P w d [])
 generalize upd H d (DX jp_ P w d [])=H1 at s1 ed ⊢
 simp only[Is,zj_] at hv
 obtain⟨wa,ys,rfl,hwa,hys⟩:=hv
 have hyl:=hys.length
 rw[pb_] at hyl
 have ewa:=s1 _ _ hwa
 walk_at "go"
 try refine u1_ (SqL.of ewa) ?_
 have wad:wa≠d:=jh_ hwa hd
 have kept:∀{H':Hp} {l:List Spot},CEs P w H1 H' d l->Same H H':=fun⟨kvs,h1,h2,h3⟩ b o e=>h3 b o (jh_ e hd) (s1 _ _ e)
 refine zz_ (K:=K) (xs:=ys) (fun i σ H'=>∃(v5 v6 v7 v8 v9 v10 v11 v12 v13 v14 v15:Option V),σ=[some (.ref wa),some u,some (.int n),some (.int (L:Int)),some (.ref d),v5,v6,v7,v8,v9,v10,v11,v12,v13,v14,v15]/\CEs P w H1 H' d (zp_ xs n L (ws.take i)))
  ⟨none,none,none,none,none,none,none,none,none,none,none,rfl,[],ed,CE.nil,fun _ _ _ e=>e⟩ (fun i σ H' _ ⟨_,_,_,_,_,_,_,_,_,_,_,_,c⟩=>SqL.of (kept c _ _ hwa)) ?_ ?_
 ·rintro i y σ Ha hy ⟨v5,v6,v7,v8,v9,v10,v11,v12,v13,v14,v15,rfl,ca⟩
  have sa:=kept ca
  have hi:i < ws.length:=by have:=(ph_.mp hy).1;omega
  obtain⟨y',dd,hy',hd1,hI⟩:=IsL.get (IsL.same sa hys) (show i < (ws.map patD).length by simpa using hi)
  rw[hy] at hy'
  cases hy'
  rw[pl_,pa_ hi] at hd1
  cases hd1
  obtain⟨a2,t2,rfl,ea2,et2⟩:=jbr_ hI
  obtain⟨hx1,hx2⟩:=hws _ (qf_ hi)
  have htk:zp_ xs n L (ws.take (i+1))=zp_ xs n L (ws.take i)++ub_ xs n L ws[i]:=by unfold zp_;rw[qx_,pa_ hi,rt_];simp
  rw[htk]
  have hl0:(zp_ xs n L (ws.take i)).length<=10 * 483:=by
   have h2:∀(l:List Pat),(∀ x∈l,x.1.length<=20)->(zp_ xs n L l).length<=l.length * 483:=fun l=>by
    induction l with
    | nil=>intro _;simp[zp_]
    | cons x l ih =>
     intro h
     have ih:=ih fun y hy=>h y (pm_ _ hy)
     have hx:=h x po_
     have h3:=y2_ (yo_ xs n L x) (L+1) (vy_ xs n L x) (pt_ ((frame x.1).length+1 - L))
     rw[qk_,j0_] at h3
     have h4:(x.1.length+2+1 - L) * (L+1)<=23 * 21:=tr_ (by omega) (by omega)
     have h6:(ub_ xs n L x).length<=483:=by unfold ub_;rw[j0_];omega
     unfold zp_ at ih ⊢
     rw[ql_,pd_,p3_,rp_]
     omega
   have h5:=h2 (ws.take i) fun x hx=>(hws x (pz_ hx)).2
   rw[pq_] at h5
   omega
  generalize zp_ xs n L (ws.take i)=l0 at ca hl0 ⊢
  clear htk
  generalize ws[i]=x at *
  refine yd_ ea2 rfl (jy_ (j4_ (jy_ (j4_ (yf_ ?_)))))
  walk_at "go"
  refine⟨u,xs,x.1,rfl,Is.same sa hu,hxs,hxl,hx1,by omega,fun rv Hb hrv erv sb=>?_⟩
  have cb:=ca.same sb
  have hvl:(vals xs x.1).length=x.1.length - 1:=xl_ xs x.1
  have et2b:=sb _ _ et2
  walk_at "go"
  rw[jgy_]
  have hfl:=j0_ x.1
  walk_at "go"
  rw[ve_]
  walk_at "go"
  have rvd:rv≠d:=fun z=>by
   obtain⟨kvs,h1,_⟩:=ca
   rw[z,h1] at hrv;cases hrv
  refine za_ (fun b σ H'=>∃(v9 v10 v11 v12 v13 v14 v15:Option V),σ=[some (.ref wa),some u,some (.int n),some (.int (L:Int)),some (.ref d),some (.str (S x.1)),some (.ref t2),some (.ref rv),some (.str (S (frame x.1))),v9,v10,v11,v12,v13,v14,v15]/\CEs P w H1 H' d (l0++(pt_ b).flatMap (yo_ xs n L x))/\∀ c o,c≠d->Hb c=some o->H' c=some o)
   ⟨v9,v10,v11,v12,v13,v14,v15,rfl,by simpa using cb,fun _ _ _ e=>e⟩ ?_ ?_
  ·rintro b σ Hc hb ⟨v9,v10,v11,v12,v13,v14,v15,rfl,cc,kc⟩
   have hb:b+L<=(frame x.1).length:=by omega
   have h0:(0:Int)+(b:Int)=(b:Int):=by omega
   have htk:l0++(pt_ (b+1)).flatMap (yo_ xs n L x)=l0++(pt_ b).flatMap (yo_ xs n L x)++yo_ xs n L x b:=by rw[q2_,rt_,<- pp_];simp
   rw[htk]
   have hl1:(l0++(pt_ b).flatMap (yo_ xs n L x)).length<=5400:=by
    have h3:=y2_ (yo_ xs n L x) (L+1) (vy_ xs n L x) (pt_ b)
    rw[qk_] at h3
    have h4:b * (L+1)<=23 * 21:=tr_ (by omega) (by omega)
    rw[pd_];omega
   generalize l0++(pt_ b).flatMap (yo_ xs n L x)=l1 at cc hl1 ⊢
   have hcut:cutA (frame x.1) (some (b:Int)) (some ((b:Int)+(L:Int)))=((frame x.1).drop b).take L:=by
    rw[show (b:Int)+(L:Int)=((b+L:Nat):Int) by omega,jbs_ (frame x.1) b (b+L) hb (by omega)]
    congr 1
    omega
   walk_at "go"
   rw[h0]
   refine za_ (fun p σ H'=>∃(v10 v11 v12 v13 v14 v15:Option V),σ=[some (.ref wa),some u,some (.int n),some (.int (L:Int)),some (.ref d),some (.str (S x.1)),some (.ref t2),some (.ref rv),some (.str (S (frame x.1))),some (.int (b:Int)),v10,v11,v12,v13,v14,v15]/\CEs P w H1 H' d (l1++(pt_ p).flatMap (zk_ xs n L x b))/\∀ c o,c≠d->Hb c=some o->H' c=some o)
    ⟨v10,v11,v12,v13,v14,v15,rfl,by simpa using cc,kc⟩ ?_ ?_
   ·rintro p σ Hd hp ⟨v10,v11,v12,v13,v14,v15,rfl,cd,kd⟩
    have hp:p<=L:=by omega
    have h0p:(0:Int)+(p:Int)=(p:Int):=by omega
    rw[jgd_,<- pp_]
    have hl2:(l1++(pt_ p).flatMap (zk_ xs n L x b)).length<=5500:=by
     have h3:=y2_ (zk_ xs n L x b) 1 (jce_ xs n L x b) (pt_ p)
     rw[qk_] at h3
     rw[pd_];omega
    generalize l1++(pt_ p).flatMap (zk_ xs n L x b)=l2 at cd hl2 ⊢
    have ervd:=kd _ _ rvd erv
    walk_at "go"
    rw[h0p]
    by_cases hg2:2<=b+p
    ·refine u2_ (decide_eq_true (by omega)) ?_
     walk_at "go"
     by_cases hg3:b+p<=x.1.length
     ·have hd1:decide ((b:Int)+(p:Int) - 1 < (x.1.length:Int))=true:=decide_eq_true (by omega)
      try rw[hd1]
      try refine⟨true,rfl,?_⟩
      walk_at "go"
      have hj2:b+p - 2 < (vals xs x.1).length:=by omega
      have hpar:decide (V.int (((vals xs x.1)[b+p - 2]+n) % 2)=V.int 1)=(zo_ (vals xs x.1) (b+p - 2) != odd1 n):=by
       unfold zo_ odd1
       rw[pw_,pa_ hj2]
       simp only[sj_,V.int.injEq]
       generalize (vals xs x.1)[b+p - 2]=a
       by_cases h1:a % 2=1 <;> by_cases h2:n % 2=1 <;> simp[h1,h2] <;> omega
      refine yu_ (v:=.int (vals xs x.1)[b+p - 2]) (j6_ ervd) (z2_ (by omega) (by rw[show ((b:Int)+(p:Int) - 1 - 1).toNat=b+p - 2 by omega,pl_,pa_ hj2];rfl)) ?_
      walk_at "go"
      rw[hpar]
      cases hc:(zo_ (vals xs x.1) (b+p - 2) != odd1 n) with
      | false =>
       try refine⟨false,rfl,?_⟩
       try refine jbh_ rfl ?_
       walk_at "go"
       have he:zk_ xs n L x b p=[]:=by unfold zk_;rw[if_neg (fun z=>by rw[z.2.2] at hc;cases hc)]
       rw[he,p8_]
       exact⟨_,_,_,_,_,_,rfl,cd,kd⟩
      | true =>
       have he:zk_ xs n L x b p=[(((frame x.1).drop b).take L,p,decide (((b+p - 1:Nat):Int)∈x.2) == odd1 n)]:=by unfold zk_;rw[if_pos ⟨hg2,hg3,hc⟩]
       rw[he]
       clear he hpar
       try refine⟨true,rfl,?_⟩
       try refine u2_ rfl ?_
       walk_at "go"
       rw[hcut]
       have hsl:(((frame x.1).drop b).take L).length<=30:=by rw[pq_,p9_];omega
       generalize ((frame x.1).drop b).take L=sg at hsl ⊢
       walk_at "go"
       intro sp hsp
       have ssp:=jd_ hsp (.tup [.str (S sg),.int (p:Int)])
       have esp:=jb_ (H:=Hd) (a:=sp) (o:=.tup [.str (S sg),.int (p:Int)])
       have cd1:=cd.same ssp
       generalize upd Hd sp (.tup [.str (S sg),.int (p:Int)])=He at ssp esp cd1 ⊢
       obtain⟨kvs,e1,e2,e3⟩:=cd1
       walk_at "go"
       refine ux_ ?_
       walk_at "go"
       refine⟨d,rfl,⟨kvs,.inl e1,e2.ko⟩,?_⟩
       walk_at "go"
       intro z hz
       have sz:=jd_ hz (.tup [.int 0,.int 0])
       have ez:=jb_ (H:=He) (a:=z) (o:=.tup [.int 0,.int 0])
       generalize upd He z (.tup [.int 0,.int 0])=Hf at sz ez ⊢
       have e1f:=sz _ _ e1
       have e2f:=e2.tk fun b xs e=>sz _ _ e
       have espf:=sz _ _ esp
       obtain⟨t,ht1,ht2⟩:=e2f.get sg p ez
       refine⟨valX kvs (vk sg p),⟨kvs,vk sg p,sp,.inl e1f,e2f.ko,rfl,espf,rfl⟩,?_⟩
       rw[ht1]
       refine yd_ ht2 rfl (jy_ (j4_ (jy_ (j4_ (yf_ ?_)))))
       have et2f:=sz _ _ (ssp _ _ (kd _ _ (xk_ (cb.choose_spec.1) et2b) et2b))
       have hb1:inV (.int ((b:Int)+(p:Int) - 1)) (x.2.map V.int)=decide (((b+p - 1:Nat):Int)∈x.2):=by rw[u7_,show (b:Int)+(p:Int) - 1=((b+p - 1:Nat):Int) by omega]
       walk_at "go"
       refine jhx_ (yw_ et2f) ⟨rfl,v4_ _⟩ ?_
       rw[if_neg pf_,hb1]
       walk_at "go"
       have hodd:decide (V.int (n % 2)=V.int 1)=odd1 n:=by unfold odd1;simp
       have hcc:∀ g:Bool,decide (V.bl g=V.bl (odd1 n))=(g == odd1 n):=fun g=>by cases g <;> cases odd1 n <;> rfl
       rw[hodd,hcc]
       generalize hgg:(decide (((b+p - 1:Nat):Int)∈x.2) == odd1 n)=gg
       have hst:=jss_ l2 sg p gg
       refine jfu_ ?_
       walk_at "go"
       intro t3 ht3
       have st3:=jd_ ht3 (.tup [.int ((cS l2 sg p true:Int)+if gg=true then 1 else 0),.int ((cS l2 sg p false:Int)+1 - if gg=true then 1 else 0)])
       have et3:=jb_ (H:=Hf) (a:=t3) (o:=.tup [.int ((cS l2 sg p true:Int)+if gg=true then 1 else 0),.int ((cS l2 sg p false:Int)+1 - if gg=true then 1 else 0)])
       rw[<- hst.1,<- hst.2] at st3 et3 ⊢
       generalize upd Hf t3 (.tup [.int ((cS (l2++[(sg,p,gg)]) sg p true:Nat):Int),.int ((cS (l2++[(sg,p,gg)]) sg p false:Nat):Int)])=Hg at st3 et3 ⊢
       have e1g:=st3 _ _ e1f
       have espg:=st3 _ _ espf
       have e2g:=e2f.tk fun b xs e=>st3 _ _ e
       have hkl:=e2.len
       have tkg:∀ c zs,Hg c=some (.tup zs)->(upd Hg d (DX jp_ P w d (putX kvs (vk sg p) sp (.ref t3)))) c=some (.tup zs):=fun c zs e=>by rw[jg_ (xk_ e1g e)];exact e
       walk_at "go"
       refine⟨d,_,rfl,⟨kvs,vk sg p,sp,e1g,e2g.ko,rfl,espg,szn (by omega),rfl⟩,?_⟩
       refine⟨_,_,_,_,_,_,rfl,⟨_,jb_,e2g.add tkg (tkg _ _ espg) (tkg _ _ et3),fun c o a e=>?_⟩,fun c o a e=>?_⟩
       ·rw[jg_ a];exact st3 _ _ (sz _ _ (e3 c o a e))
       ·rw[jg_ a];exact st3 _ _ (sz _ _ (ssp _ _ (kd c o a e)))
     ·have hd1:decide ((b:Int)+(p:Int) - 1 < (x.1.length:Int))=false:=decide_eq_false (by omega)
      try rw[hd1]
      try refine⟨false,rfl,?_⟩
      walk_at "go"
      have he:zk_ xs n L x b p=[]:=by unfold zk_;rw[if_neg (fun z=>hg3 z.2.1)]
      rw[he,p8_]
      exact⟨_,_,_,_,_,_,rfl,cd,kd⟩
    ·refine jbh_ (decide_eq_false (by omega)) ?_
     walk_at "go"
     have he:zk_ xs n L x b p=[]:=by unfold zk_;rw[if_neg (fun z=>hg2 z.1)]
     rw[he,p8_]
     exact⟨_,_,_,_,_,_,rfl,cd,kd⟩
   ·rintro σ Hd ⟨v10,v11,v12,v13,v14,v15,rfl,cd,kd⟩
    rw[show ((L:Int)+1).toNat=L+1 by omega] at cd
    exact⟨_,_,_,_,_,_,_,rfl,cd,kd⟩
  ·rintro σ Hc ⟨v9,v10,v11,v12,v13,v14,v15,rfl,cc,kc⟩
   rw[show (((frame x.1).length:Int) - (L:Int)+1).toNat=(frame x.1).length+1 - L by omega] at cc
   exact⟨_,_,_,_,_,_,_,_,_,_,_,rfl,cc⟩
 ·rintro σ Ha ⟨v5,v6,v7,v8,v9,v10,v11,v12,v13,v14,v15,rfl,ca⟩
  rw[hyl,qa_] at ca
  have sa:=kept ca
  obtain⟨kvs,h1,h2,h3⟩:=ca
  walk_at "go"
  exact q d kvs Ha hd h1 h2 sa
end
abbrev s_level:Stmt:=top 13
theorem sc_level:FnScope ["words","patterns","number","most","cost","learnt","length"] ["words","patterns","number","most","cost"] (jm_ s_level):=by walk_at "f"
def xx_:Sp:=fun vs H Q _=>∃(v u:V) (ws xs:List Pat) (n:Int) (m:Nat) (c:Option Int),vs=[v,u,.int n,.int (m:Int),cV c]/\Is H v (zj_ ws)/\Is H u (zj_ xs)/\(∀ x∈xs,1<=x.1.length/\x.1.length<=1000/\x.2.length<=x.1.length+1)/\xs.length+gN ws * 81<=9000/\(∀ x∈ws,1<=x.1.length/\x.1.length<=7)/\ws.length<=10/\n≠0/\-1000<=n/\n<=1000/\m<=20/\(∀ k,c=some k->0<=k/\k<=1000000) /\
 ∀(r:Addr) (zs:List V) (ps:List Pat) (H':Hp),H r=none->H' r=some (.lst zs)->L2.IsL H' zs (ps.map patD)->LV ws xs n c m ps->Same H H'->Q (.ref r) H'
section
variable {P:Program} {w:World} {K:pc_} {mg:Str->Option Value} {base:Heap} {f:Addr} {fd:FuncData} {tk:Nat->Tok}
theorem jme_ (T:Txt mg tk) (F:Fun K "level" "level" s_level f fd) (D_learnt_at:Dn P w K mg base "learnt_at" 6 ["words","patterns","number","length","cost"] spLA):FnOk P w K mg base CX0 7 f fd ["words","patterns","number","most","cost"] xx_:=by
 refine F.ok sc_level (fun vs H Q E h=>?_) (fun cdv A outer s H vs Q E hr h=>?_)
 ·obtain⟨v,u,ws,xs,n,m,c,rfl,_⟩:=h
  rfl
 obtain⟨v,u,ws,xs,n,m,c,rfl,hv,hu,hxs,hxl,hws,hwl,hnz,hn0,hn1,hm,hc,q⟩:=h
 have nd:=sc_level.nd
 obtain⟨ua,ya,rfl,hua,hya⟩:=u3_ hu
 have hyl:=hya.length
 rw[pb_] at hyl
 refine⟨_,(jf_ (jl_ (i:=5) nd rfl (Or.inl rfl) (j1_ je_))
  (jf_ (zd_ p4_ rfl (yx_ rfl T.z_range (ja_ jc_ (ja_ (ji_ jo_ (pv 3) jc_) je_))) (jk_ (i:=6) nd rfl (Or.inl rfl))
   (jj_ (zy_ (yh_ (K:=K) qh_ sc_ sd_ xp_ (pv 5) (ja_ (ju_ D_learnt_at hr.mo_ rfl (ja_ (pv 0) (ja_ (ji_ jo_ (pv 1) (pv 5)) (ja_ (pv 2) (ja_ (pv 6) (ja_ (pv 4) je_)))))) je_)))))
  (jj_ (j8_ (pv 5))))),?_⟩
 rw[show L2.ze_ ["words","patterns","number","most","cost","learnt","length"] [v,.ref ua,.int n,.int (m:Int),cV c]=[some (v),some (.ref ua),some (.int n),some (.int (m:Int)),some (cV c),none,none] from rfl]
 walk_at "go"
 intro r hr0
 have s1:=jd_ hr0 (.lst [])
 walk_at "go"
 refine za_ (fun i σ H'=>∃(v6:Option V) (zs:List V) (ps:List Pat),σ=[some v,some (.ref ua),some (.int n),some (.int (m:Int)),some (cV c),some (.ref r),v6]/\H' r=some (.lst zs)/\L2.IsL H' zs (ps.map patD)/\LV ws xs n c i ps/\Same H H')
  ⟨none,[],[],rfl,jb_,(by simp[L2.IsL]),rfl,s1⟩ ?_ ?_
 ·rintro i σ Ha hi ⟨v6,zs,ps,rfl,er,hzs,hlv,sa⟩
  have hi:i < m:=by omega
  have hzl:=hzs.length
  rw[pb_] at hzl
  have hpl:=jao_ (fun x hx=>(hws x hx).2) hlv
  have hp2:gN ws * 9 * min i 9<=gN ws * 9 * 9:=rs_ _ (by omega)
  have eua:=sa _ _ hua
  walk_at "go"
  refine xh_ eua er (szn (by omega)) fun t ht=>?_
  have st:=jd_ ht (.lst (ya++zs))
  have et:=jb_ (H:=Ha) (a:=t) (o:=.lst (ya++zs))
  generalize upd Ha t (.lst (ya++zs))=Hb at st et ⊢
  have sb:=sa.trans st
  walk_at "go"
  refine⟨v,.ref t,ws,xs++ps,n,i+1,c,by rw[show (1:Int)+(i:Int)=((i+1:Nat):Int) by omega];rfl,Is.same sb hv,?_,fun x hx=>?_,by rw[pd_];omega,fun x hx=>⟨(hws x hx).1,by have:=(hws x hx).2;omega⟩,hwl,hn0,hn1,by omega,hc,fun r2 z2 p2 Hc hr2 er2 hz2 hla sc=>?_⟩
  ·simp only[Is,zj_]
   refine⟨t,_,rfl,et,?_⟩
   rw[pn_]
   exact IsL.append (IsL.same sb hya) (IsL.same st hzs)
  ·rcases pr_.mp hx with h | h
   ·exact hxs x h
   ·exact jcv_ hlv (by omega) x h
  have hlv2:LV ws xs n c (i+1) (ps++p2):=⟨ps,p2,hlv,hla,rfl⟩
  have hpl2:=jao_ (fun x hx=>(hws x hx).2) hlv2
  have hp3:gN ws * 9 * min (i+1) 9<=gN ws * 9 * 9:=rs_ _ (by omega)
  have hz2l:=hz2.length
  rw[pb_] at hz2l
  rw[pd_] at hpl2
  have erc:=sc _ _ (st _ _ er)
  walk_at "go"
  refine jdr_ erc er2 (szn (by omega)) ?_
  walk_at "go"
  have k4:Tk Hc (upd Hc r (.lst (zs++z2))):=Tk.lst erc _
  refine⟨_,zs++z2,ps++p2,rfl,jb_,?_,hlv2,fun b o e=>?_⟩
  ·rw[pn_]
   exact IsL.append (IsL.tk k4 (zg_ _) (IsL.same (st.trans sc) hzs)) (IsL.tk k4 (zg_ _) hz2)
  ·rw[jg_ (jh_ e hr0)];exact sc _ _ (sb _ _ e)
 ·rintro σ Ha ⟨v6,zs,ps,rfl,er,hzs,hlv,sa⟩
  rw[show ((m:Int)+1 - 1).toNat=m by omega] at hlv
  walk_at "go"
  exact q r zs ps Ha hr0 er hzs hlv sa
end
abbrev s_law_level:Stmt:=top 22
theorem sc_law_level:FnScope ["_law_words_here","_law_patterns","_law_number","_law_most","_law_cost","_law_learnt","_law_length","_law_counts_here","_law_some","_law_signs","_law_place","_law_good","_law_bad","_law_dear"] ["_law_words_here","_law_patterns","_law_number","_law_most","_law_cost"] (jm_ s_law_level):=by walk_at "f"
def okS (l:List Spot) (c:Option Int) (s:List Nat) (p:Nat):Bool:=decide (0 < cS l s p true)&&yl_ (cS l s p true:Int) (cS l s p false:Int) c
structure DE (H:Hp) (l:List Spot) (n:Int) (L:Nat) (c:Option Int) (ps:List (Addr×PKey)) (ks:List VKey):Prop where
 at_:∀ q∈ps,patKind.at_ H q.2 q.1
 nd:(ps.map (·.2)).Nodup
 mem:∀ k,k∈ps.map (·.2)↔∃ s p,vk s p∈ks/\okS l c s p=true/\k=pk (s,one n p L)
 len:ps.length<=ks.length
theorem DE.nil {H:Hp} {l:List Spot} {n:Int} {L:Nat} {c:Option Int}:DE H l n L c [] []:=⟨fun q hq=>(nomatch hq),by simp,fun k=>by simp,pk_ _⟩
theorem DE.tk {H H':Hp} {l:List Spot} {n:Int} {L:Nat} {c:Option Int} {ps:List (Addr×PKey)} {ks:List VKey} (h:DE H l n L c ps ks) (s:∀ b xs,H b=some (.tup xs)->H' b=some (.tup xs)):DE H' l n L c ps ks:=⟨fun q hq=>xw_ s (h.at_ q hq),h.nd,h.mem,h.len⟩
theorem DE.skip {H:Hp} {l:List Spot} {n:Int} {L:Nat} {c:Option Int} {ps:List (Addr×PKey)} {ks:List VKey} (h:DE H l n L c ps ks) {s:List Nat} {p:Nat} (hs:okS l c s p=false):DE H l n L c ps (ks++[vk s p]):=by
 refine⟨h.at_,h.nd,fun k=>?_,by have:=h.len;rw[pd_];omega⟩
 rw[h.mem]
 constructor
 ·rintro⟨s',p',h1,h2,h3⟩;exact⟨s',p',qq_ _ h1,h2,h3⟩
 ·rintro⟨s',p',h1,h2,h3⟩
  rcases pr_.mp h1 with q | q
  ·exact⟨s',p',q,h2,h3⟩
  ·obtain⟨rfl,rfl⟩:=v2_ (rk_.mp q)
   rw[hs] at h2;cases h2
theorem DE.add {H:Hp} {l:List Spot} {n:Int} {L:Nat} {c:Option Int} {ps:List (Addr×PKey)} {ks:List VKey} (h:DE H l n L c ps ks) (hn:n≠0) {s:List Nat} {p:Nat} (hs:okS l c s p=true) (hk:vk s p∉ks) (hp:p<=L) (hks:∀ s' p',vk s' p'∈ks->p'<=L) {a:Addr} (ha:patKind.at_ H (pk (s,one n p L)) a):DE H l n L c (ps++[(a,pk (s,one n p L))]) (ks++[vk s p]):=by
 refine⟨fun q hq=>?_,?_,fun k=>?_,by have:=h.len;rw[pd_,pd_];simp;omega⟩
 ·rcases pr_.mp hq with q' | q'
  ·exact h.at_ q q'
  ·rw[rk_.mp q'];exact ha
 ·rw[pn_]
  refine su_.mpr ⟨h.nd,by simp,fun x hx y hy z=>?_⟩
  have hy:y=pk (s,one n p L):=by simpa using hy
  rw[z,hy] at hx
  obtain⟨s',p',h1,h2,h3⟩:=(h.mem _).mp hx
  have e:=x8_ h3
  injection e with e1 e2
  have e3:=uv_ hn hp (hks _ _ h1) e2
  rw[<- e1,<- e3] at h1
  exact hk h1
 ·rw[pn_,pr_,h.mem]
  constructor
  ·rintro(⟨s',p',h1,h2,h3⟩ | q)
   ·exact⟨s',p',qq_ _ h1,h2,h3⟩
   ·exact⟨s,p,by simp,hs,by simpa using q⟩
  ·rintro⟨s',p',h1,h2,h3⟩
   rcases pr_.mp h1 with q | q
   ·exact .inl ⟨s',p',q,h2,h3⟩
   ·obtain⟨rfl,rfl⟩:=v2_ (rk_.mp q)
    exact .inr (by simp[h3])
theorem jkc_ {n:Int} {p L:Nat} (hp:p<=L):((pt_ (L+1)).map fun k=>if k=p then n else 0)=one n p L:=by
 apply wr_
 intro i
 by_cases hi:i<=L
 ·rw[jdi_ hp hi,pl_,List.getElem?_range (by omega)];rfl
 ·rw[r1_ (by rw[pb_,qk_];omega),r1_ (by simp only[one,pd_,q7_,p3_,sb_];omega)]
theorem jpw_ (l:List Spot) (s:List Nat) (p:Nat) (g:Bool):cS l s p g<=l.length:=q1_ _ _
theorem jbb_ {xs:List Pat} {n:Int} {L:Nat} (hL:L<=20):∀{l:List Pat},(∀ x∈l,x.1.length<=20)->(zp_ xs n L l).length<=l.length * 483
 | [],_=>by simp[zp_]
 | x::l,h=>by
  have ih:=jbb_ (xs:=xs) (n:=n) hL (l:=l) fun y hy=>h y (pm_ _ hy)
  have hx:=h x po_
  have h3:=y2_ (yo_ xs n L x) (L+1) (vy_ xs n L x) (pt_ ((frame x.1).length+1 - L))
  rw[qk_,j0_] at h3
  have h4:(x.1.length+2+1 - L) * (L+1)<=23 * 21:=tr_ (by omega) (by omega)
  have h6:(ub_ xs n L x).length<=483:=by unfold ub_;rw[j0_];omega
  unfold zp_ at ih ⊢
  rw[ql_,pd_,p3_,rp_]
  omega
section
variable {P:Program} {w:World} {K:pc_} {mg:Str->Option Value} {base:Heap} {f:Addr} {fd:FuncData} {tk:Nat->Tok}
theorem jct_ (T:Txt mg tk) (F:Fun K "_law_level" "_law_level" s_law_level f fd) (D_law_counts:Dn P w K mg base "_law_counts" 2 ["_law_words_here","_law_patterns","_law_number","_law_length"] (spLC P w)):FnOk P w K mg base CX0 3 f fd ["_law_words_here","_law_patterns","_law_number","_law_most","_law_cost"] xx_:=by
 refine F.ok sc_law_level (fun vs H Q E h=>?_) (fun cdv A outer s H vs Q E hr h=>?_)
 ·obtain⟨v,u,ws,xs,n,m,c,rfl,_⟩:=h
  rfl
 obtain⟨v,u,ws,xs,n,m,c,rfl,hv,hu,hxs,hxl,hws,hwl,hnz,hn0,hn1,hm,hc,q⟩:=h
 have nd:=sc_law_level.nd
 obtain⟨ua,ya,rfl,hua,hya⟩:=u3_ hu
 have hyl:=hya.length
 rw[pb_] at hyl
 refine⟨_,(jf_ (jl_ (i:=5) nd rfl (Or.inl rfl) (j1_ je_))
  (jf_ (zd_ p4_ rfl (yx_ rfl T.z_range (ja_ jc_ (ja_ (ji_ jo_ (pv 3) jc_) je_))) (jk_ (i:=6) nd rfl (Or.inl rfl))
   (jf_ (jl_ (i:=7) nd rfl (Or.inl rfl) (ju_ D_law_counts hr.mo_ rfl (ja_ (pv 0) (ja_ (ji_ jo_ (pv 1) (pv 5)) (ja_ (pv 2) (ja_ (pv 6) je_))))))
  (jf_ (jl_ (i:=8) nd rfl (Or.inl rfl) (j1_ je_))
  (jf_ (jiu_ (zd_ p4_ rfl (jig_ (N:=jp_) (P:=P) (w:=w) rfl rfl (pv 7)) (yg_ rfl (jr_ (jk_ (i:=9) nd rfl (Or.inl rfl)) (jr_ (jk_ (i:=10) nd rfl (Or.inr rfl)) zu_)))
   (jf_ (jcq_ (jlp_ (N:=jp_) (P:=P) (w:=w) rfl rfl (x2_ hr) (pv 7) (ye_ (ja_ (pv 9) (ja_ (pv 10) je_))) (fun _ _=>rfl)) (yg_ rfl (jr_ (jk_ (i:=11) nd rfl (Or.inl rfl)) (jr_ (jk_ (i:=12) nd rfl (Or.inl rfl)) zu_))))
  (jf_ (jl_ (i:=13) nd rfl (Or.inl rfl) (zh_ o_gt (pv 12) jc_ (j3_ _)))
  (jf_ (x0_ (zi_ jnr_ (pv 4) jfp_ (j3_ _))
   (jj_ (jl_ (i:=13) nd rfl (Or.inl rfl) (zh_ o_gt (ji_ z5_ (pv 12) (pv 4)) (pv 11) (j3_ _))))
   z6_)
  (jj_ (x0_ (PW.pt (jml_ (zi_ o_gt (pv 11) jc_ (j3_ _)) (jid_ (jlt_ (jcx_ (pv 13) (fun _=>rfl))))))
   (jj_ (zy_ (yh_ (K:=K) qh_ rl_ rm_ yz_ (pv 8) (ja_ (ye_ (ja_ (pv 9) (ja_ (j9_ ur_ rfl T.z_tuple (by decide +kernel) (ja_ (zv_ ["_law_number","_law_place","_law_k"] [some 2,some 10,none] rfl (by kernel_rfl) rfl (zb_ rfl T.z_range (ja_ (ji_ jo_ (pv 6) jc_) je_)) (fun _ _ _ _=>(jk_ (i:=2) (show (["_law_number","_law_place","_law_k"]:List Str).Nodup by decide +kernel) rfl (Or.inl rfl) (Or.inr rfl))) (fun _ _ _ _=>y5_) (fun _ _ _ _=>(ji_ z5_ (pv 0) (j9_ jbl_ rfl T.z_int (by decide +kernel) (ja_ (zh_ (o_eq hr.units) (pv 2) (pv 1) (j3_ _)) je_))))) je_)) je_))) je_))))
   z6_)))))))
  (jj_ (jl_ (i:=5) nd rfl (Or.inl rfl) (ji_ jo_ (pv 5) (jq_ (jhl_ rfl (jgz_ hr)) rfl T.z_sorted (by decide +kernel) (ja_ (pv 8) je_)))))))))
  (jj_ (j8_ (pv 5))))),?_⟩
 rw[show L2.ze_ ["_law_words_here","_law_patterns","_law_number","_law_most","_law_cost","_law_learnt","_law_length","_law_counts_here","_law_some","_law_signs","_law_place","_law_good","_law_bad","_law_dear"] [v,.ref ua,.int n,.int (m:Int),cV c]=[some (v),some (.ref ua),some (.int n),some (.int (m:Int)),some (cV c),none,none,none,none,none,none,none,none,none] from rfl]
 walk_at "go"
 intro r0 hr0
 have s1:=jd_ hr0 (.lst [])
 walk_at "go"
 refine za_ (fun i σ H'=>∃(v6 v7 v8 v9 v10 v11 v12 v13:Option V) (r:Addr) (zs:List V) (ps:List Pat),σ=[some v,some (.ref ua),some (.int n),some (.int (m:Int)),some (cV c),some (.ref r),v6,v7,v8,v9,v10,v11,v12,v13]/\H r=none/\H' r=some (.lst zs)/\L2.IsL H' zs (ps.map patD)/\LV ws xs n c i ps/\Same H H')
  ⟨none,none,none,none,none,none,none,none,r0,[],[],rfl,hr0,jb_,(by simp[L2.IsL]),rfl,s1⟩ ?_ ?_
 ·rintro i σ Ha hi ⟨v6,v7,v8,v9,v10,v11,v12,v13,r,zs,ps,rfl,hrH,er,hzs,hlv,sa⟩
  have hi:i < m:=by omega
  have hzl:=hzs.length
  rw[pb_] at hzl
  have hpl:=jao_ (fun x hx=>(hws x hx).2) hlv
  have hp2:gN ws * 9 * min i 9<=gN ws * 9 * 9:=rs_ _ (by omega)
  have eua:=sa _ _ hua
  walk_at "go"
  refine xh_ eua er (szn (by omega)) fun t ht=>?_
  have st:=jd_ ht (.lst (ya++zs))
  have et:=jb_ (H:=Ha) (a:=t) (o:=.lst (ya++zs))
  generalize upd Ha t (.lst (ya++zs))=Hb at st et ⊢
  have sb:=sa.trans st
  walk_at "go"
  have hL0:(1:Int)+(i:Int)=((i+1:Nat):Int):=by omega
  rw[hL0]
  refine⟨v,.ref t,ws,xs++ps,n,i+1,rfl,Is.same sb hv,?_,fun x hx=>?_,by rw[pd_];omega,fun x hx=>⟨(hws x hx).1,by have:=(hws x hx).2;omega⟩,hwl,hn0,hn1,by omega,fun d kvs Hc hd ed ce sc=>?_⟩
  ·simp only[Is,zj_]
   refine⟨t,_,rfl,et,?_⟩
   rw[pn_]
   exact IsL.append (IsL.same sb hya) (IsL.same st hzs)
  ·rcases pr_.mp hx with h | h
   ·exact hxs x h
   ·exact jcv_ hlv (by omega) x h
  have s0c:=sb.trans sc
  have hsl:=jbb_ (xs:=xs++ps) (n:=n) (L:=i+1) (by omega) (l:=ws) fun x hx=>by have:=(hws x hx).2;omega
  have hlrn:=fun x=>jdf_ (xs++ps) ws (L:=i+1) (c:=c) hnz x
  have hsm:=fun e=>jix_ (xs:=xs++ps) (ws:=ws) (n:=n) (L:=i+1) (e:=e)
  have hdH:H d=none:=sb.free hd
  generalize zp_ (xs++ps) n (i+1) ws=l at ce hsl hlrn hsm
  have hsl:l.length<=4830:=by omega
  have hkl:=ce.len
  walk_at "go"
  intro so hso
  have sso:=jd_ hso (.lst [])
  have eso:=jb_ (H:=Hc) (a:=so) (o:=.lst [])
  generalize upd Hc so (.lst [])=Hd at sso eso ⊢
  have s0d:=s0c.trans sso
  have edd:=sso _ _ ed
  have ced:=ce.tk fun b xs e=>sso _ _ e
  have sod:so≠d:=fun z=>by rw[z,ed] at hso;cases hso
  have hsoH:H so=none:=s0c.free hso
  walk_at "go"
  refine jnk_ (N:=jp_) (P:=P) (w:=w) d kvs (fun o u z=>by have z':H d=some (.frz o u):=z;rw[hdH] at z';cases z') ?_
  walk_at "go"
  refine jhe_ ?_
  walk_at "go"
  refine⟨d,kvs,rfl,edd,ced.ko,fun ob=>?_⟩
  have edf:(upd Hd d (.frz ob (DX jp_ P w d kvs))) d=some (.frz ob (DX jp_ P w d kvs)):=jb_
  have kf:∀ b o,b≠d->Hd b=some o->(upd Hd d (.frz ob (DX jp_ P w d kvs))) b=some o:=fun b o a e=>by rw[jg_ a];exact e
  generalize upd Hd d (.frz ob (DX jp_ P w d kvs))=He at edf kf ⊢
  have tke:∀{H':Hp},(∀ b o,b≠d->b≠so->Hd b=some o->H' b=some o)->∀ b zs,Hd b=some (.tup zs)->H' b=some (.tup zs):=fun k b zs e=>k b _ (xk_ edd e) (fun z=>by rw[z,eso] at e;cases e) e
  refine jir_ (N:=jp_) (P:=P) (w:=w) (a:=d) (o:=ob) (kvs:=kvs) (fun j σ H'=>∃(v9 v10 v11 v12 v13:Option V) (qs:List (Addr×PKey)),σ=[some v,some (.ref ua),some (.int n),some (.int (m:Int)),some (cV c),some (.ref r),some (.int ((i+1:Nat):Int)),some (.ref d),some (.ref so),v9,v10,v11,v12,v13]/\H' d=some (.frz ob (DX jp_ P w d kvs))/\H' so=some (.lst (qs.map fun q=>V.ref q.1))/\DE H' l n (i+1) c qs ((kvs.take j).map (·.1))/\∀ b o,b≠d->b≠so->Hd b=some o->H' b=some o)
   ⟨_,_,_,_,_,[],rfl,edf,kf _ _ sod eso,by simpa using DE.nil,fun b o a _ e=>kf b o a e⟩ (fun j σ H' _ ⟨_,_,_,_,_,_,_,e,_⟩=>e) ?_ ?_
  ·rintro j kv σ Hf hkv ⟨v9,v10,v11,v12,v13,qs,rfl,e1,e2,e3,e4⟩
   have hj:j < kvs.length:=(ph_.mp hkv).1
   have cef:=ced.tk (tke e4)
   have hmk:kv.1∈kvs.map (·.1):=si_ (rn_ hkv)
   obtain⟨sp,hsp,hke⟩:=ced.mem _ hmk
   obtain⟨sg,p,gg⟩:=sp
   have hpL:p<=i+1:=(hsm _ hsp).2
   have hsgl:sg.length=i+1:=(hsm _ hsp).1
   have hko:=cef.ko kv (rn_ hkv)
   rw[hke] at hko
   have hkt:Hf kv.2.1=some (.tup [.str (S sg),.int (p:Int)]):=hko
   have htk:(kvs.take (j+1)).map (·.1)=(kvs.take j).map (·.1)++[vk sg p]:=by
    rw[qx_,hkv,pn_]
    show _++[kv.1]=_
    rw[hke]
   have hnew:vk sg p∉(kvs.take j).map (·.1):=fun z=>by
    have h1:=ced.nd
    rw[<- p1_ (j+1) kvs,pn_,htk] at h1
    have h2:=(su_.mp h1).1
    exact(su_.mp h2).2.2 _ z _ (by simp) rfl
   have hks:∀ s' p',vk s' p'∈(kvs.take j).map (·.1)->p'<=i+1:=fun s' p' z=>by
    obtain⟨e',he',q'⟩:=ced.mem (vk s' p') (by
     obtain⟨y,hy,hy2⟩:=pu_.mp z
     exact pu_.mpr ⟨y,pz_ hy,hy2⟩)
    have:=(hsm _ he').2
    obtain⟨_,rfl⟩:=v2_ q'
    exact this
   rw[htk]
   have hne:cS l sg p true+cS l sg p false≠0:=fun z=>by
    have:=cef.non sg p z
    exact(valX_mem.mp this) (hke▸hmk)
   obtain⟨tv,hv1,hv2⟩:=cef.val sg p hne
   have hqn:=e3.len
   rw[pb_,pq_] at hqn
   generalize (kvs.take j).map (·.1)=ks at e3 hnew hks ⊢
   refine yd_ hkt rfl (jy_ (j4_ (jy_ (j4_ (yf_ ?_)))))
   walk_at "go"
   refine jld_ ?_
   walk_at "go"
   intro kt hkt2
   have skt:=jd_ hkt2 (.tup [.str (S sg),.int (p:Int)])
   have ekt:=jb_ (H:=Hf) (a:=kt) (o:=.tup [.str (S sg),.int (p:Int)])
   generalize upd Hf kt (.tup [.str (S sg),.int (p:Int)])=Hg at skt ekt ⊢
   have ceg:=cef.tk fun b xs e=>skt _ _ e
   have e1g:=skt _ _ e1
   walk_at "go"
   refine⟨d,_,rfl,⟨kvs,vk sg p,kt,.inr ⟨ob,e1g⟩,ceg.ko,rfl,ekt,hv1.symm⟩,?_⟩
   have hv2g:=skt _ _ hv2
   refine yd_ hv2g rfl (jy_ (j4_ (jy_ (j4_ (yf_ ?_)))))
   have e2g:=skt _ _ e2
   have e3g:=e3.tk fun b xs e=>skt _ _ e
   have e4g:∀ b o,b≠d->b≠so->Hd b=some o->Hg b=some o:=fun b o a1 a2 e=>skt _ _ (e4 b o a1 a2 e)
   have hG:=jpw_ l sg p true
   have hB:=jpw_ l sg p false
   have hduo:okS l c sg p=(decide (0 < cS l sg p true)&&yl_ (cS l sg p true:Int) (cS l sg p false:Int) c):=rfl
   clear hv1 hv2 hv2g ceg cef ekt hkt hko hmk
   walk_at "go"
   generalize cS l sg p true=G at *
   generalize cS l sg p false=B at *
   rcases c with _ | k
   case' none =>
    simp only[cV]
    have hdear:decide (0 < (B:Int))=!(yl_ (G:Int) (B:Int) none):=by unfold yl_;by_cases h:B=0 <;> simp[h] <;> omega
    walk_at "go"
    rw[hdear]
   case' some =>
    have hk:=hc k rfl
    simp only[cV]
    have hdear:decide ((G:Int) < (B:Int) * k)=!(yl_ (G:Int) (B:Int) (some k)):=by unfold yl_;by_cases h:(B:Int) * k<=(G:Int) <;> simp[h] <;> omega
    try refine u2_ rfl ?_
    walk_at "go"
    rw[hdear]
   all_goals
    walk_at "go"
    by_cases hg0:0 < G
    ·refine u2_ (decide_eq_true (by omega)) ?_
     rw[decide_eq_true hg0,wy_] at hduo
     rw[<- hduo]
     cases hw:okS l _ sg p with
     | false =>
      walk_at "go"
      exact⟨_,_,_,_,_,qs,rfl,e1g,e2g,e3g.skip hw,e4g⟩
     | true =>
      walk_at "go"
      intro rc hrc
      refine zx_ (fun j acc σ H'=>∃(v:Option V),σ=[some (.int n),some (.int (p:Int)),v]/\acc=((pt_ j).map fun k=>if k=p then n else 0).map V.int/\H' rc=some (.lst acc)/\Same Hg H')
       ⟨none,rfl,rfl,jb_,jd_ hrc _⟩ (fun j acc σ H' ⟨_,_,e,e2,_⟩=>⟨e2,by rw[e,pb_,pb_,qk_];exact pk_ _⟩) (szn (by omega)) ?_ ?_
      ·rintro j acc σ Hh hj ⟨v0,rfl,rfl,ee,se⟩
       have h0j:(0:Int)+(j:Int)=(j:Int):=by omega
       walk_at "go"
       refine⟨ee,_,rfl,?_,jb_,fun b o q=>?_⟩
       ·rw[q2_,pn_,pn_]
        congr 1
        have:decide (V.int (0+(j:Int))=V.int (p:Int))=decide (j=p):=by
         by_cases h:j=p
         ·subst h;simp
         ·simp[h];omega
        rw[this]
        by_cases h:j=p
        ·simp[h]
        ·simp[h]
       ·rw[jg_ (jh_ q hrc)];exact se _ _ q
      ·rintro acc σ Hh ⟨v0,rfl,rfl,ee,se⟩
       rw[show (((i+1:Nat):Int)+1).toNat=i+1+1 by omega,jkc_ hpL] at ee
       walk_at "go"
       refine vf_ (j6_ ee) fun tn Hi etn sf=>?_
       walk_at "go"
       intro tp htp
       have sg2:=jd_ htp (.tup [.str (S sg),.ref tn])
       have etp:=jb_ (H:=Hi) (a:=tp) (o:=.tup [.str (S sg),.ref tn])
       generalize upd Hi tp (.tup [.str (S sg),.ref tn])=Hj at sg2 etp ⊢
       have sgj:Same Hg Hj:=(se.trans sf).trans sg2
       have hatp:patKind.at_ Hj (pk (sg,one n p (i+1))) tp:=⟨tn,etp,sg2 _ _ etn⟩
       have e1j:=sgj _ _ e1g
       have e2j:=sgj _ _ e2g
       have e3j:=e3g.tk fun b xs e=>sgj _ _ e
       have hszp:(qs.map fun q=>V.ref q.1).length < sizeLine:=szn (by rw[pb_];omega)
       walk_at "go"
       have tkh:Tk Hj (upd Hj so (.lst ((qs.map fun q=>V.ref q.1)++[.ref tp]))):=fun y zs' ey=>by
        rw[jg_ fun z=>by rw[z,e2j] at ey;cases ey];exact ey
       refine⟨_,_,_,_,_,qs++[(tp,pk (sg,one n p (i+1)))],rfl,(jg_ sod.symm).trans e1j,by rw[jb_,pn_];rfl,(e3j.add hnz hw hnew hpL hks hatp).tk tkh,fun b o a1 a2 e=>?_⟩
       rw[jg_ a2];exact sgj _ _ (e4g b o a1 a2 e)
    ·refine jbh_ (decide_eq_false (by omega)) ?_
     walk_at "go"
     exact⟨_,_,_,_,_,qs,rfl,e1g,e2g,e3g.skip (by rw[hduo,decide_eq_false hg0];rfl),e4g⟩
  ·rintro σ Hf ⟨v9,v10,v11,v12,v13,qs,rfl,e1,e2,e3,e4⟩
   refine⟨⟨ob,e1⟩,?_⟩
   rw[qa_] at e3
   have e2k:(upd Hf d (DX jp_ P w d kvs)) so=some (.lst (qs.map fun q=>V.ref q.1)):=(jg_ sod).trans e2
   have e3k:DE (upd Hf d (DX jp_ P w d kvs)) l n (i+1) c qs (kvs.map (·.1)):=e3.tk fun b zs e=>by rw[jg_ fun z=>by rw[z,e1] at e;cases e];exact e
   have e4k:∀ b o,b≠so->Hc b=some o->b≠d->(upd Hf d (DX jp_ P w d kvs)) b=some o:=fun b o a e a2=>by rw[jg_ a2];exact e4 b o a2 a (sso _ _ e)
   generalize upd Hf d (DX jp_ P w d kvs)=Hg at e2k e3k e4k ⊢
   have s0g:Same H Hg:=fun b o e=>e4k b o (jh_ e hsoH) (s0c _ _ e) (jh_ e hdH)
   have rso:r≠so:=fun z=>by rw[<- z,sc _ _ (st _ _ er)] at hso;cases hso
   have rd:r≠d:=fun z=>by rw[<- z,st _ _ er] at hd;cases hd
   have erg:Hg r=some (.lst zs):=e4k _ _ rso (sc _ _ (st _ _ er)) rd
   have hzsg:L2.IsL Hg zs (ps.map patD):=IsL.tk (fun b ys e=>e4k b _ (fun z=>by rw[z] at e;rw[(st.trans sc) _ _ e] at hso;cases hso) ((st.trans sc) _ _ e) (fun z=>by rw[z] at e;rw[st _ _ e] at hd;cases hd)) (zg_ _) hzs
   have hql:=e3k.len
   rw[pb_] at hql
   walk_at "go"
   refine jhm_ e2k e3k.at_ (by omega) fun rr q2 hrr hqp hqs=>?_
   have hqat:∀ p∈q2,Is Hg (.ref p.1) (patD (unpk p.2)):=fun p hp=>jhk_ (e3k.at_ p (hqp.mem_iff.mp hp))
   have hpk:(q2.map fun p=>unpk p.2).map pk=q2.map (·.2):=by
    rw[qu_]
    exact qp_ fun p _=>jcw_ p.2
   have hpm:(q2.map (·.2)).Perm (qs.map (·.2)):=hqp.map (·.2)
   have sr:=jd_ hrr (.lst (q2.map fun p=>V.ref p.1))
   have err:=jb_ (H:=Hg) (a:=rr) (o:=.lst (q2.map fun p=>V.ref p.1))
   have hbs:isLA (occs n (i+1) true (jz_ (xs++ps) ws)) (occs n (i+1) false (jz_ (xs++ps) ws)) c (q2.map fun p=>unpk p.2):=by
    refine⟨by rw[hpk];exact hqs,by rw[hpk];exact hpm.nodup_iff.mpr e3k.nd,fun x=>?_⟩
    have h1:x∈q2.map (fun p=>unpk p.2)↔pk x∈q2.map (·.2):=by
     rw[<- hpk,pu_,pu_]
     constructor
     ·rintro⟨p,hp,rfl⟩;exact⟨_,pu_.mpr ⟨p,hp,rfl⟩,rfl⟩
     ·rintro⟨y,hy,e⟩
      obtain⟨p,hp,rfl⟩:=pu_.mp hy
      exact⟨p,hp,x8_ e⟩
    rw[h1,hpm.mem_iff,e3k.mem,<- hlrn]
    constructor
    ·rintro⟨s',p',h2,h3,h4⟩
     obtain⟨e',he',q'⟩:=ced.mem _ h2
     have h5:=(hsm _ he').2
     obtain⟨_,hpe⟩:=v2_ q'
     unfold okS at h3
     rw[p2_] at h3
     exact⟨s',p',by omega,of_decide_eq_true h3.1,h3.2,x8_ h4⟩
    ·rintro⟨s',p',h2,h3,h4,h5⟩
     refine⟨s',p',?_,by unfold okS;rw[p2_];exact⟨decide_eq_true h3,h4⟩,by rw[h5]⟩
     obtain⟨t',ht',_⟩:=ced.val s' p' (by omega)
     exact Classical.byContradiction fun z=>by rw[valX_mem.mpr z] at ht';cases ht'
   have hlv2:LV ws xs n c (i+1) (ps++q2.map fun p=>unpk p.2):=⟨ps,_,hlv,hbs,rfl⟩
   have hzs2:L2.IsL (upd Hg rr (.lst (q2.map fun p=>V.ref p.1))) (q2.map fun p=>V.ref p.1) ((q2.map fun p=>unpk p.2).map patD):=IsL.same sr (v5_ hqat)
   have hq2l:q2.length=qs.length:=hqp.length_eq
   have erg2:=sr _ _ erg
   have hzsr:=IsL.same sr hzsg
   have s0r:=s0g.trans sr
   generalize upd Hg rr (.lst (q2.map fun p=>V.ref p.1))=Hh at sr err hzs2 erg2 hzsr s0r ⊢
   walk_at "go"
   refine xh_ erg2 err (szn (by rw[pb_];omega)) fun t3 ht3=>?_
   have st3:=jd_ ht3 (.lst (zs++q2.map fun p=>V.ref p.1))
   walk_at "go"
   refine⟨_,_,_,_,_,_,_,_,t3,_,_,rfl,s0r.free ht3,jb_,?_,hlv2,s0r.trans st3⟩
   rw[pn_]
   exact IsL.append (IsL.same st3 hzsr) (IsL.same st3 hzs2)
 ·rintro σ Ha ⟨v6,v7,v8,v9,v10,v11,v12,v13,r,zs,ps,rfl,hrH,er,hzs,hlv,sa⟩
  rw[show ((m:Int)+1 - 1).toNat=m by omega] at hlv
  walk_at "go"
  exact q r zs ps Ha hrH er hzs hlv sa
end
abbrev s_taught:Stmt:=top 15
theorem sc_taught:FnScope ["words","levels","learnt","number","bounds"] ["words","levels"] (jm_ s_taught):=by walk_at "f"
def cD:Option Int->Dt
 | none=>.non
 | some k=>.int k
def lvD (l:Nat×Option Int):Dt:=.tup [.int (l.1:Int),cD l.2]
def lvsD (ls:List (Nat×Option Int)):Dt:=.lst (ls.map lvD)
theorem isC {H:Hp} {v:V} {c:Option Int} (h:Is H v (cD c)):v=cV c:=by
 cases c with
 | none=>simpa only [Is,cD,cV] using h
 | some k=>simpa only [Is,cD,cV] using h
theorem jrz_ {H:Hp} (c:Option Int):Is H (cV c) (cD c):=by
 cases c with
 | none=>simp only[Is,cD,cV]
 | some k=>simp only[Is,cD,cV]
theorem isLv {H:Hp} {v:V} {l:Nat×Option Int} (h:Is H v (lvD l)):∃ a,v=.ref a/\H a=some (.tup [.int (l.1:Int),cV l.2]):=by
 simp only[Is,lvD] at h
 obtain⟨a,ys,rfl,ha,hy⟩:=h
 match ys,hy with
 | [y1,y2],hy =>
  simp only[L2.IsL] at hy
  obtain⟨h1,h2,_⟩:=hy
  simp only[Is] at h1
  have h2:=isC h2
  subst h1 h2
  exact⟨a,rfl,ha⟩
 | [],hy=>simp only[L2.IsL] at hy
 | [_],hy=>simp only[L2.IsL] at hy;exact hy.2.elim
 | _::_::_::_,hy=>simp only[L2.IsL] at hy;exact hy.2.2.elim
theorem jox_ {H:Hp} {a:Addr} {l:Nat×Option Int} (h:H a=some (.tup [.int (l.1:Int),cV l.2])):Is H (.ref a) (lvD l):=by
 simp only[Is,lvD]
 exact⟨a,_,rfl,h,by simp only[L2.IsL,Is];exact⟨trivial,jrz_ _,trivial⟩⟩
theorem jny_ (c:Option Int):y1_ (cD c)=true:=by cases c <;> rfl
theorem jez_ (l:Nat×Option Int):y1_ (lvD l)=true:=by
 simp only[lvD,y1_,zf_,jny_,t0_]
theorem jbz_:∀ ls:List (Nat×Option Int),zf_ (ls.map lvD)=true
 | []=>rfl
 | l::ls=>by rw[ps_];simp only[zf_,jez_,jbz_ ls,t0_]
def TL (ws:List Pat) (lvs:List (Nat×Option Int)):Nat->List Pat->Prop
 | 0,ps=>ps=[]
 | k+1,ps=>∃ as bs l,TL ws lvs k as/\lvs[k]?=some l/\LV ws as ((k+1:Nat):Int) l.2 l.1 bs/\ps=as++bs
theorem jli_ {ws:List Pat} {lvs:List (Nat×Option Int)}:∀{k:Nat} {a b:List Pat},TL ws lvs k a->TL ws lvs k b->a=b
 | 0,a,b,h1,h2=>by rw[show a=[] from h1,show b=[] from h2]
 | k+1,a,b,h1,h2=>by
  obtain⟨a1,a2,l1,p1,p2,p3,rfl⟩:=h1
  obtain⟨b1,b2,l2,q1,q2,q3,rfl⟩:=h2
  have e:=jli_ p1 q1
  subst e
  rw[p2] at q2
  cases q2
  rw[jlb_ p3 q3]
theorem jah_ {ws:List Pat} {lvs:List (Nat×Option Int)} (hw:∀ x∈ws,x.1.length<=7):∀{k:Nat} {a:List Pat},TL ws lvs k a->a.length<=k * (gN ws * 81)
 | 0,a,h1=>by rw[show a=[] from h1];exact qz_ _
 | k+1,a,h1=>by
  obtain⟨a1,a2,l1,p1,p2,p3,rfl⟩:=h1
  have ih:=jah_ hw p1
  have h2:=jao_ hw p3
  have h3:gN ws * 9 * min l1.1 9<=gN ws * 9 * 9:=rs_ _ (by omega)
  rw[pd_,rp_];omega
theorem jqt_ {ws:List Pat} {lvs:List (Nat×Option Int)} (hw:∀ x∈ws,∀ c∈x.1,c < 128):∀{k:Nat} {a:List Pat},TL ws lvs k a->∀ x∈a,∀ c∈x.1,c < 128
 | 0,a,h1,x,hx=>by rw[show a=[] from h1] at hx;cases hx
 | k+1,a,h1,x,hx=>by
  obtain⟨a1,a2,l1,p1,p2,p3,rfl⟩:=h1
  rcases pr_.mp hx with h | h
  ·exact jqt_ hw p1 x h
  ·exact jur_ p3 hw x h
theorem jdc_ {ws:List Pat} {lvs:List (Nat×Option Int)} (hl:∀ l∈lvs,l.1<=20):∀{k:Nat} {a:List Pat},TL ws lvs k a->∀ x∈a,1<=x.1.length/\x.1.length<=1000/\x.2.length<=x.1.length+1
 | 0,a,h1,x,hx=>by rw[show a=[] from h1] at hx;cases hx
 | k+1,a,h1,x,hx=>by
  obtain⟨a1,a2,l1,p1,p2,p3,rfl⟩:=h1
  rcases pr_.mp hx with h | h
  ·exact jdc_ hl p1 x h
  ·exact jcv_ p3 (by have:=hl l1 (rn_ p2);omega) x h
def LvOk (l:Nat×Option Int):Prop:=l.1<=20/\∀ k,l.2=some k->0<=k/\k<=1000000
def jae_:Sp:=fun vs H Q _=>∃(v u:V) (ws:List Pat) (lvs:List (Nat×Option Int)),vs=[v,u]/\Is H v (zj_ ws)/\Is H u (lvsD lvs)/\(∀ x∈ws,1<=x.1.length/\x.1.length<=7)/\ws.length<=10/\(∀ l∈lvs,LvOk l)/\lvs.length<=20/\lvs.length * (gN ws * 81)<=9000 /\
 ∀(r:Addr) (zs:List V) (ps:List Pat) (H':Hp),H r=none->H' r=some (.lst zs)->L2.IsL H' zs (ps.map patD)->TL ws lvs lvs.length ps->Same H H'->Q (.ref r) H'
section
variable {P:Program} {w:World} {K:pc_} {mg:Str->Option Value} {base:Heap} {f:Addr} {fd:FuncData} {tk:Nat->Tok}
theorem jjz_ (T:Txt mg tk) (F:Fun K "taught" "taught" s_taught f fd) (D_level:Dn P w K mg base "level" 7 ["words","patterns","number","most","cost"] xx_):FnOk P w K mg base CX0 8 f fd ["words","levels"] jae_:=by
 refine F.ok sc_taught (fun vs H Q E h=>?_) (fun cdv A outer s H vs Q E hr h=>?_)
 ·obtain⟨v,u,ws,lvs,rfl,_⟩:=h
  rfl
 obtain⟨v,u,ws,lvs,rfl,hv,hu,hws,hwl,hlv,hll,hlg,q⟩:=h
 have nd:=sc_taught.nd
 simp only[Is,lvsD] at hu
 obtain⟨ua,ya,rfl,hua,hya⟩:=hu
 have hyl:=hya.length
 rw[pb_] at hyl
 refine⟨_,(jf_ (jl_ (i:=2) nd rfl (Or.inl rfl) (j1_ je_))
  (jf_ (zd_ p4_ rfl (jaj_ rfl T.z_enumerate (pv 1) jc_) (yg_ rfl (jr_ (jk_ (i:=3) nd rfl (Or.inl rfl)) (jr_ (jk_ (i:=4) nd rfl (Or.inl rfl)) zu_)))
   (jj_ (zy_ (yh_ (K:=K) qh_ sc_ sd_ xp_ (pv 2) (ja_ (ju_ D_level hr.mo_ rfl (ja_ (pv 0) (ja_ (pv 2) (ja_ (pv 3) (ja_ (jv_ (jn_ (K:=K)) (pv 4) jc_ (fun _ _=>rfl)) (ja_ (jv_ (jn_ (K:=K)) (pv 4) jc_ (fun _ _=>rfl)) je_)))))) je_)))))
  (jj_ (j8_ (pv 2))))),?_⟩
 rw[show L2.ze_ ["words","levels","learnt","number","bounds"] [v,.ref ua]=[some (v),some (.ref ua),none,none,none] from rfl]
 walk_at "go"
 intro r hr0
 have s1:=jd_ hr0 (.lst [])
 have er1:=jb_ (H:=H) (a:=r) (o:=.lst [])
 have hua1:=s1 _ _ hua
 generalize upd H r (.lst [])=H1 at s1 er1 hua1 ⊢
 walk_at "go"
 refine⟨1,rfl,by decide,jlm_ hua1 ?_⟩
 refine jle_ (fun i σ H'=>∃(v3 v4:Option V) (zs:List V) (ps:List Pat),σ=[some v,some (.ref ua),some (.ref r),v3,v4]/\H' r=some (.lst zs)/\L2.IsL H' zs (ps.map patD)/\TL ws lvs i ps/\Same H H')
  ⟨none,none,[],[],rfl,er1,(by simp[L2.IsL]),rfl,s1⟩ (fun i σ H' _ ⟨_,_,_,_,_,_,_,_,s⟩=>s _ _ hua) ?_ ?_
 ·rintro i y σ Ha Tp hy ⟨v3,v4,zs,ps,rfl,er,hzs,htl,sa⟩ hTp
  have hi:i < lvs.length:=by have:=(ph_.mp hy).1;omega
  obtain⟨y',d,hy',hd1,hI⟩:=IsL.get hya (show i < (lvs.map lvD).length by simpa using hi)
  rw[hy] at hy'
  cases hy'
  rw[pl_,pa_ hi] at hd1
  cases hd1
  obtain⟨la,rfl,hla⟩:=isLv hI
  have hlo:=hlv _ (qf_ hi)
  have hgl:lvs[i]?=some lvs[i]:=pa_ hi
  generalize lvs[i]=lv at hla hlo hgl
  obtain⟨mo,co⟩:=lv
  have sT:=jd_ hTp (.tup [.int (((1:Nat):Int)+(i:Int)),.ref la])
  have eT:=jb_ (H:=Ha) (a:=Tp) (o:=.tup [.int (((1:Nat):Int)+(i:Int)),.ref la])
  have hzl:=hzs.length
  rw[pb_] at hzl
  have hpl:=jah_ (fun x hx=>(hws x hx).2) htl
  have hpl2:(i+1) * (gN ws * 81)<=lvs.length * (gN ws * 81):=sx_ _ hi
  rw[rp_] at hpl2
  refine yd_ (xs:=[.int (((1:Nat):Int)+(i:Int)),.ref la]) ?_ rfl (jy_ (j4_ (jy_ (j4_ (yf_ ?_)))))
  ·exact jb_
  have sb:=sa.trans sT
  have erb:=sT _ _ er
  have hzb:=IsL.same sT hzs
  have hlab:(upd Ha Tp (.tup [.int (((1:Nat):Int)+(i:Int)),.ref la])) la=some (.tup [.int (mo:Int),cV co]):=sb _ _ hla
  try (generalize hHb:upd Ha Tp (.tup [.int (((1:Nat):Int)+(i:Int)),.ref la])=Hb at sT sb erb hzb hlab eT ⊢)
  walk_at "go"
  have hn1:((1:Nat):Int)+(i:Int)=((i+1:Nat):Int):=by omega
  rw[hn1]
  refine⟨v,.ref r,ws,ps,((i+1:Nat):Int),mo,co,rfl,Is.same sb hv,by simp only[Is,zj_];exact⟨r,zs,rfl,erb,hzb⟩,jdc_ (fun l hl=>(hlv l hl).1) htl,by omega,hws,hwl,by omega,by omega,by omega,hlo.1,hlo.2,fun r2 z2 p2 Hc hr2 er2 hz2 hl2 sc=>?_⟩
  have htl2:TL ws lvs (i+1) (ps++p2):=⟨ps,p2,(mo,co),htl,hgl,hl2,rfl⟩
  have hpl3:=jah_ (fun x hx=>(hws x hx).2) htl2
  rw[pd_,rp_] at hpl3
  have hz2l:=hz2.length
  rw[pb_] at hz2l
  have erc:=sc _ _ erb
  walk_at "go"
  refine jdr_ erc er2 (szn (by omega)) ?_
  walk_at "go"
  have k4:Tk Hc (upd Hc r (.lst (zs++z2))):=Tk.lst erc _
  refine⟨_,_,zs++z2,ps++p2,rfl,jb_,?_,htl2,fun b o e=>?_⟩
  ·rw[pn_]
   exact IsL.append (IsL.tk k4 (zg_ _) (IsL.same sc hzb)) (IsL.tk k4 (zg_ _) hz2)
  ·rw[jg_ (jh_ e hr0)];exact sc _ _ (sb _ _ e)
 ·rintro σ Ha ⟨v3,v4,zs,ps,rfl,er,hzs,htl,sa⟩
  rw[hyl] at htl
  walk_at "go"
  exact q r zs ps Ha hr0 er hzs htl sa
end
abbrev s_law_levels:Stmt:=top 23
theorem sc_law_levels:FnScope ["_law_script","_law_at","_law_many","_law_levels_here","_law_k","_law_told"] ["_law_script","_law_at","_law_many"] (jm_ s_law_levels):=by walk_at "f"
def jgk_ (K:pc_):Sp:=fun vs H Q _=>∃(a:Addr) (ns:List Int) (k many:Nat),vs=[.ref a,.int (k:Int),.int (many:Int)]/\SqL K H a (ns.map V.int)/\k < 100/\many<=20 /\
 ∀(r:Addr) (ys:List V) (lvs:List (Nat×Option Int)) (H':Hp),H r=none->H' r=some (.lst ys)->L2.IsL H' ys (lvs.map lvD)->(∀ l∈lvs,LvOk l)->lvs.length=many->Same H H'->Q (.ref r) H'
theorem jol_ {i:Int} (h0:0<=i) (h1:i < 6):∃ c:Option Int,atI [V.int 1,V.int 2,V.int 3,V.int 4,V.int 1000,V.non] i=some (cV c)/\∀ k,c=some k->0<=k/\k<=1000000:=by
 obtain rfl | rfl | rfl | rfl | rfl | rfl:i=0∨i=1∨i=2∨i=3∨i=4∨i=5:=by omega
 ·exact⟨some 1,rfl,fun k e=>by cases e;omega⟩
 ·exact⟨some 2,rfl,fun k e=>by cases e;omega⟩
 ·exact⟨some 3,rfl,fun k e=>by cases e;omega⟩
 ·exact⟨some 4,rfl,fun k e=>by cases e;omega⟩
 ·exact⟨some 1000,rfl,fun k e=>by cases e;omega⟩
 ·exact⟨none,rfl,fun k e=>by cases e⟩
theorem jck_ {x y:V} (b:Bool):atI [x,y] (if b=true then 1 else 0)=some (if b=true then y else x):=by cases b <;> rfl
section
variable {P:Program} {w:World} {K:pc_} {mg:Str->Option Value} {base:Heap} {f:Addr} {fd:FuncData} {tk:Nat->Tok}
theorem jay_ (T:Txt mg tk) (F:Fun K "_law_levels" "_law_levels" s_law_levels f fd) (D_law_row:Dn P w K mg base "_law_row" 1 ["_law_script","_law_at","_law_bounds"] (jek_ K)):FnOk P w K mg base CX0 2 f fd ["_law_script","_law_at","_law_many"] (jgk_ K):=by
 refine F.ok sc_law_levels (fun vs H Q E h=>?_) (fun cdv A outer s H vs Q E hr h=>?_)
 ·obtain⟨a,ns,k,many,rfl,_⟩:=h
  rfl
 obtain⟨a,ns,k,many,rfl,hS,hk,hm,q⟩:=h
 have nd:=sc_law_levels.nd
 refine⟨_,(jf_ (jl_ (i:=3) nd rfl (Or.inl rfl) (j1_ je_))
  (jf_ (zd_ p4_ rfl (zb_ rfl T.z_range (ja_ (pv 2) je_)) (jk_ (i:=4) nd rfl (Or.inl rfl))
   (jf_ (jl_ (i:=5) nd rfl (Or.inl rfl) (ju_ D_law_row hr.mo_ rfl (ja_ (pv 0) (ja_ (ji_ jo_ (pv 1) (pv 4)) (ja_ (j1_ (ja_ jc_ (ja_ jc_ (ja_ jc_ (ja_ jc_ je_))))) je_)))))
  (jj_ (zy_ (yh_ (K:=K) qh_ rl_ rm_ yz_ (pv 3) (ja_ (ye_ (ja_ (jv_ (jn_ (K:=K)) (j1_ (ja_ (ji_ jo_ jc_ (jv_ (jn_ (K:=K)) (pv 5) jc_ (fun _ _=>rfl))) (ja_ (ji_ jo_ jc_ (jv_ (jn_ (K:=K)) (pv 5) jc_ (fun _ _=>rfl))) je_))) (j9_ jbl_ rfl T.z_int (by decide +kernel) (ja_ (zh_ (o_eq hr.units) (jv_ (jn_ (K:=K)) (pv 5) jc_ (fun _ _=>rfl)) jc_ (j3_ _)) je_)) (fun _ _=>rfl)) (ja_ (jv_ (jn_ (K:=K)) (j1_ (ja_ jc_ (ja_ jc_ (ja_ jc_ (ja_ jc_ (ja_ jc_ (ja_ jfp_ je_))))))) (jv_ (jn_ (K:=K)) (pv 5) jc_ (fun _ _=>rfl)) (fun _ _=>rfl)) je_))) je_))))))
  (jj_ (j8_ (pv 3))))),?_⟩
 rw[show L2.ze_ ["_law_script","_law_at","_law_many","_law_levels_here","_law_k","_law_told"] [.ref a,.int (k:Int),.int (many:Int)]=[some (.ref a),some (.int (k:Int)),some (.int (many:Int)),none,none,none] from rfl]
 walk_at "go"
 intro r hr0
 have s1:=jd_ hr0 (.lst [])
 walk_at "go"
 refine za_ (fun i σ H'=>∃(v4 v5:Option V) (ys:List V) (lvs:List (Nat×Option Int)),σ=[some (.ref a),some (.int (k:Int)),some (.int (many:Int)),some (.ref r),v4,v5]/\H' r=some (.lst ys)/\L2.IsL H' ys (lvs.map lvD)/\(∀ l∈lvs,LvOk l)/\lvs.length=i/\Same H H')
  ⟨none,none,[],[],rfl,jb_,(by simp[L2.IsL]),(fun x hx=>nomatch hx),rfl,s1⟩ ?_ ?_
 ·rintro i σ Ha hi ⟨v4,v5,ys,lvs,rfl,er,hys,hlo,hll,sa⟩
  have hyl:=hys.length
  rw[pb_] at hyl
  walk_at "go"
  intro p1 h1
  have sp1:=jd_ h1 (.lst [.int 5,.int 8,.int 14,.int 6])
  walk_at "go"
  refine⟨a,ns,k+i,p1,[5,8,14,6],by simp only[kd_,kh_];rfl,(sa.trans sp1).seq hS,by omega,jb_,by decide,by decide,fun r1 ds Hb hr1 e2 hdl hds sb=>?_⟩
  have sab:=sp1.trans sb
  obtain⟨x,y,z,u,rfl⟩:∃ x y z u,ds=[x,y,z,u]:=by
   match ds,hdl with
   | [x,y,z,u],_=>exact⟨x,y,z,u,rfl⟩
  obtain⟨hx0,hx1⟩:=hds 0 x 5 rfl rfl
  obtain⟨hz0,hz1⟩:=hds 2 z 14 rfl rfl
  obtain⟨hu0,hu1⟩:=hds 3 u 6 rfl rfl
  have e2:Hb r1=some (.lst [.int x,.int y,.int z,.int u]):=e2
  have erb:=sab _ _ er
  walk_at "go"
  intro p2 h2
  have sp2:=jd_ h2 (.lst [.int (1+x),.int (1+z)])
  have e2c:=sp2 _ _ e2
  walk_at "go"
  refine yu_ yt_ (jck_ _) ?_
  obtain⟨mo,hmo,hmo2⟩:∃ mo:Nat,(if decide (V.int y=V.int 5)=true then V.int (1+z) else V.int (1+x))=V.int (mo:Int)/\mo<=20:=by
   split
   ·exact⟨(1+z).toNat,by congr 1;omega,by omega⟩
   ·exact⟨(1+x).toNat,by congr 1;omega,by omega⟩
  rw[hmo]
  generalize upd Hb p2 (.lst [.int (1+x),.int (1+z)])=Hc at sp2 e2c ⊢
  walk_at "go"
  intro p3 h3
  have sp3:=jd_ h3 (.lst [.int 1,.int 2,.int 3,.int 4,.int 1000,.non])
  have e2d:=sp3 _ _ e2c
  walk_at "go"
  obtain⟨c,hc1,hc2⟩:=jol_ hu0 hu1
  refine yu_ yt_ hc1 ?_
  generalize upd Hc p3 (.lst [.int 1,.int 2,.int 3,.int 4,.int 1000,.non])=Hd at sp3 e2d ⊢
  walk_at "go"
  intro tp htp
  have stp:=jd_ htp (.tup [.int (mo:Int),cV c])
  have etp:=jb_ (H:=Hd) (a:=tp) (o:=.tup [.int (mo:Int),cV c])
  generalize upd Hd tp (.tup [.int (mo:Int),cV c])=He at stp etp ⊢
  have sae:=(sab.trans (sp2.trans sp3)).trans stp
  have ere:=sae _ _ er
  have hszp:ys.length < sizeLine:=szn (by omega)
  walk_at "go"
  have k4:Tk He (upd He r (.lst (ys++[.ref tp]))):=Tk.lst ere _
  refine⟨_,_,ys++[.ref tp],lvs++[(mo,c)],rfl,jb_,?_,fun l hl=>?_,by rw[pd_,hll];rfl,fun b o e=>?_⟩
  ·rw[pn_]
   exact IsL.snoc (IsL.tk k4 (jbz_ _) (IsL.same sae hys)) (Is.tk k4 (jez_ _) (jox_ (l:=(mo,c)) etp))
  ·rcases pr_.mp hl with h | h
   ·exact hlo l h
   ·rw[rk_.mp h];exact⟨hmo2,hc2⟩
  ·rw[jg_ (jh_ e hr0)];exact sae _ _ (sa _ _ e)
 ·rintro σ Ha ⟨v4,v5,ys,lvs,rfl,er,hys,hlo,hll,sa⟩
  walk_at "go"
  exact q r ys lvs Ha hr0 er hys hlo (by omega) sa
end
abbrev s_law:Stmt:=top 24
theorem sc_law:FnScope ["_law_script","_law_letters_here","_law_plan","_law_words_here","_law_levels_here","_law_due","_law_k","_law_handed","_law_turn","_law_found"] ["_law_script"] (jm_ s_law):=by walk_at "f"
theorem jpy_ {m:Nat}:∀{ws:List Pat},(∀ x∈ws,x.1.length<=m+1)->gN ws<=ws.length * m
 | [],_=>qz_ _
 | x::ws,h=>by
  have ih:=jpy_ (m:=m) (ws:=ws) fun y hy=>h y (pm_ _ hy)
  have hx:=h x po_
  unfold gN at ih ⊢
  rw[ps_,ss_,p3_,rp_];omega
theorem Lay.c {c:Option Int}:Lay 0 (cD c):=by cases c;exact Lay.non;exact Lay.int
theorem Lay.lvls {ls:List (Nat×Option Int)}:Lay 2 (lvsD ls):=Lay.lst fun d hd=>by
 obtain⟨x,hx,rfl⟩:=pu_.mp hd
 refine Lay.tup fun e he=>?_
 rcases p7_.mp he with h1 | h1
 ·rw[h1];exact Lay.int
 ·rw[rk_.mp h1];exact Lay.c
def jhy_ (K:pc_):Sp:=fun vs H Q _=>∃(a:Addr) (ns:List Int),vs=[.ref a]/\SqL K H a (ns.map V.int)/\ns.length<=63/\∀ H',Q (.bl true) H'
section
variable {P:Program} {w:World} {K:pc_} {mg:Str->Option Value} {base:Heap} {f:Addr} {fd:FuncData} {tk:Nat->Tok}
theorem jsj_ (T:Txt mg tk) (F:Fun K "law" "law" s_law f fd) (D_law_row:Dn P w K mg base "_law_row" 1 ["_law_script","_law_at","_law_bounds"] (jek_ K)) (D_law_letters:Dn P w K mg base "_law_letters" 1 ["_law_numbers"] jfo_) (D_law_words:Dn P w K mg base "_law_words" 2 ["_law_script","_law_at","_law_letters_here","_law_many","_law_longest"] (jcu_ K)) (D_law_levels:Dn P w K mg base "_law_levels" 2 ["_law_script","_law_at","_law_many"] (jgk_ K)) (D_law_level:Dn P w K mg base "_law_level" 3 ["_law_words_here","_law_patterns","_law_number","_law_most","_law_cost"] xx_) (D_taught:Dn P w K mg base "taught" 8 ["words","levels"] jae_):FnOk P w K mg base CX0 9 f fd ["_law_script"] (jhy_ K):=by
 refine F.ok sc_law (fun vs H Q E h=>?_) (fun cdv A outer s H vs Q E hr h=>?_)
 ·obtain⟨a,ns,rfl,_⟩:=h
  rfl
 obtain⟨a,ns,rfl,hS,hlen,q⟩:=h
 have nd:=sc_law.nd
 refine⟨_,(jf_ (jl_ (i:=1) nd rfl (Or.inl rfl) (ya_ (x1_ (K:=K)) (ju_ D_law_letters hr.mo_ rfl (ja_ (ju_ D_law_row hr.mo_ rfl (ja_ (pv 0) (ja_ jc_ (ja_ (j1_ (ja_ jc_ (ja_ jc_ (ja_ jc_ je_)))) je_)))) je_)) jnz_ (zn_ (jpu_ jql_ jc_))))
  (jf_ (jl_ (i:=2) nd rfl (Or.inl rfl) (ju_ D_law_row hr.mo_ rfl (ja_ (pv 0) (ja_ jc_ (ja_ (j1_ (ja_ jc_ (ja_ jc_ (ja_ jc_ je_)))) je_)))))
  (jf_ (jl_ (i:=3) nd rfl (Or.inl rfl) (ju_ D_law_words hr.mo_ rfl (ja_ (pv 0) (ja_ jc_ (ja_ (pv 1) (ja_ (jv_ (jn_ (K:=K)) (j1_ (ja_ (jv_ (jn_ (K:=K)) (pv 2) jc_ (fun _ _=>rfl)) (ja_ jc_ je_))) (j9_ jbl_ rfl T.z_int (by decide +kernel) (ja_ (zh_ (o_eq hr.units) (jv_ (jn_ (K:=K)) (pv 2) jc_ (fun _ _=>rfl)) jc_ (j3_ _)) je_)) (fun _ _=>rfl)) (ja_ (jv_ (jn_ (K:=K)) (j1_ (ja_ jc_ (ja_ jc_ je_))) (j9_ jbl_ rfl T.z_int (by decide +kernel) (ja_ (zh_ (o_eq hr.units) (jv_ (jn_ (K:=K)) (pv 2) jc_ (fun _ _=>rfl)) jc_ (j3_ _)) je_)) (fun _ _=>rfl)) je_)))))))
  (jf_ (jl_ (i:=4) nd rfl (Or.inl rfl) (ju_ D_law_levels hr.mo_ rfl (ja_ (pv 0) (ja_ jc_ (ja_ (jv_ (jn_ (K:=K)) (j1_ (ja_ (jv_ (jn_ (K:=K)) (pv 2) jc_ (fun _ _=>rfl)) (ja_ jc_ je_))) (j9_ jbl_ rfl T.z_int (by decide +kernel) (ja_ (zh_ (o_eq hr.units) (jv_ (jn_ (K:=K)) (pv 2) jc_ (fun _ _=>rfl)) jc_ (j3_ _)) je_)) (fun _ _=>rfl)) je_)))))
  (jf_ (jl_ (i:=5) nd rfl (Or.inl rfl) (j1_ je_))
  (jf_ (zd_ p4_ rfl (zb_ rfl T.z_range (ja_ (jq_ (z0_ (K:=K)) rfl T.z_len (by decide +kernel) (ja_ (pv 4) je_)) je_)) (jk_ (i:=6) nd rfl (Or.inl rfl))
   (jj_ (jl_ (i:=5) nd rfl (Or.inl rfl) (ji_ jo_ (pv 5) (ju_ D_law_level hr.mo_ rfl (ja_ (pv 3) (ja_ (pv 5) (ja_ (ji_ jo_ (pv 6) jc_) (ja_ (jv_ (jn_ (K:=K)) (jv_ (jn_ (K:=K)) (pv 4) (pv 6) (fun _ _=>rfl)) jc_ (fun _ _=>rfl)) (ja_ (jv_ (jn_ (K:=K)) (jv_ (jn_ (K:=K)) (pv 4) (pv 6) (fun _ _=>rfl)) jc_ (fun _ _=>rfl)) je_))))))))))
  (jf_ (jl_ (i:=7) nd rfl (Or.inl rfl) (j1_ (ja_ (j9_ jkf_ rfl T.z_list (by decide +kernel) (ja_ (pv 3) je_)) (ja_ (j9_ jkf_ rfl T.z_list (by decide +kernel) (ja_ (pv 4) je_)) je_))))
  (jf_ (zd_ p4_ rfl (zb_ rfl T.z_range (ja_ jc_ je_)) (jk_ (i:=8) nd rfl (Or.inl rfl))
   (jf_ (jl_ (i:=9) nd rfl (Or.inl rfl) (ju_ D_taught hr.mo_ rfl (ja_ (jv_ (jn_ (K:=K)) (pv 7) jc_ (fun _ _=>rfl)) (ja_ (jv_ (jn_ (K:=K)) (pv 7) jc_ (fun _ _=>rfl)) je_))))
  (jf_ (x0_ (PW.pt (jqc_ (jlt_ (jcx_ (jq_ jdh_ rfl T.z_isinstance (by decide +kernel) (ja_ (pv 9) (ja_ (jou_ (v:=.ty "list") rfl T.z_list (by decide +kernel) rfl) je_))) (fun _=>rfl))) (jqc_ (zi_ (o_ne hr.units) (pv 9) (pv 5) (j3_ _)) (jsd_ (zi_ (o_ne hr.units) (pv 7) (j1_ (ja_ (pv 3) (ja_ (pv 4) je_))) (j3_ _))))))
   (jj_ (j8_ jqa_))
   z6_)
  (jj_ (zy_ (joc_ (K:=K) qh_ PySem.F.slot_list_clear PySem.F.type_list_clear jpg_ (pv 9)))))))
  (jj_ (j8_ jqa_)))))))))),?_⟩
 rw[show L2.ze_ ["_law_script","_law_letters_here","_law_plan","_law_words_here","_law_levels_here","_law_due","_law_k","_law_handed","_law_turn","_law_found"] [.ref a]=[some (.ref a),none,none,none,none,none,none,none,none,none] from rfl]
 walk_at "go"
 intro p1 h1
 have s1:=jd_ h1 (.lst [.int 26,.int 6,.int 3])
 walk_at "go"
 refine⟨a,ns,0,p1,[26,6,3],rfl,s1.seq hS,by decide,jb_,by decide,by decide,fun r1 ds H2 hr1 e2 hdl hds s2=>?_⟩
 have s02:=s1.trans s2
 obtain⟨x,y,z,rfl⟩:∃ x y z,ds=[x,y,z]:=by
  match ds,hdl with
  | [x,y,z],_=>exact⟨x,y,z,rfl⟩
 obtain⟨hx0,hx1⟩:=hds 0 x 26 rfl rfl
 obtain⟨hy0,hy1⟩:=hds 1 y 6 rfl rfl
 obtain⟨hz0,hz1⟩:=hds 2 z 3 rfl rfl
 walk_at "go"
 refine⟨r1,x,y,z,rfl,e2,hx0,hx1,hy0,hy1,hz0,hz1,fun r2 l H3 hr2 e3 hlw hl3 hl5 s3=>?_⟩
 have s03:=s02.trans s3
 walk_at "go"
 refine jhr_ (SqL.of e3) fun lt hlt=>?_
 rw[ut_,lets,vj_]
 have hcl:=jag_ l none (some (-1))
 have hsx:sx l.length l.length (some (-1))=l.length - 1:=by simp only[sx];rw[if_pos (by decide)];omega
 rw[hsx] at hcl
 have hcl:(cutA l none (some (-1))).length=l.length - 1:=hcl
 have hlo:=jnv_ hlw none (some (-1))
 generalize cutA l none (some (-1))=l' at hcl hlo ⊢
 have e4:(upd H3 lt (.lst (l'.map fun c=>V.str (S [c])))) lt=some (.lst (lets l')):=jb_
 have s04:=s03.trans (jd_ hlt (.lst (l'.map fun c=>V.str (S [c]))))
 generalize upd H3 lt (.lst (l'.map fun c=>V.str (S [c])))=H4 at e4 s04 ⊢
 clear e3 s3 s03 e2 s2 s02 hds hr2 hr1 hlt s1 h1
 walk_at "go"
 intro p5 h5
 have s5:=jd_ h5 (.lst [.int 4,.int 5,.int 8])
 walk_at "go"
 refine⟨a,ns,1,p5,[4,5,8],rfl,(s04.trans s5).seq hS,by decide,jb_,by decide,by decide,fun r5 ds H6 hr5 e6 hdl hds s6=>?_⟩
 have s46:=s5.trans s6
 have s06:=s04.trans s46
 obtain⟨m,n,n2,rfl⟩:∃ x y z,ds=[x,y,z]:=by
  match ds,hdl with
  | [x,y,z],_=>exact⟨x,y,z,rfl⟩
 obtain⟨hm0,hm1⟩:=hds 0 m 4 rfl rfl
 obtain⟨hn0,hn1⟩:=hds 1 n 5 rfl rfl
 have e46:=s46 _ _ e4
 have e6:H6 r5=some (.lst [.int m,.int n,.int n2]):=e6
 walk_at "go"
 intro q1 hq1
 have sq1:=jd_ hq1 (.lst [.int m,.int 6])
 have e6a:=sq1 _ _ e6
 walk_at "go"
 refine yu_ yt_ (jck_ _) ?_
 generalize upd H6 q1 (.lst [.int m,.int 6])=H6a at sq1 e6a ⊢
 walk_at "go"
 intro q2 hq2
 have sq2:=jd_ hq2 (.lst [.int 7,.int 4])
 have e6b:=sq2 _ _ e6a
 walk_at "go"
 refine yu_ yt_ (jck_ _) ?_
 generalize upd H6a q2 (.lst [.int 7,.int 4])=H6b at sq2 e6b ⊢
 obtain⟨many,lo,hmany,hlo2,hml,hl7,hl1,hm6⟩:∃ many lo:Nat,(if decide (V.int n2=V.int 5)=true then V.int 6 else V.int m)=V.int (many:Int)/\(if decide (V.int n2=V.int 5)=true then V.int 4 else V.int 7)=V.int (lo:Int)/\many * (lo - 1)<=18/\lo<=7/\1<=lo/\many<=6:=by
  split
  ·exact⟨6,4,rfl,rfl,by decide,by decide,by decide,by decide⟩
  ·exact⟨m.toNat,7,by congr 1;omega,rfl,by omega,by decide,by decide,by omega⟩
 rw[hmany,hlo2]
 have s66:=sq1.trans sq2
 have s06b:=s06.trans s66
 have e46b:=s66 _ _ e46
 walk_at "go"
 refine⟨a,ns,2,lt,l',many,lo,rfl,s06b.seq hS,by decide,e46b,hlo,by omega,by omega,by omega,hl1,hl7,fun wr ys ws H7 hwr e7 hys hws hwl s7=>?_⟩
 have s07:=s06b.trans s7
 have e67:=s7 _ _ e6b
 have hyl:=hys.length
 rw[pb_] at hyl
 walk_at "go"
 intro q3 hq3
 have sq3:=jd_ hq3 (.lst [.int n,.int 6])
 have e67a:=sq3 _ _ e67
 walk_at "go"
 refine yu_ yt_ (jck_ _) ?_
 generalize upd H7 q3 (.lst [.int n,.int 6])=H7a at sq3 e67a ⊢
 obtain⟨ml,hmlv,hml6⟩:∃ ml:Nat,(if decide (V.int n2=V.int 3)=true then V.int 6 else V.int n)=V.int (ml:Int)/\ml<=6:=by
  split
  ·exact⟨6,rfl,by decide⟩
  ·exact⟨n.toNat,by congr 1;omega,by omega⟩
 rw[hmlv]
 walk_at "go"
 refine⟨a,ns,10,ml,rfl,(s07.trans sq3).seq hS,by decide,by omega,fun lr yl lvs H8 hlr e8 hyl8 hlvo hlvl s8=>?_⟩
 have s78:=sq3.trans s8
 have s08:=s07.trans s78
 have e78:=s78 _ _ e7
 have hys8:=IsL.same s78 hys
 have isX:∀{H':Hp} {b:Addr},Same H8 H'->H' b=some (.lst yl)->Is H' (.ref b) (lvsD lvs):=fun{H' b} s e=>by
  simp only[Is,lvsD]
  exact⟨b,yl,rfl,e,IsL.same s hyl8⟩
 have isW:∀{H':Hp} {b:Addr},Same H8 H'->H' b=some (.lst ys)->Is H' (.ref b) (zj_ ws):=fun{H' b} s e=>by
  simp only[Is,zj_]
  exact⟨b,ys,rfl,e,IsL.same s hys8⟩
 have hcsw:∀ x∈ws,∀ c∈x.1,c < 128:=fun x hx=>jrp_ (hws x hx).1
 have hlw:∀ x∈ws,1<=x.1.length/\x.1.length<=7:=fun x hx=>by
  obtain⟨_,h2,h3,_⟩:=hws x hx
  exact⟨h2,by omega⟩
 have hgn:gN ws<=18:=by
  have h1:=jpy_ (m:=lo - 1) (ws:=ws) fun x hx=>by have:=(hws x hx).2.2.1;omega
  have h2:ws.length * (lo - 1)<=many * (lo - 1):=sx_ _ hwl
  omega
 have hlg:lvs.length * (gN ws * 81)<=9000:=by
  have:lvs.length * (gN ws * 81)<=6 * (18 * 81):=tr_ (by omega) (by omega)
  omega
 have hyll:=hyl8.length
 rw[pb_] at hyll
 clear e67 e46 s7 s46 s6 s5 s8 e7 hys hwr hr5 hds e4 sq1 sq2 sq3 e6a e6b e46b s66 s06b
 walk_at "go"
 intro d0 hd0
 have sd0:=jd_ hd0 (.lst [])
 have ed0:=jb_ (H:=H8) (a:=d0) (o:=.lst [])
 have e8d:=sd0 _ _ e8
 generalize upd H8 d0 (.lst [])=H9 at sd0 ed0 e8d ⊢
 walk_at "go"
 refine za_ (fun i σ H'=>∃(v6:Option V) (dr:Addr) (zs:List V) (ps:List Pat),σ=[some (.ref a),some (.ref lt),some (.ref r5),some (.ref wr),some (.ref lr),some (.ref dr),v6,none,none,none]/\H' dr=some (.lst zs)/\L2.IsL H' zs (ps.map patD)/\TL ws lvs i ps/\Same H8 H')
  ⟨none,d0,[],[],rfl,ed0,(by simp[L2.IsL]),rfl,sd0⟩ ?_ ?_
 ·rintro i σ Ha hi ⟨v6,dr,zs,ps,rfl,er,hzs,htl,sa⟩
  have hi:i < lvs.length:=by omega
  obtain⟨y',d,hy',hd1,hI⟩:=IsL.get hyl8 (show i < (lvs.map lvD).length by simpa using hi)
  rw[pl_,pa_ hi] at hd1
  cases hd1
  obtain⟨la,rfl,hla⟩:=isLv hI
  have hlo:=hlvo _ (qf_ hi)
  have hgl:lvs[i]?=some lvs[i]:=pa_ hi
  generalize lvs[i]=lv at hla hlo hgl
  obtain⟨mo,co⟩:=lv
  have hzl:=hzs.length
  rw[pb_] at hzl
  have hpl:=jah_ (fun x hx=>(hlw x hx).2) htl
  have hpl2:(i+1) * (gN ws * 81)<=lvs.length * (gN ws * 81):=sx_ _ hi
  rw[rp_] at hpl2
  have e8a:=sa _ _ e8
  have hlaa:Ha la=some (.tup [.int (mo:Int),cV co]):=sa _ _ hla
  have hat:atI yl (0+(i:Int))=some (.ref la):=z2_ (by omega) (by rw[show (0+(i:Int)).toNat=i by omega];exact hy')
  have h0i:(0:Int)+(i:Int)+1=((i+1:Nat):Int):=by omega
  walk_at "go"
  rw[h0i]
  refine⟨.ref wr,.ref dr,ws,ps,((i+1:Nat):Int),mo,co,rfl,isW sa (sa _ _ e78),by simp only[Is,zj_];exact⟨dr,zs,rfl,er,hzs⟩,jdc_ (fun l hl=>(hlvo l hl).1) htl,by omega,hlw,by omega,by omega,by omega,by omega,hlo.1,hlo.2,fun r2 z2 p2 Hc hr2 er2 hz2 hl2 sc=>?_⟩
  have htl2:TL ws lvs (i+1) (ps++p2):=⟨ps,p2,(mo,co),htl,hgl,hl2,rfl⟩
  have hpl3:=jah_ (fun x hx=>(hlw x hx).2) htl2
  rw[pd_,rp_] at hpl3
  have hz2l:=hz2.length
  rw[pb_] at hz2l
  have erc:=sc _ _ er
  walk_at "go"
  refine xh_ erc er2 (szn (by omega)) fun t3 ht3=>?_
  have st3:=jd_ ht3 (.lst (zs++z2))
  walk_at "go"
  refine⟨_,t3,_,_,rfl,jb_,?_,htl2,(sa.trans sc).trans st3⟩
  rw[pn_]
  exact IsL.append (IsL.same (sc.trans st3) hzs) (IsL.same st3 hz2)
 rintro σ H11 ⟨v6,dr,us,qs,rfl,edr,hus,htl,s811⟩
 rw[show (yl.length:Int).toNat=lvs.length by omega] at htl
 have e711:=s811 _ _ e78
 have e811:=s811 _ _ e8
 walk_at "go"
 refine jha_ (j6_ e711) fun hw hhw=>?_
 have sw:=jd_ hhw (.lst ys)
 have e812:=sw _ _ e811
 walk_at "go"
 refine jha_ (j6_ e812) fun hp hhp=>?_
 have sp:=jd_ hhp (.lst yl)
 walk_at "go"
 intro hn hhn
 have sn:=jd_ hhn (.lst [.ref hw,.ref hp])
 have s1113:=(sw.trans sp).trans sn
 have ehw:=sn _ _ (sp _ _ (jb_ (H:=H11) (a:=hw) (o:=.lst ys)))
 have ehp:=sn _ _ (jb_ (H:=upd H11 hw (.lst ys)) (a:=hp) (o:=.lst yl))
 have ehn:=jb_ (H:=upd (upd H11 hw (.lst ys)) hp (.lst yl)) (a:=hn) (o:=.lst [.ref hw,.ref hp])
 generalize upd (upd (upd H11 hw (.lst ys)) hp (.lst yl)) hn (.lst [.ref hw,.ref hp])=H13 at s1113 ehw ehp ehn ⊢
 have s813:=s811.trans s1113
 have edr13:=s1113 _ _ edr
 have hus13:=IsL.same s1113 hus
 have hqcs:=jqt_ hcsw htl
 clear s1113 sn sp sw e812 e811 e711 hhw hhp hhn
 walk_at "go"
 refine za_ (fun i σ H'=>∃(v6 v10 v11:Option V),σ=[some (.ref a),some (.ref lt),some (.ref r5),some (.ref wr),some (.ref lr),some (.ref dr),v6,some (.ref hn),v10,v11]/\Same H13 H')
  ⟨_,_,_,rfl,Same.refl _⟩ ?_ ?_
 ·rintro i σ H14 hi ⟨v6,v10,v11,rfl,s14⟩
  have ehn14:=s14 _ _ ehn
  have ehw14:=s14 _ _ ehw
  have ehp14:=s14 _ _ ehp
  have s814:=s813.trans s14
  walk_at "go"
  refine⟨.ref hw,.ref hp,ws,lvs,rfl,isW s814 ehw14,isX s814 ehp14,hlw,by omega,hlvo,by omega,hlg,fun fr zf ps H15 hfr efr izf hla s15=>?_⟩
  have hpq:ps=qs:=jli_ hla htl
  subst hpq
  have s1315:=s14.trans s15
  have s815:=s813.trans s1315
  walk_at "go"
  refine jpv_ (d:=.lst (ps.map patD)) (by simp only[Is];exact⟨fr,zf,rfl,efr,izf⟩) (by simp only[Is];exact⟨dr,us,rfl,s1315 _ _ edr13,IsL.same s1315 hus13⟩) ((Lay.pats hqcs).ok (by decide)) ?_
  walk_at "go"
  intro cp hcp
  have s16:=jd_ hcp (.lst [.ref wr,.ref lr])
  have ecp:=jb_ (H:=H15) (a:=cp) (o:=.lst [.ref wr,.ref lr])
  have s816:=s815.trans s16
  have s1316:=s1315.trans s16
  have efr16:=s16 _ _ efr
  have izf16:=IsL.same s16 izf
  generalize upd H15 cp (.lst [.ref wr,.ref lr])=H16 at s16 ecp s816 s1316 efr16 izf16 ⊢
  refine jpv_ (d:=.lst [zj_ ws,lvsD lvs]) ?_ ?_ ?_ ?_
  ·simp only[Is]
   exact⟨hn,_,rfl,s1316 _ _ ehn,by simp only[L2.IsL];exact⟨isW s816 (s1316 _ _ ehw),isX s816 (s1316 _ _ ehp),trivial⟩⟩
  ·simp only[Is]
   exact⟨cp,_,rfl,ecp,by simp only[L2.IsL];exact⟨isW s816 (s816 _ _ e78),isX s816 (s816 _ _ e8),trivial⟩⟩
  ·refine(Lay.lst (n:=3) fun d hd=>?_).ok (by decide)
   simp only[p7_,List.not_mem_nil,or_false] at hd
   rcases hd with rfl | rfl
   ·exact Lay.pats hcsw
   ·exact Lay.mono Lay.lvls (by decide)
  walk_at "go"
  refine jsx_ efr16 ?_
  walk_at "go"
  refine⟨_,_,_,rfl,fun b' o e=>?_⟩
  have hb1:b'≠fr:=fun z=>by rw[z,s14.free hfr] at e;cases e
  rw[jg_ hb1];exact s1316 _ _ e
 ·rintro σ H14 ⟨v6,v10,v11,rfl,s14⟩
  walk_at "go"
  exact q H14
end
def FuE (K:pc_) (x qual:Str) (st:Stmt) (f:Addr):Prop:=∃ fd,Fun K x qual st f fd
theorem bn1 {α:Type} {P:List α->Prop} (h:∀ a,P [a]):∀ us:List α,us.length=1->P us
 | [a],_=>h a
theorem bn2 {α:Type} {P:List α->Prop} (h:∀ a b,P [a,b]):∀ us:List α,us.length=2->P us
 | [a,b],_=>h a b
theorem bn3 {α:Type} {P:List α->Prop} (h:∀ a b c,P [a,b,c]):∀ us:List α,us.length=3->P us
 | [a,b,c],_=>h a b c
theorem bn4 {α:Type} {P:List α->Prop} (h:∀ a b c d,P [a,b,c,d]):∀ us:List α,us.length=4->P us
 | [a,b,c,d],_=>h a b c d
theorem bn5 {α:Type} {P:List α->Prop} (h:∀ a b c d e,P [a,b,c,d,e]):∀ us:List α,us.length=5->P us
 | [a,b,c,d,e],_=>h a b c d e
theorem all_mk {l:ka_} {w:World} {K:pc_} {h:Heap} {mg:Str->Option Value} {fa f0 f1 f2 f3 f4 f5 f6 f7 f8 f9 f10 f11 f12 f13 f14 f15 f16 f17 f18 f19:Addr} (X:K.In h) (G:h.Ns mainGlobals mg) (hfa:mg "law"=some (.ref fa))
  (a0:px_ K mainGlobals "fitting_places"=some (some (.ref f0))) (F0:FuE K "fitting_places" "fitting_places" s_fitting_places f0)
  (a1:px_ K mainGlobals "values_by_fits"=some (some (.ref f1))) (F1:FuE K "values_by_fits" "values_by_fits" s_values_by_fits f1)
  (a2:px_ K mainGlobals "values"=some (some (.ref f2))) (F2:FuE K "values" "values" s_values f2)
  (a3:px_ K mainGlobals "breaks"=some (some (.ref f3))) (F3:FuE K "breaks" "breaks" s_breaks f3)
  (a4:px_ K mainGlobals "seen_gaps"=some (some (.ref f4))) (F4:FuE K "seen_gaps" "seen_gaps" s_seen_gaps f4)
  (a5:px_ K mainGlobals "one_number"=some (some (.ref f5))) (F5:FuE K "one_number" "one_number" s_one_number f5)
  (a6:px_ K mainGlobals "candidates_at"=some (some (.ref f6))) (F6:FuE K "candidates_at" "candidates_at" s_candidates_at f6)
  (a7:px_ K mainGlobals "goods_and_bads"=some (some (.ref f7))) (F7:FuE K "goods_and_bads" "goods_and_bads" s_goods_and_bads f7)
  (a8:px_ K mainGlobals "is_worth"=some (some (.ref f8))) (F8:FuE K "is_worth" "is_worth" s_is_worth f8)
  (a9:px_ K mainGlobals "learnt_at"=some (some (.ref f9))) (F9:FuE K "learnt_at" "learnt_at" s_learnt_at f9)
  (a10:px_ K mainGlobals "_law_row"=some (some (.ref f10))) (F10:FuE K "_law_row" "_law_row" s_law_row f10)
  (a11:px_ K mainGlobals "_law_letters"=some (some (.ref f11))) (F11:FuE K "_law_letters" "_law_letters" s_law_letters f11)
  (a12:px_ K mainGlobals "_law_values"=some (some (.ref f12))) (F12:FuE K "_law_values" "_law_values" s_law_values f12)
  (a13:px_ K mainGlobals "_law_words"=some (some (.ref f13))) (F13:FuE K "_law_words" "_law_words" s_law_words f13)
  (a14:px_ K mainGlobals "level"=some (some (.ref f14))) (F14:FuE K "level" "level" s_level f14)
  (a15:px_ K mainGlobals "_law_counts"=some (some (.ref f15))) (F15:FuE K "_law_counts" "_law_counts" s_law_counts f15)
  (a16:px_ K mainGlobals "_law_level"=some (some (.ref f16))) (F16:FuE K "_law_level" "_law_level" s_law_level f16)
  (a17:px_ K mainGlobals "taught"=some (some (.ref f17))) (F17:FuE K "taught" "taught" s_taught f17)
  (a18:px_ K mainGlobals "_law_levels"=some (some (.ref f18))) (F18:FuE K "_law_levels" "_law_levels" s_law_levels f18)
  {od19 an19:Option Addr} {sl19:Array (Option Value)} {oc19 kV19 dc19 pm19 cd19 ct19:Value}
  (a19:px_ K mainGlobals "law"=some (some (.ref f19))) (l19:K.lookup f19=some ⟨oc19,od19,.func (so_ "law" "law" (xs_ s_law) (y3_ s_law) (jm_ s_law) .none kV19 dc19 pm19 an19 cd19 ct19),sl19⟩) (c_19:wg_ K cd19 "law"=true) (k19:sk_ K (.ref f19)=true)
  (z_len:px_ K mainGlobals "len"=some none)
  (z_all:px_ K mainGlobals "all"=some none)
  (z_range:px_ K mainGlobals "range"=some none)
  (z_enumerate:px_ K mainGlobals "enumerate"=some none)
  (z_isinstance:px_ K mainGlobals "isinstance"=some none)
  (z_tuple:px_ K mainGlobals "tuple"=some none)
  (z_list:px_ K mainGlobals "list"=some none)
  (z_bool:px_ K mainGlobals "bool"=some none)
  (z_str:px_ K mainGlobals "str"=some none)
  (z_int:px_ K mainGlobals "int"=some none)
  (z_max:px_ K mainGlobals "max"=some none)
  (z_min:px_ K mainGlobals "min"=some none)
  (z_sorted:px_ K mainGlobals "sorted"=some none)
  (z_any:px_ K mainGlobals "any"=some none)
  : ∃ fd:FuncData,(∀(s:Shared) (v:Value),BindsTo s fd ⟨[v],[]⟩ [("_law_script",v)])/\∀ base:Heap,K.In base->base.Ns mainGlobals mg->FnOk l.prog w K mg base CX0 9 fa fd ["_law_script"] (jhy_ K):=by
 have e:=hfa.symm.trans (qb_ X G a19)
 cases e
 have T:Txt mg (fun i=>([]:List Tok).getD i 0):=⟨qe_ X G z_len,qe_ X G z_all,qe_ X G z_range,qe_ X G z_enumerate,qe_ X G z_isinstance,qe_ X G z_tuple,qe_ X G z_list,qe_ X G z_bool,qe_ X G z_str,qe_ X G z_int,qe_ X G z_max,qe_ X G z_min,qe_ X G z_sorted,qe_ X G z_any⟩
 obtain⟨fd0,F_fitting_places⟩:=F0
 have b_fitting_places:=F_fitting_places.binds (ps:=["signs","framed"]) fun _ _ _ _ _ _=>bn2 fun _ _=>rfl
 have m_fitting_places:=qb_ X G a0
 obtain⟨fd1,F_values_by_fits⟩:=F1
 have b_values_by_fits:=F_values_by_fits.binds (ps:=["fits","word"]) fun _ _ _ _ _ _=>bn2 fun _ _=>rfl
 have m_values_by_fits:=qb_ X G a1
 obtain⟨fd2,F_values⟩:=F2
 have b_values:=F_values.binds (ps:=["patterns","word"]) fun _ _ _ _ _ _=>bn2 fun _ _=>rfl
 have m_values:=qb_ X G a2
 obtain⟨fd3,F_breaks⟩:=F3
 have b_breaks:=F_breaks.binds (ps:=["patterns","word"]) fun _ _ _ _ _ _=>bn2 fun _ _=>rfl
 have m_breaks:=qb_ X G a3
 obtain⟨fd4,F_seen_gaps⟩:=F4
 have b_seen_gaps:=F_seen_gaps.binds (ps:=["words","patterns"]) fun _ _ _ _ _ _=>bn2 fun _ _=>rfl
 have m_seen_gaps:=qb_ X G a4
 obtain⟨fd5,F_one_number⟩:=F5
 have b_one_number:=F_one_number.binds (ps:=["number","place","length"]) fun _ _ _ _ _ _=>bn3 fun _ _ _=>rfl
 have m_one_number:=qb_ X G a5
 obtain⟨fd6,F_candidates_at⟩:=F6
 have b_candidates_at:=F_candidates_at.binds (ps:=["word","gap","number","length"]) fun _ _ _ _ _ _=>bn4 fun _ _ _ _=>rfl
 have m_candidates_at:=qb_ X G a6
 obtain⟨fd7,F_goods_and_bads⟩:=F7
 have b_goods_and_bads:=F_goods_and_bads.binds (ps:=["words","patterns","number","length"]) fun _ _ _ _ _ _=>bn4 fun _ _ _ _=>rfl
 have m_goods_and_bads:=qb_ X G a7
 obtain⟨fd8,F_is_worth⟩:=F8
 have b_is_worth:=F_is_worth.binds (ps:=["good","bad","cost"]) fun _ _ _ _ _ _=>bn3 fun _ _ _=>rfl
 have m_is_worth:=qb_ X G a8
 obtain⟨fd9,F_learnt_at⟩:=F9
 have b_learnt_at:=F_learnt_at.binds (ps:=["words","patterns","number","length","cost"]) fun _ _ _ _ _ _=>bn5 fun _ _ _ _ _=>rfl
 have m_learnt_at:=qb_ X G a9
 obtain⟨fd10,F_law_row⟩:=F10
 have b_law_row:=F_law_row.binds (ps:=["_law_script","_law_at","_law_bounds"]) fun _ _ _ _ _ _=>bn3 fun _ _ _=>rfl
 have m_law_row:=qb_ X G a10
 obtain⟨fd11,F_law_letters⟩:=F11
 have b_law_letters:=F_law_letters.binds (ps:=["_law_numbers"]) fun _ _ _ _ _ _=>bn1 fun _=>rfl
 have m_law_letters:=qb_ X G a11
 obtain⟨fd12,F_law_values⟩:=F12
 have b_law_values:=F_law_values.binds (ps:=["_law_patterns","_law_word"]) fun _ _ _ _ _ _=>bn2 fun _ _=>rfl
 have m_law_values:=qb_ X G a12
 obtain⟨fd13,F_law_words⟩:=F13
 have b_law_words:=F_law_words.binds (ps:=["_law_script","_law_at","_law_letters_here","_law_many","_law_longest"]) fun _ _ _ _ _ _=>bn5 fun _ _ _ _ _=>rfl
 have m_law_words:=qb_ X G a13
 obtain⟨fd14,F_level⟩:=F14
 have b_level:=F_level.binds (ps:=["words","patterns","number","most","cost"]) fun _ _ _ _ _ _=>bn5 fun _ _ _ _ _=>rfl
 have m_level:=qb_ X G a14
 obtain⟨fd15,F_law_counts⟩:=F15
 have b_law_counts:=F_law_counts.binds (ps:=["_law_words_here","_law_patterns","_law_number","_law_length"]) fun _ _ _ _ _ _=>bn4 fun _ _ _ _=>rfl
 have m_law_counts:=qb_ X G a15
 obtain⟨fd16,F_law_level⟩:=F16
 have b_law_level:=F_law_level.binds (ps:=["_law_words_here","_law_patterns","_law_number","_law_most","_law_cost"]) fun _ _ _ _ _ _=>bn5 fun _ _ _ _ _=>rfl
 have m_law_level:=qb_ X G a16
 obtain⟨fd17,F_taught⟩:=F17
 have b_taught:=F_taught.binds (ps:=["words","levels"]) fun _ _ _ _ _ _=>bn2 fun _ _=>rfl
 have m_taught:=qb_ X G a17
 obtain⟨fd18,F_law_levels⟩:=F18
 have b_law_levels:=F_law_levels.binds (ps:=["_law_script","_law_at","_law_many"]) fun _ _ _ _ _ _=>bn3 fun _ _ _=>rfl
 have m_law_levels:=qb_ X G a18
 have F_law:=jmh_ (st:=s_law) l19 c_19 k19
 have b_law:=F_law.binds (ps:=["_law_script"]) fun _ _ _ _ _ _=>bn1 fun _=>rfl
 have m_law:=qb_ X G a19
 refine⟨so_ "law" "law" (xs_ s_law) (y3_ s_law) (jm_ s_law) .none kV19 dc19 pm19 an19 cd19 ct19,fun s v=>.of_eq rfl,fun base _ _=>?_⟩
 have D_fitting_places:Dn l.prog w K mg base "fitting_places" 1 ["signs","framed"] jla_:=⟨_,_,m_fitting_places,F_fitting_places.kp,b_fitting_places,vh_ T F_fitting_places⟩
 have D_values_by_fits:Dn l.prog w K mg base "values_by_fits" 1 ["fits","word"] u0_:=⟨_,_,m_values_by_fits,F_values_by_fits.kp,b_values_by_fits,vs_ T F_values_by_fits⟩
 have D_values:Dn l.prog w K mg base "values" 2 ["patterns","word"] yv_:=⟨_,_,m_values,F_values.kp,b_values,jjr_ T F_values D_fitting_places D_values_by_fits⟩
 have D_breaks:Dn l.prog w K mg base "breaks" 3 ["patterns","word"] jac_:=⟨_,_,m_breaks,F_breaks.kp,b_breaks,jje_ T F_breaks D_values⟩
 have D_seen_gaps:Dn l.prog w K mg base "seen_gaps" 4 ["words","patterns"] jgj_:=⟨_,_,m_seen_gaps,F_seen_gaps.kp,b_seen_gaps,jdo_ T F_seen_gaps D_breaks⟩
 have D_one_number:Dn l.prog w K mg base "one_number" 1 ["number","place","length"] jms_:=⟨_,_,m_one_number,F_one_number.kp,b_one_number,jar_ T F_one_number⟩
 have D_candidates_at:Dn l.prog w K mg base "candidates_at" 2 ["word","gap","number","length"] jge_:=⟨_,_,m_candidates_at,F_candidates_at.kp,b_candidates_at,v1_ T F_candidates_at D_one_number⟩
 have D_goods_and_bads:Dn l.prog w K mg base "goods_and_bads" 5 ["words","patterns","number","length"] (spGB l.prog w):=⟨_,_,m_goods_and_bads,F_goods_and_bads.kp,b_goods_and_bads,vc_ T F_goods_and_bads D_seen_gaps D_candidates_at⟩
 have D_is_worth:Dn l.prog w K mg base "is_worth" 1 ["good","bad","cost"] jdl_:=⟨_,_,m_is_worth,F_is_worth.kp,b_is_worth,jdw_ T F_is_worth⟩
 have D_learnt_at:Dn l.prog w K mg base "learnt_at" 6 ["words","patterns","number","length","cost"] spLA:=⟨_,_,m_learnt_at,F_learnt_at.kp,b_learnt_at,jcg_ T F_learnt_at D_goods_and_bads D_is_worth⟩
 have D_law_row:Dn l.prog w K mg base "_law_row" 1 ["_law_script","_law_at","_law_bounds"] (jek_ K):=⟨_,_,m_law_row,F_law_row.kp,b_law_row,jff_ T F_law_row⟩
 have D_law_letters:Dn l.prog w K mg base "_law_letters" 1 ["_law_numbers"] jfo_:=⟨_,_,m_law_letters,F_law_letters.kp,b_law_letters,u8_ T F_law_letters⟩
 have D_law_values:Dn l.prog w K mg base "_law_values" 1 ["_law_patterns","_law_word"] yv_:=⟨_,_,m_law_values,F_law_values.kp,b_law_values,jav_ T F_law_values⟩
 have D_law_words:Dn l.prog w K mg base "_law_words" 2 ["_law_script","_law_at","_law_letters_here","_law_many","_law_longest"] (jcu_ K):=⟨_,_,m_law_words,F_law_words.kp,b_law_words,jcp_ T F_law_words D_law_row⟩
 have D_level:Dn l.prog w K mg base "level" 7 ["words","patterns","number","most","cost"] xx_:=⟨_,_,m_level,F_level.kp,b_level,jme_ T F_level D_learnt_at⟩
 have D_law_counts:Dn l.prog w K mg base "_law_counts" 2 ["_law_words_here","_law_patterns","_law_number","_law_length"] (spLC l.prog w):=⟨_,_,m_law_counts,F_law_counts.kp,b_law_counts,jat_ T F_law_counts D_law_values⟩
 have D_law_level:Dn l.prog w K mg base "_law_level" 3 ["_law_words_here","_law_patterns","_law_number","_law_most","_law_cost"] xx_:=⟨_,_,m_law_level,F_law_level.kp,b_law_level,jct_ T F_law_level D_law_counts⟩
 have D_taught:Dn l.prog w K mg base "taught" 8 ["words","levels"] jae_:=⟨_,_,m_taught,F_taught.kp,b_taught,jjz_ T F_taught D_level⟩
 have D_law_levels:Dn l.prog w K mg base "_law_levels" 2 ["_law_script","_law_at","_law_many"] (jgk_ K):=⟨_,_,m_law_levels,F_law_levels.kp,b_law_levels,jay_ T F_law_levels D_law_row⟩
 exact jsj_ T F_law D_law_row D_law_letters D_law_words D_law_levels D_law_level D_taught
theorem walk {l:ka_} {q:Program} {loose:List Str} {XP:(Str->Option Value)->Heap->Prop} {YP:World->Heap->Prop} {d:DefRec} {K:Params->pc_} (hn:l.most=some 63) (hdf:d.params.defaults=[])
  (hY:∀(w:World) (h:Heap),YP w h->(K w.params).In h)
  (F:∀(w:World) (mg:Str->Option Value) (fa:Addr) (h:Heap),(K w.params).In h->h.Ns mainGlobals mg->mg d.name=some (.ref fa) ->
   ∃ fd:FuncData,(∀(s:Shared) (u:Value),BindsTo s fd ⟨[u],[]⟩ [("_law_script",u)])/\∀ base:Heap,(K w.params).In base->base.Ns mainGlobals mg->FnOk l.prog w (K w.params) mg base CX0 9 fa fd ["_law_script"] (jhy_ (K w.params))) :
  PySem.W.WalkO q loose XP YP l.row.toRowW d [] (fun f vs=>PySem.call f vs) :=
 L2.jho_ (n:=63) (k:=9) (x:="_law_script") (CX:=fun _=>CX0) (sp:=fun w=>jhy_ (K w.params)) hn (by decide) hdf ⟨rfl,by decide,by decide⟩ hY F (fun _ _ a ns hl _ hS=>⟨a,ns,rfl,hS,hl,fun _=>rfl⟩) fun _ _ _ _ _ z=>z
end K43
local macro_rules | `(tactic| walk_at "w")=>`(tactic| (refine' ⟨_,L2.jmh_ ?l ?c ?k⟩;(case l=>k_is);(case c=>k_is);(case k=>k_is)))
open PySem PySem.W PyProof.Rows
set_option maxRecDepth 100000 in
set_option maxHeartbeats 0 in
theorem PySem.Challenge.cw_breakwords_k43_taught_level_by_level_holds : PySem.Challenge.rw_breakwords_k43_taught_level_by_level.Holds := by
 w_on;o_law;k_head;(case hw=>w_witness2)
 k_fill
 refine K43.walk (l:=PySem.Challenge.rw_breakwords_k43_taught_level_by_level) rfl rfl (fun w h Y=>PySem.W.kIn_of Y) ?F
 case F =>
  intro w mg fa h KX G hmg
  refine' K43.all_mk KX G hmg ?a0 ?F0 ?a1 ?F1 ?a2 ?F2 ?a3 ?F3 ?a4 ?F4 ?a5 ?F5 ?a6 ?F6 ?a7 ?F7 ?a8 ?F8 ?a9 ?F9 ?a10 ?F10 ?a11 ?F11 ?a12 ?F12 ?a13 ?F13 ?a14 ?F14 ?a15 ?F15 ?a16 ?F16 ?a17 ?F17 ?a18 ?F18 ?a19 ?l19 ?c_19 ?k19 ?z_len ?z_all ?z_range ?z_enumerate ?z_isinstance ?z_tuple ?z_list ?z_bool ?z_str ?z_int ?z_max ?z_min ?z_sorted ?z_any
  case a0=>k_is
  case F0=>walk_at "w"
  case a1=>k_is
  case F1=>walk_at "w"
  case a2=>k_is
  case F2=>walk_at "w"
  case a3=>k_is
  case F3=>walk_at "w"
  case a4=>k_is
  case F4=>walk_at "w"
  case a5=>k_is
  case F5=>walk_at "w"
  case a6=>k_is
  case F6=>walk_at "w"
  case a7=>k_is
  case F7=>walk_at "w"
  case a8=>k_is
  case F8=>walk_at "w"
  case a9=>k_is
  case F9=>walk_at "w"
  case a10=>k_is
  case F10=>walk_at "w"
  case a11=>k_is
  case F11=>walk_at "w"
  case a12=>k_is
  case F12=>walk_at "w"
  case a13=>k_is
  case F13=>walk_at "w"
  case a14=>k_is
  case F14=>walk_at "w"
  case a15=>k_is
  case F15=>walk_at "w"
  case a16=>k_is
  case F16=>walk_at "w"
  case a17=>k_is
  case F17=>walk_at "w"
  case a18=>k_is
  case F18=>walk_at "w"
  case a19 | l19 | c_19 | k19 | z_len | z_all | z_range | z_enumerate | z_isinstance | z_tuple | z_list | z_bool | z_str | z_int | z_max | z_min | z_sorted | z_any=>k_is
#print axioms PySem.Challenge.cw_breakwords_k43_taught_level_by_level_holds
namespace K43
end K43
